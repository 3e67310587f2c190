/-
  The walk of the law NameSplits.
-/
import Derived.Test.YtpfbnbmpeaihjaaAwake
import Derived.Test.YtpfbnbmpeaihjaaRsplit
set_option linter.unusedSimpArgs false
set_option linter.unusedVariables false
namespace Go.Proofs.Ytpfbnbmpeaihjaa
open Go.RowKit

set_option maxHeartbeats 1000000 in
set_option maxRecDepth 100000 in
theorem splits_law (s : ByteArray) (hs : s.size ≤ 200) (w : World) :
    Calls Try.prog 3 #[.string s] w fun e w' => e = .returned (.bool true) ∧ Below w.heap.size w w' := by
  have t1 : decide ((200 : Int) < (s.size : Int)) = false := by simp; omega
  have C1 := Lib.hid (split_any s (by omega))
  have C2 := Lib.hid (rsplit_any s (by omega))
  have C3 := Lib.hid (plain_any s)
  have C4 := Lib.hid (rplain_any s (by omega))
  generalize splitA s = R at *
  generalize pl (bl s) = d at *
  obtain ⟨a, b, c⟩ := R
  dsimp only at C1 C2
  go_enter Try.func3, Try.ntmps3
  go_wp2_with fail
  refine (awake_any _).mono ?_
  rintro e w1 ⟨rfl, hb1⟩
  go_wp2_with fail
  refine (C1.out _).mono ?_
  rintro e w2 ⟨rfl, hb2⟩
  go_wp2_with fail
  refine (C2.out _).mono ?_
  rintro e w3 ⟨rfl, hb3⟩
  go_wp2_with fail
  refine (C3.out _).mono ?_
  rintro e w4 ⟨rfl, hb4⟩
  go_wp2_with fail
  refine (C4.out _).mono ?_
  rintro e w5 ⟨rfl, hb5⟩
  go_wp2_with fail
  go_ret
  exact ⟨ret_bool (by simp), chain hb1 hb2 hb3 hb4 hb5⟩
end Go.Proofs.Ytpfbnbmpeaihjaa
