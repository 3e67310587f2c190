/-
  The walk of the law NameCuts.
-/
import Derived.Test.YtpfbnbmpeaihjaaAwake
import Derived.Test.YtpfbnbmpeaihjaaRcut
set_option linter.unusedSimpArgs false
set_option linter.unusedVariables false
namespace Go.Proofs.Ytpfbnbmpeaihjaa
open Go.RowKit

set_option maxHeartbeats 1000000 in
set_option maxRecDepth 100000 in
/-- Two answers that are one. -/
theorem cuts_same (s c : ByteArray) (k z : Int) (hs : s.size ≤ 200) (C1 : Hid (∀ w, Calls Try.prog 12 #[.string s, .int .i64 k] w fun e w' => e = .returned (.tuple #[.string c, .int .i64 z]) ∧ Below w.heap.size w w'))
    (C2 : Hid (∀ w, Calls Try.prog 13 #[.string s, .int .i64 k] w fun e w' => e = .returned (.tuple #[.string c, .int .i64 z]) ∧ Below w.heap.size w w')) (w : World) :
    Calls Try.prog 4 #[.string s, .int .i64 k] w fun e w' => e = .returned (.bool true) ∧ Below w.heap.size w w' := by
  have t1 : decide ((200 : Int) < (s.size : Int)) = false := by simp; omega
  go_enter Try.func4, Try.ntmps4
  go_wp2_with fail
  refine (awake_any _).mono ?_
  rintro e w1 ⟨rfl, hb1⟩
  go_wp2_with fail
  refine (C1.out _).mono ?_
  rintro e w2 ⟨rfl, hb2⟩
  go_wp2_with fail
  refine (C2.out _).mono ?_
  rintro e w3 ⟨rfl, hb3⟩
  go_wp2_with fail
  go_ret
  exact ⟨ret_bool (by simp), chain2 (chain2 hb1 hb2) hb3⟩
theorem cuts_law (s : ByteArray) (k : Int) (hs : s.size ≤ 200) (w : World) :
    Calls Try.prog 4 #[.string s, .int .i64 k] w fun e w' => e = .returned (.bool true) ∧ Below w.heap.size w w' := by
  by_cases hk : k < 0 ∨ (s.size : Int) < k
  · exact cuts_same s _ k _ hs (Lib.hid (cut_out s k hk)) (Lib.hid (rcut_out s k hk)) w
  · obtain ⟨n, rfl⟩ : ∃ n : Nat, k = n := ⟨k.toNat, by omega⟩
    exact cuts_same s _ n _ hs (Lib.hid (cut_any s n (by omega) (by omega))) (Lib.hid (rcut_any s n (by omega) (by omega))) w
end Go.Proofs.Ytpfbnbmpeaihjaa
