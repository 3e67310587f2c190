/-
  The walk of RefEscapes.
-/
import Derived.Test.YtkaimohkdkdbmaaDoorDesc
import Derived.Test.YtkaimohkdkdbmaaDoorAwake
set_option linter.unusedSimpArgs false
set_option linter.unusedVariables false
namespace Go.Proofs.YtkaimohkdkdbmaaDoor
open Go.RowKit

set_option maxHeartbeats 4000000 in
set_option maxRecDepth 100000 in
theorem escapes_of (s x y : ByteArray) (w : World) (hs : s.size ≤ 300) (hV : Vars w)
    (C1 : Hid (∀ w, Calls Tryd.prog 12 #[.string s] w fun e w' => e = .returned (.string x) ∧ Below w.heap.size w w'))
    (C2 : Hid (∀ w, Calls Tryd.prog 13 #[.string s, .bool false] w fun e w' => e = .returned (.string x) ∧ w = w'))
    (C3 : Hid (∀ w, Calls Tryd.prog 14 #[.string s] w fun e w' => e = .returned (.string y) ∧ Below w.heap.size w w'))
    (C4 : Hid (∀ w, Calls Tryd.prog 13 #[.string s, .bool true] w fun e w' => e = .returned (.string y) ∧ w = w')) :
    Calls Tryd.prog 4 #[.string s] w fun e w' => e = .returned (.bool true) ∧ Below w.heap.size w w' := by
  have A := Lib.hid (awake_any w hV)
  have i8 : decide ((300 : Int) < (s.size : Int)) = false := by rw [decide_eq_false_iff_not]; omega
  have j8 : decide (300 < s.size) = false := by rw [decide_eq_false_iff_not]; omega
  clear hV
  go_enter Tryd.func4, Tryd.ntmps4
  go_wp2_with fail
  refine A.out.mono ?_
  rintro e w1 ⟨rfl, b1⟩
  go_wp2_with fail
  refine (C1.out _).mono ?_
  rintro e w2 ⟨rfl, c2⟩
  have b2 : Below w.heap.size w w2 := b1.trans (c2.mono b1.size)
  go_wp2_with fail
  refine (C2.out _).mono ?_
  rintro e w2' ⟨rfl, rfl⟩
  go_wp2_with fail
  refine (C3.out _).mono ?_
  rintro e w3 ⟨rfl, c3⟩
  have b3 : Below w.heap.size w w3 := b2.trans (c3.mono b2.size)
  go_wp2_with fail
  refine (C4.out _).mono ?_
  rintro e w3' ⟨rfl, rfl⟩
  clear c2 c3 b1 b2 C1 C2 C3 C4 A
  go_wp2
  go_ret
  exact ⟨rfl, b3⟩
theorem escapes_law (s : ByteArray) (w : World) (hs : s.size ≤ 300) (hV : Vars w) : Calls Tryd.prog 4 #[.string s] w fun e w' => e = .returned (.bool true) ∧ Below w.heap.size w w' :=
  escapes_of s _ _ w hs hV (Lib.hid fun w => esc_any s w (by omega)) (Lib.hid fun w => desc_any s false w (by omega)) (Lib.hid fun w => quote_any s w (by omega)) (Lib.hid fun w => desc_any s true w (by omega))
set_option maxHeartbeats 4000000 in
set_option maxRecDepth 100000 in
theorem escapes_long (s : ByteArray) (w : World) (h : 300 < s.size) (hm : s.size ≤ maxLen) (hV : Vars w) : Calls Tryd.prog 4 #[.string s] w fun e w' => e = .returned (.bool true) ∧ Below w.heap.size w w' := by
  unfold maxLen at hm
  have HV := Lib.hid hV
  have A := Lib.hid (awake_any w hV)
  have i8 : decide ((300 : Int) < (s.size : Int)) = true := by rw [decide_eq_true_eq]; omega
  have j8 : decide (300 < s.size) = true := by rw [decide_eq_true_eq]; omega
  clear hV h
  go_enter Tryd.func4, Tryd.ntmps4
  go_wp2_with fail
  refine A.out.mono ?_
  rintro e w1 ⟨rfl, b1⟩
  go_wp2_with fail
  refine (awake_any w1 (HV.out.keep b1 HV.out.1)).mono ?_
  rintro e w2 ⟨rfl, c2⟩
  go_wp2
  go_ret
  exact ⟨rfl, b1.trans (c2.mono b1.size)⟩
end Go.Proofs.YtkaimohkdkdbmaaDoor
