/-
  The walk of RefReads.
-/
import Derived.Test.YtkaimohkdkdbmaaDoorDRead
import Derived.Test.YtkaimohkdkdbmaaDoorAwake
set_option linter.unusedSimpArgs false
set_option linter.unusedVariables false
namespace Go.Proofs.YtkaimohkdkdbmaaDoor
open Go.RowKit

set_option maxHeartbeats 8000000 in
set_option maxRecDepth 100000 in
theorem reads_of (s a b : ByteArray) (m n er f : Int) (w : World) (hs : s.size ≤ 300) (hV : Vars w)
    (C1 : Hid (∀ w, Vars w → Calls Tryd.prog 9 #[.string s] w fun e w' => e = .returned (.tuple #[.string a, .int .i64 m, .int .i64 er]) ∧ Below w.heap.size w w'))
    (C2 : Hid (∀ w, Vars w → Calls Tryd.prog 10 #[.string s] w fun e w' => e = .returned (.tuple #[.string b, .int .i64 n, .int .i64 f]) ∧ Below w.heap.size w w'))
    (C3 : Hid (∀ w, Calls Tryd.prog 11 #[.string s, .bool false] w fun e w' => e = .returned (.tuple #[.string a, .int .i64 m, .int .i64 er]) ∧ Below w.heap.size w w'))
    (C4 : Hid (∀ w, Calls Tryd.prog 11 #[.string s, .bool true] w fun e w' => e = .returned (.tuple #[.string b, .int .i64 n, .int .i64 f]) ∧ Below w.heap.size w w')) :
    Calls Tryd.prog 3 #[.string s] w fun e w' => e = .returned (.bool true) ∧ Below w.heap.size w w' := by
  have HV := Lib.hid hV
  have i8 : decide ((300 : Int) < (s.size : Int)) = false := by rw [decide_eq_false_iff_not]; omega
  have j8 : decide (300 < s.size) = false := by rw [decide_eq_false_iff_not]; omega
  clear hV
  go_enter Tryd.func3, Tryd.ntmps3
  go_wp2_with fail
  refine (awake_any w HV.out).mono ?_
  rintro e w1 ⟨rfl, b1⟩
  go_wp2_with fail
  refine (C1.out _ (HV.out.keep b1 HV.out.1)).mono ?_
  rintro e w2 ⟨rfl, c2⟩
  have b2 : Below w.heap.size w w2 := b1.trans (c2.mono b1.size)
  clear c2 b1
  go_wp2_with fail
  refine (C2.out _ (HV.out.keep b2 HV.out.1)).mono ?_
  rintro e w3 ⟨rfl, c3⟩
  have b3 : Below w.heap.size w w3 := b2.trans (c3.mono b2.size)
  clear c3 b2
  go_wp2_with fail
  refine (C3.out _).mono ?_
  rintro e w4 ⟨rfl, c4⟩
  have b4 : Below w.heap.size w w4 := b3.trans (c4.mono b3.size)
  clear c4 b3
  go_wp2_with fail
  refine (C4.out _).mono ?_
  rintro e w5 ⟨rfl, c5⟩
  have b5 : Below w.heap.size w w5 := b4.trans (c5.mono b4.size)
  clear c5 b4 C1 C2 C3 C4
  go_wp2
  go_ret
  exact ⟨rfl, b5⟩
theorem reads_law (s : ByteArray) (w : World) (hs : s.size ≤ 300) (hV : Vars w) : Calls Tryd.prog 3 #[.string s] w fun e w' => e = .returned (.bool true) ∧ Below w.heap.size w w' :=
  reads_of s _ _ _ _ _ _ w hs hV (Lib.hid fun w hV => text_any s w (by omega) hV) (Lib.hid fun w hV => valu_any s w (by omega) hV) (Lib.hid fun w => dread_any s false w (by omega)) (Lib.hid fun w => dread_any s true w (by omega))
set_option maxHeartbeats 4000000 in
set_option maxRecDepth 100000 in
theorem reads_long (s : ByteArray) (w : World) (h : 300 < s.size) (hm : s.size ≤ maxLen) (hV : Vars w) : Calls Tryd.prog 3 #[.string s] w fun e w' => e = .returned (.bool true) ∧ Below w.heap.size w w' := by
  unfold maxLen at hm
  have HV := Lib.hid hV
  have i8 : decide ((300 : Int) < (s.size : Int)) = true := by rw [decide_eq_true_eq]; omega
  have j8 : decide (300 < s.size) = true := by rw [decide_eq_true_eq]; omega
  clear hV h
  go_enter Tryd.func3, Tryd.ntmps3
  go_wp2_with fail
  refine (awake_any w HV.out).mono ?_
  rintro e w1 ⟨rfl, b1⟩
  go_wp2_with fail
  refine (awake_any w1 (HV.out.keep b1 HV.out.1)).mono ?_
  rintro e w2 ⟨rfl, c2⟩
  go_wp2
  go_ret
  exact ⟨rfl, b1.trans (c2.mono b1.size)⟩
end Go.Proofs.YtkaimohkdkdbmaaDoor
