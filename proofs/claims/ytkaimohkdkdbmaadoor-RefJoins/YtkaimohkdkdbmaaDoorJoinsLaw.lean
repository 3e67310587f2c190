/-
  The walk of RefJoins.
-/
import Derived.Test.YtkaimohkdkdbmaaDoorPlainLaw
set_option linter.unusedSimpArgs false
set_option linter.unusedVariables false
namespace Go.Proofs.YtkaimohkdkdbmaaDoor
open Go.RowKit

/-- The first of the two tests' ways that asks no more. -/
def Out (s t : ByteArray) : Prop := 300 < s.size ∨ 300 < t.size ∨ (byts s).getD (s.size - 1) 0 = 13
theorem last_at (s : ByteArray) (m : Nat) (h : s.size = m + 1) : ((s[m]'(by omega)).toNat : Int) = (byts s).getD (s.size - 1) 0 := by
  rw [at_byt s m (by omega)]
  congr 1
  omega

set_option maxHeartbeats 4000000 in
set_option maxRecDepth 100000 in
theorem joins_out1 (s t : ByteArray) (w : World) (h : 300 < s.size) (hm : s.size ≤ maxLen) (hV : Vars w) : Calls Tryd.prog 6 #[.string s, .string t] w fun e w' => e = .returned (.bool true) ∧ Below w.heap.size w w' := by
  unfold maxLen at hm
  have HV := Lib.hid hV
  have i8 : decide ((300 : Int) < (s.size : Int)) = true := by rw [decide_eq_true_eq]; omega
  have j8 : decide (300 < s.size) = true := by rw [decide_eq_true_eq]; omega
  clear hV h
  go_enter Tryd.func6, Tryd.ntmps6
  go_wp2_with fail
  refine (awake_any w HV.out).mono ?_
  rintro e w1 ⟨rfl, b1⟩
  go_wp2_with fail
  refine (awake_any w1 (HV.out.keep b1 HV.out.1)).mono ?_
  rintro e w2 ⟨rfl, c2⟩
  go_wp2
  go_ret
  exact ⟨rfl, b1.trans (c2.mono b1.size)⟩
set_option maxHeartbeats 4000000 in
set_option maxRecDepth 100000 in
theorem joins_out2 (s t : ByteArray) (w : World) (hs : s.size ≤ 300) (h : 300 < t.size) (hm : t.size ≤ maxLen) (hV : Vars w) : Calls Tryd.prog 6 #[.string s, .string t] w fun e w' => e = .returned (.bool true) ∧ Below w.heap.size w w' := by
  unfold maxLen at hm
  have HV := Lib.hid hV
  have i8 : decide ((300 : Int) < (s.size : Int)) = false := by rw [decide_eq_false_iff_not]; omega
  have j8 : decide (300 < s.size) = false := by rw [decide_eq_false_iff_not]; omega
  have i9 : decide ((300 : Int) < (t.size : Int)) = true := by rw [decide_eq_true_eq]; omega
  have j9 : decide (300 < t.size) = true := by rw [decide_eq_true_eq]; omega
  clear hV h
  go_enter Tryd.func6, Tryd.ntmps6
  go_wp2_with fail
  refine (awake_any w HV.out).mono ?_
  rintro e w1 ⟨rfl, b1⟩
  go_wp2_with fail
  refine (awake_any w1 (HV.out.keep b1 HV.out.1)).mono ?_
  rintro e w2 ⟨rfl, c2⟩
  go_wp2
  go_ret
  exact ⟨rfl, b1.trans (c2.mono b1.size)⟩
set_option maxHeartbeats 4000000 in
set_option maxRecDepth 100000 in
theorem joins_out3 (s t : ByteArray) (m : Nat) (w : World) (hm : s.size = m + 1) (hs : s.size ≤ 300) (ht : t.size ≤ 300) (h : ((s[m]'(by omega)).toNat : Int) = 13) (hV : Vars w) : Calls Tryd.prog 6 #[.string s, .string t] w fun e w' => e = .returned (.bool true) ∧ Below w.heap.size w w' := by
  have HV := Lib.hid hV
  have i8 : decide ((300 : Int) < (s.size : Int)) = false := by rw [decide_eq_false_iff_not]; omega
  have j8 : decide (300 < s.size) = false := by rw [decide_eq_false_iff_not]; omega
  have i9 : decide ((300 : Int) < (t.size : Int)) = false := by rw [decide_eq_false_iff_not]; omega
  have j9 : decide (300 < t.size) = false := by rw [decide_eq_false_iff_not]; omega
  have i7 : decide ((0 : Int) < (s.size : Int)) = true := by rw [decide_eq_true_eq]; omega
  have j7 : decide (0 < s.size) = true := by rw [decide_eq_true_eq]; omega
  have q1 : (s.size : Int) - 1 = (m : Int) := by omega
  have q2 : IntKind.i64.wrap (m : Int) = (m : Int) := IntWalk.i64_in _ (by omega)
  have q3 : (m : Int) < (s.size : Int) := by omega
  clear hV
  go_enter Tryd.func6, Tryd.ntmps6
  go_wp2_with fail
  refine (awake_any w HV.out).mono ?_
  rintro e w1 ⟨rfl, b1⟩
  go_wp2_with fail
  refine (awake_any w1 (HV.out.keep b1 HV.out.1)).mono ?_
  rintro e w2 ⟨rfl, c2⟩
  go_wp2
  go_ret
  exact ⟨rfl, b1.trans (c2.mono b1.size)⟩

set_option maxHeartbeats 8000000 in
set_option maxRecDepth 100000 in
theorem joins_err0 (s t : ByteArray) (w : World) (hs : s.size ≤ 300) (ht : t.size ≤ 300) (h0 : s.size = 0) (hV : Vars w) (a b : ByteArray) (i1 n er f : Int) (he : (er != 0) = true)
    (C1 : Hid (∀ w, Vars w → Calls Tryd.prog 9 #[.string s] w fun e w' => e = .returned (.tuple #[.string a, .int .i64 i1, .int .i64 er]) ∧ Below w.heap.size w w'))
    (C2 : Hid (∀ w, Vars w → Calls Tryd.prog 9 #[.string t] w fun e w' => e = .returned (.tuple #[.string b, .int .i64 n, .int .i64 f]) ∧ Below w.heap.size w w')) :
    Calls Tryd.prog 6 #[.string s, .string t] w fun e w' => e = .returned (.bool true) ∧ Below w.heap.size w w' := by
  have HV := Lib.hid hV
  have i8 : decide ((300 : Int) < (s.size : Int)) = false := by rw [decide_eq_false_iff_not]; omega
  have j8 : decide (300 < s.size) = false := by rw [decide_eq_false_iff_not]; omega
  have i9 : decide ((300 : Int) < (t.size : Int)) = false := by rw [decide_eq_false_iff_not]; omega
  have j9 : decide (300 < t.size) = false := by rw [decide_eq_false_iff_not]; omega
  have i7 : decide ((0 : Int) < (s.size : Int)) = false := by rw [decide_eq_false_iff_not]; omega
  have j7 : decide (0 < s.size) = false := by rw [decide_eq_false_iff_not]; omega
  clear h0
  clear hV
  go_enter Tryd.func6, Tryd.ntmps6
  go_wp2_with fail
  refine (awake_any w HV.out).mono ?_
  rintro e w1 ⟨rfl, b1⟩
  go_wp2_with fail
  refine (C1.out _ (HV.out.keep b1 HV.out.1)).mono ?_
  rintro e w2 ⟨rfl, dw2⟩
  have b2 : Below w.heap.size w w2 := b1.trans (dw2.mono b1.size)
  clear dw2 b1
  go_wp2_with fail
  refine (C2.out _ (HV.out.keep b2 HV.out.1)).mono ?_
  rintro e w3 ⟨rfl, dw3⟩
  have b3 : Below w.heap.size w w3 := b2.trans (dw3.mono b2.size)
  clear dw3 b2
  clear C1 C2
  go_wp2
  go_ret
  exact ⟨rfl, b3⟩

set_option maxHeartbeats 8000000 in
set_option maxRecDepth 100000 in
theorem joins_bad0 (s t : ByteArray) (w : World) (hs : s.size ≤ 300) (ht : t.size ≤ 300) (h0 : s.size = 0) (hV : Vars w) (a b c : ByteArray) (i1 n f : Int) (hf : (f != 0) = true) (hn0 : 0 ≤ n) (hn1 : n ≤ 300)
    (C1 : Hid (∀ w, Vars w → Calls Tryd.prog 9 #[.string s] w fun e w' => e = .returned (.tuple #[.string a, .int .i64 i1, .int .i64 0]) ∧ Below w.heap.size w w'))
    (C2 : Hid (∀ w, Vars w → Calls Tryd.prog 9 #[.string t] w fun e w' => e = .returned (.tuple #[.string b, .int .i64 n, .int .i64 f]) ∧ Below w.heap.size w w'))
    (C3 : Hid (∀ w, Vars w → Calls Tryd.prog 9 #[.string (s ++ t)] w fun e w' => e = .returned (.tuple #[.string c, .int .i64 ((s.size : Int) + n), .int .i64 f]) ∧ Below w.heap.size w w')) :
    Calls Tryd.prog 6 #[.string s, .string t] w fun e w' => e = .returned (.bool true) ∧ Below w.heap.size w w' := by
  have HV := Lib.hid hV
  have i8 : decide ((300 : Int) < (s.size : Int)) = false := by rw [decide_eq_false_iff_not]; omega
  have j8 : decide (300 < s.size) = false := by rw [decide_eq_false_iff_not]; omega
  have i9 : decide ((300 : Int) < (t.size : Int)) = false := by rw [decide_eq_false_iff_not]; omega
  have j9 : decide (300 < t.size) = false := by rw [decide_eq_false_iff_not]; omega
  have i7 : decide ((0 : Int) < (s.size : Int)) = false := by rw [decide_eq_false_iff_not]; omega
  have j7 : decide (0 < s.size) = false := by rw [decide_eq_false_iff_not]; omega
  clear h0
  clear hV
  have z1 : (s ++ t).size ≤ 1000 := by rw [size_cat]; omega
  have z2 : s.size + t.size ≤ 1000 := by omega
  have q5 : IntKind.i64.wrap ((s.size : Int) + n) = (s.size : Int) + n := IntWalk.i64_in _ (by omega)
  go_enter Tryd.func6, Tryd.ntmps6
  go_wp2_with fail
  refine (awake_any w HV.out).mono ?_
  rintro e w1 ⟨rfl, b1⟩
  go_wp2_with fail
  refine (C1.out _ (HV.out.keep b1 HV.out.1)).mono ?_
  rintro e w2 ⟨rfl, dw2⟩
  have b2 : Below w.heap.size w w2 := b1.trans (dw2.mono b1.size)
  clear dw2 b1
  go_wp2_with fail
  refine (C2.out _ (HV.out.keep b2 HV.out.1)).mono ?_
  rintro e w3 ⟨rfl, dw3⟩
  have b3 : Below w.heap.size w w3 := b2.trans (dw3.mono b2.size)
  clear dw3 b2
  go_wp2_with fail
  refine (C3.out _ (HV.out.keep b3 HV.out.1)).mono ?_
  rintro e w4 ⟨rfl, dw4⟩
  have b4 : Below w.heap.size w w4 := b3.trans (dw4.mono b3.size)
  clear dw4 b3
  clear C1 C2 C3
  go_wp2
  go_ret
  exact ⟨rfl, b4⟩

set_option maxHeartbeats 8000000 in
set_option maxRecDepth 100000 in
theorem joins_good0 (s t : ByteArray) (w : World) (hs : s.size ≤ 300) (ht : t.size ≤ 300) (h0 : s.size = 0) (hV : Vars w) (a b : ByteArray) (i1 n : Int) (ha : a.size ≤ 10000) (hb : b.size ≤ 10000)
    (C1 : Hid (∀ w, Vars w → Calls Tryd.prog 9 #[.string s] w fun e w' => e = .returned (.tuple #[.string a, .int .i64 i1, .int .i64 0]) ∧ Below w.heap.size w w'))
    (C2 : Hid (∀ w, Vars w → Calls Tryd.prog 9 #[.string t] w fun e w' => e = .returned (.tuple #[.string b, .int .i64 n, .int .i64 0]) ∧ Below w.heap.size w w'))
    (C3 : Hid (∀ w, Vars w → Calls Tryd.prog 9 #[.string (s ++ t)] w fun e w' => e = .returned (.tuple #[.string (a ++ b), .int .i64 0, .int .i64 0]) ∧ Below w.heap.size w w')) :
    Calls Tryd.prog 6 #[.string s, .string t] w fun e w' => e = .returned (.bool true) ∧ Below w.heap.size w w' := by
  have HV := Lib.hid hV
  have i8 : decide ((300 : Int) < (s.size : Int)) = false := by rw [decide_eq_false_iff_not]; omega
  have j8 : decide (300 < s.size) = false := by rw [decide_eq_false_iff_not]; omega
  have i9 : decide ((300 : Int) < (t.size : Int)) = false := by rw [decide_eq_false_iff_not]; omega
  have j9 : decide (300 < t.size) = false := by rw [decide_eq_false_iff_not]; omega
  have i7 : decide ((0 : Int) < (s.size : Int)) = false := by rw [decide_eq_false_iff_not]; omega
  have j7 : decide (0 < s.size) = false := by rw [decide_eq_false_iff_not]; omega
  clear h0
  clear hV
  have z1 : (s ++ t).size ≤ 1000 := by rw [size_cat]; omega
  have z2 : s.size + t.size ≤ 1000 := by omega
  have z3 : (a ++ b).size ≤ 100000 := by rw [size_cat]; omega
  have z4 : a.size + b.size ≤ 100000 := by omega
  go_enter Tryd.func6, Tryd.ntmps6
  go_wp2_with fail
  refine (awake_any w HV.out).mono ?_
  rintro e w1 ⟨rfl, b1⟩
  go_wp2_with fail
  refine (C1.out _ (HV.out.keep b1 HV.out.1)).mono ?_
  rintro e w2 ⟨rfl, dw2⟩
  have b2 : Below w.heap.size w w2 := b1.trans (dw2.mono b1.size)
  clear dw2 b1
  go_wp2_with fail
  refine (C2.out _ (HV.out.keep b2 HV.out.1)).mono ?_
  rintro e w3 ⟨rfl, dw3⟩
  have b3 : Below w.heap.size w w3 := b2.trans (dw3.mono b2.size)
  clear dw3 b2
  go_wp2_with fail
  refine (C3.out _ (HV.out.keep b3 HV.out.1)).mono ?_
  rintro e w4 ⟨rfl, dw4⟩
  have b4 : Below w.heap.size w w4 := b3.trans (dw4.mono b3.size)
  clear dw4 b3
  clear C1 C2 C3
  go_wp2
  go_ret
  exact ⟨rfl, b4⟩

set_option maxHeartbeats 8000000 in
set_option maxRecDepth 100000 in
theorem joins_err1 (s t : ByteArray) (w : World) (hs : s.size ≤ 300) (ht : t.size ≤ 300) (m : Nat) (hm : s.size = m + 1) (h : (((s[m]'(by omega)).toNat : Int) == 13) = false) (hV : Vars w) (a b : ByteArray) (i1 n er f : Int) (he : (er != 0) = true)
    (C1 : Hid (∀ w, Vars w → Calls Tryd.prog 9 #[.string s] w fun e w' => e = .returned (.tuple #[.string a, .int .i64 i1, .int .i64 er]) ∧ Below w.heap.size w w'))
    (C2 : Hid (∀ w, Vars w → Calls Tryd.prog 9 #[.string t] w fun e w' => e = .returned (.tuple #[.string b, .int .i64 n, .int .i64 f]) ∧ Below w.heap.size w w')) :
    Calls Tryd.prog 6 #[.string s, .string t] w fun e w' => e = .returned (.bool true) ∧ Below w.heap.size w w' := by
  have HV := Lib.hid hV
  have i8 : decide ((300 : Int) < (s.size : Int)) = false := by rw [decide_eq_false_iff_not]; omega
  have j8 : decide (300 < s.size) = false := by rw [decide_eq_false_iff_not]; omega
  have i9 : decide ((300 : Int) < (t.size : Int)) = false := by rw [decide_eq_false_iff_not]; omega
  have j9 : decide (300 < t.size) = false := by rw [decide_eq_false_iff_not]; omega
  have i7 : decide ((0 : Int) < (s.size : Int)) = true := by rw [decide_eq_true_eq]; omega
  have j7 : decide (0 < s.size) = true := by rw [decide_eq_true_eq]; omega
  have q1 : (s.size : Int) - 1 = (m : Int) := by omega
  have q2 : IntKind.i64.wrap (m : Int) = (m : Int) := IntWalk.i64_in _ (by omega)
  have q3 : (m : Int) < (s.size : Int) := by omega
  clear hV
  go_enter Tryd.func6, Tryd.ntmps6
  go_wp2_with fail
  refine (awake_any w HV.out).mono ?_
  rintro e w1 ⟨rfl, b1⟩
  go_wp2_with fail
  refine (C1.out _ (HV.out.keep b1 HV.out.1)).mono ?_
  rintro e w2 ⟨rfl, dw2⟩
  have b2 : Below w.heap.size w w2 := b1.trans (dw2.mono b1.size)
  clear dw2 b1
  go_wp2_with fail
  refine (C2.out _ (HV.out.keep b2 HV.out.1)).mono ?_
  rintro e w3 ⟨rfl, dw3⟩
  have b3 : Below w.heap.size w w3 := b2.trans (dw3.mono b2.size)
  clear dw3 b2
  clear C1 C2
  go_wp2
  go_ret
  exact ⟨rfl, b3⟩

set_option maxHeartbeats 8000000 in
set_option maxRecDepth 100000 in
theorem joins_bad1 (s t : ByteArray) (w : World) (hs : s.size ≤ 300) (ht : t.size ≤ 300) (m : Nat) (hm : s.size = m + 1) (h : (((s[m]'(by omega)).toNat : Int) == 13) = false) (hV : Vars w) (a b c : ByteArray) (i1 n f : Int) (hf : (f != 0) = true) (hn0 : 0 ≤ n) (hn1 : n ≤ 300)
    (C1 : Hid (∀ w, Vars w → Calls Tryd.prog 9 #[.string s] w fun e w' => e = .returned (.tuple #[.string a, .int .i64 i1, .int .i64 0]) ∧ Below w.heap.size w w'))
    (C2 : Hid (∀ w, Vars w → Calls Tryd.prog 9 #[.string t] w fun e w' => e = .returned (.tuple #[.string b, .int .i64 n, .int .i64 f]) ∧ Below w.heap.size w w'))
    (C3 : Hid (∀ w, Vars w → Calls Tryd.prog 9 #[.string (s ++ t)] w fun e w' => e = .returned (.tuple #[.string c, .int .i64 ((s.size : Int) + n), .int .i64 f]) ∧ Below w.heap.size w w')) :
    Calls Tryd.prog 6 #[.string s, .string t] w fun e w' => e = .returned (.bool true) ∧ Below w.heap.size w w' := by
  have HV := Lib.hid hV
  have i8 : decide ((300 : Int) < (s.size : Int)) = false := by rw [decide_eq_false_iff_not]; omega
  have j8 : decide (300 < s.size) = false := by rw [decide_eq_false_iff_not]; omega
  have i9 : decide ((300 : Int) < (t.size : Int)) = false := by rw [decide_eq_false_iff_not]; omega
  have j9 : decide (300 < t.size) = false := by rw [decide_eq_false_iff_not]; omega
  have i7 : decide ((0 : Int) < (s.size : Int)) = true := by rw [decide_eq_true_eq]; omega
  have j7 : decide (0 < s.size) = true := by rw [decide_eq_true_eq]; omega
  have q1 : (s.size : Int) - 1 = (m : Int) := by omega
  have q2 : IntKind.i64.wrap (m : Int) = (m : Int) := IntWalk.i64_in _ (by omega)
  have q3 : (m : Int) < (s.size : Int) := by omega
  clear hV
  have z1 : (s ++ t).size ≤ 1000 := by rw [size_cat]; omega
  have z2 : s.size + t.size ≤ 1000 := by omega
  have q5 : IntKind.i64.wrap ((s.size : Int) + n) = (s.size : Int) + n := IntWalk.i64_in _ (by omega)
  go_enter Tryd.func6, Tryd.ntmps6
  go_wp2_with fail
  refine (awake_any w HV.out).mono ?_
  rintro e w1 ⟨rfl, b1⟩
  go_wp2_with fail
  refine (C1.out _ (HV.out.keep b1 HV.out.1)).mono ?_
  rintro e w2 ⟨rfl, dw2⟩
  have b2 : Below w.heap.size w w2 := b1.trans (dw2.mono b1.size)
  clear dw2 b1
  go_wp2_with fail
  refine (C2.out _ (HV.out.keep b2 HV.out.1)).mono ?_
  rintro e w3 ⟨rfl, dw3⟩
  have b3 : Below w.heap.size w w3 := b2.trans (dw3.mono b2.size)
  clear dw3 b2
  go_wp2_with fail
  refine (C3.out _ (HV.out.keep b3 HV.out.1)).mono ?_
  rintro e w4 ⟨rfl, dw4⟩
  have b4 : Below w.heap.size w w4 := b3.trans (dw4.mono b3.size)
  clear dw4 b3
  clear C1 C2 C3
  go_wp2
  go_ret
  exact ⟨rfl, b4⟩

set_option maxHeartbeats 8000000 in
set_option maxRecDepth 100000 in
theorem joins_good1 (s t : ByteArray) (w : World) (hs : s.size ≤ 300) (ht : t.size ≤ 300) (m : Nat) (hm : s.size = m + 1) (h : (((s[m]'(by omega)).toNat : Int) == 13) = false) (hV : Vars w) (a b : ByteArray) (i1 n : Int) (ha : a.size ≤ 10000) (hb : b.size ≤ 10000)
    (C1 : Hid (∀ w, Vars w → Calls Tryd.prog 9 #[.string s] w fun e w' => e = .returned (.tuple #[.string a, .int .i64 i1, .int .i64 0]) ∧ Below w.heap.size w w'))
    (C2 : Hid (∀ w, Vars w → Calls Tryd.prog 9 #[.string t] w fun e w' => e = .returned (.tuple #[.string b, .int .i64 n, .int .i64 0]) ∧ Below w.heap.size w w'))
    (C3 : Hid (∀ w, Vars w → Calls Tryd.prog 9 #[.string (s ++ t)] w fun e w' => e = .returned (.tuple #[.string (a ++ b), .int .i64 0, .int .i64 0]) ∧ Below w.heap.size w w')) :
    Calls Tryd.prog 6 #[.string s, .string t] w fun e w' => e = .returned (.bool true) ∧ Below w.heap.size w w' := by
  have HV := Lib.hid hV
  have i8 : decide ((300 : Int) < (s.size : Int)) = false := by rw [decide_eq_false_iff_not]; omega
  have j8 : decide (300 < s.size) = false := by rw [decide_eq_false_iff_not]; omega
  have i9 : decide ((300 : Int) < (t.size : Int)) = false := by rw [decide_eq_false_iff_not]; omega
  have j9 : decide (300 < t.size) = false := by rw [decide_eq_false_iff_not]; omega
  have i7 : decide ((0 : Int) < (s.size : Int)) = true := by rw [decide_eq_true_eq]; omega
  have j7 : decide (0 < s.size) = true := by rw [decide_eq_true_eq]; omega
  have q1 : (s.size : Int) - 1 = (m : Int) := by omega
  have q2 : IntKind.i64.wrap (m : Int) = (m : Int) := IntWalk.i64_in _ (by omega)
  have q3 : (m : Int) < (s.size : Int) := by omega
  clear hV
  have z1 : (s ++ t).size ≤ 1000 := by rw [size_cat]; omega
  have z2 : s.size + t.size ≤ 1000 := by omega
  have z3 : (a ++ b).size ≤ 100000 := by rw [size_cat]; omega
  have z4 : a.size + b.size ≤ 100000 := by omega
  go_enter Tryd.func6, Tryd.ntmps6
  go_wp2_with fail
  refine (awake_any w HV.out).mono ?_
  rintro e w1 ⟨rfl, b1⟩
  go_wp2_with fail
  refine (C1.out _ (HV.out.keep b1 HV.out.1)).mono ?_
  rintro e w2 ⟨rfl, dw2⟩
  have b2 : Below w.heap.size w w2 := b1.trans (dw2.mono b1.size)
  clear dw2 b1
  go_wp2_with fail
  refine (C2.out _ (HV.out.keep b2 HV.out.1)).mono ?_
  rintro e w3 ⟨rfl, dw3⟩
  have b3 : Below w.heap.size w w3 := b2.trans (dw3.mono b2.size)
  clear dw3 b2
  go_wp2_with fail
  refine (C3.out _ (HV.out.keep b3 HV.out.1)).mono ?_
  rintro e w4 ⟨rfl, dw4⟩
  have b4 : Below w.heap.size w w4 := b3.trans (dw4.mono b3.size)
  clear dw4 b3
  clear C1 C2 C3
  go_wp2
  go_ret
  exact ⟨rfl, b4⟩

theorem rd_is {s : ByteArray} (hs : s.size ≤ 10000) (w : World) (hV : Vars w) : Calls Tryd.prog 9 #[.string s] w fun e w' => e = .returned (.tuple #[.string (strOfNums (ansF false (byts s)).1), .int .i64 (ansF false (byts s)).2.1, .int .i64 (ansF false (byts s)).2.2]) ∧ Below w.heap.size w w' := text_any s w hs hV
theorem strOf_cat (a b : List Int) : strOfNums (a ++ b) = strOfNums a ++ strOfNums b := by
  apply ByteArray.ext
  apply Array.toList_inj.1
  rw [ByteArray.data_append, Array.toList_append, strOfNums_data, strOfNums_data, strOfNums_data, List.map_append]
theorem readF_len (v : Bool) : ∀ (n : Nat) (L : List Int), L.length ≤ n → NN L → (readF v L).1.length ≤ 4 * L.length
  | 0, L, h, _ => by
    have : L = [] := List.eq_nil_of_length_eq_zero (by omega)
    subst this
    simp [readF_nil]
  | n + 1, L, h, hn => by
    by_cases hl : L = []
    · subst hl; simp [readF_nil]
    by_cases he : (stepF v L).1 = 0
    · have hb := step_bd v L hl hn he
      have h4 := step_len v L he
      have ih := readF_len v n (L.drop (stepF v L).2.2) (by rw [List.length_drop]; omega) (hn.drop _)
      rw [readF_ok v L hl hn he]
      rw [List.length_drop] at ih
      simp only [List.length_append]
      omega
    · rw [readF_err v L hl he]; simp
theorem strOf_size (l : List Int) : (strOfNums l).size = l.length := by
  rw [strOf_eq]
  simp [ByteArray.size]
theorem ans_len (s : ByteArray) (hs : s.size ≤ 300) : (strOfNums (ansF false (byts s)).1).size ≤ 10000 := by
  rw [strOf_size]
  unfold ansF
  split
  · have := readF_len false (byts s).length (byts s) (Nat.le_refl _) (byts_nn s)
    rw [byts_len] at this
    show (readF false (byts s)).1.length ≤ _
    omega
  · simp
theorem ans_read (l : List Int) (h : (ansF false l).2.2 = 0) : (readF false l).2.2 = 0 ∧ ansF false l = ((readF false l).1, 0, 0) := by
  unfold ansF at h ⊢
  by_cases h0 : (readF false l).2.2 = 0
  · rw [if_pos h0]; exact ⟨h0, rfl⟩
  · rw [if_neg h0] at h; exact absurd h h0
theorem ans_bad (l : List Int) (h : (ansF false l).2.2 ≠ 0) : (readF false l).2.2 ≠ 0 ∧ ansF false l = ([], ((readF false l).2.1 : Int), (readF false l).2.2) := by
  unfold ansF at h ⊢
  by_cases h0 : (readF false l).2.2 = 0
  · rw [if_pos h0] at h; exact absurd rfl h
  · rw [if_neg h0]; exact ⟨h0, rfl⟩
theorem no_end (s : ByteArray) (h : (byts s).getD (s.size - 1) 0 ≠ 13) : ∀ m, byts s ≠ m ++ [13] := fun m e => by
  refine h ?_
  have hl := congrArg List.length e
  rw [byts_len, List.length_append, List.length_singleton] at hl
  rw [e, hl]
  simp
theorem joins_law (s t : ByteArray) (w : World) (hs : s.size ≤ maxLen) (ht : t.size ≤ maxLen) (hV : Vars w) : Calls Tryd.prog 6 #[.string s, .string t] w fun e w' => e = .returned (.bool true) ∧ Below w.heap.size w w' := by
  by_cases h1 : 300 < s.size
  · exact joins_out1 s t w h1 hs hV
  by_cases h2 : 300 < t.size
  · exact joins_out2 s t w (by omega) h2 ht hV
  have H : (s.size = 0 ∨ ∃ m, s.size = m + 1) := by
    cases s.size with
    | zero => exact .inl rfl
    | succ m => exact .inr ⟨m, rfl⟩
  by_cases h3 : (byts s).getD (s.size - 1) 0 = 13
  · rcases H with h0 | ⟨m, hm⟩
    · rw [len0 (t := s) (by omega)] at h3; simp at h3
    · exact joins_out3 s t m w hm (by omega) (by omega) ((last_at s m hm).trans h3) hV
  have C1 := Lib.hid fun w hV => rd_is (s := s) (by omega) w hV
  have C2 := Lib.hid fun w hV => rd_is (s := t) (by omega) w hV
  have hcat : (s ++ t).size ≤ 10000 := by rw [size_cat]; omega
  have C3 := Lib.hid fun w hV => rd_is (s := s ++ t) hcat w hV
  have L1 := ans_len s (by omega)
  have L2 := ans_len t (by omega)
  by_cases he : (ansF false (byts s)).2.2 = 0
  · obtain ⟨r1, r2⟩ := ans_read _ he
    have J := join_F false (byts t) (byts_nn t) (byts s).length (byts s) (Nat.le_refl _) (byts_nn s) r1 (no_end s h3)
    rw [← byts_cat] at J
    by_cases hf : (ansF false (byts t)).2.2 = 0
    · obtain ⟨u1, u2⟩ := ans_read _ hf
      have A : ansF false (byts (s ++ t)) = ((readF false (byts s)).1 ++ (readF false (byts t)).1, 0, 0) := by
        unfold ansF
        rw [J]
        simp only
        rw [if_pos u1]
      rw [A] at C3
      rw [r2] at C1 L1
      rw [u2] at C2 L2
      simp only [strOf_cat] at C1 C2 C3 L1 L2
      rcases H with h0 | ⟨m, hm⟩
      · exact joins_good0 s t w (by omega) (by omega) h0 hV _ _ _ _ L1 L2 C1 C2 C3
      · exact joins_good1 s t w (by omega) (by omega) m hm (by rw [last_at s m hm]; simpa using h3) hV _ _ _ _ L1 L2 C1 C2 C3
    · obtain ⟨u1, u2⟩ := ans_bad _ hf
      have A : ansF false (byts (s ++ t)) = ([], (s.size : Int) + ((readF false (byts t)).2.1 : Int), (readF false (byts t)).2.2) := by
        unfold ansF
        rw [J]
        simp only
        rw [if_neg u1, byts_len, Int.natCast_add]
      have B := (readF_bd false (byts t).length (byts t) (Nat.le_refl _) (byts_nn t)).1
      rw [byts_len] at B
      rw [A] at C3
      rw [r2] at C1
      rw [u2] at C2
      simp only at C1 C2 C3
      rcases H with h0 | ⟨m, hm⟩
      · exact joins_bad0 s t w (by omega) (by omega) h0 hV _ _ _ _ _ _ (by simpa using u1) (by omega) (by omega) C1 C2 C3
      · exact joins_bad1 s t w (by omega) (by omega) m hm (by rw [last_at s m hm]; simpa using h3) hV _ _ _ _ _ _ (by simpa using u1) (by omega) (by omega) C1 C2 C3
  · rcases H with h0 | ⟨m, hm⟩
    · exact joins_err0 s t w (by omega) (by omega) h0 hV _ _ _ _ _ _ (by simpa using he) C1 C2
    · exact joins_err1 s t w (by omega) (by omega) m hm (by rw [last_at s m hm]; simpa using h3) hV _ _ _ _ _ _ (by simpa using he) C1 C2
end Go.Proofs.YtkaimohkdkdbmaaDoor
