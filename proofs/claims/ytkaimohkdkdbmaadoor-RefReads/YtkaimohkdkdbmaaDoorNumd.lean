/-
  The walks of ref.numbered and of the gatherer's methods.
-/
import Derived.Test.YtkaimohkdkdbmaaDoorErr
import Derived.Test.YtkaimohkdkdbmaaDoorBld
import Derived.Test.YtkaimohkdkdbmaaDoorRuneAny
set_option linter.unusedSimpArgs false
set_option linter.unusedVariables false
namespace Go.Proofs.YtkaimohkdkdbmaaDoor
open Go.RowKit

theorem byts_from (t : ByteArray) (k : Nat) : byts (t.extract k t.size) = (byts t).drop k := by
  rw [byts_extract, List.take_of_length_le (by rw [byts_len]; omega)]
theorem byts_to (t : ByteArray) (k : Nat) : byts (t.extract 0 k) = (byts t).take k := by
  rw [byts_extract, List.drop_zero]
theorem size_from (t : ByteArray) (k : Nat) : (t.extract k t.size).size = t.size - k := by
  rw [← byts_len, byts_from, List.length_drop, byts_len]

/-- What a function answers that looks for a rune. -/
def NmPost (r : Int) (w : World) (e : Ending) (w' : World) : Prop :=
  ((0 ≤ r ∧ e = .returned (.tuple #[.int .i32 r, .bool true])) ∨ (r < 0 ∧ e = .returned (.tuple #[.int .i32 0, .bool false]))) ∧ Below w.heap.size w w'

set_option maxHeartbeats 2000000 in
set_option maxRecDepth 100000 in
theorem num_no (t d2 : ByteArray) (is : Bool) (w : World)
    (C1 : Hid (∀ w, Calls Tryd.prog 46 #[.string t, .string ⟨#[35]⟩] w fun e w' => e = .returned (.tuple #[.string t, .bool false]) ∧ w = w'))
    (C2 : Hid (∀ w, Calls Tryd.prog 46 #[.string t, .string ⟨#[120]⟩] w fun e w' => e = .returned (.tuple #[.string d2, .bool is]) ∧ w = w')) :
    Calls Tryd.prog 39 #[.string t] w fun e w' => e = .returned (.tuple #[.int .i32 0, .bool false]) ∧ Below w.heap.size w w' := by
  cases is
  all_goals
    go_enter Tryd.func39, Tryd.ntmps39
    go_wp2_with fail
    refine (C1.out _).mono ?_
    rintro e w' ⟨rfl, rfl⟩
    go_wp2_with fail
    refine (C2.out _).mono ?_
    rintro e w' ⟨rfl, rfl⟩
    go_wp2
    go_ret2
    exact ⟨rfl, Below.refl _ _⟩

set_option maxHeartbeats 2000000 in
set_option maxRecDepth 100000 in
theorem num_dec_long (t d d2 : ByteArray) (w : World)
    (C1 : Hid (∀ w, Calls Tryd.prog 46 #[.string t, .string ⟨#[35]⟩] w fun e w' => e = .returned (.tuple #[.string d, .bool true]) ∧ w = w'))
    (C2 : Hid (∀ w, Calls Tryd.prog 46 #[.string d, .string ⟨#[120]⟩] w fun e w' => e = .returned (.tuple #[.string d2, .bool false]) ∧ w = w')) (h8 : 8 < d.size) :
    Calls Tryd.prog 39 #[.string t] w fun e w' => e = .returned (.tuple #[.int .i32 0, .bool false]) ∧ Below w.heap.size w w' := by
  have i8 : decide ((8 : Int) < (d.size : Int)) = true := by rw [decide_eq_true_eq]; omega
  have j8 : decide (8 < d.size) = true := by rw [decide_eq_true_eq]; omega
  clear h8
  go_enter Tryd.func39, Tryd.ntmps39
  go_wp2_with fail
  refine (C1.out _).mono ?_
  rintro e w' ⟨rfl, rfl⟩
  go_wp2_with fail
  refine (C2.out _).mono ?_
  rintro e w' ⟨rfl, rfl⟩
  go_wp2
  go_ret2
  exact ⟨rfl, Below.refl _ _⟩

set_option maxHeartbeats 2000000 in
set_option maxRecDepth 100000 in
theorem num_dec (t d d2 : ByteArray) (w : World)
    (C1 : Hid (∀ w, Calls Tryd.prog 46 #[.string t, .string ⟨#[35]⟩] w fun e w' => e = .returned (.tuple #[.string d, .bool true]) ∧ w = w'))
    (C2 : Hid (∀ w, Calls Tryd.prog 46 #[.string d, .string ⟨#[120]⟩] w fun e w' => e = .returned (.tuple #[.string d2, .bool false]) ∧ w = w')) (h8 : d.size ≤ 8) (x : Int) (hx0 : x ≤ 2147483647) (CP : Hid (Calls Tryd.prog 47 #[.string d, .int .i64 10, .int .i64 31] w (PPost x w))) :
    Calls Tryd.prog 39 #[.string t] w (NmPost (chrOr x) w) := by
  have i8 : decide ((8 : Int) < (d.size : Int)) = false := by rw [decide_eq_false_iff_not]; omega
  have j8 : decide (8 < d.size) = false := by rw [decide_eq_false_iff_not]; omega
  clear h8
  go_enter Tryd.func39, Tryd.ntmps39
  go_wp2_with fail
  refine (C1.out _).mono ?_
  rintro e w' ⟨rfl, rfl⟩
  go_wp2_with fail
  refine (C2.out _).mono ?_
  rintro e w' ⟨rfl, rfl⟩
  go_wp2_with fail
  refine CP.out.mono ?_
  rintro e w1 ⟨h, hb⟩
  clear CP C1 C2
  rcases h with ⟨h0, rfl⟩ | ⟨h0, y, n, rfl⟩
  · by_cases hc : Chr x
    · have CC : Hid (∀ w, Calls Tryd.prog 43 #[.int .i32 x] w fun e w' => e = .returned (.bool true) ∧ w = w') := Lib.hid fun w => by
        have := chr_any x w
        rw [decide_eq_true hc] at this
        exact this
      have HC : Hid (chrOr x = x) := Lib.hid (if_pos hc)
      have q : IntKind.i32.wrap x = x := by
        rw [IntKind.wrap_i32]; omega
      clear hc
      go_wp2_with (go_at_call 43; refine (CC.out _).mono ?_; rintro e w' ⟨rfl, rfl⟩)
      go_ret2
      exact ⟨.inl ⟨by rw [HC.out]; exact h0, by rw [HC.out]; rfl⟩, hb⟩
    · have CC : Hid (∀ w, Calls Tryd.prog 43 #[.int .i32 x] w fun e w' => e = .returned (.bool false) ∧ w = w') := Lib.hid fun w => by
        have := chr_any x w
        rw [decide_eq_false hc] at this
        exact this
      have HC : Hid (chrOr x = -1) := Lib.hid (if_neg hc)
      have q : IntKind.i32.wrap x = x := by
        rw [IntKind.wrap_i32]; omega
      clear hc
      go_wp2_with (go_at_call 43; refine (CC.out _).mono ?_; rintro e w' ⟨rfl, rfl⟩)
      go_ret2
      exact ⟨.inr ⟨by rw [HC.out]; omega, rfl⟩, hb⟩
  · have HC : Hid (chrOr x = -1) := Lib.hid (by rw [h0]; exact chrOr_neg)
    clear h0 hx0
    go_wp2
    go_ret2
    exact ⟨.inr ⟨by rw [HC.out]; omega, rfl⟩, hb⟩

set_option maxHeartbeats 2000000 in
set_option maxRecDepth 100000 in
theorem num_hex_long (t d d2 : ByteArray) (w : World)
    (C1 : Hid (∀ w, Calls Tryd.prog 46 #[.string t, .string ⟨#[35]⟩] w fun e w' => e = .returned (.tuple #[.string d, .bool true]) ∧ w = w'))
    (C2 : Hid (∀ w, Calls Tryd.prog 46 #[.string d, .string ⟨#[120]⟩] w fun e w' => e = .returned (.tuple #[.string d2, .bool true]) ∧ w = w')) (h8 : 8 < d2.size) :
    Calls Tryd.prog 39 #[.string t] w fun e w' => e = .returned (.tuple #[.int .i32 0, .bool false]) ∧ Below w.heap.size w w' := by
  have i8 : decide ((8 : Int) < (d2.size : Int)) = true := by rw [decide_eq_true_eq]; omega
  have j8 : decide (8 < d2.size) = true := by rw [decide_eq_true_eq]; omega
  clear h8
  go_enter Tryd.func39, Tryd.ntmps39
  go_wp2_with fail
  refine (C1.out _).mono ?_
  rintro e w' ⟨rfl, rfl⟩
  go_wp2_with fail
  refine (C2.out _).mono ?_
  rintro e w' ⟨rfl, rfl⟩
  go_wp2
  go_ret2
  exact ⟨rfl, Below.refl _ _⟩

set_option maxHeartbeats 2000000 in
set_option maxRecDepth 100000 in
theorem num_hex (t d d2 : ByteArray) (w : World)
    (C1 : Hid (∀ w, Calls Tryd.prog 46 #[.string t, .string ⟨#[35]⟩] w fun e w' => e = .returned (.tuple #[.string d, .bool true]) ∧ w = w'))
    (C2 : Hid (∀ w, Calls Tryd.prog 46 #[.string d, .string ⟨#[120]⟩] w fun e w' => e = .returned (.tuple #[.string d2, .bool true]) ∧ w = w')) (h8 : d2.size ≤ 8) (x : Int) (hx0 : x ≤ 2147483647) (CP : Hid (Calls Tryd.prog 47 #[.string d2, .int .i64 16, .int .i64 31] w (PPost x w))) :
    Calls Tryd.prog 39 #[.string t] w (NmPost (chrOr x) w) := by
  have i8 : decide ((8 : Int) < (d2.size : Int)) = false := by rw [decide_eq_false_iff_not]; omega
  have j8 : decide (8 < d2.size) = false := by rw [decide_eq_false_iff_not]; omega
  clear h8
  go_enter Tryd.func39, Tryd.ntmps39
  go_wp2_with fail
  refine (C1.out _).mono ?_
  rintro e w' ⟨rfl, rfl⟩
  go_wp2_with fail
  refine (C2.out _).mono ?_
  rintro e w' ⟨rfl, rfl⟩
  go_wp2_with fail
  refine CP.out.mono ?_
  rintro e w1 ⟨h, hb⟩
  clear CP C1 C2
  rcases h with ⟨h0, rfl⟩ | ⟨h0, y, n, rfl⟩
  · by_cases hc : Chr x
    · have CC : Hid (∀ w, Calls Tryd.prog 43 #[.int .i32 x] w fun e w' => e = .returned (.bool true) ∧ w = w') := Lib.hid fun w => by
        have := chr_any x w
        rw [decide_eq_true hc] at this
        exact this
      have HC : Hid (chrOr x = x) := Lib.hid (if_pos hc)
      have q : IntKind.i32.wrap x = x := by
        rw [IntKind.wrap_i32]; omega
      clear hc
      go_wp2_with (go_at_call 43; refine (CC.out _).mono ?_; rintro e w' ⟨rfl, rfl⟩)
      go_ret2
      exact ⟨.inl ⟨by rw [HC.out]; exact h0, by rw [HC.out]; rfl⟩, hb⟩
    · have CC : Hid (∀ w, Calls Tryd.prog 43 #[.int .i32 x] w fun e w' => e = .returned (.bool false) ∧ w = w') := Lib.hid fun w => by
        have := chr_any x w
        rw [decide_eq_false hc] at this
        exact this
      have HC : Hid (chrOr x = -1) := Lib.hid (if_neg hc)
      have q : IntKind.i32.wrap x = x := by
        rw [IntKind.wrap_i32]; omega
      clear hc
      go_wp2_with (go_at_call 43; refine (CC.out _).mono ?_; rintro e w' ⟨rfl, rfl⟩)
      go_ret2
      exact ⟨.inr ⟨by rw [HC.out]; omega, rfl⟩, hb⟩
  · have HC : Hid (chrOr x = -1) := Lib.hid (by rw [h0]; exact chrOr_neg)
    clear h0 hx0
    go_wp2
    go_ret2
    exact ⟨.inr ⟨by rw [HC.out]; omega, rfl⟩, hb⟩

theorem numV_eq (b : Int) (hb : 1 ≤ b) (t : ByteArray) (h8 : t.size ≤ 8) : numV b (byts t) = chrOr (if t.size = 0 then -1 else puGo b (byts t) 0) := by
  unfold numV
  by_cases h0 : t.size = 0
  · rw [if_pos h0, chrOr_neg, if_pos (.inl (List.eq_nil_of_length_eq_zero (by rw [byts_len]; exact h0)))]
  · rw [if_neg h0, if_neg, pu_num b hb]
    rintro (h | h)
    · have := congrArg List.length h
      rw [byts_len, List.length_nil] at this
      exact h0 this
    · rw [byts_len] at h; omega
theorem pu_le (b : Int) (hb : 1 ≤ b) (t : ByteArray) : (if t.size = 0 then -1 else puGo b (byts t) 0) ≤ 2147483647 := by
  split
  · omega
  · rcases puGo_bd b hb (byts t) 0 (by omega) (by omega) with h | h <;> omega
theorem numbered_any (t : ByteArray) (w : World) (hs : t.size ≤ 1000000) (hV : Vars w) : Calls Tryd.prog 39 #[.string t] w (NmPost (nrV (byts t)) w) := by
  unfold nrV
  by_cases h1 : (byts t).getD 0 0 = 35
  · rw [if_neg (by simpa using h1)]
    have C1 := Lib.hid (cp_yes t 35 (by decide) h1)
    have hd : (byts (t.extract 1 t.size)).getD 0 0 = (byts t).getD 1 0 := by
      rw [byts_from]; simp [List.getD_eq_getElem?_getD, List.getElem?_drop]
    have hz : (t.extract 1 t.size).size ≤ 1000000 := by rw [size_from]; omega
    by_cases h2 : (byts t).getD 1 0 = 120
    · rw [if_pos h2]
      have C2 := Lib.hid (cp_yes (t.extract 1 t.size) 120 (by decide) (by rw [hd]; exact h2))
      have e : (byts t).drop 2 = byts ((t.extract 1 t.size).extract 1 (t.extract 1 t.size).size) := by rw [byts_from, byts_from, List.drop_drop]
      have hz2 : ((t.extract 1 t.size).extract 1 (t.extract 1 t.size).size).size ≤ 1000000 := by rw [size_from]; omega
      rw [e]
      by_cases h8 : 8 < ((t.extract 1 t.size).extract 1 (t.extract 1 t.size).size).size
      · refine (num_hex_long t _ _ w C1 C2 h8).mono ?_
        rintro e w' ⟨rfl, hb⟩
        refine ⟨.inr ⟨?_, rfl⟩, hb⟩
        unfold numV
        rw [if_pos (.inr (by rw [byts_len]; exact h8))]
        omega
      · rw [numV_eq 16 (by omega) _ (by omega)]
        exact num_hex t _ _ w C1 C2 (by omega) _ (pu_le 16 (by omega) _) (Lib.hid (parse_any _ 16 (.inr rfl) w hz2 hV))
    · rw [if_neg h2]
      have C2 := Lib.hid (cp_no (t.extract 1 t.size) 120 (by rw [hd]; exact h2))
      rw [← byts_from]
      by_cases h8 : 8 < (t.extract 1 t.size).size
      · refine (num_dec_long t _ _ w C1 C2 h8).mono ?_
        rintro e w' ⟨rfl, hb⟩
        refine ⟨.inr ⟨?_, rfl⟩, hb⟩
        unfold numV
        rw [if_pos (.inr (by rw [byts_len]; exact h8))]
        omega
      · rw [numV_eq 10 (by omega) _ (by omega)]
        exact num_dec t _ _ w C1 C2 (by omega) _ (pu_le 10 (by omega) _) (Lib.hid (parse_any _ 10 (.inl rfl) w hz hV))
  · rw [if_pos h1]
    have C1 := Lib.hid (cp_no t 35 h1)
    have fin : ∀ (d2 : ByteArray) (is : Bool), Hid (∀ w, Calls Tryd.prog 46 #[.string t, .string ⟨#[120]⟩] w fun e w' => e = .returned (.tuple #[.string d2, .bool is]) ∧ w = w') → Calls Tryd.prog 39 #[.string t] w (NmPost (-1) w) := fun d2 is C2 => by
      refine (num_no t d2 is w C1 C2).mono ?_
      rintro e w' ⟨rfl, hb⟩
      exact ⟨.inr ⟨by omega, rfl⟩, hb⟩
    by_cases h2 : (byts t).getD 0 0 = 120
    · exact fin _ _ (Lib.hid (cp_yes t 120 (by decide) h2))
    · exact fin _ _ (Lib.hid (cp_no t 120 h2))
end Go.Proofs.YtkaimohkdkdbmaaDoor
