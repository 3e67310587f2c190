/-
  Merged by program out of the texts RuneAny, Numd, Gath, Next of one seat.
-/
import Derived.Test.YtnomcldpbkinmaaGreatDoorG05
import Derived.Test.YtnomcldpbkinmaaGreatDoorG04

/- utf.Rune, of whatever bytes, at whatever place. -/
set_option linter.unusedSimpArgs false
set_option linter.unusedVariables false
namespace Go.Proofs.YtnomcldpbkinmaaGreatDoor
open Go.RowKit

set_option maxHeartbeats 400000 in
theorem rune_out (s : ByteArray) (a : Int) (w : World) (hs : s.size ≤ maxLen) (ha : a < 0 ∨ (s.size : Int) ≤ a) :
    Calls Tryz.prog 141 #[.string s, .int .i64 a] w fun e w' => e = .returned (R3 (0, 0, 7)) ∧ w = w' := by
  unfold maxLen at hs
  by_cases h : a < 0
  · clear ha
    go_enter Tryz.func141, Tryz.ntmps141
    go_wp2
    go_ret3
    exact ⟨rfl, rfl⟩
  · have h2 : (s.size : Int) ≤ a := by omega
    clear ha
    go_enter Tryz.func141, Tryz.ntmps141
    go_wp2
    go_ret3
    exact ⟨rfl, rfl⟩

theorem rune_any (s : ByteArray) (a : Int) (w : World) (hs : s.size ≤ maxLen) :
    Calls Tryz.prog 141 #[.string s, .int .i64 a] w fun e w' => e = .returned (R3 (runeF s a)) ∧ w = w' := by
  unfold runeF
  by_cases h : a < 0 ∨ (s.size : Int) ≤ a
  · rw [if_pos h]
    exact rune_out s a w hs h
  · rw [if_neg h]
    obtain ⟨n, rfl⟩ := Int.eq_ofNat_of_zero_le (show 0 ≤ a by omega)
    rw [Int.toNat_natCast, ← rgo_canon _ _ (by omega) (fun k => bt_lo s _) (fun k => bt_hi s _)]
    exact rune_in s n w hs (by omega)
theorem rune_at (s : ByteArray) (a : Nat) (w : World) (hs : s.size ≤ maxLen) :
    Calls Tryz.prog 141 #[.string s, .int .i64 a] w fun e w' => e = .returned (.tuple #[.int .i32 (runeF s a).1, .int .i64 (runeF s a).2.1, .int .i64 (runeF s a).2.2]) ∧ w = w' := rune_any s a w hs
end Go.Proofs.YtnomcldpbkinmaaGreatDoor

/- The walks of ref.numbered and of the gatherer's methods. -/
set_option linter.unusedSimpArgs false
set_option linter.unusedVariables false
namespace Go.Proofs.YtnomcldpbkinmaaGreatDoor
open Go.RowKit

theorem byts_from (t : ByteArray) (k : Nat) : byts (t.extract k t.size) = (byts t).drop k := by
  rw [byts_extract, List.take_of_length_le (by rw [byts_len]; omega)]
theorem byts_to (t : ByteArray) (k : Nat) : byts (t.extract 0 k) = (byts t).take k := by
  rw [byts_extract, List.drop_zero]
theorem size_from (t : ByteArray) (k : Nat) : (t.extract k t.size).size = t.size - k := by
  rw [← byts_len, byts_from, List.length_drop, byts_len]

/-- What a function answers that looks for a rune. -/
def NmPost (r : Int) (w : World) (e : Ending) (w' : World) : Prop :=
  ((0 ≤ r ∧ e = .returned (.tuple #[.int .i32 r, .bool true])) ∨ (r < 0 ∧ e = .returned (.tuple #[.int .i32 0, .bool false]))) ∧ Below w.heap.size w w'

set_option maxHeartbeats 2000000 in
set_option maxRecDepth 100000 in
theorem num_no (t d2 : ByteArray) (is : Bool) (w : World)
    (C1 : Hid (∀ w, Calls Tryz.prog 83 #[.string t, .string ⟨#[35]⟩] w fun e w' => e = .returned (.tuple #[.string t, .bool false]) ∧ w = w'))
    (C2 : Hid (∀ w, Calls Tryz.prog 83 #[.string t, .string ⟨#[120]⟩] w fun e w' => e = .returned (.tuple #[.string d2, .bool is]) ∧ w = w')) :
    Calls Tryz.prog 188 #[.string t] w fun e w' => e = .returned (.tuple #[.int .i32 0, .bool false]) ∧ Below w.heap.size w w' := by
  cases is
  all_goals
    go_enter Tryz.func188, Tryz.ntmps188
    go_wp2_with fail
    refine (C1.out _).mono ?_
    rintro e w' ⟨rfl, rfl⟩
    go_wp2_with fail
    refine (C2.out _).mono ?_
    rintro e w' ⟨rfl, rfl⟩
    go_wp2
    go_ret2
    exact ⟨rfl, Below.refl _ _⟩

set_option maxHeartbeats 2000000 in
set_option maxRecDepth 100000 in
theorem num_dec_long (t d d2 : ByteArray) (w : World)
    (C1 : Hid (∀ w, Calls Tryz.prog 83 #[.string t, .string ⟨#[35]⟩] w fun e w' => e = .returned (.tuple #[.string d, .bool true]) ∧ w = w'))
    (C2 : Hid (∀ w, Calls Tryz.prog 83 #[.string d, .string ⟨#[120]⟩] w fun e w' => e = .returned (.tuple #[.string d2, .bool false]) ∧ w = w')) (h8 : 8 < d.size) :
    Calls Tryz.prog 188 #[.string t] w fun e w' => e = .returned (.tuple #[.int .i32 0, .bool false]) ∧ Below w.heap.size w w' := by
  have i8 : decide ((8 : Int) < (d.size : Int)) = true := by rw [decide_eq_true_eq]; omega
  have j8 : decide (8 < d.size) = true := by rw [decide_eq_true_eq]; omega
  clear h8
  go_enter Tryz.func188, Tryz.ntmps188
  go_wp2_with fail
  refine (C1.out _).mono ?_
  rintro e w' ⟨rfl, rfl⟩
  go_wp2_with fail
  refine (C2.out _).mono ?_
  rintro e w' ⟨rfl, rfl⟩
  go_wp2
  go_ret2
  exact ⟨rfl, Below.refl _ _⟩

set_option maxHeartbeats 2000000 in
set_option maxRecDepth 100000 in
theorem num_dec (t d d2 : ByteArray) (w : World)
    (C1 : Hid (∀ w, Calls Tryz.prog 83 #[.string t, .string ⟨#[35]⟩] w fun e w' => e = .returned (.tuple #[.string d, .bool true]) ∧ w = w'))
    (C2 : Hid (∀ w, Calls Tryz.prog 83 #[.string d, .string ⟨#[120]⟩] w fun e w' => e = .returned (.tuple #[.string d2, .bool false]) ∧ w = w')) (h8 : d.size ≤ 8) (x : Int) (hx0 : x ≤ 2147483647) (CP : Hid (Calls Tryz.prog 197 #[.string d, .int .i64 10, .int .i64 31] w (PPost x w))) :
    Calls Tryz.prog 188 #[.string t] w (NmPost (chrOr x) w) := by
  have i8 : decide ((8 : Int) < (d.size : Int)) = false := by rw [decide_eq_false_iff_not]; omega
  have j8 : decide (8 < d.size) = false := by rw [decide_eq_false_iff_not]; omega
  clear h8
  go_enter Tryz.func188, Tryz.ntmps188
  go_wp2_with fail
  refine (C1.out _).mono ?_
  rintro e w' ⟨rfl, rfl⟩
  go_wp2_with fail
  refine (C2.out _).mono ?_
  rintro e w' ⟨rfl, rfl⟩
  go_wp2_with fail
  refine CP.out.mono ?_
  rintro e w1 ⟨h, hb⟩
  clear CP C1 C2
  rcases h with ⟨h0, rfl⟩ | ⟨h0, y, n, rfl⟩
  · by_cases hc : Chr x
    · have CC : Hid (∀ w, Calls Tryz.prog 115 #[.int .i32 x] w fun e w' => e = .returned (.bool true) ∧ w = w') := Lib.hid fun w => by
        have := chr_any x w
        rw [decide_eq_true hc] at this
        exact this
      have HC : Hid (chrOr x = x) := Lib.hid (if_pos hc)
      have q : IntKind.i32.wrap x = x := by
        rw [IntKind.wrap_i32]; omega
      clear hc
      go_wp2_with (go_at_call 115; refine (CC.out _).mono ?_; rintro e w' ⟨rfl, rfl⟩)
      go_ret2
      exact ⟨.inl ⟨by rw [HC.out]; exact h0, by rw [HC.out]; rfl⟩, hb⟩
    · have CC : Hid (∀ w, Calls Tryz.prog 115 #[.int .i32 x] w fun e w' => e = .returned (.bool false) ∧ w = w') := Lib.hid fun w => by
        have := chr_any x w
        rw [decide_eq_false hc] at this
        exact this
      have HC : Hid (chrOr x = -1) := Lib.hid (if_neg hc)
      have q : IntKind.i32.wrap x = x := by
        rw [IntKind.wrap_i32]; omega
      clear hc
      go_wp2_with (go_at_call 115; refine (CC.out _).mono ?_; rintro e w' ⟨rfl, rfl⟩)
      go_ret2
      exact ⟨.inr ⟨by rw [HC.out]; omega, rfl⟩, hb⟩
  · have HC : Hid (chrOr x = -1) := Lib.hid (by rw [h0]; exact chrOr_neg)
    clear h0 hx0
    go_wp2
    go_ret2
    exact ⟨.inr ⟨by rw [HC.out]; omega, rfl⟩, hb⟩

set_option maxHeartbeats 2000000 in
set_option maxRecDepth 100000 in
theorem num_hex_long (t d d2 : ByteArray) (w : World)
    (C1 : Hid (∀ w, Calls Tryz.prog 83 #[.string t, .string ⟨#[35]⟩] w fun e w' => e = .returned (.tuple #[.string d, .bool true]) ∧ w = w'))
    (C2 : Hid (∀ w, Calls Tryz.prog 83 #[.string d, .string ⟨#[120]⟩] w fun e w' => e = .returned (.tuple #[.string d2, .bool true]) ∧ w = w')) (h8 : 8 < d2.size) :
    Calls Tryz.prog 188 #[.string t] w fun e w' => e = .returned (.tuple #[.int .i32 0, .bool false]) ∧ Below w.heap.size w w' := by
  have i8 : decide ((8 : Int) < (d2.size : Int)) = true := by rw [decide_eq_true_eq]; omega
  have j8 : decide (8 < d2.size) = true := by rw [decide_eq_true_eq]; omega
  clear h8
  go_enter Tryz.func188, Tryz.ntmps188
  go_wp2_with fail
  refine (C1.out _).mono ?_
  rintro e w' ⟨rfl, rfl⟩
  go_wp2_with fail
  refine (C2.out _).mono ?_
  rintro e w' ⟨rfl, rfl⟩
  go_wp2
  go_ret2
  exact ⟨rfl, Below.refl _ _⟩

set_option maxHeartbeats 2000000 in
set_option maxRecDepth 100000 in
theorem num_hex (t d d2 : ByteArray) (w : World)
    (C1 : Hid (∀ w, Calls Tryz.prog 83 #[.string t, .string ⟨#[35]⟩] w fun e w' => e = .returned (.tuple #[.string d, .bool true]) ∧ w = w'))
    (C2 : Hid (∀ w, Calls Tryz.prog 83 #[.string d, .string ⟨#[120]⟩] w fun e w' => e = .returned (.tuple #[.string d2, .bool true]) ∧ w = w')) (h8 : d2.size ≤ 8) (x : Int) (hx0 : x ≤ 2147483647) (CP : Hid (Calls Tryz.prog 197 #[.string d2, .int .i64 16, .int .i64 31] w (PPost x w))) :
    Calls Tryz.prog 188 #[.string t] w (NmPost (chrOr x) w) := by
  have i8 : decide ((8 : Int) < (d2.size : Int)) = false := by rw [decide_eq_false_iff_not]; omega
  have j8 : decide (8 < d2.size) = false := by rw [decide_eq_false_iff_not]; omega
  clear h8
  go_enter Tryz.func188, Tryz.ntmps188
  go_wp2_with fail
  refine (C1.out _).mono ?_
  rintro e w' ⟨rfl, rfl⟩
  go_wp2_with fail
  refine (C2.out _).mono ?_
  rintro e w' ⟨rfl, rfl⟩
  go_wp2_with fail
  refine CP.out.mono ?_
  rintro e w1 ⟨h, hb⟩
  clear CP C1 C2
  rcases h with ⟨h0, rfl⟩ | ⟨h0, y, n, rfl⟩
  · by_cases hc : Chr x
    · have CC : Hid (∀ w, Calls Tryz.prog 115 #[.int .i32 x] w fun e w' => e = .returned (.bool true) ∧ w = w') := Lib.hid fun w => by
        have := chr_any x w
        rw [decide_eq_true hc] at this
        exact this
      have HC : Hid (chrOr x = x) := Lib.hid (if_pos hc)
      have q : IntKind.i32.wrap x = x := by
        rw [IntKind.wrap_i32]; omega
      clear hc
      go_wp2_with (go_at_call 115; refine (CC.out _).mono ?_; rintro e w' ⟨rfl, rfl⟩)
      go_ret2
      exact ⟨.inl ⟨by rw [HC.out]; exact h0, by rw [HC.out]; rfl⟩, hb⟩
    · have CC : Hid (∀ w, Calls Tryz.prog 115 #[.int .i32 x] w fun e w' => e = .returned (.bool false) ∧ w = w') := Lib.hid fun w => by
        have := chr_any x w
        rw [decide_eq_false hc] at this
        exact this
      have HC : Hid (chrOr x = -1) := Lib.hid (if_neg hc)
      have q : IntKind.i32.wrap x = x := by
        rw [IntKind.wrap_i32]; omega
      clear hc
      go_wp2_with (go_at_call 115; refine (CC.out _).mono ?_; rintro e w' ⟨rfl, rfl⟩)
      go_ret2
      exact ⟨.inr ⟨by rw [HC.out]; omega, rfl⟩, hb⟩
  · have HC : Hid (chrOr x = -1) := Lib.hid (by rw [h0]; exact chrOr_neg)
    clear h0 hx0
    go_wp2
    go_ret2
    exact ⟨.inr ⟨by rw [HC.out]; omega, rfl⟩, hb⟩

theorem numV_eq (b : Int) (hb : 1 ≤ b) (t : ByteArray) (h8 : t.size ≤ 8) : numV b (byts t) = chrOr (if t.size = 0 then -1 else puGo b (byts t) 0) := by
  unfold numV
  by_cases h0 : t.size = 0
  · rw [if_pos h0, chrOr_neg, if_pos (.inl (List.eq_nil_of_length_eq_zero (by rw [byts_len]; exact h0)))]
  · rw [if_neg h0, if_neg, pu_num b hb]
    rintro (h | h)
    · have := congrArg List.length h
      rw [byts_len, List.length_nil] at this
      exact h0 this
    · rw [byts_len] at h; omega
theorem pu_le (b : Int) (hb : 1 ≤ b) (t : ByteArray) : (if t.size = 0 then -1 else puGo b (byts t) 0) ≤ 2147483647 := by
  split
  · omega
  · rcases puGo_bd b hb (byts t) 0 (by omega) (by omega) with h | h <;> omega
theorem numbered_any (t : ByteArray) (w : World) (hs : t.size ≤ 1000000) (hV : Vars w) : Calls Tryz.prog 188 #[.string t] w (NmPost (nrV (byts t)) w) := by
  unfold nrV
  by_cases h1 : (byts t).getD 0 0 = 35
  · rw [if_neg (by simpa using h1)]
    have C1 := Lib.hid (cp_yes t 35 (by decide) h1)
    have hd : (byts (t.extract 1 t.size)).getD 0 0 = (byts t).getD 1 0 := by
      rw [byts_from]; simp [List.getD_eq_getElem?_getD, List.getElem?_drop]
    have hz : (t.extract 1 t.size).size ≤ 1000000 := by rw [size_from]; omega
    by_cases h2 : (byts t).getD 1 0 = 120
    · rw [if_pos h2]
      have C2 := Lib.hid (cp_yes (t.extract 1 t.size) 120 (by decide) (by rw [hd]; exact h2))
      have e : (byts t).drop 2 = byts ((t.extract 1 t.size).extract 1 (t.extract 1 t.size).size) := by rw [byts_from, byts_from, List.drop_drop]
      have hz2 : ((t.extract 1 t.size).extract 1 (t.extract 1 t.size).size).size ≤ 1000000 := by rw [size_from]; omega
      rw [e]
      by_cases h8 : 8 < ((t.extract 1 t.size).extract 1 (t.extract 1 t.size).size).size
      · refine (num_hex_long t _ _ w C1 C2 h8).mono ?_
        rintro e w' ⟨rfl, hb⟩
        refine ⟨.inr ⟨?_, rfl⟩, hb⟩
        unfold numV
        rw [if_pos (.inr (by rw [byts_len]; exact h8))]
        omega
      · rw [numV_eq 16 (by omega) _ (by omega)]
        exact num_hex t _ _ w C1 C2 (by omega) _ (pu_le 16 (by omega) _) (Lib.hid (parse_any _ 16 (.inr rfl) w hz2 hV))
    · rw [if_neg h2]
      have C2 := Lib.hid (cp_no (t.extract 1 t.size) 120 (by rw [hd]; exact h2))
      rw [← byts_from]
      by_cases h8 : 8 < (t.extract 1 t.size).size
      · refine (num_dec_long t _ _ w C1 C2 h8).mono ?_
        rintro e w' ⟨rfl, hb⟩
        refine ⟨.inr ⟨?_, rfl⟩, hb⟩
        unfold numV
        rw [if_pos (.inr (by rw [byts_len]; exact h8))]
        omega
      · rw [numV_eq 10 (by omega) _ (by omega)]
        exact num_dec t _ _ w C1 C2 (by omega) _ (pu_le 10 (by omega) _) (Lib.hid (parse_any _ 10 (.inl rfl) w hz hV))
  · rw [if_pos h1]
    have C1 := Lib.hid (cp_no t 35 h1)
    have fin : ∀ (d2 : ByteArray) (is : Bool), Hid (∀ w, Calls Tryz.prog 83 #[.string t, .string ⟨#[120]⟩] w fun e w' => e = .returned (.tuple #[.string d2, .bool is]) ∧ w = w') → Calls Tryz.prog 188 #[.string t] w (NmPost (-1) w) := fun d2 is C2 => by
      refine (num_no t d2 is w C1 C2).mono ?_
      rintro e w' ⟨rfl, hb⟩
      exact ⟨.inr ⟨by omega, rfl⟩, hb⟩
    by_cases h2 : (byts t).getD 0 0 = 120
    · exact fin _ _ (Lib.hid (cp_yes t 120 (by decide) h2))
    · exact fin _ _ (Lib.hid (cp_no t 120 h2))
end Go.Proofs.YtnomcldpbkinmaaGreatDoor

/- The walks of the gatherer's methods: reference, blank, plain, next, mask. -/
set_option linter.unusedSimpArgs false
set_option linter.unusedVariables false
namespace Go.Proofs.YtnomcldpbkinmaaGreatDoor
open Go.RowKit

theorem chr_good {r : Int} (h : Chr r) : ¬ Bad r := by unfold Chr Btw at h; unfold Bad; omega
theorem chrOr_good {x : Int} (h : 0 ≤ chrOr x) : Chr (chrOr x) := by
  have := chrOr_chr (n := x) (by omega)
  rw [this.2]; exact this.1
theorem numV_chr (b : Int) (l : List Int) (h : 0 ≤ numV b l) : Chr (numV b l) := by
  unfold numV at h ⊢
  split at h
  · omega
  · rw [if_neg (by assumption)]; exact chrOr_good h
theorem nrV_chr (l : List Int) (h : 0 ≤ nrV l) : Chr (nrV l) := by
  unfold nrV at h ⊢
  by_cases h1 : l.getD 0 0 ≠ 35
  · rw [if_pos h1] at h; omega
  rw [if_neg h1] at h ⊢
  by_cases h2 : l.getD 1 0 = 120
  · rw [if_pos h2] at h ⊢; exact numV_chr _ _ h
  · rw [if_neg h2] at h ⊢; exact numV_chr _ _ h
theorem nmV_chr (l : List Int) (h : 0 ≤ nmV l) : Chr (nmV l) := by
  unfold nmV at h ⊢
  repeat' split
  all_goals first
    | (unfold Chr Btw; omega)
    | (exfalso; simp [*] at h)
theorem refV_chr (l : List Int) (h : 0 ≤ refV l) : Chr (refV l) := by
  rw [refV_eq] at h ⊢
  by_cases h1 : 0 ≤ nmV l
  · rw [if_pos h1]; exact nmV_chr l h1
  · rw [if_neg h1] at h ⊢; exact nrV_chr l h

/-- What a method answers that gathers one thing. -/
def StPost (B b : Nat) (v : Bool) (bs : List Int) (x : Int × List Int × Nat) (w : World) (e : Ending) (w' : World) : Prop :=
  e = .returned (.tuple #[.int .i64 x.2.2, .int .i64 x.1]) ∧ (x.1 = 0 → Gat B b v (bs ++ x.2.1) w') ∧ Below B w w'
/-- A reference, of which rest stands behind the &. -/
def rfF (rest : List Int) : Int × List Int × Nat :=
  if 59 ∈ rest ∧ 0 ≤ refV (bodyOf rest) then (0, encB (refV (bodyOf rest)), (bodyOf rest).length + 2) else (5, [], 0)

set_option maxHeartbeats 2000000 in
set_option maxRecDepth 100000 in
theorem ref_miss (b : Nat) (s : ByteArray) (w : World) (C1 : Hid (∀ w, Calls Tryz.prog 123 #[.string s, .string ⟨#[59]⟩] w fun e w' => e = .returned (.tuple #[.string s, .string ⟨#[]⟩, .bool false]) ∧ Below w.heap.size w w')) :
    Calls Tryz.prog 172 #[.pointer (some ⟨b, 0, none⟩), .string s] w fun e w' => e = .returned (.tuple #[.int .i64 0, .int .i64 5]) ∧ Below w.heap.size w w' := by
  go_enter Tryz.func172, Tryz.ntmps172
  go_wp2_with fail
  refine (C1.out _).mono ?_
  rintro e w1 ⟨rfl, hb⟩
  go_wp2
  go_ret2
  exact ⟨rfl, hb⟩
set_option maxHeartbeats 2000000 in
set_option maxRecDepth 100000 in
/-- A name. -/
theorem ref_name (B b : Nat) (v : Bool) (bs : List Int) (s t u : ByteArray) (r : Int) (w : World) (hg : Gat B b v bs w) (hB : B ≤ w.heap.size) (hl : bs.length ≤ 1000000) (ht : t.size ≤ 1000000) (hr : ¬ Bad r)
    (C1 : Hid (∀ w, Calls Tryz.prog 123 #[.string s, .string ⟨#[59]⟩] w fun e w' => e = .returned (.tuple #[.string t, .string u, .bool true]) ∧ Below w.heap.size w w'))
    (C2 : Hid (∀ w, Calls Tryz.prog 187 #[.string t] w fun e w' => e = .returned (.tuple #[.int .i32 r, .bool true]) ∧ w = w')) :
    Calls Tryz.prog 172 #[.pointer (some ⟨b, 0, none⟩), .string s] w (StPost B b v bs (0, encB r, t.size + 2) w) := by
  go_enter Tryz.func172, Tryz.ntmps172
  go_wp2_with fail
  refine (C1.out _).mono ?_
  rintro e w1 ⟨rfl, hb⟩
  go_wp2_with fail
  refine (C2.out _).mono ?_
  rintro e w1' ⟨rfl, rfl⟩
  have CW := Lib.hid (wrune_any B b v bs r w1 (hg.keep hb) (Nat.le_trans hB hb.size) hl hr)
  clear C1 C2 hg
  go_wp2_with fail
  refine CW.out.mono ?_
  rintro e w2 ⟨⟨n, rfl⟩, h2, hb2⟩
  clear CW
  go_wp2
  go_ret2
  exact ⟨ret_two (by simp; omega) rfl, fun _ => h2, (hb.mono hB).trans hb2⟩
def rnF (r : Int) (n : Nat) : Int × List Int × Nat := if 0 ≤ r then (0, encB r, n + 2) else (5, [], 0)
theorem st_of {B b : Nat} {v : Bool} {bs : List Int} {x y : Int × List Int × Nat} {w w' : World} {e : Ending} (h : x = y) (hp : StPost B b v bs y w e w') : StPost B b v bs x w e w' := by rw [h]; exact hp
theorem rnF_yes {r : Int} (n : Nat) (h : 0 ≤ r) : rnF r n = (0, encB r, n + 2) := if_pos h
theorem rnF_no {r : Int} (n : Nat) (h : ¬ 0 ≤ r) : rnF r n = (5, [], 0) := if_neg h
set_option maxHeartbeats 2000000 in
set_option maxRecDepth 100000 in
/-- No name. -/
theorem ref_num (B b : Nat) (v : Bool) (bs : List Int) (s t u : ByteArray) (r : Int) (w : World) (hg : Gat B b v bs w) (hB : B ≤ w.heap.size) (hl : bs.length ≤ 1000000) (ht : t.size ≤ 1000000) (hr : 0 ≤ r → ¬ Bad r)
    (C1 : Hid (∀ w, Calls Tryz.prog 123 #[.string s, .string ⟨#[59]⟩] w fun e w' => e = .returned (.tuple #[.string t, .string u, .bool true]) ∧ Below w.heap.size w w'))
    (C2 : Hid (∀ w, Calls Tryz.prog 187 #[.string t] w fun e w' => e = .returned (.tuple #[.int .i32 0, .bool false]) ∧ w = w'))
    (C3 : Hid (∀ w1, Below w.heap.size w w1 → Calls Tryz.prog 188 #[.string t] w1 (NmPost r w1))) :
    Calls Tryz.prog 172 #[.pointer (some ⟨b, 0, none⟩), .string s] w (StPost B b v bs (rnF r t.size) w) := by
  go_enter Tryz.func172, Tryz.ntmps172
  go_wp2_with fail
  refine (C1.out _).mono ?_
  rintro e w1 ⟨rfl, hb⟩
  go_wp2_with fail
  refine (C2.out _).mono ?_
  rintro e w1' ⟨rfl, rfl⟩
  go_wp2_with fail
  refine (C3.out _ hb).mono ?_
  rintro e w2 ⟨h, hb2⟩
  have hb3 : Below w.heap.size w w2 := hb.trans (hb2.mono hb.size)
  rcases h with ⟨h0, rfl⟩ | ⟨h0, rfl⟩
  · have CW := Lib.hid (wrune_any B b v bs r w2 (hg.keep hb3) (Nat.le_trans hB hb3.size) hl (hr h0))
    have HR := Lib.hid (rnF_yes t.size h0)
    clear C1 C2 C3 hg hb hb2 h0 hr
    go_wp2_with fail
    refine CW.out.mono ?_
    rintro e w4 ⟨⟨n, rfl⟩, h2, hb4⟩
    clear CW
    go_wp2
    go_ret2
    exact st_of HR.out ⟨ret_two (by simp; omega) rfl, fun _ => h2, (hb3.mono hB).trans hb4⟩
  · have HR := Lib.hid (rnF_no t.size (show ¬ 0 ≤ r by omega))
    clear C1 C2 C3 hg hb hb2 h0 hr
    go_wp2
    go_ret2
    exact st_of HR.out ⟨rfl, fun h => absurd h (by decide), hb3.mono hB⟩
theorem ref_any (B b : Nat) (v : Bool) (bs : List Int) (s : ByteArray) (w : World) (hg : Gat B b v bs w) (hB : B ≤ w.heap.size) (hl : bs.length ≤ 1000000) (hs : s.size ≤ 1000000) (hV : Vars w) :
    Calls Tryz.prog 172 #[.pointer (some ⟨b, 0, none⟩), .string s] w (StPost B b v bs (rfF (byts s)) w) := by
  unfold rfF
  rcases si_cases s with ⟨h1, h2⟩ | ⟨i, h1, h2, h3, h4⟩
  · rw [if_neg (fun h => h2 h.1)]
    refine (ref_miss b s w (Lib.hid (scut_miss s h1))).mono ?_
    rintro e w' ⟨rfl, hb⟩
    exact ⟨rfl, fun h => absurd h (by decide), hb.mono hB⟩
  · have C1 := Lib.hid (scut_hit s i h1 h2 hs)
    have hbody : bodyOf (byts s) = byts (s.extract 0 i) := by rw [h4, byts_to]
    have hsz : (s.extract 0 i).size ≤ 1000000 := by
      rw [← byts_len, byts_to, List.length_take, byts_len]; omega
    rw [hbody, byts_len]
    by_cases hn : 0 ≤ nmV (byts (s.extract 0 i))
    · have e : refV (byts (s.extract 0 i)) = nmV (byts (s.extract 0 i)) := by rw [refV_eq, if_pos hn]
      rw [e, if_pos ⟨h3, hn⟩]
      exact ref_name B b v bs s _ _ _ w hg hB hl hsz (chr_good (nmV_chr _ hn)) C1 (Lib.hid (named_yes _ _ rfl hn))
    · have e : refV (byts (s.extract 0 i)) = nrV (byts (s.extract 0 i)) := by rw [refV_eq, if_neg hn]
      rw [e]
      have := ref_num B b v bs s _ _ (nrV (byts (s.extract 0 i))) w hg hB hl hsz (fun h => chr_good (nrV_chr _ h)) C1 (Lib.hid (named_no _ hn)) (Lib.hid fun w1 hb => numbered_any _ w1 hsz (hV.keep hb hV.1))
      by_cases h0 : 0 ≤ nrV (byts (s.extract 0 i))
      · rw [rnF_yes _ h0] at this; rw [if_pos ⟨h3, h0⟩]; exact this
      · rw [rnF_no _ h0] at this; rw [if_neg (fun h => h0 h.2)]; exact this

set_option maxHeartbeats 2000000 in
set_option maxRecDepth 100000 in
theorem blank_g (B b : Nat) (v : Bool) (bs : List Int) (c : Int) (w : World) (hg : Gat B b v bs w) (hB : B ≤ w.heap.size) (hl : bs.length ≤ 1000000) (h0 : 0 ≤ c) (h1 : c ≤ 255) :
    Calls Tryz.prog 173 #[.pointer (some ⟨b, 0, none⟩), .int .u8 c] w fun e w' => e = .returned (.tuple #[]) ∧ Gat B b v (bs ++ [blk v c]) w' ∧ Below B w w' := by
  have hv := hg.value
  cases v
  · have CW := Lib.hid (wbyte_any B b false bs c w hg hB hl h0 h1)
    clear hg
    go_enter Tryz.func173, Tryz.ntmps173
    go_wp2_with fail
    refine CW.out.mono ?_
    rintro e w1 ⟨rfl, h2, hb⟩
    go_wp2
    go_end0
    exact ⟨rfl, h2, hb⟩
  · have CW := Lib.hid (wbyte_any B b true bs 32 w hg hB hl (by omega) (by omega))
    clear hg
    go_enter Tryz.func173, Tryz.ntmps173
    go_wp2_with fail
    refine CW.out.mono ?_
    rintro e w1 ⟨rfl, h2, hb⟩
    go_wp2
    go_end0
    exact ⟨rfl, h2, hb⟩

/-- A rune that stands for itself. -/
def plF (l : List Int) : Int × List Int × Nat :=
  if (dec1 l).2.2 ≠ 0 then ((dec1 l).2.2, [], 0) else if Chr (dec1 l).1 then (0, encB (dec1 l).1, (dec1 l).2.1.toNat) else (3, [], 0)

set_option maxHeartbeats 2000000 in
set_option maxRecDepth 100000 in
theorem plain_err (B b : Nat) (s : ByteArray) (k : Nat) (er r n : Int) (w : World) (hne : er ≠ 0) (C1 : Hid (Calls Tryz.prog 141 #[.string s, .int .i64 k] w fun e w' => e = .returned (.tuple #[.int .i32 r, .int .i64 n, .int .i64 er]) ∧ w = w')) :
    Calls Tryz.prog 174 #[.pointer (some ⟨b, 0, none⟩), .string s, .int .i64 k] w fun e w' => e = .returned (.tuple #[.int .i64 0, .int .i64 er]) ∧ Below B w w' := by
  have t1 : (er != 0) = true := by simpa using hne
  clear hne
  go_enter Tryz.func174, Tryz.ntmps174
  go_wp2_with fail
  refine C1.out.mono ?_
  rintro e w1 ⟨rfl, rfl⟩
  go_wp2
  go_ret2
  exact ⟨rfl, Below.refl _ _⟩
set_option maxHeartbeats 2000000 in
set_option maxRecDepth 100000 in
theorem plain_char (B b : Nat) (s : ByteArray) (k : Nat) (r n : Int) (w : World) (hc : ¬ Chr r) (C1 : Hid (Calls Tryz.prog 141 #[.string s, .int .i64 k] w fun e w' => e = .returned (.tuple #[.int .i32 r, .int .i64 n, .int .i64 0]) ∧ w = w')) :
    Calls Tryz.prog 174 #[.pointer (some ⟨b, 0, none⟩), .string s, .int .i64 k] w fun e w' => e = .returned (.tuple #[.int .i64 0, .int .i64 3]) ∧ Below B w w' := by
  have CC : Hid (∀ w, Calls Tryz.prog 115 #[.int .i32 r] w fun e w' => e = .returned (.bool false) ∧ w = w') := Lib.hid fun w => by
    have := chr_any r w
    rw [decide_eq_false hc] at this
    exact this
  clear hc
  go_enter Tryz.func174, Tryz.ntmps174
  go_wp2_with fail
  refine C1.out.mono ?_
  rintro e w1 ⟨rfl, rfl⟩
  go_wp2_with fail
  refine (CC.out _).mono ?_
  rintro e w1 ⟨rfl, rfl⟩
  go_wp2
  go_ret2
  exact ⟨rfl, Below.refl _ _⟩
set_option maxHeartbeats 4000000 in
set_option maxRecDepth 100000 in
theorem plain_ok (B b : Nat) (v : Bool) (bs : List Int) (s : ByteArray) (k n : Nat) (r : Int) (w : World) (hc : Chr r) (hkn : k + n ≤ s.size) (hs : s.size ≤ 1000000) (C1 : Hid (Calls Tryz.prog 141 #[.string s, .int .i64 k] w fun e w' => e = .returned (.tuple #[.int .i32 r, .int .i64 n, .int .i64 0]) ∧ w = w'))
    (CW : Hid (Calls Tryz.prog 180 #[.pointer (some ⟨b, 0, none⟩), .string (s.extract k (k + n))] w.drew fun e w' => e = .returned (.tuple #[.int .i64 n, .nilIface]) ∧ Gat B b v bs w' ∧ Below B w.drew w')) :
    Calls Tryz.prog 174 #[.pointer (some ⟨b, 0, none⟩), .string s, .int .i64 k] w fun e w' => e = .returned (.tuple #[.int .i64 n, .int .i64 0]) ∧ Gat B b v bs w' ∧ Below B w w' := by
  have CC : Hid (∀ w, Calls Tryz.prog 115 #[.int .i32 r] w fun e w' => e = .returned (.bool true) ∧ w = w') := Lib.hid fun w => by
    have := chr_any r w
    rw [decide_eq_true hc] at this
    exact this
  have c1 : (0 : Int) ≤ (k : Int) + (n : Int) := by omega
  have c2 : (k : Int) + (n : Int) ≤ (s.size : Int) := by omega
  have c3 : (k : Int) ≤ (k : Int) + (n : Int) := by omega
  have q2 : IntKind.i64.wrap ((k : Int) + (n : Int)) = (k : Int) + (n : Int) := IntWalk.i64_in _ (by omega)
  have q3 : ((k : Int) + (n : Int)).toNat = k + n := by omega
  clear hc
  go_enter Tryz.func174, Tryz.ntmps174
  go_wp2_with fail
  refine C1.out.mono ?_
  rintro e w1 ⟨rfl, rfl⟩
  go_wp2_with fail
  refine (CC.out _).mono ?_
  rintro e w1 ⟨rfl, rfl⟩
  go_wp2_with fail
  go_region_held3 (fun _ => True) (trivial) (first | (go_at_call 180; refine CW.out.mono ?_; rintro e w2 ⟨rfl, h2, hb2⟩))
  go_wp2
  go_ret2
  exact ⟨rfl, h2, (Below.drew (Below.refl _ _)).trans hb2⟩

theorem dec_none (l : List Int) (hl : l ≠ []) (hn : NN l) (h : (dec1 l).2.2 = 0) : (dec1 l).2.1 = ((encB (dec1 l).1).length : Int) ∧ l.take (encB (dec1 l).1).length = encB (dec1 l).1 ∧ (encB (dec1 l).1).length ≤ l.length := by
  have := dec_inv l hl hn.getD h
  exact ⟨this.2.1, this.2.2.1, this.2.2.2⟩
theorem plain_any (B b : Nat) (v : Bool) (bs : List Int) (s : ByteArray) (k : Nat) (w : World) (hk : k < s.size) (hs : s.size ≤ 1000000) (hg : Gat B b v bs w) (hB : B ≤ w.heap.size) (hl : bs.length ≤ 1000000) :
    Calls Tryz.prog 174 #[.pointer (some ⟨b, 0, none⟩), .string s, .int .i64 k] w (StPost B b v bs (plF ((byts s).drop k)) w) := by
  have C1 := rune_at s k w (by unfold maxLen; omega)
  rw [runeF_dec s k hk] at C1
  have hne : (byts s).drop k ≠ [] := by
    intro e
    have := congrArg List.length e
    rw [List.length_drop, byts_len, List.length_nil] at this
    omega
  have hnn : NN ((byts s).drop k) := (byts_nn s).drop k
  have D := dec_none _ hne hnn
  have hle : ((byts s).drop k).length = s.size - k := by rw [List.length_drop, byts_len]
  unfold plF
  generalize hL : (byts s).drop k = L at *
  revert C1 D
  generalize dec1 L = x
  obtain ⟨r, n, er⟩ := x
  intro C1 D
  simp only at C1 D ⊢
  by_cases he : er = 0
  · subst he
    obtain ⟨d1, d2, d3⟩ := D rfl
    have h1 := encB_len r
    rw [if_neg (by simp)]
    by_cases hc : Chr r
    · rw [if_pos hc]
      obtain ⟨m, hm⟩ : ∃ m, m = (encB r).length := ⟨_, rfl⟩
      rw [← hm] at d1 d2 d3 h1
      subst d1
      have hext : byts (s.extract k (k + m)) = encB r := by
        rw [byts_extract, List.drop_take, hL, Nat.add_sub_cancel_left, d2]
      have hsz : (s.extract k (k + m)).size = m := by rw [← byts_len, hext, hm]
      have CW := wstr_any B b v bs (s.extract k (k + m)) w.drew (by
        rcases hg with h | h
        · exact .inl h
        · exact .inr h) hB hl (by omega) (by omega)
      rw [hsz, hext] at CW
      refine (plain_ok B b v _ s k m r w hc (by omega) hs (Lib.hid C1) (Lib.hid CW)).mono ?_
      rintro e w' ⟨rfl, h2, hb⟩
      exact ⟨by simp, fun _ => h2, hb⟩
    · rw [if_neg hc]
      refine (plain_char B b s k r n w hc (Lib.hid C1)).mono ?_
      rintro e w' ⟨rfl, hb⟩
      exact ⟨rfl, fun h => absurd h (by decide), hb⟩
  · rw [if_pos he]
    refine (plain_err B b s k er r n w he (Lib.hid C1)).mono ?_
    rintro e w' ⟨rfl, hb⟩
    exact ⟨rfl, fun h => absurd h he, hb⟩
end Go.Proofs.YtnomcldpbkinmaaGreatDoor

/- The walks of the gatherer's next and mask, of ref.read, ref.escape, and of Text, Value, Escape, Quote. -/
set_option linter.unusedSimpArgs false
set_option linter.unusedVariables false
namespace Go.Proofs.YtnomcldpbkinmaaGreatDoor
open Go.RowKit

theorem tail_drop (l : List Int) (k : Nat) : (l.drop k).tail = l.drop (k + 1) := by rw [List.tail_drop]
theorem getD_drop (l : List Int) (k j : Nat) : (l.drop k).getD j 0 = l.getD (k + j) 0 := by simp [List.getD_eq_getElem?_getD, List.getElem?_drop]
theorem at_byt (s : ByteArray) (k : Nat) (h : k < s.size) : ((s[k]).toNat : Int) = (byts s).getD k 0 := by rw [bt_eq s k h, bt_byts]

set_option maxHeartbeats 2000000 in
set_option maxRecDepth 100000 in
theorem next_ref (B b : Nat) (v : Bool) (bs : List Int) (s : ByteArray) (k : Nat) (x : Int × List Int × Nat) (w : World) (hk : k < s.size) (hs : s.size ≤ 1000000) (hc : ((s[k]).toNat : Int) = 38)
    (C : Hid (Calls Tryz.prog 172 #[.pointer (some ⟨b, 0, none⟩), .string (s.extract (k + 1) s.size)] w (StPost B b v bs x w))) :
    Calls Tryz.prog 143 #[.pointer (some ⟨b, 0, none⟩), .string s, .int .i64 k] w (StPost B b v bs x w) := by
  have c1 : (k : Int) < (s.size : Int) := by omega
  have c2 : (0 : Int) ≤ (k : Int) + 1 := by omega
  have c3 : (k : Int) + 1 ≤ (s.size : Int) := by omega
  have q2 : IntKind.i64.wrap ((k : Int) + 1) = (k : Int) + 1 := IntWalk.i64_in _ (by omega)
  have q3 : ((k : Int) + 1).toNat = k + 1 := by omega
  go_enter Tryz.func143, Tryz.ntmps143
  go_wp2_with fail
  refine C.out.mono ?_
  rintro e w1 ⟨rfl, h⟩
  have H := Lib.hid h
  clear h C
  go_wp2
  go_ret2
  exact ⟨rfl, H.out⟩

set_option maxHeartbeats 2000000 in
set_option maxRecDepth 100000 in
theorem next_cr (B b : Nat) (v : Bool) (bs : List Int) (s : ByteArray) (k : Nat) (lf : Bool) (w : World) (hk : k < s.size) (hs : s.size ≤ 1000000) (hc : ((s[k]).toNat : Int) = 13)
    (C : Hid (Calls Tryz.prog 173 #[.pointer (some ⟨b, 0, none⟩), .int .u8 10] w fun e w' => e = .returned (.tuple #[]) ∧ Gat B b v bs w' ∧ Below B w w'))
    (C2 : Hid (∀ w, Calls Tryz.prog 85 #[.string (s.extract (k + 1) s.size), .string ⟨#[10]⟩] w fun e w' => e = .returned (.bool lf) ∧ w = w')) :
    Calls Tryz.prog 143 #[.pointer (some ⟨b, 0, none⟩), .string s, .int .i64 k] w fun e w' => e = .returned (.tuple #[.int .i64 (if lf = true then 2 else 1), .int .i64 0]) ∧ Gat B b v bs w' ∧ Below B w w' := by
  have c1 : (k : Int) < (s.size : Int) := by omega
  have c2 : (0 : Int) ≤ (k : Int) + 1 := by omega
  have c3 : (k : Int) + 1 ≤ (s.size : Int) := by omega
  have q2 : IntKind.i64.wrap ((k : Int) + 1) = (k : Int) + 1 := IntWalk.i64_in _ (by omega)
  have q3 : ((k : Int) + 1).toNat = k + 1 := by omega
  cases lf
  all_goals
    go_enter Tryz.func143, Tryz.ntmps143
    go_wp2_with fail
    refine C.out.mono ?_
    rintro e w1 ⟨rfl, h, hb⟩
    have H := Lib.hid h
    clear h C
    go_wp2_with fail
    refine (C2.out _).mono ?_
    rintro e w2 ⟨rfl, rfl⟩
    go_wp2
    go_ret2
    exact ⟨rfl, H.out, hb⟩

set_option maxHeartbeats 2000000 in
set_option maxRecDepth 100000 in
theorem next_9 (B b : Nat) (v : Bool) (bs : List Int) (s : ByteArray) (k : Nat) (w : World) (hk : k < s.size) (hs : s.size ≤ 1000000) (hc : ((s[k]).toNat : Int) = 9)
    (C : Hid (Calls Tryz.prog 173 #[.pointer (some ⟨b, 0, none⟩), .int .u8 9] w fun e w' => e = .returned (.tuple #[]) ∧ Gat B b v bs w' ∧ Below B w w')) :
    Calls Tryz.prog 143 #[.pointer (some ⟨b, 0, none⟩), .string s, .int .i64 k] w fun e w' => e = .returned (.tuple #[.int .i64 1, .int .i64 0]) ∧ Gat B b v bs w' ∧ Below B w w' := by
  have c1 : (k : Int) < (s.size : Int) := by omega
  go_enter Tryz.func143, Tryz.ntmps143
  go_wp2_with fail
  refine C.out.mono ?_
  rintro e w1 ⟨rfl, h, hb⟩
  have H := Lib.hid h
  clear h C
  go_wp2
  go_ret2
  exact ⟨rfl, H.out, hb⟩

set_option maxHeartbeats 2000000 in
set_option maxRecDepth 100000 in
theorem next_10 (B b : Nat) (v : Bool) (bs : List Int) (s : ByteArray) (k : Nat) (w : World) (hk : k < s.size) (hs : s.size ≤ 1000000) (hc : ((s[k]).toNat : Int) = 10)
    (C : Hid (Calls Tryz.prog 173 #[.pointer (some ⟨b, 0, none⟩), .int .u8 10] w fun e w' => e = .returned (.tuple #[]) ∧ Gat B b v bs w' ∧ Below B w w')) :
    Calls Tryz.prog 143 #[.pointer (some ⟨b, 0, none⟩), .string s, .int .i64 k] w fun e w' => e = .returned (.tuple #[.int .i64 1, .int .i64 0]) ∧ Gat B b v bs w' ∧ Below B w w' := by
  have c1 : (k : Int) < (s.size : Int) := by omega
  go_enter Tryz.func143, Tryz.ntmps143
  go_wp2_with fail
  refine C.out.mono ?_
  rintro e w1 ⟨rfl, h, hb⟩
  have H := Lib.hid h
  clear h C
  go_wp2
  go_ret2
  exact ⟨rfl, H.out, hb⟩

set_option maxHeartbeats 2000000 in
set_option maxRecDepth 100000 in
theorem next_pl (B b : Nat) (v : Bool) (bs : List Int) (s : ByteArray) (k : Nat) (x : Int × List Int × Nat) (w : World) (hk : k < s.size) (hs : s.size ≤ 1000000)
    (t1 : (((s[k]).toNat : Int) == 38) = false) (t2 : (((s[k]).toNat : Int) == 13) = false) (t3 : (((s[k]).toNat : Int) == 9) = false) (t4 : (((s[k]).toNat : Int) == 10) = false)
    (C : Hid (Calls Tryz.prog 174 #[.pointer (some ⟨b, 0, none⟩), .string s, .int .i64 k] w (StPost B b v bs x w))) :
    Calls Tryz.prog 143 #[.pointer (some ⟨b, 0, none⟩), .string s, .int .i64 k] w (StPost B b v bs x w) := by
  have c1 : (k : Int) < (s.size : Int) := by omega
  go_enter Tryz.func143, Tryz.ntmps143
  go_wp2_with fail
  refine C.out.mono ?_
  rintro e w1 ⟨rfl, h⟩
  have H := Lib.hid h
  clear h C
  go_wp2
  go_ret2
  exact ⟨rfl, H.out⟩

theorem next_any (B b : Nat) (v : Bool) (bs : List Int) (s : ByteArray) (k : Nat) (w : World) (hk : k < s.size) (hs : s.size ≤ 1000000) (hg : Gat B b v bs w) (hB : B ≤ w.heap.size) (hl : bs.length ≤ 1000000) (hV : Vars w) :
    Calls Tryz.prog 143 #[.pointer (some ⟨b, 0, none⟩), .string s, .int .i64 k] w (StPost B b v bs (stepF v ((byts s).drop k)) w) := by
  have hb := at_byt s k hk
  have hz : (s.extract (k + 1) s.size).size ≤ 1000000 := by rw [size_from]; omega
  unfold stepF
  rw [tail_drop, getD_drop, getD_drop, Nat.add_zero]
  by_cases h1 : (byts s).getD k 0 = 38
  · rw [if_pos h1]
    have := ref_any B b v bs (s.extract (k + 1) s.size) w hg hB hl hz hV
    rw [byts_from] at this
    exact next_ref B b v bs s k _ w hk hs (hb.trans h1) (Lib.hid this)
  rw [if_neg h1]
  by_cases h2 : (byts s).getD k 0 = 13
  · rw [if_pos h2]
    have C := Lib.hid (blank_g B b v bs 10 w hg hB hl (by omega) (by omega))
    have hd : (byts (s.extract (k + 1) s.size)).getD 0 0 = (byts s).getD (k + 1) 0 := by rw [byts_from, getD_drop]
    by_cases h3 : (byts s).getD (k + 1) 0 = 10
    · rw [if_pos h3]
      refine (next_cr B b v _ s k true w hk hs (hb.trans h2) C (Lib.hid (has_yes _ 10 (by decide) (by rw [hd]; exact h3)))).mono ?_
      rintro e w' ⟨rfl, hg2, hb2⟩
      exact ⟨rfl, fun _ => hg2, hb2⟩
    · rw [if_neg h3]
      refine (next_cr B b v _ s k false w hk hs (hb.trans h2) C (Lib.hid (has_no _ 10 (by rw [hd]; exact h3)))).mono ?_
      rintro e w' ⟨rfl, hg2, hb2⟩
      exact ⟨rfl, fun _ => hg2, hb2⟩
  rw [if_neg h2]
  by_cases h3 : (byts s).getD k 0 = 9
  · rw [if_pos (.inl h3), h3]
    refine (next_9 B b v _ s k w hk hs (hb.trans h3) (Lib.hid (blank_g B b v bs 9 w hg hB hl (by omega) (by omega)))).mono ?_
    rintro e w' ⟨rfl, hg2, hb2⟩
    exact ⟨rfl, fun _ => hg2, hb2⟩
  by_cases h4 : (byts s).getD k 0 = 10
  · rw [if_pos (.inr h4), h4]
    refine (next_10 B b v _ s k w hk hs (hb.trans h4) (Lib.hid (blank_g B b v bs 10 w hg hB hl (by omega) (by omega)))).mono ?_
    rintro e w' ⟨rfl, hg2, hb2⟩
    exact ⟨rfl, fun _ => hg2, hb2⟩
  rw [if_neg (by omega)]
  exact next_pl B b v bs s k _ w hk hs (by rw [hb]; simpa using h1) (by rw [hb]; simpa using h2) (by rw [hb]; simpa using h3) (by rw [hb]; simpa using h4) (Lib.hid (plain_any B b v bs s k w hk hs hg hB hl))

end Go.Proofs.YtnomcldpbkinmaaGreatDoor
