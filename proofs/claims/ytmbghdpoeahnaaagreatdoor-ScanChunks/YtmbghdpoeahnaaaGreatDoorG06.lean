/-
  Merged by program out of the texts Rune, Canon, RuneAny, Numd of one seat.
-/
import Derived.Test.YtmbghdpoeahnaaaGreatDoorG03
import Derived.Test.YtmbghdpoeahnaaaGreatDoorG01
import Derived.Test.YtmbghdpoeahnaaaGreatDoorG04
import Derived.Test.YtmbghdpoeahnaaaGreatDoorG05
import Derived.Lib.Hide

/- The walk of utf.Rune. -/
namespace Go.Proofs.YtmbghdpoeahnaaaGreatDoor
open Go.RowKit

def R3 (x : Int × Int × Int) : Value := .tuple #[.int .i32 x.1, .int .i64 x.2.1, .int .i64 x.2.2]

theorem poss_true (r : Int) (k n : Nat) (w : World) (h0 : 0 ≤ r) (h1 : r * p64 (n - k) < 2097152) (hk : 1 ≤ k) (hn : k ≤ n) (h4 : n ≤ 4) (h : possB r k n = true) :
    Calls Tryz.prog 107 #[.int .i32 r, .int .i64 k, .int .i64 n] w fun e w' => e = .returned (.bool true) ∧ w = w' := by
  rw [← h]; exact poss_any r k n w h0 h1 hk hn h4
theorem poss_false (r : Int) (k n : Nat) (w : World) (h0 : 0 ≤ r) (h1 : r * p64 (n - k) < 2097152) (hk : 1 ≤ k) (hn : k ≤ n) (h4 : n ≤ 4) (h : possB r k n = false) :
    Calls Tryz.prog 107 #[.int .i32 r, .int .i64 k, .int .i64 n] w fun e w' => e = .returned (.bool false) ∧ w = w' := by
  rw [← h]; exact poss_any r k n w h0 h1 hk hn h4

theorem leadR_bd (b : Int) (h0 : 0 ≤ b) (h1 : b < 256) (h : leadN b ≠ 0) : 1 ≤ leadN b ∧ leadN b ≤ 4 ∧ 0 ≤ leadR b ∧ leadR b * p64 (leadN b - 1) < 2097152 := by
  unfold leadN leadR at *
  by_cases q1 : b < 128
  · simp only [q1, if_true, Nat.reduceSub, p64_0]; omega
  by_cases q2 : b < 192
  · simp [q1, q2] at h
  by_cases q3 : b < 224
  · simp only [q1, q2, q3, if_true, if_false, Nat.reduceSub, p64_1]; omega
  by_cases q4 : b < 240
  · simp only [q1, q2, q3, q4, if_true, if_false, Nat.reduceSub, p64_2]; omega
  by_cases q5 : b < 248
  · simp only [q1, q2, q3, q4, q5, if_true, if_false, Nat.reduceSub, p64_3]; omega
  · simp [q1, q2, q3, q4, q5] at h

theorem p64_step (n k : Nat) (h : k < n) (h4 : n ≤ 4) (h1 : 1 ≤ k) : p64 (n - k) = 64 * p64 (n - (k + 1)) ∧ 1 ≤ p64 (n - (k + 1)) := by
  have h : (k = 1 ∧ n = 2) ∨ (k = 1 ∧ n = 3) ∨ (k = 2 ∧ n = 3) ∨ (k = 1 ∧ n = 4) ∨ (k = 2 ∧ n = 4) ∨ (k = 3 ∧ n = 4) := by omega
  rcases h with ⟨rfl, rfl⟩ | ⟨rfl, rfl⟩ | ⟨rfl, rfl⟩ | ⟨rfl, rfl⟩ | ⟨rfl, rfl⟩ | ⟨rfl, rfl⟩ <;> decide

theorem next_bd (r b : Int) (n k : Nat) (h : k < n) (h4 : n ≤ 4) (h1 : 1 ≤ k) (hr : 0 ≤ r) (hb : r * p64 (n - k) < 2097152) :
    0 ≤ r * 64 + b % 64 ∧ (r * 64 + b % 64) * p64 (n - (k + 1)) < 2097152 := by
  have h : (k = 1 ∧ n = 2) ∨ (k = 1 ∧ n = 3) ∨ (k = 2 ∧ n = 3) ∨ (k = 1 ∧ n = 4) ∨ (k = 2 ∧ n = 4) ∨ (k = 3 ∧ n = 4) := by omega
  rcases h with ⟨rfl, rfl⟩ | ⟨rfl, rfl⟩ | ⟨rfl, rfl⟩ | ⟨rfl, rfl⟩ | ⟨rfl, rfl⟩ | ⟨rfl, rfl⟩
  all_goals
    simp only [Nat.reduceSub, Nat.reduceAdd, p64_0, p64_1, p64_2, p64_3] at hb ⊢
    omega

theorem r_small (r : Int) (n k : Nat) (h : k < n) (h4 : n ≤ 4) (h1 : 1 ≤ k) (hr : 0 ≤ r) (hb : r * p64 (n - k) < 2097152) : r < 32768 := by
  have h : (k = 1 ∧ n = 2) ∨ (k = 1 ∧ n = 3) ∨ (k = 2 ∧ n = 3) ∨ (k = 1 ∧ n = 4) ∨ (k = 2 ∧ n = 4) ∨ (k = 3 ∧ n = 4) := by omega
  rcases h with ⟨rfl, rfl⟩ | ⟨rfl, rfl⟩ | ⟨rfl, rfl⟩ | ⟨rfl, rfl⟩ | ⟨rfl, rfl⟩ | ⟨rfl, rfl⟩
  all_goals
    simp only [Nat.reduceSub, p64_1, p64_2, p64_3] at hb
    omega

set_option maxHeartbeats 1000000 in
set_option maxRecDepth 100000 in
theorem rune_in (s : ByteArray) (a : Nat) (w : World) (hs : s.size ≤ maxLen) (ha : a < s.size) :
    Calls Tryz.prog 85 #[.string s, .int .i64 a] w fun e w' => e = .returned (R3 (rgo (fun k => bt s (a + k)) (s.size - a) (leadN (bt s a)) 4 1 (leadR (bt s a)))) ∧ w = w' := by
  unfold maxLen at hs
  have b0 := bt_lo s a
  have b1 := bt_hi s a
  have t1 : decide ((a : Int) < 0) = false := by simp
  have t2 : decide (s.size ≤ a) = false := by simp; omega
  have HR := leadR_bd (bt s a) b0 b1
  have HB := Lib.hid (bt_eq s a ha)
  generalize hR : rgo (fun k => bt s (a + k)) (s.size - a) (leadN (bt s a)) 4 1 (leadR (bt s a)) = R
  have HR2 := Lib.hid hR
  clear hR
  by_cases hn : leadN (bt s a) = 0
  · have hR2 := HR2.out
    rw [hn, rgo0] at hR2
    subst hR2
    clear HR HR2
    have hn' : ((leadN (bt s a) : Nat) : Int) = 0 := by omega
    clear hn
    go_enter Tryz.func85, Tryz.ntmps85
    go_wp2_with fail
    rw [HB.out]
    refine (lead_any _ _ b0 b1).mono ?_
    rintro e w' ⟨rfl, rfl⟩
    rw [hn']
    clear hn'
    generalize leadR (bt s a) = r at *
    go_wp2_with fail
    refine wp_loop_rounds 1 ?_
    rw [rounds_succ]
    go_wp2_with (go_at_call 107; refine (poss_zero _ _ _).mono ?_; rintro e w' ⟨rfl, rfl⟩)
    go_ret3
    exact ⟨rfl, rfl⟩
  obtain ⟨n1, n4, r0, r1⟩ := HR hn
  clear hn HR
  go_enter Tryz.func85, Tryz.ntmps85
  go_wp2_with fail
  rw [HB.out]
  refine (lead_any _ _ b0 b1).mono ?_
  rintro e w' ⟨rfl, rfl⟩
  generalize leadN (bt s a) = n at *
  generalize leadR (bt s a) = r at *
  go_wp2_with fail
  go_loop [7, 9, 10] (fun q i _ => ∃ (k : Nat) (r' : Int), 1 ≤ k ∧ k ≤ n ∧ 0 ≤ r' ∧ r' * p64 (n - k) < 2097152 ∧ a + k ≤ s.size ∧ i = .int .i64 k ∧ q = .int .i32 r' ∧ rgo (fun k => bt s (a + k)) (s.size - a) n (5 - k) k r' = R) (fun _ i _ => 5 - (intOf i).toNat)
  case atStart => exact ⟨1, r, by omega, n1, r0, r1, by omega, rfl, rfl, HR2.out⟩
  case round =>
    obtain ⟨k, r', k1, kn, q0, q1, ka, rfl, rfl, hrel⟩ := hrel
    have e5 : 5 - k = (4 - k) + 1 := by omega
    rw [e5, rgo_step] at hrel
    clear e5 HR2 r0 r1 b0 b1 HB t1 t2
    have c0 := bt_lo s (a + k)
    have c1 := bt_hi s (a + k)
    by_cases hp : possB r' k n = false
    · rw [if_pos hp] at hrel
      have HR := Lib.hid hrel
      clear hrel
      go_wp2_with (go_at_call 107; refine (poss_false _ _ _ _ q0 q1 k1 kn n4 hp).mono ?_; rintro e w' ⟨rfl, rfl⟩)
      go_ret3
      exact ⟨by rw [← HR.out]; rfl, rfl⟩
    rw [if_neg hp] at hrel
    have hp' : possB r' k n = true := by simpa using hp
    clear hp
    by_cases hk : k = n
    · subst hk
      rw [if_pos rfl] at hrel
      have HR := Lib.hid hrel
      clear hrel
      go_wp2_with (go_at_call 107; refine (poss_true _ _ _ _ q0 q1 k1 kn n4 hp').mono ?_; rintro e w' ⟨rfl, rfl⟩)
      go_ret3
      exact ⟨by rw [← HR.out]; rfl, rfl⟩
    rw [if_neg hk] at hrel
    have tk : ((k : Int) == (n : Int)) = false := by simp; omega
    by_cases hl : k = s.size - a
    · rw [if_pos hl] at hrel
      have HR := Lib.hid hrel
      clear hrel hk
      have tl : ((a : Int) + (k : Int) == (s.size : Int)) = true := by simp; omega
      clear hl
      go_wp2_with (go_at_call 107; refine (poss_true _ _ _ _ q0 q1 k1 kn n4 hp').mono ?_; rintro e w' ⟨rfl, rfl⟩)
      go_ret3
      exact ⟨by rw [← HR.out]; rfl, rfl⟩
    rw [if_neg hl] at hrel
    have hlt : a + k < s.size := by omega
    have tl : ((a : Int) + (k : Int) == (s.size : Int)) = false := by simp; omega
    have HB := Lib.hid (bt_eq s (a + k) hlt)
    have hkn : k < n := by omega
    have hsm := r_small r' n k hkn n4 k1 q0 q1
    have hby : (s[a + k].toNat : Int) < 256 := by have := s[a + k].toNat_lt; omega
    by_cases hc : bt s (a + k) / 64 = 2
    · rw [if_pos hc] at hrel
      have HR := Lib.hid hrel
      have hc' : ((s[a + k].toNat : Int) / 64 != 2) = false := by rw [HB.out, hc]; rfl
      have NB := Lib.hid (next_bd r' (bt s (a + k)) n k hkn n4 k1 q0 q1)
      clear hl hk hrel hc c0 c1
      go_wp2_with (go_at_call 107; refine (poss_true _ _ _ _ q0 q1 k1 kn n4 hp').mono ?_; rintro e w' ⟨rfl, rfl⟩)
      go_round
      case rel => exact ⟨k + 1, r' * 64 + bt s (a + k) % 64, by omega, by omega, NB.out.1, NB.out.2, by omega, by go_num, by rw [HB.out], by rw [← HR.out]; congr 1; omega⟩
      case measure => simp [intOf]; omega
    · rw [if_neg hc] at hrel
      have HR := Lib.hid hrel
      have hc' : ((s[a + k].toNat : Int) / 64 != 2) = true := by rw [HB.out]; simpa using hc
      clear hl hk hrel hc c0 c1
      go_wp2_with (go_at_call 107; refine (poss_true _ _ _ _ q0 q1 k1 kn n4 hp').mono ?_; rintro e w' ⟨rfl, rfl⟩)
      go_ret3
      exact ⟨by rw [← HR.out]; rfl, rfl⟩
end Go.Proofs.YtmbghdpoeahnaaaGreatDoor

/- The decoder's loop comes to what the table of first bytes says. -/
set_option linter.unusedSimpArgs false
set_option linter.unusedVariables false
namespace Go.Proofs.YtmbghdpoeahnaaaGreatDoor
set_option maxHeartbeats 2000000 in
theorem rgo_canon (b : Nat → Int) (left : Nat) (hl : 1 ≤ left) (h0 : ∀ k, 0 ≤ b k) (h1 : ∀ k, b k < 256) :
    rgo b left (leadN (b 0)) 4 1 (leadR (b 0)) = canon b left := by
  have a0 := h0 0; have a1 := h1 0
  have b0 := h0 1; have b1 := h1 1
  have c0 := h0 2; have c1 := h1 2
  have d0 := h0 3; have d1 := h1 3
  unfold leadN leadR canon
  generalize e0 : b 0 = x0 at *
  by_cases q1 : x0 < 128
  · simp only [q1, if_true, rgo_step, possB_false, p64, most, least]
    simp
    omega
  by_cases q2 : x0 < 192
  · have : x0 < 194 := by omega
    simp only [q1, q2, this, if_true, if_false, rgo0]
  by_cases q3 : x0 < 224
  · simp only [q1, q2, q3, if_true, if_false, rgo_step, possB_false, p64_0, p64_1, p64_2, p64_3, least2, least3, least4, most2, most3, most4, Nat.reduceSub, Nat.reduceEqDiff, Nat.reduceAdd, false_or, e0]
    repeat' split
    all_goals (first | rfl | (exfalso; omega) | (refine tri ?_ ?_ ?_ <;> omega))
  by_cases q4 : x0 < 240
  · simp only [q1, q2, q3, q4, if_true, if_false, rgo_step, possB_false, p64_0, p64_1, p64_2, p64_3, least2, least3, least4, most2, most3, most4, Nat.reduceSub, Nat.reduceEqDiff, Nat.reduceAdd, false_or, e0]
    repeat' split
    all_goals (first | rfl | (exfalso; omega) | (refine tri ?_ ?_ ?_ <;> omega))
  by_cases q5 : x0 < 248
  · simp only [q1, q2, q3, q4, q5, if_true, if_false, rgo_step, possB_false, p64_0, p64_1, p64_2, p64_3, least2, least3, least4, most2, most3, most4, Nat.reduceSub, Nat.reduceEqDiff, Nat.reduceAdd, false_or, e0]
    repeat' split
    all_goals (first | rfl | (exfalso; omega) | (refine tri ?_ ?_ ?_ <;> omega))
  · have q6 : ¬ x0 < 245 := by omega
    simp only [q1, q2, q3, q4, q5, q6, if_false, rgo0]
    split
    · rfl
    · rfl
end Go.Proofs.YtmbghdpoeahnaaaGreatDoor

/- utf.Rune, of whatever bytes, at whatever place. -/
set_option linter.unusedSimpArgs false
set_option linter.unusedVariables false
namespace Go.Proofs.YtmbghdpoeahnaaaGreatDoor
open Go.RowKit

set_option maxHeartbeats 400000 in
theorem rune_out (s : ByteArray) (a : Int) (w : World) (hs : s.size ≤ maxLen) (ha : a < 0 ∨ (s.size : Int) ≤ a) :
    Calls Tryz.prog 85 #[.string s, .int .i64 a] w fun e w' => e = .returned (R3 (0, 0, 7)) ∧ w = w' := by
  unfold maxLen at hs
  by_cases h : a < 0
  · clear ha
    go_enter Tryz.func85, Tryz.ntmps85
    go_wp2
    go_ret3
    exact ⟨rfl, rfl⟩
  · have h2 : (s.size : Int) ≤ a := by omega
    clear ha
    go_enter Tryz.func85, Tryz.ntmps85
    go_wp2
    go_ret3
    exact ⟨rfl, rfl⟩

theorem rune_any (s : ByteArray) (a : Int) (w : World) (hs : s.size ≤ maxLen) :
    Calls Tryz.prog 85 #[.string s, .int .i64 a] w fun e w' => e = .returned (R3 (runeF s a)) ∧ w = w' := by
  unfold runeF
  by_cases h : a < 0 ∨ (s.size : Int) ≤ a
  · rw [if_pos h]
    exact rune_out s a w hs h
  · rw [if_neg h]
    obtain ⟨n, rfl⟩ := Int.eq_ofNat_of_zero_le (show 0 ≤ a by omega)
    rw [Int.toNat_natCast, ← rgo_canon _ _ (by omega) (fun k => bt_lo s _) (fun k => bt_hi s _)]
    exact rune_in s n w hs (by omega)
theorem rune_at (s : ByteArray) (a : Nat) (w : World) (hs : s.size ≤ maxLen) :
    Calls Tryz.prog 85 #[.string s, .int .i64 a] w fun e w' => e = .returned (.tuple #[.int .i32 (runeF s a).1, .int .i64 (runeF s a).2.1, .int .i64 (runeF s a).2.2]) ∧ w = w' := rune_any s a w hs
end Go.Proofs.YtmbghdpoeahnaaaGreatDoor

/- The walks of ref.numbered and of the gatherer's methods. -/
set_option linter.unusedSimpArgs false
set_option linter.unusedVariables false
namespace Go.Proofs.YtmbghdpoeahnaaaGreatDoor
open Go.RowKit

theorem byts_from (t : ByteArray) (k : Nat) : byts (t.extract k t.size) = (byts t).drop k := by
  rw [byts_extract, List.take_of_length_le (by rw [byts_len]; omega)]
theorem byts_to (t : ByteArray) (k : Nat) : byts (t.extract 0 k) = (byts t).take k := by
  rw [byts_extract, List.drop_zero]
theorem size_from (t : ByteArray) (k : Nat) : (t.extract k t.size).size = t.size - k := by
  rw [← byts_len, byts_from, List.length_drop, byts_len]

/-- What a function answers that looks for a rune. -/
def NmPost (r : Int) (w : World) (e : Ending) (w' : World) : Prop :=
  ((0 ≤ r ∧ e = .returned (.tuple #[.int .i32 r, .bool true])) ∨ (r < 0 ∧ e = .returned (.tuple #[.int .i32 0, .bool false]))) ∧ Below w.heap.size w w'

set_option maxHeartbeats 2000000 in
set_option maxRecDepth 100000 in
theorem num_no (t d2 : ByteArray) (is : Bool) (w : World)
    (C1 : Hid (∀ w, Calls Tryz.prog 46 #[.string t, .string ⟨#[35]⟩] w fun e w' => e = .returned (.tuple #[.string t, .bool false]) ∧ w = w'))
    (C2 : Hid (∀ w, Calls Tryz.prog 46 #[.string t, .string ⟨#[120]⟩] w fun e w' => e = .returned (.tuple #[.string d2, .bool is]) ∧ w = w')) :
    Calls Tryz.prog 122 #[.string t] w fun e w' => e = .returned (.tuple #[.int .i32 0, .bool false]) ∧ Below w.heap.size w w' := by
  cases is
  all_goals
    go_enter Tryz.func122, Tryz.ntmps122
    go_wp2_with fail
    refine (C1.out _).mono ?_
    rintro e w' ⟨rfl, rfl⟩
    go_wp2_with fail
    refine (C2.out _).mono ?_
    rintro e w' ⟨rfl, rfl⟩
    go_wp2
    go_ret2
    exact ⟨rfl, Below.refl _ _⟩

set_option maxHeartbeats 2000000 in
set_option maxRecDepth 100000 in
theorem num_dec_long (t d d2 : ByteArray) (w : World)
    (C1 : Hid (∀ w, Calls Tryz.prog 46 #[.string t, .string ⟨#[35]⟩] w fun e w' => e = .returned (.tuple #[.string d, .bool true]) ∧ w = w'))
    (C2 : Hid (∀ w, Calls Tryz.prog 46 #[.string d, .string ⟨#[120]⟩] w fun e w' => e = .returned (.tuple #[.string d2, .bool false]) ∧ w = w')) (h8 : 8 < d.size) :
    Calls Tryz.prog 122 #[.string t] w fun e w' => e = .returned (.tuple #[.int .i32 0, .bool false]) ∧ Below w.heap.size w w' := by
  have i8 : decide ((8 : Int) < (d.size : Int)) = true := by rw [decide_eq_true_eq]; omega
  have j8 : decide (8 < d.size) = true := by rw [decide_eq_true_eq]; omega
  clear h8
  go_enter Tryz.func122, Tryz.ntmps122
  go_wp2_with fail
  refine (C1.out _).mono ?_
  rintro e w' ⟨rfl, rfl⟩
  go_wp2_with fail
  refine (C2.out _).mono ?_
  rintro e w' ⟨rfl, rfl⟩
  go_wp2
  go_ret2
  exact ⟨rfl, Below.refl _ _⟩

set_option maxHeartbeats 2000000 in
set_option maxRecDepth 100000 in
theorem num_dec (t d d2 : ByteArray) (w : World)
    (C1 : Hid (∀ w, Calls Tryz.prog 46 #[.string t, .string ⟨#[35]⟩] w fun e w' => e = .returned (.tuple #[.string d, .bool true]) ∧ w = w'))
    (C2 : Hid (∀ w, Calls Tryz.prog 46 #[.string d, .string ⟨#[120]⟩] w fun e w' => e = .returned (.tuple #[.string d2, .bool false]) ∧ w = w')) (h8 : d.size ≤ 8) (x : Int) (hx0 : x ≤ 2147483647) (CP : Hid (Calls Tryz.prog 130 #[.string d, .int .i64 10, .int .i64 31] w (PPost x w))) :
    Calls Tryz.prog 122 #[.string t] w (NmPost (chrOr x) w) := by
  have i8 : decide ((8 : Int) < (d.size : Int)) = false := by rw [decide_eq_false_iff_not]; omega
  have j8 : decide (8 < d.size) = false := by rw [decide_eq_false_iff_not]; omega
  clear h8
  go_enter Tryz.func122, Tryz.ntmps122
  go_wp2_with fail
  refine (C1.out _).mono ?_
  rintro e w' ⟨rfl, rfl⟩
  go_wp2_with fail
  refine (C2.out _).mono ?_
  rintro e w' ⟨rfl, rfl⟩
  go_wp2_with fail
  refine CP.out.mono ?_
  rintro e w1 ⟨h, hb⟩
  clear CP C1 C2
  rcases h with ⟨h0, rfl⟩ | ⟨h0, y, n, rfl⟩
  · by_cases hc : Chr x
    · have CC : Hid (∀ w, Calls Tryz.prog 67 #[.int .i32 x] w fun e w' => e = .returned (.bool true) ∧ w = w') := Lib.hid fun w => by
        have := chr_any x w
        rw [decide_eq_true hc] at this
        exact this
      have HC : Hid (chrOr x = x) := Lib.hid (if_pos hc)
      have q : IntKind.i32.wrap x = x := by
        rw [IntKind.wrap_i32]; omega
      clear hc
      go_wp2_with (go_at_call 67; refine (CC.out _).mono ?_; rintro e w' ⟨rfl, rfl⟩)
      go_ret2
      exact ⟨.inl ⟨by rw [HC.out]; exact h0, by rw [HC.out]; rfl⟩, hb⟩
    · have CC : Hid (∀ w, Calls Tryz.prog 67 #[.int .i32 x] w fun e w' => e = .returned (.bool false) ∧ w = w') := Lib.hid fun w => by
        have := chr_any x w
        rw [decide_eq_false hc] at this
        exact this
      have HC : Hid (chrOr x = -1) := Lib.hid (if_neg hc)
      have q : IntKind.i32.wrap x = x := by
        rw [IntKind.wrap_i32]; omega
      clear hc
      go_wp2_with (go_at_call 67; refine (CC.out _).mono ?_; rintro e w' ⟨rfl, rfl⟩)
      go_ret2
      exact ⟨.inr ⟨by rw [HC.out]; omega, rfl⟩, hb⟩
  · have HC : Hid (chrOr x = -1) := Lib.hid (by rw [h0]; exact chrOr_neg)
    clear h0 hx0
    go_wp2
    go_ret2
    exact ⟨.inr ⟨by rw [HC.out]; omega, rfl⟩, hb⟩

set_option maxHeartbeats 2000000 in
set_option maxRecDepth 100000 in
theorem num_hex_long (t d d2 : ByteArray) (w : World)
    (C1 : Hid (∀ w, Calls Tryz.prog 46 #[.string t, .string ⟨#[35]⟩] w fun e w' => e = .returned (.tuple #[.string d, .bool true]) ∧ w = w'))
    (C2 : Hid (∀ w, Calls Tryz.prog 46 #[.string d, .string ⟨#[120]⟩] w fun e w' => e = .returned (.tuple #[.string d2, .bool true]) ∧ w = w')) (h8 : 8 < d2.size) :
    Calls Tryz.prog 122 #[.string t] w fun e w' => e = .returned (.tuple #[.int .i32 0, .bool false]) ∧ Below w.heap.size w w' := by
  have i8 : decide ((8 : Int) < (d2.size : Int)) = true := by rw [decide_eq_true_eq]; omega
  have j8 : decide (8 < d2.size) = true := by rw [decide_eq_true_eq]; omega
  clear h8
  go_enter Tryz.func122, Tryz.ntmps122
  go_wp2_with fail
  refine (C1.out _).mono ?_
  rintro e w' ⟨rfl, rfl⟩
  go_wp2_with fail
  refine (C2.out _).mono ?_
  rintro e w' ⟨rfl, rfl⟩
  go_wp2
  go_ret2
  exact ⟨rfl, Below.refl _ _⟩

set_option maxHeartbeats 2000000 in
set_option maxRecDepth 100000 in
theorem num_hex (t d d2 : ByteArray) (w : World)
    (C1 : Hid (∀ w, Calls Tryz.prog 46 #[.string t, .string ⟨#[35]⟩] w fun e w' => e = .returned (.tuple #[.string d, .bool true]) ∧ w = w'))
    (C2 : Hid (∀ w, Calls Tryz.prog 46 #[.string d, .string ⟨#[120]⟩] w fun e w' => e = .returned (.tuple #[.string d2, .bool true]) ∧ w = w')) (h8 : d2.size ≤ 8) (x : Int) (hx0 : x ≤ 2147483647) (CP : Hid (Calls Tryz.prog 130 #[.string d2, .int .i64 16, .int .i64 31] w (PPost x w))) :
    Calls Tryz.prog 122 #[.string t] w (NmPost (chrOr x) w) := by
  have i8 : decide ((8 : Int) < (d2.size : Int)) = false := by rw [decide_eq_false_iff_not]; omega
  have j8 : decide (8 < d2.size) = false := by rw [decide_eq_false_iff_not]; omega
  clear h8
  go_enter Tryz.func122, Tryz.ntmps122
  go_wp2_with fail
  refine (C1.out _).mono ?_
  rintro e w' ⟨rfl, rfl⟩
  go_wp2_with fail
  refine (C2.out _).mono ?_
  rintro e w' ⟨rfl, rfl⟩
  go_wp2_with fail
  refine CP.out.mono ?_
  rintro e w1 ⟨h, hb⟩
  clear CP C1 C2
  rcases h with ⟨h0, rfl⟩ | ⟨h0, y, n, rfl⟩
  · by_cases hc : Chr x
    · have CC : Hid (∀ w, Calls Tryz.prog 67 #[.int .i32 x] w fun e w' => e = .returned (.bool true) ∧ w = w') := Lib.hid fun w => by
        have := chr_any x w
        rw [decide_eq_true hc] at this
        exact this
      have HC : Hid (chrOr x = x) := Lib.hid (if_pos hc)
      have q : IntKind.i32.wrap x = x := by
        rw [IntKind.wrap_i32]; omega
      clear hc
      go_wp2_with (go_at_call 67; refine (CC.out _).mono ?_; rintro e w' ⟨rfl, rfl⟩)
      go_ret2
      exact ⟨.inl ⟨by rw [HC.out]; exact h0, by rw [HC.out]; rfl⟩, hb⟩
    · have CC : Hid (∀ w, Calls Tryz.prog 67 #[.int .i32 x] w fun e w' => e = .returned (.bool false) ∧ w = w') := Lib.hid fun w => by
        have := chr_any x w
        rw [decide_eq_false hc] at this
        exact this
      have HC : Hid (chrOr x = -1) := Lib.hid (if_neg hc)
      have q : IntKind.i32.wrap x = x := by
        rw [IntKind.wrap_i32]; omega
      clear hc
      go_wp2_with (go_at_call 67; refine (CC.out _).mono ?_; rintro e w' ⟨rfl, rfl⟩)
      go_ret2
      exact ⟨.inr ⟨by rw [HC.out]; omega, rfl⟩, hb⟩
  · have HC : Hid (chrOr x = -1) := Lib.hid (by rw [h0]; exact chrOr_neg)
    clear h0 hx0
    go_wp2
    go_ret2
    exact ⟨.inr ⟨by rw [HC.out]; omega, rfl⟩, hb⟩

theorem numV_eq (b : Int) (hb : 1 ≤ b) (t : ByteArray) (h8 : t.size ≤ 8) : numV b (byts t) = chrOr (if t.size = 0 then -1 else puGo b (byts t) 0) := by
  unfold numV
  by_cases h0 : t.size = 0
  · rw [if_pos h0, chrOr_neg, if_pos (.inl (List.eq_nil_of_length_eq_zero (by rw [byts_len]; exact h0)))]
  · rw [if_neg h0, if_neg, pu_num b hb]
    rintro (h | h)
    · have := congrArg List.length h
      rw [byts_len, List.length_nil] at this
      exact h0 this
    · rw [byts_len] at h; omega
theorem pu_le (b : Int) (hb : 1 ≤ b) (t : ByteArray) : (if t.size = 0 then -1 else puGo b (byts t) 0) ≤ 2147483647 := by
  split
  · omega
  · rcases puGo_bd b hb (byts t) 0 (by omega) (by omega) with h | h <;> omega
theorem numbered_any (t : ByteArray) (w : World) (hs : t.size ≤ 1000000) (hV : Vars w) : Calls Tryz.prog 122 #[.string t] w (NmPost (nrV (byts t)) w) := by
  unfold nrV
  by_cases h1 : (byts t).getD 0 0 = 35
  · rw [if_neg (by simpa using h1)]
    have C1 := Lib.hid (cp_yes t 35 (by decide) h1)
    have hd : (byts (t.extract 1 t.size)).getD 0 0 = (byts t).getD 1 0 := by
      rw [byts_from]; simp [List.getD_eq_getElem?_getD, List.getElem?_drop]
    have hz : (t.extract 1 t.size).size ≤ 1000000 := by rw [size_from]; omega
    by_cases h2 : (byts t).getD 1 0 = 120
    · rw [if_pos h2]
      have C2 := Lib.hid (cp_yes (t.extract 1 t.size) 120 (by decide) (by rw [hd]; exact h2))
      have e : (byts t).drop 2 = byts ((t.extract 1 t.size).extract 1 (t.extract 1 t.size).size) := by rw [byts_from, byts_from, List.drop_drop]
      have hz2 : ((t.extract 1 t.size).extract 1 (t.extract 1 t.size).size).size ≤ 1000000 := by rw [size_from]; omega
      rw [e]
      by_cases h8 : 8 < ((t.extract 1 t.size).extract 1 (t.extract 1 t.size).size).size
      · refine (num_hex_long t _ _ w C1 C2 h8).mono ?_
        rintro e w' ⟨rfl, hb⟩
        refine ⟨.inr ⟨?_, rfl⟩, hb⟩
        unfold numV
        rw [if_pos (.inr (by rw [byts_len]; exact h8))]
        omega
      · rw [numV_eq 16 (by omega) _ (by omega)]
        exact num_hex t _ _ w C1 C2 (by omega) _ (pu_le 16 (by omega) _) (Lib.hid (parse_any _ 16 (.inr rfl) w hz2 hV))
    · rw [if_neg h2]
      have C2 := Lib.hid (cp_no (t.extract 1 t.size) 120 (by rw [hd]; exact h2))
      rw [← byts_from]
      by_cases h8 : 8 < (t.extract 1 t.size).size
      · refine (num_dec_long t _ _ w C1 C2 h8).mono ?_
        rintro e w' ⟨rfl, hb⟩
        refine ⟨.inr ⟨?_, rfl⟩, hb⟩
        unfold numV
        rw [if_pos (.inr (by rw [byts_len]; exact h8))]
        omega
      · rw [numV_eq 10 (by omega) _ (by omega)]
        exact num_dec t _ _ w C1 C2 (by omega) _ (pu_le 10 (by omega) _) (Lib.hid (parse_any _ 10 (.inl rfl) w hz hV))
  · rw [if_pos h1]
    have C1 := Lib.hid (cp_no t 35 h1)
    have fin : ∀ (d2 : ByteArray) (is : Bool), Hid (∀ w, Calls Tryz.prog 46 #[.string t, .string ⟨#[120]⟩] w fun e w' => e = .returned (.tuple #[.string d2, .bool is]) ∧ w = w') → Calls Tryz.prog 122 #[.string t] w (NmPost (-1) w) := fun d2 is C2 => by
      refine (num_no t d2 is w C1 C2).mono ?_
      rintro e w' ⟨rfl, hb⟩
      exact ⟨.inr ⟨by omega, rfl⟩, hb⟩
    by_cases h2 : (byts t).getD 0 0 = 120
    · exact fin _ _ (Lib.hid (cp_yes t 120 (by decide) h2))
    · exact fin _ _ (Lib.hid (cp_no t 120 h2))
end Go.Proofs.YtmbghdpoeahnaaaGreatDoor
