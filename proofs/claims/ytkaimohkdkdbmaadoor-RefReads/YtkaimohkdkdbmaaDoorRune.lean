/-
  The walk of utf.Rune.
-/
import Derived.Test.YtkaimohkdkdbmaaDoorLeaf
import Derived.Lib.Hide
namespace Go.Proofs.YtkaimohkdkdbmaaDoor
open Go.RowKit

def R3 (x : Int × Int × Int) : Value := .tuple #[.int .i32 x.1, .int .i64 x.2.1, .int .i64 x.2.2]

theorem poss_true (r : Int) (k n : Nat) (w : World) (h0 : 0 ≤ r) (h1 : r * p64 (n - k) < 2097152) (hk : 1 ≤ k) (hn : k ≤ n) (h4 : n ≤ 4) (h : possB r k n = true) :
    Calls Tryd.prog 50 #[.int .i32 r, .int .i64 k, .int .i64 n] w fun e w' => e = .returned (.bool true) ∧ w = w' := by
  rw [← h]; exact poss_any r k n w h0 h1 hk hn h4
theorem poss_false (r : Int) (k n : Nat) (w : World) (h0 : 0 ≤ r) (h1 : r * p64 (n - k) < 2097152) (hk : 1 ≤ k) (hn : k ≤ n) (h4 : n ≤ 4) (h : possB r k n = false) :
    Calls Tryd.prog 50 #[.int .i32 r, .int .i64 k, .int .i64 n] w fun e w' => e = .returned (.bool false) ∧ w = w' := by
  rw [← h]; exact poss_any r k n w h0 h1 hk hn h4

theorem leadR_bd (b : Int) (h0 : 0 ≤ b) (h1 : b < 256) (h : leadN b ≠ 0) : 1 ≤ leadN b ∧ leadN b ≤ 4 ∧ 0 ≤ leadR b ∧ leadR b * p64 (leadN b - 1) < 2097152 := by
  unfold leadN leadR at *
  by_cases q1 : b < 128
  · simp only [q1, if_true, Nat.reduceSub, p64_0]; omega
  by_cases q2 : b < 192
  · simp [q1, q2] at h
  by_cases q3 : b < 224
  · simp only [q1, q2, q3, if_true, if_false, Nat.reduceSub, p64_1]; omega
  by_cases q4 : b < 240
  · simp only [q1, q2, q3, q4, if_true, if_false, Nat.reduceSub, p64_2]; omega
  by_cases q5 : b < 248
  · simp only [q1, q2, q3, q4, q5, if_true, if_false, Nat.reduceSub, p64_3]; omega
  · simp [q1, q2, q3, q4, q5] at h

theorem p64_step (n k : Nat) (h : k < n) (h4 : n ≤ 4) (h1 : 1 ≤ k) : p64 (n - k) = 64 * p64 (n - (k + 1)) ∧ 1 ≤ p64 (n - (k + 1)) := by
  have h : (k = 1 ∧ n = 2) ∨ (k = 1 ∧ n = 3) ∨ (k = 2 ∧ n = 3) ∨ (k = 1 ∧ n = 4) ∨ (k = 2 ∧ n = 4) ∨ (k = 3 ∧ n = 4) := by omega
  rcases h with ⟨rfl, rfl⟩ | ⟨rfl, rfl⟩ | ⟨rfl, rfl⟩ | ⟨rfl, rfl⟩ | ⟨rfl, rfl⟩ | ⟨rfl, rfl⟩ <;> decide

theorem next_bd (r b : Int) (n k : Nat) (h : k < n) (h4 : n ≤ 4) (h1 : 1 ≤ k) (hr : 0 ≤ r) (hb : r * p64 (n - k) < 2097152) :
    0 ≤ r * 64 + b % 64 ∧ (r * 64 + b % 64) * p64 (n - (k + 1)) < 2097152 := by
  have h : (k = 1 ∧ n = 2) ∨ (k = 1 ∧ n = 3) ∨ (k = 2 ∧ n = 3) ∨ (k = 1 ∧ n = 4) ∨ (k = 2 ∧ n = 4) ∨ (k = 3 ∧ n = 4) := by omega
  rcases h with ⟨rfl, rfl⟩ | ⟨rfl, rfl⟩ | ⟨rfl, rfl⟩ | ⟨rfl, rfl⟩ | ⟨rfl, rfl⟩ | ⟨rfl, rfl⟩
  all_goals
    simp only [Nat.reduceSub, Nat.reduceAdd, p64_0, p64_1, p64_2, p64_3] at hb ⊢
    omega

theorem r_small (r : Int) (n k : Nat) (h : k < n) (h4 : n ≤ 4) (h1 : 1 ≤ k) (hr : 0 ≤ r) (hb : r * p64 (n - k) < 2097152) : r < 32768 := by
  have h : (k = 1 ∧ n = 2) ∨ (k = 1 ∧ n = 3) ∨ (k = 2 ∧ n = 3) ∨ (k = 1 ∧ n = 4) ∨ (k = 2 ∧ n = 4) ∨ (k = 3 ∧ n = 4) := by omega
  rcases h with ⟨rfl, rfl⟩ | ⟨rfl, rfl⟩ | ⟨rfl, rfl⟩ | ⟨rfl, rfl⟩ | ⟨rfl, rfl⟩ | ⟨rfl, rfl⟩
  all_goals
    simp only [Nat.reduceSub, p64_1, p64_2, p64_3] at hb
    omega

set_option maxHeartbeats 1000000 in
set_option maxRecDepth 100000 in
theorem rune_in (s : ByteArray) (a : Nat) (w : World) (hs : s.size ≤ maxLen) (ha : a < s.size) :
    Calls Tryd.prog 42 #[.string s, .int .i64 a] w fun e w' => e = .returned (R3 (rgo (fun k => bt s (a + k)) (s.size - a) (leadN (bt s a)) 4 1 (leadR (bt s a)))) ∧ w = w' := by
  unfold maxLen at hs
  have b0 := bt_lo s a
  have b1 := bt_hi s a
  have t1 : decide ((a : Int) < 0) = false := by simp
  have t2 : decide (s.size ≤ a) = false := by simp; omega
  have HR := leadR_bd (bt s a) b0 b1
  have HB := Lib.hid (bt_eq s a ha)
  generalize hR : rgo (fun k => bt s (a + k)) (s.size - a) (leadN (bt s a)) 4 1 (leadR (bt s a)) = R
  have HR2 := Lib.hid hR
  clear hR
  by_cases hn : leadN (bt s a) = 0
  · have hR2 := HR2.out
    rw [hn, rgo0] at hR2
    subst hR2
    clear HR HR2
    have hn' : ((leadN (bt s a) : Nat) : Int) = 0 := by omega
    clear hn
    go_enter Tryd.func42, Tryd.ntmps42
    go_wp2_with fail
    rw [HB.out]
    refine (lead_any _ _ b0 b1).mono ?_
    rintro e w' ⟨rfl, rfl⟩
    rw [hn']
    clear hn'
    generalize leadR (bt s a) = r at *
    go_wp2_with fail
    refine wp_loop_rounds 1 ?_
    rw [rounds_succ]
    go_wp2_with (go_at_call 50; refine (poss_zero _ _ _).mono ?_; rintro e w' ⟨rfl, rfl⟩)
    go_ret3
    exact ⟨rfl, rfl⟩
  obtain ⟨n1, n4, r0, r1⟩ := HR hn
  clear hn HR
  go_enter Tryd.func42, Tryd.ntmps42
  go_wp2_with fail
  rw [HB.out]
  refine (lead_any _ _ b0 b1).mono ?_
  rintro e w' ⟨rfl, rfl⟩
  generalize leadN (bt s a) = n at *
  generalize leadR (bt s a) = r at *
  go_wp2_with fail
  go_loop [7, 9, 10] (fun q i _ => ∃ (k : Nat) (r' : Int), 1 ≤ k ∧ k ≤ n ∧ 0 ≤ r' ∧ r' * p64 (n - k) < 2097152 ∧ a + k ≤ s.size ∧ i = .int .i64 k ∧ q = .int .i32 r' ∧ rgo (fun k => bt s (a + k)) (s.size - a) n (5 - k) k r' = R) (fun _ i _ => 5 - (intOf i).toNat)
  case atStart => exact ⟨1, r, by omega, n1, r0, r1, by omega, rfl, rfl, HR2.out⟩
  case round =>
    obtain ⟨k, r', k1, kn, q0, q1, ka, rfl, rfl, hrel⟩ := hrel
    have e5 : 5 - k = (4 - k) + 1 := by omega
    rw [e5, rgo_step] at hrel
    clear e5 HR2 r0 r1 b0 b1 HB t1 t2
    have c0 := bt_lo s (a + k)
    have c1 := bt_hi s (a + k)
    by_cases hp : possB r' k n = false
    · rw [if_pos hp] at hrel
      have HR := Lib.hid hrel
      clear hrel
      go_wp2_with (go_at_call 50; refine (poss_false _ _ _ _ q0 q1 k1 kn n4 hp).mono ?_; rintro e w' ⟨rfl, rfl⟩)
      go_ret3
      exact ⟨by rw [← HR.out]; rfl, rfl⟩
    rw [if_neg hp] at hrel
    have hp' : possB r' k n = true := by simpa using hp
    clear hp
    by_cases hk : k = n
    · subst hk
      rw [if_pos rfl] at hrel
      have HR := Lib.hid hrel
      clear hrel
      go_wp2_with (go_at_call 50; refine (poss_true _ _ _ _ q0 q1 k1 kn n4 hp').mono ?_; rintro e w' ⟨rfl, rfl⟩)
      go_ret3
      exact ⟨by rw [← HR.out]; rfl, rfl⟩
    rw [if_neg hk] at hrel
    have tk : ((k : Int) == (n : Int)) = false := by simp; omega
    by_cases hl : k = s.size - a
    · rw [if_pos hl] at hrel
      have HR := Lib.hid hrel
      clear hrel hk
      have tl : ((a : Int) + (k : Int) == (s.size : Int)) = true := by simp; omega
      clear hl
      go_wp2_with (go_at_call 50; refine (poss_true _ _ _ _ q0 q1 k1 kn n4 hp').mono ?_; rintro e w' ⟨rfl, rfl⟩)
      go_ret3
      exact ⟨by rw [← HR.out]; rfl, rfl⟩
    rw [if_neg hl] at hrel
    have hlt : a + k < s.size := by omega
    have tl : ((a : Int) + (k : Int) == (s.size : Int)) = false := by simp; omega
    have HB := Lib.hid (bt_eq s (a + k) hlt)
    have hkn : k < n := by omega
    have hsm := r_small r' n k hkn n4 k1 q0 q1
    have hby : (s[a + k].toNat : Int) < 256 := by have := s[a + k].toNat_lt; omega
    by_cases hc : bt s (a + k) / 64 = 2
    · rw [if_pos hc] at hrel
      have HR := Lib.hid hrel
      have hc' : ((s[a + k].toNat : Int) / 64 != 2) = false := by rw [HB.out, hc]; rfl
      have NB := Lib.hid (next_bd r' (bt s (a + k)) n k hkn n4 k1 q0 q1)
      clear hl hk hrel hc c0 c1
      go_wp2_with (go_at_call 50; refine (poss_true _ _ _ _ q0 q1 k1 kn n4 hp').mono ?_; rintro e w' ⟨rfl, rfl⟩)
      go_round
      case rel => exact ⟨k + 1, r' * 64 + bt s (a + k) % 64, by omega, by omega, NB.out.1, NB.out.2, by omega, by go_num, by rw [HB.out], by rw [← HR.out]; congr 1; omega⟩
      case measure => simp [intOf]; omega
    · rw [if_neg hc] at hrel
      have HR := Lib.hid hrel
      have hc' : ((s[a + k].toNat : Int) / 64 != 2) = true := by rw [HB.out]; simpa using hc
      clear hl hk hrel hc c0 c1
      go_wp2_with (go_at_call 50; refine (poss_true _ _ _ _ q0 q1 k1 kn n4 hp').mono ?_; rintro e w' ⟨rfl, rfl⟩)
      go_ret3
      exact ⟨by rw [← HR.out]; rfl, rfl⟩
end Go.Proofs.YtkaimohkdkdbmaaDoor
