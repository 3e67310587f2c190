/-
  Merged by program out of the texts Rune, Canon, RuneAny, Next, Read, Desc, SrMath of one seat.
-/
import Derived.Test.YtjboglpnpgghiaaDoorG02
import Derived.Test.YtjboglpnpgghiaaDoorG01
import Derived.Lib.Hide
import Derived.Lib.Strings
import Derived.Lib.ItoaNum

/- The walk of utf.Rune. -/
namespace Go.Proofs.YtjboglpnpgghiaaDoor
open Go.RowKit

def R3 (x : Int × Int × Int) : Value := .tuple #[.int .i32 x.1, .int .i64 x.2.1, .int .i64 x.2.2]

theorem poss_true (r : Int) (k n : Nat) (w : World) (h0 : 0 ≤ r) (h1 : r * p64 (n - k) < 2097152) (hk : 1 ≤ k) (hn : k ≤ n) (h4 : n ≤ 4) (h : possB r k n = true) :
    Calls Tryd.prog 52 #[.int .i32 r, .int .i64 k, .int .i64 n] w fun e w' => e = .returned (.bool true) ∧ w = w' := by
  rw [← h]; exact poss_any r k n w h0 h1 hk hn h4
theorem poss_false (r : Int) (k n : Nat) (w : World) (h0 : 0 ≤ r) (h1 : r * p64 (n - k) < 2097152) (hk : 1 ≤ k) (hn : k ≤ n) (h4 : n ≤ 4) (h : possB r k n = false) :
    Calls Tryd.prog 52 #[.int .i32 r, .int .i64 k, .int .i64 n] w fun e w' => e = .returned (.bool false) ∧ w = w' := by
  rw [← h]; exact poss_any r k n w h0 h1 hk hn h4

theorem leadR_bd (b : Int) (h0 : 0 ≤ b) (h1 : b < 256) (h : leadN b ≠ 0) : 1 ≤ leadN b ∧ leadN b ≤ 4 ∧ 0 ≤ leadR b ∧ leadR b * p64 (leadN b - 1) < 2097152 := by
  unfold leadN leadR at *
  by_cases q1 : b < 128
  · simp only [q1, if_true, Nat.reduceSub, p64_0]; omega
  by_cases q2 : b < 192
  · simp [q1, q2] at h
  by_cases q3 : b < 224
  · simp only [q1, q2, q3, if_true, if_false, Nat.reduceSub, p64_1]; omega
  by_cases q4 : b < 240
  · simp only [q1, q2, q3, q4, if_true, if_false, Nat.reduceSub, p64_2]; omega
  by_cases q5 : b < 248
  · simp only [q1, q2, q3, q4, q5, if_true, if_false, Nat.reduceSub, p64_3]; omega
  · simp [q1, q2, q3, q4, q5] at h

theorem next_bd (r b : Int) (n k : Nat) (h : k < n) (h4 : n ≤ 4) (h1 : 1 ≤ k) (hr : 0 ≤ r) (hb : r * p64 (n - k) < 2097152) :
    0 ≤ r * 64 + b % 64 ∧ (r * 64 + b % 64) * p64 (n - (k + 1)) < 2097152 := by
  have h : (k = 1 ∧ n = 2) ∨ (k = 1 ∧ n = 3) ∨ (k = 2 ∧ n = 3) ∨ (k = 1 ∧ n = 4) ∨ (k = 2 ∧ n = 4) ∨ (k = 3 ∧ n = 4) := by omega
  rcases h with ⟨rfl, rfl⟩ | ⟨rfl, rfl⟩ | ⟨rfl, rfl⟩ | ⟨rfl, rfl⟩ | ⟨rfl, rfl⟩ | ⟨rfl, rfl⟩
  all_goals
    simp only [Nat.reduceSub, Nat.reduceAdd, p64_0, p64_1, p64_2, p64_3] at hb ⊢
    omega

theorem r_small (r : Int) (n k : Nat) (h : k < n) (h4 : n ≤ 4) (h1 : 1 ≤ k) (hr : 0 ≤ r) (hb : r * p64 (n - k) < 2097152) : r < 32768 := by
  have h : (k = 1 ∧ n = 2) ∨ (k = 1 ∧ n = 3) ∨ (k = 2 ∧ n = 3) ∨ (k = 1 ∧ n = 4) ∨ (k = 2 ∧ n = 4) ∨ (k = 3 ∧ n = 4) := by omega
  rcases h with ⟨rfl, rfl⟩ | ⟨rfl, rfl⟩ | ⟨rfl, rfl⟩ | ⟨rfl, rfl⟩ | ⟨rfl, rfl⟩ | ⟨rfl, rfl⟩
  all_goals
    simp only [Nat.reduceSub, p64_1, p64_2, p64_3] at hb
    omega

set_option maxHeartbeats 1000000 in
set_option maxRecDepth 100000 in
theorem rune_in (s : ByteArray) (a : Nat) (w : World) (hs : s.size ≤ maxLen) (ha : a < s.size) :
    Calls Tryd.prog 41 #[.string s, .int .i64 a] w fun e w' => e = .returned (R3 (rgo (fun k => bt s (a + k)) (s.size - a) (leadN (bt s a)) 4 1 (leadR (bt s a)))) ∧ w = w' := by
  unfold maxLen at hs
  have b0 := bt_lo s a
  have b1 := bt_hi s a
  have t1 : decide ((a : Int) < 0) = false := by simp
  have t2 : decide (s.size ≤ a) = false := by simp; omega
  have HR := leadR_bd (bt s a) b0 b1
  have HB := Lib.hid (bt_eq s a ha)
  generalize hR : rgo (fun k => bt s (a + k)) (s.size - a) (leadN (bt s a)) 4 1 (leadR (bt s a)) = R
  have HR2 := Lib.hid hR
  clear hR
  by_cases hn : leadN (bt s a) = 0
  · have hR2 := HR2.out
    rw [hn, rgo0] at hR2
    subst hR2
    clear HR HR2
    have hn' : ((leadN (bt s a) : Nat) : Int) = 0 := by omega
    clear hn
    go_enter Tryd.func41, Tryd.ntmps41
    go_wp2_with fail
    rw [HB.out]
    refine (lead_any _ _ b0 b1).mono ?_
    rintro e w' ⟨rfl, rfl⟩
    rw [hn']
    clear hn'
    generalize leadR (bt s a) = r at *
    go_wp2_with fail
    refine wp_loop_rounds 1 ?_
    rw [rounds_succ]
    go_wp2_with (go_at_call 52; refine (poss_zero _ _ _).mono ?_; rintro e w' ⟨rfl, rfl⟩)
    go_ret3
    exact ⟨rfl, rfl⟩
  obtain ⟨n1, n4, r0, r1⟩ := HR hn
  clear hn HR
  go_enter Tryd.func41, Tryd.ntmps41
  go_wp2_with fail
  rw [HB.out]
  refine (lead_any _ _ b0 b1).mono ?_
  rintro e w' ⟨rfl, rfl⟩
  generalize leadN (bt s a) = n at *
  generalize leadR (bt s a) = r at *
  go_wp2_with fail
  go_loop [7, 9, 10] (fun q i _ => ∃ (k : Nat) (r' : Int), 1 ≤ k ∧ k ≤ n ∧ 0 ≤ r' ∧ r' * p64 (n - k) < 2097152 ∧ a + k ≤ s.size ∧ i = .int .i64 k ∧ q = .int .i32 r' ∧ rgo (fun k => bt s (a + k)) (s.size - a) n (5 - k) k r' = R) (fun _ i _ => 5 - (intOf i).toNat)
  case atStart => exact ⟨1, r, by omega, n1, r0, r1, by omega, rfl, rfl, HR2.out⟩
  case round =>
    obtain ⟨k, r', k1, kn, q0, q1, ka, rfl, rfl, hrel⟩ := hrel
    have e5 : 5 - k = (4 - k) + 1 := by omega
    rw [e5, rgo_step] at hrel
    clear e5 HR2 r0 r1 b0 b1 HB t1 t2
    have c0 := bt_lo s (a + k)
    have c1 := bt_hi s (a + k)
    by_cases hp : possB r' k n = false
    · rw [if_pos hp] at hrel
      have HR := Lib.hid hrel
      clear hrel
      go_wp2_with (go_at_call 52; refine (poss_false _ _ _ _ q0 q1 k1 kn n4 hp).mono ?_; rintro e w' ⟨rfl, rfl⟩)
      go_ret3
      exact ⟨by rw [← HR.out]; rfl, rfl⟩
    rw [if_neg hp] at hrel
    have hp' : possB r' k n = true := by simpa using hp
    clear hp
    by_cases hk : k = n
    · subst hk
      rw [if_pos rfl] at hrel
      have HR := Lib.hid hrel
      clear hrel
      go_wp2_with (go_at_call 52; refine (poss_true _ _ _ _ q0 q1 k1 kn n4 hp').mono ?_; rintro e w' ⟨rfl, rfl⟩)
      go_ret3
      exact ⟨by rw [← HR.out]; rfl, rfl⟩
    rw [if_neg hk] at hrel
    have tk : ((k : Int) == (n : Int)) = false := by simp; omega
    by_cases hl : k = s.size - a
    · rw [if_pos hl] at hrel
      have HR := Lib.hid hrel
      clear hrel hk
      have tl : ((a : Int) + (k : Int) == (s.size : Int)) = true := by simp; omega
      clear hl
      go_wp2_with (go_at_call 52; refine (poss_true _ _ _ _ q0 q1 k1 kn n4 hp').mono ?_; rintro e w' ⟨rfl, rfl⟩)
      go_ret3
      exact ⟨by rw [← HR.out]; rfl, rfl⟩
    rw [if_neg hl] at hrel
    have hlt : a + k < s.size := by omega
    have tl : ((a : Int) + (k : Int) == (s.size : Int)) = false := by simp; omega
    have HB := Lib.hid (bt_eq s (a + k) hlt)
    have hkn : k < n := by omega
    have hsm := r_small r' n k hkn n4 k1 q0 q1
    have hby : (s[a + k].toNat : Int) < 256 := by have := s[a + k].toNat_lt; omega
    by_cases hc : bt s (a + k) / 64 = 2
    · rw [if_pos hc] at hrel
      have HR := Lib.hid hrel
      have hc' : ((s[a + k].toNat : Int) / 64 != 2) = false := by rw [HB.out, hc]; rfl
      have NB := Lib.hid (next_bd r' (bt s (a + k)) n k hkn n4 k1 q0 q1)
      clear hl hk hrel hc c0 c1
      go_wp2_with (go_at_call 52; refine (poss_true _ _ _ _ q0 q1 k1 kn n4 hp').mono ?_; rintro e w' ⟨rfl, rfl⟩)
      go_round
      case rel => exact ⟨k + 1, r' * 64 + bt s (a + k) % 64, by omega, by omega, NB.out.1, NB.out.2, by omega, by go_num, by rw [HB.out], by rw [← HR.out]; congr 1; omega⟩
      case measure => simp [intOf]; omega
    · rw [if_neg hc] at hrel
      have HR := Lib.hid hrel
      have hc' : ((s[a + k].toNat : Int) / 64 != 2) = true := by rw [HB.out]; simpa using hc
      clear hl hk hrel hc c0 c1
      go_wp2_with (go_at_call 52; refine (poss_true _ _ _ _ q0 q1 k1 kn n4 hp').mono ?_; rintro e w' ⟨rfl, rfl⟩)
      go_ret3
      exact ⟨by rw [← HR.out]; rfl, rfl⟩
end Go.Proofs.YtjboglpnpgghiaaDoor

/- The decoder's loop comes to what the table of first bytes says. -/
set_option linter.unusedSimpArgs false
set_option linter.unusedVariables false
namespace Go.Proofs.YtjboglpnpgghiaaDoor
set_option maxHeartbeats 2000000 in
theorem rgo_canon (b : Nat → Int) (left : Nat) (hl : 1 ≤ left) (h0 : ∀ k, 0 ≤ b k) (h1 : ∀ k, b k < 256) :
    rgo b left (leadN (b 0)) 4 1 (leadR (b 0)) = canon b left := by
  have a0 := h0 0; have a1 := h1 0
  have b0 := h0 1; have b1 := h1 1
  have c0 := h0 2; have c1 := h1 2
  have d0 := h0 3; have d1 := h1 3
  unfold leadN leadR canon
  generalize e0 : b 0 = x0 at *
  by_cases q1 : x0 < 128
  · simp only [q1, if_true, rgo_step, possB_false, p64, most, least]
    simp
    omega
  by_cases q2 : x0 < 192
  · have : x0 < 194 := by omega
    simp only [q1, q2, this, if_true, if_false, rgo0]
  by_cases q3 : x0 < 224
  · simp only [q1, q2, q3, if_true, if_false, rgo_step, possB_false, p64_0, p64_1, p64_2, p64_3, least2, least3, least4, most2, most3, most4, Nat.reduceSub, Nat.reduceEqDiff, Nat.reduceAdd, false_or, e0]
    repeat' split
    all_goals (first | rfl | (exfalso; omega) | (refine tri ?_ ?_ ?_ <;> omega))
  by_cases q4 : x0 < 240
  · simp only [q1, q2, q3, q4, if_true, if_false, rgo_step, possB_false, p64_0, p64_1, p64_2, p64_3, least2, least3, least4, most2, most3, most4, Nat.reduceSub, Nat.reduceEqDiff, Nat.reduceAdd, false_or, e0]
    repeat' split
    all_goals (first | rfl | (exfalso; omega) | (refine tri ?_ ?_ ?_ <;> omega))
  by_cases q5 : x0 < 248
  · simp only [q1, q2, q3, q4, q5, if_true, if_false, rgo_step, possB_false, p64_0, p64_1, p64_2, p64_3, least2, least3, least4, most2, most3, most4, Nat.reduceSub, Nat.reduceEqDiff, Nat.reduceAdd, false_or, e0]
    repeat' split
    all_goals (first | rfl | (exfalso; omega) | (refine tri ?_ ?_ ?_ <;> omega))
  · have q6 : ¬ x0 < 245 := by omega
    simp only [q1, q2, q3, q4, q5, q6, if_false, rgo0]
    split
    · rfl
    · rfl
end Go.Proofs.YtjboglpnpgghiaaDoor

/- utf.Rune, of whatever bytes, at whatever place. -/
set_option linter.unusedSimpArgs false
set_option linter.unusedVariables false
namespace Go.Proofs.YtjboglpnpgghiaaDoor
open Go.RowKit

set_option maxHeartbeats 400000 in
theorem rune_out (s : ByteArray) (a : Int) (w : World) (hs : s.size ≤ maxLen) (ha : a < 0 ∨ (s.size : Int) ≤ a) :
    Calls Tryd.prog 41 #[.string s, .int .i64 a] w fun e w' => e = .returned (R3 (0, 0, 7)) ∧ w = w' := by
  unfold maxLen at hs
  by_cases h : a < 0
  · clear ha
    go_enter Tryd.func41, Tryd.ntmps41
    go_wp2
    go_ret3
    exact ⟨rfl, rfl⟩
  · have h2 : (s.size : Int) ≤ a := by omega
    clear ha
    go_enter Tryd.func41, Tryd.ntmps41
    go_wp2
    go_ret3
    exact ⟨rfl, rfl⟩

theorem rune_any (s : ByteArray) (a : Int) (w : World) (hs : s.size ≤ maxLen) :
    Calls Tryd.prog 41 #[.string s, .int .i64 a] w fun e w' => e = .returned (R3 (runeF s a)) ∧ w = w' := by
  unfold runeF
  by_cases h : a < 0 ∨ (s.size : Int) ≤ a
  · rw [if_pos h]
    exact rune_out s a w hs h
  · rw [if_neg h]
    obtain ⟨n, rfl⟩ := Int.eq_ofNat_of_zero_le (show 0 ≤ a by omega)
    rw [Int.toNat_natCast, ← rgo_canon _ _ (by omega) (fun k => bt_lo s _) (fun k => bt_hi s _)]
    exact rune_in s n w hs (by omega)
theorem rune_at (s : ByteArray) (a : Nat) (w : World) (hs : s.size ≤ maxLen) :
    Calls Tryd.prog 41 #[.string s, .int .i64 a] w fun e w' => e = .returned (.tuple #[.int .i32 (runeF s a).1, .int .i64 (runeF s a).2.1, .int .i64 (runeF s a).2.2]) ∧ w = w' := rune_any s a w hs
end Go.Proofs.YtjboglpnpgghiaaDoor

/- The walks of the gatherer's next and mask, of ref.read, ref.escape, and of Text, Value, Escape, Quote. -/
set_option linter.unusedSimpArgs false
set_option linter.unusedVariables false
namespace Go.Proofs.YtjboglpnpgghiaaDoor
open Go.RowKit

theorem at_byt (s : ByteArray) (k : Nat) (h : k < s.size) : ((s[k]).toNat : Int) = (byts s).getD k 0 := by rw [bt_eq s k h, bt_byts]

set_option maxHeartbeats 2000000 in
set_option maxRecDepth 100000 in
theorem mask_amp (B b : Nat) (v : Bool) (bs : List Int) (w : World) (hg : Gat B b v bs w) (hB : B ≤ w.heap.size) (hl : bs.length ≤ 17592186044416) :
    Calls Tryd.prog 47 #[.pointer (some ⟨b, 0, none⟩), .int .u8 38] w fun e w' => e = .returned (.tuple #[]) ∧ Gat B b v (bs ++ [38, 97, 109, 112, 59]) w' ∧ Below B w w' := by
  have hv := hg.value
  have CW := Lib.hid (wstr_any B b v bs ⟨#[38, 97, 109, 112, 59]⟩ w hg hB hl (by decide) (by decide))
  clear hg
  go_enter Tryd.func47, Tryd.ntmps47
  go_wp2_with fail
  refine CW.out.mono ?_
  rintro e w1 ⟨rfl, h, hb⟩
  have H := Lib.hid h
  clear h CW
  go_wp2
  go_end0
  exact ⟨rfl, H.out, hb⟩

set_option maxHeartbeats 2000000 in
set_option maxRecDepth 100000 in
theorem mask_lt (B b : Nat) (v : Bool) (bs : List Int) (w : World) (hg : Gat B b v bs w) (hB : B ≤ w.heap.size) (hl : bs.length ≤ 17592186044416) :
    Calls Tryd.prog 47 #[.pointer (some ⟨b, 0, none⟩), .int .u8 60] w fun e w' => e = .returned (.tuple #[]) ∧ Gat B b v (bs ++ [38, 108, 116, 59]) w' ∧ Below B w w' := by
  have hv := hg.value
  have CW := Lib.hid (wstr_any B b v bs ⟨#[38, 108, 116, 59]⟩ w hg hB hl (by decide) (by decide))
  clear hg
  go_enter Tryd.func47, Tryd.ntmps47
  go_wp2_with fail
  refine CW.out.mono ?_
  rintro e w1 ⟨rfl, h, hb⟩
  have H := Lib.hid h
  clear h CW
  go_wp2
  go_end0
  exact ⟨rfl, H.out, hb⟩

set_option maxHeartbeats 2000000 in
set_option maxRecDepth 100000 in
theorem mask_gt (B b : Nat) (v : Bool) (bs : List Int) (w : World) (hg : Gat B b v bs w) (hB : B ≤ w.heap.size) (hl : bs.length ≤ 17592186044416) :
    Calls Tryd.prog 47 #[.pointer (some ⟨b, 0, none⟩), .int .u8 62] w fun e w' => e = .returned (.tuple #[]) ∧ Gat B b v (bs ++ [38, 103, 116, 59]) w' ∧ Below B w w' := by
  have hv := hg.value
  have CW := Lib.hid (wstr_any B b v bs ⟨#[38, 103, 116, 59]⟩ w hg hB hl (by decide) (by decide))
  clear hg
  go_enter Tryd.func47, Tryd.ntmps47
  go_wp2_with fail
  refine CW.out.mono ?_
  rintro e w1 ⟨rfl, h, hb⟩
  have H := Lib.hid h
  clear h CW
  go_wp2
  go_end0
  exact ⟨rfl, H.out, hb⟩

set_option maxHeartbeats 2000000 in
set_option maxRecDepth 100000 in
theorem mask_cr (B b : Nat) (v : Bool) (bs : List Int) (w : World) (hg : Gat B b v bs w) (hB : B ≤ w.heap.size) (hl : bs.length ≤ 17592186044416) :
    Calls Tryd.prog 47 #[.pointer (some ⟨b, 0, none⟩), .int .u8 13] w fun e w' => e = .returned (.tuple #[]) ∧ Gat B b v (bs ++ [38, 35, 120, 68, 59]) w' ∧ Below B w w' := by
  have hv := hg.value
  have CW := Lib.hid (wstr_any B b v bs ⟨#[38, 35, 120, 68, 59]⟩ w hg hB hl (by decide) (by decide))
  clear hg
  go_enter Tryd.func47, Tryd.ntmps47
  go_wp2_with fail
  refine CW.out.mono ?_
  rintro e w1 ⟨rfl, h, hb⟩
  have H := Lib.hid h
  clear h CW
  go_wp2
  go_end0
  exact ⟨rfl, H.out, hb⟩

set_option maxHeartbeats 2000000 in
set_option maxRecDepth 100000 in
theorem mask_quot (B b : Nat) (v : Bool) (bs : List Int) (w : World) (hg : Gat B b true bs w) (hB : B ≤ w.heap.size) (hl : bs.length ≤ 17592186044416) :
    Calls Tryd.prog 47 #[.pointer (some ⟨b, 0, none⟩), .int .u8 34] w fun e w' => e = .returned (.tuple #[]) ∧ Gat B b true (bs ++ [38, 113, 117, 111, 116, 59]) w' ∧ Below B w w' := by
  have hv := hg.value
  have CW := Lib.hid (wstr_any B b true bs ⟨#[38, 113, 117, 111, 116, 59]⟩ w hg hB hl (by decide) (by decide))
  clear hg
  go_enter Tryd.func47, Tryd.ntmps47
  go_wp2_with fail
  refine CW.out.mono ?_
  rintro e w1 ⟨rfl, h, hb⟩
  have H := Lib.hid h
  clear h CW
  go_wp2
  go_end0
  exact ⟨rfl, H.out, hb⟩

set_option maxHeartbeats 2000000 in
set_option maxRecDepth 100000 in
theorem mask_tab (B b : Nat) (v : Bool) (bs : List Int) (w : World) (hg : Gat B b true bs w) (hB : B ≤ w.heap.size) (hl : bs.length ≤ 17592186044416) :
    Calls Tryd.prog 47 #[.pointer (some ⟨b, 0, none⟩), .int .u8 9] w fun e w' => e = .returned (.tuple #[]) ∧ Gat B b true (bs ++ [38, 35, 120, 57, 59]) w' ∧ Below B w w' := by
  have hv := hg.value
  have CW := Lib.hid (wstr_any B b true bs ⟨#[38, 35, 120, 57, 59]⟩ w hg hB hl (by decide) (by decide))
  clear hg
  go_enter Tryd.func47, Tryd.ntmps47
  go_wp2_with fail
  refine CW.out.mono ?_
  rintro e w1 ⟨rfl, h, hb⟩
  have H := Lib.hid h
  clear h CW
  go_wp2
  go_end0
  exact ⟨rfl, H.out, hb⟩

set_option maxHeartbeats 2000000 in
set_option maxRecDepth 100000 in
theorem mask_lf (B b : Nat) (v : Bool) (bs : List Int) (w : World) (hg : Gat B b true bs w) (hB : B ≤ w.heap.size) (hl : bs.length ≤ 17592186044416) :
    Calls Tryd.prog 47 #[.pointer (some ⟨b, 0, none⟩), .int .u8 10] w fun e w' => e = .returned (.tuple #[]) ∧ Gat B b true (bs ++ [38, 35, 120, 65, 59]) w' ∧ Below B w w' := by
  have hv := hg.value
  have CW := Lib.hid (wstr_any B b true bs ⟨#[38, 35, 120, 65, 59]⟩ w hg hB hl (by decide) (by decide))
  clear hg
  go_enter Tryd.func47, Tryd.ntmps47
  go_wp2_with fail
  refine CW.out.mono ?_
  rintro e w1 ⟨rfl, h, hb⟩
  have H := Lib.hid h
  clear h CW
  go_wp2
  go_end0
  exact ⟨rfl, H.out, hb⟩

set_option maxHeartbeats 2000000 in
set_option maxRecDepth 100000 in
theorem mask_f (B b : Nat) (bs : List Int) (c : Int) (w : World) (hg : Gat B b false bs w) (hB : B ≤ w.heap.size) (hl : bs.length ≤ 17592186044416) (h0 : 0 ≤ c) (h1 : c ≤ 255)
    (t1 : (c == 38) = false) (t2 : (c == 60) = false) (t3 : (c == 62) = false) (t4 : (c == 13) = false) :
    Calls Tryd.prog 47 #[.pointer (some ⟨b, 0, none⟩), .int .u8 c] w fun e w' => e = .returned (.tuple #[]) ∧ Gat B b false (bs ++ [c]) w' ∧ Below B w w' := by
  have hv := hg.value
  have CW := Lib.hid (wbyte_any B b false bs c w hg hB hl h0 h1)
  clear hg
  go_enter Tryd.func47, Tryd.ntmps47
  go_wp2_with fail
  refine CW.out.mono ?_
  rintro e w1 ⟨rfl, h, hb⟩
  have H := Lib.hid h
  clear h CW
  go_wp2
  go_end0
  exact ⟨rfl, H.out, hb⟩
set_option maxHeartbeats 2000000 in
set_option maxRecDepth 100000 in
theorem mask_t (B b : Nat) (bs : List Int) (c : Int) (w : World) (hg : Gat B b true bs w) (hB : B ≤ w.heap.size) (hl : bs.length ≤ 17592186044416) (h0 : 0 ≤ c) (h1 : c ≤ 255)
    (t1 : (c == 38) = false) (t2 : (c == 60) = false) (t3 : (c == 62) = false) (t4 : (c == 13) = false) (t5 : (c == 34) = false) (t6 : (c == 9) = false) (t7 : (c == 10) = false) :
    Calls Tryd.prog 47 #[.pointer (some ⟨b, 0, none⟩), .int .u8 c] w fun e w' => e = .returned (.tuple #[]) ∧ Gat B b true (bs ++ [c]) w' ∧ Below B w w' := by
  have hv := hg.value
  have CW := Lib.hid (wbyte_any B b true bs c w hg hB hl h0 h1)
  clear hg
  go_enter Tryd.func47, Tryd.ntmps47
  go_wp2_with fail
  refine CW.out.mono ?_
  rintro e w1 ⟨rfl, h, hb⟩
  have H := Lib.hid h
  clear h CW
  go_wp2
  go_end0
  exact ⟨rfl, H.out, hb⟩
theorem mask_any (B b : Nat) (v : Bool) (bs : List Int) (c : Int) (w : World) (hg : Gat B b v bs w) (hB : B ≤ w.heap.size) (hl : bs.length ≤ 17592186044416) (h0 : 0 ≤ c) (h1 : c ≤ 255) :
    Calls Tryd.prog 47 #[.pointer (some ⟨b, 0, none⟩), .int .u8 c] w fun e w' => e = .returned (.tuple #[]) ∧ Gat B b v (bs ++ escB v c) w' ∧ Below B w w' := by
  unfold escB
  by_cases a1 : c = 38
  · rw [if_pos a1]; subst a1; exact mask_amp B b v bs w hg hB hl
  rw [if_neg a1]
  by_cases a2 : c = 60
  · rw [if_pos a2]; subst a2; exact mask_lt B b v bs w hg hB hl
  rw [if_neg a2]
  by_cases a3 : c = 62
  · rw [if_pos a3]; subst a3; exact mask_gt B b v bs w hg hB hl
  rw [if_neg a3]
  by_cases a4 : c = 13
  · rw [if_pos a4]; subst a4; exact mask_cr B b v bs w hg hB hl
  rw [if_neg a4]
  cases v
  · rw [if_neg (by simp), if_neg (by simp), if_neg (by simp)]
    exact mask_f B b bs c w hg hB hl h0 h1 (by simpa using a1) (by simpa using a2) (by simpa using a3) (by simpa using a4)
  · by_cases a5 : c = 34
    · rw [if_pos ⟨rfl, a5⟩]; subst a5; exact mask_quot B b true bs w hg hB hl
    rw [if_neg (fun h => a5 h.2)]
    by_cases a6 : c = 9
    · rw [if_pos ⟨rfl, a6⟩]; subst a6; exact mask_tab B b true bs w hg hB hl
    rw [if_neg (fun h => a6 h.2)]
    by_cases a7 : c = 10
    · rw [if_pos ⟨rfl, a7⟩]; subst a7; exact mask_lf B b true bs w hg hB hl
    rw [if_neg (fun h => a7 h.2)]
    exact mask_t B b bs c w hg hB hl h0 h1 (by simpa using a1) (by simpa using a2) (by simpa using a3) (by simpa using a4) (by simpa using a5) (by simpa using a6) (by simpa using a7)
end Go.Proofs.YtjboglpnpgghiaaDoor

/- The walks of ref.read, ref.escape, and of Text, Value, Escape, Quote. -/
set_option linter.unusedSimpArgs false
set_option linter.unusedVariables false
namespace Go.Proofs.YtjboglpnpgghiaaDoor
open Go.RowKit

theorem byt_at (t : ByteArray) (k : Nat) : 0 ≤ (byts t).getD k 0 ∧ (byts t).getD k 0 ≤ 255 := by
  rw [← bt_byts]
  have := bt_lo t k
  have := bt_hi t k
  omega

theorem esc_len (v : Bool) (c : Int) : (escB v c).length ≤ 6 := by
  unfold escB
  repeat' split
  all_goals simp
theorem escF_take (v : Bool) (l : List Int) (k : Nat) (h : k < l.length) : escF v (l.take (k + 1)) = escF v (l.take k) ++ escB v (l.getD k 0) := by
  unfold escF
  rw [List.take_succ_eq_append_getElem h, List.flatMap_append]
  simp [List.getElem?_eq_getElem h]
theorem escF_len (v : Bool) : ∀ (l : List Int), (escF v l).length ≤ 6 * l.length
  | [] => by simp [escF]
  | c :: l => by
    have h1 := esc_len v c
    have h2 := escF_len v l
    unfold escF at *
    rw [List.flatMap_cons, List.length_append, List.length_cons]
    omega
def EsRel (s : ByteArray) (v : Bool) (w : World) (i : Value) (wr : World) : Prop :=
  ∃ k : Nat, k ≤ s.size ∧ i = .int .i64 k ∧ Gat w.heap.size w.heap.size v (escF v ((byts s).take k)) wr ∧ Below w.heap.size w wr
def EsPost (l : List Int) (w : World) (e : Ending) (w' : World) : Prop := e = .returned (.string (strOfNums l)) ∧ Below w.heap.size w w'
set_option maxHeartbeats 4000000 in
set_option maxRecDepth 100000 in
theorem escape_any (s : ByteArray) (v : Bool) (w : World) (hs : s.size ≤ 1048576) : Calls Tryd.prog 37 #[.string s, .bool v] w (EsPost (escF v (byts s)) w) := by
  go_enter Tryd.func37, Tryd.ntmps37
  go_wp2_with fail
  go_loopw [11] (fun i wr => EsRel s v w i wr) (fun i _ => s.size - (intOf i).toNat)
  case atStart =>
    exact ⟨0, Nat.zero_le _, rfl, gat_new w v, (Below.refl _ w).alloc (Nat.le_refl _) _⟩
  case round =>
    obtain ⟨k, hk, rfl, hg, hb⟩ := hrel
    by_cases hlt : k < s.size
    · have hsz := hb.size
      have hc := byt_at s k
      have hbe := at_byt s k hlt
      have hn := escF_len v ((byts s).take k)
      rw [List.length_take, byts_len] at hn
      have C := Lib.hid (mask_any w.heap.size w.heap.size v _ _ wr hg hsz (by omega) hc.1 hc.2)
      rw [← escF_take v _ k (by rw [byts_len]; exact hlt), ← hbe] at C
      have c1 : (k : Int) < (s.size : Int) := by omega
      clear hg hc hn hbe
      go_wp2_with fail
      refine C.out.mono ?_
      rintro e w1 ⟨rfl, h1, hb1⟩
      have HG := Lib.hid h1
      clear h1 C
      go_wp2_with fail
      go_roundw
      case rel => exact ⟨k + 1, by omega, by rw [Int.natCast_add]; rfl, HG.out, hb.trans hb1⟩
      case measure => simp only [intOf]; omega
    · have hkk : k = s.size := by omega
      subst hkk
      rw [List.take_of_length_le (by rw [byts_len]; omega)] at hg
      have CS := Lib.hid (str_any w.heap.size w.heap.size v _ wr hg)
      clear hg
      go_wp2_with fail
      refine CS.out.mono ?_
      rintro e w1 ⟨rfl, hb1⟩
      go_wp2
      go_ret
      exact ⟨rfl, hb.trans hb1⟩
set_option maxHeartbeats 1000000 in
set_option maxRecDepth 100000 in
theorem escape_of (s : ByteArray) (x : List Int) (w : World) (C : Hid (Calls Tryd.prog 37 #[.string s, .bool false] w (EsPost x w))) : Calls Tryd.prog 27 #[.string s] w (EsPost x w) := by
  go_enter Tryd.func27, Tryd.ntmps27
  go_wp2_with fail
  refine C.out.mono ?_
  rintro e w1 ⟨rfl, hb⟩
  go_wp2
  go_ret
  exact ⟨rfl, hb⟩
set_option maxHeartbeats 1000000 in
set_option maxRecDepth 100000 in
theorem quote_of (s : ByteArray) (x : List Int) (w : World) (C : Hid (Calls Tryd.prog 37 #[.string s, .bool true] w (EsPost x w))) : Calls Tryd.prog 38 #[.string s] w (EsPost x w) := by
  go_enter Tryd.func38, Tryd.ntmps38
  go_wp2_with fail
  refine C.out.mono ?_
  rintro e w1 ⟨rfl, hb⟩
  go_wp2
  go_ret
  exact ⟨rfl, hb⟩
theorem esc_any (s : ByteArray) (w : World) (hs : s.size ≤ 1048576) : Calls Tryd.prog 27 #[.string s] w (EsPost (escF false (byts s)) w) := escape_of s _ w (Lib.hid (escape_any s false w hs))
theorem quote_any (s : ByteArray) (w : World) (hs : s.size ≤ 1048576) : Calls Tryd.prog 38 #[.string s] w (EsPost (escF true (byts s)) w) := quote_of s _ w (Lib.hid (escape_any s true w hs))
end Go.Proofs.YtjboglpnpgghiaaDoor

/- The walk of the document's Escape. -/
set_option linter.unusedSimpArgs false
set_option linter.unusedVariables false
namespace Go.Proofs.YtjboglpnpgghiaaDoor
open Go.RowKit

theorem eqB (t : ByteArray) (l : List UInt8) (m : List Int) (hm : (l.map fun b => (b.toNat : Int)) = m) : (t.toList == l) = decide (byts t = m) := by
  subst hm
  rw [Lib.toList_data, Bool.eq_iff_iff, beq_iff_eq, decide_eq_true_eq]
  unfold byts
  constructor
  · intro h; rw [h]
  · intro h
    have hl := congrArg List.length h
    simp only [List.length_map] at hl
    refine List.ext_getElem hl fun i h1 h2 => ?_
    have := congrArg (fun l => l[i]?) h
    simp only [List.getElem?_map, List.getElem?_eq_getElem h1, List.getElem?_eq_getElem h2, Option.map_some, Option.some.injEq] at this
    exact UInt8.toNat_inj.1 (by omega)

theorem str_of_byts {s : ByteArray} {l : List Int} (h : byts s = l) : s = strOfNums l := by
  refine byts_inj ?_
  subst h
  rw [byts_str _ (byts_nn s) fun x hx => (Byt.byts s x hx).2]
theorem byts_cat (s t : ByteArray) : byts (s ++ t) = byts s ++ byts t := by
  unfold byts
  rw [ByteArray.data_append, Array.toList_append, List.map_append]
theorem size_cat (s t : ByteArray) : (s ++ t).size = s.size + t.size := by rw [← byts_len, byts_cat, List.length_append, byts_len, byts_len]
theorem ext_one (s : ByteArray) (k : Nat) (h : k < s.size) : byts (s.extract k (k + 1)) = [(byts s).getD k 0] := by
  have h' : k < (byts s).length := by rw [byts_len]; exact h
  rw [byts_extract, List.take_succ_eq_append_getElem h', List.drop_append, List.drop_of_length_le (by rw [List.length_take]; omega), List.nil_append]
  rw [List.length_take, Nat.min_eq_left (by omega), Nat.sub_self, List.drop_zero]
  simp [List.getElem?_eq_getElem h']
theorem ext_is (s : ByteArray) (k : Nat) (h : k < s.size) (c : UInt8) : ((s.extract k (k + 1)).toList == [c]) = decide ((byts s).getD k 0 = (c.toNat : Int)) := by
  rw [eqB _ [c] [(c.toNat : Int)] rfl, ext_one s k h]
  simp
theorem is_yes (s : ByteArray) (k : Nat) (h : k < s.size) (c : UInt8) (hc : (byts s).getD k 0 = (c.toNat : Int)) : ((s.extract k (k + 1)).toList == [c]) = true := by rw [ext_is s k h, decide_eq_true hc]
theorem is_no (s : ByteArray) (k : Nat) (h : k < s.size) (c : UInt8) (hc : (byts s).getD k 0 ≠ (c.toNat : Int)) : ((s.extract k (k + 1)).toList == [c]) = false := by rw [ext_is s k h, decide_eq_false hc]
def DeRel (s : ByteArray) (v : Bool) (O : ByteArray) (k : Nat) : Prop := byts O = escF v ((byts s).take k) ∧ O.size ≤ 6 * k
theorem DeRel.step {s : ByteArray} {v : Bool} {O X : ByteArray} {k : Nat} (h : DeRel s v O k) (hk : k < s.size) (hX : byts X = escB v ((byts s).getD k 0)) : DeRel s v (O ++ X) (k + 1) := by
  have h6 := esc_len v ((byts s).getD k 0)
  rw [← hX, byts_len] at h6
  refine ⟨by rw [byts_cat, escF_take v _ k (by rw [byts_len]; exact hk), h.1, hX], ?_⟩
  rw [size_cat]
  have := h.2
  omega

set_option maxHeartbeats 8000000 in
set_option maxRecDepth 100000 in
theorem desc_any (s : ByteArray) (v : Bool) (w : World) (hs : s.size ≤ 1048576) : Calls Tryd.prog 18 #[.string s, .bool v] w fun e w' => e = .returned (.string (strOfNums (escF v (byts s)))) ∧ w = w' := by
  go_enter Tryd.func18, Tryd.ntmps18
  go_wp2_with fail
  go_loop [5, 6] (fun vo vi => ∃ (k : Nat) (O : ByteArray), vo = .string O ∧ vi = .int .i64 k ∧ k ≤ s.size ∧ Hid (DeRel s v O k)) (fun _ vi => s.size - (intOf vi).toNat)
  case atStart => exact ⟨0, ⟨#[]⟩, rfl, rfl, by omega, Lib.hid ⟨rfl, by decide⟩⟩
  case round =>
    obtain ⟨k, O, rfl, rfl, hk, hR⟩ := hrel
    by_cases hlt : k < s.size
    · have hO := hR.out.2
      have hst := Lib.hid (fun X hX => DeRel.step (X := X) hR.out hlt hX)
      have hi := at_byt s k hlt
      have hone := Lib.hid (ext_one s k hlt)
      have c1 : (k : Int) < (s.size : Int) := by omega
      have c2 : (0 : Int) ≤ (k : Int) + 1 := by omega
      have c3 : (k : Int) + 1 ≤ (s.size : Int) := by omega
      have c4 : (k : Int) ≤ (k : Int) + 1 := by omega
      have q2 : IntKind.i64.wrap ((k : Int) + 1) = (k : Int) + 1 := IntWalk.i64_in _ (by omega)
      have q3 : ((k : Int) + 1).toNat = k + 1 := by omega
      have hxs : (s.extract k (k + 1)).size = 1 := by rw [← byts_len, ext_one s k hlt]; rfl
      have y1 := is_yes s k hlt 38
      have y2 := is_yes s k hlt 60
      have y3 := is_yes s k hlt 62
      have n1 := is_no s k hlt 38
      have n2 := is_no s k hlt 60
      have n3 := is_no s k hlt 62
      clear hR
      revert hst hone y1 y2 y3 n1 n2 n3
      generalize (byts s).getD k 0 = c at hi
      intro hst hone y1 y2 y3 n1 n2 n3
      by_cases h38 : c = 38
      · have f38 := y1 h38
        have HR := hst.out ⟨#[38, 97, 109, 112, 59]⟩ (by unfold escB; rw [if_pos h38]; rfl)
        have hsz : (O ++ (⟨#[38, 97, 109, 112, 59]⟩ : ByteArray)).size ≤ 17592186044416 := by rw [size_cat, show (⟨#[38, 97, 109, 112, 59]⟩ : ByteArray).size = 5 from rfl]; omega
        have hz2 : O.size + 5 ≤ 17592186044416 := by omega
        have HR2 := Lib.hid HR
        clear hi hst hone y1 y2 y3 n1 n2 n3 HR hxs hO h38
        go_wp2
        refine ⟨⟨k + 1, _, rfl, by rw [Int.natCast_add]; rfl, by omega, HR2⟩, by simp only [intOf]; omega⟩
      by_cases h60 : c = 60
      · have f60 := y2 h60
        have f38 := n1 h38
        have HR := hst.out ⟨#[38, 108, 116, 59]⟩ (by unfold escB; rw [if_neg h38, if_pos h60]; rfl)
        have hsz : (O ++ (⟨#[38, 108, 116, 59]⟩ : ByteArray)).size ≤ 17592186044416 := by rw [size_cat, show (⟨#[38, 108, 116, 59]⟩ : ByteArray).size = 4 from rfl]; omega
        have hz2 : O.size + 4 ≤ 17592186044416 := by omega
        have HR2 := Lib.hid HR
        clear hi hst hone y1 y2 y3 n1 n2 n3 HR hxs hO h60
        clear h38
        go_wp2
        refine ⟨⟨k + 1, _, rfl, by rw [Int.natCast_add]; rfl, by omega, HR2⟩, by simp only [intOf]; omega⟩
      by_cases h62 : c = 62
      · have f62 := y3 h62
        have f38 := n1 h38
        have f60 := n2 h60
        have HR := hst.out ⟨#[38, 103, 116, 59]⟩ (by unfold escB; rw [if_neg h38, if_neg h60, if_pos h62]; rfl)
        have hsz : (O ++ (⟨#[38, 103, 116, 59]⟩ : ByteArray)).size ≤ 17592186044416 := by rw [size_cat, show (⟨#[38, 103, 116, 59]⟩ : ByteArray).size = 4 from rfl]; omega
        have hz2 : O.size + 4 ≤ 17592186044416 := by omega
        have HR2 := Lib.hid HR
        clear hi hst hone y1 y2 y3 n1 n2 n3 HR hxs hO h62
        clear h38
        clear h60
        go_wp2
        refine ⟨⟨k + 1, _, rfl, by rw [Int.natCast_add]; rfl, by omega, HR2⟩, by simp only [intOf]; omega⟩
      by_cases h13 : c = 13
      · have f13 : (((s[k]).toNat : Int) == 13) = true := by rw [hi]; simpa using h13
        have f38 := n1 h38
        have f60 := n2 h60
        have f62 := n3 h62
        have HR := hst.out ⟨#[38, 35, 120, 68, 59]⟩ (by unfold escB; rw [if_neg h38, if_neg h60, if_neg h62, if_pos h13]; rfl)
        have hsz : (O ++ (⟨#[38, 35, 120, 68, 59]⟩ : ByteArray)).size ≤ 17592186044416 := by rw [size_cat, show (⟨#[38, 35, 120, 68, 59]⟩ : ByteArray).size = 5 from rfl]; omega
        have hz2 : O.size + 5 ≤ 17592186044416 := by omega
        have HR2 := Lib.hid HR
        clear hi hst hone y1 y2 y3 n1 n2 n3 HR hxs hO h13
        clear h38
        clear h60
        clear h62
        go_wp2
        refine ⟨⟨k + 1, _, rfl, by rw [Int.natCast_add]; rfl, by omega, HR2⟩, by simp only [intOf]; omega⟩
      cases v
      · have f38 := n1 h38
        have f60 := n2 h60
        have f62 := n3 h62
        have f13 : (((s[k]).toNat : Int) == 13) = false := by rw [hi]; simpa using h13
        have HR := hst.out _ (hone.out.trans (by unfold escB; rw [if_neg h38, if_neg h60, if_neg h62, if_neg h13, if_neg (by simp), if_neg (by simp), if_neg (by simp)]))
        have hsz : (O ++ s.extract k (k + 1)).size ≤ 17592186044416 := by rw [size_cat]; omega
        have hz2 : O.size + (s.extract k (k + 1)).size ≤ 17592186044416 := by omega
        have HR2 := Lib.hid HR
        clear hi hst hone y1 y2 y3 n1 n2 n3 HR hxs hO
        clear h38
        clear h60
        clear h62
        clear h13
        go_wp2
        refine ⟨⟨k + 1, _, rfl, by rw [Int.natCast_add]; rfl, by omega, HR2⟩, by simp only [intOf]; omega⟩
      · by_cases h34 : c = 34
        · have f34 : (((s[k]).toNat : Int) == 34) = true := by rw [hi]; simpa using h34
          have f38 := n1 h38
          have f60 := n2 h60
          have f62 := n3 h62
          have f13 : (((s[k]).toNat : Int) == 13) = false := by rw [hi]; simpa using h13
          have HR := hst.out ⟨#[38, 113, 117, 111, 116, 59]⟩ (by unfold escB; rw [if_neg h38, if_neg h60, if_neg h62, if_neg h13, if_pos ⟨rfl, h34⟩]; rfl)
          have hsz : (O ++ (⟨#[38, 113, 117, 111, 116, 59]⟩ : ByteArray)).size ≤ 17592186044416 := by rw [size_cat, show (⟨#[38, 113, 117, 111, 116, 59]⟩ : ByteArray).size = 6 from rfl]; omega
          have hz2 : O.size + 6 ≤ 17592186044416 := by omega
          have HR2 := Lib.hid HR
          clear hi hst hone y1 y2 y3 n1 n2 n3 HR hxs hO h34
          clear h38
          clear h60
          clear h62
          clear h13
          go_wp2
          refine ⟨⟨k + 1, _, rfl, by rw [Int.natCast_add]; rfl, by omega, HR2⟩, by simp only [intOf]; omega⟩
        by_cases h9 : c = 9
        · have f9 : (((s[k]).toNat : Int) == 9) = true := by rw [hi]; simpa using h9
          have f38 := n1 h38
          have f60 := n2 h60
          have f62 := n3 h62
          have f13 : (((s[k]).toNat : Int) == 13) = false := by rw [hi]; simpa using h13
          have f34 : (((s[k]).toNat : Int) == 34) = false := by rw [hi]; simpa using h34
          have HR := hst.out ⟨#[38, 35, 120, 57, 59]⟩ (by unfold escB; rw [if_neg h38, if_neg h60, if_neg h62, if_neg h13, if_neg (fun h => h34 h.2), if_pos ⟨rfl, h9⟩]; rfl)
          have hsz : (O ++ (⟨#[38, 35, 120, 57, 59]⟩ : ByteArray)).size ≤ 17592186044416 := by rw [size_cat, show (⟨#[38, 35, 120, 57, 59]⟩ : ByteArray).size = 5 from rfl]; omega
          have hz2 : O.size + 5 ≤ 17592186044416 := by omega
          have HR2 := Lib.hid HR
          clear hi hst hone y1 y2 y3 n1 n2 n3 HR hxs hO h9
          clear h38
          clear h60
          clear h62
          clear h13
          clear h34
          go_wp2
          refine ⟨⟨k + 1, _, rfl, by rw [Int.natCast_add]; rfl, by omega, HR2⟩, by simp only [intOf]; omega⟩
        by_cases h10 : c = 10
        · have f10 : (((s[k]).toNat : Int) == 10) = true := by rw [hi]; simpa using h10
          have f38 := n1 h38
          have f60 := n2 h60
          have f62 := n3 h62
          have f13 : (((s[k]).toNat : Int) == 13) = false := by rw [hi]; simpa using h13
          have f34 : (((s[k]).toNat : Int) == 34) = false := by rw [hi]; simpa using h34
          have f9 : (((s[k]).toNat : Int) == 9) = false := by rw [hi]; simpa using h9
          have HR := hst.out ⟨#[38, 35, 120, 65, 59]⟩ (by unfold escB; rw [if_neg h38, if_neg h60, if_neg h62, if_neg h13, if_neg (fun h => h34 h.2), if_neg (fun h => h9 h.2), if_pos ⟨rfl, h10⟩]; rfl)
          have hsz : (O ++ (⟨#[38, 35, 120, 65, 59]⟩ : ByteArray)).size ≤ 17592186044416 := by rw [size_cat, show (⟨#[38, 35, 120, 65, 59]⟩ : ByteArray).size = 5 from rfl]; omega
          have hz2 : O.size + 5 ≤ 17592186044416 := by omega
          have HR2 := Lib.hid HR
          clear hi hst hone y1 y2 y3 n1 n2 n3 HR hxs hO h10
          clear h38
          clear h60
          clear h62
          clear h13
          clear h34
          clear h9
          go_wp2
          refine ⟨⟨k + 1, _, rfl, by rw [Int.natCast_add]; rfl, by omega, HR2⟩, by simp only [intOf]; omega⟩
        have f38 := n1 h38
        have f60 := n2 h60
        have f62 := n3 h62
        have f13 : (((s[k]).toNat : Int) == 13) = false := by rw [hi]; simpa using h13
        have f34 : (((s[k]).toNat : Int) == 34) = false := by rw [hi]; simpa using h34
        have f9 : (((s[k]).toNat : Int) == 9) = false := by rw [hi]; simpa using h9
        have f10 : (((s[k]).toNat : Int) == 10) = false := by rw [hi]; simpa using h10
        have HR := hst.out _ (hone.out.trans (by unfold escB; rw [if_neg h38, if_neg h60, if_neg h62, if_neg h13, if_neg (fun h => h34 h.2), if_neg (fun h => h9 h.2), if_neg (fun h => h10 h.2)]))
        have hsz : (O ++ s.extract k (k + 1)).size ≤ 17592186044416 := by rw [size_cat]; omega
        have hz2 : O.size + (s.extract k (k + 1)).size ≤ 17592186044416 := by omega
        have HR2 := Lib.hid HR
        clear hi hst hone y1 y2 y3 n1 n2 n3 HR hxs hO
        clear h38
        clear h60
        clear h62
        clear h13
        clear h34
        clear h9
        clear h10
        go_wp2
        refine ⟨⟨k + 1, _, rfl, by rw [Int.natCast_add]; rfl, by omega, HR2⟩, by simp only [intOf]; omega⟩
    · have hkk : k = s.size := by omega
      subst hkk
      have hE : Hid (O = strOfNums (escF v (byts s))) := Lib.hid (by
        refine str_of_byts ?_
        rw [hR.out.1, List.take_of_length_le (by rw [byts_len]; omega)])
      clear hR
      go_wp2
      go_ret
      exact ⟨by rw [← hE.out]; rfl, rfl⟩
end Go.Proofs.YtjboglpnpgghiaaDoor

/- Plain mathematics: a tree's text, as bytes; whether a tree is light. -/
set_option linter.unusedSimpArgs false
set_option linter.unusedVariables false
namespace Go.Proofs.YtjboglpnpgghiaaDoor.Ev

def xmlB : ByteArray := ⟨#[104, 116, 116, 112, 58, 47, 47, 119, 119, 119, 46, 119, 51, 46, 111, 114, 103, 47, 88, 77, 76, 47, 49, 57, 57, 56, 47, 110, 97, 109, 101, 115, 112, 97, 99, 101]⟩
def xnsB : ByteArray := ⟨#[120, 109, 108, 110, 115]⟩
/-- A number's decimal digits. -/
def dgB (n : Nat) : List Int := (Lib.decDigits n).map fun c => (c.toNat : Int)
theorem u8_digit {n : Nat} (h : n < 10) : ((UInt8.ofNat (48 + n)).toNat : Int) = 48 + (n : Int) := by
  have : (UInt8.ofNat (48 + n)).toNat = 48 + n := by simp [UInt8.toNat_ofNat']; omega
  omega
theorem dgB_small {n : Nat} (h : n < 10) : dgB n = [48 + (n : Int)] := by
  unfold dgB
  rw [Lib.decDigits, dif_pos h, List.map_cons, List.map_nil, u8_digit h]
theorem dgB_big {n : Nat} (h : ¬ n < 10) : dgB n = dgB (n / 10) ++ dgB (n % 10) := by
  rw [dgB_small (show n % 10 < 10 from Nat.mod_lt _ (by decide))]
  unfold dgB
  rw [Lib.decDigits, dif_neg h, List.map_append, List.map_cons, List.map_nil, u8_digit (Nat.mod_lt _ (by decide))]
theorem dgB_len {n : Nat} (h : n < 1000) : (dgB n).length ≤ 3 := by
  by_cases h1 : n < 10
  · rw [dgB_small h1]; simp
  rw [dgB_big h1, dgB_small (show n % 10 < 10 from Nat.mod_lt _ (by decide)), List.length_append, List.length_singleton]
  by_cases h2 : n / 10 < 10
  · rw [dgB_small h2]; simp
  rw [dgB_big h2, dgB_small (show n / 10 % 10 < 10 from Nat.mod_lt _ (by decide)), dgB_small (show n / 10 / 10 < 10 by omega)]
  simp
/-- A name and a quoted value. -/
def prB (n : List Int) (v : ByteArray) : List Int := [32] ++ n ++ [61, 34] ++ escF true (byts v) ++ [34]
def xpB : List Int := [120, 109, 108, 58]
def nmB (sp lo : ByteArray) : List Int := if sp = xmlB then xpB ++ byts lo else byts lo
/-- Has an attribute of this space a binding? -/
def okS (s : ByteArray) : Bool := decide (s ≠ emB) && decide (s ≠ xmlB)
theorem okS_iff {s : ByteArray} : okS s = true ↔ s ≠ emB ∧ s ≠ xmlB := by unfold okS; simp
instance memD (s : ByteArray) (l : List ByteArray) : Decidable (s ∈ l) := decidable_of_iff (l.any (fun x => decide (x = s)) = true) (by simp [List.any_eq_true])
/-- The spaces of attributes, in the order in which they stand first. -/
def spG : List ByteArray → List P3 → List ByteArray
  | seen, [] => seen
  | seen, a :: l => spG (if okS a.1.1 = true ∧ a.1.1 ∉ seen then seen ++ [a.1.1] else seen) l
def spL (l : List P3) : List ByteArray := spG [] l
theorem spG_app : ∀ (l m : List P3) (s : List ByteArray), spG s (l ++ m) = spG (spG s l) m
  | [], m, s => rfl
  | a :: l, m, s => by rw [List.cons_append, spG, spG, spG_app l m]
theorem spL_take {l : List P3} {k : Nat} {x : P3} (hx : l[k]? = some x) : spL (l.take (k + 1)) = if okS x.1.1 = true ∧ x.1.1 ∉ spL (l.take k) then spL (l.take k) ++ [x.1.1] else spL (l.take k) := by
  have : l.take (k + 1) = l.take k ++ [x] := by rw [List.take_add_one, hx]; rfl
  rw [this]
  unfold spL
  rw [spG_app]
  rfl
theorem spG_mem : ∀ (l : List P3) (s : List ByteArray) (u : ByteArray), u ∈ spG s l ↔ u ∈ s ∨ (okS u = true ∧ ∃ x ∈ l, x.1.1 = u)
  | [], s, u => by simp [spG]
  | a :: l, s, u => by
    rw [spG, spG_mem l]
    by_cases h : okS a.1.1 = true ∧ a.1.1 ∉ s
    · rw [if_pos h]
      constructor
      · rintro (h1 | ⟨h1, x, hx, e⟩)
        · rcases List.mem_append.1 h1 with h2 | h2
          · exact .inl h2
          · rw [List.mem_singleton.1 h2]; exact .inr ⟨h.1, a, List.mem_cons_self, rfl⟩
        · exact .inr ⟨h1, x, List.mem_cons_of_mem _ hx, e⟩
      · rintro (h1 | ⟨h1, x, hx, e⟩)
        · exact .inl (List.mem_append.2 (.inl h1))
        · rcases List.mem_cons.1 hx with rfl | hx
          · rw [← e]; exact .inl (List.mem_append.2 (.inr List.mem_cons_self))
          · exact .inr ⟨h1, x, hx, e⟩
    · rw [if_neg h]
      constructor
      · rintro (h1 | ⟨h1, x, hx, e⟩)
        · exact .inl h1
        · exact .inr ⟨h1, x, List.mem_cons_of_mem _ hx, e⟩
      · rintro (h1 | ⟨h1, x, hx, e⟩)
        · exact .inl h1
        · rcases List.mem_cons.1 hx with rfl | hx
          · refine .inl (Classical.byContradiction fun hn => h ⟨by rw [e]; exact h1, by rw [e]; exact hn⟩)
          · exact .inr ⟨h1, x, hx, e⟩
theorem spL_mem {l : List P3} {u : ByteArray} : u ∈ spL l ↔ okS u = true ∧ ∃ x ∈ l, x.1.1 = u := by unfold spL; rw [spG_mem]; simp
theorem spG_pre : ∀ (l : List P3) (s : List ByteArray), ∃ t, spG s l = s ++ t
  | [], s => ⟨[], by simp [spG]⟩
  | a :: l, s => by
    rw [spG]
    obtain ⟨t, ht⟩ := spG_pre l (if okS a.1.1 = true ∧ a.1.1 ∉ s then s ++ [a.1.1] else s)
    rw [ht]
    split
    · exact ⟨[a.1.1] ++ t, by simp⟩
    · exact ⟨t, rfl⟩
theorem spG_len : ∀ (l : List P3) (s : List ByteArray), (spG s l).length ≤ s.length + l.length
  | [], s => by simp [spG]
  | a :: l, s => by
    rw [spG]
    have := spG_len l (if okS a.1.1 = true ∧ a.1.1 ∉ s then s ++ [a.1.1] else s)
    revert this
    split
    · intro h; simp only [List.length_append, List.length_cons, List.length_nil] at h ⊢; omega
    · intro h; simp only [List.length_cons]; omega
theorem spL_len (l : List P3) : (spL l).length ≤ l.length := by
  have := spG_len l []
  simpa [spL] using this
/-- Where a space stands among these. -/
def ixS : List ByteArray → ByteArray → Nat
  | [], _ => 0
  | a :: l, s => if a = s then 0 else ixS l s + 1
theorem ixS_app : ∀ {l m : List ByteArray} {s : ByteArray}, s ∈ l → ixS (l ++ m) s = ixS l s
  | [], m, s, h => by cases h
  | a :: l, m, s, h => by
    rw [List.cons_append, ixS, ixS]
    by_cases e : a = s
    · rw [if_pos e, if_pos e]
    · rw [if_neg e, if_neg e, ixS_app ((List.mem_cons.1 h).resolve_left fun q => e q.symm)]
theorem ixS_new : ∀ {l m : List ByteArray} {s : ByteArray}, s ∉ l → ixS (l ++ s :: m) s = l.length
  | [], m, s, h => by rw [List.nil_append, ixS, if_pos rfl]; rfl
  | a :: l, m, s, h => by
    rw [List.cons_append, ixS, if_neg (fun e => h (by rw [e]; exact List.mem_cons_self)), ixS_new (fun q => h (List.mem_cons_of_mem _ q)), List.length_cons]
theorem ixS_lt : ∀ {l : List ByteArray} {s : ByteArray}, s ∈ l → ixS l s < l.length
  | [], s, h => by cases h
  | a :: l, s, h => by
    rw [ixS, List.length_cons]
    by_cases e : a = s
    · rw [if_pos e]; omega
    · rw [if_neg e]
      have := ixS_lt ((List.mem_cons.1 h).resolve_left fun q => e q.symm)
      omega
theorem spL_pre (l : List P3) (k : Nat) : ∃ t, spL l = spL (l.take k) ++ t := by
  obtain ⟨t, ht⟩ := spG_pre (l.drop k) (spL (l.take k))
  refine ⟨t, ?_⟩
  rw [← ht]
  unfold spL
  rw [← spG_app, List.take_append_drop]
theorem ixS_take {l : List P3} {k : Nat} {s : ByteArray} (h : s ∈ spL (l.take k)) : ixS (spL l) s = ixS (spL (l.take k)) s := by
  obtain ⟨t, ht⟩ := spL_pre l k
  rw [ht, ixS_app h]
/-- The number of a space that stands first at k. -/
theorem ixS_first {l : List P3} {k : Nat} {x : P3} (hx : l[k]? = some x) (ho : okS x.1.1 = true) (hn : x.1.1 ∉ spL (l.take k)) : ixS (spL l) x.1.1 = (spL (l.take k)).length := by
  have h := spL_take hx
  rw [if_pos ⟨ho, hn⟩] at h
  have hm : x.1.1 ∈ spL (l.take (k + 1)) := by rw [h]; exact List.mem_append.2 (.inr List.mem_cons_self)
  rw [ixS_take hm, h, ixS_new hn]
/-- The name that binds a number. -/
def xnB (n : Nat) : List Int := [120, 109, 108, 110, 115, 58, 110] ++ dgB n
def bdB : Nat → List ByteArray → List Int
  | _, [] => []
  | j, s :: r => prB (xnB j) s ++ bdB (j + 1) r
theorem bdB_app : ∀ (l : List ByteArray) (j : Nat) (s : ByteArray), bdB j (l ++ [s]) = bdB j l ++ prB (xnB (j + l.length)) s
  | [], j, s => by simp [bdB]
  | a :: l, j, s => by
    rw [List.cons_append, bdB, bdB, bdB_app l, List.append_assoc, List.length_cons, show j + 1 + l.length = j + (l.length + 1) by omega]
/-- An attribute's name. -/
def aNm (sp : List ByteArray) (a : P3) : List Int := if a.1.1 = emB then byts a.1.2 else if a.1.1 = xmlB then xpB ++ byts a.1.2 else [110] ++ dgB (ixS sp a.1.1) ++ [58] ++ byts a.1.2
def aB (sp : List ByteArray) (a : P3) : List Int := prB (aNm sp a) a.2
def asB (sp : List ByteArray) : List P3 → List Int
  | [] => []
  | a :: l => aB sp a ++ asB sp l
theorem asB_app (sp : List ByteArray) : ∀ l m : List P3, asB sp (l ++ m) = asB sp l ++ asB sp m
  | [], m => rfl
  | a :: l, m => by rw [List.cons_append, asB, asB, asB_app sp l m, List.append_assoc]
theorem asB_take (sp : List ByteArray) {l : List P3} {k : Nat} {x : P3} (hx : l[k]? = some x) : asB sp (l.take (k + 1)) = asB sp (l.take k) ++ aB sp x := by
  have : l.take (k + 1) = l.take k ++ [x] := by rw [List.take_add_one, hx]; rfl
  rw [this, asB_app]
  simp [asB]
theorem bdB_take {l : List P3} {k : Nat} {x : P3} (hx : l[k]? = some x) : bdB 0 (spL (l.take (k + 1))) = bdB 0 (spL (l.take k)) ++ (if okS x.1.1 = true ∧ x.1.1 ∉ spL (l.take k) then prB (xnB (spL (l.take k)).length) x.1.1 else []) := by
  rw [spL_take hx]
  by_cases h : okS x.1.1 = true ∧ x.1.1 ∉ spL (l.take k)
  · rw [if_pos h, if_pos h, bdB_app, Nat.zero_add]
  · rw [if_neg h, if_neg h, List.append_nil]
/-- The default space within an element. -/
def dfS (sp d : ByteArray) : ByteArray := if sp = xmlB then d else sp
/-- A start tag, without its end. -/
def hdB (sp lo d : ByteArray) (ats : List P3) : List Int := [60] ++ nmB sp lo ++ (if sp ≠ xmlB ∧ sp ≠ d then prB (byts xnsB) sp else []) ++ bdB 0 (spL ats) ++ asB (spL ats) ats
/-- The texts of trees within a default space, one behind the other. -/
def txB : Fo → ByteArray → List Int
  | .nil, _ => []
  | .cons t tx sp lo ats ks nx, d => (if t = true then escF false (byts tx) else hdB sp lo d ats ++ (if ks.len = 0 then [47, 62] else [62] ++ txB ks (dfS sp d) ++ [60, 47] ++ nmB sp lo ++ [62])) ++ txB nx d
theorem txB_app : ∀ (f g : Fo) (d : ByteArray), txB (f.app g) d = txB f d ++ txB g d
  | .nil, g, d => rfl
  | .cons t tx sp lo ats ks nx, g, d => by
    show (_ ++ txB (nx.app g) d) = (_ ++ txB nx d) ++ txB g d
    rw [txB_app nx g d]
    exact (List.append_assoc _ _ _).symm
theorem txB_text (tx sp lo : ByteArray) (ats : List P3) (ks : Fo) (d : ByteArray) : txB (.cons true tx sp lo ats ks .nil) d = escF false (byts tx) := by
  rw [txB, if_pos rfl, txB, List.append_nil]
theorem txB_empty (tx sp lo : ByteArray) (ats : List P3) (ks : Fo) (d : ByteArray) (h : ks.len = 0) : txB (.cons false tx sp lo ats ks .nil) d = hdB sp lo d ats ++ [47, 62] := by
  rw [txB, if_neg (by decide), if_pos h, txB, List.append_nil]
theorem txB_full (tx sp lo : ByteArray) (ats : List P3) (ks : Fo) (d : ByteArray) (h : ¬ ks.len = 0) : txB (.cons false tx sp lo ats ks .nil) d = hdB sp lo d ats ++ [62] ++ txB ks (dfS sp d) ++ [60, 47] ++ nmB sp lo ++ [62] := by
  rw [txB, if_neg (by decide), if_neg h, txB, List.append_nil]
  simp only [List.append_assoc]
/-- All strings of these trees are at most a million bytes, no element has more than 400 attributes. -/
def atM (l : List P3) : Prop := ∀ x ∈ l, x.1.1.size ≤ 1048576 ∧ x.1.2.size ≤ 1048576 ∧ x.2.size ≤ 1048576
def Fo.szM : Fo → Prop
  | .nil => True
  | .cons t tx sp lo ats ks nx => (tx.size ≤ 1048576 ∧ sp.size ≤ 1048576 ∧ lo.size ≤ 1048576 ∧ atM ats) ∧ ks.szM ∧ nx.szM
def Fo.atN : Fo → Prop
  | .nil => True
  | .cons t tx sp lo ats ks nx => (t = false → ats.length ≤ 400 ∧ ks.atN) ∧ nx.atN
theorem prB_len (n : List Int) (v : ByteArray) : (prB n v).length ≤ n.length + 6 * v.size + 4 := by
  have := escF_len true (byts v)
  rw [byts_len] at this
  unfold prB
  simp only [List.length_append, List.length_cons, List.length_nil]
  omega
theorem xnB_len {n : Nat} (h : n < 1000) : (xnB n).length ≤ 10 := by
  have := dgB_len h
  unfold xnB
  simp only [List.length_append, List.length_cons, List.length_nil]
  omega
theorem bdB_len : ∀ (l : List ByteArray) (j : Nat), j + l.length ≤ 1000 → (∀ s ∈ l, s.size ≤ 1048576) → (bdB j l).length ≤ l.length * 6291470
  | [], j, _, _ => by simp [bdB]
  | a :: l, j, h, hs => by
    rw [bdB, List.length_append, List.length_cons]
    rw [List.length_cons] at h
    have h1 := bdB_len l (j + 1) (by omega) (fun s q => hs s (List.mem_cons_of_mem _ q))
    have h2 := prB_len (xnB j) a
    have h3 := xnB_len (n := j) (by omega)
    have h4 := hs a List.mem_cons_self
    omega
theorem nmB_len (sp lo : ByteArray) : (nmB sp lo).length ≤ lo.size + 4 := by
  unfold nmB xpB
  split
  · simp only [List.length_append, List.length_cons, List.length_nil, byts_len]; omega
  · rw [byts_len]; omega
theorem aNm_len {sp : List ByteArray} {a : P3} (h : ixS sp a.1.1 < 1000) : (aNm sp a).length ≤ a.1.2.size + 5 := by
  have := dgB_len h
  unfold aNm xpB
  split
  · rw [byts_len]; omega
  split
  · simp only [List.length_append, List.length_cons, List.length_nil, byts_len]; omega
  · simp only [List.length_append, List.length_cons, List.length_nil, byts_len]; omega
theorem ixS_le : ∀ (l : List ByteArray) (s : ByteArray), ixS l s ≤ l.length
  | [], s => Nat.zero_le _
  | a :: l, s => by
    rw [ixS, List.length_cons]
    have := ixS_le l s
    split <;> omega
theorem asB_len {sp : List ByteArray} (hp : sp.length < 1000) : ∀ (l : List P3), atM l → (asB sp l).length ≤ l.length * 7340050
  | [], _ => by simp [asB]
  | a :: l, h => by
    rw [asB, List.length_append, List.length_cons]
    have h1 := asB_len hp l (fun x hx => h x (List.mem_cons_of_mem _ hx))
    have h2 := prB_len (aNm sp a) a.2
    have h3 := aNm_len (sp := sp) (a := a) (Nat.lt_of_le_of_lt (ixS_le _ _) hp)
    obtain ⟨h4, h5, h6⟩ := h a List.mem_cons_self
    unfold aB
    omega
theorem spL_sz {l : List P3} (h : atM l) : ∀ s ∈ spL l, s.size ≤ 1048576 := fun s hs => by
  obtain ⟨_, x, hx, e⟩ := spL_mem.1 hs
  rw [← e]
  exact (h x hx).1
theorem hdB_len {sp lo d : ByteArray} {ats : List P3} (h1 : sp.size ≤ 1048576) (h2 : lo.size ≤ 1048576) (h3 : atM ats) (h4 : ats.length ≤ 400) : (hdB sp lo d ats).length ≤ ats.length * 13631520 + 7340050 := by
  have k1 := nmB_len sp lo
  have k2 := bdB_len (spL ats) 0 (by have := spL_len ats; omega) (spL_sz h3)
  have k3 := asB_len (sp := spL ats) (by have := spL_len ats; omega) ats h3
  have k4 := prB_len (byts xnsB) sp
  have k5 : (byts xnsB).length = 5 := rfl
  have k6 := spL_len ats
  unfold hdB
  simp only [List.length_append, List.length_cons, List.length_nil]
  split
  · omega
  · simp only [List.length_nil]; omega
/-- How long the texts can be. -/
theorem txB_len : ∀ (f : Fo) (d : ByteArray), f.szM → f.atN → (txB f d).length ≤ f.siz * 6000000000
  | .nil, d, _, _ => by simp [txB]
  | .cons t tx sp lo ats ks nx, d, hs, ha => by
    obtain ⟨⟨h1, h2, h3, h4⟩, h5, h6⟩ := hs
    obtain ⟨h7, h8⟩ := ha
    have k1 := txB_len nx d h6 h8
    have k3 := escF_len false (byts tx)
    have k4 := nmB_len sp lo
    rw [byts_len] at k3
    rw [txB, List.length_append, Fo.siz]
    cases t with
    | true =>
      rw [if_pos rfl]
      omega
    | false =>
      have k2 := txB_len ks (dfS sp d) h5 (h7 rfl).2
      have k5 := hdB_len (sp := sp) (lo := lo) (d := d) h2 h3 h4 (h7 rfl).1
      have k6 := (h7 rfl).1
      rw [if_neg (by decide)]
      split
      · simp only [List.length_append, List.length_cons, List.length_nil]; omega
      · simp only [List.length_append, List.length_cons, List.length_nil]; omega
/-- No attribute would be read as a binding. -/
def noX (l : List P3) : Bool := l.all fun a => !(decide (a.1.1 = emB) && decide (a.1.2 = xnsB))
/-- Are trees, one behind the other, light? p: a text stands ahead. -/
def liK (pL tR : ByteArray → Bool) : Bool → Fo → Bool
  | _, .nil => true
  | p, .cons t tx sp lo ats ks nx => !(p && t) && (if t = true then rightF pL tR ⟨2, emB, emB, [], tx⟩ else rightF pL tR ⟨1, sp, lo, ats, emB⟩ && (noX ats && decide (ats.length ≤ 15)) && liK pL tR false ks) && liK pL tR t nx
end Go.Proofs.YtjboglpnpgghiaaDoor.Ev
