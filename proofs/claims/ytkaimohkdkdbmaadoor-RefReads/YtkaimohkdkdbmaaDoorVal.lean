/-
  The walk of the document's value: the rune that so many bytes would be.
-/
import Derived.Test.YtkaimohkdkdbmaaDoorLeaf
import Derived.Lib.Hide
set_option linter.unusedSimpArgs false
set_option linter.unusedVariables false
namespace Go.Proofs.YtkaimohkdkdbmaaDoor
open Go.RowKit

def offs (n i : Nat) : Int := if i = 0 then (if n = 2 then 192 else if n = 3 then 224 else if n = 4 then 240 else 0) else 128
def valG (b : Nat → Int) (n : Nat) : Nat → Int
  | 0 => 0
  | i + 1 => valG b n i * 64 + (b i - offs n i)
theorem offs_bd (n i : Nat) : 0 ≤ offs n i ∧ offs n i ≤ 240 := by unfold offs; repeat' split <;> omega
def vb (i : Nat) : Int := if i = 0 then 0 else if i = 1 then 256 else if i = 2 then 16640 else if i = 3 then 1065216 else 68174080
theorem valG_bd (b : Nat → Int) (n : Nat) (h0 : ∀ k, 0 ≤ b k) (h1 : ∀ k, b k < 256) (i : Nat) (hi : i ≤ 4) : -100000000 ≤ valG b n i ∧ valG b n i ≤ 100000000 := by
  have a0 := h0 0; have a1 := h1 0
  have b0 := h0 1; have b1 := h1 1
  have c0 := h0 2; have c1 := h1 2
  have d0 := h0 3; have d1 := h1 3
  have o0 := offs_bd n 0
  have o1 := offs_bd n 1
  have o2 := offs_bd n 2
  have o3 := offs_bd n 3
  have h : i = 0 ∨ i = 1 ∨ i = 2 ∨ i = 3 ∨ i = 4 := by omega
  rcases h with rfl | rfl | rfl | rfl | rfl <;> simp only [valG] <;> omega

set_option maxHeartbeats 1000000 in
set_option maxRecDepth 100000 in
theorem value_any (s : ByteArray) (a n : Nat) (w : World) (hs : s.size ≤ 100000) (h : a + n ≤ s.size) (h2 : 2 ≤ n) (h4 : n ≤ 4) :
    Calls Tryd.prog 26 #[.string s, .int .i64 a, .int .i64 n] w fun e w' => e = .returned (.int .i64 (valG (fun i => bt s (a + i)) n n)) ∧ w = w' := by
  have VB := valG_bd (fun i => bt s (a + i)) n (fun k => bt_lo s _) (fun k => bt_hi s _)
  have VS : ∀ i, valG (fun i => bt s (a + i)) n (i + 1) = valG (fun i => bt s (a + i)) n i * 64 + (bt s (a + i) - offs n i) := fun i => rfl
  have V0 : valG (fun i => bt s (a + i)) n 0 = 0 := rfl
  generalize valG (fun i => bt s (a + i)) n = f at *
  have HB := Lib.hid VB
  have HS := Lib.hid VS
  have H0 := Lib.hid V0
  clear VB VS V0
  go_enter Tryd.func26, Tryd.ntmps26
  go_wp2_with fail
  go_loop [7, 8] (fun v i => ∃ k : Nat, k ≤ n ∧ i = .int .i64 k ∧ v = .int .i64 (f k)) (fun _ i => n - (intOf i).toNat)
  case atStart => exact ⟨0, Nat.zero_le _, rfl, by rw [H0.out]⟩
  case round =>
    obtain ⟨k, hk, rfl, rfl⟩ := hrel
    by_cases hlt : k < n
    · have vb := HB.out k (by omega)
      have hb := bt_eq s (a + k) (by omega)
      have hby : (s[a + k].toNat : Int) < 256 := by have := s[a + k].toNat_lt; omega
      have hst := HS.out k
      rw [← hb] at hst
      have HST := Lib.hid hst
      clear hb hst
      generalize f k = v at *
      by_cases h0 : k = 0
      · have t0 : ((k : Int) == 0) = true := by simp; omega
        have hk0 : k ≤ 0 := by omega
        have HO := Lib.hid h0
        clear h0
        have hn : n = 2 ∨ n = 3 ∨ n = 4 := by omega
        rcases hn with hn | hn | hn
        · have ho : offs n k = 192 := by rw [HO.out, hn]; rfl
          rw [ho] at HST
          have n2 : ((n : Int) == 2) = true := by simp; omega
          have n3 : ((n : Int) == 3) = false := by simp; omega
          have n4 : ((n : Int) == 4) = false := by simp; omega
          clear ho hn
          go_wp2
          go_round
          case rel => exact ⟨k + 1, by omega, by go_num, by rw [HST.out]⟩
          case measure => simp [intOf]; omega
        · have ho : offs n k = 224 := by rw [HO.out, hn]; rfl
          rw [ho] at HST
          have n2 : ((n : Int) == 2) = false := by simp; omega
          have n3 : ((n : Int) == 3) = true := by simp; omega
          have n4 : ((n : Int) == 4) = false := by simp; omega
          clear ho hn
          go_wp2
          go_round
          case rel => exact ⟨k + 1, by omega, by go_num, by rw [HST.out]⟩
          case measure => simp [intOf]; omega
        · have ho : offs n k = 240 := by rw [HO.out, hn]; rfl
          rw [ho] at HST
          have n2 : ((n : Int) == 2) = false := by simp; omega
          have n3 : ((n : Int) == 3) = false := by simp; omega
          have n4 : ((n : Int) == 4) = true := by simp; omega
          clear ho hn
          go_wp2
          go_round
          case rel => exact ⟨k + 1, by omega, by go_num, by rw [HST.out]⟩
          case measure => simp [intOf]; omega
      · have t0 : ((k : Int) == 0) = false := by simp; omega
        have ho : offs n k = 128 := by unfold offs; rw [if_neg h0]
        rw [ho] at HST
        have hk1 : (0 : Int) < (k : Int) := by omega
        clear h0 ho
        go_wp2
        go_round
        case rel => exact ⟨k + 1, by omega, by go_num, by rw [HST.out]⟩
        case measure => simp [intOf]; omega
    · have : k = n := by omega
      subst this
      go_wp2
      go_ret
      exact ⟨rfl, rfl⟩
theorem value_zero (s : ByteArray) (n : Nat) (w : World) (hs : s.size ≤ 100000) (h : n ≤ s.size) (h2 : 2 ≤ n) (h4 : n ≤ 4) :
    Calls Tryd.prog 26 #[.string s, .int .i64 0, .int .i64 n] w fun e w' => e = .returned (.int .i64 (valG (bt s) n n)) ∧ w = w' := by
  have := value_any s 0 n w hs (by omega) h2 h4
  simp only [Nat.zero_add] at this
  exact this
end Go.Proofs.YtkaimohkdkdbmaaDoor
