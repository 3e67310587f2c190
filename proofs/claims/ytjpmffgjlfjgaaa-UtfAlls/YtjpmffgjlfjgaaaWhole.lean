/-
  The walk of utf.Whole.
-/
import Derived.Test.YtjpmffgjlfjgaaaAll
set_option linter.unusedSimpArgs false
set_option linter.unusedVariables false
namespace Go.Proofs.Ytjpmffgjlfjgaaa
open Go.RowKit

/-- Whole: the least end of one, two or three bytes that is cut off. -/
def wholeGo (s : ByteArray) : Nat → Nat → Nat
  | 0, _ => s.size
  | f + 1, n => if n ≤ s.size then if (runeF s ((s.size - n : Nat) : Int)).2.2 = 7 then s.size - n else wholeGo s f (n + 1) else s.size
def wholeF (s : ByteArray) : Nat := wholeGo s 3 1

set_option maxHeartbeats 1000000 in
set_option maxRecDepth 100000 in
theorem whole_any (s : ByteArray) (w : World) (hs : s.size ≤ maxLen) :
    Calls Try.prog 14 #[.string s] w fun e w' => e = .returned (.int .i64 (wholeF s)) ∧ w = w' := by
  have hm := hs
  unfold maxLen at hs
  generalize hR : wholeF s = R
  have HR := Lib.hid hR
  clear hR
  go_enter Try.func14, Try.ntmps14
  go_wp2_with fail
  go_loop [3] (fun i => ∃ n : Nat, 1 ≤ n ∧ n ≤ 4 ∧ i = .int .i64 n ∧ wholeGo s (4 - n) n = R) (fun i => 4 - (intOf i).toNat)
  case atStart => exact ⟨1, by omega, by omega, rfl, HR.out⟩
  case round =>
    obtain ⟨n, h1, h4, rfl, hg⟩ := hrel
    clear HR
    by_cases hn : n = 4
    · subst hn
      have hg' : s.size = R := hg
      clear hg
      subst hg'
      go_wp2
      go_ret
      exact ⟨rfl, rfl⟩
    rw [show 4 - n = (3 - n) + 1 by omega, wholeGo] at hg
    by_cases hle : n ≤ s.size
    · rw [if_pos hle] at hg
      have hc := rune_at s (s.size - n) w hm
      generalize hx : runeF s ((s.size - n : Nat) : Int) = x at hg hc
      clear hx
      obtain ⟨r, m, er⟩ := x
      have ec : ((s.size - n : Nat) : Int) = (s.size : Int) - (n : Int) := by omega
      rw [ec] at hc
      dsimp only at hg hc
      have HC := Lib.hid hc
      have tn : (n : Int) < 4 := by omega
      clear hc ec
      by_cases he : er = 7
      · subst he
        rw [if_pos rfl] at hg
        have HG := Lib.hid hg
        clear hg hn
        go_wp2_with fail
        refine HC.out.mono ?_
        rintro e w1 ⟨rfl, rfl⟩
        go_wp2
        go_ret
        exact ⟨ret_int (by rw [← HG.out]; omega), rfl⟩
      · rw [if_neg he] at hg
        have HG := Lib.hid hg
        have te : (er == 7) = false := by simpa using he
        clear hg hn he
        go_wp2_with fail
        refine HC.out.mono ?_
        rintro e w1 ⟨rfl, rfl⟩
        go_wp2
        go_round
        case rel => exact ⟨n + 1, by omega, by omega, by go_num, by rw [← HG.out]; congr 1; omega⟩
        case measure => simp [intOf]; omega
    · rw [if_neg hle] at hg
      have HG := Lib.hid hg
      have tn : (n : Int) < 4 := by omega
      clear hg hn
      go_wp2
      go_ret
      exact ⟨ret_int (by rw [← HG.out]), rfl⟩
end Go.Proofs.Ytjpmffgjlfjgaaa
