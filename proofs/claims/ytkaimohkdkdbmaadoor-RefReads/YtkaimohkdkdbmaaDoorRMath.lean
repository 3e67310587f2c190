/-
  Plain mathematics: what is read of bytes, as a text and as a value; what is escaped.
-/
import Derived.Test.YtkaimohkdkdbmaaDoorDec2
import Derived.Test.YtkaimohkdkdbmaaDoorCMath
set_option linter.unusedSimpArgs false
set_option linter.unusedVariables false
namespace Go.Proofs.YtkaimohkdkdbmaaDoor

/-- A digit's number; 99: it is none. -/
def dig (c : Int) : Int := if 48 ≤ c ∧ c ≤ 57 then c - 48 else if 97 ≤ c ∧ c ≤ 102 then c - 87 else if 65 ≤ c ∧ c ≤ 70 then c - 55 else 99
theorem dig_nn (c : Int) : 0 ≤ dig c := by unfold dig; repeat' split
                                           all_goals omega
/-- A number's digits behind n; below 0: they are no digits. -/
def numGo (base : Int) : List Int → Int → Int
  | [], n => n
  | c :: l, n => if dig c < base then numGo base l (n * base + dig c) else -1
/-- The program's: it ends where the number is too great. -/
def puGo (base : Int) : List Int → Int → Int
  | [], n => n
  | c :: l, n => if dig c < base then (if 2147483647 < n * base + dig c then -1 else puGo base l (n * base + dig c)) else -1
def chrOr (n : Int) : Int := if Chr n then n else -1
def numV (base : Int) (l : List Int) : Int := if l = [] ∨ 8 < l.length then -1 else chrOr (numGo base l 0)
/-- The rune of what stands between & and ;. Below 0: it is no reference. -/
def refV (l : List Int) : Int :=
  if l = [108, 116] then 60 else if l = [103, 116] then 62 else if l = [97, 109, 112] then 38 else if l = [97, 112, 111, 115] then 39 else if l = [113, 117, 111, 116] then 34
  else if l.getD 0 0 ≠ 35 then -1 else if l.getD 1 0 = 120 then numV 16 (l.drop 2) else numV 10 (l.drop 1)

theorem chrOr_big {n : Int} (h : 2147483647 < n) : chrOr n = -1 := by
  unfold chrOr; rw [if_neg]; unfold Chr Btw; omega
theorem chrOr_neg : chrOr (-1) = -1 := by
  unfold chrOr; rw [if_neg]; unfold Chr Btw; omega
theorem chrOr_chr {n : Int} (h : chrOr n ≠ -1) : Chr n ∧ chrOr n = n := by
  unfold chrOr at *
  by_cases hc : Chr n
  · exact ⟨hc, if_pos hc⟩
  · rw [if_neg hc] at h; exact absurd rfl h
theorem numGo_big (base : Int) (hb : 1 ≤ base) : ∀ (l : List Int) (n : Int), 2147483647 < n → chrOr (numGo base l n) = -1
  | [], n, h => chrOr_big h
  | c :: l, n, h => by
    unfold numGo
    by_cases hd : dig c < base
    · rw [if_pos hd]
      refine numGo_big base hb l _ ?_
      have := dig_nn c
      have : n * 1 ≤ n * base := Int.mul_le_mul_of_nonneg_left hb (by omega)
      omega
    · rw [if_neg hd]; exact chrOr_neg
theorem pu_num (base : Int) (hb : 1 ≤ base) : ∀ (l : List Int) (n : Int), chrOr (puGo base l n) = chrOr (numGo base l n)
  | [], n => rfl
  | c :: l, n => by
    unfold puGo numGo
    by_cases hd : dig c < base
    · rw [if_pos hd, if_pos hd]
      by_cases hg : 2147483647 < n * base + dig c
      · rw [if_pos hg, numGo_big base hb l _ hg, chrOr_neg]
      · rw [if_neg hg]; exact pu_num base hb l _
    · rw [if_neg hd, if_neg hd]
theorem puGo_bd (base : Int) (hb : 1 ≤ base) : ∀ (l : List Int) (n : Int), 0 ≤ n → n ≤ 2147483647 → puGo base l n = -1 ∨ (0 ≤ puGo base l n ∧ puGo base l n ≤ 2147483647)
  | [], n, h0, h1 => .inr ⟨h0, h1⟩
  | c :: l, n, h0, h1 => by
    unfold puGo
    by_cases hd : dig c < base
    · rw [if_pos hd]
      by_cases hg : 2147483647 < n * base + dig c
      · rw [if_pos hg]; exact .inl rfl
      · rw [if_neg hg]
        have := dig_nn c
        have : 0 ≤ n * base := Int.mul_nonneg h0 (by omega)
        exact puGo_bd base hb l _ (by omega) (by omega)
    · rw [if_neg hd]; exact .inl rfl

/-- What stands ahead of the first ;. -/
def bodyOf (t : List Int) : List Int := t.takeWhile fun x => decide (x ≠ 59)

def blk (v : Bool) (b : Int) : Int := if v = true then 32 else b
/-- One thing: the error's number; what is gathered of it; how many bytes it has. -/
def stepF (v : Bool) (l : List Int) : Int × List Int × Nat :=
  if l.getD 0 0 = 38 then
    if 59 ∈ l.tail ∧ 0 ≤ refV (bodyOf l.tail) then (0, encB (refV (bodyOf l.tail)), (bodyOf l.tail).length + 2) else (5, [], 0)
  else if l.getD 0 0 = 13 then (0, [blk v 10], if l.getD 1 0 = 10 then 2 else 1)
  else if l.getD 0 0 = 9 ∨ l.getD 0 0 = 10 then (0, [blk v (l.getD 0 0)], 1)
  else if (dec1 l).2.2 ≠ 0 then ((dec1 l).2.2, [], 0)
  else if Chr (dec1 l).1 then (0, encB (dec1 l).1, (dec1 l).2.1.toNat) else (3, [], 0)

/-- What is gathered; where it ends; why. -/
def readL (v : Bool) : Nat → List Int → List Int × Nat × Int
  | 0, _ => ([], 0, 0)
  | f + 1, l => if l = [] then ([], 0, 0) else if (stepF v l).1 ≠ 0 then ([], 0, (stepF v l).1)
    else ((stepF v l).2.1 ++ (readL v f (l.drop (stepF v l).2.2)).1, (stepF v l).2.2 + (readL v f (l.drop (stepF v l).2.2)).2.1, (readL v f (l.drop (stepF v l).2.2)).2.2)
def readF (v : Bool) (l : List Int) : List Int × Nat × Int := readL v l.length l

theorem body_len (t : List Int) (h : 59 ∈ t) : (bodyOf t).length < t.length := by
  induction t with
  | nil => simp at h
  | cons x t ih =>
    unfold bodyOf
    rw [List.takeWhile_cons]
    by_cases hx : x = 59
    · subst hx; simp
    · rw [if_pos (by simpa using hx)]
      rw [List.mem_cons] at h
      rcases h with h | h
      · exact absurd h.symm hx
      · simp only [List.length_cons]
        have := ih h
        unfold bodyOf at this
        omega
theorem getD_ne {l : List Int} (h : l.getD 0 0 ≠ 0) : 1 ≤ l.length := by
  cases l with
  | nil => simp at h
  | cons x y => simp
theorem step_bd (v : Bool) (l : List Int) (hl : l ≠ []) (hn : NN l) (h : (stepF v l).1 = 0) : 1 ≤ (stepF v l).2.2 ∧ (stepF v l).2.2 ≤ l.length := by
  have hl1 : 1 ≤ l.length := by
    cases l with
    | nil => exact absurd rfl hl
    | cons x y => simp
  unfold stepF at h ⊢
  by_cases h1 : l.getD 0 0 = 38
  · rw [if_pos h1] at h ⊢
    by_cases h2 : 59 ∈ l.tail ∧ 0 ≤ refV (bodyOf l.tail)
    · rw [if_pos h2]
      have := body_len l.tail h2.1
      rw [List.length_tail] at this
      refine ⟨by simp, ?_⟩
      show (bodyOf l.tail).length + 2 ≤ l.length
      omega
    · rw [if_neg h2] at h; simp at h
  rw [if_neg h1] at h ⊢
  by_cases h2 : l.getD 0 0 = 13
  · rw [if_pos h2]
    by_cases h3 : l.getD 1 0 = 10
    · rw [if_pos h3]
      refine ⟨by simp, ?_⟩
      match l, h3 with
      | _ :: _ :: _, _ => simp
      | [_], h3 => simp at h3
      | [], h3 => simp at h3
    · rw [if_neg h3]; exact ⟨by simp, hl1⟩
  rw [if_neg h2] at h ⊢
  by_cases h3 : l.getD 0 0 = 9 ∨ l.getD 0 0 = 10
  · rw [if_pos h3]; exact ⟨by simp, hl1⟩
  rw [if_neg h3] at h ⊢
  by_cases h4 : (dec1 l).2.2 ≠ 0
  · rw [if_pos h4] at h; exact absurd h h4
  rw [if_neg h4] at h ⊢
  by_cases h5 : Chr (dec1 l).1
  · rw [if_pos h5]; exact dec_ok1 hl hn (by simpa using h4)
  · rw [if_neg h5] at h; simp at h

theorem readL_fuel (v : Bool) : ∀ (f g : Nat) (L : List Int), NN L → L.length ≤ f → L.length ≤ g → readL v f L = readL v g L
  | 0, g, L, _, hf, _ => by
    have : L = [] := List.eq_nil_of_length_eq_zero (by omega)
    subst this
    cases g <;> simp [readL]
  | f + 1, 0, L, _, _, hg => by
    have : L = [] := List.eq_nil_of_length_eq_zero (by omega)
    subst this
    simp [readL]
  | f + 1, g + 1, L, hn, hf, hg => by
    by_cases hl : L = []
    · subst hl; simp [readL]
    by_cases he : (stepF v L).1 ≠ 0
    · rw [readL, readL, if_neg hl, if_neg hl, if_pos he, if_pos he]
    · have := step_bd v L hl hn (by simpa using he)
      rw [readL, readL, if_neg hl, if_neg hl, if_neg he, if_neg he]
      rw [readL_fuel v f g _ (hn.drop _) (by rw [List.length_drop]; omega) (by rw [List.length_drop]; omega)]
theorem readF_nil (v : Bool) : readF v [] = ([], 0, 0) := rfl
theorem readF_err (v : Bool) (L : List Int) (hl : L ≠ []) (h : (stepF v L).1 ≠ 0) : readF v L = ([], 0, (stepF v L).1) := by
  unfold readF
  cases hL : L.length with
  | zero => exact absurd (List.eq_nil_of_length_eq_zero hL) hl
  | succ f => rw [readL, if_neg hl, if_pos h]
theorem readF_ok (v : Bool) (L : List Int) (hl : L ≠ []) (hn : NN L) (h : (stepF v L).1 = 0) :
    readF v L = ((stepF v L).2.1 ++ (readF v (L.drop (stepF v L).2.2)).1, (stepF v L).2.2 + (readF v (L.drop (stepF v L).2.2)).2.1, (readF v (L.drop (stepF v L).2.2)).2.2) := by
  have hb := step_bd v L hl hn h
  unfold readF
  cases hL : L.length with
  | zero => exact absurd (List.eq_nil_of_length_eq_zero hL) hl
  | succ f =>
    rw [readL, if_neg hl, if_neg (by simpa using h)]
    rw [readL_fuel v f (L.drop (stepF v L).2.2).length _ (hn.drop _) (by rw [List.length_drop]; omega) (Nat.le_refl _)]
/-- Up to an error nothing lies beyond the end. -/
theorem readF_bd (v : Bool) : ∀ (n : Nat) (L : List Int), L.length ≤ n → NN L → (readF v L).2.1 ≤ L.length ∧ ((readF v L).2.2 = 0 → (readF v L).2.1 = L.length)
  | 0, L, h, _ => by
    have : L = [] := List.eq_nil_of_length_eq_zero (by omega)
    subst this
    simp [readF_nil]
  | n + 1, L, h, hn => by
    by_cases hl : L = []
    · subst hl; simp [readF_nil]
    by_cases he : (stepF v L).1 = 0
    · have hb := step_bd v L hl hn he
      have ih := readF_bd v n (L.drop (stepF v L).2.2) (by rw [List.length_drop]; omega) (hn.drop _)
      rw [readF_ok v L hl hn he]
      rw [List.length_drop] at ih
      refine ⟨?_, fun h0 => ?_⟩
      · show _ + _ ≤ _
        omega
      · have := ih.2 h0
        show _ + _ = _
        omega
    · rw [readF_err v L hl he]
      exact ⟨by simp, fun h0 => absurd h0 he⟩

/-- What Text and Value answer. -/
def ansF (v : Bool) (l : List Int) : List Int × Int × Int := if (readF v l).2.2 = 0 then ((readF v l).1, 0, 0) else ([], ((readF v l).2.1 : Int), (readF v l).2.2)

/-- Escaped. -/
def escB (v : Bool) (b : Int) : List Int :=
  if b = 38 then [38, 97, 109, 112, 59] else if b = 60 then [38, 108, 116, 59] else if b = 62 then [38, 103, 116, 59] else if b = 13 then [38, 35, 120, 68, 59]
  else if v = true ∧ b = 34 then [38, 113, 117, 111, 116, 59] else if v = true ∧ b = 9 then [38, 35, 120, 57, 59] else if v = true ∧ b = 10 then [38, 35, 120, 65, 59] else [b]
def escF (v : Bool) (l : List Int) : List Int := l.flatMap (escB v)
end Go.Proofs.YtkaimohkdkdbmaaDoor
