/-
  Merged by program out of the texts RMath, BMath, CLeaf, NzLeaf, NzConv of one seat.
-/
import Derived.Test.YtaoklhalkfcpfaaGreatDoorG01
import Derived.Test.YtaoklhalkfcpfaaGreatDoorProg
import Derived.WalkKit
import Derived.WalkSpells
import Derived.WalkLawsBesides
import Derived.Laws.RangeAny
import Derived.Laws.Cover4
import Derived.Lib.Hide

/- Plain mathematics: what is read of bytes, as a text and as a value; what is escaped. -/
set_option linter.unusedSimpArgs false
set_option linter.unusedVariables false
namespace Go.Proofs.YtaoklhalkfcpfaaGreatDoor

/-- A digit's number; 99: it is none. -/
def dig (c : Int) : Int := if 48 ≤ c ∧ c ≤ 57 then c - 48 else if 97 ≤ c ∧ c ≤ 102 then c - 87 else if 65 ≤ c ∧ c ≤ 70 then c - 55 else 99
theorem dig_nn (c : Int) : 0 ≤ dig c := by unfold dig; repeat' split
                                           all_goals omega
/-- A number's digits behind n; below 0: they are no digits. -/
def numGo (base : Int) : List Int → Int → Int
  | [], n => n
  | c :: l, n => if dig c < base then numGo base l (n * base + dig c) else -1
/-- The program's: it ends where the number is too great. -/
def puGo (base : Int) : List Int → Int → Int
  | [], n => n
  | c :: l, n => if dig c < base then (if 2147483647 < n * base + dig c then -1 else puGo base l (n * base + dig c)) else -1
def chrOr (n : Int) : Int := if Chr n then n else -1
def numV (base : Int) (l : List Int) : Int := if l = [] ∨ 8 < l.length then -1 else chrOr (numGo base l 0)
/-- The rune of what stands between & and ;. Below 0: it is no reference. -/
def refV (l : List Int) : Int :=
  if l = [108, 116] then 60 else if l = [103, 116] then 62 else if l = [97, 109, 112] then 38 else if l = [97, 112, 111, 115] then 39 else if l = [113, 117, 111, 116] then 34
  else if l.getD 0 0 ≠ 35 then -1 else if l.getD 1 0 = 120 then numV 16 (l.drop 2) else numV 10 (l.drop 1)

theorem chrOr_big {n : Int} (h : 2147483647 < n) : chrOr n = -1 := by
  unfold chrOr; rw [if_neg]; unfold Chr Btw; omega
theorem chrOr_neg : chrOr (-1) = -1 := by
  unfold chrOr; rw [if_neg]; unfold Chr Btw; omega
theorem chrOr_chr {n : Int} (h : chrOr n ≠ -1) : Chr n ∧ chrOr n = n := by
  unfold chrOr at *
  by_cases hc : Chr n
  · exact ⟨hc, if_pos hc⟩
  · rw [if_neg hc] at h; exact absurd rfl h
theorem numGo_big (base : Int) (hb : 1 ≤ base) : ∀ (l : List Int) (n : Int), 2147483647 < n → chrOr (numGo base l n) = -1
  | [], n, h => chrOr_big h
  | c :: l, n, h => by
    unfold numGo
    by_cases hd : dig c < base
    · rw [if_pos hd]
      refine numGo_big base hb l _ ?_
      have := dig_nn c
      have : n * 1 ≤ n * base := Int.mul_le_mul_of_nonneg_left hb (by omega)
      omega
    · rw [if_neg hd]; exact chrOr_neg
theorem pu_num (base : Int) (hb : 1 ≤ base) : ∀ (l : List Int) (n : Int), chrOr (puGo base l n) = chrOr (numGo base l n)
  | [], n => rfl
  | c :: l, n => by
    unfold puGo numGo
    by_cases hd : dig c < base
    · rw [if_pos hd, if_pos hd]
      by_cases hg : 2147483647 < n * base + dig c
      · rw [if_pos hg, numGo_big base hb l _ hg, chrOr_neg]
      · rw [if_neg hg]; exact pu_num base hb l _
    · rw [if_neg hd, if_neg hd]
theorem puGo_bd (base : Int) (hb : 1 ≤ base) : ∀ (l : List Int) (n : Int), 0 ≤ n → n ≤ 2147483647 → puGo base l n = -1 ∨ (0 ≤ puGo base l n ∧ puGo base l n ≤ 2147483647)
  | [], n, h0, h1 => .inr ⟨h0, h1⟩
  | c :: l, n, h0, h1 => by
    unfold puGo
    by_cases hd : dig c < base
    · rw [if_pos hd]
      by_cases hg : 2147483647 < n * base + dig c
      · rw [if_pos hg]; exact .inl rfl
      · rw [if_neg hg]
        have := dig_nn c
        have : 0 ≤ n * base := Int.mul_nonneg h0 (by omega)
        exact puGo_bd base hb l _ (by omega) (by omega)
    · rw [if_neg hd]; exact .inl rfl

/-- What stands ahead of the first ;. -/
def bodyOf (t : List Int) : List Int := t.takeWhile fun x => decide (x ≠ 59)

def blk (v : Bool) (b : Int) : Int := if v = true then 32 else b
/-- One thing: the error's number; what is gathered of it; how many bytes it has. -/
def stepF (v : Bool) (l : List Int) : Int × List Int × Nat :=
  if l.getD 0 0 = 38 then
    if 59 ∈ l.tail ∧ 0 ≤ refV (bodyOf l.tail) then (0, encB (refV (bodyOf l.tail)), (bodyOf l.tail).length + 2) else (5, [], 0)
  else if l.getD 0 0 = 13 then (0, [blk v 10], if l.getD 1 0 = 10 then 2 else 1)
  else if l.getD 0 0 = 9 ∨ l.getD 0 0 = 10 then (0, [blk v (l.getD 0 0)], 1)
  else if (dec1 l).2.2 ≠ 0 then ((dec1 l).2.2, [], 0)
  else if Chr (dec1 l).1 then (0, encB (dec1 l).1, (dec1 l).2.1.toNat) else (3, [], 0)

/-- What is gathered; where it ends; why. -/
def readL (v : Bool) : Nat → List Int → List Int × Nat × Int
  | 0, _ => ([], 0, 0)
  | f + 1, l => if l = [] then ([], 0, 0) else if (stepF v l).1 ≠ 0 then ([], 0, (stepF v l).1)
    else ((stepF v l).2.1 ++ (readL v f (l.drop (stepF v l).2.2)).1, (stepF v l).2.2 + (readL v f (l.drop (stepF v l).2.2)).2.1, (readL v f (l.drop (stepF v l).2.2)).2.2)
def readF (v : Bool) (l : List Int) : List Int × Nat × Int := readL v l.length l

theorem body_len (t : List Int) (h : 59 ∈ t) : (bodyOf t).length < t.length := by
  induction t with
  | nil => simp at h
  | cons x t ih =>
    unfold bodyOf
    rw [List.takeWhile_cons]
    by_cases hx : x = 59
    · subst hx; simp
    · rw [if_pos (by simpa using hx)]
      rw [List.mem_cons] at h
      rcases h with h | h
      · exact absurd h.symm hx
      · simp only [List.length_cons]
        have := ih h
        unfold bodyOf at this
        omega
theorem getD_ne {l : List Int} (h : l.getD 0 0 ≠ 0) : 1 ≤ l.length := by
  cases l with
  | nil => simp at h
  | cons x y => simp
theorem step_bd (v : Bool) (l : List Int) (hl : l ≠ []) (hn : NN l) (h : (stepF v l).1 = 0) : 1 ≤ (stepF v l).2.2 ∧ (stepF v l).2.2 ≤ l.length := by
  have hl1 : 1 ≤ l.length := by
    cases l with
    | nil => exact absurd rfl hl
    | cons x y => simp
  unfold stepF at h ⊢
  by_cases h1 : l.getD 0 0 = 38
  · rw [if_pos h1] at h ⊢
    by_cases h2 : 59 ∈ l.tail ∧ 0 ≤ refV (bodyOf l.tail)
    · rw [if_pos h2]
      have := body_len l.tail h2.1
      rw [List.length_tail] at this
      refine ⟨by simp, ?_⟩
      show (bodyOf l.tail).length + 2 ≤ l.length
      omega
    · rw [if_neg h2] at h; simp at h
  rw [if_neg h1] at h ⊢
  by_cases h2 : l.getD 0 0 = 13
  · rw [if_pos h2]
    by_cases h3 : l.getD 1 0 = 10
    · rw [if_pos h3]
      refine ⟨by simp, ?_⟩
      match l, h3 with
      | _ :: _ :: _, _ => simp
      | [_], h3 => simp at h3
      | [], h3 => simp at h3
    · rw [if_neg h3]; exact ⟨by simp, hl1⟩
  rw [if_neg h2] at h ⊢
  by_cases h3 : l.getD 0 0 = 9 ∨ l.getD 0 0 = 10
  · rw [if_pos h3]; exact ⟨by simp, hl1⟩
  rw [if_neg h3] at h ⊢
  by_cases h4 : (dec1 l).2.2 ≠ 0
  · rw [if_pos h4] at h; exact absurd h h4
  rw [if_neg h4] at h ⊢
  by_cases h5 : Chr (dec1 l).1
  · rw [if_pos h5]; exact dec_ok1 hl hn (by simpa using h4)
  · rw [if_neg h5] at h; simp at h

theorem readL_fuel (v : Bool) : ∀ (f g : Nat) (L : List Int), NN L → L.length ≤ f → L.length ≤ g → readL v f L = readL v g L
  | 0, g, L, _, hf, _ => by
    have : L = [] := List.eq_nil_of_length_eq_zero (by omega)
    subst this
    cases g <;> simp [readL]
  | f + 1, 0, L, _, _, hg => by
    have : L = [] := List.eq_nil_of_length_eq_zero (by omega)
    subst this
    simp [readL]
  | f + 1, g + 1, L, hn, hf, hg => by
    by_cases hl : L = []
    · subst hl; simp [readL]
    by_cases he : (stepF v L).1 ≠ 0
    · rw [readL, readL, if_neg hl, if_neg hl, if_pos he, if_pos he]
    · have := step_bd v L hl hn (by simpa using he)
      rw [readL, readL, if_neg hl, if_neg hl, if_neg he, if_neg he]
      rw [readL_fuel v f g _ (hn.drop _) (by rw [List.length_drop]; omega) (by rw [List.length_drop]; omega)]
theorem readF_nil (v : Bool) : readF v [] = ([], 0, 0) := rfl
theorem readF_err (v : Bool) (L : List Int) (hl : L ≠ []) (h : (stepF v L).1 ≠ 0) : readF v L = ([], 0, (stepF v L).1) := by
  unfold readF
  cases hL : L.length with
  | zero => exact absurd (List.eq_nil_of_length_eq_zero hL) hl
  | succ f => rw [readL, if_neg hl, if_pos h]
theorem readF_ok (v : Bool) (L : List Int) (hl : L ≠ []) (hn : NN L) (h : (stepF v L).1 = 0) :
    readF v L = ((stepF v L).2.1 ++ (readF v (L.drop (stepF v L).2.2)).1, (stepF v L).2.2 + (readF v (L.drop (stepF v L).2.2)).2.1, (readF v (L.drop (stepF v L).2.2)).2.2) := by
  have hb := step_bd v L hl hn h
  unfold readF
  cases hL : L.length with
  | zero => exact absurd (List.eq_nil_of_length_eq_zero hL) hl
  | succ f =>
    rw [readL, if_neg hl, if_neg (by simpa using h)]
    rw [readL_fuel v f (L.drop (stepF v L).2.2).length _ (hn.drop _) (by rw [List.length_drop]; omega) (Nat.le_refl _)]
/-- Up to an error nothing lies beyond the end. -/
theorem readF_bd (v : Bool) : ∀ (n : Nat) (L : List Int), L.length ≤ n → NN L → (readF v L).2.1 ≤ L.length ∧ ((readF v L).2.2 = 0 → (readF v L).2.1 = L.length)
  | 0, L, h, _ => by
    have : L = [] := List.eq_nil_of_length_eq_zero (by omega)
    subst this
    simp [readF_nil]
  | n + 1, L, h, hn => by
    by_cases hl : L = []
    · subst hl; simp [readF_nil]
    by_cases he : (stepF v L).1 = 0
    · have hb := step_bd v L hl hn he
      have ih := readF_bd v n (L.drop (stepF v L).2.2) (by rw [List.length_drop]; omega) (hn.drop _)
      rw [readF_ok v L hl hn he]
      rw [List.length_drop] at ih
      refine ⟨?_, fun h0 => ?_⟩
      · show _ + _ ≤ _
        omega
      · have := ih.2 h0
        show _ + _ = _
        omega
    · rw [readF_err v L hl he]
      exact ⟨by simp, fun h0 => absurd h0 he⟩

/-- What Text and Value answer. -/
def ansF (v : Bool) (l : List Int) : List Int × Int × Int := if (readF v l).2.2 = 0 then ((readF v l).1, 0, 0) else ([], ((readF v l).2.1 : Int), (readF v l).2.2)

/-- Escaped. -/
def escB (v : Bool) (b : Int) : List Int :=
  if b = 38 then [38, 97, 109, 112, 59] else if b = 60 then [38, 108, 116, 59] else if b = 62 then [38, 103, 116, 59] else if b = 13 then [38, 35, 120, 68, 59]
  else if v = true ∧ b = 34 then [38, 113, 117, 111, 116, 59] else if v = true ∧ b = 9 then [38, 35, 120, 57, 59] else if v = true ∧ b = 10 then [38, 35, 120, 65, 59] else [b]
def escF (v : Bool) (l : List Int) : List Int := l.flatMap (escB v)
end Go.Proofs.YtaoklhalkfcpfaaGreatDoor

/- Plain mathematics: what is escaped is read as it was; texts behind one another. -/
set_option linter.unusedSimpArgs false
set_option linter.unusedVariables false
namespace Go.Proofs.YtaoklhalkfcpfaaGreatDoor

theorem chr_nbad {r : Int} (h : Chr r) : ¬ Bad r := by unfold Chr Btw at h; unfold Bad; omega
/-- May all of a text stand in a text? -/
def Rt (l : List Int) : Prop := (decF l).2.2 = 0 ∧ ∀ r ∈ (decF l).1, Chr r

theorem getD_app (a b : List Int) (h : a ≠ []) : (a ++ b).getD 0 0 = a.getD 0 0 := by
  cases a with
  | nil => exact absurd rfl h
  | cons x y => simp
theorem enc_head (r : Int) (h : ¬ Bad r) (h1 : 128 ≤ r) : 128 ≤ (encB r).getD 0 0 ∧ ∀ x ∈ encB r, 128 ≤ x := by
  unfold Bad at h
  by_cases h2 : r < 2048
  · rw [enc2 h1 h2]
    refine ⟨by simp; omega, fun x hx => ?_⟩
    simp at hx
    omega
  by_cases h3 : r < 65536
  · rw [enc3 (by omega) h3]
    refine ⟨by simp; omega, fun x hx => ?_⟩
    simp at hx
    omega
  · rw [enc4 (by omega)]
    refine ⟨by simp; omega, fun x hx => ?_⟩
    simp at hx
    omega
/-- A rune that stands for itself. -/
theorem step_self (v : Bool) (r : Int) (T : List Int) (hc : Chr r) (h1 : r ≠ 38) (h2 : r ≠ 13) (h3 : v = true → r ≠ 9 ∧ r ≠ 10) : stepF v (encB r ++ T) = (0, encB r, (encB r).length) := by
  have hb := chr_nbad hc
  have hd : (encB r ++ T).getD 0 0 = (encB r).getD 0 0 := getD_app _ _ (encB_ne r)
  have D := dec_enc r T hb
  have g38 : (encB r).getD 0 0 ≠ 38 := by
    by_cases h : r < 128
    · rw [enc1 h]; simpa using h1
    · have := (enc_head r hb (by omega)).1; omega
  have g13 : (encB r).getD 0 0 ≠ 13 := by
    by_cases h : r < 128
    · rw [enc1 h]; simpa using h2
    · have := (enc_head r hb (by omega)).1; omega
  unfold stepF
  rw [hd, if_neg g38, if_neg g13]
  by_cases h4 : (encB r).getD 0 0 = 9 ∨ (encB r).getD 0 0 = 10
  · rw [if_pos h4]
    have hr : r < 128 := by
      by_cases h : r < 128
      · exact h
      · have := (enc_head r hb (by omega)).1; omega
    rw [enc1 hr] at h4 ⊢
    simp only [List.getD_cons_zero] at h4 ⊢
    have hv : v = false := by
      cases v with
      | false => rfl
      | true => have := h3 rfl; omega
    subst hv
    rfl
  · rw [if_neg h4, D]
    simp [hc]
theorem refV_amp : refV [97, 109, 112] = 38 := by decide
theorem refV_lt : refV [108, 116] = 60 := by decide
theorem refV_gt : refV [103, 116] = 62 := by decide
theorem refV_cr : refV [35, 120, 68] = 13 := by decide
theorem refV_quot : refV [113, 117, 111, 116] = 34 := by decide
theorem refV_tab : refV [35, 120, 57] = 9 := by decide
theorem refV_lf : refV [35, 120, 65] = 10 := by decide
theorem body_app (a T : List Int) (h : 59 ∉ a) : bodyOf (a ++ 59 :: T) = a := by
  unfold bodyOf
  induction a with
  | nil => simp
  | cons x a ih =>
    rw [List.cons_append, List.takeWhile_cons, if_pos (by simp only [decide_eq_true_eq]; intro e; exact h (by simp [e]))]
    rw [ih (fun hh => h (by simp [hh]))]
/-- A reference. -/
theorem step_ref (v : Bool) (a T : List Int) (r : Int) (h : 59 ∉ a) (hr : refV a = r) (h0 : 0 ≤ r) : stepF v (38 :: (a ++ 59 :: T)) = (0, encB r, a.length + 2) := by
  unfold stepF
  rw [if_pos (by simp), List.tail_cons, body_app a T h, hr, if_pos ⟨by simp, h0⟩]
theorem esc_of_enc (v : Bool) (r : Int) (hb : ¬ Bad r) (h : 128 ≤ r) : escF v (encB r) = encB r := by
  have hx := (enc_head r hb h).2
  unfold escF
  have : ∀ (l : List Int), (∀ x ∈ l, 128 ≤ x) → l.flatMap (escB v) = l := by
    intro l
    induction l with
    | nil => intro _; rfl
    | cons x l ih =>
      intro hl
      have h1 := hl x (by simp)
      rw [List.flatMap_cons, ih (fun y hy => hl y (by simp [hy]))]
      unfold escB
      rw [if_neg (by omega), if_neg (by omega), if_neg (by omega), if_neg (by omega), if_neg (by omega), if_neg (by omega), if_neg (by omega)]
      rfl
  exact this _ hx
theorem step_esc (v : Bool) (r : Int) (T : List Int) (hc : Chr r) : stepF v (escF v (encB r) ++ T) = (0, encB r, (escF v (encB r)).length) := by
  have hb := chr_nbad hc
  by_cases h : r < 128
  · rw [enc1 h]
    have e : escF v [r] = escB v r := by simp [escF]
    rw [e, ← enc1 h]
    unfold escB
    by_cases a1 : r = 38
    · subst a1; simp only [if_pos]; exact step_ref v [97, 109, 112] T 38 (by decide) refV_amp (by decide)
    by_cases a2 : r = 60
    · subst a2; exact step_ref v [108, 116] T 60 (by decide) refV_lt (by decide)
    by_cases a3 : r = 62
    · subst a3; exact step_ref v [103, 116] T 62 (by decide) refV_gt (by decide)
    by_cases a4 : r = 13
    · subst a4; exact step_ref v [35, 120, 68] T 13 (by decide) refV_cr (by decide)
    rw [if_neg a1, if_neg a2, if_neg a3, if_neg a4]
    cases v with
    | false =>
      rw [if_neg (by simp), if_neg (by simp), if_neg (by simp)]
      have := step_self false r T hc a1 a4 (by simp)
      rw [enc1 h] at this ⊢
      exact this
    | true =>
      by_cases a5 : r = 34
      · subst a5; exact step_ref true [113, 117, 111, 116] T 34 (by decide) refV_quot (by decide)
      by_cases a6 : r = 9
      · subst a6; exact step_ref true [35, 120, 57] T 9 (by decide) refV_tab (by decide)
      by_cases a7 : r = 10
      · subst a7; exact step_ref true [35, 120, 65] T 10 (by decide) refV_lf (by decide)
      rw [if_neg (by simp [a5]), if_neg (by simp [a6]), if_neg (by simp [a7])]
      have := step_self true r T hc a1 a4 (fun _ => ⟨a6, a7⟩)
      rw [enc1 h] at this ⊢
      exact this
  · rw [esc_of_enc v r hb (by omega)]
    exact step_self v r T hc (by omega) (by omega) (fun _ => by omega)

/-- Runes, each of them spelled so that it is read: all is read. -/
theorem read_runes (v : Bool) (f : Int → List Int) : ∀ (l : List Int), (∀ r ∈ l, f r ≠ [] ∧ NN (f r) ∧ ∀ T, stepF v (f r ++ T) = (0, encB r, (f r).length)) →
    NN (l.flatMap f) ∧ readF v (l.flatMap f) = (l.flatMap encB, (l.flatMap f).length, 0)
  | [], _ => ⟨fun x hx => by simp at hx, rfl⟩
  | r :: l, h => by
    obtain ⟨h1, h2, h3⟩ := h r (by simp)
    obtain ⟨i1, i2⟩ := read_runes v f l fun x hx => h x (by simp [hx])
    have hnn : NN (f r ++ l.flatMap f) := fun x hx => by
      rcases List.mem_append.1 hx with hx | hx
      · exact h2 x hx
      · exact i1 x hx
    have hne : f r ++ l.flatMap f ≠ [] := by
      intro e
      exact h1 (List.append_eq_nil_iff.1 e).1
    rw [List.flatMap_cons]
    refine ⟨hnn, ?_⟩
    have hs := h3 (l.flatMap f)
    rw [readF_ok v _ hne hnn (by rw [hs]), hs]
    simp only [List.drop_left]
    rw [i2]
    simp

theorem rt_runes {l : List Int} (hn : NN l) (h : Rt l) : l = (decF l).1.flatMap encB ∧ ∀ r ∈ (decF l).1, Chr r := by
  obtain ⟨hg, hp, _, h4, _⟩ := decF_back l.length l (Nat.le_refl _) hn
  rw [h4 h.1, List.take_length] at hp
  refine ⟨?_, h.2⟩
  conv => lhs; rw [← hp]
  have : ∀ (m : List Int), Good m → m.flatMap putI = m.flatMap encB := by
    intro m
    induction m with
    | nil => intro _; rfl
    | cons x m ih =>
      intro hm
      rw [List.flatMap_cons, List.flatMap_cons, putI_ok (hm x (by simp)), ih fun y hy => hm y (by simp [hy])]
  exact this _ hg
theorem esc_nn (v : Bool) (l : List Int) (h : NN l) : NN (escF v l) := by
  intro x hx
  unfold escF at hx
  obtain ⟨b, hb, hx⟩ := List.mem_flatMap.1 hx
  have := h b hb
  unfold escB at hx
  repeat' split at hx
  all_goals simp at hx; omega
theorem esc_ne (v : Bool) (r : Int) : escF v (encB r) ≠ [] := by
  intro e
  unfold escF at e
  have hl := (encB_len r).1
  cases hh : encB r with
  | nil => rw [hh] at hl; simp at hl
  | cons x y =>
    rw [hh, List.flatMap_cons] at e
    have := (List.append_eq_nil_iff.1 e).1
    unfold escB at this
    repeat' split at this
    all_goals simp at this
/-- P4.2: what is escaped is read as it was. -/
theorem back_F (v : Bool) (l : List Int) (hn : NN l) (h : Rt l) : readF v (escF v l) = (l, (escF v l).length, 0) := by
  obtain ⟨e, hc⟩ := rt_runes hn h
  have R := (read_runes v (fun r => escF v (encB r)) (decF l).1 fun r hr => ⟨esc_ne v r, esc_nn v _ (encB_nn r (chr_nbad (hc r hr))).1, fun T => step_esc v r T (hc r hr)⟩).2
  have e2 : (decF l).1.flatMap (fun r => escF v (encB r)) = escF v l := by
    conv => rhs; rw [e]
    unfold escF
    rw [List.flatMap_assoc]
  rw [e2, ← e] at R
  exact R
/-- P4.2: without & and d a text is read as it is. -/
theorem self_F (v : Bool) (l : List Int) (hn : NN l) (h : Rt l) (h1 : 38 ∉ l) (h2 : 13 ∉ l) (h3 : v = true → 9 ∉ l ∧ 10 ∉ l) : readF v l = (l, l.length, 0) := by
  obtain ⟨e, hc⟩ := rt_runes hn h
  have M : ∀ r ∈ (decF l).1, r < 128 → r ∈ l := fun r hr hlt => by
    rw [e]
    exact List.mem_flatMap.2 ⟨r, hr, by rw [enc1 hlt]; simp⟩
  have R := (read_runes v encB (decF l).1 fun r hr => ⟨encB_ne r, (encB_nn r (chr_nbad (hc r hr))).1, fun T => step_self v r T (hc r hr)
    (fun h => h1 (h ▸ M r hr (by omega))) (fun h => h2 (h ▸ M r hr (by omega)))
    (fun hv => ⟨fun h => (h3 hv).1 (h ▸ M r hr (by omega)), fun h => (h3 hv).2 (h ▸ M r hr (by omega))⟩)⟩).2
  rw [← e] at R
  exact R

theorem mem_body (a T : List Int) (h : 59 ∈ a) : bodyOf (a ++ T) = bodyOf a := by
  unfold bodyOf
  induction a with
  | nil => simp at h
  | cons x a ih =>
    rw [List.cons_append, List.takeWhile_cons, List.takeWhile_cons]
    by_cases hx : x = 59
    · subst hx; simp
    · rw [if_pos (by simpa using hx), if_pos (by simpa using hx), ih (by
        rcases List.mem_cons.1 h with h | h
        · exact absurd h.symm hx
        · exact h)]
/-- A thing that is read hangs on its own bytes alone, unless it is d at the end. -/
theorem step_app (v : Bool) (l T : List Int) (hl : l ≠ []) (hn : NN l) (h13 : l ≠ [13]) (h : (stepF v l).1 = 0) : stepF v (l ++ T) = stepF v l := by
  have hd := getD_app l T hl
  have ht : (l ++ T).tail = l.tail ++ T := by
    cases l with
    | nil => exact absurd rfl hl
    | cons x y => simp
  unfold stepF at h ⊢
  rw [hd, ht]
  by_cases h1 : l.getD 0 0 = 38
  · rw [if_pos h1] at h
    rw [if_pos h1, if_pos h1]
    by_cases h2 : 59 ∈ l.tail ∧ 0 ≤ refV (bodyOf l.tail)
    · rw [if_pos h2, mem_body _ T h2.1, if_pos ⟨List.mem_append.2 (.inl h2.1), h2.2⟩]
    · rw [if_neg h2] at h; simp at h
  rw [if_neg h1] at h
  rw [if_neg h1, if_neg h1]
  by_cases h2 : l.getD 0 0 = 13
  · rw [if_pos h2, if_pos h2]
    have : (l ++ T).getD 1 0 = l.getD 1 0 := by
      match l, h2, h13 with
      | [x], h2, h13 => simp at h2; subst h2; exact absurd rfl h13
      | x :: y :: z, _, _ => simp
      | [], h2, _ => simp at h2
    rw [this]
  rw [if_neg h2] at h
  rw [if_neg h2, if_neg h2]
  by_cases h3 : l.getD 0 0 = 9 ∨ l.getD 0 0 = 10
  · rw [if_pos h3, if_pos h3]
  rw [if_neg h3] at h
  rw [if_neg h3, if_neg h3]
  have hz : (dec1 l).2.2 = 0 := by
    by_cases h4 : (dec1 l).2.2 = 0
    · exact h4
    · rw [if_pos h4] at h; exact absurd h h4
  obtain ⟨d1, d2, d3, d4⟩ := dec_inv l hl hn.getD hz
  have D : dec1 (l ++ T) = dec1 l := by
    have e : l = encB (dec1 l).1 ++ l.drop (encB (dec1 l).1).length := by
      conv => lhs; rw [← List.take_append_drop (encB (dec1 l).1).length l, d3]
    have a := dec_enc (dec1 l).1 (l.drop (encB (dec1 l).1).length ++ T) d1
    rw [← List.append_assoc, ← e] at a
    have b := dec_enc (dec1 l).1 (l.drop (encB (dec1 l).1).length) d1
    rw [← e] at b
    rw [a, b]
  rw [D]
/-- Two texts behind one another. -/
theorem join_F (v : Bool) (T : List Int) (hT : NN T) : ∀ (n : Nat) (l : List Int), l.length ≤ n → NN l → (readF v l).2.2 = 0 → (∀ m, l ≠ m ++ [13]) →
    readF v (l ++ T) = ((readF v l).1 ++ (readF v T).1, l.length + (readF v T).2.1, (readF v T).2.2)
  | 0, l, h, _, _, _ => by
    have : l = [] := List.eq_nil_of_length_eq_zero (by omega)
    subst this
    simp [readF_nil]
  | n + 1, l, h, hn, h0, h13 => by
    by_cases hl : l = []
    · subst hl; simp [readF_nil]
    have hs : (stepF v l).1 = 0 := by
      by_cases hs : (stepF v l).1 = 0
      · exact hs
      · rw [readF_err v l hl hs] at h0; exact absurd h0 hs
    have hb := step_bd v l hl hn hs
    have ha := step_app v l T hl hn (fun e => h13 [] (by simpa using e)) hs
    have hnT : NN (l ++ T) := fun x hx => by
      rcases List.mem_append.1 hx with hx | hx
      · exact hn x hx
      · exact hT x hx
    have hlT : l ++ T ≠ [] := fun e => hl (List.append_eq_nil_iff.1 e).1
    rw [readF_ok v l hl hn hs] at h0
    have ih := join_F v T hT n (l.drop (stepF v l).2.2) (by rw [List.length_drop]; omega) (hn.drop _) h0 (fun m e => h13 (l.take (stepF v l).2.2 ++ m) (by
      rw [List.append_assoc, ← e, List.take_append_drop]))
    rw [readF_ok v (l ++ T) hlT hnT (by rw [ha]; exact hs), ha, List.drop_append_of_le_length hb.2, ih, readF_ok v l hl hn hs]
    rw [List.length_drop]
    simp only [List.append_assoc, Prod.mk.injEq, true_and, and_true]
    omega
end Go.Proofs.YtaoklhalkfcpfaaGreatDoor

/- Walks: what char's classes return (between, Blank, Char, Start, Part), whatever the world. -/
set_option linter.unusedSimpArgs false
set_option linter.unusedVariables false
namespace Go.Proofs.YtaoklhalkfcpfaaGreatDoor
open Go.RowKit

theorem cret_bool {a b : Bool} (h : a = b) : Ending.returned (.bool a) = .returned (.bool b) := by rw [h]
theorem cbt {p : Prop} [Decidable p] (h : p) : true = decide p := (decide_eq_true h).symm
theorem cbf {p : Prop} [Decidable p] (h : ¬ p) : false = decide p := (decide_eq_false h).symm

set_option maxHeartbeats 400000 in
theorem between_any (r a b : Int) (w : World) : Calls Tryz.prog 69 #[.int .i32 r, .int .i32 a, .int .i32 b] w fun e w' => e = .returned (.bool (decide (Btw r a b))) ∧ w = w' := by
  go_enter Tryz.func69, Tryz.ntmps69
  go_wp2
  all_goals
    go_ret
    refine ⟨cret_bool ?_, rfl⟩
    first
      | refine cbt ?_
      | refine cbf ?_
      | (refine Bool.eq_iff_iff.2 ?_; simp only [decide_eq_true_eq, Bool.or_eq_true, beq_iff_eq])
    simp only [Part, Start, Chr, Blank, Btw] at *
    first
      | omega
      | (constructor <;> intro hq <;> omega)

set_option maxHeartbeats 400000 in
set_option maxRecDepth 100000 in
theorem blank_any (r : Int) (w : World) : Calls Tryz.prog 103 #[.int .i32 r] w fun e w' => e = .returned (.bool (decide (Blank r))) ∧ w = w' := by
  go_enter Tryz.func103, Tryz.ntmps103
  go_wp2
  all_goals
    go_ret
    refine ⟨cret_bool ?_, rfl⟩
    first
      | refine cbt ?_
      | refine cbf ?_
      | (refine Bool.eq_iff_iff.2 ?_; simp only [decide_eq_true_eq, Bool.or_eq_true, beq_iff_eq])
    simp only [Part, Start, Chr, Blank, Btw] at *
    first
      | omega
      | (constructor <;> intro hq <;> omega)

set_option maxHeartbeats 1000000 in
set_option maxRecDepth 100000 in
theorem chr_any (r : Int) (w : World) : Calls Tryz.prog 98 #[.int .i32 r] w fun e w' => e = .returned (.bool (decide (Chr r))) ∧ w = w' := by
  go_enter Tryz.func98, Tryz.ntmps98
  go_wp2_with (first | (go_at_call 103; refine (blank_any _ _).mono ?_; rintro e w' ⟨rfl, rfl⟩) | (go_at_call 69; refine (between_any _ _ _ _).mono ?_; rintro e w' ⟨rfl, rfl⟩))
  all_goals
    go_ret
    refine ⟨cret_bool ?_, rfl⟩
    first
      | refine cbt ?_
      | refine cbf ?_
      | (refine Bool.eq_iff_iff.2 ?_; simp only [decide_eq_true_eq, Bool.or_eq_true, beq_iff_eq])
    simp only [Part, Start, Chr, Blank, Btw] at *
    first
      | omega
      | (constructor <;> intro hq <;> omega)

end Go.Proofs.YtaoklhalkfcpfaaGreatDoor

/- Walks: what char's classes return (between, Start, Part), whatever the world. -/
set_option linter.unusedSimpArgs false
set_option linter.unusedVariables false
namespace Go.Proofs.YtaoklhalkfcpfaaGreatDoor.Nz
open Go.RowKit

theorem ret_bool {a b : Bool} (h : a = b) : Ending.returned (.bool a) = .returned (.bool b) := by rw [h]
theorem bt {p : Prop} [Decidable p] (h : p) : true = decide p := (decide_eq_true h).symm
theorem bf {p : Prop} [Decidable p] (h : ¬ p) : false = decide p := (decide_eq_false h).symm

set_option maxHeartbeats 400000 in
theorem between_any (r a b : Int) (w : World) : Calls Tryz.prog 69 #[.int .i32 r, .int .i32 a, .int .i32 b] w fun e w' => e = .returned (.bool (decide (Btw r a b))) ∧ w = w' := by
  go_enter Tryz.func69, Tryz.ntmps69
  go_wp2
  all_goals
    go_ret
    refine ⟨ret_bool ?_, rfl⟩
    first
      | refine bt ?_
      | refine bf ?_
      | (refine Bool.eq_iff_iff.2 ?_; simp only [decide_eq_true_eq, Bool.or_eq_true, beq_iff_eq])
    simp only [Part, Start, Chr, Blank, Btw] at *
    first
      | omega
      | (constructor <;> intro hq <;> omega)

set_option maxHeartbeats 4000000 in
set_option maxRecDepth 100000 in
theorem start_any (r : Int) (w : World) : Calls Tryz.prog 68 #[.int .i32 r] w fun e w' => e = .returned (.bool (decide (Start r))) ∧ w = w' := by
  go_enter Tryz.func68, Tryz.ntmps68
  go_wp2_with (first | (go_at_call 69; refine (between_any _ _ _ _).mono ?_; rintro e w' ⟨rfl, rfl⟩))
  all_goals
    go_ret
    refine ⟨ret_bool ?_, rfl⟩
    first
      | refine bt ?_
      | refine bf ?_
      | (refine Bool.eq_iff_iff.2 ?_; simp only [decide_eq_true_eq, Bool.or_eq_true, beq_iff_eq])
    simp only [Part, Start, Chr, Blank, Btw] at *
    first
      | omega
      | (constructor <;> intro hq <;> omega)

set_option maxHeartbeats 4000000 in
set_option maxRecDepth 100000 in
theorem part_any (r : Int) (w : World) : Calls Tryz.prog 54 #[.int .i32 r] w fun e w' => e = .returned (.bool (decide (Part r))) ∧ w = w' := by
  go_enter Tryz.func54, Tryz.ntmps54
  go_wp2_with (first | (go_at_call 68; refine (start_any _ _).mono ?_; rintro e w' ⟨rfl, rfl⟩) | (go_at_call 69; refine (between_any _ _ _ _).mono ?_; rintro e w' ⟨rfl, rfl⟩))
  all_goals
    go_ret
    refine ⟨ret_bool ?_, rfl⟩
    first
      | refine bt ?_
      | refine bf ?_
      | (refine Bool.eq_iff_iff.2 ?_; simp only [decide_eq_true_eq, Bool.or_eq_true, beq_iff_eq])
    simp only [Part, Start, Chr, Blank, Btw] at *
    first
      | omega
      | (constructor <;> intro hq <;> omega)

end Go.Proofs.YtaoklhalkfcpfaaGreatDoor.Nz

/- []rune(s) in memory: a slice that reads as the text's runes. -/
set_option linter.unusedSimpArgs false
set_option linter.unusedVariables false
namespace Go.Proofs.YtaoklhalkfcpfaaGreatDoor.Nz
open Go.RowKit

/-- A text's runes from a place on. -/
def rgo (s : ByteArray) : Nat → Nat → List Int
  | 0, _ => []
  | f + 1, i => if i < s.size then ((Utf8.decode s i).1 : Int) :: rgo s f (i + (Utf8.decode s i).2) else []
def runes (s : ByteArray) : List Int := rgo s s.size 0

theorem width_pos (s : ByteArray) (pos : Nat) (h : pos < s.size) : 1 ≤ (Utf8.decode s pos).2 := by
  by_cases ha : (s[pos]'h).toNat < 128
  · rw [decode_ascii s pos h ha]
    exact Nat.le_refl _
  · exact (decode_high s pos h (by omega)).2
theorem rgo_end (s : ByteArray) (b pos : Nat) (h : ¬ pos < s.size) : rgo s b pos = [] := by
  cases b with
  | zero => rfl
  | succ b => simp [rgo, h]
theorem Blk0 (w : World) (t : TypeId) (cs : Array Value) (i : Nat) : (w.alloc (.cells cs t)).cell? ⟨w.heap.size, i, none⟩ = cs[i]? := World.cell?_alloc_mark w cs t (0, 0) i
theorem runesFrom_eq (s : ByteArray) : ∀ (b i : Nat) (acc : Array Value), Conv.runesFrom s b i acc = acc ++ ((rgo s b i).map (Value.int .i32)).toArray
  | 0, i, acc => by simp [Conv.runesFrom, rgo]
  | b + 1, i, acc => by
    unfold Conv.runesFrom rgo
    by_cases h : i < s.size
    · simp only [h, if_true]
      rw [runesFrom_eq s b]
      simp
    · simp [h]
theorem runesFrom_runes (s : ByteArray) : Conv.runesFrom s s.size 0 #[] = ((runes s).map (Value.int .i32)).toArray := by
  rw [runesFrom_eq]
  simp [runes]
theorem rgo_len (s : ByteArray) : ∀ (b i : Nat), (rgo s b i).length ≤ b
  | 0, i => by simp [rgo]
  | b + 1, i => by
    unfold rgo
    split
    · have := rgo_len s b (i + (Utf8.decode s i).2)
      simp only [List.length_cons]
      omega
    · simp
theorem runes_len (s : ByteArray) : (runes s).length ≤ s.size := rgo_len s s.size 0

/-- What '[]rune(s)' leaves. -/
def ConvPost (w : World) (s : ByteArray) (c : Nat) (w1 : World) : Prop :=
  (convert 9 66 (.string s)).run Tryz.prog w = .ok (.slice (some ⟨w.heap.size, 0, none⟩) (runes s).length c) w1 ∧ Below w.heap.size w w1 ∧ w1.heap.size = w.heap.size + 1 ∧
    ∀ j, j < (runes s).length → w1.cell? ⟨w.heap.size, j, none⟩ = some (.int .i32 ((runes s).getD j 0))
theorem conv_runes (w : World) (s : ByteArray) (hs : s.size ≤ 1000) : ∃ c w1, ConvPost w s c w1 := by
  have hl := runes_len s
  have hrun := run_runes_of_string (P := Tryz.prog) w 9 66 21 s Tryz.underlying9 Tryz.underlying66 Tryz.underlying21 (by rw [runesFrom_runes]; simp; omega)
  rw [runesFrom_runes] at hrun
  have hz : ((runes s).map (Value.int .i32)).toArray.size = (runes s).length := by simp
  rw [hz] at hrun
  refine ⟨_, _, hrun, ((Below.refl _ w).drew).alloc (Nat.le_refl _) _, by simp, fun j hj => ?_⟩
  have hb := Blk0 w.drew 21 (((runes s).map (Value.int .i32)).toArray ++ Array.replicate (grownCap w (runes s).length 0 21 - (runes s).length) (.int .i32 0)) j
  refine hb.trans ?_
  rw [Array.getElem?_append_left (by simpa using hj)]
  simp [List.getElem?_eq_getElem hj]
end Go.Proofs.YtaoklhalkfcpfaaGreatDoor.Nz
