/-
  Plain mathematics: what is escaped is read as it was; texts behind one another.
-/
import Derived.Test.YtkaimohkdkdbmaaDoorRMath
set_option linter.unusedSimpArgs false
set_option linter.unusedVariables false
namespace Go.Proofs.YtkaimohkdkdbmaaDoor

theorem chr_nbad {r : Int} (h : Chr r) : ¬ Bad r := by unfold Chr Btw at h; unfold Bad; omega
/-- May all of a text stand in a text? -/
def Rt (l : List Int) : Prop := (decF l).2.2 = 0 ∧ ∀ r ∈ (decF l).1, Chr r

theorem getD_app (a b : List Int) (h : a ≠ []) : (a ++ b).getD 0 0 = a.getD 0 0 := by
  cases a with
  | nil => exact absurd rfl h
  | cons x y => simp
theorem enc_head (r : Int) (h : ¬ Bad r) (h1 : 128 ≤ r) : 128 ≤ (encB r).getD 0 0 ∧ ∀ x ∈ encB r, 128 ≤ x := by
  unfold Bad at h
  by_cases h2 : r < 2048
  · rw [enc2 h1 h2]
    refine ⟨by simp; omega, fun x hx => ?_⟩
    simp at hx
    omega
  by_cases h3 : r < 65536
  · rw [enc3 (by omega) h3]
    refine ⟨by simp; omega, fun x hx => ?_⟩
    simp at hx
    omega
  · rw [enc4 (by omega)]
    refine ⟨by simp; omega, fun x hx => ?_⟩
    simp at hx
    omega
/-- A rune that stands for itself. -/
theorem step_self (v : Bool) (r : Int) (T : List Int) (hc : Chr r) (h1 : r ≠ 38) (h2 : r ≠ 13) (h3 : v = true → r ≠ 9 ∧ r ≠ 10) : stepF v (encB r ++ T) = (0, encB r, (encB r).length) := by
  have hb := chr_nbad hc
  have hd : (encB r ++ T).getD 0 0 = (encB r).getD 0 0 := getD_app _ _ (encB_ne r)
  have D := dec_enc r T hb
  have g38 : (encB r).getD 0 0 ≠ 38 := by
    by_cases h : r < 128
    · rw [enc1 h]; simpa using h1
    · have := (enc_head r hb (by omega)).1; omega
  have g13 : (encB r).getD 0 0 ≠ 13 := by
    by_cases h : r < 128
    · rw [enc1 h]; simpa using h2
    · have := (enc_head r hb (by omega)).1; omega
  unfold stepF
  rw [hd, if_neg g38, if_neg g13]
  by_cases h4 : (encB r).getD 0 0 = 9 ∨ (encB r).getD 0 0 = 10
  · rw [if_pos h4]
    have hr : r < 128 := by
      by_cases h : r < 128
      · exact h
      · have := (enc_head r hb (by omega)).1; omega
    rw [enc1 hr] at h4 ⊢
    simp only [List.getD_cons_zero] at h4 ⊢
    have hv : v = false := by
      cases v with
      | false => rfl
      | true => have := h3 rfl; omega
    subst hv
    rfl
  · rw [if_neg h4, D]
    simp [hc]
theorem refV_amp : refV [97, 109, 112] = 38 := by decide
theorem refV_lt : refV [108, 116] = 60 := by decide
theorem refV_gt : refV [103, 116] = 62 := by decide
theorem refV_cr : refV [35, 120, 68] = 13 := by decide
theorem refV_quot : refV [113, 117, 111, 116] = 34 := by decide
theorem refV_tab : refV [35, 120, 57] = 9 := by decide
theorem refV_lf : refV [35, 120, 65] = 10 := by decide
theorem body_app (a T : List Int) (h : 59 ∉ a) : bodyOf (a ++ 59 :: T) = a := by
  unfold bodyOf
  induction a with
  | nil => simp
  | cons x a ih =>
    rw [List.cons_append, List.takeWhile_cons, if_pos (by simp only [decide_eq_true_eq]; intro e; exact h (by simp [e]))]
    rw [ih (fun hh => h (by simp [hh]))]
/-- A reference. -/
theorem step_ref (v : Bool) (a T : List Int) (r : Int) (h : 59 ∉ a) (hr : refV a = r) (h0 : 0 ≤ r) : stepF v (38 :: (a ++ 59 :: T)) = (0, encB r, a.length + 2) := by
  unfold stepF
  rw [if_pos (by simp), List.tail_cons, body_app a T h, hr, if_pos ⟨by simp, h0⟩]
theorem esc_of_enc (v : Bool) (r : Int) (hb : ¬ Bad r) (h : 128 ≤ r) : escF v (encB r) = encB r := by
  have hx := (enc_head r hb h).2
  unfold escF
  have : ∀ (l : List Int), (∀ x ∈ l, 128 ≤ x) → l.flatMap (escB v) = l := by
    intro l
    induction l with
    | nil => intro _; rfl
    | cons x l ih =>
      intro hl
      have h1 := hl x (by simp)
      rw [List.flatMap_cons, ih (fun y hy => hl y (by simp [hy]))]
      unfold escB
      rw [if_neg (by omega), if_neg (by omega), if_neg (by omega), if_neg (by omega), if_neg (by omega), if_neg (by omega), if_neg (by omega)]
      rfl
  exact this _ hx
theorem step_esc (v : Bool) (r : Int) (T : List Int) (hc : Chr r) : stepF v (escF v (encB r) ++ T) = (0, encB r, (escF v (encB r)).length) := by
  have hb := chr_nbad hc
  by_cases h : r < 128
  · rw [enc1 h]
    have e : escF v [r] = escB v r := by simp [escF]
    rw [e, ← enc1 h]
    unfold escB
    by_cases a1 : r = 38
    · subst a1; simp only [if_pos]; exact step_ref v [97, 109, 112] T 38 (by decide) refV_amp (by decide)
    by_cases a2 : r = 60
    · subst a2; exact step_ref v [108, 116] T 60 (by decide) refV_lt (by decide)
    by_cases a3 : r = 62
    · subst a3; exact step_ref v [103, 116] T 62 (by decide) refV_gt (by decide)
    by_cases a4 : r = 13
    · subst a4; exact step_ref v [35, 120, 68] T 13 (by decide) refV_cr (by decide)
    rw [if_neg a1, if_neg a2, if_neg a3, if_neg a4]
    cases v with
    | false =>
      rw [if_neg (by simp), if_neg (by simp), if_neg (by simp)]
      have := step_self false r T hc a1 a4 (by simp)
      rw [enc1 h] at this ⊢
      exact this
    | true =>
      by_cases a5 : r = 34
      · subst a5; exact step_ref true [113, 117, 111, 116] T 34 (by decide) refV_quot (by decide)
      by_cases a6 : r = 9
      · subst a6; exact step_ref true [35, 120, 57] T 9 (by decide) refV_tab (by decide)
      by_cases a7 : r = 10
      · subst a7; exact step_ref true [35, 120, 65] T 10 (by decide) refV_lf (by decide)
      rw [if_neg (by simp [a5]), if_neg (by simp [a6]), if_neg (by simp [a7])]
      have := step_self true r T hc a1 a4 (fun _ => ⟨a6, a7⟩)
      rw [enc1 h] at this ⊢
      exact this
  · rw [esc_of_enc v r hb (by omega)]
    exact step_self v r T hc (by omega) (by omega) (fun _ => by omega)

/-- Runes, each of them spelled so that it is read: all is read. -/
theorem read_runes (v : Bool) (f : Int → List Int) : ∀ (l : List Int), (∀ r ∈ l, f r ≠ [] ∧ NN (f r) ∧ ∀ T, stepF v (f r ++ T) = (0, encB r, (f r).length)) →
    NN (l.flatMap f) ∧ readF v (l.flatMap f) = (l.flatMap encB, (l.flatMap f).length, 0)
  | [], _ => ⟨fun x hx => by simp at hx, rfl⟩
  | r :: l, h => by
    obtain ⟨h1, h2, h3⟩ := h r (by simp)
    obtain ⟨i1, i2⟩ := read_runes v f l fun x hx => h x (by simp [hx])
    have hnn : NN (f r ++ l.flatMap f) := fun x hx => by
      rcases List.mem_append.1 hx with hx | hx
      · exact h2 x hx
      · exact i1 x hx
    have hne : f r ++ l.flatMap f ≠ [] := by
      intro e
      exact h1 (List.append_eq_nil_iff.1 e).1
    rw [List.flatMap_cons]
    refine ⟨hnn, ?_⟩
    have hs := h3 (l.flatMap f)
    rw [readF_ok v _ hne hnn (by rw [hs]), hs]
    simp only [List.drop_left]
    rw [i2]
    simp

theorem rt_runes {l : List Int} (hn : NN l) (h : Rt l) : l = (decF l).1.flatMap encB ∧ ∀ r ∈ (decF l).1, Chr r := by
  obtain ⟨hg, hp, _, h4, _⟩ := decF_back l.length l (Nat.le_refl _) hn
  rw [h4 h.1, List.take_length] at hp
  refine ⟨?_, h.2⟩
  conv => lhs; rw [← hp]
  have : ∀ (m : List Int), Good m → m.flatMap putI = m.flatMap encB := by
    intro m
    induction m with
    | nil => intro _; rfl
    | cons x m ih =>
      intro hm
      rw [List.flatMap_cons, List.flatMap_cons, putI_ok (hm x (by simp)), ih fun y hy => hm y (by simp [hy])]
  exact this _ hg
theorem esc_nn (v : Bool) (l : List Int) (h : NN l) : NN (escF v l) := by
  intro x hx
  unfold escF at hx
  obtain ⟨b, hb, hx⟩ := List.mem_flatMap.1 hx
  have := h b hb
  unfold escB at hx
  repeat' split at hx
  all_goals simp at hx; omega
theorem esc_ne (v : Bool) (r : Int) : escF v (encB r) ≠ [] := by
  intro e
  unfold escF at e
  have hl := (encB_len r).1
  cases hh : encB r with
  | nil => rw [hh] at hl; simp at hl
  | cons x y =>
    rw [hh, List.flatMap_cons] at e
    have := (List.append_eq_nil_iff.1 e).1
    unfold escB at this
    repeat' split at this
    all_goals simp at this
/-- P4.2: what is escaped is read as it was. -/
theorem back_F (v : Bool) (l : List Int) (hn : NN l) (h : Rt l) : readF v (escF v l) = (l, (escF v l).length, 0) := by
  obtain ⟨e, hc⟩ := rt_runes hn h
  have R := (read_runes v (fun r => escF v (encB r)) (decF l).1 fun r hr => ⟨esc_ne v r, esc_nn v _ (encB_nn r (chr_nbad (hc r hr))).1, fun T => step_esc v r T (hc r hr)⟩).2
  have e2 : (decF l).1.flatMap (fun r => escF v (encB r)) = escF v l := by
    conv => rhs; rw [e]
    unfold escF
    rw [List.flatMap_assoc]
  rw [e2, ← e] at R
  exact R
/-- P4.2: without & and d a text is read as it is. -/
theorem self_F (v : Bool) (l : List Int) (hn : NN l) (h : Rt l) (h1 : 38 ∉ l) (h2 : 13 ∉ l) (h3 : v = true → 9 ∉ l ∧ 10 ∉ l) : readF v l = (l, l.length, 0) := by
  obtain ⟨e, hc⟩ := rt_runes hn h
  have M : ∀ r ∈ (decF l).1, r < 128 → r ∈ l := fun r hr hlt => by
    rw [e]
    exact List.mem_flatMap.2 ⟨r, hr, by rw [enc1 hlt]; simp⟩
  have R := (read_runes v encB (decF l).1 fun r hr => ⟨encB_ne r, (encB_nn r (chr_nbad (hc r hr))).1, fun T => step_self v r T (hc r hr)
    (fun h => h1 (h ▸ M r hr (by omega))) (fun h => h2 (h ▸ M r hr (by omega)))
    (fun hv => ⟨fun h => (h3 hv).1 (h ▸ M r hr (by omega)), fun h => (h3 hv).2 (h ▸ M r hr (by omega))⟩)⟩).2
  rw [← e] at R
  exact R

theorem mem_body (a T : List Int) (h : 59 ∈ a) : bodyOf (a ++ T) = bodyOf a := by
  unfold bodyOf
  induction a with
  | nil => simp at h
  | cons x a ih =>
    rw [List.cons_append, List.takeWhile_cons, List.takeWhile_cons]
    by_cases hx : x = 59
    · subst hx; simp
    · rw [if_pos (by simpa using hx), if_pos (by simpa using hx), ih (by
        rcases List.mem_cons.1 h with h | h
        · exact absurd h.symm hx
        · exact h)]
/-- A thing that is read hangs on its own bytes alone, unless it is d at the end. -/
theorem step_app (v : Bool) (l T : List Int) (hl : l ≠ []) (hn : NN l) (h13 : l ≠ [13]) (h : (stepF v l).1 = 0) : stepF v (l ++ T) = stepF v l := by
  have hd := getD_app l T hl
  have ht : (l ++ T).tail = l.tail ++ T := by
    cases l with
    | nil => exact absurd rfl hl
    | cons x y => simp
  unfold stepF at h ⊢
  rw [hd, ht]
  by_cases h1 : l.getD 0 0 = 38
  · rw [if_pos h1] at h
    rw [if_pos h1, if_pos h1]
    by_cases h2 : 59 ∈ l.tail ∧ 0 ≤ refV (bodyOf l.tail)
    · rw [if_pos h2, mem_body _ T h2.1, if_pos ⟨List.mem_append.2 (.inl h2.1), h2.2⟩]
    · rw [if_neg h2] at h; simp at h
  rw [if_neg h1] at h
  rw [if_neg h1, if_neg h1]
  by_cases h2 : l.getD 0 0 = 13
  · rw [if_pos h2, if_pos h2]
    have : (l ++ T).getD 1 0 = l.getD 1 0 := by
      match l, h2, h13 with
      | [x], h2, h13 => simp at h2; subst h2; exact absurd rfl h13
      | x :: y :: z, _, _ => simp
      | [], h2, _ => simp at h2
    rw [this]
  rw [if_neg h2] at h
  rw [if_neg h2, if_neg h2]
  by_cases h3 : l.getD 0 0 = 9 ∨ l.getD 0 0 = 10
  · rw [if_pos h3, if_pos h3]
  rw [if_neg h3] at h
  rw [if_neg h3, if_neg h3]
  have hz : (dec1 l).2.2 = 0 := by
    by_cases h4 : (dec1 l).2.2 = 0
    · exact h4
    · rw [if_pos h4] at h; exact absurd h h4
  obtain ⟨d1, d2, d3, d4⟩ := dec_inv l hl hn.getD hz
  have D : dec1 (l ++ T) = dec1 l := by
    have e : l = encB (dec1 l).1 ++ l.drop (encB (dec1 l).1).length := by
      conv => lhs; rw [← List.take_append_drop (encB (dec1 l).1).length l, d3]
    have a := dec_enc (dec1 l).1 (l.drop (encB (dec1 l).1).length ++ T) d1
    rw [← List.append_assoc, ← e] at a
    have b := dec_enc (dec1 l).1 (l.drop (encB (dec1 l).1).length) d1
    rw [← e] at b
    rw [a, b]
  rw [D]
/-- Two texts behind one another. -/
theorem join_F (v : Bool) (T : List Int) (hT : NN T) : ∀ (n : Nat) (l : List Int), l.length ≤ n → NN l → (readF v l).2.2 = 0 → (∀ m, l ≠ m ++ [13]) →
    readF v (l ++ T) = ((readF v l).1 ++ (readF v T).1, l.length + (readF v T).2.1, (readF v T).2.2)
  | 0, l, h, _, _, _ => by
    have : l = [] := List.eq_nil_of_length_eq_zero (by omega)
    subst this
    simp [readF_nil]
  | n + 1, l, h, hn, h0, h13 => by
    by_cases hl : l = []
    · subst hl; simp [readF_nil]
    have hs : (stepF v l).1 = 0 := by
      by_cases hs : (stepF v l).1 = 0
      · exact hs
      · rw [readF_err v l hl hs] at h0; exact absurd h0 hs
    have hb := step_bd v l hl hn hs
    have ha := step_app v l T hl hn (fun e => h13 [] (by simpa using e)) hs
    have hnT : NN (l ++ T) := fun x hx => by
      rcases List.mem_append.1 hx with hx | hx
      · exact hn x hx
      · exact hT x hx
    have hlT : l ++ T ≠ [] := fun e => hl (List.append_eq_nil_iff.1 e).1
    rw [readF_ok v l hl hn hs] at h0
    have ih := join_F v T hT n (l.drop (stepF v l).2.2) (by rw [List.length_drop]; omega) (hn.drop _) h0 (fun m e => h13 (l.take (stepF v l).2.2 ++ m) (by
      rw [List.append_assoc, ← e, List.take_append_drop]))
    rw [readF_ok v (l ++ T) hlT hnT (by rw [ha]; exact hs), ha, List.drop_append_of_le_length hb.2, ih, readF_ok v l hl hn hs]
    rw [List.length_drop]
    simp only [List.append_assoc, Prod.mk.injEq, true_and, and_true]
    omega
end Go.Proofs.YtkaimohkdkdbmaaDoor
