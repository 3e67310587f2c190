/-
  Plain mathematics: plain names, the stretch of a name, the first colon, over a text's bytes as a list.
-/
import Derived.Test.YtepmleieekpdiaaRune
import Derived.Lib.Bytealg
set_option linter.unusedSimpArgs false
set_option linter.unusedVariables false
namespace Go.Proofs.Ytepmleieekpdiaa
open Go.RowKit

/-- May the rune stand in a stretch: in a name, or as a colon. -/
def Ok (r : Int) : Prop := r = 58 ∨ Part r
instance (r : Int) : Decidable (Ok r) := inferInstanceAs (Decidable (r = 58 ∨ Part r))

/-- A plain name, of its runes. -/
def plR : List Int → Bool
  | [] => false
  | x :: l => decide (Start x) && (x :: l).all (fun r => decide (Part r))
def pl (L : List Nat) : Bool := plR (Rn L)

/-- How many bytes the stretch has that stands first. -/
def sp : Nat → List Nat → Nat
  | 0, _ => 0
  | f + 1, L => if L = [] then 0 else if Ok ((dN L).1 : Int) then (dN L).2 + sp f (L.drop (dN L).2) else 0
def St (L : List Nat) : Nat := sp L.length L

theorem sp_nil (f : Nat) : sp f [] = 0 := by cases f <;> simp [sp]
theorem sp_fuel : ∀ (f g : Nat) (L : List Nat), L.length ≤ f → L.length ≤ g → sp f L = sp g L
  | 0, g, L, h1, h2 => by
    have : L = [] := List.eq_nil_of_length_eq_zero (by omega)
    subst this
    rw [sp_nil, sp_nil]
  | f + 1, 0, L, h1, h2 => by
    have : L = [] := List.eq_nil_of_length_eq_zero (by omega)
    subst this
    rw [sp_nil, sp_nil]
  | f + 1, g + 1, L, h1, h2 => by
    by_cases h : L = []
    · subst h; rw [sp_nil, sp_nil]
    · have hw := dN_width L h
      simp only [sp, h, if_false]
      rw [sp_fuel f g (L.drop (dN L).2) (by simp; omega) (by simp; omega)]
theorem St_nil : St [] = 0 := rfl
theorem St_cons (L : List Nat) (h : L ≠ []) : St L = if Ok ((dN L).1 : Int) then (dN L).2 + St (L.drop (dN L).2) else 0 := by
  have hl : 1 ≤ L.length := List.length_pos_iff.2 h
  have hw := dN_width L h
  unfold St
  obtain ⟨f, hf⟩ : ∃ f, L.length = f + 1 := ⟨L.length - 1, by omega⟩
  rw [hf]
  simp only [sp, h, if_false]
  rw [sp_fuel f (L.drop (dN L).2).length (L.drop (dN L).2) (by simp; omega) (Nat.le_refl _)]
theorem St_le : ∀ (n : Nat) (L : List Nat), L.length ≤ n → St L ≤ L.length
  | n, L, hn => by
    by_cases h : L = []
    · subst h; rw [St_nil]; exact Nat.zero_le _
    · have hl : 1 ≤ L.length := List.length_pos_iff.2 h
      have hw := dN_width L h
      match n with
      | 0 => omega
      | n + 1 =>
        rw [St_cons L h]
        split
        · have := St_le n (L.drop (dN L).2) (by simp; omega)
          simp at this
          omega
        · omega

set_option maxHeartbeats 1000000 in
set_option maxRecDepth 100000 in
/-- A byte below 80 ends what stands ahead of it. -/
theorem dN_asc (A B : List Nat) (c : Nat) (hc : c < 128) (h : A ≠ []) : dN (A ++ c :: B) = dN A := by
  match A, h with
  | [a], _ =>
    simp only [dN, Lib.decodeN, List.cons_append, List.nil_append, List.getD_cons_zero, List.getD_cons_succ, List.length_cons, List.length_nil, List.getD_nil]
    repeat' split
    all_goals first | (exfalso; omega) | rfl
  | [a, b], _ =>
    simp only [dN, Lib.decodeN, List.cons_append, List.nil_append, List.getD_cons_zero, List.getD_cons_succ, List.length_cons, List.length_nil, List.getD_nil]
    repeat' split
    all_goals first | (exfalso; omega) | rfl
  | [a, b, d], _ =>
    simp only [dN, Lib.decodeN, List.cons_append, List.nil_append, List.getD_cons_zero, List.getD_cons_succ, List.length_cons, List.length_nil, List.getD_nil]
    repeat' split
    all_goals first | (exfalso; omega) | rfl
  | a :: b :: d :: e :: A', _ =>
    simp only [dN, Lib.decodeN, List.cons_append, List.nil_append, List.getD_cons_zero, List.getD_cons_succ, List.length_cons, List.length_append]
    repeat' split
    all_goals first | (exfalso; omega) | rfl
theorem dN_asc0 (B : List Nat) (c : Nat) (hc : c < 128) : dN (c :: B) = (c, 1) := by simp [dN, Lib.decodeN, hc]
theorem Rn_asc : ∀ (n : Nat) (A B : List Nat) (c : Nat), c < 128 → A.length ≤ n → Rn (A ++ c :: B) = Rn A ++ (c : Int) :: Rn B
  | n, A, B, c, hc, hn => by
    by_cases h : A = []
    · subst h
      rw [List.nil_append, Rn_nil, List.nil_append, Rn_cons _ (by simp), dN_asc0 B c hc]
      rfl
    · have hl : 1 ≤ A.length := List.length_pos_iff.2 h
      have hw := dN_width A h
      match n with
      | 0 => omega
      | n + 1 =>
        rw [Rn_cons (A ++ c :: B) (by simp), dN_asc A B c hc h, Rn_cons A h, List.drop_append_of_le_length hw.2, Rn_asc n (A.drop (dN A).2) B c hc (by simp; omega)]
        rfl
theorem part58 : ¬ Part 58 := by decide
/-- No plain name holds a colon. -/
theorem pl_colon (A B : List Nat) : pl (A ++ 58 :: B) = false := by
  unfold pl
  rw [Rn_asc _ A B 58 (by omega) (Nat.le_refl _)]
  have key : (Rn A ++ (58 : Int) :: Rn B).all (fun r => decide (Part r)) = false := by
    rw [List.all_append, List.all_cons, decide_eq_false part58]
    simp
  have h58 : ((58 : Nat) : Int) = 58 := rfl
  rw [h58]
  cases hR : Rn A ++ (58 : Int) :: Rn B with
  | nil => rfl
  | cons x l =>
    rw [hR] at key
    simp only [plR, key, Bool.and_false]
theorem pl_mem (L : List Nat) (h : 58 ∈ L) : pl L = false := by
  obtain ⟨A, B, rfl⟩ := List.append_of_mem h
  exact pl_colon A B
theorem pl_nil : pl [] = false := rfl
theorem pl_ok {L : List Nat} (h : pl L = true) : ∀ x ∈ Rn L, Part x := by
  unfold pl at h
  intro x hx
  cases hR : Rn L with
  | nil => rw [hR] at hx; simp at hx
  | cons y l =>
    rw [hR] at h hx
    simp only [plR, Bool.and_eq_true, List.all_eq_true, decide_eq_true_eq] at h
    exact h.2 x hx

/-- A stretch, all of whose runes may stand in one, ahead of a byte below 80 that may not. -/
theorem St_full : ∀ (n : Nat) (A B : List Nat) (c : Nat), c < 128 → ¬ Ok (c : Int) → A.length ≤ n → (∀ x ∈ Rn A, Ok x) → St (A ++ c :: B) = A.length
  | n, A, B, c, hc, hok, hn, hA => by
    by_cases h : A = []
    · subst h
      rw [List.nil_append, St_cons _ (by simp), dN_asc0 B c hc, if_neg hok]
      rfl
    · have hl : 1 ≤ A.length := List.length_pos_iff.2 h
      have hw := dN_width A h
      match n with
      | 0 => omega
      | n + 1 =>
        have hR := Rn_cons A h
        rw [St_cons (A ++ c :: B) (by simp), dN_asc A B c hc h, if_pos (hA _ (by rw [hR]; simp)), List.drop_append_of_le_length hw.2,
          St_full n (A.drop (dN A).2) B c hc hok (by simp; omega) (fun x hx => hA x (by rw [hR]; simp [hx]))]
        simp
        omega

set_option maxHeartbeats 2000000 in
set_option maxRecDepth 100000 in
theorem decN_less (n m b0 b1 b2 b3 c1 c2 c3 : Nat) (e1 : 1 < n → c1 = b1) (e2 : 2 < n → c2 = b2) (e3 : 3 < n → c3 = b3) (hn : 1 ≤ n) (hm : n ≤ m) (hw : (Lib.decodeN m b0 b1 b2 b3).2 ≤ n) :
    Lib.decodeN n b0 c1 c2 c3 = Lib.decodeN m b0 b1 b2 b3 := by
  unfold Lib.decodeN at hw ⊢
  by_cases h0 : b0 < 128
  · rw [if_pos h0, if_pos h0]
  · rw [if_neg h0] at hw
    rw [if_neg h0, if_neg h0]
    by_cases h1 : b0 / 32 = 6 ∧ (1 < m ∧ b1 / 64 = 2)
    · rw [if_pos h1] at hw
      rw [if_pos h1]
      by_cases g1 : 1 < n
      · rw [e1 g1, if_pos ⟨h1.1, g1, h1.2.2⟩]
      · have hv : ¬ b0 % 32 * 64 + b1 % 64 ≥ 128 := by
          intro hv
          rw [if_pos hv] at hw
          exact g1 hw
        rw [if_neg hv, if_neg (fun h => g1 h.2.1), if_neg (fun h => g1 h.2.1.1), if_neg (fun h => g1 h.2.1.1)]
    · rw [if_neg h1] at hw
      have k1 : ¬ (b0 / 32 = 6 ∧ (1 < n ∧ c1 / 64 = 2)) := fun h => h1 ⟨h.1, by omega, by rw [← e1 h.2.1]; exact h.2.2⟩
      rw [if_neg h1, if_neg k1]
      by_cases h2 : b0 / 16 = 14 ∧ (1 < m ∧ b1 / 64 = 2) ∧ (2 < m ∧ b2 / 64 = 2)
      · rw [if_pos h2] at hw
        rw [if_pos h2]
        by_cases g2 : 2 < n
        · rw [e1 (by omega), e2 g2, if_pos ⟨h2.1, ⟨by omega, h2.2.1.2⟩, g2, h2.2.2.2⟩]
        · by_cases hv : b0 % 16 * 4096 + b1 % 64 * 64 + b2 % 64 ≥ 2048 ∧ (b0 % 16 * 4096 + b1 % 64 * 64 + b2 % 64 < 55296 ∨ (57344 ≤ b0 % 16 * 4096 + b1 % 64 * 64 + b2 % 64 ∧ b0 % 16 * 4096 + b1 % 64 * 64 + b2 % 64 ≤ 1114111))
          · rw [if_pos hv] at hw
            exact absurd hw g2
          · rw [if_neg hv, if_neg (fun h => g2 h.2.2.1), if_neg (fun h => g2 h.2.2.1.1)]
      · rw [if_neg h2] at hw
        have k2 : ¬ (b0 / 16 = 14 ∧ (1 < n ∧ c1 / 64 = 2) ∧ (2 < n ∧ c2 / 64 = 2)) := fun h => h2 ⟨h.1, ⟨by omega, by rw [← e1 h.2.1.1]; exact h.2.1.2⟩, by omega, by rw [← e2 h.2.2.1]; exact h.2.2.2⟩
        rw [if_neg h2, if_neg k2]
        by_cases h3 : b0 / 8 = 30 ∧ (1 < m ∧ b1 / 64 = 2) ∧ (2 < m ∧ b2 / 64 = 2) ∧ (3 < m ∧ b3 / 64 = 2)
        · rw [if_pos h3] at hw
          rw [if_pos h3]
          by_cases g3 : 3 < n
          · rw [e1 (by omega), e2 (by omega), e3 g3, if_pos ⟨h3.1, ⟨by omega, h3.2.1.2⟩, ⟨by omega, h3.2.2.1.2⟩, g3, h3.2.2.2.2⟩]
          · by_cases hv : b0 % 8 * 262144 + b1 % 64 * 4096 + b2 % 64 * 64 + b3 % 64 ≥ 65536 ∧ (b0 % 8 * 262144 + b1 % 64 * 4096 + b2 % 64 * 64 + b3 % 64 < 55296 ∨ (57344 ≤ b0 % 8 * 262144 + b1 % 64 * 4096 + b2 % 64 * 64 + b3 % 64 ∧ b0 % 8 * 262144 + b1 % 64 * 4096 + b2 % 64 * 64 + b3 % 64 ≤ 1114111))
            · rw [if_pos hv] at hw
              exact absurd hw g3
            · rw [if_neg hv, if_neg (fun h => g3 h.2.2.2.1)]
        · have k3 : ¬ (b0 / 8 = 30 ∧ (1 < n ∧ c1 / 64 = 2) ∧ (2 < n ∧ c2 / 64 = 2) ∧ (3 < n ∧ c3 / 64 = 2)) := fun h =>
            h3 ⟨h.1, ⟨by omega, by rw [← e1 h.2.1.1]; exact h.2.1.2⟩, ⟨by omega, by rw [← e2 h.2.2.1.1]; exact h.2.2.1.2⟩, by omega, by rw [← e3 h.2.2.2.1]; exact h.2.2.2.2⟩
          rw [if_neg h3, if_neg k3]
theorem getD_app (A T : List Nat) (i : Nat) (h : i < A.length) : A.getD i 0 = (A ++ T).getD i 0 := by
  rw [List.getD_eq_getElem?_getD, List.getD_eq_getElem?_getD, List.getElem?_append_left h]
/-- What is decoded hangs on its own bytes alone. -/
theorem dN_app (A T : List Nat) (h : A ≠ []) (hw : (dN (A ++ T)).2 ≤ A.length) : dN A = dN (A ++ T) := by
  have hl : 1 ≤ A.length := List.length_pos_iff.2 h
  unfold dN at *
  rw [getD_app A T 0 hl]
  exact decN_less _ _ _ _ _ _ _ _ _ (fun h => getD_app A T 1 h) (fun h => getD_app A T 2 h) (fun h => getD_app A T 3 h) hl (by simp) hw

/-- Behind a stretch, none begins. -/
theorem St_rest : ∀ (n : Nat) (L : List Nat), L.length ≤ n → St (L.drop (St L)) = 0
  | n, L, hn => by
    by_cases h : L = []
    · subst h; rfl
    · have hl : 1 ≤ L.length := List.length_pos_iff.2 h
      have hw := dN_width L h
      match n with
      | 0 => omega
      | n + 1 =>
        have hc := St_cons L h
        by_cases hk : Ok ((dN L).1 : Int)
        · rw [if_pos hk] at hc
          rw [hc, ← List.drop_drop]
          exact St_rest n (L.drop (dN L).2) (by simp; omega)
        · rw [if_neg hk] at hc
          rw [hc, List.drop_zero, hc]
/-- A stretch alone is a stretch. -/
theorem St_self : ∀ (n : Nat) (L : List Nat), L.length ≤ n → St (L.take (St L)) = St L
  | n, L, hn => by
    by_cases h : L = []
    · subst h; rfl
    · have hl : 1 ≤ L.length := List.length_pos_iff.2 h
      have hw := dN_width L h
      match n with
      | 0 => omega
      | n + 1 =>
        have hc := St_cons L h
        by_cases hk : Ok ((dN L).1 : Int)
        · rw [if_pos hk] at hc
          have hle := St_le L.length L (Nat.le_refl _)
          have hne : L.take (St L) ≠ [] := by
            intro h2
            have := congrArg List.length h2
            rw [List.length_take, List.length_nil] at this
            omega
          have hd : dN (L.take (St L)) = dN L := by
            have h1 := dN_app (L.take (St L)) (L.drop (St L)) hne (by rw [List.take_append_drop, List.length_take]; omega)
            rw [List.take_append_drop] at h1
            exact h1
          rw [St_cons _ hne, hd, if_pos hk, List.drop_take]
          have e : St L - (dN L).2 = St (L.drop (dN L).2) := by omega
          rw [e, St_self n (L.drop (dN L).2) (by simp; omega), hc]
        · rw [if_neg hk] at hc
          rw [hc]
          rfl
end Go.Proofs.Ytepmleieekpdiaa
