/-
  Decoding and encoding, on lists of bytes: each undoes the other; what begins a rune is cut off.
-/
import Derived.Test.YtkaimohkdkdbmaaDoorMath
import Derived.Test.YtkaimohkdkdbmaaDoorEnc
set_option linter.unusedSimpArgs false
set_option linter.unusedVariables false
namespace Go.Proofs.YtkaimohkdkdbmaaDoor

def dec1 (L : List Int) : Int × Int × Int := canon (fun k => L.getD k 0) L.length

theorem dec_enc (r : Int) (T : List Int) (h : ¬ Bad r) : dec1 (encB r ++ T) = (r, ((encB r).length : Int), 0) := by
  unfold Bad at h
  unfold dec1
  by_cases h1 : r < 128
  · rw [enc1 h1]
    simp [canon, h1]
  by_cases h2 : r < 2048
  · rw [enc2 (by omega) h2]
    simp only [canon, List.cons_append, List.nil_append, List.getD_cons_zero, List.getD_cons_succ, List.length_cons, List.length_nil]
    rw [if_neg (by omega), if_neg (by omega), if_pos (by omega), if_neg (by omega), if_neg (by omega)]
    exact tri (by omega) (by omega) rfl
  by_cases h3 : r < 65536
  · rw [enc3 (by omega) h3]
    simp only [canon, List.cons_append, List.nil_append, List.getD_cons_zero, List.getD_cons_succ, List.length_cons, List.length_nil]
    rw [if_neg (by omega), if_neg (by omega), if_neg (by omega), if_pos (by omega), if_neg (by omega), if_neg (by omega), if_neg (by omega), if_neg (by omega)]
    exact tri (by omega) (by omega) rfl
  · rw [enc4 (by omega)]
    simp only [canon, List.cons_append, List.nil_append, List.getD_cons_zero, List.getD_cons_succ, List.length_cons, List.length_nil]
    rw [if_neg (by omega), if_neg (by omega), if_neg (by omega), if_neg (by omega), if_pos (by omega), if_neg (by omega), if_neg (by omega), if_neg (by omega), if_neg (by omega), if_neg (by omega), if_neg (by omega)]
    exact tri (by omega) (by omega) rfl

/-- A proper beginning of a rune's bytes is cut off. -/
theorem dec_cut (r : Int) (j : Nat) (h : ¬ Bad r) (h1 : 1 ≤ j) (h2 : j < (encB r).length) : dec1 ((encB r).take j) = (0, 0, 7) := by
  unfold Bad at h
  unfold dec1
  by_cases q1 : r < 128
  · rw [enc1 q1] at h2; simp at h2; omega
  by_cases q2 : r < 2048
  · rw [enc2 (by omega) q2] at h2 ⊢
    have : j = 1 := by simp at h2; omega
    subst this
    simp only [canon, List.take_succ_cons, List.take_zero, List.getD_cons_zero, List.getD_cons_succ, List.length_cons, List.length_nil]
    rw [if_neg (by omega), if_neg (by omega), if_pos (by omega), if_pos (by omega)]
  by_cases q3 : r < 65536
  · rw [enc3 (by omega) q3] at h2 ⊢
    have : j = 1 ∨ j = 2 := by simp at h2; omega
    rcases this with rfl | rfl
    · simp only [canon, List.take_succ_cons, List.take_zero, List.getD_cons_zero, List.getD_cons_succ, List.length_cons, List.length_nil]
      rw [if_neg (by omega), if_neg (by omega), if_neg (by omega), if_pos (by omega), if_pos (by omega)]
    · simp only [canon, List.take_succ_cons, List.take_zero, List.getD_cons_zero, List.getD_cons_succ, List.length_cons, List.length_nil]
      rw [if_neg (by omega), if_neg (by omega), if_neg (by omega), if_pos (by omega), if_neg (by omega), if_neg (by omega), if_pos (by omega)]
  · rw [enc4 (by omega)] at h2 ⊢
    have : j = 1 ∨ j = 2 ∨ j = 3 := by simp at h2; omega
    rcases this with rfl | rfl | rfl
    · simp only [canon, List.take_succ_cons, List.take_zero, List.getD_cons_zero, List.getD_cons_succ, List.length_cons, List.length_nil]
      rw [if_neg (by omega), if_neg (by omega), if_neg (by omega), if_neg (by omega), if_pos (by omega), if_pos (by omega)]
    · simp only [canon, List.take_succ_cons, List.take_zero, List.getD_cons_zero, List.getD_cons_succ, List.length_cons, List.length_nil]
      rw [if_neg (by omega), if_neg (by omega), if_neg (by omega), if_neg (by omega), if_pos (by omega), if_neg (by omega), if_neg (by omega), if_pos (by omega)]
    · simp only [canon, List.take_succ_cons, List.take_zero, List.getD_cons_zero, List.getD_cons_succ, List.length_cons, List.length_nil]
      rw [if_neg (by omega), if_neg (by omega), if_neg (by omega), if_neg (by omega), if_pos (by omega), if_neg (by omega), if_neg (by omega), if_neg (by omega), if_neg (by omega), if_pos (by omega)]

/-- A byte that can only follow begins nothing. -/
theorem dec_follow (L : List Int) (h1 : 128 ≤ L.getD 0 0) (h2 : L.getD 0 0 < 192) : dec1 L = (0, 0, 2) := by
  unfold dec1 canon
  simp only
  rw [if_neg (by omega), if_pos (by omega)]

/-- The bytes behind a rune's first one can only follow. -/
theorem enc_follow (r : Int) (T : List Int) (j : Nat) (h : ¬ Bad r) (h1 : 1 ≤ j) (h2 : j < (encB r).length) :
    128 ≤ ((encB r ++ T).drop j).getD 0 0 ∧ ((encB r ++ T).drop j).getD 0 0 < 192 := by
  unfold Bad at h
  by_cases q1 : r < 128
  · rw [enc1 q1] at h2; simp at h2; omega
  by_cases q2 : r < 2048
  · rw [enc2 (by omega) q2] at h2 ⊢
    have : j = 1 := by simp at h2; omega
    subst this
    simp; omega
  by_cases q3 : r < 65536
  · rw [enc3 (by omega) q3] at h2 ⊢
    have : j = 1 ∨ j = 2 := by simp at h2; omega
    rcases this with rfl | rfl
    · simp; omega
    · simp; omega
  · rw [enc4 (by omega)] at h2 ⊢
    have : j = 1 ∨ j = 2 ∨ j = 3 := by simp at h2; omega
    rcases this with rfl | rfl | rfl
    · simp; omega
    · simp; omega
    · simp; omega

/-- What is decoded is what was encoded. -/
def Inv (L : List Int) (x : Int × Int × Int) : Prop := x.2.2 = 0 → ¬ Bad x.1 ∧ x.2.1 = ((encB x.1).length : Int) ∧ L.take (encB x.1).length = encB x.1 ∧ (encB x.1).length ≤ L.length
theorem inv_ite {L : List Int} {c : Prop} [Decidable c] {x y : Int × Int × Int} (h1 : c → Inv L x) (h2 : ¬ c → Inv L y) : Inv L (if c then x else y) := by
  by_cases h : c
  · rw [if_pos h]; exact h1 h
  · rw [if_neg h]; exact h2 h
theorem inv2 {L : List Int} : Inv L (0, 0, 2) := fun h => by simp at h
theorem inv7 {L : List Int} : Inv L (0, 0, 7) := fun h => by simp at h
theorem inv_mk {L : List Int} {r n : Int} (h : ¬ Bad r) (hn : n = ((encB r).length : Int)) (h1 : L.take (encB r).length = encB r) : Inv L (r, n, 0) := fun _ => ⟨h, hn, h1, by
  have := congrArg List.length h1
  rw [List.length_take] at this
  dsimp only
  omega⟩
theorem take1 {L : List Int} (h : 1 ≤ L.length) : L.take 1 = [L.getD 0 0] := by
  match L, h with
  | a :: L, _ => simp
theorem take2 {L : List Int} (h : 2 ≤ L.length) : L.take 2 = [L.getD 0 0, L.getD 1 0] := by
  match L, h with
  | a :: b :: L, _ => simp
theorem take3 {L : List Int} (h : 3 ≤ L.length) : L.take 3 = [L.getD 0 0, L.getD 1 0, L.getD 2 0] := by
  match L, h with
  | a :: b :: c :: L, _ => simp
theorem take4 {L : List Int} (h : 4 ≤ L.length) : L.take 4 = [L.getD 0 0, L.getD 1 0, L.getD 2 0, L.getD 3 0] := by
  match L, h with
  | a :: b :: c :: d :: L, _ => simp
theorem cons_eq {a b : Int} {s t : List Int} (h : a = b) (h2 : s = t) : a :: s = b :: t := by rw [h, h2]

theorem inv_1 {L : List Int} (hl : 1 ≤ L.length) (h0 : 0 ≤ L.getD 0 0) (h1 : L.getD 0 0 < 128) : Inv L (L.getD 0 0, 1, 0) := by
  refine inv_mk (by unfold Bad; omega) ?_ ?_
  · rw [enc1 h1]; rfl
  · rw [enc1 h1]; exact take1 hl
theorem inv_2 {L : List Int} (hl : 2 ≤ L.length) (h0 : 194 ≤ L.getD 0 0) (h1 : L.getD 0 0 < 224) (h2 : 128 ≤ L.getD 1 0) (h3 : L.getD 1 0 ≤ 191) :
    Inv L ((L.getD 0 0 - 192) * 64 + (L.getD 1 0 - 128), 2, 0) := by
  have t := take2 hl
  generalize L.getD 0 0 = a at *
  generalize L.getD 1 0 = b at *
  refine inv_mk (by unfold Bad; omega) ?_ ?_
  · rw [enc2 (by omega) (by omega)]; rfl
  · rw [enc2 (by omega) (by omega)]
    refine t.trans (cons_eq (by omega) (cons_eq (by omega) rfl))
theorem inv_3 {L : List Int} (hl : 3 ≤ L.length) (h0 : 224 ≤ L.getD 0 0) (h1 : L.getD 0 0 < 240) (h2 : 128 ≤ L.getD 1 0) (h3 : L.getD 1 0 ≤ 191) (h4 : 128 ≤ L.getD 2 0) (h5 : L.getD 2 0 ≤ 191)
    (h6 : L.getD 0 0 = 224 → 160 ≤ L.getD 1 0) (h7 : L.getD 0 0 = 237 → L.getD 1 0 ≤ 159) :
    Inv L ((L.getD 0 0 - 224) * 4096 + (L.getD 1 0 - 128) * 64 + (L.getD 2 0 - 128), 3, 0) := by
  have t := take3 hl
  generalize L.getD 0 0 = a at *
  generalize L.getD 1 0 = b at *
  generalize L.getD 2 0 = c at *
  refine inv_mk (by unfold Bad; omega) ?_ ?_
  · rw [enc3 (by omega) (by omega)]; rfl
  · rw [enc3 (by omega) (by omega)]
    refine t.trans (cons_eq (by omega) (cons_eq (by omega) (cons_eq (by omega) rfl)))
theorem inv_4 {L : List Int} (hl : 4 ≤ L.length) (h0 : 240 ≤ L.getD 0 0) (h1 : L.getD 0 0 < 245) (h2 : 128 ≤ L.getD 1 0) (h3 : L.getD 1 0 ≤ 191) (h4 : 128 ≤ L.getD 2 0) (h5 : L.getD 2 0 ≤ 191) (h8 : 128 ≤ L.getD 3 0) (h9 : L.getD 3 0 ≤ 191)
    (h6 : L.getD 0 0 = 240 → 144 ≤ L.getD 1 0) (h7 : L.getD 0 0 = 244 → L.getD 1 0 ≤ 143) :
    Inv L ((L.getD 0 0 - 240) * 262144 + (L.getD 1 0 - 128) * 4096 + (L.getD 2 0 - 128) * 64 + (L.getD 3 0 - 128), 4, 0) := by
  have t := take4 hl
  generalize L.getD 0 0 = a at *
  generalize L.getD 1 0 = b at *
  generalize L.getD 2 0 = c at *
  generalize L.getD 3 0 = d at *
  refine inv_mk (by unfold Bad; omega) ?_ ?_
  · rw [enc4 (by omega)]; rfl
  · rw [enc4 (by omega)]
    refine t.trans (cons_eq (by omega) (cons_eq (by omega) (cons_eq (by omega) (cons_eq (by omega) rfl))))

theorem dec_inv (L : List Int) (hl : L ≠ []) (h0 : ∀ k, 0 ≤ L.getD k 0) : Inv L (dec1 L) := by
  have hp : 1 ≤ L.length := by
    have := List.length_pos_iff.2 hl
    omega
  have a0 := h0 0
  unfold dec1 canon
  simp only
  refine inv_ite (fun h => inv_1 hp a0 h) fun n1 => ?_
  refine inv_ite (fun h => inv2) fun n2 => ?_
  refine inv_ite (fun h => inv_ite (fun h => inv7) fun n3 => inv_ite (fun h => inv2) fun n4 => inv_2 (by omega) (by omega) (by omega) (by omega) (by omega)) fun n3 => ?_
  refine inv_ite (fun h => inv_ite (fun h => inv7) fun n3 => inv_ite (fun h => inv2) fun n4 => inv_ite (fun h => inv7) fun n5 => inv_ite (fun h => inv2) fun n6 =>
    inv_3 (by omega) (by omega) (by omega) (by split at n4 <;> omega) (by split at n4 <;> (try split at n4) <;> omega) (by omega) (by omega) (by intro e; rw [if_pos e] at n4; omega) (by intro e; rw [if_pos e] at n4; omega)) fun n3 => ?_
  refine inv_ite (fun h => inv_ite (fun h => inv7) fun n3 => inv_ite (fun h => inv2) fun n4 => inv_ite (fun h => inv7) fun n5 => inv_ite (fun h => inv2) fun n6 => inv_ite (fun h => inv7) fun n7 => inv_ite (fun h => inv2) fun n8 =>
    inv_4 (by omega) (by omega) (by omega) (by split at n4 <;> omega) (by split at n4 <;> (try split at n4) <;> omega) (by omega) (by omega) (by omega) (by omega) (by intro e; rw [if_pos e] at n4; omega) (by intro e; rw [if_pos e] at n4; omega)) fun n3 => ?_
  exact inv2
end Go.Proofs.YtkaimohkdkdbmaaDoor
