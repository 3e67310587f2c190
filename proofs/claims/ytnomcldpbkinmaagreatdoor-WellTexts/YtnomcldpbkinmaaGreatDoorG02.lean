/-
  Merged by program out of the texts Dec, Dec2, Mem, Str, CMath, RMath, Leaf of one seat.
-/
import Derived.Test.YtnomcldpbkinmaaGreatDoorG01
import Derived.Test.YtnomcldpbkinmaaGreatDoorProg
import Derived.WalkKit
import Derived.WalkSpells
import Derived.WalkLawsBesides
import Derived.Laws.BytesArg
import Derived.Laws.OwnMore
import Derived.Lib.Hide
import Derived.Lib.DecodeN

/- Decoding and encoding, on lists of bytes: each undoes the other; what begins a rune is cut off. -/
set_option linter.unusedSimpArgs false
set_option linter.unusedVariables false
namespace Go.Proofs.YtnomcldpbkinmaaGreatDoor

def dec1 (L : List Int) : Int × Int × Int := canon (fun k => L.getD k 0) L.length

theorem dec_enc (r : Int) (T : List Int) (h : ¬ Bad r) : dec1 (encB r ++ T) = (r, ((encB r).length : Int), 0) := by
  unfold Bad at h
  unfold dec1
  by_cases h1 : r < 128
  · rw [enc1 h1]
    simp [canon, h1]
  by_cases h2 : r < 2048
  · rw [enc2 (by omega) h2]
    simp only [canon, List.cons_append, List.nil_append, List.getD_cons_zero, List.getD_cons_succ, List.length_cons, List.length_nil]
    rw [if_neg (by omega), if_neg (by omega), if_pos (by omega), if_neg (by omega), if_neg (by omega)]
    exact tri (by omega) (by omega) rfl
  by_cases h3 : r < 65536
  · rw [enc3 (by omega) h3]
    simp only [canon, List.cons_append, List.nil_append, List.getD_cons_zero, List.getD_cons_succ, List.length_cons, List.length_nil]
    rw [if_neg (by omega), if_neg (by omega), if_neg (by omega), if_pos (by omega), if_neg (by omega), if_neg (by omega), if_neg (by omega), if_neg (by omega)]
    exact tri (by omega) (by omega) rfl
  · rw [enc4 (by omega)]
    simp only [canon, List.cons_append, List.nil_append, List.getD_cons_zero, List.getD_cons_succ, List.length_cons, List.length_nil]
    rw [if_neg (by omega), if_neg (by omega), if_neg (by omega), if_neg (by omega), if_pos (by omega), if_neg (by omega), if_neg (by omega), if_neg (by omega), if_neg (by omega), if_neg (by omega), if_neg (by omega)]
    exact tri (by omega) (by omega) rfl

/-- A proper beginning of a rune's bytes is cut off. -/
theorem dec_cut (r : Int) (j : Nat) (h : ¬ Bad r) (h1 : 1 ≤ j) (h2 : j < (encB r).length) : dec1 ((encB r).take j) = (0, 0, 7) := by
  unfold Bad at h
  unfold dec1
  by_cases q1 : r < 128
  · rw [enc1 q1] at h2; simp at h2; omega
  by_cases q2 : r < 2048
  · rw [enc2 (by omega) q2] at h2 ⊢
    have : j = 1 := by simp at h2; omega
    subst this
    simp only [canon, List.take_succ_cons, List.take_zero, List.getD_cons_zero, List.getD_cons_succ, List.length_cons, List.length_nil]
    rw [if_neg (by omega), if_neg (by omega), if_pos (by omega), if_pos (by omega)]
  by_cases q3 : r < 65536
  · rw [enc3 (by omega) q3] at h2 ⊢
    have : j = 1 ∨ j = 2 := by simp at h2; omega
    rcases this with rfl | rfl
    · simp only [canon, List.take_succ_cons, List.take_zero, List.getD_cons_zero, List.getD_cons_succ, List.length_cons, List.length_nil]
      rw [if_neg (by omega), if_neg (by omega), if_neg (by omega), if_pos (by omega), if_pos (by omega)]
    · simp only [canon, List.take_succ_cons, List.take_zero, List.getD_cons_zero, List.getD_cons_succ, List.length_cons, List.length_nil]
      rw [if_neg (by omega), if_neg (by omega), if_neg (by omega), if_pos (by omega), if_neg (by omega), if_neg (by omega), if_pos (by omega)]
  · rw [enc4 (by omega)] at h2 ⊢
    have : j = 1 ∨ j = 2 ∨ j = 3 := by simp at h2; omega
    rcases this with rfl | rfl | rfl
    · simp only [canon, List.take_succ_cons, List.take_zero, List.getD_cons_zero, List.getD_cons_succ, List.length_cons, List.length_nil]
      rw [if_neg (by omega), if_neg (by omega), if_neg (by omega), if_neg (by omega), if_pos (by omega), if_pos (by omega)]
    · simp only [canon, List.take_succ_cons, List.take_zero, List.getD_cons_zero, List.getD_cons_succ, List.length_cons, List.length_nil]
      rw [if_neg (by omega), if_neg (by omega), if_neg (by omega), if_neg (by omega), if_pos (by omega), if_neg (by omega), if_neg (by omega), if_pos (by omega)]
    · simp only [canon, List.take_succ_cons, List.take_zero, List.getD_cons_zero, List.getD_cons_succ, List.length_cons, List.length_nil]
      rw [if_neg (by omega), if_neg (by omega), if_neg (by omega), if_neg (by omega), if_pos (by omega), if_neg (by omega), if_neg (by omega), if_neg (by omega), if_neg (by omega), if_pos (by omega)]

/-- What is decoded is what was encoded. -/
def Inv (L : List Int) (x : Int × Int × Int) : Prop := x.2.2 = 0 → ¬ Bad x.1 ∧ x.2.1 = ((encB x.1).length : Int) ∧ L.take (encB x.1).length = encB x.1 ∧ (encB x.1).length ≤ L.length
theorem inv_ite {L : List Int} {c : Prop} [Decidable c] {x y : Int × Int × Int} (h1 : c → Inv L x) (h2 : ¬ c → Inv L y) : Inv L (if c then x else y) := by
  by_cases h : c
  · rw [if_pos h]; exact h1 h
  · rw [if_neg h]; exact h2 h
theorem inv2 {L : List Int} : Inv L (0, 0, 2) := fun h => by simp at h
theorem inv7 {L : List Int} : Inv L (0, 0, 7) := fun h => by simp at h
theorem inv_mk {L : List Int} {r n : Int} (h : ¬ Bad r) (hn : n = ((encB r).length : Int)) (h1 : L.take (encB r).length = encB r) : Inv L (r, n, 0) := fun _ => ⟨h, hn, h1, by
  have := congrArg List.length h1
  rw [List.length_take] at this
  dsimp only
  omega⟩
theorem take1 {L : List Int} (h : 1 ≤ L.length) : L.take 1 = [L.getD 0 0] := by
  match L, h with
  | a :: L, _ => simp
theorem take2 {L : List Int} (h : 2 ≤ L.length) : L.take 2 = [L.getD 0 0, L.getD 1 0] := by
  match L, h with
  | a :: b :: L, _ => simp
theorem take3 {L : List Int} (h : 3 ≤ L.length) : L.take 3 = [L.getD 0 0, L.getD 1 0, L.getD 2 0] := by
  match L, h with
  | a :: b :: c :: L, _ => simp
theorem take4 {L : List Int} (h : 4 ≤ L.length) : L.take 4 = [L.getD 0 0, L.getD 1 0, L.getD 2 0, L.getD 3 0] := by
  match L, h with
  | a :: b :: c :: d :: L, _ => simp
theorem cons_eq {a b : Int} {s t : List Int} (h : a = b) (h2 : s = t) : a :: s = b :: t := by rw [h, h2]

theorem inv_1 {L : List Int} (hl : 1 ≤ L.length) (h0 : 0 ≤ L.getD 0 0) (h1 : L.getD 0 0 < 128) : Inv L (L.getD 0 0, 1, 0) := by
  refine inv_mk (by unfold Bad; omega) ?_ ?_
  · rw [enc1 h1]; rfl
  · rw [enc1 h1]; exact take1 hl
theorem inv_2 {L : List Int} (hl : 2 ≤ L.length) (h0 : 194 ≤ L.getD 0 0) (h1 : L.getD 0 0 < 224) (h2 : 128 ≤ L.getD 1 0) (h3 : L.getD 1 0 ≤ 191) :
    Inv L ((L.getD 0 0 - 192) * 64 + (L.getD 1 0 - 128), 2, 0) := by
  have t := take2 hl
  generalize L.getD 0 0 = a at *
  generalize L.getD 1 0 = b at *
  refine inv_mk (by unfold Bad; omega) ?_ ?_
  · rw [enc2 (by omega) (by omega)]; rfl
  · rw [enc2 (by omega) (by omega)]
    refine t.trans (cons_eq (by omega) (cons_eq (by omega) rfl))
theorem inv_3 {L : List Int} (hl : 3 ≤ L.length) (h0 : 224 ≤ L.getD 0 0) (h1 : L.getD 0 0 < 240) (h2 : 128 ≤ L.getD 1 0) (h3 : L.getD 1 0 ≤ 191) (h4 : 128 ≤ L.getD 2 0) (h5 : L.getD 2 0 ≤ 191)
    (h6 : L.getD 0 0 = 224 → 160 ≤ L.getD 1 0) (h7 : L.getD 0 0 = 237 → L.getD 1 0 ≤ 159) :
    Inv L ((L.getD 0 0 - 224) * 4096 + (L.getD 1 0 - 128) * 64 + (L.getD 2 0 - 128), 3, 0) := by
  have t := take3 hl
  generalize L.getD 0 0 = a at *
  generalize L.getD 1 0 = b at *
  generalize L.getD 2 0 = c at *
  refine inv_mk (by unfold Bad; omega) ?_ ?_
  · rw [enc3 (by omega) (by omega)]; rfl
  · rw [enc3 (by omega) (by omega)]
    refine t.trans (cons_eq (by omega) (cons_eq (by omega) (cons_eq (by omega) rfl)))
theorem inv_4 {L : List Int} (hl : 4 ≤ L.length) (h0 : 240 ≤ L.getD 0 0) (h1 : L.getD 0 0 < 245) (h2 : 128 ≤ L.getD 1 0) (h3 : L.getD 1 0 ≤ 191) (h4 : 128 ≤ L.getD 2 0) (h5 : L.getD 2 0 ≤ 191) (h8 : 128 ≤ L.getD 3 0) (h9 : L.getD 3 0 ≤ 191)
    (h6 : L.getD 0 0 = 240 → 144 ≤ L.getD 1 0) (h7 : L.getD 0 0 = 244 → L.getD 1 0 ≤ 143) :
    Inv L ((L.getD 0 0 - 240) * 262144 + (L.getD 1 0 - 128) * 4096 + (L.getD 2 0 - 128) * 64 + (L.getD 3 0 - 128), 4, 0) := by
  have t := take4 hl
  generalize L.getD 0 0 = a at *
  generalize L.getD 1 0 = b at *
  generalize L.getD 2 0 = c at *
  generalize L.getD 3 0 = d at *
  refine inv_mk (by unfold Bad; omega) ?_ ?_
  · rw [enc4 (by omega)]; rfl
  · rw [enc4 (by omega)]
    refine t.trans (cons_eq (by omega) (cons_eq (by omega) (cons_eq (by omega) (cons_eq (by omega) rfl))))

theorem dec_inv (L : List Int) (hl : L ≠ []) (h0 : ∀ k, 0 ≤ L.getD k 0) : Inv L (dec1 L) := by
  have hp : 1 ≤ L.length := by
    have := List.length_pos_iff.2 hl
    omega
  have a0 := h0 0
  unfold dec1 canon
  simp only
  refine inv_ite (fun h => inv_1 hp a0 h) fun n1 => ?_
  refine inv_ite (fun h => inv2) fun n2 => ?_
  refine inv_ite (fun h => inv_ite (fun h => inv7) fun n3 => inv_ite (fun h => inv2) fun n4 => inv_2 (by omega) (by omega) (by omega) (by omega) (by omega)) fun n3 => ?_
  refine inv_ite (fun h => inv_ite (fun h => inv7) fun n3 => inv_ite (fun h => inv2) fun n4 => inv_ite (fun h => inv7) fun n5 => inv_ite (fun h => inv2) fun n6 =>
    inv_3 (by omega) (by omega) (by omega) (by split at n4 <;> omega) (by split at n4 <;> (try split at n4) <;> omega) (by omega) (by omega) (by intro e; rw [if_pos e] at n4; omega) (by intro e; rw [if_pos e] at n4; omega)) fun n3 => ?_
  refine inv_ite (fun h => inv_ite (fun h => inv7) fun n3 => inv_ite (fun h => inv2) fun n4 => inv_ite (fun h => inv7) fun n5 => inv_ite (fun h => inv2) fun n6 => inv_ite (fun h => inv7) fun n7 => inv_ite (fun h => inv2) fun n8 =>
    inv_4 (by omega) (by omega) (by omega) (by split at n4 <;> omega) (by split at n4 <;> (try split at n4) <;> omega) (by omega) (by omega) (by omega) (by omega) (by intro e; rw [if_pos e] at n4; omega) (by intro e; rw [if_pos e] at n4; omega)) fun n3 => ?_
  exact inv2
end Go.Proofs.YtnomcldpbkinmaaGreatDoor

/- Decoding a whole list of bytes. -/
set_option linter.unusedSimpArgs false
set_option linter.unusedVariables false
namespace Go.Proofs.YtnomcldpbkinmaaGreatDoor

/-- No number below 0. -/
def NN (L : List Int) : Prop := ∀ x ∈ L, 0 ≤ x
theorem NN.getD {L : List Int} (h : NN L) (k : Nat) : 0 ≤ L.getD k 0 := by
  rw [List.getD_eq_getElem?_getD]
  rcases Nat.lt_or_ge k L.length with hk | hk
  · rw [List.getElem?_eq_getElem hk]; exact h _ (List.getElem_mem hk)
  · rw [List.getElem?_eq_none hk]; exact Int.le_refl 0
theorem NN.drop {L : List Int} (h : NN L) (k : Nat) : NN (L.drop k) := fun x hx => h x (List.mem_of_mem_drop hx)
theorem NN.take {L : List Int} (h : NN L) (k : Nat) : NN (L.take k) := fun x hx => h x (List.mem_of_mem_take hx)

def decL : Nat → List Int → List Int × Nat × Int
  | 0, _ => ([], 0, 0)
  | f + 1, L => if L = [] then ([], 0, 0) else if (dec1 L).2.2 = 0 then ((dec1 L).1 :: (decL f (L.drop (dec1 L).2.1.toNat)).1, (dec1 L).2.1.toNat + (decL f (L.drop (dec1 L).2.1.toNat)).2.1, (decL f (L.drop (dec1 L).2.1.toNat)).2.2) else ([], 0, (dec1 L).2.2)
def decF (L : List Int) : List Int × Nat × Int := decL L.length L

theorem dec_ok1 {L : List Int} (hl : L ≠ []) (hn : NN L) (h : (dec1 L).2.2 = 0) : 1 ≤ (dec1 L).2.1.toNat ∧ (dec1 L).2.1.toNat ≤ L.length := by
  have hi := dec_inv L hl hn.getD h
  have := encB_len (dec1 L).1
  omega
theorem decL_nil (f : Nat) : decL f [] = ([], 0, 0) := by cases f <;> simp [decL]
theorem decL_err (f : Nat) (L : List Int) (hl : L ≠ []) (h : (dec1 L).2.2 ≠ 0) : decL (f + 1) L = ([], 0, (dec1 L).2.2) := by rw [decL, if_neg hl, if_neg h]
theorem decL_ok (f : Nat) (L : List Int) (hl : L ≠ []) (h : (dec1 L).2.2 = 0) : decL (f + 1) L = ((dec1 L).1 :: (decL f (L.drop (dec1 L).2.1.toNat)).1, (dec1 L).2.1.toNat + (decL f (L.drop (dec1 L).2.1.toNat)).2.1, (decL f (L.drop (dec1 L).2.1.toNat)).2.2) := by
  rw [decL, if_neg hl, if_pos h]
theorem decL_fuel : ∀ (f g : Nat) (L : List Int), NN L → L.length ≤ f → L.length ≤ g → decL f L = decL g L
  | 0, g, L, _, hf, _ => by
    have : L = [] := List.eq_nil_of_length_eq_zero (by omega)
    subst this
    rw [decL_nil, decL_nil]
  | f + 1, 0, L, _, _, hg => by
    have : L = [] := List.eq_nil_of_length_eq_zero (by omega)
    subst this
    rw [decL_nil, decL_nil]
  | f + 1, g + 1, L, hn, hf, hg => by
    by_cases hl : L = []
    · subst hl; rw [decL_nil, decL_nil]
    by_cases h : (dec1 L).2.2 = 0
    · have hk := dec_ok1 hl hn h
      rw [decL_ok f L hl h, decL_ok g L hl h, decL_fuel f g (L.drop (dec1 L).2.1.toNat) (hn.drop _) (by simp; omega) (by simp; omega)]
    · rw [decL_err f L hl h, decL_err g L hl h]
theorem decF_nil : decF [] = ([], 0, 0) := rfl
theorem decF_err (L : List Int) (hl : L ≠ []) (h : (dec1 L).2.2 ≠ 0) : decF L = ([], 0, (dec1 L).2.2) := by
  have hp := List.length_pos_iff.2 hl
  unfold decF
  rw [show L.length = (L.length - 1) + 1 by omega]
  exact decL_err _ L hl h
theorem decF_ok (L : List Int) (hl : L ≠ []) (hn : NN L) (h : (dec1 L).2.2 = 0) : decF L = ((dec1 L).1 :: (decF (L.drop (dec1 L).2.1.toNat)).1, (dec1 L).2.1.toNat + (decF (L.drop (dec1 L).2.1.toNat)).2.1, (decF (L.drop (dec1 L).2.1.toNat)).2.2) := by
  have hp := List.length_pos_iff.2 hl
  have hk := dec_ok1 hl hn h
  have e : decL L.length L = decL ((L.length - 1) + 1) L := by rw [show (L.length - 1) + 1 = L.length by omega]
  unfold decF
  rw [e, decL_ok _ L hl h, decL_fuel (L.length - 1) (L.drop (dec1 L).2.1.toNat).length _ (hn.drop _) (by simp; omega) (Nat.le_refl _)]

theorem encB_ne (r : Int) : encB r ≠ [] := by
  intro e
  have := encB_len r
  rw [e] at this
  simp at this
theorem encB_nn (r : Int) (h : ¬ Bad r) : NN (encB r) ∧ ∀ x ∈ encB r, x ≤ 255 := by
  unfold Bad at h
  unfold NN
  by_cases h1 : r < 128
  · rw [enc1 h1]; simp; omega
  by_cases h2 : r < 2048
  · rw [enc2 (by omega) h2]; simp; omega
  by_cases h3 : r < 65536
  · rw [enc3 (by omega) h3]; simp; omega
  · rw [enc4 (by omega)]; simp; omega

theorem decF_enc (r : Int) (T : List Int) (h : ¬ Bad r) (hT : NN T) : decF (encB r ++ T) = (r :: (decF T).1, (encB r).length + (decF T).2.1, (decF T).2.2) := by
  have hd := dec_enc r T h
  have hne : encB r ++ T ≠ [] := by simp [encB_ne]
  have hnn : NN (encB r ++ T) := fun x hx => by
    rcases List.mem_append.1 hx with hx | hx
    · exact (encB_nn r h).1 x hx
    · exact hT x hx
  rw [decF_ok _ hne hnn (by rw [hd]), hd]
  simp
def Good (l : List Int) : Prop := ∀ r ∈ l, ¬ Bad r
/-- What is decoded, put again, is what was there; without an error, all of it. -/
def Back (L : List Int) (x : List Int × Nat × Int) : Prop :=
  Good x.1 ∧ x.1.flatMap putI = L.take x.2.1 ∧ x.2.1 ≤ L.length ∧ (x.2.2 = 0 → x.2.1 = L.length) ∧ (x.2.2 ≠ 0 → x.2.1 < L.length)
theorem decF_back : ∀ (n : Nat) (L : List Int), L.length ≤ n → NN L → Back L (decF L)
  | 0, L, h, hn => by
    have : L = [] := List.eq_nil_of_length_eq_zero (by omega)
    subst this
    rw [decF_nil]
    exact ⟨fun r hr => by simp at hr, rfl, Nat.le_refl _, fun _ => rfl, fun h => absurd rfl h⟩
  | n + 1, L, h, hn => by
    by_cases hl : L = []
    · subst hl
      rw [decF_nil]
      exact ⟨fun r hr => by simp at hr, rfl, Nat.le_refl _, fun _ => rfl, fun h => absurd rfl h⟩
    have hp := List.length_pos_iff.2 hl
    by_cases he : (dec1 L).2.2 = 0
    · have hi := dec_inv L hl hn.getD he
      obtain ⟨hb, hlen, htk, hle⟩ := hi
      have h1 := encB_len (dec1 L).1
      rw [decF_ok L hl hn he]
      have ht : (dec1 L).2.1.toNat = (encB (dec1 L).1).length := by omega
      rw [ht]
      generalize (dec1 L).1 = r at *
      obtain ⟨a, b, c, d, e⟩ := decF_back n (L.drop (encB r).length) (by simp; omega) (hn.drop _)
      generalize decF (L.drop (encB r).length) = y at *
      rw [List.length_drop] at c d e
      refine ⟨?_, ?_, ?_, ?_, ?_⟩
      · intro x hx
        rcases List.mem_cons.1 hx with rfl | hx
        · exact hb
        · exact a x hx
      · show (r :: y.1).flatMap putI = L.take ((encB r).length + y.2.1)
        rw [List.flatMap_cons, putI_ok hb, b, List.take_add, htk]
      · show (encB r).length + y.2.1 ≤ L.length
        omega
      · intro h0
        have := d h0
        show (encB r).length + y.2.1 = L.length
        omega
      · intro h0
        have := e h0
        show (encB r).length + y.2.1 < L.length
        omega
    · rw [decF_err L hl he]
      exact ⟨fun r hr => by simp at hr, rfl, Nat.zero_le _, fun h => absurd h he, fun _ => hp⟩
end Go.Proofs.YtnomcldpbkinmaaGreatDoor

/- Slices of numbers in memory: what a slice reads as; what a slice of the call's own reads as; bytes as a string. -/
set_option linter.unusedSimpArgs false
set_option linter.unusedVariables false
namespace Go.Proofs.YtnomcldpbkinmaaGreatDoor
open Go.RowKit

/-- The slice at A reads as the numbers l, and lies below block B. -/
def Rd (k : IntKind) (w : World) (B : Nat) (A : Option Addr) (l : List Int) : Prop :=
  l = [] ∨ ∃ b off, A = some ⟨b, off, none⟩ ∧ b < B ∧ ∀ j, j < l.length → w.cell? ⟨b, off + j, none⟩ = some (.int k (l.getD j 0))

theorem Rd.below {k : IntKind} {w w' : World} {B : Nat} {A : Option Addr} {l : List Int} (h : Rd k w B A l) (hb : Below B w w') : Rd k w' B A l := by
  rcases h with h | ⟨b, off, rfl, hlt, hc⟩
  · exact .inl h
  · exact .inr ⟨b, off, rfl, hlt, fun j hj => (hb.cell (p := ⟨b, off + j, none⟩) hlt).trans (hc j hj)⟩
theorem Rd.more {k : IntKind} {w : World} {B B' : Nat} {A : Option Addr} {l : List Int} (h : Rd k w B A l) (hB : B ≤ B') : Rd k w B' A l := by
  rcases h with h | ⟨b, off, rfl, hlt, hc⟩
  · exact .inl h
  · exact .inr ⟨b, off, rfl, by omega, hc⟩
theorem Rd.at_ {k : IntKind} {w : World} {B : Nat} {A : Option Addr} {l : List Int} (h : Rd k w B A l) {j : Nat} (hj : j < l.length) :
    ∃ b off, A = some ⟨b, off, none⟩ ∧ b < B ∧ w.cell? ⟨b, off + j, none⟩ = some (.int k (l.getD j 0)) := by
  rcases h with h | ⟨b, off, rfl, hlt, hc⟩
  · subst h; simp at hj
  · exact ⟨b, off, rfl, hlt, hc j hj⟩
/-- A slice of the call's own is a slice value, and reads as what it owns. -/
theorem own_rd {k : IntKind} {w : World} {B : Nat} {e : TypeId} {v : Value} {l : List Int} (h : w.ownsRow B e 1 v l.length (l.map (Value.int k))) :
    ∃ A c, v = .slice A l.length c ∧ Rd k w w.heap.size A l := by
  rcases h.2 with ⟨rfl, h0⟩ | ⟨g, cap, cur, rfl, _, hh, _, _, _, _⟩
  · have : l = [] := List.eq_nil_of_length_eq_zero h0
    subst this
    exact ⟨none, 0, rfl, .inl rfl⟩
  · refine ⟨_, cap, rfl, .inr ⟨g, 0, rfl, ?_, fun j hj => ?_⟩⟩
    · exact (h.lt g rfl).2
    · have := h.cellAt (g := g) j (by omega)
      rw [Nat.zero_add, this]
      simp [List.getElem?_eq_getElem hj]
/-- 'string(b)'. -/
theorem conv_rd {w : World} {B : Nat} {A : Option Addr} {l : List Int} {c : Nat} (h : Rd .u8 w B A l) :
    (convert 65 9 (.slice A l.length c)).run Tryz.prog w = .ok (.string (strOfNums l)) w := by
  rcases h with rfl | ⟨b, off, rfl, hlt, hc⟩
  · cases A with
    | none => exact run_convert_bytes_nil w 65 5 Tryz.underlying65 Tryz.underlying5 _ _ 9 Tryz.underlying9
    | some a =>
      rw [run_convert_bytes_string w 65 9 5 _ _ c Tryz.underlying65 Tryz.underlying5 Tryz.underlying9, run_bytesToString w a _ c [] (by simp [loadCells, loadCellsFrom])]
      rfl
  · exact run_convert_bytes_arg w 65 5 Tryz.underlying65 Tryz.underlying5 b off l.length c l rfl hc 9 Tryz.underlying9
end Go.Proofs.YtnomcldpbkinmaaGreatDoor

/- Strings as lists of bytes: Rune, All and Whole by them. -/
set_option linter.unusedSimpArgs false
set_option linter.unusedVariables false
namespace Go.Proofs.YtnomcldpbkinmaaGreatDoor

def byts (s : ByteArray) : List Int := s.data.toList.map fun b => (b.toNat : Int)
theorem byts_len (s : ByteArray) : (byts s).length = s.size := by simp [byts]
theorem byts_nn (s : ByteArray) : NN (byts s) := fun x hx => by
  obtain ⟨b, _, rfl⟩ := List.mem_map.1 hx
  omega
theorem bt_byts (s : ByteArray) (k : Nat) : bt s k = (byts s).getD k 0 := by
  unfold bt byts
  simp only [List.getD_eq_getElem?_getD, List.getElem?_map]
  cases s.data.toList[k]? <;> simp
theorem runeF_dec (s : ByteArray) (a : Nat) (h : a < s.size) : runeF s a = dec1 ((byts s).drop a) := by
  unfold runeF dec1
  rw [if_neg (by omega), Int.toNat_natCast, List.length_drop, byts_len]
  congr 1
  funext k
  rw [bt_byts]
  simp [List.getD_eq_getElem?_getD, List.getElem?_drop]
theorem allGo_dec (s : ByteArray) : ∀ (f a : Nat), a ≤ s.size →
    allGo s f a = ((decL f ((byts s).drop a)).1, ((a + (decL f ((byts s).drop a)).2.1 : Nat) : Int), (decL f ((byts s).drop a)).2.2)
  | 0, a, h => by simp [allGo, decL]
  | f + 1, a, h => by
    by_cases hlt : a < s.size
    · have hne : (byts s).drop a ≠ [] := by
        intro e
        have := congrArg List.length e
        rw [List.length_drop, byts_len] at this
        simp at this
        omega
      by_cases he : (runeF s a).2.2 = 0
      · rw [allGo_ok s f a hlt he]
        have hk := runeF_okay s a hlt
        have hn : (runeF s a).2.1.toNat ≤ s.size - a := by
          rcases hk with hk | hk
          · omega
          · omega
        rw [runeF_dec s a hlt] at he hn ⊢
        rw [decL_ok f _ hne he, allGo_dec s f _ (by omega)]
        simp [Nat.add_assoc]
      · rw [allGo_err s f a hlt he]
        rw [runeF_dec s a hlt] at he ⊢
        rw [decL_err f _ hne he]
        simp
    · rw [allGo_done s _ a (by omega)]
      have : (byts s).drop a = [] := List.drop_of_length_le (by rw [byts_len]; omega)
      rw [this, decL_nil]
      simp
theorem allF_dec (s : ByteArray) : allF s = ((decF (byts s)).1, ((decF (byts s)).2.1 : Int), (decF (byts s)).2.2) := by
  unfold allF decF
  rw [allGo_dec s s.size 0 (by omega), byts_len]
  simp

theorem ofNat_toNat (x : Int) (h0 : 0 ≤ x) (h1 : x ≤ 255) : ((UInt8.ofNat x.toNat).toNat : Int) = x := by
  rw [UInt8.toNat_ofNat']
  omega
theorem byts_str (l : List Int) (h : NN l) (h1 : ∀ x ∈ l, x ≤ 255) : byts (strOfNums l) = l := by
  unfold byts
  rw [strOfNums_data, List.map_map]
  conv => rhs; rw [← List.map_id l]
  refine List.map_congr_left fun x hx => ?_
  simp only [Function.comp]
  exact ofNat_toNat x (h x hx) (h1 x hx)
theorem byts_inj {s t : ByteArray} (h : byts s = byts t) : s = t := by
  unfold byts at h
  have hl := congrArg List.length h
  simp only [List.length_map] at hl
  have : s.data.toList = t.data.toList := by
    refine List.ext_getElem hl fun i h1 h2 => ?_
    have := congrArg (fun l => l[i]?) h
    simp only [List.getElem?_map, List.getElem?_eq_getElem h1, List.getElem?_eq_getElem h2, Option.map_some, Option.some.injEq] at this
    exact UInt8.toNat_inj.1 (by omega)
  cases s; cases t
  simp only [ByteArray.mk.injEq] at this ⊢
  exact Array.toList_inj.1 this
theorem byts_extract (s : ByteArray) (a b : Nat) : byts (s.extract a b) = ((byts s).take b).drop a := by
  unfold byts
  rw [ByteArray.data_extract, Array.toList_extract, List.extract_eq_take_drop, List.map_take, List.map_drop, List.drop_take]
end Go.Proofs.YtnomcldpbkinmaaGreatDoor

/- Plain mathematics: the four classes of runes, as propositions that are decided. -/
set_option linter.unusedSimpArgs false
set_option linter.unusedVariables false
namespace Go.Proofs.YtnomcldpbkinmaaGreatDoor

def Btw (r a b : Int) : Prop := a ≤ r ∧ r ≤ b
def Blank (r : Int) : Prop := r = 9 ∨ r = 10 ∨ r = 13 ∨ r = 32
def Chr (r : Int) : Prop := r = 9 ∨ r = 10 ∨ r = 13 ∨ Btw r 32 55295 ∨ Btw r 57344 65533 ∨ Btw r 65536 1114111
def Start (r : Int) : Prop :=
  Btw r 65 90 ∨ Btw r 97 122 ∨ r = 95 ∨ Btw r 192 214 ∨ Btw r 216 246 ∨ Btw r 248 767 ∨ Btw r 880 893 ∨ Btw r 895 8191 ∨ Btw r 8204 8205 ∨ Btw r 8304 8591 ∨
  Btw r 11264 12271 ∨ Btw r 12289 55295 ∨ Btw r 63744 64975 ∨ Btw r 65008 65533 ∨ Btw r 65536 983039
def Part (r : Int) : Prop := Start r ∨ r = 45 ∨ r = 46 ∨ Btw r 48 57 ∨ r = 183 ∨ Btw r 768 879 ∨ Btw r 8255 8256

instance (r a b : Int) : Decidable (Btw r a b) := inferInstanceAs (Decidable (a ≤ r ∧ r ≤ b))
instance (r : Int) : Decidable (Blank r) := inferInstanceAs (Decidable (r = 9 ∨ r = 10 ∨ r = 13 ∨ r = 32))
instance (r : Int) : Decidable (Chr r) := inferInstanceAs (Decidable (r = 9 ∨ r = 10 ∨ r = 13 ∨ Btw r 32 55295 ∨ Btw r 57344 65533 ∨ Btw r 65536 1114111))
instance (r : Int) : Decidable (Start r) := by unfold Start; infer_instance
instance (r : Int) : Decidable (Part r) := by unfold Part; infer_instance

end Go.Proofs.YtnomcldpbkinmaaGreatDoor

/- Plain mathematics: what is read of bytes, as a text and as a value; what is escaped. -/
set_option linter.unusedSimpArgs false
set_option linter.unusedVariables false
namespace Go.Proofs.YtnomcldpbkinmaaGreatDoor

/-- A digit's number; 99: it is none. -/
def dig (c : Int) : Int := if 48 ≤ c ∧ c ≤ 57 then c - 48 else if 97 ≤ c ∧ c ≤ 102 then c - 87 else if 65 ≤ c ∧ c ≤ 70 then c - 55 else 99
theorem dig_nn (c : Int) : 0 ≤ dig c := by unfold dig; repeat' split
                                           all_goals omega
/-- A number's digits behind n; below 0: they are no digits. -/
def numGo (base : Int) : List Int → Int → Int
  | [], n => n
  | c :: l, n => if dig c < base then numGo base l (n * base + dig c) else -1
/-- The program's: it ends where the number is too great. -/
def puGo (base : Int) : List Int → Int → Int
  | [], n => n
  | c :: l, n => if dig c < base then (if 2147483647 < n * base + dig c then -1 else puGo base l (n * base + dig c)) else -1
def chrOr (n : Int) : Int := if Chr n then n else -1
def numV (base : Int) (l : List Int) : Int := if l = [] ∨ 8 < l.length then -1 else chrOr (numGo base l 0)
/-- The rune of what stands between & and ;. Below 0: it is no reference. -/
def refV (l : List Int) : Int :=
  if l = [108, 116] then 60 else if l = [103, 116] then 62 else if l = [97, 109, 112] then 38 else if l = [97, 112, 111, 115] then 39 else if l = [113, 117, 111, 116] then 34
  else if l.getD 0 0 ≠ 35 then -1 else if l.getD 1 0 = 120 then numV 16 (l.drop 2) else numV 10 (l.drop 1)

theorem chrOr_big {n : Int} (h : 2147483647 < n) : chrOr n = -1 := by
  unfold chrOr; rw [if_neg]; unfold Chr Btw; omega
theorem chrOr_neg : chrOr (-1) = -1 := by
  unfold chrOr; rw [if_neg]; unfold Chr Btw; omega
theorem chrOr_chr {n : Int} (h : chrOr n ≠ -1) : Chr n ∧ chrOr n = n := by
  unfold chrOr at *
  by_cases hc : Chr n
  · exact ⟨hc, if_pos hc⟩
  · rw [if_neg hc] at h; exact absurd rfl h
theorem numGo_big (base : Int) (hb : 1 ≤ base) : ∀ (l : List Int) (n : Int), 2147483647 < n → chrOr (numGo base l n) = -1
  | [], n, h => chrOr_big h
  | c :: l, n, h => by
    unfold numGo
    by_cases hd : dig c < base
    · rw [if_pos hd]
      refine numGo_big base hb l _ ?_
      have := dig_nn c
      have : n * 1 ≤ n * base := Int.mul_le_mul_of_nonneg_left hb (by omega)
      omega
    · rw [if_neg hd]; exact chrOr_neg
theorem pu_num (base : Int) (hb : 1 ≤ base) : ∀ (l : List Int) (n : Int), chrOr (puGo base l n) = chrOr (numGo base l n)
  | [], n => rfl
  | c :: l, n => by
    unfold puGo numGo
    by_cases hd : dig c < base
    · rw [if_pos hd, if_pos hd]
      by_cases hg : 2147483647 < n * base + dig c
      · rw [if_pos hg, numGo_big base hb l _ hg, chrOr_neg]
      · rw [if_neg hg]; exact pu_num base hb l _
    · rw [if_neg hd, if_neg hd]
theorem puGo_bd (base : Int) (hb : 1 ≤ base) : ∀ (l : List Int) (n : Int), 0 ≤ n → n ≤ 2147483647 → puGo base l n = -1 ∨ (0 ≤ puGo base l n ∧ puGo base l n ≤ 2147483647)
  | [], n, h0, h1 => .inr ⟨h0, h1⟩
  | c :: l, n, h0, h1 => by
    unfold puGo
    by_cases hd : dig c < base
    · rw [if_pos hd]
      by_cases hg : 2147483647 < n * base + dig c
      · rw [if_pos hg]; exact .inl rfl
      · rw [if_neg hg]
        have := dig_nn c
        have : 0 ≤ n * base := Int.mul_nonneg h0 (by omega)
        exact puGo_bd base hb l _ (by omega) (by omega)
    · rw [if_neg hd]; exact .inl rfl

/-- What stands ahead of the first ;. -/
def bodyOf (t : List Int) : List Int := t.takeWhile fun x => decide (x ≠ 59)

def blk (v : Bool) (b : Int) : Int := if v = true then 32 else b
/-- One thing: the error's number; what is gathered of it; how many bytes it has. -/
def stepF (v : Bool) (l : List Int) : Int × List Int × Nat :=
  if l.getD 0 0 = 38 then
    if 59 ∈ l.tail ∧ 0 ≤ refV (bodyOf l.tail) then (0, encB (refV (bodyOf l.tail)), (bodyOf l.tail).length + 2) else (5, [], 0)
  else if l.getD 0 0 = 13 then (0, [blk v 10], if l.getD 1 0 = 10 then 2 else 1)
  else if l.getD 0 0 = 9 ∨ l.getD 0 0 = 10 then (0, [blk v (l.getD 0 0)], 1)
  else if (dec1 l).2.2 ≠ 0 then ((dec1 l).2.2, [], 0)
  else if Chr (dec1 l).1 then (0, encB (dec1 l).1, (dec1 l).2.1.toNat) else (3, [], 0)

/-- What is gathered; where it ends; why. -/
def readL (v : Bool) : Nat → List Int → List Int × Nat × Int
  | 0, _ => ([], 0, 0)
  | f + 1, l => if l = [] then ([], 0, 0) else if (stepF v l).1 ≠ 0 then ([], 0, (stepF v l).1)
    else ((stepF v l).2.1 ++ (readL v f (l.drop (stepF v l).2.2)).1, (stepF v l).2.2 + (readL v f (l.drop (stepF v l).2.2)).2.1, (readL v f (l.drop (stepF v l).2.2)).2.2)
def readF (v : Bool) (l : List Int) : List Int × Nat × Int := readL v l.length l

theorem body_len (t : List Int) (h : 59 ∈ t) : (bodyOf t).length < t.length := by
  induction t with
  | nil => simp at h
  | cons x t ih =>
    unfold bodyOf
    rw [List.takeWhile_cons]
    by_cases hx : x = 59
    · subst hx; simp
    · rw [if_pos (by simpa using hx)]
      rw [List.mem_cons] at h
      rcases h with h | h
      · exact absurd h.symm hx
      · simp only [List.length_cons]
        have := ih h
        unfold bodyOf at this
        omega
theorem step_bd (v : Bool) (l : List Int) (hl : l ≠ []) (hn : NN l) (h : (stepF v l).1 = 0) : 1 ≤ (stepF v l).2.2 ∧ (stepF v l).2.2 ≤ l.length := by
  have hl1 : 1 ≤ l.length := by
    cases l with
    | nil => exact absurd rfl hl
    | cons x y => simp
  unfold stepF at h ⊢
  by_cases h1 : l.getD 0 0 = 38
  · rw [if_pos h1] at h ⊢
    by_cases h2 : 59 ∈ l.tail ∧ 0 ≤ refV (bodyOf l.tail)
    · rw [if_pos h2]
      have := body_len l.tail h2.1
      rw [List.length_tail] at this
      refine ⟨by simp, ?_⟩
      show (bodyOf l.tail).length + 2 ≤ l.length
      omega
    · rw [if_neg h2] at h; simp at h
  rw [if_neg h1] at h ⊢
  by_cases h2 : l.getD 0 0 = 13
  · rw [if_pos h2]
    by_cases h3 : l.getD 1 0 = 10
    · rw [if_pos h3]
      refine ⟨by simp, ?_⟩
      match l, h3 with
      | _ :: _ :: _, _ => simp
      | [_], h3 => simp at h3
      | [], h3 => simp at h3
    · rw [if_neg h3]; exact ⟨by simp, hl1⟩
  rw [if_neg h2] at h ⊢
  by_cases h3 : l.getD 0 0 = 9 ∨ l.getD 0 0 = 10
  · rw [if_pos h3]; exact ⟨by simp, hl1⟩
  rw [if_neg h3] at h ⊢
  by_cases h4 : (dec1 l).2.2 ≠ 0
  · rw [if_pos h4] at h; exact absurd h h4
  rw [if_neg h4] at h ⊢
  by_cases h5 : Chr (dec1 l).1
  · rw [if_pos h5]; exact dec_ok1 hl hn (by simpa using h4)
  · rw [if_neg h5] at h; simp at h

theorem readL_fuel (v : Bool) : ∀ (f g : Nat) (L : List Int), NN L → L.length ≤ f → L.length ≤ g → readL v f L = readL v g L
  | 0, g, L, _, hf, _ => by
    have : L = [] := List.eq_nil_of_length_eq_zero (by omega)
    subst this
    cases g <;> simp [readL]
  | f + 1, 0, L, _, _, hg => by
    have : L = [] := List.eq_nil_of_length_eq_zero (by omega)
    subst this
    simp [readL]
  | f + 1, g + 1, L, hn, hf, hg => by
    by_cases hl : L = []
    · subst hl; simp [readL]
    by_cases he : (stepF v L).1 ≠ 0
    · rw [readL, readL, if_neg hl, if_neg hl, if_pos he, if_pos he]
    · have := step_bd v L hl hn (by simpa using he)
      rw [readL, readL, if_neg hl, if_neg hl, if_neg he, if_neg he]
      rw [readL_fuel v f g _ (hn.drop _) (by rw [List.length_drop]; omega) (by rw [List.length_drop]; omega)]
theorem readF_nil (v : Bool) : readF v [] = ([], 0, 0) := rfl
theorem readF_err (v : Bool) (L : List Int) (hl : L ≠ []) (h : (stepF v L).1 ≠ 0) : readF v L = ([], 0, (stepF v L).1) := by
  unfold readF
  cases hL : L.length with
  | zero => exact absurd (List.eq_nil_of_length_eq_zero hL) hl
  | succ f => rw [readL, if_neg hl, if_pos h]
theorem readF_ok (v : Bool) (L : List Int) (hl : L ≠ []) (hn : NN L) (h : (stepF v L).1 = 0) :
    readF v L = ((stepF v L).2.1 ++ (readF v (L.drop (stepF v L).2.2)).1, (stepF v L).2.2 + (readF v (L.drop (stepF v L).2.2)).2.1, (readF v (L.drop (stepF v L).2.2)).2.2) := by
  have hb := step_bd v L hl hn h
  unfold readF
  cases hL : L.length with
  | zero => exact absurd (List.eq_nil_of_length_eq_zero hL) hl
  | succ f =>
    rw [readL, if_neg hl, if_neg (by simpa using h)]
    rw [readL_fuel v f (L.drop (stepF v L).2.2).length _ (hn.drop _) (by rw [List.length_drop]; omega) (Nat.le_refl _)]
/-- What Text and Value answer. -/
def ansF (v : Bool) (l : List Int) : List Int × Int × Int := if (readF v l).2.2 = 0 then ((readF v l).1, 0, 0) else ([], ((readF v l).2.1 : Int), (readF v l).2.2)

end Go.Proofs.YtnomcldpbkinmaaGreatDoor

/- Walks: what utf's small functions return (lead, span, follow, possible), whatever the world. -/
namespace Go.Proofs.YtnomcldpbkinmaaGreatDoor
open Go.RowKit

theorem i32_or0 (x : Int) (h0 : 0 ≤ x) (h1 : x < 2147483648) : bits .or .i32 x 0 = x := by
  have := bits_join .i32 31 (by decide) wraps_i32 0 x 0 h0 (by omega) h1 (by omega) (by omega) (by omega)
  simpa using this
theorem ret_two {k1 k2 : IntKind} {a b a1 b1 : Int} (h : a = a1) (h1 : b = b1) : Ending.returned (.tuple #[.int k1 a, .int k2 b]) = .returned (.tuple #[.int k1 a1, .int k2 b1]) := by rw [h, h1]
theorem ret_bool {a b : Bool} (h : a = b) : Ending.returned (.bool a) = .returned (.bool b) := by rw [h]

set_option maxHeartbeats 400000 in
theorem lead_any (b : Int) (w : World) (h0 : 0 ≤ b) (h1 : b < 256) : Calls Tryz.prog 170 #[.int .u8 b] w fun e w' => e = .returned (.tuple #[.int .i32 (leadR b), .int .i64 (leadN b)]) ∧ w = w' := by
  go_enter Tryz.func170, Tryz.ntmps170
  go_wp2
  all_goals
    go_ret2
    refine ⟨?_, rfl⟩
    simp only [beq_iff_eq, beq_eq_false_iff_ne] at *
    unfold leadR leadN
    refine ret_two ?_ ?_
    · repeat' split
      all_goals omega
    · repeat' split
      all_goals omega

set_option maxHeartbeats 4000000 in
theorem poss_any (r : Int) (k n : Nat) (w : World) (h0 : 0 ≤ r) (h1 : r * p64 (n - k) < 2097152) (hk : 1 ≤ k) (hn : k ≤ n) (h4 : n ≤ 4) :
    Calls Tryz.prog 171 #[.int .i32 r, .int .i64 k, .int .i64 n] w fun e w' => e = .returned (.bool (possB r k n)) ∧ w = w' := by
  have h : (k = 1 ∧ n = 1) ∨ (k = 1 ∧ n = 2) ∨ (k = 2 ∧ n = 2) ∨ (k = 1 ∧ n = 3) ∨ (k = 2 ∧ n = 3) ∨ (k = 3 ∧ n = 3) ∨ (k = 1 ∧ n = 4) ∨ (k = 2 ∧ n = 4) ∨ (k = 3 ∧ n = 4) ∨ (k = 4 ∧ n = 4) := by omega
  rcases h with ⟨rfl, rfl⟩ | ⟨rfl, rfl⟩ | ⟨rfl, rfl⟩ | ⟨rfl, rfl⟩ | ⟨rfl, rfl⟩ | ⟨rfl, rfl⟩ | ⟨rfl, rfl⟩ | ⟨rfl, rfl⟩ | ⟨rfl, rfl⟩ | ⟨rfl, rfl⟩
  all_goals
    simp only [Nat.reduceSub, p64_0, p64_1, p64_2, p64_3] at h1
    have h00 := i32_or0 r h0 (by omega)
    go_enter Tryz.func171, Tryz.ntmps171
    go_wp2
    all_goals
      go_ret
      refine ⟨ret_bool (possB_eq _ _ _ _ ?_).symm, rfl⟩
      simp only [Nat.reduceSub, p64_0, p64_1, p64_2, p64_3, least1, least2, least3, least4, most1, most2, most3, most4, decide_eq_true_eq, Bool.false_eq_true, iff_false]
      first
        | omega
        | (simp only [iff_true]; omega)
        | (simp; omega)

set_option maxHeartbeats 400000 in
theorem poss_zero (r : Int) (k : Int) (w : World) :
    Calls Tryz.prog 171 #[.int .i32 r, .int .i64 k, .int .i64 0] w fun e w' => e = .returned (.bool false) ∧ w = w' := by
  go_enter Tryz.func171, Tryz.ntmps171
  go_wp2
  go_ret
  exact ⟨rfl, rfl⟩
end Go.Proofs.YtnomcldpbkinmaaGreatDoor
