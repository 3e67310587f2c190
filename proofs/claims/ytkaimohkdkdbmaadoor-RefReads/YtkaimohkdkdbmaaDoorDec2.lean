/-
  Decoding a whole list of bytes.
-/
import Derived.Test.YtkaimohkdkdbmaaDoorDec
set_option linter.unusedSimpArgs false
set_option linter.unusedVariables false
namespace Go.Proofs.YtkaimohkdkdbmaaDoor

/-- No number below 0. -/
def NN (L : List Int) : Prop := ∀ x ∈ L, 0 ≤ x
theorem NN.getD {L : List Int} (h : NN L) (k : Nat) : 0 ≤ L.getD k 0 := by
  rw [List.getD_eq_getElem?_getD]
  rcases Nat.lt_or_ge k L.length with hk | hk
  · rw [List.getElem?_eq_getElem hk]; exact h _ (List.getElem_mem hk)
  · rw [List.getElem?_eq_none hk]; exact Int.le_refl 0
theorem NN.drop {L : List Int} (h : NN L) (k : Nat) : NN (L.drop k) := fun x hx => h x (List.mem_of_mem_drop hx)
theorem NN.take {L : List Int} (h : NN L) (k : Nat) : NN (L.take k) := fun x hx => h x (List.mem_of_mem_take hx)

def decL : Nat → List Int → List Int × Nat × Int
  | 0, _ => ([], 0, 0)
  | f + 1, L => if L = [] then ([], 0, 0) else if (dec1 L).2.2 = 0 then ((dec1 L).1 :: (decL f (L.drop (dec1 L).2.1.toNat)).1, (dec1 L).2.1.toNat + (decL f (L.drop (dec1 L).2.1.toNat)).2.1, (decL f (L.drop (dec1 L).2.1.toNat)).2.2) else ([], 0, (dec1 L).2.2)
def decF (L : List Int) : List Int × Nat × Int := decL L.length L

theorem dec_ok1 {L : List Int} (hl : L ≠ []) (hn : NN L) (h : (dec1 L).2.2 = 0) : 1 ≤ (dec1 L).2.1.toNat ∧ (dec1 L).2.1.toNat ≤ L.length := by
  have hi := dec_inv L hl hn.getD h
  have := encB_len (dec1 L).1
  omega
theorem decL_nil (f : Nat) : decL f [] = ([], 0, 0) := by cases f <;> simp [decL]
theorem decL_err (f : Nat) (L : List Int) (hl : L ≠ []) (h : (dec1 L).2.2 ≠ 0) : decL (f + 1) L = ([], 0, (dec1 L).2.2) := by rw [decL, if_neg hl, if_neg h]
theorem decL_ok (f : Nat) (L : List Int) (hl : L ≠ []) (h : (dec1 L).2.2 = 0) : decL (f + 1) L = ((dec1 L).1 :: (decL f (L.drop (dec1 L).2.1.toNat)).1, (dec1 L).2.1.toNat + (decL f (L.drop (dec1 L).2.1.toNat)).2.1, (decL f (L.drop (dec1 L).2.1.toNat)).2.2) := by
  rw [decL, if_neg hl, if_pos h]
theorem decL_fuel : ∀ (f g : Nat) (L : List Int), NN L → L.length ≤ f → L.length ≤ g → decL f L = decL g L
  | 0, g, L, _, hf, _ => by
    have : L = [] := List.eq_nil_of_length_eq_zero (by omega)
    subst this
    rw [decL_nil, decL_nil]
  | f + 1, 0, L, _, _, hg => by
    have : L = [] := List.eq_nil_of_length_eq_zero (by omega)
    subst this
    rw [decL_nil, decL_nil]
  | f + 1, g + 1, L, hn, hf, hg => by
    by_cases hl : L = []
    · subst hl; rw [decL_nil, decL_nil]
    by_cases h : (dec1 L).2.2 = 0
    · have hk := dec_ok1 hl hn h
      rw [decL_ok f L hl h, decL_ok g L hl h, decL_fuel f g (L.drop (dec1 L).2.1.toNat) (hn.drop _) (by simp; omega) (by simp; omega)]
    · rw [decL_err f L hl h, decL_err g L hl h]
theorem decF_nil : decF [] = ([], 0, 0) := rfl
theorem decF_err (L : List Int) (hl : L ≠ []) (h : (dec1 L).2.2 ≠ 0) : decF L = ([], 0, (dec1 L).2.2) := by
  have hp := List.length_pos_iff.2 hl
  unfold decF
  rw [show L.length = (L.length - 1) + 1 by omega]
  exact decL_err _ L hl h
theorem decF_ok (L : List Int) (hl : L ≠ []) (hn : NN L) (h : (dec1 L).2.2 = 0) : decF L = ((dec1 L).1 :: (decF (L.drop (dec1 L).2.1.toNat)).1, (dec1 L).2.1.toNat + (decF (L.drop (dec1 L).2.1.toNat)).2.1, (decF (L.drop (dec1 L).2.1.toNat)).2.2) := by
  have hp := List.length_pos_iff.2 hl
  have hk := dec_ok1 hl hn h
  have e : decL L.length L = decL ((L.length - 1) + 1) L := by rw [show (L.length - 1) + 1 = L.length by omega]
  unfold decF
  rw [e, decL_ok _ L hl h, decL_fuel (L.length - 1) (L.drop (dec1 L).2.1.toNat).length _ (hn.drop _) (by simp; omega) (Nat.le_refl _)]

theorem encB_ne (r : Int) : encB r ≠ [] := by
  intro e
  have := encB_len r
  rw [e] at this
  simp at this
theorem encB_nn (r : Int) (h : ¬ Bad r) : NN (encB r) ∧ ∀ x ∈ encB r, x ≤ 255 := by
  unfold Bad at h
  unfold NN
  by_cases h1 : r < 128
  · rw [enc1 h1]; simp; omega
  by_cases h2 : r < 2048
  · rw [enc2 (by omega) h2]; simp; omega
  by_cases h3 : r < 65536
  · rw [enc3 (by omega) h3]; simp; omega
  · rw [enc4 (by omega)]; simp; omega

theorem decF_enc (r : Int) (T : List Int) (h : ¬ Bad r) (hT : NN T) : decF (encB r ++ T) = (r :: (decF T).1, (encB r).length + (decF T).2.1, (decF T).2.2) := by
  have hd := dec_enc r T h
  have hne : encB r ++ T ≠ [] := by simp [encB_ne]
  have hnn : NN (encB r ++ T) := fun x hx => by
    rcases List.mem_append.1 hx with hx | hx
    · exact (encB_nn r h).1 x hx
    · exact hT x hx
  rw [decF_ok _ hne hnn (by rw [hd]), hd]
  simp
def Good (l : List Int) : Prop := ∀ r ∈ l, ¬ Bad r
theorem putL_nn (l : List Int) (h : Good l) : NN (l.flatMap putI) ∧ ∀ x ∈ l.flatMap putI, x ≤ 255 := by
  refine ⟨fun x hx => ?_, fun x hx => ?_⟩
  · obtain ⟨r, hr, hx⟩ := List.mem_flatMap.1 hx
    rw [putI_ok (h r hr)] at hx
    exact (encB_nn r (h r hr)).1 x hx
  · obtain ⟨r, hr, hx⟩ := List.mem_flatMap.1 hx
    rw [putI_ok (h r hr)] at hx
    exact (encB_nn r (h r hr)).2 x hx

theorem decF_put : ∀ (l T : List Int), Good l → NN T → decF (l.flatMap putI ++ T) = (l ++ (decF T).1, (l.flatMap putI).length + (decF T).2.1, (decF T).2.2)
  | [], T, _, _ => by simp
  | r :: l, T, h, hT => by
    have hr : ¬ Bad r := h r (by simp)
    have hl : Good l := fun x hx => h x (by simp [hx])
    have ih := decF_put l T hl hT
    have hnn : NN (l.flatMap putI ++ T) := fun x hx => by
      rcases List.mem_append.1 hx with hx | hx
      · exact (putL_nn l hl).1 x hx
      · exact hT x hx
    rw [List.flatMap_cons, putI_ok hr, List.append_assoc, decF_enc r _ hr hnn, ih]
    simp [Nat.add_assoc]

/-- What is decoded, put again, is what was there; without an error, all of it. -/
def Back (L : List Int) (x : List Int × Nat × Int) : Prop :=
  Good x.1 ∧ x.1.flatMap putI = L.take x.2.1 ∧ x.2.1 ≤ L.length ∧ (x.2.2 = 0 → x.2.1 = L.length) ∧ (x.2.2 ≠ 0 → x.2.1 < L.length)
theorem decF_back : ∀ (n : Nat) (L : List Int), L.length ≤ n → NN L → Back L (decF L)
  | 0, L, h, hn => by
    have : L = [] := List.eq_nil_of_length_eq_zero (by omega)
    subst this
    rw [decF_nil]
    exact ⟨fun r hr => by simp at hr, rfl, Nat.le_refl _, fun _ => rfl, fun h => absurd rfl h⟩
  | n + 1, L, h, hn => by
    by_cases hl : L = []
    · subst hl
      rw [decF_nil]
      exact ⟨fun r hr => by simp at hr, rfl, Nat.le_refl _, fun _ => rfl, fun h => absurd rfl h⟩
    have hp := List.length_pos_iff.2 hl
    by_cases he : (dec1 L).2.2 = 0
    · have hi := dec_inv L hl hn.getD he
      obtain ⟨hb, hlen, htk, hle⟩ := hi
      have h1 := encB_len (dec1 L).1
      rw [decF_ok L hl hn he]
      have ht : (dec1 L).2.1.toNat = (encB (dec1 L).1).length := by omega
      rw [ht]
      generalize (dec1 L).1 = r at *
      obtain ⟨a, b, c, d, e⟩ := decF_back n (L.drop (encB r).length) (by simp; omega) (hn.drop _)
      generalize decF (L.drop (encB r).length) = y at *
      rw [List.length_drop] at c d e
      refine ⟨?_, ?_, ?_, ?_, ?_⟩
      · intro x hx
        rcases List.mem_cons.1 hx with rfl | hx
        · exact hb
        · exact a x hx
      · show (r :: y.1).flatMap putI = L.take ((encB r).length + y.2.1)
        rw [List.flatMap_cons, putI_ok hb, b, List.take_add, htk]
      · show (encB r).length + y.2.1 ≤ L.length
        omega
      · intro h0
        have := d h0
        show (encB r).length + y.2.1 = L.length
        omega
      · intro h0
        have := e h0
        show (encB r).length + y.2.1 < L.length
        omega
    · rw [decF_err L hl he]
      exact ⟨fun r hr => by simp at hr, rfl, Nat.zero_le _, fun h => absurd h he, fun _ => hp⟩
end Go.Proofs.YtkaimohkdkdbmaaDoor
