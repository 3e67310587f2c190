/-
  Bytes that are cut anywhere, the end that begins a rune laid ahead of what follows, are decoded to the same.
-/
import Derived.Test.YtjpmffgjlfjgaaaStr
set_option linter.unusedSimpArgs false
set_option linter.unusedVariables false
namespace Go.Proofs.Ytjpmffgjlfjgaaa

theorem split_at : ∀ (l : List Int) (k : Nat), Good l → k ≤ (l.flatMap putI).length → ∃ l1 l2 t, l = l1 ++ l2 ∧ (l.flatMap putI).take k = l1.flatMap putI ++ t ∧ Tail t ∧ t.length ≤ 3
  | [], k, _, hk => ⟨[], [], [], rfl, by simp, .inl rfl, by simp⟩
  | r :: l, k, hg, hk => by
    have hr : ¬ Bad r := hg r (by simp)
    have hl : Good l := fun x hx => hg x (by simp [hx])
    have h4 := encB_len r
    rw [List.flatMap_cons, putI_ok hr, List.length_append] at hk
    by_cases h : k < (encB r).length
    · refine ⟨[], r :: l, (encB r).take k, rfl, ?_, ?_, ?_⟩
      · rw [List.flatMap_cons, putI_ok hr, List.take_append, show k - (encB r).length = 0 by omega]
        simp
      · by_cases h0 : k = 0
        · subst h0; exact .inl (by simp)
        · exact .inr ⟨r, k, hr, by omega, h, rfl⟩
      · rw [List.length_take]; omega
    · obtain ⟨l1, l2, t, e1, e2, e3, e4⟩ := split_at l (k - (encB r).length) hl (by omega)
      refine ⟨r :: l1, l2, t, by rw [e1]; rfl, ?_, e3, e4⟩
      rw [List.flatMap_cons, List.flatMap_cons, putI_ok hr, List.take_append, List.take_of_length_le (by omega), e2, List.append_assoc]

theorem wholeGo_le (s : ByteArray) : ∀ f n, wholeGo s f n ≤ s.size
  | 0, n => Nat.le_refl _
  | f + 1, n => by
    have := wholeGo_le s f (n + 1)
    unfold wholeGo
    split
    · split
      · omega
      · exact this
    · omega
theorem size_ext (s : ByteArray) (k : Nat) (hk : k ≤ s.size) : (s.extract 0 k).size = k := by
  rw [← byts_len, byts_extract, List.drop_zero, List.length_take, byts_len]; omega
theorem size_sub (s : ByteArray) (a b : Nat) : (s.extract a b).size ≤ s.size := by
  have h := byts_len (s.extract a b)
  rw [byts_extract, List.length_drop, List.length_take, byts_len] at h
  omega
theorem whole_le (s : ByteArray) (k : Nat) (hk : k ≤ s.size) : wholeF (s.extract 0 k) ≤ k := by
  have := wholeGo_le (s.extract 0 k) 3 1
  rw [size_ext s k hk] at this
  exact this

/-- The whole, cut at n, where the first part is decoded to its end. -/
theorem cut_err (s : ByteArray) (n : Nat) (hn : n ≤ s.size) (h : (allF (s.extract 0 n)).2.2 = 0) : (allF (s.extract n s.size)).2.2 = (allF s).2.2 := by
  rw [allF_dec] at h
  simp only at h
  obtain ⟨a, b, c, d, e⟩ := decF_back _ _ (Nat.le_refl _) (byts_nn (s.extract 0 n))
  have hd := d h
  rw [hd, List.take_length] at b
  rw [byts_extract, List.drop_zero] at b
  rw [allF_dec, allF_dec]
  simp only
  rw [byts_extract, List.take_of_length_le (by rw [byts_len]; exact Nat.le_refl _)]
  have hs : byts s = (decF (byts (s.extract 0 n))).1.flatMap putI ++ (byts s).drop n := by
    rw [byts_extract, List.drop_zero] at *
    rw [b, List.take_append_drop]
  have := decF_put (decF (byts (s.extract 0 n))).1 ((byts s).drop n) a ((byts_nn s).drop n)
  rw [← hs] at this
  rw [this]
theorem cut_at (s : ByteArray) (n : Nat) (h : (allF (s.extract 0 n)).2.2 ≠ 0) (hn : n ≤ s.size) : (allF (s.extract 0 n)).2.1 < n := by
  rw [allF_dec] at h ⊢
  simp only at h ⊢
  obtain ⟨a, b, c, d, e⟩ := decF_back _ _ (Nat.le_refl _) (byts_nn (s.extract 0 n))
  have := e h
  rw [byts_len, size_ext s n hn] at this
  omega
theorem cut_ok (s : ByteArray) (k : Nat) (hk : k ≤ s.size) (h : (allF s).2.2 = 0) :
    k ≤ wholeF (s.extract 0 k) + 3 ∧ (allF (s.extract 0 (wholeF (s.extract 0 k)))).2.2 = 0 ∧ (allF (s.extract (wholeF (s.extract 0 k)) s.size)).2.2 = 0 ∧
      (allF (s.extract 0 (wholeF (s.extract 0 k)))).1 ++ (allF (s.extract (wholeF (s.extract 0 k)) s.size)).1 = (allF s).1 := by
  rw [allF_dec] at h
  simp only at h
  obtain ⟨hg, b, c, d, e⟩ := decF_back _ _ (Nat.le_refl _) (byts_nn s)
  rw [d h, List.take_length] at b
  have hl : (decF (byts s)).1.flatMap putI = byts s := b
  have hall : (allF s).1 = (decF (byts s)).1 := by rw [allF_dec]
  rw [hall]
  generalize (decF (byts s)).1 = l at *
  obtain ⟨l1, l2, t, e1, e2, e3, e4⟩ := split_at l k hg (by rw [hl, byts_len]; exact hk)
  subst e1
  have g1 : Good l1 := fun x hx => hg x (by simp [hx])
  have g2 : Good l2 := fun x hx => hg x (by simp [hx])
  have hw : wholeF (s.extract 0 k) = (l1.flatMap putI).length := whole_eq _ l1 t (by rw [byts_extract, List.drop_zero, ← hl, e2]) g1 e3
  have hlen : k = (l1.flatMap putI).length + t.length := by
    have := congrArg List.length e2
    rw [List.length_take, List.length_append, hl, byts_len] at this
    omega
  rw [hw]
  have b1 : byts (s.extract 0 (l1.flatMap putI).length) = l1.flatMap putI := by
    rw [byts_extract, List.drop_zero, ← hl, List.flatMap_append, List.take_left' rfl]
  have b2 : byts (s.extract (l1.flatMap putI).length s.size) = l2.flatMap putI := by
    rw [byts_extract, List.take_of_length_le (by rw [byts_len]; exact Nat.le_refl _), ← hl, List.flatMap_append, List.drop_left' rfl]
  have d1 := decF_put l1 [] g1 (fun x hx => by simp at hx)
  have d2 := decF_put l2 [] g2 (fun x hx => by simp at hx)
  rw [List.append_nil, decF_nil] at d1 d2
  rw [allF_dec, allF_dec, b1, b2, d1, d2]
  simp only [List.append_nil]
  exact ⟨by omega, trivial, trivial, trivial⟩
theorem good_len (l : List Int) (h : Good l) : l.length ≤ (l.flatMap putI).length := by
  induction l with
  | nil => simp
  | cons r l ih =>
    have h1 := encB_len r
    have := ih fun x hx => h x (by simp [hx])
    rw [List.flatMap_cons, putI_ok (h r (by simp)), List.length_append, List.length_cons]
    omega
theorem allF_len (s : ByteArray) : (allF s).1.length ≤ s.size := by
  obtain ⟨a, b, c, d, e⟩ := decF_back _ _ (Nat.le_refl _) (byts_nn s)
  rw [allF_dec]
  simp only
  have := good_len _ a
  rw [b, List.length_take, byts_len] at this
  omega
end Go.Proofs.Ytjpmffgjlfjgaaa
