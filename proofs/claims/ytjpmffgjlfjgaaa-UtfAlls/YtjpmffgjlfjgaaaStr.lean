/-
  Strings as lists of bytes: Rune, All and Whole by them.
-/
import Derived.Test.YtjpmffgjlfjgaaaDec2
import Derived.Test.YtjpmffgjlfjgaaaPut
import Derived.Test.YtjpmffgjlfjgaaaWhole
set_option linter.unusedSimpArgs false
set_option linter.unusedVariables false
namespace Go.Proofs.Ytjpmffgjlfjgaaa

def byts (s : ByteArray) : List Int := s.data.toList.map fun b => (b.toNat : Int)
theorem byts_len (s : ByteArray) : (byts s).length = s.size := by simp [byts]
theorem byts_nn (s : ByteArray) : NN (byts s) := fun x hx => by
  obtain ⟨b, _, rfl⟩ := List.mem_map.1 hx
  omega
theorem bt_byts (s : ByteArray) (k : Nat) : bt s k = (byts s).getD k 0 := by
  unfold bt byts
  simp only [List.getD_eq_getElem?_getD, List.getElem?_map]
  cases s.data.toList[k]? <;> simp
theorem runeF_dec (s : ByteArray) (a : Nat) (h : a < s.size) : runeF s a = dec1 ((byts s).drop a) := by
  unfold runeF dec1
  rw [if_neg (by omega), Int.toNat_natCast, List.length_drop, byts_len]
  congr 1
  funext k
  rw [bt_byts]
  simp [List.getD_eq_getElem?_getD, List.getElem?_drop]
theorem allGo_dec (s : ByteArray) : ∀ (f a : Nat), a ≤ s.size →
    allGo s f a = ((decL f ((byts s).drop a)).1, ((a + (decL f ((byts s).drop a)).2.1 : Nat) : Int), (decL f ((byts s).drop a)).2.2)
  | 0, a, h => by simp [allGo, decL]
  | f + 1, a, h => by
    by_cases hlt : a < s.size
    · have hne : (byts s).drop a ≠ [] := by
        intro e
        have := congrArg List.length e
        rw [List.length_drop, byts_len] at this
        simp at this
        omega
      by_cases he : (runeF s a).2.2 = 0
      · rw [allGo_ok s f a hlt he]
        have hk := runeF_okay s a hlt
        have hn : (runeF s a).2.1.toNat ≤ s.size - a := by
          rcases hk with hk | hk
          · omega
          · omega
        rw [runeF_dec s a hlt] at he hn ⊢
        rw [decL_ok f _ hne he, allGo_dec s f _ (by omega)]
        simp [Nat.add_assoc]
      · rw [allGo_err s f a hlt he]
        rw [runeF_dec s a hlt] at he ⊢
        rw [decL_err f _ hne he]
        simp
    · rw [allGo_done s _ a (by omega)]
      have : (byts s).drop a = [] := List.drop_of_length_le (by rw [byts_len]; omega)
      rw [this, decL_nil]
      simp
theorem allF_dec (s : ByteArray) : allF s = ((decF (byts s)).1, ((decF (byts s)).2.1 : Int), (decF (byts s)).2.2) := by
  unfold allF decF
  rw [allGo_dec s s.size 0 (by omega), byts_len]
  simp

theorem ofNat_toNat (x : Int) (h0 : 0 ≤ x) (h1 : x ≤ 255) : ((UInt8.ofNat x.toNat).toNat : Int) = x := by
  rw [UInt8.toNat_ofNat']
  omega
theorem byts_str (l : List Int) (h : NN l) (h1 : ∀ x ∈ l, x ≤ 255) : byts (strOfNums l) = l := by
  unfold byts
  rw [strOfNums_data, List.map_map]
  conv => rhs; rw [← List.map_id l]
  refine List.map_congr_left fun x hx => ?_
  simp only [Function.comp]
  exact ofNat_toNat x (h x hx) (h1 x hx)
theorem byts_inj {s t : ByteArray} (h : byts s = byts t) : s = t := by
  unfold byts at h
  have hl := congrArg List.length h
  simp only [List.length_map] at hl
  have : s.data.toList = t.data.toList := by
    refine List.ext_getElem hl fun i h1 h2 => ?_
    have := congrArg (fun l => l[i]?) h
    simp only [List.getElem?_map, List.getElem?_eq_getElem h1, List.getElem?_eq_getElem h2, Option.map_some, Option.some.injEq] at this
    exact UInt8.toNat_inj.1 (by omega)
  cases s; cases t
  simp only [ByteArray.mk.injEq] at this ⊢
  exact Array.toList_inj.1 this
theorem byts_extract (s : ByteArray) (a b : Nat) : byts (s.extract a b) = ((byts s).take b).drop a := by
  unfold byts
  rw [ByteArray.data_extract, Array.toList_extract, List.extract_eq_take_drop, List.map_take, List.map_drop, List.drop_take]

/-- Where the bytes are those of whole runes, no place within them is cut off. -/
theorem put_pos : ∀ (l t : List Int) (p : Nat), Good l → p < (l.flatMap putI).length → (dec1 ((l.flatMap putI ++ t).drop p)).2.2 ≠ 7
  | [], t, p, _, h => by simp at h
  | r :: l, t, p, hg, h => by
    have hr : ¬ Bad r := hg r (by simp)
    have hl : Good l := fun x hx => hg x (by simp [hx])
    rw [List.flatMap_cons, putI_ok hr, List.append_assoc]
    rw [List.flatMap_cons, putI_ok hr, List.length_append] at h
    by_cases h0 : p = 0
    · subst h0
      rw [List.drop_zero, dec_enc r _ hr]
      simp
    by_cases h1 : p < (encB r).length
    · obtain ⟨a, b⟩ := enc_follow r (l.flatMap putI ++ t) p hr (by omega) h1
      rw [dec_follow _ a b]
      simp
    · rw [List.drop_append, List.drop_of_length_le (by omega), List.nil_append]
      exact put_pos l t (p - (encB r).length) hl (by omega)

/-- An end that begins a rune, or nothing. -/
def Tail (t : List Int) : Prop := t = [] ∨ ∃ r j, ¬ Bad r ∧ 1 ≤ j ∧ j < (encB r).length ∧ t = (encB r).take j
theorem whole_eq (s : ByteArray) (l t : List Int) (hB : byts s = l.flatMap putI ++ t) (hg : Good l) (ht : Tail t) : wholeF s = (l.flatMap putI).length := by
  have hsz : s.size = (l.flatMap putI).length + t.length := by rw [← byts_len, hB, List.length_append]
  have P : ∀ p, p < (l.flatMap putI).length → (runeF s (p : Int)).2.2 ≠ 7 := fun p hp => by
    rw [runeF_dec s p (by omega), hB]
    exact put_pos l t p hg hp
  have st : ∀ f n, wholeGo s (f + 1) n = if n ≤ s.size then if (runeF s ((s.size - n : Nat) : Int)).2.2 = 7 then s.size - n else wholeGo s f (n + 1) else s.size := fun _ _ => rfl
  have s0 : ∀ n, wholeGo s 0 n = s.size := fun _ => rfl
  rcases ht with rfl | ⟨r, j, hr, h1, h2, rfl⟩
  · have S : ∀ n f, 1 ≤ n → (wholeGo s f (n + 1) = s.size) → wholeGo s (f + 1) n = s.size := fun n f hn hf => by
      rw [st]
      by_cases hle : n ≤ s.size
      · rw [if_pos hle, if_neg (P _ (by rw [List.length_nil] at hsz; omega)), hf]
      · rw [if_neg hle]
    have : wholeF s = s.size := S 1 2 (by omega) (S 2 1 (by omega) (S 3 0 (by omega) (s0 4)))
    rw [this, hsz]
    simp
  · have h4 := encB_len r
    have htl : ((encB r).take j).length = j := by rw [List.length_take]; omega
    rw [htl] at hsz
    have F : ∀ n, 1 ≤ n → n < j → (runeF s ((s.size - n : Nat) : Int)).2.2 ≠ 7 := fun n n1 nj => by
      rw [runeF_dec s _ (by omega), hB, List.drop_append, List.drop_of_length_le (by omega), List.nil_append]
      have hd : s.size - n - (l.flatMap putI).length = j - n := by omega
      rw [hd]
      obtain ⟨a, b⟩ := enc_follow r [] (j - n) hr (by omega) (by omega)
      rw [List.append_nil] at a b
      have e : ((encB r).take j).drop (j - n) = ((encB r).drop (j - n)).take n := by
        rw [List.drop_take]
        congr 1
        omega
      have g : (((encB r).take j).drop (j - n)).getD 0 0 = ((encB r).drop (j - n)).getD 0 0 := by
        rw [e]
        cases (encB r).drop (j - n) with
        | nil => simp
        | cons x y =>
          match n, n1 with
          | m + 1, _ => simp
      rw [dec_follow _ (by rw [g]; exact a) (by rw [g]; exact b)]
      simp
    have C : (runeF s ((s.size - j : Nat) : Int)).2.2 = 7 := by
      rw [runeF_dec s _ (by omega), hB, List.drop_append, List.drop_of_length_le (by omega), List.nil_append]
      have hd : s.size - j - (l.flatMap putI).length = 0 := by omega
      rw [hd, List.drop_zero, dec_cut r j hr h1 h2]
    have hj : j = 1 ∨ j = 2 ∨ j = 3 := by omega
    unfold wholeF
    rcases hj with rfl | rfl | rfl
    · rw [st, if_pos (by omega), if_pos C]; omega
    · rw [st, if_pos (by omega), if_neg (F 1 (by omega) (by omega)), st, if_pos (by omega), if_pos C]; omega
    · rw [st, if_pos (by omega), if_neg (F 1 (by omega) (by omega)), st, if_pos (by omega), if_neg (F 2 (by omega) (by omega)), st, if_pos (by omega), if_pos C]; omega
end Go.Proofs.Ytjpmffgjlfjgaaa
