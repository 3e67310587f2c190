/-
  Strings as lists of bytes: Rune, All and Whole by them.
-/
import Derived.Test.YtkaimohkdkdbmaaDoorDec2
import Derived.Test.YtkaimohkdkdbmaaDoorMem
set_option linter.unusedSimpArgs false
set_option linter.unusedVariables false
namespace Go.Proofs.YtkaimohkdkdbmaaDoor

def byts (s : ByteArray) : List Int := s.data.toList.map fun b => (b.toNat : Int)
theorem byts_len (s : ByteArray) : (byts s).length = s.size := by simp [byts]
theorem byts_nn (s : ByteArray) : NN (byts s) := fun x hx => by
  obtain ⟨b, _, rfl⟩ := List.mem_map.1 hx
  omega
theorem bt_byts (s : ByteArray) (k : Nat) : bt s k = (byts s).getD k 0 := by
  unfold bt byts
  simp only [List.getD_eq_getElem?_getD, List.getElem?_map]
  cases s.data.toList[k]? <;> simp
theorem runeF_dec (s : ByteArray) (a : Nat) (h : a < s.size) : runeF s a = dec1 ((byts s).drop a) := by
  unfold runeF dec1
  rw [if_neg (by omega), Int.toNat_natCast, List.length_drop, byts_len]
  congr 1
  funext k
  rw [bt_byts]
  simp [List.getD_eq_getElem?_getD, List.getElem?_drop]
theorem allGo_dec (s : ByteArray) : ∀ (f a : Nat), a ≤ s.size →
    allGo s f a = ((decL f ((byts s).drop a)).1, ((a + (decL f ((byts s).drop a)).2.1 : Nat) : Int), (decL f ((byts s).drop a)).2.2)
  | 0, a, h => by simp [allGo, decL]
  | f + 1, a, h => by
    by_cases hlt : a < s.size
    · have hne : (byts s).drop a ≠ [] := by
        intro e
        have := congrArg List.length e
        rw [List.length_drop, byts_len] at this
        simp at this
        omega
      by_cases he : (runeF s a).2.2 = 0
      · rw [allGo_ok s f a hlt he]
        have hk := runeF_okay s a hlt
        have hn : (runeF s a).2.1.toNat ≤ s.size - a := by
          rcases hk with hk | hk
          · omega
          · omega
        rw [runeF_dec s a hlt] at he hn ⊢
        rw [decL_ok f _ hne he, allGo_dec s f _ (by omega)]
        simp [Nat.add_assoc]
      · rw [allGo_err s f a hlt he]
        rw [runeF_dec s a hlt] at he ⊢
        rw [decL_err f _ hne he]
        simp
    · rw [allGo_done s _ a (by omega)]
      have : (byts s).drop a = [] := List.drop_of_length_le (by rw [byts_len]; omega)
      rw [this, decL_nil]
      simp
theorem allF_dec (s : ByteArray) : allF s = ((decF (byts s)).1, ((decF (byts s)).2.1 : Int), (decF (byts s)).2.2) := by
  unfold allF decF
  rw [allGo_dec s s.size 0 (by omega), byts_len]
  simp

theorem ofNat_toNat (x : Int) (h0 : 0 ≤ x) (h1 : x ≤ 255) : ((UInt8.ofNat x.toNat).toNat : Int) = x := by
  rw [UInt8.toNat_ofNat']
  omega
theorem byts_str (l : List Int) (h : NN l) (h1 : ∀ x ∈ l, x ≤ 255) : byts (strOfNums l) = l := by
  unfold byts
  rw [strOfNums_data, List.map_map]
  conv => rhs; rw [← List.map_id l]
  refine List.map_congr_left fun x hx => ?_
  simp only [Function.comp]
  exact ofNat_toNat x (h x hx) (h1 x hx)
theorem byts_inj {s t : ByteArray} (h : byts s = byts t) : s = t := by
  unfold byts at h
  have hl := congrArg List.length h
  simp only [List.length_map] at hl
  have : s.data.toList = t.data.toList := by
    refine List.ext_getElem hl fun i h1 h2 => ?_
    have := congrArg (fun l => l[i]?) h
    simp only [List.getElem?_map, List.getElem?_eq_getElem h1, List.getElem?_eq_getElem h2, Option.map_some, Option.some.injEq] at this
    exact UInt8.toNat_inj.1 (by omega)
  cases s; cases t
  simp only [ByteArray.mk.injEq] at this ⊢
  exact Array.toList_inj.1 this
theorem byts_extract (s : ByteArray) (a b : Nat) : byts (s.extract a b) = ((byts s).take b).drop a := by
  unfold byts
  rw [ByteArray.data_extract, Array.toList_extract, List.extract_eq_take_drop, List.map_take, List.map_drop, List.drop_take]
end Go.Proofs.YtkaimohkdkdbmaaDoor
