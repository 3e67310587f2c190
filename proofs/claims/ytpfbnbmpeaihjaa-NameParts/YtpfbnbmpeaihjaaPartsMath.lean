/-
  Plain mathematics for the law NameParts: names that are put together and split.
-/
import Derived.Test.YtpfbnbmpeaihjaaJoinsLaw
set_option linter.unusedSimpArgs false
set_option linter.unusedVariables false
namespace Go.Proofs.Ytpfbnbmpeaihjaa
open Go.RowKit

theorem bl_colon : bl ⟨#[58]⟩ = [58] := rfl
theorem bl_two (s t : ByteArray) : bl (s ++ ⟨#[58]⟩ ++ t) = bl s ++ 58 :: bl t := by
  rw [bl_app, bl_app, bl_colon, List.append_assoc]
  rfl
theorem pl_size {s : ByteArray} (h : pl (bl s) = true) : s.size ≠ 0 := by
  intro hz
  have : bl s = [] := List.eq_nil_of_length_eq_zero (by rw [bl_len]; exact hz)
  rw [this] at h
  exact absurd h (by decide)
theorem size_two (s t : ByteArray) : (s ++ ⟨#[58]⟩ ++ t).size = s.size + 1 + t.size := by
  rw [ByteArray.size_append, ByteArray.size_append]
  rfl

/-- What is no name, what is a plain one, what is two: of whatever text. -/
theorem split_cases (s : ByteArray) : (pl (bl s) = false ∧ splitA s = (em, em, false)) ∨ (pl (bl s) = true ∧ splitA s = (em, s, true)) ∨
    ∃ p l, pl (bl s) = false ∧ splitA s = (p, l, true) ∧ s = p ++ ⟨#[58]⟩ ++ l ∧ pl (bl p) = true ∧ pl (bl l) = true := by
  cases hp : pl (bl s)
  · by_cases hh : ∃ i, Hit s i
    · obtain ⟨i, h⟩ := hh
      refine .inr (.inr ⟨_, _, rfl, hit_split h, ?_, ?_, ?_⟩)
      · apply bl_inj
        rw [bl_two, bl_pre, bl_post]
        have h2 := h.2.1
        rw [List.getD_eq_getElem?_getD, List.getElem?_eq_getElem (by rw [bl_len]; exact h.1)] at h2
        have h3 : (bl s)[i]'(by rw [bl_len]; exact h.1) = 58 := h2
        rw [← h3, ← List.drop_eq_getElem_cons, List.take_append_drop]
      · rw [bl_pre]; exact h.2.2.1
      · rw [bl_post]; exact h.2.2.2
    · exact .inl ⟨rfl, nohit_split hp (fun i hi h => hh ⟨i, h⟩)⟩
  · exact .inr (.inl ⟨rfl, plain_split hp⟩)

theorem split_two' {s t : ByteArray} (hs : pl (bl s) = true) (ht : pl (bl t) = true) : splitA (s ++ ⟨#[58]⟩ ++ t) = (s, t, true) := by
  have e := bl_two s t
  have hl := bl_len s
  have ht1 : (bl s ++ 58 :: bl t).take s.size = bl s := by rw [← hl]; simp
  have ht2 : (bl s ++ 58 :: bl t).drop (s.size + 1) = bl t := by
    rw [← hl, ← List.drop_drop]
    simp
  have hh : Hit (s ++ ⟨#[58]⟩ ++ t) s.size := by
    refine ⟨by rw [size_two]; omega, ?_, ?_, ?_⟩
    · rw [e, List.getD_eq_getElem?_getD, List.getElem?_append_right (by omega), hl, Nat.sub_self]
      rfl
    · rw [e, ht1]; exact hs
    · rw [e, ht2]; exact ht
  rw [hit_split hh]
  have e1 : (s ++ ⟨#[58]⟩ ++ t).extract 0 s.size = s := by
    apply bl_inj
    rw [bl_pre, e, ht1]
  have e2 : (s ++ ⟨#[58]⟩ ++ t).extract (s.size + 1) (s ++ ⟨#[58]⟩ ++ t).size = t := by
    apply bl_inj
    rw [bl_post, e, ht2]
  rw [e1, e2]
theorem split_three (s t r : ByteArray) : splitA (s ++ ⟨#[58]⟩ ++ (t ++ ⟨#[58]⟩ ++ r)) = (em, em, false) := by
  have e := bl_two s (t ++ ⟨#[58]⟩ ++ r)
  rw [bl_two t r] at e
  have hl := bl_len s
  have hlt := bl_len t
  refine nohit_split (by rw [e, pl_colon]) (fun i hi h => ?_)
  obtain ⟨g1, g2, g3, g4⟩ := h
  rw [e] at g2 g3 g4
  rcases Nat.lt_or_ge s.size i with h | h
  · have hm := take_mem (bl s ++ 58 :: (bl t ++ 58 :: bl r)) s.size i h (by rw [← e, bl_len]; omega) (by
      rw [List.getD_eq_getElem?_getD, List.getElem?_append_right (by omega), hl, Nat.sub_self]
      rfl)
    rw [pl_mem _ hm] at g3
    exact absurd g3 (by decide)
  · have hm : 58 ∈ (bl s ++ 58 :: (bl t ++ 58 :: bl r)).drop (i + 1) := by
      have : bl s ++ 58 :: (bl t ++ 58 :: bl r) = (bl s ++ 58 :: bl t) ++ 58 :: bl r := by simp
      rw [this, List.drop_append_of_le_length (by simp; omega)]
      simp
    rw [pl_mem _ hm] at g4
    exact absurd g4 (by decide)
theorem ok32 : ¬ Ok ((32 : Nat) : Int) := by decide
theorem cut_two {s t : ByteArray} (hs : pl (bl s) = true) (ht : pl (bl t) = true) : sn (s ++ ⟨#[58]⟩ ++ t ++ ⟨#[32]⟩) 0 = (s ++ ⟨#[58]⟩ ++ t).size := by
  have h := St_full _ (bl (s ++ ⟨#[58]⟩ ++ t)) [] 32 (by omega) ok32 (Nat.le_refl _) (fun x hx => by
    rw [bl_two, Rn_asc _ _ _ 58 (by omega) (Nat.le_refl _)] at hx
    rcases List.mem_append.1 hx with h | h
    · exact .inr (pl_ok hs x h)
    · rcases List.mem_cons.1 h with h | h
      · exact .inl h
      · exact .inr (pl_ok ht x h))
  rw [sn, List.drop_zero, bl_app, ← bl_len]
  exact h
theorem cut_two_x {s t : ByteArray} (hs : pl (bl s) = true) (ht : pl (bl t) = true) : sx (s ++ ⟨#[58]⟩ ++ t ++ ⟨#[32]⟩) 0 = s ++ ⟨#[58]⟩ ++ t := by
  apply bl_inj
  rw [bl_sx, cut_two hs ht, List.drop_zero, bl_app, ← bl_len]
  simp
theorem joinA_two {s t : ByteArray} (hs : s.size ≠ 0) : joinA s t = s ++ ⟨#[58]⟩ ++ t := by
  unfold joinA
  rw [if_neg hs]
theorem joinA_one (t : ByteArray) : joinA em t = t := rfl
end Go.Proofs.Ytpfbnbmpeaihjaa
