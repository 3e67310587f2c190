/-
  The walks of name.Split and of name.Join.
-/
import Derived.Test.YtepmleieekpdiaaIdx
import Derived.Deep.RegionWith
set_option linter.unusedSimpArgs false
set_option linter.unusedVariables false
namespace Go.Proofs.Ytepmleieekpdiaa
open Go.RowKit

set_option maxHeartbeats 1000000 in
set_option maxRecDepth 100000 in
theorem alone_any (s : ByteArray) (w : World) :
    Calls Try.prog 37 #[.string s] w fun e w' => e = .returned (.tuple #[.string em, .string (if pl (bl s) = true then s else em), .bool (pl (bl s))]) ∧ Below w.heap.size w w' := by
  have CL := Lib.hid (plain_any s)
  cases hp : pl (bl s) <;> rw [hp] at CL <;> clear hp
  · go_enter Try.func37, Try.ntmps37
    go_wp2_with (go_at_call 38; refine (CL.out _).mono ?_; rintro e w' ⟨rfl, hb⟩)
    go_ret3
    exact ⟨rfl, hb⟩
  · go_enter Try.func37, Try.ntmps37
    go_wp2_with (go_at_call 38; refine (CL.out _).mono ?_; rintro e w' ⟨rfl, hb⟩)
    go_ret3
    exact ⟨rfl, hb⟩


set_option maxHeartbeats 400000 in
set_option maxRecDepth 100000 in
theorem split_miss (s res : ByteArray) (ok : Bool) (CS : Hid (∀ w, Calls Try.prog 36 #[.string s, .string ⟨#[58]⟩] w fun e w' => e = .returned (.tuple #[.string s, .string ⟨#[]⟩, .bool false]) ∧ Below w.heap.size w w'))
    (CA : Hid (∀ w, Calls Try.prog 37 #[.string s] w fun e w' => e = .returned (.tuple #[.string em, .string res, .bool ok]) ∧ Below w.heap.size w w')) (w : World) :
    Calls Try.prog 27 #[.string s] w fun e w' => e = .returned (.tuple #[.string em, .string res, .bool ok]) ∧ Below w.heap.size w w' := by
  go_enter Try.func27, Try.ntmps27
  go_wp2_with fail
  refine (CS.out _).mono ?_
  rintro e w1 ⟨rfl, hb1⟩
  go_wp2_with fail
  refine (CA.out _).mono ?_
  rintro e w2 ⟨rfl, hb2⟩
  go_wp2_with fail
  go_ret3
  exact ⟨rfl, hb1.trans (hb2.mono hb1.size)⟩

set_option maxHeartbeats 400000 in
set_option maxRecDepth 100000 in
theorem split_no1 (s p l : ByteArray) (CS : Hid (∀ w, Calls Try.prog 36 #[.string s, .string ⟨#[58]⟩] w fun e w' => e = .returned (.tuple #[.string p, .string l, .bool true]) ∧ Below w.heap.size w w'))
    (CP : Hid (∀ w, Calls Try.prog 38 #[.string p] w fun e w' => e = .returned (.bool false) ∧ Below w.heap.size w w')) (w : World) :
    Calls Try.prog 27 #[.string s] w fun e w' => e = .returned (.tuple #[.string em, .string em, .bool false]) ∧ Below w.heap.size w w' := by
  go_enter Try.func27, Try.ntmps27
  go_wp2_with fail
  refine (CS.out _).mono ?_
  rintro e w1 ⟨rfl, hb1⟩
  go_wp2_with fail
  refine (CP.out _).mono ?_
  rintro e w2 ⟨rfl, hb2⟩
  go_wp2_with fail
  go_ret3
  exact ⟨rfl, hb1.trans (hb2.mono hb1.size)⟩

set_option maxHeartbeats 400000 in
set_option maxRecDepth 100000 in
theorem split_two (s p l : ByteArray) (ok : Bool) (CS : Hid (∀ w, Calls Try.prog 36 #[.string s, .string ⟨#[58]⟩] w fun e w' => e = .returned (.tuple #[.string p, .string l, .bool true]) ∧ Below w.heap.size w w'))
    (CP : Hid (∀ w, Calls Try.prog 38 #[.string p] w fun e w' => e = .returned (.bool true) ∧ Below w.heap.size w w'))
    (CL : Hid (∀ w, Calls Try.prog 38 #[.string l] w fun e w' => e = .returned (.bool ok) ∧ Below w.heap.size w w')) (w : World) :
    Calls Try.prog 27 #[.string s] w fun e w' => e = .returned (.tuple #[.string (if ok = true then p else em), .string (if ok = true then l else em), .bool ok]) ∧ Below w.heap.size w w' := by
  cases ok
  all_goals
    go_enter Try.func27, Try.ntmps27
    go_wp2_with fail
    refine (CS.out _).mono ?_
    rintro e w1 ⟨rfl, hb1⟩
    go_wp2_with fail
    refine (CP.out _).mono ?_
    rintro e w2 ⟨rfl, hb2⟩
    go_wp2_with fail
    refine (CL.out _).mono ?_
    rintro e w3 ⟨rfl, hb3⟩
    go_wp2_with fail
    go_ret3
    exact ⟨rfl, (hb1.trans (hb2.mono hb1.size)).trans (hb3.mono (by have := hb1.size; have := hb2.size; omega))⟩

theorem split_any (s : ByteArray) (hs : s.size ≤ 1000) (w : World) :
    Calls Try.prog 27 #[.string s] w fun e w' => e = .returned (.tuple #[.string (splitA s).1, .string (splitA s).2.1, .bool (splitA s).2.2]) ∧ Below w.heap.size w w' := by
  rcases ci_cases s with ⟨h1, h2⟩ | ⟨i, h1, h2, h3, h4⟩
  · have e1 : splitA s = (em, (if pl (bl s) = true then s else em), pl (bl s)) := by
      unfold splitA
      rw [if_pos h1]
      cases hp : pl (bl s) <;> simp
    rw [e1]
    exact split_miss s _ _ (Lib.hid (scut_miss s h1)) (Lib.hid (alone_any s)) w
  · have e1 : splitA s = if pl (bl (s.extract 0 i)) = true ∧ pl (bl (s.extract (i + 1) s.size)) = true then (s.extract 0 i, s.extract (i + 1) s.size, true) else (em, em, false) := by
      unfold splitA
      rw [if_neg (by rw [h1]; omega), h1]
      rfl
    rw [e1]
    have CP := plain_any (s.extract 0 i)
    have CL := plain_any (s.extract (i + 1) s.size)
    cases hp : pl (bl (s.extract 0 i))
    · rw [hp] at CP
      rw [if_neg (by simp)]
      exact split_no1 s _ _ (Lib.hid (scut_hit s i h1 h2 hs)) (Lib.hid CP) w
    · rw [hp] at CP
      have := split_two s _ _ _ (Lib.hid (scut_hit s i h1 h2 hs)) (Lib.hid CP) (Lib.hid CL) w
      cases hl : pl (bl (s.extract (i + 1) s.size))
      · rw [hl] at this
        exact this
      · rw [hl] at this
        exact this

/-- What Join answers. -/
def joinA (p l : ByteArray) : ByteArray := if p.size = 0 then l else p ++ ⟨#[58]⟩ ++ l
/-- A colon with a plain name on each side. -/
def Hit (s : ByteArray) (i : Nat) : Prop := i < s.size ∧ (bl s).getD i 0 = 58 ∧ pl ((bl s).take i) = true ∧ pl ((bl s).drop (i + 1)) = true
theorem plain_split {s : ByteArray} (h : pl (bl s) = true) : splitA s = (em, s, true) := by
  rcases ci_cases s with ⟨h1, h2⟩ | ⟨i, h1, h2, h3, h4⟩
  · unfold splitA
    rw [if_pos h1, if_pos h]
  · rw [h3, pl_colon] at h
    exact absurd h (by simp)
theorem take_mem (L : List Nat) (i j : Nat) (h : i < j) (hj : j ≤ L.length) (he : L.getD i 0 = 58) : 58 ∈ L.take j := by
  rw [List.getD_eq_getElem?_getD, List.getElem?_eq_getElem (by omega)] at he
  have he' : L[i]'(by omega) = 58 := he
  rw [← he']
  exact List.mem_iff_getElem.2 ⟨i, by simp; omega, by simp⟩
theorem hit_split {s : ByteArray} {i : Nat} (h : Hit s i) : splitA s = (s.extract 0 i, s.extract (i + 1) s.size, true) := by
  obtain ⟨g1, g2, g3, g4⟩ := h
  rcases ci_cases s with ⟨h1, h2⟩ | ⟨j, h1, h2, h3, h4⟩
  · refine absurd (List.mem_of_mem_take (take_mem (bl s) i (i + 1) (by omega) (by rw [bl_len]; omega) g2)) h2
  · have hij : i = j := by
      rcases Nat.lt_trichotomy i j with h | h | h
      · exact absurd (take_mem (bl s) i j h (by rw [bl_len]; omega) g2) h4
      · exact h
      · have hj : (bl s).getD j 0 = 58 := by
          rw [h3, List.getD_eq_getElem?_getD, List.getElem?_append_right (by simp; omega)]
          simp [bl_len]
          rw [Nat.min_eq_left (by omega), Nat.sub_self]
          rfl
        rw [pl_mem _ (take_mem (bl s) j i h (by rw [bl_len]; omega) hj)] at g3
        exact absurd g3 (by simp)
    subst hij
    unfold splitA
    rw [if_neg (by rw [h1]; omega), h1, Int.toNat_natCast, bl_pre, bl_post, if_pos ⟨g3, g4⟩]
theorem nohit_split {s : ByteArray} (h : pl (bl s) = false) (hn : ∀ i, i < s.size → ¬ Hit s i) : splitA s = (em, em, false) := by
  rcases ci_cases s with ⟨h1, h2⟩ | ⟨j, h1, h2, h3, h4⟩
  · unfold splitA
    rw [if_pos h1, h]
    rfl
  · have hj : (bl s).getD j 0 = 58 := by
      rw [h3, List.getD_eq_getElem?_getD, List.getElem?_append_right (by simp; omega)]
      simp [bl_len]
      rw [Nat.min_eq_left (by omega), Nat.sub_self]
      rfl
    unfold splitA
    rw [if_neg (by rw [h1]; omega), h1, Int.toNat_natCast, bl_pre, bl_post, if_neg]
    rintro ⟨g3, g4⟩
    exact hn j h2 ⟨h2, hj, g3, g4⟩
end Go.Proofs.Ytepmleieekpdiaa
