/-
  The walk of the document's Right.
-/
import Derived.Test.YtkaimohkdkdbmaaDoorRefAll
import Derived.Test.YtkaimohkdkdbmaaDoorCRef
import Derived.Test.YtkaimohkdkdbmaaDoorBMath
set_option linter.unusedSimpArgs false
set_option linter.unusedVariables false
namespace Go.Proofs.YtkaimohkdkdbmaaDoor
open Go.RowKit

def RtPost (P : Prop) (w : World) (e : Ending) (w' : World) : Prop := ∃ b : Bool, e = .returned (.bool b) ∧ (b = true ↔ P) ∧ Below w.heap.size w w'
theorem chr_take {l : List Int} {k : Nat} (h : ∀ x ∈ l.take k, Chr x) (hk : k < l.length) (hc : Chr (l.getD k 0)) : ∀ x ∈ l.take (k + 1), Chr x := by
  intro x hx
  rw [List.take_succ_eq_append_getElem hk] at hx
  rcases List.mem_append.1 hx with hx | hx
  · exact h x hx
  · simp only [List.mem_singleton] at hx
    rw [hx]
    simpa [List.getElem?_eq_getElem hk] using hc
theorem mem_getD {l : List Int} {k : Nat} (hk : k < l.length) : l.getD k 0 ∈ l := by
  simp [List.getElem?_eq_getElem hk]

set_option maxHeartbeats 4000000 in
set_option maxRecDepth 100000 in
theorem right_of (s : ByteArray) (l : List Int) (at_ er : Int) (w : World) (hg : Good l) (hn : l.length ≤ 100000)
    (C : Hid (Calls Tryd.prog 22 #[.string s] w (AllPost s w (l, at_, er)))) :
    Calls Tryd.prog 15 #[.string s] w (RtPost (er = 0 ∧ ∀ r ∈ l, Chr r) w) := by
  go_enter Tryd.func15, Tryd.ntmps15
  go_wp2_with fail
  refine C.out.mono ?_
  rintro e w1 ⟨v, rfl, hown, hb⟩
  obtain ⟨A, c, hv, hrd⟩ := own_rd (k := .i32) hown
  simp only at hv hrd
  subst hv
  clear hown C
  obtain ⟨n, hnl⟩ : ∃ n, n = l.length := ⟨_, rfl⟩
  rw [← hnl]
  have HN := Lib.hid hnl
  have hn2 : n ≤ 100000 := by omega
  clear hnl
  go_wp2_with fail
  go_loop [6] (fun vi => ∃ k : Nat, vi = .int .i64 k ∧ k ≤ n ∧ Hid (∀ x ∈ l.take k, Chr x)) (fun vi => n - (intOf vi).toNat)
  case atStart => exact ⟨0, rfl, by omega, Lib.hid fun x hx => by simp at hx⟩
  case round =>
    obtain ⟨k, rfl, hk, hR⟩ := hrel
    by_cases hlt : k < n
    · have hkl : k < l.length := by rw [← HN.out]; exact hlt
      obtain ⟨b, off, rfl, hbl, hc⟩ := hrd.at_ (j := k) hkl
      have hgd := hg _ (mem_getD hkl)
      have hm := mem_getD hkl
      have hct := Lib.hid (chr_take hR.out hkl)
      have x0 : 0 ≤ l.getD k 0 := by unfold Bad at hgd; omega
      have x1 : l.getD k 0 ≤ 1114111 := by unfold Bad at hgd; omega
      have hi2 : (k : Int) < (n : Int) := by omega
      have CC := rchr_any (l.getD k 0)
      have HM := Lib.hid hm
      clear hm hgd hkl
      by_cases hch : Chr (l.getD k 0)
      · have HR := Lib.hid (hct.out hch)
        rw [decide_eq_true hch] at CC
        have CCH := Lib.hid CC
        clear hch hct hR CC HM
        generalize l.getD k 0 = x at *
        go_wp2_with (go_at_call 20; refine (CCH.out _).mono ?_; rintro e w' ⟨rfl, rfl⟩)
        refine ⟨⟨k + 1, by rw [Int.natCast_add]; rfl, by omega, HR⟩, by simp only [intOf]; omega⟩
      · rw [decide_eq_false hch] at CC
        have CCH := Lib.hid CC
        have HX : Hid (¬ (er = 0 ∧ ∀ r ∈ l, Chr r)) := Lib.hid fun h => hch (h.2 _ HM.out)
        clear hch hct hR CC HM
        generalize l.getD k 0 = x at *
        go_wp2_with (go_at_call 20; refine (CCH.out _).mono ?_; rintro e w' ⟨rfl, rfl⟩)
        go_ret
        exact ⟨false, rfl, ⟨fun h => absurd h (by decide), fun h => absurd h HX.out⟩, hb⟩
    · have hkk : k = n := by omega
      subst hkk
      have HA : Hid (∀ x ∈ l, Chr x) := Lib.hid (by
        have := hR.out
        rw [HN.out, List.take_length] at this
        exact this)
      clear hR
      go_wp2
      go_ret
      refine ⟨(er == 0), rfl, ⟨fun h => ⟨by simpa using h, HA.out⟩, fun h => by simpa using h.1⟩, hb⟩
theorem right_any (s : ByteArray) (w : World) (hs : s.size ≤ 1000) : Calls Tryd.prog 15 #[.string s] w (RtPost (Rt (byts s)) w) := by
  have C := ref_all_any s w hs
  rw [allF_dec] at C
  have B := decF_back (byts s).length (byts s) (Nat.le_refl _) (byts_nn s)
  have hlen : (decF (byts s)).1.length ≤ 100000 := by
    obtain ⟨_, hp, h3, _, _⟩ := B
    rw [byts_len] at h3
    have : ∀ (m : List Int), m.length ≤ (m.flatMap putI).length := by
      intro m
      induction m with
      | nil => simp
      | cons x m ih =>
        have := (putI_len x).1
        rw [List.flatMap_cons, List.length_append, List.length_cons]
        omega
    have := this (decF (byts s)).1
    rw [hp, List.length_take] at this
    omega
  exact right_of s _ _ _ w B.1 hlen (Lib.hid C)
theorem right_yes (s : ByteArray) (hs : s.size ≤ 1000) (h : Rt (byts s)) (w : World) : Calls Tryd.prog 15 #[.string s] w fun e w' => e = .returned (.bool true) ∧ Below w.heap.size w w' := by
  refine (right_any s w hs).mono ?_
  rintro e w' ⟨b, rfl, hb, hB⟩
  rw [hb.2 h]
  exact ⟨rfl, hB⟩
theorem right_no (s : ByteArray) (hs : s.size ≤ 1000) (h : ¬ Rt (byts s)) (w : World) : Calls Tryd.prog 15 #[.string s] w fun e w' => e = .returned (.bool false) ∧ Below w.heap.size w w' := by
  refine (right_any s w hs).mono ?_
  rintro e w' ⟨b, rfl, hb, hB⟩
  cases b with
  | false => exact ⟨rfl, hB⟩
  | true => exact absurd (hb.1 rfl) h
end Go.Proofs.YtkaimohkdkdbmaaDoor
