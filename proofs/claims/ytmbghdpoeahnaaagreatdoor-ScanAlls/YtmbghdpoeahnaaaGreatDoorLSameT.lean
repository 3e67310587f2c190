/-
  The walk of the document's Same; the walk of ScanAlls.
-/
import Derived.Test.YtmbghdpoeahnaaaGreatDoorLAwake
import Derived.Deep.QuietTactic
import Derived.BigQuiet
set_option linter.unusedSimpArgs false
set_option linter.unusedVariables false
namespace Go.Proofs.YtmbghdpoeahnaaaGreatDoor
open Go.RowKit

theorem tkL_get : ∀ (l : List Tk) (k i : Nat) (t : Tk), l[k]? = some t → i < 4 → (tkL l)[k * 4 + i]? = (tkC t)[i]?
  | [], k, i, t, h, _ => by simp at h
  | x :: l, 0, i, t, h, hi => by
    have : x = t := by simpa using h
    subst this
    unfold tkL
    rw [List.flatMap_cons, Nat.zero_mul, Nat.zero_add, List.getElem?_append_left (by show i < 4; exact hi)]
  | x :: l, k + 1, i, t, h, hi => by
    have h' : l[k]? = some t := by simpa using h
    have := tkL_get l k i t h' hi
    unfold tkL at this ⊢
    rw [List.flatMap_cons, List.getElem?_append_right (by show 4 ≤ (k + 1) * 4 + i; omega), ← this]
    congr 1
    show (k + 1) * 4 + i - 4 = k * 4 + i
    omega
/-- The slice at A reads as these tokens. -/
def RdT (w : World) (A : Option Addr) (l : List Tk) : Prop :=
  ∀ k t, l[k]? = some t → ∃ b, A = some ⟨b, 0, none⟩ ∧ b < w.heap.size ∧ w.cell? ⟨b, k * 4, none⟩ = some (.int .i64 t.kind) ∧ w.cell? ⟨b, k * 4 + 1, none⟩ = some (.string (strOfNums t.text)) ∧ w.cell? ⟨b, k * 4 + 2, none⟩ = some (.bool t.empty) ∧ w.cell? ⟨b, k * 4 + 3, none⟩ = some (.bool t.blank)
theorem own_rdT {w : World} {B : Nat} {v : Value} {l : List Tk} (h : OwnT w B v l) : ∃ A c, v = .slice A l.length c ∧ RdT w A l := by
  by_cases hl : l = []
  · subst hl
    have h' : w.ownsRow B 33 4 v 0 (tkL []) := h
    rcases h'.2 with ⟨rfl, _⟩ | ⟨g, cap, cur, rfl, _⟩
    · exact ⟨none, 0, rfl, fun k t hk => by simp at hk⟩
    · exact ⟨_, cap, rfl, fun k t hk => by simp at hk⟩
  · obtain ⟨g, cap, rfl, _, hg, hc⟩ := own_cells h hl
    refine ⟨_, cap, rfl, fun k t hk => ⟨g, rfl, hg, ?_⟩⟩
    have hlt : k < l.length := (List.getElem?_eq_some_iff.1 hk).1
    exact ⟨(hc (k * 4) (by omega)).trans (tkL_get l k 0 t hk (by omega)), (hc (k * 4 + 1) (by omega)).trans (tkL_get l k 1 t hk (by omega)), (hc (k * 4 + 2) (by omega)).trans (tkL_get l k 2 t hk (by omega)), (hc (k * 4 + 3) (by omega)).trans (tkL_get l k 3 t hk (by omega))⟩
theorem RdT.keep {w w' : World} {A : Option Addr} {l : List Tk} (h : RdT w A l) (hb : Below w.heap.size w w') : RdT w' A l := fun k t hk => by
  obtain ⟨b, e, hlt, c0, c1, c2, c3⟩ := h k t hk
  exact ⟨b, e, Nat.lt_of_lt_of_le hlt hb.size, (hb.cell (p := ⟨b, k * 4, none⟩) hlt).trans c0, (hb.cell (p := ⟨b, k * 4 + 1, none⟩) hlt).trans c1, (hb.cell (p := ⟨b, k * 4 + 2, none⟩) hlt).trans c2, (hb.cell (p := ⟨b, k * 4 + 3, none⟩) hlt).trans c3⟩
def SmTRel (n : Nat) (l : List Tk) (A1 A2 : Option Addr) (w : World) (i : Value) (wr : World) : Prop := ∃ k : Nat, i = .int .i64 k ∧ k ≤ n ∧ Hid (RdT wr A1 l) ∧ Hid (RdT wr A2 l) ∧ Hid (Below w.heap.size w wr)
set_option maxHeartbeats 4000000 in
set_option maxRecDepth 100000 in
theorem same_any (l : List Tk) (n : Nat) (A1 A2 : Option Addr) (k1 k2 : Nat) (w : World) (hn : n = l.length) (hl : n ≤ 10000) (h1 : RdT w A1 l) (h2 : RdT w A2 l) : Calls Tryz.prog 10 #[.slice A1 n k1, .slice A2 n k2] w fun e w' => e = .returned (.bool true) ∧ Below w.heap.size w w' := by
  have H1 := Lib.hid h1
  have H2 := Lib.hid h2
  have HN := Lib.hid hn
  clear h1 h2 hn
  go_enter Tryz.func10, Tryz.ntmps10
  go_wp2_with fail
  go_loopw [5] (fun i wr => SmTRel n l A1 A2 w i wr) (fun i _ => n - (intOf i).toNat)
  case atStart => exact ⟨0, rfl, Nat.zero_le _, H1, H2, Lib.hid (Below.refl _ _)⟩
  case round =>
    obtain ⟨k, rfl, hk, hR1, hR2, hB⟩ := hrel
    by_cases hlt : k < n
    · have hkl : k < l.length := by rw [← HN.out]; exact hlt
      obtain ⟨b1, rfl, hb1, x0, x1, x2, x3⟩ := hR1.out k _ (List.getElem?_eq_getElem hkl)
      obtain ⟨b2, rfl, hb2, y0, y1, y2, y3⟩ := hR2.out k _ (List.getElem?_eq_getElem hkl)
      have d1 : (k : Int) < (n : Int) := by omega
      have d0 : (0 : Int) ≤ (k : Int) := by omega
      generalize l[k] = t at *
      obtain ⟨kd, tx, em, bk⟩ := t
      dsimp only at x0 x1 x2 x3 y0 y1 y2 y3
      generalize strOfNums tx = str at *
      clear H1 H2
      go_wp2_with fail
      go_quiet (fail)
      go_wp2
      go_roundw
      case rel => exact ⟨k + 1, by go_num, by omega, Lib.hid (fun k t h => hR1.out k t h), Lib.hid (fun k t h => hR2.out k t h), Lib.hid (below_drewN' hB.out _)⟩
      case measure => simp only [intOf]; omega
    · have d1 : ¬ (k : Int) < (n : Int) := by omega
      clear hR1 hR2 H1 H2
      go_wp2_with fail
      go_ret
      exact ⟨rfl, hB.out⟩
set_option maxHeartbeats 8000000 in
set_option maxRecDepth 100000 in
theorem alls_law (s : ByteArray) (w : World) (hs : s.size ≤ 400) (hG : Gl w) : Calls Tryz.prog 3 #[.string s] w fun e w' => e = .returned (.bool true) ∧ Below w.heap.size w w' := by
  have HG := Lib.hid hG
  have i8 : decide ((400 : Int) < (s.size : Int)) = false := by rw [decide_eq_false_iff_not]; omega
  have j8 : decide (400 < s.size) = false := by rw [decide_eq_false_iff_not]; omega
  have hln := (allAtT_len _ 0 (byts s) (Nat.le_refl _) (Nat.zero_le _)).1
  rw [byts_len] at hln
  have CA := Lib.hid (fun W (hW : Gl W) => all_any s W hW (by omega))
  have CB := Lib.hid (fun W (hW : Gl W) => rall_any s W hW (by omega))
  generalize allAtT (byts s) 0 = x at *
  obtain ⟨l, to_, er⟩ := x
  dsimp only at hln
  have CS := Lib.hid (fun (n : Nat) (A1 A2 : Option Addr) (k1 k2 : Nat) W (hn : n = l.length) h1 h2 => same_any l n A1 A2 k1 k2 W hn (by omega) h1 h2)
  clear hG
  go_enter Tryz.func3, Tryz.ntmps3
  go_wp2_with fail
  refine (awake_any w HG.out).mono ?_
  rintro e w1 ⟨rfl, b1⟩
  have HB1 := Lib.hid b1
  have HG1 := Lib.hid (HG.out.after b1)
  clear b1
  go_wp2_with fail
  refine (CA.out _ HG1.out).mono ?_
  rintro e w2 ⟨v, rfl, hown, b2⟩
  obtain ⟨A1, k1, rfl, hr⟩ := own_rdT hown
  have HR1 := Lib.hid hr
  have HB2 := Lib.hid (HB1.out.trans (b2.mono HB1.out.size))
  have HG2 := Lib.hid (HG1.out.after b2)
  clear hown hr b2
  dsimp only
  obtain ⟨n, hn⟩ : ∃ n, n = l.length := ⟨_, rfl⟩
  rw [← hn]
  have HN := Lib.hid hn
  clear hn
  go_wp2_with fail
  refine (CB.out _ HG2.out).mono ?_
  rintro e w3 ⟨v, rfl, hown, b3⟩
  obtain ⟨A2, k2, rfl, hr⟩ := own_rdT hown
  have HR2 := Lib.hid hr
  have HR3 := Lib.hid (HR1.out.keep b3)
  have HB3 := Lib.hid (HB2.out.trans (b3.mono HB2.out.size))
  clear hown hr b3
  dsimp only
  rw [← HN.out]
  go_wp2_with fail
  refine (CS.out n A1 A2 k1 k2 _ HN.out HR3.out HR2.out).mono ?_
  rintro e w4 ⟨rfl, b4⟩
  have HB4 := Lib.hid (HB3.out.trans (b4.mono HB3.out.size))
  clear b4
  go_wp2
  go_ret
  exact ⟨rfl, HB4.out⟩
set_option maxHeartbeats 4000000 in
set_option maxRecDepth 100000 in
theorem alls_long (s : ByteArray) (w : World) (h : 400 < s.size) (hm : s.size ≤ maxLen) (hG : Gl w) : Calls Tryz.prog 3 #[.string s] w fun e w' => e = .returned (.bool true) ∧ Below w.heap.size w w' := by
  unfold maxLen at hm
  have HG := Lib.hid hG
  have i8 : decide ((400 : Int) < (s.size : Int)) = true := by rw [decide_eq_true_eq]; omega
  have j8 : decide (400 < s.size) = true := by rw [decide_eq_true_eq]; omega
  clear hG h
  go_enter Tryz.func3, Tryz.ntmps3
  go_wp2_with fail
  refine (awake_any w HG.out).mono ?_
  rintro e w1 ⟨rfl, b1⟩
  have HG1 := Lib.hid (HG.out.after b1)
  go_wp2_with fail
  refine (awake_any w1 HG1.out).mono ?_
  rintro e w2 ⟨rfl, c2⟩
  go_wp2
  go_ret
  exact ⟨rfl, b1.trans (c2.mono b1.size)⟩
end Go.Proofs.YtmbghdpoeahnaaaGreatDoor
