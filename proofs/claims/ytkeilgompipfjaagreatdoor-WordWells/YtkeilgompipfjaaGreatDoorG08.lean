/-
  Merged by program out of the texts TgRead, Val, RefMath, CutLem, RefAll, TgDoc, NzWidth, DRef, TgDoc2, TgDoc3, TgRight, TgNMath, ScMath of one seat.
-/
import Derived.Test.YtkeilgompipfjaaGreatDoorG07
import Derived.Test.YtkeilgompipfjaaGreatDoorG02
import Derived.Test.YtkeilgompipfjaaGreatDoorG01
import Derived.Test.YtkeilgompipfjaaGreatDoorG05
import Derived.Test.YtkeilgompipfjaaGreatDoorG04
import Derived.Lib.Hide
import Derived.Deep.DeepCutAuto
import Derived.Laws.AppendOwn
import Derived.Deep.QuietTactic
import Derived.BigQuiet

/- The walks of the reader's read, and of tag.Parse. -/
set_option linter.unusedSimpArgs false
set_option linter.unusedVariables false
namespace Go.Proofs.YtkeilgompipfjaaGreatDoor.Tg
open Go.RowKit

theorem go_bad (nm : ByteArray) (l : List (ByteArray × ByteArray)) (u : ByteArray) (c1 : (sk u).size ≠ 0) (c2 : bk u ≠ 0) (c3 : atF l (pairF (sk u)) ≠ 0) : GoF nm l u = (atF l (pairF (sk u)), Nz.em, []) := by
  by_cases h1 : (pairF (sk u)).1 = 0
  · by_cases h2 : hasN (pairF (sk u)).2.1 l = true
    · rw [go_twice nm l u c1 c2 h1 h2]
      unfold atF
      rw [if_neg (Decidable.not_not.2 h1), if_pos h2]
    · have h2' : hasN (pairF (sk u)).2.1 l = false := by simpa using h2
      by_cases h3 : 32 ≤ l.length
      · rw [go_large nm l u c1 c2 h1 h2' h3]
        unfold atF
        rw [if_neg (Decidable.not_not.2 h1), if_neg h2, if_pos h3]
      · exfalso
        apply c3
        unfold atF
        rw [if_neg (Decidable.not_not.2 h1), if_neg h2, if_neg h3]
  · rw [go_err nm l u c1 c2 h1]
    unfold atF
    rw [if_pos h1]
theorem go_good (nm : ByteArray) (l : List (ByteArray × ByteArray)) (u : ByteArray) (c1 : (sk u).size ≠ 0) (c2 : bk u ≠ 0) (c3 : atF l (pairF (sk u)) = 0) :
    GoF nm l u = GoF nm (l ++ [((pairF (sk u)).2.1, (pairF (sk u)).2.2.1)]) (pairF (sk u)).2.2.2 ∧ l.length < 32 ∧ (pairF (sk u)).2.2.2.size < u.size := by
  unfold atF at c3
  by_cases h1 : (pairF (sk u)).1 = 0
  · rw [if_neg (Decidable.not_not.2 h1)] at c3
    by_cases h2 : hasN (pairF (sk u)).2.1 l = true
    · rw [if_pos h2] at c3; exact absurd c3 (by decide)
    rw [if_neg h2] at c3
    by_cases h3 : 32 ≤ l.length
    · rw [if_pos h3] at c3; exact absurd c3 (by decide)
    have := pair_lt h1
    have hs := sk_size u
    exact ⟨go_ok nm l u c1 c2 h1 (by simpa using h2) h3, by omega, by omega⟩
  · rw [if_pos h1] at c3
    exact absurd c3 h1

def RePost (x : Int × ByteArray × List (ByteArray × ByteArray)) (w0 : World) (g : Nat) (e : Ending) (w' : World) : Prop :=
  e = .returned (.int .i64 x.1) ∧ ∃ u' nm' v' l', RS w0 g u' nm' v' l' w' ∧ (x.1 = 0 → nm' = x.2.1 ∧ l' = x.2.2)
theorem re_of {x y : Int × ByteArray × List (ByteArray × ByteArray)} {w0 w' : World} {g : Nat} {e : Ending} (h : x = y) (hp : RePost y w0 g e w') : RePost x w0 g e w' := by rw [h]; exact hp
def leftN (g : Nat) (w : World) : Nat := match w.cell? ⟨g, 0, none⟩ with | some (.string u) => u.size | _ => 0
theorem RS.leftN {w0 w : World} {g : Nat} {u nm : ByteArray} {v : Value} {l : List (ByteArray × ByteArray)} (h : RS w0 g u nm v l w) : leftN g w = u.size := by unfold Go.Proofs.YtkeilgompipfjaaGreatDoor.Tg.leftN; rw [h.c0]
def ReRel (s : ByteArray) (w0 : World) (g : Nat) (wr : World) : Prop :=
  ∃ u nm v l, Hid (RS w0 g u nm v l wr) ∧ l.length ≤ 32 ∧ u.size ≤ 100000 ∧ Hid (parF s = GoF nm l u)
set_option maxHeartbeats 2000000 in
set_option maxRecDepth 100000 in
theorem read_no (w0 : World) (g : Nat) (s nm : ByteArray) (v : Value) (w : World) (h : RS w0 g s nm v [] w) (hs : s.size ≤ 100000) (h1 : isN (Nz.sx s 0) = false) :
    Calls Tryz.prog 56 #[.pointer (some ⟨g, 0, none⟩)] w (RePost (parF s) w0 g) := by
  have HP : Hid (parF s = (4, Nz.em, [])) := Lib.hid (by unfold parF; rw [if_pos h1])
  have C := Lib.hid (name_no w0 g s nm v [] w h (by omega) h1)
  clear h h1
  go_enter Tryz.func56, Tryz.ntmps56
  go_wp2_with fail
  refine C.out.mono ?_
  rintro e w1 ⟨rfl, hr1, _⟩
  have HR := Lib.hid hr1
  clear hr1 C
  go_wp2
  go_ret
  exact re_of HP.out ⟨rfl, _, _, _, _, HR.out, fun h => absurd h (by decide)⟩
set_option maxHeartbeats 4000000 in
set_option maxRecDepth 100000 in
theorem read_yes (w0 : World) (g : Nat) (s nm : ByteArray) (v : Value) (w : World) (h : RS w0 g s nm v [] w) (hs : s.size ≤ 100000) (h1 : isN (Nz.sx s 0) = true) :
    Calls Tryz.prog 56 #[.pointer (some ⟨g, 0, none⟩)] w (RePost (parF s) w0 g) := by
  have HP : Hid (parF s = GoF (Nz.sx s 0) [] (Nz.fr s (Nz.sn s 0))) := Lib.hid (by unfold parF; rw [if_neg (by rw [h1]; decide)])
  have C := Lib.hid (name_yes w0 g s nm v [] w h (by omega) h1)
  have hz := Nz.fr_size s (Nz.sn s 0)
  have hz' : (Nz.fr s (Nz.sn s 0)).size ≤ 100000 := by omega
  clear h h1 hz
  generalize Nz.fr s (Nz.sn s 0) = u1 at *
  generalize Nz.sx s 0 = x at *
  go_enter Tryz.func56, Tryz.ntmps56
  go_wp2_with fail
  refine C.out.mono ?_
  rintro e w1 ⟨rfl, hr1, _⟩
  have HR := Lib.hid (hr1.name x)
  have c1 := hr1.c1
  have f1 := hr1.fz 1
  clear hr1 C
  go_wp2_with fail
  go_loopw [5, 6] (fun _ _ wr => ReRel s w0 g wr) (fun _ _ wr => leftN g wr)
  case atStart => exact ⟨u1, x, v, [], HR, by simp, hz', HP⟩
  case round =>
    clear HR HP c1 f1 hz'
    obtain ⟨u, nm', v', l, hR, hl, hu, hG⟩ := hrel
    have hsz := sk_size u
    by_cases d1 : (sk u).size = 0
    · have HG := Lib.hid (hG.out.trans (go_done nm' l u d1))
      have C1 := Lib.hid (skip_any w0 g u nm' v' l wr hR.out (by omega) _ rfl)
      have C2 := Lib.hid (fun w h => done_any w0 g (sk u) nm' v' l w h true (decide_eq_true d1))
      clear hR hG d1 hsz
      generalize sk u = u2 at *
      generalize hb : decide (bk u ≠ 0) = b at *
      clear hb
      go_wp2_with fail
      refine C1.out.mono ?_
      rintro e w2 ⟨rfl, hr2, _⟩
      have HR2 := Lib.hid hr2
      clear hr2 C1
      go_wp2_with fail
      refine (C2.out _ HR2.out).mono ?_
      rintro e w3 ⟨rfl, hr3, _⟩
      have HR3 := Lib.hid hr3
      clear hr3 C2 HR2
      go_wp2
      go_ret
      exact re_of HG.out ⟨rfl, _, _, _, _, HR3.out, fun _ => ⟨rfl, rfl⟩⟩
    · by_cases d2 : bk u = 0
      · have HG := Lib.hid (hG.out.trans (go_mark nm' l u d1 d2))
        have C1 := Lib.hid (skip_any w0 g u nm' v' l wr hR.out (by omega) false (by rw [d2]; decide))
        have C2 := Lib.hid (fun w h => done_any w0 g (sk u) nm' v' l w h false (decide_eq_false d1))
        clear hR hG d1 d2 hsz
        generalize sk u = u2 at *
        go_wp2_with fail
        refine C1.out.mono ?_
        rintro e w2 ⟨rfl, hr2, _⟩
        have HR2 := Lib.hid hr2
        clear hr2 C1
        go_wp2_with fail
        refine (C2.out _ HR2.out).mono ?_
        rintro e w3 ⟨rfl, hr3, _⟩
        have HR3 := Lib.hid hr3
        clear hr3 C2 HR2
        go_wp2
        go_ret
        exact re_of HG.out ⟨rfl, _, _, _, _, HR3.out, fun h => absurd h (by decide)⟩
      · have C1 := Lib.hid (skip_any w0 g u nm' v' l wr hR.out (by omega) true (decide_eq_true d2))
        have C2 := Lib.hid (fun w h => done_any w0 g (sk u) nm' v' l w h false (decide_eq_false d1))
        have C3 := Lib.hid (fun w h => attr_any w0 g (sk u) nm' v' l w h (by omega) hl)
        have HL := Lib.hid hR.out.leftN
        by_cases d3 : atF l (pairF (sk u)) = 0
        · obtain ⟨q1, q2, q3⟩ := go_good nm' l u d1 d2 d3
          have HG := Lib.hid (hG.out.trans q1)
          clear hR hG d1 d2 hsz q1
          generalize pairF (sk u) = y at *
          generalize sk u = u2 at *
          obtain ⟨yn, yv⟩ : ∃ z : Int, z = 0 := ⟨0, rfl⟩
          go_wp2_with fail
          refine C1.out.mono ?_
          rintro e w2 ⟨rfl, hr2, _⟩
          have HR2 := Lib.hid hr2
          clear hr2 C1
          go_wp2_with fail
          refine (C2.out _ HR2.out).mono ?_
          rintro e w3 ⟨rfl, hr3, _⟩
          have HR3 := Lib.hid hr3
          clear hr3 C2 HR2
          go_wp2_with fail
          refine (C3.out _ HR3.out).mono ?_
          rintro e w4 ⟨rfl, hr4, _⟩
          obtain ⟨v4, hr4⟩ := hr4 d3
          have HR4 := Lib.hid hr4
          rw [d3]
          clear hr4 C3 HR3 d3
          go_wp2
          go_roundw
          case rel => exact ⟨_, _, _, _, HR4, by rw [List.length_append, List.length_singleton]; omega, by omega, HG⟩
          case measure => rw [HR4.out.leftN, HL.out]; exact q3
        · have HG := Lib.hid (hG.out.trans (go_bad nm' l u d1 d2 d3))
          clear hR hG d1 d2 hsz
          generalize pairF (sk u) = y at *
          generalize sk u = u2 at *
          have t1 : (atF l y != 0) = true := by rw [bne_iff_ne]; exact d3
          have HE := Lib.hid d3
          clear d3
          go_wp2_with fail
          refine C1.out.mono ?_
          rintro e w2 ⟨rfl, hr2, _⟩
          have HR2 := Lib.hid hr2
          clear hr2 C1
          go_wp2_with fail
          refine (C2.out _ HR2.out).mono ?_
          rintro e w3 ⟨rfl, hr3, _⟩
          have HR3 := Lib.hid hr3
          clear hr3 C2 HR2
          go_wp2_with fail
          refine (C3.out _ HR3.out).mono ?_
          rintro e w4 ⟨rfl, _, u4, v4, l4, hr4⟩
          have HR4 := Lib.hid hr4
          clear hr4 C3 HR3
          generalize atF l y = er at *
          go_wp2
          go_ret
          exact re_of HG.out ⟨rfl, _, _, _, _, HR4.out, fun h => absurd h HE.out⟩
theorem readr_any (w0 : World) (g : Nat) (s nm : ByteArray) (v : Value) (w : World) (h : RS w0 g s nm v [] w) (hs : s.size ≤ 100000) :
    Calls Tryz.prog 56 #[.pointer (some ⟨g, 0, none⟩)] w (RePost (parF s) w0 g) := by
  cases h1 : isN (Nz.sx s 0)
  · exact read_no w0 g s nm v w h hs h1
  · exact read_yes w0 g s nm v w h hs h1

/-- What Parse answers. -/
def PsPost (x : Int × ByteArray × List (ByteArray × ByteArray)) (w : World) (e : Ending) (w' : World) : Prop :=
  ∃ v, e = .returned (.tuple #[.agg #[.string x.2.1, v], .int .i64 x.1]) ∧ OwnR w' w.heap.size v x.2.2 ∧ Below w.heap.size w w'
theorem goF_err : ∀ (f : Nat) (nm : ByteArray) (l : List (ByteArray × ByteArray)) (u : ByteArray), (goF f nm l u).1 ≠ 0 → (goF f nm l u).2 = (Nz.em, [])
  | 0, _, _, _, h => absurd rfl h
  | f + 1, nm, l, u, h => by
    unfold goF at h ⊢
    by_cases c1 : (sk u).size = 0
    · rw [if_pos c1] at h; exact absurd rfl h
    rw [if_neg c1] at h ⊢
    by_cases c2 : bk u = 0
    · rw [if_pos c2]
    rw [if_neg c2] at h ⊢
    by_cases c3 : (pairF (sk u)).1 ≠ 0
    · rw [if_pos c3]
    rw [if_neg c3] at h ⊢
    by_cases c4 : hasN (pairF (sk u)).2.1 l = true
    · rw [if_pos c4]
    rw [if_neg c4] at h ⊢
    by_cases c5 : 32 ≤ l.length
    · rw [if_pos c5]
    rw [if_neg c5] at h ⊢
    exact goF_err f _ _ _ h
theorem par_err {s : ByteArray} (h : (parF s).1 ≠ 0) : (parF s).2 = (Nz.em, []) := by
  unfold parF at h ⊢
  by_cases c : isN (Nz.sx s 0) = false
  · rw [if_pos c]
  · rw [if_neg c] at h ⊢
    exact goF_err _ _ _ _ h
theorem own_mono {w : World} {B B' : Nat} {v : Value} {l : List (ByteArray × ByteArray)} (h : OwnR w B v l) (hB : B' ≤ B) : OwnR w B' v l := by
  refine ⟨h.1, ?_⟩
  rcases h.2 with hn | ⟨g, cap, cur, hv, hb, rest⟩
  · exact .inl hn
  · exact .inr ⟨g, cap, cur, hv, Nat.le_trans hB hb, rest⟩
theorem rs_new (w : World) (s : ByteArray) (hV : Vars w) : RS (w.alloc (.cells #[.string ⟨#[]⟩, .slice none 0 0] 75)) (w.heap.size + 1) s ⟨#[]⟩ (.slice none 0 0) [] ((w.alloc (.cells #[.string ⟨#[]⟩, .slice none 0 0] 75)).alloc (.cells #[.string s, .string ⟨#[]⟩, .slice none 0 0] 111)) := by
  have hz : (w.alloc (.cells #[.string ⟨#[]⟩, .slice none 0 0] 75)).heap.size = w.heap.size + 1 := by simp
  refine ⟨by omega, ?_, World.ownsRow_nil _ _ _ _, (Below.refl _ _).alloc (Nat.le_refl _) _, hV.keep ((Below.refl _ w).alloc (Nat.le_refl _) _) hV.1⟩
  rw [← hz]
  exact heap_alloc_new _ _
set_option maxHeartbeats 4000000 in
set_option maxRecDepth 100000 in
theorem parse_err (s : ByteArray) (x : Int × ByteArray × List (ByteArray × ByteArray)) (w : World) (hV : Vars w) (he : x.1 ≠ 0) (hx : x.2 = (Nz.em, []))
    (C : Hid (∀ W0 g W, RS W0 g s ⟨#[]⟩ (.slice none 0 0) [] W → Calls Tryz.prog 56 #[.pointer (some ⟨g, 0, none⟩)] W (RePost x W0 g))) :
    Calls Tryz.prog 36 #[.string s] w (PsPost x w) := by
  obtain ⟨er, xn, xl⟩ := x
  dsimp only at he hx
  injection hx with hx1 hx2
  subst hx1 hx2
  have HR := Lib.hid (rs_new w s hV)
  have t1 : (er != 0) = true := by rw [bne_iff_ne]; exact he
  clear hV he
  go_enter Tryz.func36, Tryz.ntmps36
  go_wp2_with fail
  refine (C.out _ _ _ HR.out).mono ?_
  rintro e w1 ⟨rfl, u', nm', v', l', hr, _⟩
  have hB := hr.bel
  have hblk : w1.heap[w.heap.size]? = some (.cells #[.string ⟨#[]⟩, .slice none 0 0] 75 (0, 0)) := (hB.block w.heap.size (by simp)).trans (heap_alloc_new w _)
  have c0 : w1.cell? ⟨w.heap.size, 0, none⟩ = some (.string ⟨#[]⟩) := by rw [Lib.cell_of_heap hblk]; rfl
  have c1 : w1.cell? ⟨w.heap.size, 1, none⟩ = some (.slice none 0 0) := by rw [Lib.cell_of_heap hblk]; rfl
  have f0 := Lib.frozen_of_heap hblk 0
  have f1 := Lib.frozen_of_heap hblk 1
  have HB := Lib.hid (((Below.refl w.heap.size w).alloc (Nat.le_refl _) (.cells #[.string ⟨#[]⟩, .slice none 0 0] 75)).trans (hB.mono (by simp)))
  clear hblk hB hr C HR
  dsimp only
  generalize hr : w.heap.size = r at *
  have HRZ := Lib.hid hr
  clear hr
  go_wp2
  exact bodyPost_ret (v := .tuple #[.agg #[.string ⟨#[]⟩, .slice none 0 0], .int .i64 er]) (by simp [results, Tryz.results36, go_sem, c0, c1]) rfl
    ⟨.slice none 0 0, rfl, World.ownsRow_nil _ _ _ _, by rw [HRZ.out]; exact ((HB.out.setCell (p := ⟨r, 0, none⟩) (Nat.le_refl _) _).setCell (p := ⟨r, 1, none⟩) (Nat.le_refl _) _)⟩
set_option maxHeartbeats 4000000 in
set_option maxRecDepth 100000 in
theorem parse_ok (s : ByteArray) (x : Int × ByteArray × List (ByteArray × ByteArray)) (w : World) (hV : Vars w) (he : x.1 = 0)
    (C : Hid (∀ W0 g W, RS W0 g s ⟨#[]⟩ (.slice none 0 0) [] W → Calls Tryz.prog 56 #[.pointer (some ⟨g, 0, none⟩)] W (RePost x W0 g))) :
    Calls Tryz.prog 36 #[.string s] w (PsPost x w) := by
  obtain ⟨er, xn, xl⟩ := x
  dsimp only at he
  subst he
  have HR := Lib.hid (rs_new w s hV)
  clear hV
  go_enter Tryz.func36, Tryz.ntmps36
  go_wp2_with fail
  refine (C.out _ _ _ HR.out).mono ?_
  rintro e w1 ⟨rfl, u', nm', v', l', hr, hx⟩
  obtain ⟨rfl, rfl⟩ := hx rfl
  dsimp only at hr ⊢
  have hB := hr.bel
  have hblk : w1.heap[w.heap.size]? = some (.cells #[.string ⟨#[]⟩, .slice none 0 0] 75 (0, 0)) := (hB.block w.heap.size (by simp)).trans (heap_alloc_new w _)
  have c0 : w1.cell? ⟨w.heap.size, 0, none⟩ = some (.string ⟨#[]⟩) := by rw [Lib.cell_of_heap hblk]; rfl
  have c1 : w1.cell? ⟨w.heap.size, 1, none⟩ = some (.slice none 0 0) := by rw [Lib.cell_of_heap hblk]; rfl
  have f0 := Lib.frozen_of_heap hblk 0
  have f1 := Lib.frozen_of_heap hblk 1
  have HB := Lib.hid (((Below.refl w.heap.size w).alloc (Nat.le_refl _) (.cells #[.string ⟨#[]⟩, .slice none 0 0] 75)).trans (hB.mono (by simp)))
  have HO := Lib.hid (own_mono hr.own (B' := w.heap.size) (by simp))
  have HK := Lib.hid (fun (x y : Value) => own_set (own_set HO.out hblk (by decide) 0 x) (g := w.heap.size) (by simp [World.setCell, Array.getElem?_modify, hblk]; exact ⟨rfl, rfl⟩) (T := 75) (by decide) 1 y)
  obtain ⟨A, c, rfl, _⟩ := own_rdR hr.own
  have g1 := hr.c1
  have g2 := hr.c2
  clear hblk hB hr C HR hx
  generalize hr : w.heap.size = r at *
  have HRZ := Lib.hid hr
  clear hr
  go_wp2
  exact bodyPost_ret (v := .tuple #[.agg #[.string nm', .slice A l'.length c], .int .i64 0]) (by simp [results, Tryz.results36, go_sem, c0, c1]) rfl
    ⟨_, rfl, by rw [HRZ.out]; exact HK.out _ _, by rw [HRZ.out]; exact ((HB.out.setCell (p := ⟨r, 0, none⟩) (Nat.le_refl _) _).setCell (p := ⟨r, 1, none⟩) (Nat.le_refl _) _)⟩
theorem tparse_any (s : ByteArray) (w : World) (hV : Vars w) (hs : s.size ≤ 100000) : Calls Tryz.prog 36 #[.string s] w (PsPost (parF s) w) := by
  have C := Lib.hid (fun W0 g W h => readr_any W0 g s ⟨#[]⟩ (.slice none 0 0) W h hs)
  by_cases h : (parF s).1 = 0
  · exact parse_ok s _ w hV h C
  · exact parse_err s _ w hV h (par_err h) C
end Go.Proofs.YtkeilgompipfjaaGreatDoor.Tg

/- The walk of the document's value: the rune that so many bytes would be. -/
set_option linter.unusedSimpArgs false
set_option linter.unusedVariables false
namespace Go.Proofs.YtkeilgompipfjaaGreatDoor
open Go.RowKit

def offs (n i : Nat) : Int := if i = 0 then (if n = 2 then 192 else if n = 3 then 224 else if n = 4 then 240 else 0) else 128
def valG (b : Nat → Int) (n : Nat) : Nat → Int
  | 0 => 0
  | i + 1 => valG b n i * 64 + (b i - offs n i)
end Go.Proofs.YtkeilgompipfjaaGreatDoor

/- The document's way to a rune, and to what is cut off: by trying. It comes to the same as the table of first bytes. -/
set_option linter.unusedSimpArgs false
set_option linter.unusedVariables false
namespace Go.Proofs.YtkeilgompipfjaaGreatDoor

def valL (L : List Int) (n : Nat) : Int := valG (fun k => L.getD k 0) n n
/-- The steps between the least rune and the greatest that bytes begin, so many bytes missing. -/
def stp (j : Nat) : Int := if j = 1 then 1 else if j = 2 then 65 else 4161
def loV (F : List Int) (t : Nat) : Int := valL (F ++ List.replicate (t - F.length) 128) t
def rK (F : List Int) (t k : Nat) : Int := loV F t + stp (t - F.length) * k
def Tl (F : List Int) : Prop := ∀ i, 1 ≤ i → i < F.length → 128 ≤ F.getD i 0 ∧ F.getD i 0 ≤ 191
def Fst (F : List Int) (t : Nat) : Prop := (t = 2 ∧ 192 ≤ F.getD 0 0 ∧ F.getD 0 0 < 224) ∨ (t = 3 ∧ 224 ≤ F.getD 0 0 ∧ F.getD 0 0 < 240) ∨ (t = 4 ∧ 240 ≤ F.getD 0 0 ∧ F.getD 0 0 < 248)
def Hit (F : List Int) (t k : Nat) : Prop := (refPut (rK F t k)).length = t ∧ (refPut (rK F t k)).take F.length = F
def Srch (F : List Int) (t : Nat) : Prop := Tl F ∧ Fst F t ∧ ∃ k, k < 64 ∧ Hit F t k

end Go.Proofs.YtkeilgompipfjaaGreatDoor

/- What the walk of the document's cut needs. -/
set_option linter.unusedSimpArgs false
set_option linter.unusedVariables false
namespace Go.Proofs.YtkeilgompipfjaaGreatDoor
open Go.RowKit

def CutRel (F : List Int) (w : World) (t : Value) (wr : World) : Prop :=
  ∃ k : Nat, F.length < k ∧ k ≤ 5 ∧ t = .int .i64 k ∧ (∀ j, F.length < j → j < k → ¬ Srch F j) ∧ Below w.heap.size w wr
theorem byts_app (a b : ByteArray) : byts (a ++ b) = byts a ++ byts b := by
  unfold byts
  rw [ByteArray.data_append, Array.toList_append, List.map_append]
end Go.Proofs.YtkeilgompipfjaaGreatDoor

/- The walks of the document's All and Whole. -/
set_option linter.unusedSimpArgs false
set_option linter.unusedVariables false
namespace Go.Proofs.YtkeilgompipfjaaGreatDoor
open Go.RowKit

theorem Tryz.info21 : (Tryz.prog.info? 21).map (fun i => (i.zero, i.size, i.bytes)) = some (some (.int .i32 0), 1, 4) := by kernel_rfl
/-- A slice of runes of the call's own: from block B on. -/
def Own (w : World) (B : Nat) (v : Value) (l : List Int) : Prop := w.ownsRow B 21 1 v l.length (l.map (Value.int .i32))

def AllPost (s : ByteArray) (w : World) (x : List Int × Int × Int) (e : Ending) (w' : World) : Prop :=
  ∃ v, e = .returned (.tuple #[v, .int .i64 x.2.1, .int .i64 x.2.2]) ∧ Own w' w.heap.size v x.1 ∧ Below w.heap.size w w'

def AllRel (s : ByteArray) (w : World) (v i : Value) (wr : World) : Prop :=
  ∃ (a : Nat) (pre : List Int), a ≤ s.size ∧ i = .int .i64 a ∧ Own wr w.heap.size v pre ∧ Below w.heap.size w wr ∧ pre.length ≤ a ∧ allF s = (pre ++ (allAt s a).1, (allAt s a).2)

end Go.Proofs.YtkeilgompipfjaaGreatDoor

/- The walk of the document's skip. -/
set_option linter.unusedSimpArgs false
set_option linter.unusedVariables false
namespace Go.Proofs.YtkeilgompipfjaaGreatDoor.Tg
open Go.RowKit

/-- The first place from one on where no blank stands. -/
def pk (s : ByteArray) (k : Nat) : Nat := k + bk (Nz.fr s k)
end Go.Proofs.YtkeilgompipfjaaGreatDoor.Tg

/- How many bytes a decoded rune has: as many as it is encoded to, but one where fffd stands for bytes that are no rune's. -/
set_option linter.unusedSimpArgs false
set_option linter.unusedVariables false
namespace Go.Proofs.YtkeilgompipfjaaGreatDoor.Nz
open Go.RowKit

/-- The bytes of fffd stand first. -/
def Fd (n b0 b1 b2 : Nat) : Prop := 3 ≤ n ∧ b0 = 239 ∧ b1 = 191 ∧ b2 = 189
instance (n b0 b1 b2 : Nat) : Decidable (Fd n b0 b1 b2) := inferInstanceAs (Decidable (3 ≤ n ∧ b0 = 239 ∧ b1 = 191 ∧ b2 = 189))

theorem take3 (L : List Nat) : (L.take 3 = [239, 191, 189]) ↔ Fd L.length (L.getD 0 0) (L.getD 1 0) (L.getD 2 0) := by
  unfold Fd
  match L with
  | [] => simp
  | [a] => simp
  | [a, b] => simp
  | a :: b :: c :: L => simp
end Go.Proofs.YtkeilgompipfjaaGreatDoor.Nz

/- The walks of the document's hex and Ref. -/
set_option linter.unusedSimpArgs false
set_option linter.unusedVariables false
namespace Go.Proofs.YtkeilgompipfjaaGreatDoor
open Go.RowKit

theorem drop_ne (t : ByteArray) (k : Nat) (h : k < t.size) : (byts t).drop k ≠ [] := by
  intro e
  have := congrArg List.length e
  rw [List.length_drop, byts_len, List.length_nil] at this
  omega
end Go.Proofs.YtkeilgompipfjaaGreatDoor

/- The document's Parse: positions, and its state. -/
set_option linter.unusedSimpArgs false
set_option linter.unusedVariables false
namespace Go.Proofs.YtkeilgompipfjaaGreatDoor.Tg
open Go.RowKit

theorem bl_frz (s : ByteArray) (k : Nat) : Nz.bl (Nz.fr s k) = (Nz.bl s).drop k := Nz.bl_fr s k
theorem sn_fr (s : ByteArray) (k : Nat) : Nz.sn (Nz.fr s k) 0 = Nz.sn s k := by unfold Nz.sn; rw [bl_frz, List.drop_zero]
theorem sx_fr (s : ByteArray) (k : Nat) : Nz.sx (Nz.fr s k) 0 = Nz.sx s k := by
  rw [sx_zero, sn_fr]
  rfl
theorem sk_fr (s : ByteArray) (k : Nat) : sk (Nz.fr s k) = Nz.fr s (pk s k) := by unfold sk pk; rw [fr_fr]
/-- Where the mark, and the quote, of an attribute stand that begins at f. -/
def p1 (s : ByteArray) (f : Nat) : Nat := pk s (f + Nz.sn s f)
def p2 (s : ByteArray) (f : Nat) : Nat := pk s (p1 s f + 1)
theorem fr_p1 (s : ByteArray) (f : Nat) : sk (Nz.fr (Nz.fr s f) (Nz.sn (Nz.fr s f) 0)) = Nz.fr s (p1 s f) := by rw [sn_fr, fr_fr, sk_fr]; rfl
theorem fr_p2 (s : ByteArray) (f : Nat) : sk (Nz.fr (sk (Nz.fr (Nz.fr s f) (Nz.sn (Nz.fr s f) 0))) 1) = Nz.fr s (p2 s f) := by rw [fr_p1, fr_fr, sk_fr]; rfl
theorem pf_quo (s : ByteArray) (f : Nat) (q : UInt8) (hq : q = 34 ∨ q = 39) (h : isN (Nz.sx s f) = true) (h2 : hd (Nz.fr s (p1 s f)) = 61) (h3 : hd (Nz.fr s (p2 s f)) = (q.toNat : Int)) : pairF (Nz.fr s f) = quoF q (Nz.sx s f) (Nz.fr s (p2 s f + 1)) := by
  unfold pairF
  rw [sx_fr, if_neg (by rw [h]; decide), fr_p2, fr_p1, if_neg (Decidable.not_not.2 h2), fr_fr]
  rcases hq with rfl | rfl
  · rw [if_pos (h3.trans u34)]
  · rw [if_neg (by rw [h3, u39]; decide), if_pos (h3.trans u39)]
theorem pf_open (s : ByteArray) (f : Nat) (q : UInt8) (hq : q = 34 ∨ q = 39) (h : isN (Nz.sx s f) = true) (h2 : hd (Nz.fr s (p1 s f)) = 61) (h3 : hd (Nz.fr s (p2 s f)) = (q.toNat : Int)) (h4 : qi q (Nz.fr s (p2 s f + 1)) = -1) : pairF (Nz.fr s f) = (6, Nz.em, Nz.em, Nz.em) := by
  rw [pf_quo s f q hq h h2 h3]
  unfold quoF
  rw [if_pos h4]
theorem ext_fr (s : ByteArray) (b j : Nat) (hb : b ≤ j) : (Nz.fr s b).extract 0 (j - b) = s.extract b j := byts_inj (by
  rw [byts_to, byts_fr, byts_extract, List.take_drop]
  have e : b + (j - b) = j := by omega
  first
    | rw [e]
    | rw [Nat.add_comm, e])
theorem fr_fr1 (s : ByteArray) (b j : Nat) (hb : b ≤ j) : Nz.fr (Nz.fr s b) (j - b + 1) = Nz.fr s (j + 1) := by
  rw [fr_fr]
  have e : b + (j - b + 1) = j + 1 := by omega
  rw [e]
theorem pf_val (s : ByteArray) (f j : Nat) (q : UInt8) (hq : q = 34 ∨ q = 39) (h : isN (Nz.sx s f) = true) (h2 : hd (Nz.fr s (p1 s f)) = 61) (h3 : hd (Nz.fr s (p2 s f)) = (q.toNat : Int)) (hj : p2 s f + 1 ≤ j) (h4 : qi q (Nz.fr s (p2 s f + 1)) = ((j - (p2 s f + 1) : Nat) : Int)) :
    pairF (Nz.fr s f) = vlF (Nz.sx s f) (s.extract (p2 s f + 1) j) (Nz.fr s (j + 1)) := by
  rw [pf_quo s f q hq h h2 h3]
  unfold quoF vlF
  have e1 : (qi q (Nz.fr s (p2 s f + 1))).toNat = j - (p2 s f + 1) := by rw [h4]; exact Int.toNat_natCast _
  have e2 := ext_fr s (p2 s f + 1) j hj
  have e3 := fr_fr1 s (p2 s f + 1) j hj
  rw [if_neg (by rw [h4]; omega), e1, e2, e3]
theorem pair_at (s : ByteArray) (j b : Nat) (hb : b ≤ j) : (byts (Nz.fr s b)).getD (j - b) 0 = (byts s).getD j 0 := by
  rw [byts_fr, List.getD_eq_getElem?_getD, List.getElem?_drop, ← List.getD_eq_getElem?_getD]
  congr 1
  omega
/-- The state of the document's Parse: the block that it answers in, the tag's own block, the attributes. -/
structure DS (w0 : World) (R T : Nat) (nm : ByteArray) (v : Value) (l : List (ByteArray × ByteArray)) (w : World) : Prop where
  ne : R ≠ T
  rlo : w0.heap.size ≤ R
  tlo : w0.heap.size ≤ T
  rblk : w.heap[R]? = some (.cells #[.string ⟨#[]⟩, .slice none 0 0] 75 (0, 0))
  tblk : w.heap[T]? = some (.cells #[.string nm, v] 75 (0, 0))
  own : OwnR w w0.heap.size v l
  bel : Below w0.heap.size w0 w
theorem DS.rlt {w0 w : World} {R T : Nat} {nm : ByteArray} {v : Value} {l : List (ByteArray × ByteArray)} (h : DS w0 R T nm v l w) : R < w.heap.size := (Array.getElem?_eq_some_iff.1 h.rblk).1
theorem DS.tlt {w0 w : World} {R T : Nat} {nm : ByteArray} {v : Value} {l : List (ByteArray × ByteArray)} (h : DS w0 R T nm v l w) : T < w.heap.size := (Array.getElem?_eq_some_iff.1 h.tblk).1
theorem DS.after {w0 w w' : World} {R T : Nat} {nm : ByteArray} {v : Value} {l : List (ByteArray × ByteArray)} (h : DS w0 R T nm v l w) (hb : Below w.heap.size w w') : DS w0 R T nm v l w' :=
  ⟨h.ne, h.rlo, h.tlo, (hb.block R h.rlt).trans h.rblk, (hb.block T h.tlt).trans h.tblk, own_keep h.own hb, h.bel.trans (hb.mono h.bel.size)⟩
theorem DS.r0 {w0 w : World} {R T : Nat} {nm : ByteArray} {v : Value} {l : List (ByteArray × ByteArray)} (h : DS w0 R T nm v l w) : w.cell? ⟨R, 0, none⟩ = some (.string ⟨#[]⟩) := by rw [Lib.cell_of_heap h.rblk]; rfl
theorem DS.r1 {w0 w : World} {R T : Nat} {nm : ByteArray} {v : Value} {l : List (ByteArray × ByteArray)} (h : DS w0 R T nm v l w) : w.cell? ⟨R, 1, none⟩ = some (.slice none 0 0) := by rw [Lib.cell_of_heap h.rblk]; rfl
theorem DS.t0 {w0 w : World} {R T : Nat} {nm : ByteArray} {v : Value} {l : List (ByteArray × ByteArray)} (h : DS w0 R T nm v l w) : w.cell? ⟨T, 0, none⟩ = some (.string nm) := by rw [Lib.cell_of_heap h.tblk]; rfl
theorem DS.t1 {w0 w : World} {R T : Nat} {nm : ByteArray} {v : Value} {l : List (ByteArray × ByteArray)} (h : DS w0 R T nm v l w) : w.cell? ⟨T, 1, none⟩ = some v := by rw [Lib.cell_of_heap h.tblk]; rfl
/-- What is left where Parse answers. -/
theorem DS.res {w0 w : World} {R T : Nat} {nm : ByteArray} {v : Value} {l : List (ByteArray × ByteArray)} (h : DS w0 R T nm v l w) (x y : Value) : OwnR ((w.setCell ⟨R, 0, none⟩ x).setCell ⟨R, 1, none⟩ y) w0.heap.size v l ∧ Below w0.heap.size w0 ((w.setCell ⟨R, 0, none⟩ x).setCell ⟨R, 1, none⟩ y) := by
  refine ⟨own_set (T := 75) (cs := #[x, .slice none 0 0]) (fr := (0, 0)) (own_set h.own h.rblk (by decide) 0 x) ?_ (by decide) 1 y, (h.bel.setCell (p := ⟨R, 0, none⟩) h.rlo _).setCell (p := ⟨R, 1, none⟩) h.rlo _⟩
  simp [World.setCell, Array.getElem?_modify, h.rblk]
theorem DS.bad {w0 w : World} {R T : Nat} {nm : ByteArray} {v : Value} {l : List (ByteArray × ByteArray)} (h : DS w0 R T nm v l w) (x y : Value) (er : Int) : PsPost (er, Nz.em, []) w0 (.returned (.tuple #[.agg #[.string ⟨#[]⟩, .slice none 0 0], .int .i64 er])) ((w.setCell ⟨R, 0, none⟩ x).setCell ⟨R, 1, none⟩ y) :=
  ⟨_, rfl, World.ownsRow_nil _ _ _ _, (h.res x y).2⟩
theorem DS.put {w0 w w2 : World} {R T : Nat} {nm : ByteArray} {v v' : Value} {l : List (ByteArray × ByteArray)} {x : ByteArray × ByteArray} (h : DS w0 R T nm v l w) (hown : w2.ownsRow w0.heap.size 141 2 v' (l.length + 1) (rwL l ++ rwC x)) (hg : w.grownBy w2 v.ownBlock) :
    w2.heap[T]? = some (.cells #[.string nm, v] 75 (0, 0)) ∧ DS w0 R T nm v' (l ++ [x]) (w2.setCell ⟨T, 1, none⟩ v') := by
  have hne := own_ne h.own h.tblk (by decide)
  have hne2 := own_ne h.own h.rblk (by decide)
  have hb2 : w2.heap[T]? = some (.cells #[.string nm, v] 75 (0, 0)) := (hg.block T h.tlt (fun e => hne e.symm)).trans h.tblk
  have hr2 : w2.heap[R]? = some (.cells #[.string ⟨#[]⟩, .slice none 0 0] 75 (0, 0)) := (hg.block R h.rlt (fun e => hne2 e.symm)).trans h.rblk
  have ho : OwnR w2 w0.heap.size v' (l ++ [x]) := by
    unfold OwnR
    rw [rwL_app, List.length_append]
    exact hown
  refine ⟨hb2, h.ne, h.rlo, h.tlo, (Below.heap_setCell _ _ _ _ h.ne).trans hr2, by simp [World.setCell, Array.getElem?_modify, hb2], own_set ho hb2 (by decide) 1 _, ?_⟩
  exact (h.bel.grown hg h.bel.size (fun k hk => (World.ownsRow.lt h.own k hk).1)).setCell (p := ⟨T, 1, none⟩) h.tlo _
end Go.Proofs.YtkeilgompipfjaaGreatDoor.Tg

/- The walk of the document's Parse. -/
set_option linter.unusedSimpArgs false
set_option linter.unusedVariables false
namespace Go.Proofs.YtkeilgompipfjaaGreatDoor.Tg
open Go.RowKit

theorem qi_at_none (s : ByteArray) (b : Nat) (q : UInt8) (h : ∀ k, b ≤ k → k < s.size → (byts s).getD k 0 ≠ ((q.toNat : Nat) : Int)) : qi q (Nz.fr s b) = -1 := by
  apply qi_none
  intro i hi
  rw [Nz.fr_size] at hi
  have := pair_at s (b + i) b (by omega)
  rw [show b + i - b = i by omega] at this
  rw [this]
  exact h (b + i) (by omega) (by omega)
theorem qi_at_some (s : ByteArray) (b j : Nat) (q : UInt8) (hb : b ≤ j) (hj : j < s.size) (he : (byts s).getD j 0 = ((q.toNat : Nat) : Int)) (h : ∀ k, b ≤ k → k < j → (byts s).getD k 0 ≠ ((q.toNat : Nat) : Int)) : qi q (Nz.fr s b) = ((j - b : Nat) : Int) := by
  apply qi_some
  · rw [Nz.fr_size]; omega
  · rw [pair_at s j b hb]; exact he
  · intro i hi
    have := pair_at s (b + i) b (by omega)
    rw [show b + i - b = i by omega] at this
    rw [this]
    exact h (b + i) (by omega) (by omega)
theorem quo_facts (s : ByteArray) (f : Nat) (h3 : isN (Nz.sx s f) = true) (h6 : hd (Nz.fr s (p1 s f)) = 61) (h8 : p2 s f < s.size) (h9 : hd (Nz.fr s (p2 s f)) = 34 ∨ hd (Nz.fr s (p2 s f)) = 39) :
    ((∀ k, p2 s f + 1 ≤ k → k < s.size → (byts s).getD k 0 ≠ hd (Nz.fr s (p2 s f))) → pairF (Nz.fr s f) = (6, Nz.em, Nz.em, Nz.em)) ∧
    (∀ j, p2 s f + 1 ≤ j → j < s.size → (byts s).getD j 0 = hd (Nz.fr s (p2 s f)) → (∀ k, p2 s f + 1 ≤ k → k < j → (byts s).getD k 0 ≠ hd (Nz.fr s (p2 s f))) → pairF (Nz.fr s f) = vlF (Nz.sx s f) (s.extract (p2 s f + 1) j) (Nz.fr s (j + 1))) := by
  obtain ⟨q, hq, hq0⟩ : ∃ q : UInt8, (q = 34 ∨ q = 39) ∧ hd (Nz.fr s (p2 s f)) = ((q.toNat : Nat) : Int) := by
    rcases h9 with h | h
    · exact ⟨34, .inl rfl, h⟩
    · exact ⟨39, .inr rfl, h⟩
  rw [hq0]
  exact ⟨fun h => pf_open s f q hq h3 h6 hq0 (qi_at_none s _ _ h), fun j hj1 hj2 he h => pf_val s f j q hq h3 h6 hq0 hj1 (qi_at_some s _ j _ hj1 hj2 he h)⟩
theorem DS.drewN {w0 w : World} {R T : Nat} {nm : ByteArray} {v : Value} {l : List (ByteArray × ByteArray)} (h : DS w0 R T nm v l w) (n : Nat) : DS w0 R T nm v l (w.drewN n) := h.after (below_drewN (Below.refl _ w) n)
end Go.Proofs.YtkeilgompipfjaaGreatDoor.Tg

/- The walk of the document's Right of a tag. -/
set_option linter.unusedSimpArgs false
set_option linter.unusedVariables false
namespace Go.Proofs.YtkeilgompipfjaaGreatDoor.Tg
open Go.RowKit

/-- An attribute that may be, behind those ahead of it; a tag that may be. -/
def Rg1 (l : List (ByteArray × ByteArray)) (k : Nat) (x : ByteArray × ByteArray) : Prop := isN x.1 = true ∧ Rt (byts x.2) ∧ ∀ j y, j < k → l[j]? = some y → byts y.1 ≠ byts x.1
def Fit (l : List (ByteArray × ByteArray)) : Prop := ∀ x ∈ l, x.1.size ≤ 10000 ∧ x.2.size ≤ 10000
def RgP (nm : ByteArray) (l : List (ByteArray × ByteArray)) : Prop := isN nm = true ∧ l.length ≤ 32 ∧ ∀ k x, l[k]? = some x → Rg1 l k x
end Go.Proofs.YtkeilgompipfjaaGreatDoor.Tg

/- Plain mathematics: a tag that is read may be. -/
set_option linter.unusedSimpArgs false
set_option linter.unusedVariables false
namespace Go.Proofs.YtkeilgompipfjaaGreatDoor.Tg
open Go.RowKit

theorem step_chr (v : Bool) (l : List Int) (hl : l ≠ []) (hn : NN l) (h : (stepF v l).1 = 0) : ∃ r, (stepF v l).2.1 = encB r ∧ Chr r ∧ (encB r).length ≤ 2 * (stepF v l).2.2 := by
  unfold stepF at h ⊢
  by_cases c1 : l.getD 0 0 = 38
  · rw [if_pos c1] at h ⊢
    by_cases c2 : 59 ∈ l.tail ∧ 0 ≤ refV (bodyOf l.tail)
    · rw [if_pos c2]
      refine ⟨_, rfl, refV_chr _ c2.2, ?_⟩
      have := (encB_len (refV (bodyOf l.tail))).2
      show _ ≤ 2 * ((bodyOf l.tail).length + 2)
      omega
    · rw [if_neg c2] at h
      exact absurd h (by decide)
  rw [if_neg c1] at h ⊢
  by_cases c2 : l.getD 0 0 = 13
  · rw [if_pos c2]
    refine ⟨blk v 10, ?_, ?_, ?_⟩
    · cases v <;> rfl
    · cases v <;> decide
    · have : (encB (blk v 10)).length = 1 := by cases v <;> rfl
      show _ ≤ 2 * (if l.getD 1 0 = 10 then 2 else 1)
      split <;> omega
  rw [if_neg c2] at h ⊢
  by_cases c3 : l.getD 0 0 = 9 ∨ l.getD 0 0 = 10
  · rw [if_pos c3]
    refine ⟨blk v (l.getD 0 0), ?_, ?_, ?_⟩
    · rcases c3 with c | c <;> rw [c] <;> cases v <;> rfl
    · rcases c3 with c | c <;> rw [c] <;> cases v <;> decide
    · have : (encB (blk v (l.getD 0 0))).length = 1 := by rcases c3 with c | c <;> rw [c] <;> cases v <;> rfl
      show _ ≤ 2 * 1
      omega
  rw [if_neg c3] at h ⊢
  by_cases c4 : (dec1 l).2.2 ≠ 0
  · rw [if_pos c4] at h
    exact absurd h c4
  rw [if_neg c4] at h ⊢
  by_cases c5 : Chr (dec1 l).1
  · rw [if_pos c5]
    have hi := dec_inv l hl (fun k => hn.getD k) (Decidable.not_not.1 c4)
    refine ⟨_, rfl, c5, ?_⟩
    have h2 := hi.2.1
    show _ ≤ 2 * (dec1 l).2.1.toNat
    omega
  · rw [if_neg c5] at h
    exact absurd h (by decide)
theorem read_rt (v : Bool) : ∀ (n : Nat) (L : List Int), L.length ≤ n → NN L → (readF v L).2.2 = 0 → Rt (readF v L).1 ∧ NN (readF v L).1 ∧ (∀ x ∈ (readF v L).1, x ≤ 255) ∧ (readF v L).1.length ≤ 2 * L.length
  | n, L, h, hn, h0 => by
    by_cases hl : L = []
    · subst hl
      rw [readF_nil]
      exact ⟨⟨rfl, fun r hr => by simp [decF_nil] at hr⟩, fun x hx => by simp at hx, fun x hx => by simp at hx, by simp⟩
    match n with
    | 0 => exact absurd (List.eq_nil_of_length_eq_zero (by omega)) hl
    | n + 1 =>
      by_cases he : (stepF v L).1 = 0
      · have hb := step_bd v L hl hn he
        obtain ⟨r, e1, e2, e3⟩ := step_chr v L hl hn he
        rw [readF_ok v L hl hn he] at h0 ⊢
        obtain ⟨i1, i2, i3, i4⟩ := read_rt v n (L.drop (stepF v L).2.2) (by rw [List.length_drop]; omega) (hn.drop _) h0
        rw [List.length_drop] at i4
        dsimp only
        rw [e1]
        have hg := chr_good e2
        have hq := encB_nn r hg
        refine ⟨?_, ?_, ?_, ?_⟩
        · unfold Rt at i1 ⊢
          rw [decF_enc r _ hg i2]
          refine ⟨i1.1, fun x hx => ?_⟩
          rcases List.mem_cons.1 hx with hx | hx
          · rw [hx]; exact e2
          · exact i1.2 x hx
        · intro x hx
          rcases List.mem_append.1 hx with hx | hx
          · exact hq.1 x hx
          · exact i2 x hx
        · intro x hx
          rcases List.mem_append.1 hx with hx | hx
          · exact hq.2 x hx
          · exact i3 x hx
        · rw [List.length_append]
          omega
      · rw [readF_err v L hl he] at h0
        exact absurd h0 he
theorem ans_rt (a : ByteArray) (h : (ansF true (byts a)).2.2 = 0) : Rt (byts (strOfNums (ansF true (byts a)).1)) ∧ (strOfNums (ansF true (byts a)).1).size ≤ 2 * a.size := by
  have h0 : (readF true (byts a)).2.2 = 0 := by
    unfold ansF at h
    split at h
    · assumption
    · exact h
  have hz : (ansF true (byts a)).1 = (readF true (byts a)).1 := by unfold ansF; rw [if_pos h0]
  obtain ⟨i1, i2, i3, i4⟩ := read_rt true _ (byts a) (Nat.le_refl _) (byts_nn a) h0
  rw [hz]
  have e := byts_str _ i2 i3
  refine ⟨by rw [e]; exact i1, ?_⟩
  rw [← byts_len, e, ← byts_len a]
  exact i4
/-- What is known of an attribute that is read. -/
def PrI (m : Nat) (x : Int × ByteArray × ByteArray × ByteArray) : Prop := x.1 = 0 → isN x.2.1 = true ∧ Rt (byts x.2.2.1) ∧ x.2.1.size ≤ m ∧ x.2.2.1.size ≤ 2 * m
theorem quo_I (q : UInt8) (nm u : ByteArray) (m : Nat) (hn : isN nm = true) (h1 : nm.size ≤ m) (h2 : u.size ≤ m) : PrI m (quoF q nm u) := by
  unfold quoF
  split
  · intro h; exact absurd h (by decide)
  split
  · rename_i h; intro h'; exact absurd h' h
  · rename_i h
    intro _
    have := ans_rt (u.extract 0 (qi q u).toNat) (Decidable.not_not.1 h)
    have hz : (u.extract 0 (qi q u).toNat).size ≤ u.size := by
      rw [← byts_len, byts_to, List.length_take, byts_len]
      omega
    exact ⟨hn, this.1, h1, Nat.le_trans this.2 (by omega)⟩
theorem pair_I (u : ByteArray) : PrI u.size (pairF u) := by
  unfold pairF
  have z0 := sx_le u
  have z1 := Nz.fr_size u (Nz.sn u 0)
  have z2 := sk_size (Nz.fr u (Nz.sn u 0))
  have z3 := Nz.fr_size (sk (Nz.fr u (Nz.sn u 0))) 1
  have z4 := sk_size (Nz.fr (sk (Nz.fr u (Nz.sn u 0))) 1)
  have z5 := Nz.fr_size (sk (Nz.fr (sk (Nz.fr u (Nz.sn u 0))) 1)) 1
  by_cases c1 : isN (Nz.sx u 0) = false
  · rw [if_pos c1]; intro h; exact absurd h (by decide)
  rw [if_neg c1]
  have c1' : isN (Nz.sx u 0) = true := by simpa using c1
  by_cases c2 : hd (sk (Nz.fr u (Nz.sn u 0))) ≠ 61
  · rw [if_pos c2]; intro h; exact absurd h (by decide)
  rw [if_neg c2]
  by_cases c3 : hd (sk (Nz.fr (sk (Nz.fr u (Nz.sn u 0))) 1)) = 34
  · rw [if_pos c3]
    exact quo_I _ _ _ _ c1' z0 (by omega)
  rw [if_neg c3]
  by_cases c4 : hd (sk (Nz.fr (sk (Nz.fr u (Nz.sn u 0))) 1)) = 39
  · rw [if_pos c4]
    exact quo_I _ _ _ _ c1' z0 (by omega)
  rw [if_neg c4]
  intro h; exact absurd h (by decide)
/-- What is known of the attributes read so far. -/
def LsI (m : Nat) (l : List (ByteArray × ByteArray)) : Prop := l.length ≤ 32 ∧ (∀ k x, l[k]? = some x → Rg1 l k x) ∧ ∀ x ∈ l, x.1.size ≤ m ∧ x.2.size ≤ 2 * m
theorem ls_put {m : Nat} {l : List (ByteArray × ByteArray)} {x : ByteArray × ByteArray} (h : LsI m l) (hl : ¬ 32 ≤ l.length) (hn : isN x.1 = true) (hr : Rt (byts x.2)) (hh : hasN x.1 l = false) (h1 : x.1.size ≤ m) (h2 : x.2.size ≤ 2 * m) : LsI m (l ++ [x]) := by
  refine ⟨by rw [List.length_append, List.length_singleton]; omega, fun k y hy => ?_, fun y hy => ?_⟩
  · have hk : k < l.length + 1 := by
      have := (List.getElem?_eq_some_iff.1 hy).1
      rw [List.length_append, List.length_singleton] at this
      exact this
    have key : ∀ j z, j < l.length → (l ++ [x])[j]? = some z → l[j]? = some z := fun j z hj hz => by rw [List.getElem?_append_left hj] at hz; exact hz
    rcases Nat.lt_or_ge k l.length with g | g
    · have := h.2.1 k y (key k y g hy)
      exact ⟨this.1, this.2.1, fun j z hj hz => this.2.2 j z hj (key j z (by omega) hz)⟩
    · obtain rfl : k = l.length := by omega
      have : y = x := by
        rw [List.getElem?_append_right (Nat.le_refl _)] at hy
        simpa using hy.symm
      subst this
      refine ⟨hn, hr, fun j z hj hz => ?_⟩
      have hz' := key j z hj hz
      unfold hasN at hh
      rw [List.any_eq_false] at hh
      have := hh z (List.mem_of_getElem? hz')
      simpa using this
  · rcases List.mem_append.1 hy with hy | hy
    · exact h.2.2 y hy
    · have : y = x := by simpa using hy
      subst this
      exact ⟨h1, h2⟩
theorem goF_I (m : Nat) : ∀ (f : Nat) (nm : ByteArray) (l : List (ByteArray × ByteArray)) (u : ByteArray), u.size ≤ m → LsI m l → (goF f nm l u).1 = 0 → (goF f nm l u).2.1 = nm ∧ LsI m (goF f nm l u).2.2
  | 0, nm, l, u, _, hI, _ => ⟨rfl, hI⟩
  | f + 1, nm, l, u, hu, hI, h => by
    have hpi := pair_I (sk u)
    have hpl := @pair_lt (sk u)
    have hs := sk_size u
    unfold goF at h ⊢
    generalize pairF (sk u) = P at *
    by_cases c1 : (sk u).size = 0
    · rw [if_pos c1]; exact ⟨rfl, hI⟩
    rw [if_neg c1] at h ⊢
    by_cases c2 : bk u = 0
    · rw [if_pos c2] at h; exact absurd (show (6 : Int) = 0 from h) (by decide)
    rw [if_neg c2] at h ⊢
    by_cases c3 : P.1 ≠ 0
    · rw [if_pos c3] at h; exact absurd (show P.1 = 0 from h) c3
    rw [if_neg c3] at h ⊢
    by_cases c4 : hasN P.2.1 l = true
    · rw [if_pos c4] at h; exact absurd (show (8 : Int) = 0 from h) (by decide)
    rw [if_neg c4] at h ⊢
    by_cases c5 : 32 ≤ l.length
    · rw [if_pos c5] at h; exact absurd (show (13 : Int) = 0 from h) (by decide)
    rw [if_neg c5] at h ⊢
    have c3' := Decidable.not_not.1 c3
    obtain ⟨p1, p2, p3, p4⟩ := hpi c3'
    have hlt := hpl c3'
    exact goF_I m f _ _ _ (by omega) (ls_put hI c5 p1 p2 (by simpa using c4) (Nat.le_trans p3 (by omega)) (Nat.le_trans p4 (by omega))) h
theorem par_I (s : ByteArray) (h : (parF s).1 = 0) : RgP (parF s).2.1 (parF s).2.2 ∧ (parF s).2.1.size ≤ s.size ∧ ∀ x ∈ (parF s).2.2, x.1.size ≤ s.size ∧ x.2.size ≤ 2 * s.size := by
  unfold parF at h ⊢
  by_cases c : isN (Nz.sx s 0) = false
  · rw [if_pos c] at h
    exact absurd h (by decide)
  rw [if_neg c] at h ⊢
  unfold GoF at h ⊢
  have hz := Nz.fr_size s (Nz.sn s 0)
  obtain ⟨g1, g2⟩ := goF_I s.size _ _ [] _ (by omega) ⟨by simp, fun k x hx => by simp at hx, fun x hx => by simp at hx⟩ h
  rw [g1]
  exact ⟨⟨by simpa using c, g2.1, g2.2.1⟩, sx_le s, g2.2.2⟩
end Go.Proofs.YtkeilgompipfjaaGreatDoor.Tg

/- Plain mathematics of scopes: what Find, Names, Enter answer; the document's binds is the program's. -/
set_option linter.unusedSimpArgs false
set_option linter.unusedVariables false
namespace Go.Proofs.YtkeilgompipfjaaGreatDoor.Nz.Sc

abbrev P2 := ByteArray × ByteArray
def xn : ByteArray := ⟨#[120, 109, 108, 110, 115]⟩
def xm : ByteArray := ⟨#[120, 109, 108]⟩
def XS : ByteArray := ⟨#[104, 116, 116, 112, 58, 47, 47, 119, 119, 119, 46, 119, 51, 46, 111, 114, 103, 47, 88, 77, 76, 47, 49, 57, 57, 56, 47, 110, 97, 109, 101, 115, 112, 97, 99, 101]⟩
def XN : ByteArray := ⟨#[104, 116, 116, 112, 58, 47, 47, 119, 119, 119, 46, 119, 51, 46, 111, 114, 103, 47, 50, 48, 48, 48, 47, 120, 109, 108, 110, 115, 47]⟩
def eqb (x y : ByteArray) : Bool := x.toList == y.toList
theorem toList_inj {a b : ByteArray} (h : a.toList = b.toList) : a = b := by
  rw [Lib.toList_data, Lib.toList_data] at h
  apply ByteArray.ext
  exact Array.toList_inj.1 h
theorem eqb_iff {x y : ByteArray} : eqb x y = true ↔ x = y := by
  unfold eqb
  rw [beq_iff_eq]
  exact ⟨toList_inj, fun h => by rw [h]⟩
theorem eqb_self (x : ByteArray) : eqb x x = true := eqb_iff.2 rfl
/-- What Find answers. -/
def fndF (l : List P2) (p : ByteArray) : ByteArray × Bool := l.foldl (fun a b => if eqb b.1 p = true then (b.2, true) else a) (em, eqb p em)
theorem fnd_app (l : List P2) (b : P2) (p : ByteArray) : fndF (l ++ [b]) p = if eqb b.1 p = true then (b.2, true) else fndF l p := by
  unfold fndF
  rw [List.foldl_append]
  rfl
theorem take_snoc {α : Type} (l : List α) (k : Nat) (x : α) (h : l[k]? = some x) : l.take (k + 1) = l.take k ++ [x] := by
  rw [List.take_add_one, h]
  rfl
theorem fnd_from (l : List P2) (p : ByteArray) (k : Nat) (h : ∀ (j : Nat) (x : P2), k ≤ j → l[j]? = some x → eqb x.1 p = false) : fndF l p = fndF (l.take k) p := by
  have key : ∀ d k, l.length - k = d → (∀ (j : Nat) (x : P2), k ≤ j → l[j]? = some x → eqb x.1 p = false) → fndF l p = fndF (l.take k) p := by
    intro d
    induction d with
    | zero => intro k hd _; rw [List.take_of_length_le (by omega)]
    | succ d ih =>
      intro k hd hk
      have hlt : k < l.length := by omega
      have hx := List.getElem?_eq_getElem hlt
      rw [ih (k + 1) (by omega) (fun j x hj => hk j x (by omega)), take_snoc l k _ hx, fnd_app, if_neg (by rw [hk k _ (Nat.le_refl _) hx]; simp)]
  exact key _ k rfl h
theorem fnd_none (l : List P2) (p : ByteArray) (h : ∀ (j : Nat) (x : P2), l[j]? = some x → eqb x.1 p = false) : fndF l p = (em, eqb p em) := by
  rw [fnd_from l p 0 (fun j x _ => h j x)]
  rfl
theorem fnd_hit (l : List P2) (p : ByteArray) (k : Nat) (b : P2) (hk : l[k]? = some b) (he : eqb b.1 p = true) (h : ∀ (j : Nat) (x : P2), k < j → l[j]? = some x → eqb x.1 p = false) : fndF l p = (b.2, true) := by
  rw [fnd_from l p (k + 1) (fun j x hj => h j x (by omega)), take_snoc l k b hk, fnd_app, if_pos he]
theorem fnd_step (l : List P2) (p : ByteArray) (k : Nat) (b : P2) (hk : l[k]? = some b) : fndF (l.take (k + 1)) p = if eqb b.1 p = true then (b.2, true) else fndF (l.take k) p := by
  rw [take_snoc l k b hk, fnd_app]
/-- The name of a prefix and a local part. -/
def resF (l : List P2) (p n : ByteArray) : Option P2 := if (fndF l p).2 = false ∨ eqb p xn = true then none else some ((fndF l p).1, n)
def namF (l : List P2) (s : ByteArray) : Option P2 := if (splitA s).2.2 = false then none else resF l (splitA s).1 (splitA s).2.1
def atnF (l : List P2) (s : ByteArray) : Option P2 := if (splitA s).2.2 = false then none else if eqb (splitA s).1 em = true then some (em, (splitA s).2.1) else resF l (splitA s).1 (splitA s).2.1
/-- Which prefix an attribute binds. -/
def bndF (s : ByteArray) : Option ByteArray := if eqb (splitA s).1 xn = true then some (splitA s).2.1 else if eqb (splitA s).1 em = true ∧ eqb (splitA s).2.1 xn = true then some em else none
def okB (p s : ByteArray) : Bool := !(eqb p xn || eqb s XN) && (eqb p xm == eqb s XS) && (eqb p em || !eqb s em)
def bindF : List P2 → List P2 → Option (List P2)
  | l, [] => some l
  | l, a :: r => match bndF a.1 with
    | none => bindF l r
    | some p => if okB p a.2 = true then bindF (l ++ [(p, a.2)]) r else none
abbrev P3 := P2 × ByteArray
def hasN (n : P2) (f : List P3) : Bool := f.any fun x => eqb x.1.1 n.1 && eqb x.1.2 n.2
theorem hasN_mem {n : P2} {f : List P3} : hasN n f = true ↔ n ∈ f.map (·.1) := by
  unfold hasN
  rw [List.any_eq_true, List.mem_map]
  constructor
  · rintro ⟨x, hx, h⟩
    rw [Bool.and_eq_true, eqb_iff, eqb_iff] at h
    exact ⟨x, hx, Prod.ext h.1 h.2⟩
  · rintro ⟨x, hx, h⟩
    refine ⟨x, hx, ?_⟩
    rw [← h, eqb_self, eqb_self]
    rfl
/-- The attributes that are no bindings. -/
def attF (W : List P2) : List P3 → List P2 → Except Int (List P3)
  | f, [] => .ok f
  | f, a :: r => match bndF a.1 with
    | some _ => attF W f r
    | none => match atnF W a.1 with
      | none => .error 9
      | some n => if hasN n f = true then .error 8 else attF W (f ++ [(n, a.2)]) r
/-- What Enter answers. -/
def entF (l : List P2) (nm : ByteArray) (r : List P2) : Except Int (List P2 × P2 × List P3) :=
  match bindF l r with
  | none => .error 9
  | some W => match namF W nm with
    | none => .error 9
    | some n => match attF W [] r with
      | .error c => .error c
      | .ok f => .ok (W, n, f)
/-- What Names answers. -/
def nmsF (l : List P2) : List P2 → List ByteArray → Option (List P2)
  | f, [] => some f
  | f, s :: r => match namF l s with
    | none => none
    | some n => nmsF l (f ++ [n]) r
theorem split_isN {s : ByteArray} (h : (splitA s).2.2 = true) : (pl (bl s) = true ∧ splitA s = (em, s, true)) ∨ ∃ i, Hit s i ∧ splitA s = (s.extract 0 i, s.extract (i + 1) s.size, true) := by
  cases hp : pl (bl s) with
  | true => exact .inl ⟨rfl, plain_split hp⟩
  | false =>
    by_cases hn : ∃ i, Hit s i
    · obtain ⟨i, hi⟩ := hn
      exact .inr ⟨i, hi, hit_split hi⟩
    · rw [nohit_split hp (fun i _ hi => hn ⟨i, hi⟩)] at h
      cases h
/-- Sizes. -/
def Lim : Nat := 140737488351232
def LimL (l : List P2) : Prop := ∀ x ∈ l, x.1.size ≤ Lim ∧ x.2.size ≤ Lim
theorem em_size : em.size = 0 := rfl
theorem split_size (s : ByteArray) : (splitA s).1.size ≤ s.size ∧ (splitA s).2.1.size ≤ s.size := by
  unfold splitA
  split
  · split <;> simp [em_size]
  · split <;> simp [em_size] <;> omega
theorem fnd_size {l : List P2} (h : LimL l) (p : ByteArray) : (fndF l p).1.size ≤ Lim := by
  have key : ∀ k, (fndF (l.take k) p).1.size ≤ Lim := by
    intro k
    induction k with
    | zero => simp [fndF, em_size]
    | succ k ih =>
      by_cases hk : k < l.length
      · rw [fnd_step l p k _ (List.getElem?_eq_getElem hk)]
        split
        · exact (h _ (List.getElem_mem hk)).2
        · exact ih
      · rw [List.take_of_length_le (by omega)]
        rw [List.take_of_length_le (by omega)] at ih
        exact ih
  have := key l.length
  rwa [List.take_of_length_le (Nat.le_refl _)] at this
theorem bind_lim : ∀ (r l : List P2) {W : List P2}, LimL l → LimL r → bindF l r = some W → LimL W
  | [], l, W, hl, _, h => by
    injection h with h
    rw [← h]
    exact hl
  | a :: r, l, W, hl, hr, h => by
    unfold bindF at h
    have hr' : LimL r := fun x hx => hr x (List.mem_cons_of_mem _ hx)
    have ha := hr a List.mem_cons_self
    split at h
    · exact bind_lim r l hl hr' h
    · rename_i p hp
      split at h
      · refine bind_lim r _ (fun x hx => ?_) hr' h
        rcases List.mem_append.1 hx with hx | hx
        · exact hl x hx
        · rw [List.mem_singleton] at hx
          subst hx
          refine ⟨?_, ha.2⟩
          unfold bndF at hp
          split at hp
          · injection hp with hp
            rw [← hp]
            exact Nat.le_trans (split_size a.1).2 ha.1
          · split at hp
            · injection hp with hp
              rw [← hp]
              simp [em_size]
            · cases hp
      · cases h
theorem bind_len : ∀ (r l : List P2) {W : List P2}, bindF l r = some W → l.length ≤ W.length ∧ W.length ≤ l.length + r.length ∧ W.take l.length = l
  | [], l, W, h => by
    injection h with h
    subst h
    simp
  | a :: r, l, W, h => by
    unfold bindF at h
    split at h
    · have := bind_len r l h
      rw [List.length_cons]
      exact ⟨this.1, by omega, this.2.2⟩
    · split at h
      · obtain ⟨h1, h2, h3⟩ := bind_len r _ h
        rw [List.length_append, List.length_cons, List.length_nil] at h1 h2 h3
        rw [List.length_cons]
        refine ⟨by omega, by omega, ?_⟩
        have := congrArg (List.take l.length) h3
        rw [List.take_take, Nat.min_eq_left (by omega), List.take_left' rfl] at this
        exact this
      · cases h
theorem att_len (W : List P2) : ∀ (r : List P2) (f : List P3) {g : List P3}, attF W f r = .ok g → g.length ≤ f.length + r.length
  | [], f, g, h => by
    injection h with h
    subst h
    simp
  | a :: r, f, g, h => by
    unfold attF at h
    rw [List.length_cons]
    split at h
    · have := att_len W r f h
      omega
    · split at h
      · cases h
      · split at h
        · cases h
        · have := att_len W r _ h
          rw [List.length_append, List.length_cons, List.length_nil] at this
          omega
end Go.Proofs.YtkeilgompipfjaaGreatDoor.Nz.Sc
