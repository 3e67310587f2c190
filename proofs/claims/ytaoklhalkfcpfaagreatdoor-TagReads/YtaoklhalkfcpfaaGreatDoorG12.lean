/-
  Merged by program out of the texts TgAttr2, TgRead, Desc of one seat.
-/
import Derived.Test.YtaoklhalkfcpfaaGreatDoorG11
import Derived.Test.YtaoklhalkfcpfaaGreatDoorG09

/- The walk of the reader's attribute. -/
set_option linter.unusedSimpArgs false
set_option linter.unusedVariables false
namespace Go.Proofs.YtaoklhalkfcpfaaGreatDoor
open Go.RowKit

theorem at_of {l : List (ByteArray × ByteArray)} {x : Int × ByteArray × ByteArray × ByteArray} {w0 w' : World} {g : Nat} {nm : ByteArray} {e : Ending} {r : Int} (h : atF l x = r) (h1 : e = .returned (.int .i64 r)) (h2 : r = 0 → ∃ v', RS w0 g x.2.2.2 nm v' (l ++ [(x.2.1, x.2.2.1)]) w') (h3 : ∃ u' v' l', RS w0 g u' nm v' l' w') : AtPost l x w0 g nm e w' := by
  unfold AtPost
  rw [h]
  exact ⟨h1, h2, h3⟩
set_option maxHeartbeats 2000000 in
set_option maxRecDepth 100000 in
theorem attr_err (w0 : World) (g : Nat) (nm : ByteArray) (v : Value) (l : List (ByteArray × ByteArray)) (x : Int × ByteArray × ByteArray × ByteArray) (w : World) (he : x.1 ≠ 0)
    (C : Hid (Calls Tryz.prog 43 #[.pointer (some ⟨g, 0, none⟩)] w (PrPost x w0 g nm v l))) :
    Calls Tryz.prog 29 #[.pointer (some ⟨g, 0, none⟩)] w (AtPost l x w0 g nm) := by
  have HA : Hid (atF l x = x.1) := Lib.hid (by unfold atF; rw [if_pos he])
  obtain ⟨er, xn, xv, xr⟩ := x
  dsimp only at he HA
  have t1 : (er != 0) = true := by rw [bne_iff_ne]; exact he
  have HE := Lib.hid he
  clear he
  go_enter Tryz.func29, Tryz.ntmps29
  go_wp2_with fail
  refine C.out.mono ?_
  rintro e w1 ⟨u', rfl, hr, _⟩
  have HR := Lib.hid (hr.alloc (.cells #[.string xn, .string xv] 37))
  clear C hr
  dsimp only
  go_wp2
  go_ret
  exact at_of HA.out rfl (fun h => absurd h HE.out) ⟨_, _, _, HR.out⟩
set_option maxHeartbeats 2000000 in
set_option maxRecDepth 100000 in
theorem attr_twice (w0 : World) (g : Nat) (nm : ByteArray) (v : Value) (l : List (ByteArray × ByteArray)) (x : Int × ByteArray × ByteArray × ByteArray) (w : World) (he : x.1 = 0) (hh : hasN x.2.1 l = true) (hl : l.length ≤ 10000)
    (C : Hid (Calls Tryz.prog 43 #[.pointer (some ⟨g, 0, none⟩)] w (PrPost x w0 g nm v l))) :
    Calls Tryz.prog 29 #[.pointer (some ⟨g, 0, none⟩)] w (AtPost l x w0 g nm) := by
  have HA : Hid (atF l x = 8) := Lib.hid (by unfold atF; rw [if_neg (by rw [he]; decide), if_pos hh])
  obtain ⟨er, xn, xv, xr⟩ := x
  dsimp only at he hh
  subst he
  have CF := Lib.hid (fun n cap p A W hn h1 hp hlt => conf_any l xn n cap p A W hn (by omega) h1 hp hlt true hh)
  clear hh
  go_enter Tryz.func29, Tryz.ntmps29
  go_wp2_with fail
  refine C.out.mono ?_
  rintro e w1 ⟨u', rfl, hr, _⟩
  obtain ⟨A, c, rfl, hR⟩ := own_rdR hr.own
  have hb := (Below.refl _ w1).alloc (Nat.le_refl _) (.cells #[.string xn, .string xv] 37)
  have HR := Lib.hid (hr.alloc (.cells #[.string xn, .string xv] 37))
  have HD := Lib.hid (hR.keep hb)
  have c2 := HR.out.c2
  clear C hr hR hb
  obtain ⟨n, hn⟩ : ∃ n, n = l.length := ⟨_, rfl⟩
  rw [← hn] at c2
  have HN := Lib.hid hn
  clear hn
  dsimp only
  go_wp2_with fail
  refine (CF.out n c w1.heap.size A _ HN.out HD.out (Blk0 w1 37 #[.string xn, .string xv] 0) (by simp)).mono ?_
  rintro e w2 ⟨rfl, hb2⟩
  have HR2 := Lib.hid (HR.out.after hb2)
  clear hb2 CF HR HD c2
  go_wp2
  go_ret
  exact at_of HA.out rfl (fun h => absurd h (by decide)) ⟨_, _, _, HR2.out⟩
set_option maxHeartbeats 2000000 in
set_option maxRecDepth 100000 in
theorem attr_large (w0 : World) (g : Nat) (nm : ByteArray) (v : Value) (l : List (ByteArray × ByteArray)) (x : Int × ByteArray × ByteArray × ByteArray) (w : World) (he : x.1 = 0) (hh : hasN x.2.1 l = false) (hl : l.length = 32)
    (C : Hid (Calls Tryz.prog 43 #[.pointer (some ⟨g, 0, none⟩)] w (PrPost x w0 g nm v l))) :
    Calls Tryz.prog 29 #[.pointer (some ⟨g, 0, none⟩)] w (AtPost l x w0 g nm) := by
  have HA : Hid (atF l x = 13) := Lib.hid (by unfold atF; rw [if_neg (by rw [he]; decide), if_neg (by rw [hh]; decide), if_pos (by omega)])
  obtain ⟨er, xn, xv, xr⟩ := x
  dsimp only at he hh
  subst he
  have CF := Lib.hid (fun n cap p A W hn h1 hp hlt => conf_any l xn n cap p A W hn (by omega) h1 hp hlt false hh)
  have HL := Lib.hid hl
  clear hh hl
  go_enter Tryz.func29, Tryz.ntmps29
  go_wp2_with fail
  refine C.out.mono ?_
  rintro e w1 ⟨u', rfl, hr, _⟩
  obtain ⟨A, c, rfl, hR⟩ := own_rdR hr.own
  have hb := (Below.refl _ w1).alloc (Nat.le_refl _) (.cells #[.string xn, .string xv] 37)
  have HR := Lib.hid (hr.alloc (.cells #[.string xn, .string xv] 37))
  have HD := Lib.hid (hR.keep hb)
  have c2 := HR.out.c2
  clear C hr hR hb
  rw [HL.out] at c2
  dsimp only
  go_wp2_with fail
  refine (CF.out 32 c w1.heap.size A _ HL.out.symm HD.out (Blk0 w1 37 #[.string xn, .string xv] 0) (by simp)).mono ?_
  rintro e w2 ⟨rfl, hb2⟩
  have HR2 := Lib.hid (HR.out.after hb2)
  have d2 := HR2.out.c2
  rw [HL.out] at d2
  clear hb2 CF HR HD c2
  go_wp2
  go_ret
  exact at_of HA.out rfl (fun h => absurd h (by decide)) ⟨_, _, _, HR2.out⟩
set_option maxHeartbeats 4000000 in
set_option maxRecDepth 100000 in
theorem attr_ok (w0 : World) (g : Nat) (nm : ByteArray) (v : Value) (l : List (ByteArray × ByteArray)) (x : Int × ByteArray × ByteArray × ByteArray) (w : World) (he : x.1 = 0) (hh : hasN x.2.1 l = false) (hl : l.length < 32)
    (C : Hid (Calls Tryz.prog 43 #[.pointer (some ⟨g, 0, none⟩)] w (PrPost x w0 g nm v l))) :
    Calls Tryz.prog 29 #[.pointer (some ⟨g, 0, none⟩)] w (AtPost l x w0 g nm) := by
  have HA : Hid (atF l x = 0) := Lib.hid (by unfold atF; rw [if_neg (by rw [he]; decide), if_neg (by rw [hh]; decide), if_neg (by omega)])
  obtain ⟨er, xn, xv, xr⟩ := x
  dsimp only at he hh
  subst he
  have CF := Lib.hid (fun n cap p A W hn h1 hp hlt => conf_any l xn n cap p A W hn (by omega) h1 hp hlt false hh)
  clear hh
  obtain ⟨i0, hi, hz0, hz1, hz2⟩ := info_parts Tryz.info37
  go_enter Tryz.func29, Tryz.ntmps29
  go_wp2_with fail
  refine C.out.mono ?_
  rintro e w1 ⟨u', rfl, hr, hu⟩
  obtain rfl : u' = xr := hu rfl
  obtain ⟨A, c, rfl, hR⟩ := own_rdR hr.own
  have hb := (Below.refl _ w1).alloc (Nat.le_refl _) (.cells #[.string xn, .string xv] 37)
  have HR := Lib.hid (hr.alloc (.cells #[.string xn, .string xv] 37))
  have HD := Lib.hid (hR.keep hb)
  have c2 := HR.out.c2
  clear C hr hR hb hu
  obtain ⟨n, hn⟩ : ∃ n, n = l.length := ⟨_, rfl⟩
  rw [← hn] at c2
  have HN := Lib.hid hn
  have hn32 : n < 32 := by omega
  clear hn
  dsimp only
  go_wp2_with fail
  refine (CF.out n c w1.heap.size A _ HN.out HD.out (Blk0 w1 37 #[.string xn, .string xv] 0) (by simp)).mono ?_
  rintro e w2 ⟨rfl, hb2⟩
  have HR2 := Lib.hid (HR.out.after hb2)
  have hpl : w1.heap.size < w2.heap.size := Nat.lt_of_lt_of_le (by simp) hb2.size
  have a0 : w2.cell? ⟨w1.heap.size, 0, none⟩ = some (.string xn) := (hb2.cell (p := ⟨w1.heap.size, 0, none⟩) (by simp)).trans (Blk0 w1 37 #[.string xn, .string xv] 0)
  have a1 : w2.cell? ⟨w1.heap.size, 1, none⟩ = some (.string xv) := (hb2.cell (p := ⟨w1.heap.size, 1, none⟩) (by simp)).trans (Blk0 w1 37 #[.string xn, .string xv] 1)
  have d2 := HR2.out.c2
  rw [← HN.out] at d2
  clear hb2 CF HR HD c2
  generalize w1.heap.size = p at *
  have t1 : ((n : Int) == 32) = false := by rw [beq_eq_false_iff_ne]; omega
  have hgl := HR2.out.lt
  have HX := Lib.hid (HR2.out.drew.alloc (.cells #[.string xn, .string xv] 37))
  have ho := HX.out.own
  unfold OwnR at ho
  rw [← HN.out] at ho
  have hbz := HX.out.bel.size
  have hlc := lit_cells w2.drew #[.string xn, .string xv] 37
  have HK : Hid (∀ v' w', w'.ownsRow w0.heap.size 37 2 v' (n + 1) (rwL l ++ [.string xn, .string xv]) → (w2.drew.alloc (.cells #[.string xn, .string xv] 37)).grownBy w' (Value.slice A n c).ownBlock →
      ∃ g' cap', v' = .slice (some ⟨g', 0, none⟩) (n + 1) cap' ∧ w'.cell? ⟨g, 2, none⟩ = some (.slice A n c) ∧ w'.frozen? ⟨g, 2, none⟩ = false ∧ RS w0 g u' nm v' (l ++ [(xn, xv)]) (w'.setCell ⟨g, 2, none⟩ v')) := Lib.hid (by
    intro v' w' k1 k2
    obtain ⟨g', cap', hv⟩ := own_shape k1
    have hx := HX.out
    rw [HN.out] at k1 k2
    obtain ⟨q1, q2⟩ := RS.put (x := (xn, xv)) hx k1 k2
    refine ⟨g', cap', hv, ?_, Lib.frozen_of_heap q1 2, q2⟩
    rw [Lib.cell_of_heap q1, HN.out]
    rfl)
  have D2 : w2.drew.cell? ⟨g, 2, none⟩ = some (.slice A n c) := d2
  have A0 : w2.drew.cell? ⟨p, 0, none⟩ = some (.string xn) := a0
  have A1 : w2.drew.cell? ⟨p, 1, none⟩ = some (.string xv) := a1
  have hne : ¬ g = w2.heap.size := by omega
  have D3 : (w2.drew.alloc (.cells #[.string xn, .string xv] 37)).cell? ⟨g, 2, none⟩ = some (.slice A n c) := by
    rw [← d2]
    exact ((Below.refl _ w2.drew).alloc (Nat.le_refl _) _).cell (p := ⟨g, 2, none⟩) hgl
  clear HX HR2
  go_wp2_with fail
  go_region_law (refine step_append_own rfl (.tmp 35) (.tmp 37) 23 rfl w0.heap.size 37 i0 (.agg #[.string ⟨#[]⟩, .string ⟨#[]⟩]) 2 32 Tryz.underlying23 hi hz0 hz1 hz2 rfl (by decide) (.slice A n c) n (rwL l) (by simp [Act.eval, Act.put]) ho ⟨w2.heap.size, 0, none⟩ 1 1 [.string xn, .string xv] (by simp [Act.eval, Act.put]) rfl hlc (by intro u hu; simp only [List.mem_cons, List.not_mem_nil, or_false] at hu; rcases hu with rfl | rfl <;> rfl) (by unfold maxLen; omega) (by omega) hbz ?_; intro v' w' k1 k2; obtain ⟨g', cap', rfl, e2, f2, r2⟩ := HK.out v' w' k1 k2; have HR3 := Lib.hid r2; clear k1 k2 r2)
  all_goals go_wp2
  all_goals go_ret
  all_goals exact at_of HA.out rfl (fun _ => ⟨_, HR3.out⟩) ⟨_, _, _, HR3.out⟩
theorem attr_any (w0 : World) (g : Nat) (u nm : ByteArray) (v : Value) (l : List (ByteArray × ByteArray)) (w : World) (h : RS w0 g u nm v l w) (hs : u.size ≤ 100000) (hl : l.length ≤ 32) :
    Calls Tryz.prog 29 #[.pointer (some ⟨g, 0, none⟩)] w (AtPost l (pairF u) w0 g nm) := by
  have C := Lib.hid (pair_any w0 g u nm v l w h hs)
  by_cases h1 : (pairF u).1 = 0
  · by_cases h2 : hasN (pairF u).2.1 l = true
    · exact attr_twice w0 g nm v l _ w h1 h2 (by omega) C
    · have h2' : hasN (pairF u).2.1 l = false := by simpa using h2
      by_cases h3 : l.length = 32
      · exact attr_large w0 g nm v l _ w h1 h2' h3 C
      · exact attr_ok w0 g nm v l _ w h1 h2' (by omega) C
  · exact attr_err w0 g nm v l _ w h1 C
end Go.Proofs.YtaoklhalkfcpfaaGreatDoor

/- The walks of the reader's read, and of tag.Parse. -/
set_option linter.unusedSimpArgs false
set_option linter.unusedVariables false
namespace Go.Proofs.YtaoklhalkfcpfaaGreatDoor
open Go.RowKit

theorem go_bad (nm : ByteArray) (l : List (ByteArray × ByteArray)) (u : ByteArray) (c1 : (sk u).size ≠ 0) (c2 : bk u ≠ 0) (c3 : atF l (pairF (sk u)) ≠ 0) : GoF nm l u = (atF l (pairF (sk u)), Nz.em, []) := by
  by_cases h1 : (pairF (sk u)).1 = 0
  · by_cases h2 : hasN (pairF (sk u)).2.1 l = true
    · rw [go_twice nm l u c1 c2 h1 h2]
      unfold atF
      rw [if_neg (Decidable.not_not.2 h1), if_pos h2]
    · have h2' : hasN (pairF (sk u)).2.1 l = false := by simpa using h2
      by_cases h3 : 32 ≤ l.length
      · rw [go_large nm l u c1 c2 h1 h2' h3]
        unfold atF
        rw [if_neg (Decidable.not_not.2 h1), if_neg h2, if_pos h3]
      · exfalso
        apply c3
        unfold atF
        rw [if_neg (Decidable.not_not.2 h1), if_neg h2, if_neg h3]
  · rw [go_err nm l u c1 c2 h1]
    unfold atF
    rw [if_pos h1]
theorem go_good (nm : ByteArray) (l : List (ByteArray × ByteArray)) (u : ByteArray) (c1 : (sk u).size ≠ 0) (c2 : bk u ≠ 0) (c3 : atF l (pairF (sk u)) = 0) :
    GoF nm l u = GoF nm (l ++ [((pairF (sk u)).2.1, (pairF (sk u)).2.2.1)]) (pairF (sk u)).2.2.2 ∧ l.length < 32 ∧ (pairF (sk u)).2.2.2.size < u.size := by
  unfold atF at c3
  by_cases h1 : (pairF (sk u)).1 = 0
  · rw [if_neg (Decidable.not_not.2 h1)] at c3
    by_cases h2 : hasN (pairF (sk u)).2.1 l = true
    · rw [if_pos h2] at c3; exact absurd c3 (by decide)
    rw [if_neg h2] at c3
    by_cases h3 : 32 ≤ l.length
    · rw [if_pos h3] at c3; exact absurd c3 (by decide)
    have := pair_lt h1
    have hs := sk_size u
    exact ⟨go_ok nm l u c1 c2 h1 (by simpa using h2) h3, by omega, by omega⟩
  · rw [if_pos h1] at c3
    exact absurd c3 h1

def RePost (x : Int × ByteArray × List (ByteArray × ByteArray)) (w0 : World) (g : Nat) (e : Ending) (w' : World) : Prop :=
  e = .returned (.int .i64 x.1) ∧ ∃ u' nm' v' l', RS w0 g u' nm' v' l' w' ∧ (x.1 = 0 → nm' = x.2.1 ∧ l' = x.2.2)
theorem re_of {x y : Int × ByteArray × List (ByteArray × ByteArray)} {w0 w' : World} {g : Nat} {e : Ending} (h : x = y) (hp : RePost y w0 g e w') : RePost x w0 g e w' := by rw [h]; exact hp
def leftN (g : Nat) (w : World) : Nat := match w.cell? ⟨g, 0, none⟩ with | some (.string u) => u.size | _ => 0
theorem RS.leftN {w0 w : World} {g : Nat} {u nm : ByteArray} {v : Value} {l : List (ByteArray × ByteArray)} (h : RS w0 g u nm v l w) : leftN g w = u.size := by unfold Go.Proofs.YtaoklhalkfcpfaaGreatDoor.leftN; rw [h.c0]
def ReRel (s : ByteArray) (w0 : World) (g : Nat) (wr : World) : Prop :=
  ∃ u nm v l, Hid (RS w0 g u nm v l wr) ∧ l.length ≤ 32 ∧ u.size ≤ 100000 ∧ Hid (parF s = GoF nm l u)
set_option maxHeartbeats 2000000 in
set_option maxRecDepth 100000 in
theorem read_no (w0 : World) (g : Nat) (s nm : ByteArray) (v : Value) (w : World) (h : RS w0 g s nm v [] w) (hs : s.size ≤ 100000) (h1 : isN (Nz.sx s 0) = false) :
    Calls Tryz.prog 16 #[.pointer (some ⟨g, 0, none⟩)] w (RePost (parF s) w0 g) := by
  have HP : Hid (parF s = (4, Nz.em, [])) := Lib.hid (by unfold parF; rw [if_pos h1])
  have C := Lib.hid (name_no w0 g s nm v [] w h (by omega) h1)
  clear h h1
  go_enter Tryz.func16, Tryz.ntmps16
  go_wp2_with fail
  refine C.out.mono ?_
  rintro e w1 ⟨rfl, hr1, _⟩
  have HR := Lib.hid hr1
  clear hr1 C
  go_wp2
  go_ret
  exact re_of HP.out ⟨rfl, _, _, _, _, HR.out, fun h => absurd h (by decide)⟩
set_option maxHeartbeats 4000000 in
set_option maxRecDepth 100000 in
theorem read_yes (w0 : World) (g : Nat) (s nm : ByteArray) (v : Value) (w : World) (h : RS w0 g s nm v [] w) (hs : s.size ≤ 100000) (h1 : isN (Nz.sx s 0) = true) :
    Calls Tryz.prog 16 #[.pointer (some ⟨g, 0, none⟩)] w (RePost (parF s) w0 g) := by
  have HP : Hid (parF s = GoF (Nz.sx s 0) [] (Nz.fr s (Nz.sn s 0))) := Lib.hid (by unfold parF; rw [if_neg (by rw [h1]; decide)])
  have C := Lib.hid (name_yes w0 g s nm v [] w h (by omega) h1)
  have hz := Nz.fr_size s (Nz.sn s 0)
  have hz' : (Nz.fr s (Nz.sn s 0)).size ≤ 100000 := by omega
  clear h h1 hz
  generalize Nz.fr s (Nz.sn s 0) = u1 at *
  generalize Nz.sx s 0 = x at *
  go_enter Tryz.func16, Tryz.ntmps16
  go_wp2_with fail
  refine C.out.mono ?_
  rintro e w1 ⟨rfl, hr1, _⟩
  have HR := Lib.hid (hr1.name x)
  have c1 := hr1.c1
  have f1 := hr1.fz 1
  clear hr1 C
  go_wp2_with fail
  go_loopw [5, 6] (fun _ _ wr => ReRel s w0 g wr) (fun _ _ wr => leftN g wr)
  case atStart => exact ⟨u1, x, v, [], HR, by simp, hz', HP⟩
  case round =>
    clear HR HP c1 f1 hz'
    obtain ⟨u, nm', v', l, hR, hl, hu, hG⟩ := hrel
    have hsz := sk_size u
    by_cases d1 : (sk u).size = 0
    · have HG := Lib.hid (hG.out.trans (go_done nm' l u d1))
      have C1 := Lib.hid (skip_any w0 g u nm' v' l wr hR.out (by omega) _ rfl)
      have C2 := Lib.hid (fun w h => done_any w0 g (sk u) nm' v' l w h true (decide_eq_true d1))
      clear hR hG d1 hsz
      generalize sk u = u2 at *
      generalize hb : decide (bk u ≠ 0) = b at *
      clear hb
      go_wp2_with fail
      refine C1.out.mono ?_
      rintro e w2 ⟨rfl, hr2, _⟩
      have HR2 := Lib.hid hr2
      clear hr2 C1
      go_wp2_with fail
      refine (C2.out _ HR2.out).mono ?_
      rintro e w3 ⟨rfl, hr3, _⟩
      have HR3 := Lib.hid hr3
      clear hr3 C2 HR2
      go_wp2
      go_ret
      exact re_of HG.out ⟨rfl, _, _, _, _, HR3.out, fun _ => ⟨rfl, rfl⟩⟩
    · by_cases d2 : bk u = 0
      · have HG := Lib.hid (hG.out.trans (go_mark nm' l u d1 d2))
        have C1 := Lib.hid (skip_any w0 g u nm' v' l wr hR.out (by omega) false (by rw [d2]; decide))
        have C2 := Lib.hid (fun w h => done_any w0 g (sk u) nm' v' l w h false (decide_eq_false d1))
        clear hR hG d1 d2 hsz
        generalize sk u = u2 at *
        go_wp2_with fail
        refine C1.out.mono ?_
        rintro e w2 ⟨rfl, hr2, _⟩
        have HR2 := Lib.hid hr2
        clear hr2 C1
        go_wp2_with fail
        refine (C2.out _ HR2.out).mono ?_
        rintro e w3 ⟨rfl, hr3, _⟩
        have HR3 := Lib.hid hr3
        clear hr3 C2 HR2
        go_wp2
        go_ret
        exact re_of HG.out ⟨rfl, _, _, _, _, HR3.out, fun h => absurd h (by decide)⟩
      · have C1 := Lib.hid (skip_any w0 g u nm' v' l wr hR.out (by omega) true (decide_eq_true d2))
        have C2 := Lib.hid (fun w h => done_any w0 g (sk u) nm' v' l w h false (decide_eq_false d1))
        have C3 := Lib.hid (fun w h => attr_any w0 g (sk u) nm' v' l w h (by omega) hl)
        have HL := Lib.hid hR.out.leftN
        by_cases d3 : atF l (pairF (sk u)) = 0
        · obtain ⟨q1, q2, q3⟩ := go_good nm' l u d1 d2 d3
          have HG := Lib.hid (hG.out.trans q1)
          clear hR hG d1 d2 hsz q1
          generalize pairF (sk u) = y at *
          generalize sk u = u2 at *
          obtain ⟨yn, yv⟩ : ∃ z : Int, z = 0 := ⟨0, rfl⟩
          go_wp2_with fail
          refine C1.out.mono ?_
          rintro e w2 ⟨rfl, hr2, _⟩
          have HR2 := Lib.hid hr2
          clear hr2 C1
          go_wp2_with fail
          refine (C2.out _ HR2.out).mono ?_
          rintro e w3 ⟨rfl, hr3, _⟩
          have HR3 := Lib.hid hr3
          clear hr3 C2 HR2
          go_wp2_with fail
          refine (C3.out _ HR3.out).mono ?_
          rintro e w4 ⟨rfl, hr4, _⟩
          obtain ⟨v4, hr4⟩ := hr4 d3
          have HR4 := Lib.hid hr4
          rw [d3]
          clear hr4 C3 HR3 d3
          go_wp2
          go_roundw
          case rel => exact ⟨_, _, _, _, HR4, by rw [List.length_append, List.length_singleton]; omega, by omega, HG⟩
          case measure => rw [HR4.out.leftN, HL.out]; exact q3
        · have HG := Lib.hid (hG.out.trans (go_bad nm' l u d1 d2 d3))
          clear hR hG d1 d2 hsz
          generalize pairF (sk u) = y at *
          generalize sk u = u2 at *
          have t1 : (atF l y != 0) = true := by rw [bne_iff_ne]; exact d3
          have HE := Lib.hid d3
          clear d3
          go_wp2_with fail
          refine C1.out.mono ?_
          rintro e w2 ⟨rfl, hr2, _⟩
          have HR2 := Lib.hid hr2
          clear hr2 C1
          go_wp2_with fail
          refine (C2.out _ HR2.out).mono ?_
          rintro e w3 ⟨rfl, hr3, _⟩
          have HR3 := Lib.hid hr3
          clear hr3 C2 HR2
          go_wp2_with fail
          refine (C3.out _ HR3.out).mono ?_
          rintro e w4 ⟨rfl, _, u4, v4, l4, hr4⟩
          have HR4 := Lib.hid hr4
          clear hr4 C3 HR3
          generalize atF l y = er at *
          go_wp2
          go_ret
          exact re_of HG.out ⟨rfl, _, _, _, _, HR4.out, fun h => absurd h HE.out⟩
theorem readr_any (w0 : World) (g : Nat) (s nm : ByteArray) (v : Value) (w : World) (h : RS w0 g s nm v [] w) (hs : s.size ≤ 100000) :
    Calls Tryz.prog 16 #[.pointer (some ⟨g, 0, none⟩)] w (RePost (parF s) w0 g) := by
  cases h1 : isN (Nz.sx s 0)
  · exact read_no w0 g s nm v w h hs h1
  · exact read_yes w0 g s nm v w h hs h1

/-- What Parse answers. -/
def PsPost (x : Int × ByteArray × List (ByteArray × ByteArray)) (w : World) (e : Ending) (w' : World) : Prop :=
  ∃ v, e = .returned (.tuple #[.agg #[.string x.2.1, v], .int .i64 x.1]) ∧ OwnR w' w.heap.size v x.2.2 ∧ Below w.heap.size w w'
theorem ps_of {x y : Int × ByteArray × List (ByteArray × ByteArray)} {w w' : World} {e : Ending} (h : x = y) (hp : PsPost y w e w') : PsPost x w e w' := by rw [h]; exact hp
theorem goF_err : ∀ (f : Nat) (nm : ByteArray) (l : List (ByteArray × ByteArray)) (u : ByteArray), (goF f nm l u).1 ≠ 0 → (goF f nm l u).2 = (Nz.em, [])
  | 0, _, _, _, h => absurd rfl h
  | f + 1, nm, l, u, h => by
    unfold goF at h ⊢
    by_cases c1 : (sk u).size = 0
    · rw [if_pos c1] at h; exact absurd rfl h
    rw [if_neg c1] at h ⊢
    by_cases c2 : bk u = 0
    · rw [if_pos c2]
    rw [if_neg c2] at h ⊢
    by_cases c3 : (pairF (sk u)).1 ≠ 0
    · rw [if_pos c3]
    rw [if_neg c3] at h ⊢
    by_cases c4 : hasN (pairF (sk u)).2.1 l = true
    · rw [if_pos c4]
    rw [if_neg c4] at h ⊢
    by_cases c5 : 32 ≤ l.length
    · rw [if_pos c5]
    rw [if_neg c5] at h ⊢
    exact goF_err f _ _ _ h
theorem par_err {s : ByteArray} (h : (parF s).1 ≠ 0) : (parF s).2 = (Nz.em, []) := by
  unfold parF at h ⊢
  by_cases c : isN (Nz.sx s 0) = false
  · rw [if_pos c]
  · rw [if_neg c] at h ⊢
    exact goF_err _ _ _ _ h
theorem own_mono {w : World} {B B' : Nat} {v : Value} {l : List (ByteArray × ByteArray)} (h : OwnR w B v l) (hB : B' ≤ B) : OwnR w B' v l := by
  refine ⟨h.1, ?_⟩
  rcases h.2 with hn | ⟨g, cap, cur, hv, hb, rest⟩
  · exact .inl hn
  · exact .inr ⟨g, cap, cur, hv, Nat.le_trans hB hb, rest⟩
theorem rs_new (w : World) (s : ByteArray) (hV : Vars w) : RS (w.alloc (.cells #[.string ⟨#[]⟩, .slice none 0 0] 25)) (w.heap.size + 1) s ⟨#[]⟩ (.slice none 0 0) [] ((w.alloc (.cells #[.string ⟨#[]⟩, .slice none 0 0] 25)).alloc (.cells #[.string s, .string ⟨#[]⟩, .slice none 0 0] 43)) := by
  have hz : (w.alloc (.cells #[.string ⟨#[]⟩, .slice none 0 0] 25)).heap.size = w.heap.size + 1 := by simp
  refine ⟨by omega, ?_, World.ownsRow_nil _ _ _ _, (Below.refl _ _).alloc (Nat.le_refl _) _, hV.keep ((Below.refl _ w).alloc (Nat.le_refl _) _) hV.1⟩
  rw [← hz]
  exact heap_alloc_new _ _
set_option maxHeartbeats 4000000 in
set_option maxRecDepth 100000 in
theorem parse_err (s : ByteArray) (x : Int × ByteArray × List (ByteArray × ByteArray)) (w : World) (hV : Vars w) (he : x.1 ≠ 0) (hx : x.2 = (Nz.em, []))
    (C : Hid (∀ W0 g W, RS W0 g s ⟨#[]⟩ (.slice none 0 0) [] W → Calls Tryz.prog 16 #[.pointer (some ⟨g, 0, none⟩)] W (RePost x W0 g))) :
    Calls Tryz.prog 9 #[.string s] w (PsPost x w) := by
  obtain ⟨er, xn, xl⟩ := x
  dsimp only at he hx
  injection hx with hx1 hx2
  subst hx1 hx2
  have HR := Lib.hid (rs_new w s hV)
  have t1 : (er != 0) = true := by rw [bne_iff_ne]; exact he
  clear hV he
  go_enter Tryz.func9, Tryz.ntmps9
  go_wp2_with fail
  refine (C.out _ _ _ HR.out).mono ?_
  rintro e w1 ⟨rfl, u', nm', v', l', hr, _⟩
  have hB := hr.bel
  have hblk : w1.heap[w.heap.size]? = some (.cells #[.string ⟨#[]⟩, .slice none 0 0] 25 (0, 0)) := (hB.block w.heap.size (by simp)).trans (heap_alloc_new w _)
  have c0 : w1.cell? ⟨w.heap.size, 0, none⟩ = some (.string ⟨#[]⟩) := by rw [Lib.cell_of_heap hblk]; rfl
  have c1 : w1.cell? ⟨w.heap.size, 1, none⟩ = some (.slice none 0 0) := by rw [Lib.cell_of_heap hblk]; rfl
  have f0 := Lib.frozen_of_heap hblk 0
  have f1 := Lib.frozen_of_heap hblk 1
  have HB := Lib.hid (((Below.refl w.heap.size w).alloc (Nat.le_refl _) (.cells #[.string ⟨#[]⟩, .slice none 0 0] 25)).trans (hB.mono (by simp)))
  clear hblk hB hr C HR
  dsimp only
  generalize hr : w.heap.size = r at *
  have HRZ := Lib.hid hr
  clear hr
  go_wp2
  exact bodyPost_ret (v := .tuple #[.agg #[.string ⟨#[]⟩, .slice none 0 0], .int .i64 er]) (by simp [results, Tryz.results9, go_sem, c0, c1]) rfl
    ⟨.slice none 0 0, rfl, World.ownsRow_nil _ _ _ _, by rw [HRZ.out]; exact ((HB.out.setCell (p := ⟨r, 0, none⟩) (Nat.le_refl _) _).setCell (p := ⟨r, 1, none⟩) (Nat.le_refl _) _)⟩
set_option maxHeartbeats 4000000 in
set_option maxRecDepth 100000 in
theorem parse_ok (s : ByteArray) (x : Int × ByteArray × List (ByteArray × ByteArray)) (w : World) (hV : Vars w) (he : x.1 = 0)
    (C : Hid (∀ W0 g W, RS W0 g s ⟨#[]⟩ (.slice none 0 0) [] W → Calls Tryz.prog 16 #[.pointer (some ⟨g, 0, none⟩)] W (RePost x W0 g))) :
    Calls Tryz.prog 9 #[.string s] w (PsPost x w) := by
  obtain ⟨er, xn, xl⟩ := x
  dsimp only at he
  subst he
  have HR := Lib.hid (rs_new w s hV)
  clear hV
  go_enter Tryz.func9, Tryz.ntmps9
  go_wp2_with fail
  refine (C.out _ _ _ HR.out).mono ?_
  rintro e w1 ⟨rfl, u', nm', v', l', hr, hx⟩
  obtain ⟨rfl, rfl⟩ := hx rfl
  dsimp only at hr ⊢
  have hB := hr.bel
  have hblk : w1.heap[w.heap.size]? = some (.cells #[.string ⟨#[]⟩, .slice none 0 0] 25 (0, 0)) := (hB.block w.heap.size (by simp)).trans (heap_alloc_new w _)
  have c0 : w1.cell? ⟨w.heap.size, 0, none⟩ = some (.string ⟨#[]⟩) := by rw [Lib.cell_of_heap hblk]; rfl
  have c1 : w1.cell? ⟨w.heap.size, 1, none⟩ = some (.slice none 0 0) := by rw [Lib.cell_of_heap hblk]; rfl
  have f0 := Lib.frozen_of_heap hblk 0
  have f1 := Lib.frozen_of_heap hblk 1
  have HB := Lib.hid (((Below.refl w.heap.size w).alloc (Nat.le_refl _) (.cells #[.string ⟨#[]⟩, .slice none 0 0] 25)).trans (hB.mono (by simp)))
  have HO := Lib.hid (own_mono hr.own (B' := w.heap.size) (by simp))
  have HK := Lib.hid (fun (x y : Value) => own_set (own_set HO.out hblk (by decide) 0 x) (g := w.heap.size) (by simp [World.setCell, Array.getElem?_modify, hblk]; exact ⟨rfl, rfl⟩) (T := 25) (by decide) 1 y)
  obtain ⟨A, c, rfl, _⟩ := own_rdR hr.own
  have g1 := hr.c1
  have g2 := hr.c2
  clear hblk hB hr C HR hx
  generalize hr : w.heap.size = r at *
  have HRZ := Lib.hid hr
  clear hr
  go_wp2
  exact bodyPost_ret (v := .tuple #[.agg #[.string nm', .slice A l'.length c], .int .i64 0]) (by simp [results, Tryz.results9, go_sem, c0, c1]) rfl
    ⟨_, rfl, by rw [HRZ.out]; exact HK.out _ _, by rw [HRZ.out]; exact ((HB.out.setCell (p := ⟨r, 0, none⟩) (Nat.le_refl _) _).setCell (p := ⟨r, 1, none⟩) (Nat.le_refl _) _)⟩
theorem tparse_any (s : ByteArray) (w : World) (hV : Vars w) (hs : s.size ≤ 100000) : Calls Tryz.prog 9 #[.string s] w (PsPost (parF s) w) := by
  have C := Lib.hid (fun W0 g W h => readr_any W0 g s ⟨#[]⟩ (.slice none 0 0) W h hs)
  by_cases h : (parF s).1 = 0
  · exact parse_ok s _ w hV h C
  · exact parse_err s _ w hV h (par_err h) C
end Go.Proofs.YtaoklhalkfcpfaaGreatDoor

/- The walk of the document's Escape. -/
set_option linter.unusedSimpArgs false
set_option linter.unusedVariables false
namespace Go.Proofs.YtaoklhalkfcpfaaGreatDoor
open Go.RowKit

theorem str_of_byts {s : ByteArray} {l : List Int} (h : byts s = l) : s = strOfNums l := by
  refine byts_inj ?_
  subst h
  rw [byts_str _ (byts_nn s) fun x hx => (Byt.byts s x hx).2]
theorem byts_cat (s t : ByteArray) : byts (s ++ t) = byts s ++ byts t := by
  unfold byts
  rw [ByteArray.data_append, Array.toList_append, List.map_append]
theorem size_cat (s t : ByteArray) : (s ++ t).size = s.size + t.size := by rw [← byts_len, byts_cat, List.length_append, byts_len, byts_len]
theorem ext_one (s : ByteArray) (k : Nat) (h : k < s.size) : byts (s.extract k (k + 1)) = [(byts s).getD k 0] := by
  have h' : k < (byts s).length := by rw [byts_len]; exact h
  rw [byts_extract, List.take_succ_eq_append_getElem h', List.drop_append, List.drop_of_length_le (by rw [List.length_take]; omega), List.nil_append]
  rw [List.length_take, Nat.min_eq_left (by omega), Nat.sub_self, List.drop_zero]
  simp [List.getElem?_eq_getElem h']
theorem ext_is (s : ByteArray) (k : Nat) (h : k < s.size) (c : UInt8) : ((s.extract k (k + 1)).toList == [c]) = decide ((byts s).getD k 0 = (c.toNat : Int)) := by
  rw [eqB _ [c] [(c.toNat : Int)] rfl, ext_one s k h]
  simp
theorem is_yes (s : ByteArray) (k : Nat) (h : k < s.size) (c : UInt8) (hc : (byts s).getD k 0 = (c.toNat : Int)) : ((s.extract k (k + 1)).toList == [c]) = true := by rw [ext_is s k h, decide_eq_true hc]
theorem is_no (s : ByteArray) (k : Nat) (h : k < s.size) (c : UInt8) (hc : (byts s).getD k 0 ≠ (c.toNat : Int)) : ((s.extract k (k + 1)).toList == [c]) = false := by rw [ext_is s k h, decide_eq_false hc]
def DeRel (s : ByteArray) (v : Bool) (O : ByteArray) (k : Nat) : Prop := byts O = escF v ((byts s).take k) ∧ O.size ≤ 6 * k
theorem DeRel.step {s : ByteArray} {v : Bool} {O X : ByteArray} {k : Nat} (h : DeRel s v O k) (hk : k < s.size) (hX : byts X = escB v ((byts s).getD k 0)) : DeRel s v (O ++ X) (k + 1) := by
  have h6 := esc_len v ((byts s).getD k 0)
  rw [← hX, byts_len] at h6
  refine ⟨by rw [byts_cat, escF_take v _ k (by rw [byts_len]; exact hk), h.1, hX], ?_⟩
  rw [size_cat]
  have := h.2
  omega

set_option maxHeartbeats 8000000 in
set_option maxRecDepth 100000 in
theorem desc_any (s : ByteArray) (v : Bool) (w : World) (hs : s.size ≤ 10000) : Calls Tryz.prog 24 #[.string s, .bool v] w fun e w' => e = .returned (.string (strOfNums (escF v (byts s)))) ∧ w = w' := by
  go_enter Tryz.func24, Tryz.ntmps24
  go_wp2_with fail
  go_loop [5, 6] (fun vo vi => ∃ (k : Nat) (O : ByteArray), vo = .string O ∧ vi = .int .i64 k ∧ k ≤ s.size ∧ Hid (DeRel s v O k)) (fun _ vi => s.size - (intOf vi).toNat)
  case atStart => exact ⟨0, ⟨#[]⟩, rfl, rfl, by omega, Lib.hid ⟨rfl, by decide⟩⟩
  case round =>
    obtain ⟨k, O, rfl, rfl, hk, hR⟩ := hrel
    by_cases hlt : k < s.size
    · have hO := hR.out.2
      have hst := Lib.hid (fun X hX => DeRel.step (X := X) hR.out hlt hX)
      have hi := at_byt s k hlt
      have hone := Lib.hid (ext_one s k hlt)
      have c1 : (k : Int) < (s.size : Int) := by omega
      have c2 : (0 : Int) ≤ (k : Int) + 1 := by omega
      have c3 : (k : Int) + 1 ≤ (s.size : Int) := by omega
      have c4 : (k : Int) ≤ (k : Int) + 1 := by omega
      have q2 : IntKind.i64.wrap ((k : Int) + 1) = (k : Int) + 1 := IntWalk.i64_in _ (by omega)
      have q3 : ((k : Int) + 1).toNat = k + 1 := by omega
      have hxs : (s.extract k (k + 1)).size = 1 := by rw [← byts_len, ext_one s k hlt]; rfl
      have y1 := is_yes s k hlt 38
      have y2 := is_yes s k hlt 60
      have y3 := is_yes s k hlt 62
      have n1 := is_no s k hlt 38
      have n2 := is_no s k hlt 60
      have n3 := is_no s k hlt 62
      clear hR
      revert hst hone y1 y2 y3 n1 n2 n3
      generalize (byts s).getD k 0 = c at hi
      intro hst hone y1 y2 y3 n1 n2 n3
      by_cases h38 : c = 38
      · have f38 := y1 h38
        have HR := hst.out ⟨#[38, 97, 109, 112, 59]⟩ (by unfold escB; rw [if_pos h38]; rfl)
        have hsz : (O ++ (⟨#[38, 97, 109, 112, 59]⟩ : ByteArray)).size ≤ 1000000 := by rw [size_cat, show (⟨#[38, 97, 109, 112, 59]⟩ : ByteArray).size = 5 from rfl]; omega
        have hz2 : O.size + 5 ≤ 1000000 := by omega
        have HR2 := Lib.hid HR
        clear hi hst hone y1 y2 y3 n1 n2 n3 HR hxs hO h38
        go_wp2
        refine ⟨⟨k + 1, _, rfl, by rw [Int.natCast_add]; rfl, by omega, HR2⟩, by simp only [intOf]; omega⟩
      by_cases h60 : c = 60
      · have f60 := y2 h60
        have f38 := n1 h38
        have HR := hst.out ⟨#[38, 108, 116, 59]⟩ (by unfold escB; rw [if_neg h38, if_pos h60]; rfl)
        have hsz : (O ++ (⟨#[38, 108, 116, 59]⟩ : ByteArray)).size ≤ 1000000 := by rw [size_cat, show (⟨#[38, 108, 116, 59]⟩ : ByteArray).size = 4 from rfl]; omega
        have hz2 : O.size + 4 ≤ 1000000 := by omega
        have HR2 := Lib.hid HR
        clear hi hst hone y1 y2 y3 n1 n2 n3 HR hxs hO h60
        clear h38
        go_wp2
        refine ⟨⟨k + 1, _, rfl, by rw [Int.natCast_add]; rfl, by omega, HR2⟩, by simp only [intOf]; omega⟩
      by_cases h62 : c = 62
      · have f62 := y3 h62
        have f38 := n1 h38
        have f60 := n2 h60
        have HR := hst.out ⟨#[38, 103, 116, 59]⟩ (by unfold escB; rw [if_neg h38, if_neg h60, if_pos h62]; rfl)
        have hsz : (O ++ (⟨#[38, 103, 116, 59]⟩ : ByteArray)).size ≤ 1000000 := by rw [size_cat, show (⟨#[38, 103, 116, 59]⟩ : ByteArray).size = 4 from rfl]; omega
        have hz2 : O.size + 4 ≤ 1000000 := by omega
        have HR2 := Lib.hid HR
        clear hi hst hone y1 y2 y3 n1 n2 n3 HR hxs hO h62
        clear h38
        clear h60
        go_wp2
        refine ⟨⟨k + 1, _, rfl, by rw [Int.natCast_add]; rfl, by omega, HR2⟩, by simp only [intOf]; omega⟩
      by_cases h13 : c = 13
      · have f13 : (((s[k]).toNat : Int) == 13) = true := by rw [hi]; simpa using h13
        have f38 := n1 h38
        have f60 := n2 h60
        have f62 := n3 h62
        have HR := hst.out ⟨#[38, 35, 120, 68, 59]⟩ (by unfold escB; rw [if_neg h38, if_neg h60, if_neg h62, if_pos h13]; rfl)
        have hsz : (O ++ (⟨#[38, 35, 120, 68, 59]⟩ : ByteArray)).size ≤ 1000000 := by rw [size_cat, show (⟨#[38, 35, 120, 68, 59]⟩ : ByteArray).size = 5 from rfl]; omega
        have hz2 : O.size + 5 ≤ 1000000 := by omega
        have HR2 := Lib.hid HR
        clear hi hst hone y1 y2 y3 n1 n2 n3 HR hxs hO h13
        clear h38
        clear h60
        clear h62
        go_wp2
        refine ⟨⟨k + 1, _, rfl, by rw [Int.natCast_add]; rfl, by omega, HR2⟩, by simp only [intOf]; omega⟩
      cases v
      · have f38 := n1 h38
        have f60 := n2 h60
        have f62 := n3 h62
        have f13 : (((s[k]).toNat : Int) == 13) = false := by rw [hi]; simpa using h13
        have HR := hst.out _ (hone.out.trans (by unfold escB; rw [if_neg h38, if_neg h60, if_neg h62, if_neg h13, if_neg (by simp), if_neg (by simp), if_neg (by simp)]))
        have hsz : (O ++ s.extract k (k + 1)).size ≤ 1000000 := by rw [size_cat]; omega
        have hz2 : O.size + (s.extract k (k + 1)).size ≤ 1000000 := by omega
        have HR2 := Lib.hid HR
        clear hi hst hone y1 y2 y3 n1 n2 n3 HR hxs hO
        clear h38
        clear h60
        clear h62
        clear h13
        go_wp2
        refine ⟨⟨k + 1, _, rfl, by rw [Int.natCast_add]; rfl, by omega, HR2⟩, by simp only [intOf]; omega⟩
      · by_cases h34 : c = 34
        · have f34 : (((s[k]).toNat : Int) == 34) = true := by rw [hi]; simpa using h34
          have f38 := n1 h38
          have f60 := n2 h60
          have f62 := n3 h62
          have f13 : (((s[k]).toNat : Int) == 13) = false := by rw [hi]; simpa using h13
          have HR := hst.out ⟨#[38, 113, 117, 111, 116, 59]⟩ (by unfold escB; rw [if_neg h38, if_neg h60, if_neg h62, if_neg h13, if_pos ⟨rfl, h34⟩]; rfl)
          have hsz : (O ++ (⟨#[38, 113, 117, 111, 116, 59]⟩ : ByteArray)).size ≤ 1000000 := by rw [size_cat, show (⟨#[38, 113, 117, 111, 116, 59]⟩ : ByteArray).size = 6 from rfl]; omega
          have hz2 : O.size + 6 ≤ 1000000 := by omega
          have HR2 := Lib.hid HR
          clear hi hst hone y1 y2 y3 n1 n2 n3 HR hxs hO h34
          clear h38
          clear h60
          clear h62
          clear h13
          go_wp2
          refine ⟨⟨k + 1, _, rfl, by rw [Int.natCast_add]; rfl, by omega, HR2⟩, by simp only [intOf]; omega⟩
        by_cases h9 : c = 9
        · have f9 : (((s[k]).toNat : Int) == 9) = true := by rw [hi]; simpa using h9
          have f38 := n1 h38
          have f60 := n2 h60
          have f62 := n3 h62
          have f13 : (((s[k]).toNat : Int) == 13) = false := by rw [hi]; simpa using h13
          have f34 : (((s[k]).toNat : Int) == 34) = false := by rw [hi]; simpa using h34
          have HR := hst.out ⟨#[38, 35, 120, 57, 59]⟩ (by unfold escB; rw [if_neg h38, if_neg h60, if_neg h62, if_neg h13, if_neg (fun h => h34 h.2), if_pos ⟨rfl, h9⟩]; rfl)
          have hsz : (O ++ (⟨#[38, 35, 120, 57, 59]⟩ : ByteArray)).size ≤ 1000000 := by rw [size_cat, show (⟨#[38, 35, 120, 57, 59]⟩ : ByteArray).size = 5 from rfl]; omega
          have hz2 : O.size + 5 ≤ 1000000 := by omega
          have HR2 := Lib.hid HR
          clear hi hst hone y1 y2 y3 n1 n2 n3 HR hxs hO h9
          clear h38
          clear h60
          clear h62
          clear h13
          clear h34
          go_wp2
          refine ⟨⟨k + 1, _, rfl, by rw [Int.natCast_add]; rfl, by omega, HR2⟩, by simp only [intOf]; omega⟩
        by_cases h10 : c = 10
        · have f10 : (((s[k]).toNat : Int) == 10) = true := by rw [hi]; simpa using h10
          have f38 := n1 h38
          have f60 := n2 h60
          have f62 := n3 h62
          have f13 : (((s[k]).toNat : Int) == 13) = false := by rw [hi]; simpa using h13
          have f34 : (((s[k]).toNat : Int) == 34) = false := by rw [hi]; simpa using h34
          have f9 : (((s[k]).toNat : Int) == 9) = false := by rw [hi]; simpa using h9
          have HR := hst.out ⟨#[38, 35, 120, 65, 59]⟩ (by unfold escB; rw [if_neg h38, if_neg h60, if_neg h62, if_neg h13, if_neg (fun h => h34 h.2), if_neg (fun h => h9 h.2), if_pos ⟨rfl, h10⟩]; rfl)
          have hsz : (O ++ (⟨#[38, 35, 120, 65, 59]⟩ : ByteArray)).size ≤ 1000000 := by rw [size_cat, show (⟨#[38, 35, 120, 65, 59]⟩ : ByteArray).size = 5 from rfl]; omega
          have hz2 : O.size + 5 ≤ 1000000 := by omega
          have HR2 := Lib.hid HR
          clear hi hst hone y1 y2 y3 n1 n2 n3 HR hxs hO h10
          clear h38
          clear h60
          clear h62
          clear h13
          clear h34
          clear h9
          go_wp2
          refine ⟨⟨k + 1, _, rfl, by rw [Int.natCast_add]; rfl, by omega, HR2⟩, by simp only [intOf]; omega⟩
        have f38 := n1 h38
        have f60 := n2 h60
        have f62 := n3 h62
        have f13 : (((s[k]).toNat : Int) == 13) = false := by rw [hi]; simpa using h13
        have f34 : (((s[k]).toNat : Int) == 34) = false := by rw [hi]; simpa using h34
        have f9 : (((s[k]).toNat : Int) == 9) = false := by rw [hi]; simpa using h9
        have f10 : (((s[k]).toNat : Int) == 10) = false := by rw [hi]; simpa using h10
        have HR := hst.out _ (hone.out.trans (by unfold escB; rw [if_neg h38, if_neg h60, if_neg h62, if_neg h13, if_neg (fun h => h34 h.2), if_neg (fun h => h9 h.2), if_neg (fun h => h10 h.2)]))
        have hsz : (O ++ s.extract k (k + 1)).size ≤ 1000000 := by rw [size_cat]; omega
        have hz2 : O.size + (s.extract k (k + 1)).size ≤ 1000000 := by omega
        have HR2 := Lib.hid HR
        clear hi hst hone y1 y2 y3 n1 n2 n3 HR hxs hO
        clear h38
        clear h60
        clear h62
        clear h13
        clear h34
        clear h9
        clear h10
        go_wp2
        refine ⟨⟨k + 1, _, rfl, by rw [Int.natCast_add]; rfl, by omega, HR2⟩, by simp only [intOf]; omega⟩
    · have hkk : k = s.size := by omega
      subst hkk
      have hE : Hid (O = strOfNums (escF v (byts s))) := Lib.hid (by
        refine str_of_byts ?_
        rw [hR.out.1, List.take_of_length_le (by rw [byts_len]; omega)])
      clear hR
      go_wp2
      go_ret
      exact ⟨by rw [← hE.out]; rfl, rfl⟩
end Go.Proofs.YtaoklhalkfcpfaaGreatDoor
