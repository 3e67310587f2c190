/-
  Merged by program out of the texts TgPair, TgAttr, TgAttr2 of one seat.
-/
import Derived.Test.YtkeilgompipfjaaGreatDoorG06
import Derived.Deep.RegionLaw

/- The walks of the reader's quoted and pair. -/
set_option linter.unusedSimpArgs false
set_option linter.unusedVariables false
namespace Go.Proofs.YtkeilgompipfjaaGreatDoor.Tg
open Go.RowKit

theorem u34 : ((34 : UInt8).toNat : Int) = 34 := rfl
theorem u39 : ((39 : UInt8).toNat : Int) = 39 := rfl
theorem u61 : ((61 : UInt8).toNat : Int) = 61 := rfl
set_option maxHeartbeats 1000000 in
set_option maxRecDepth 100000 in
theorem quoted_none (w0 : World) (g : Nat) (u nm : ByteArray) (v : Value) (l : List (ByteArray × ByteArray)) (w : World) (h : RS w0 g u nm v l w) (h1 : hd u ≠ 34) (h2 : hd u ≠ 39) :
    Calls Tryz.prog 137 #[.pointer (some ⟨g, 0, none⟩)] w (RPost (.tuple #[.string ⟨#[]⟩, .int .i64 6]) w w0 g u nm v l) := by
  have C1 := Lib.hid (mark_no w0 g u nm 34 v l w h (by rw [u34]; exact h1))
  have C2 := Lib.hid (fun w h => mark_no w0 g u nm 39 v l w h (by rw [u39]; exact h2))
  clear h h1 h2
  go_enter Tryz.func137, Tryz.ntmps137
  go_wp2_with fail
  refine C1.out.mono ?_
  rintro e w1 ⟨rfl, hr1, hg1⟩
  have HR1 := Lib.hid hr1
  have HG1 := Lib.hid hg1
  clear hr1 hg1 C1
  go_wp2_with fail
  refine (C2.out _ HR1.out).mono ?_
  rintro e w2 ⟨rfl, hr2, hg2⟩
  have HR2 := Lib.hid hr2
  have HG2 := Lib.hid (gn_trans HG1.out hg2)
  clear hr2 hg2 C2 HR1
  go_wp2
  go_ret2
  exact ⟨rfl, HR2.out, HG2.out⟩
set_option maxHeartbeats 1000000 in
set_option maxRecDepth 100000 in
theorem quoted_34 (w0 : World) (g : Nat) (u nm a b : ByteArray) (ok : Bool) (v : Value) (l : List (ByteArray × ByteArray)) (w : World) (h : RS w0 g u nm v l w) (h1 : hd u = 34)
    (CC : Hid (∀ w, Calls Tryz.prog 112 #[.string (Nz.fr u 1), .string ⟨#[34]⟩] w fun e w' => e = .returned (.tuple #[.string a, .string b, .bool true]) ∧ Below w.heap.size w w')) :
    Calls Tryz.prog 137 #[.pointer (some ⟨g, 0, none⟩)] w (RPost (.tuple #[.string a, .int .i64 0]) w w0 g b nm v l) := by
  have C1 := Lib.hid (mark_yes w0 g u nm 34 v l w h (by decide) (by rw [u34]; exact h1))
  generalize Nz.fr u 1 = u1 at *
  clear h h1
  go_enter Tryz.func137, Tryz.ntmps137
  go_wp2_with fail
  refine C1.out.mono ?_
  rintro e w1 ⟨rfl, hr1, hg1⟩
  have HR1 := Lib.hid hr1
  have HG1 := Lib.hid hg1
  have c1 := hr1.c0
  clear hr1 hg1 C1
  go_wp2_with fail
  refine (CC.out _).mono ?_
  rintro e w2 ⟨rfl, hb2⟩
  have HR2 := Lib.hid (HR1.out.after hb2)
  have HG2 := Lib.hid (gn_trans HG1.out (gn_below g hb2))
  have c2 := HR2.out.c0
  have f2 := HR2.out.fz 0
  clear hb2 CC HR1 HG1 c1
  go_wp2
  go_ret2
  exact ⟨rfl, HR2.out.left b, gn_set HG2.out _ _⟩
set_option maxHeartbeats 1000000 in
set_option maxRecDepth 100000 in
theorem quoted_34n (w0 : World) (g : Nat) (u nm a b : ByteArray) (v : Value) (l : List (ByteArray × ByteArray)) (w : World) (h : RS w0 g u nm v l w) (h1 : hd u = 34)
    (CC : Hid (∀ w, Calls Tryz.prog 112 #[.string (Nz.fr u 1), .string ⟨#[34]⟩] w fun e w' => e = .returned (.tuple #[.string a, .string b, .bool false]) ∧ Below w.heap.size w w')) :
    Calls Tryz.prog 137 #[.pointer (some ⟨g, 0, none⟩)] w (RPost (.tuple #[.string ⟨#[]⟩, .int .i64 6]) w w0 g (Nz.fr u 1) nm v l) := by
  have C1 := Lib.hid (mark_yes w0 g u nm 34 v l w h (by decide) (by rw [u34]; exact h1))
  generalize Nz.fr u 1 = u1 at *
  clear h h1
  go_enter Tryz.func137, Tryz.ntmps137
  go_wp2_with fail
  refine C1.out.mono ?_
  rintro e w1 ⟨rfl, hr1, hg1⟩
  have HR1 := Lib.hid hr1
  have HG1 := Lib.hid hg1
  have c1 := hr1.c0
  clear hr1 hg1 C1
  go_wp2_with fail
  refine (CC.out _).mono ?_
  rintro e w2 ⟨rfl, hb2⟩
  have HR2 := Lib.hid (HR1.out.after hb2)
  have HG2 := Lib.hid (gn_trans HG1.out (gn_below g hb2))
  clear hb2 CC HR1 HG1 c1
  go_wp2
  go_ret2
  exact ⟨rfl, HR2.out, HG2.out⟩
set_option maxHeartbeats 1000000 in
set_option maxRecDepth 100000 in
theorem quoted_39 (w0 : World) (g : Nat) (u nm a b : ByteArray) (v : Value) (l : List (ByteArray × ByteArray)) (w : World) (h : RS w0 g u nm v l w) (h1 : hd u = 39)
    (CC : Hid (∀ w, Calls Tryz.prog 112 #[.string (Nz.fr u 1), .string ⟨#[39]⟩] w fun e w' => e = .returned (.tuple #[.string a, .string b, .bool true]) ∧ Below w.heap.size w w')) :
    Calls Tryz.prog 137 #[.pointer (some ⟨g, 0, none⟩)] w (RPost (.tuple #[.string a, .int .i64 0]) w w0 g b nm v l) := by
  have C0 := Lib.hid (mark_no w0 g u nm 34 v l w h (by rw [u34, h1]; decide))
  have C1 := Lib.hid (fun w h => mark_yes w0 g u nm 39 v l w h (by decide) (by rw [u39]; exact h1))
  generalize Nz.fr u 1 = u1 at *
  clear h h1
  go_enter Tryz.func137, Tryz.ntmps137
  go_wp2_with fail
  refine C0.out.mono ?_
  rintro e w1 ⟨rfl, hr1, hg1⟩
  have HR0 := Lib.hid hr1
  have HG0 := Lib.hid hg1
  clear hr1 hg1 C0
  go_wp2_with fail
  refine (C1.out _ HR0.out).mono ?_
  rintro e w1 ⟨rfl, hr1, hg1⟩
  have HR1 := Lib.hid hr1
  have HG1 := Lib.hid (gn_trans HG0.out hg1)
  have c1 := hr1.c0
  clear hr1 hg1 C1 HR0 HG0
  go_wp2_with fail
  refine (CC.out _).mono ?_
  rintro e w2 ⟨rfl, hb2⟩
  have HR2 := Lib.hid (HR1.out.after hb2)
  have HG2 := Lib.hid (gn_trans HG1.out (gn_below g hb2))
  have c2 := HR2.out.c0
  have f2 := HR2.out.fz 0
  clear hb2 CC HR1 HG1 c1
  go_wp2
  go_ret2
  exact ⟨rfl, HR2.out.left b, gn_set HG2.out _ _⟩
set_option maxHeartbeats 1000000 in
set_option maxRecDepth 100000 in
theorem quoted_39n (w0 : World) (g : Nat) (u nm a b : ByteArray) (v : Value) (l : List (ByteArray × ByteArray)) (w : World) (h : RS w0 g u nm v l w) (h1 : hd u = 39)
    (CC : Hid (∀ w, Calls Tryz.prog 112 #[.string (Nz.fr u 1), .string ⟨#[39]⟩] w fun e w' => e = .returned (.tuple #[.string a, .string b, .bool false]) ∧ Below w.heap.size w w')) :
    Calls Tryz.prog 137 #[.pointer (some ⟨g, 0, none⟩)] w (RPost (.tuple #[.string ⟨#[]⟩, .int .i64 6]) w w0 g (Nz.fr u 1) nm v l) := by
  have C0 := Lib.hid (mark_no w0 g u nm 34 v l w h (by rw [u34, h1]; decide))
  have C1 := Lib.hid (fun w h => mark_yes w0 g u nm 39 v l w h (by decide) (by rw [u39]; exact h1))
  generalize Nz.fr u 1 = u1 at *
  clear h h1
  go_enter Tryz.func137, Tryz.ntmps137
  go_wp2_with fail
  refine C0.out.mono ?_
  rintro e w1 ⟨rfl, hr1, hg1⟩
  have HR0 := Lib.hid hr1
  have HG0 := Lib.hid hg1
  clear hr1 hg1 C0
  go_wp2_with fail
  refine (C1.out _ HR0.out).mono ?_
  rintro e w1 ⟨rfl, hr1, hg1⟩
  have HR1 := Lib.hid hr1
  have HG1 := Lib.hid (gn_trans HG0.out hg1)
  have c1 := hr1.c0
  clear hr1 hg1 C1 HR0 HG0
  go_wp2_with fail
  refine (CC.out _).mono ?_
  rintro e w2 ⟨rfl, hb2⟩
  have HR2 := Lib.hid (HR1.out.after hb2)
  have HG2 := Lib.hid (gn_trans HG1.out (gn_below g hb2))
  clear hb2 CC HR1 HG1 c1
  go_wp2
  go_ret2
  exact ⟨rfl, HR2.out, HG2.out⟩

/-- What pair answers. -/
def PrPost (x : Int × ByteArray × ByteArray × ByteArray) (w0 : World) (g : Nat) (nm : ByteArray) (v : Value) (l : List (ByteArray × ByteArray)) (e : Ending) (w' : World) : Prop :=
  ∃ u', e = .returned (.tuple #[.agg #[.string x.2.1, .string x.2.2.1], .int .i64 x.1]) ∧ RS w0 g u' nm v l w' ∧ (x.1 = 0 → u' = x.2.2.2)
theorem pr_of {x y : Int × ByteArray × ByteArray × ByteArray} {w0 w' : World} {g : Nat} {nm : ByteArray} {v : Value} {l : List (ByteArray × ByteArray)} {e : Ending} (h : x = y) (hp : PrPost y w0 g nm v l e w') : PrPost x w0 g nm v l e w' := by rw [h]; exact hp
/-- The block that pair answers in: another one than the reader's, no row of the attributes'; it stays. -/
structure RB (w0 : World) (g r : Nat) (v : Value) (w : World) : Prop where
  ne : r ≠ g
  lo : w0.heap.size ≤ r
  row : v.ownBlock ≠ some r
  blk : w.heap[r]? = some (.cells #[.string ⟨#[]⟩, .string ⟨#[]⟩] 141 (0, 0))
theorem RB.lt {w0 w : World} {g r : Nat} {v : Value} (h : RB w0 g r v w) : r < w.heap.size := (Array.getElem?_eq_some_iff.1 h.blk).1
theorem RB.after {w0 w w' : World} {g r : Nat} {v : Value} (h : RB w0 g r v w) (hg : w.grownBy w' (some g)) : RB w0 g r v w' := ⟨h.ne, h.lo, h.row, (hg.block r h.lt (by simpa using h.ne)).trans h.blk⟩
theorem RB.below {w0 w w' : World} {g r : Nat} {v : Value} (h : RB w0 g r v w) (hg : Below w.heap.size w w') : RB w0 g r v w' := h.after (gn_below g hg)
theorem RB.c0 {w0 w : World} {g r : Nat} {v : Value} (h : RB w0 g r v w) : w.cell? ⟨r, 0, none⟩ = some (.string ⟨#[]⟩) := by rw [Lib.cell_of_heap h.blk]; rfl
theorem RB.c1 {w0 w : World} {g r : Nat} {v : Value} (h : RB w0 g r v w) : w.cell? ⟨r, 1, none⟩ = some (.string ⟨#[]⟩) := by rw [Lib.cell_of_heap h.blk]; rfl
theorem RB.fz {w0 w : World} {g r : Nat} {v : Value} (h : RB w0 g r v w) (j : Nat) : w.frozen? ⟨r, j, none⟩ = false := Lib.frozen_of_heap h.blk j
theorem RB.new {w0 w : World} {g : Nat} {u nm : ByteArray} {v : Value} {l : List (ByteArray × ByteArray)} (h : RS w0 g u nm v l w) : RB w0 g w.heap.size v (w.alloc (.cells #[.string ⟨#[]⟩, .string ⟨#[]⟩] 141)) := by
  have := h.lt
  refine ⟨by omega, h.bel.size, fun e => ?_, heap_alloc_new w _⟩
  have := (World.ownsRow.lt h.own _ e).2
  omega
theorem RS.setO {w0 w : World} {g r : Nat} {u nm : ByteArray} {v : Value} {l : List (ByteArray × ByteArray)} (h : RS w0 g u nm v l w) (hr : r ≠ g) (hlo : w0.heap.size ≤ r) (hrow : v.ownBlock ≠ some r) (j : Nat) (x : Value) : RS w0 g u nm v l (w.setCell ⟨r, j, none⟩ x) :=
  ⟨h.lo, (Below.heap_setCell _ _ _ _ (fun e => hr e.symm)).trans h.blk,
   World.ownsRow.kept (row := some r) h.own ⟨rfl, rfl, rfl, by simp [World.setCell], fun k _ hk => Below.heap_setCell _ _ _ _ (fun e => hk (by simp [e]))⟩ (Or.inr hrow),
   h.bel.setCell (p := ⟨r, j, none⟩) hlo _, h.vr0⟩
theorem RS.res {w0 w : World} {g r : Nat} {u nm : ByteArray} {v : Value} {l : List (ByteArray × ByteArray)} (h : RS w0 g u nm v l w) (hr : RB w0 g r v w) (x y : Value) : RS w0 g u nm v l ((w.setCell ⟨r, 0, none⟩ x).setCell ⟨r, 1, none⟩ y) :=
  (h.setO hr.ne hr.lo hr.row 0 x).setO hr.ne hr.lo hr.row 1 y

set_option maxHeartbeats 2000000 in
set_option maxRecDepth 100000 in
theorem pair_noname (w0 : World) (g : Nat) (u nm : ByteArray) (v : Value) (l : List (ByteArray × ByteArray)) (w : World) (h : RS w0 g u nm v l w) (hs : u.size ≤ 100000) (h1 : isN (Nz.sx u 0) = false) :
    Calls Tryz.prog 109 #[.pointer (some ⟨g, 0, none⟩)] w (PrPost (4, Nz.em, Nz.em, Nz.em) w0 g nm v l) := by
  have HB0 := Lib.hid (RB.new h)
  have HR0 := Lib.hid (h.after ((Below.refl _ w).alloc (Nat.le_refl _) (.cells #[.string ⟨#[]⟩, .string ⟨#[]⟩] 141)))
  have C1 := Lib.hid (fun w h => name_no w0 g u nm v l w h (by omega) h1)
  clear h h1
  go_enter Tryz.func109, Tryz.ntmps109
  go_wp2_with fail
  refine (C1.out _ HR0.out).mono ?_
  rintro e w1 ⟨rfl, hr1, hg1⟩
  have HR1 := Lib.hid hr1
  have HB1 := Lib.hid (HB0.out.after hg1)
  clear hr1 hg1 C1 HR0 HB0
  generalize w.heap.size = r at *
  have c0 := HB1.out.c0
  have c1 := HB1.out.c1
  have f0 := HB1.out.fz 0
  have f1 := HB1.out.fz 1
  go_wp2
  exact bodyPost_ret (v := .tuple #[.agg #[.string ⟨#[]⟩, .string ⟨#[]⟩], .int .i64 4]) (by simp [results, Tryz.results109, go_sem, c0, c1]) rfl ⟨u, rfl, HR1.out.res HB1.out _ _, fun h => absurd h (by decide)⟩
set_option maxHeartbeats 2000000 in
set_option maxRecDepth 100000 in
theorem pair_nomark (w0 : World) (g : Nat) (u nm : ByteArray) (v : Value) (l : List (ByteArray × ByteArray)) (w : World) (h : RS w0 g u nm v l w) (hs : u.size ≤ 100000) (h1 : isN (Nz.sx u 0) = true) (h2 : hd (sk (Nz.fr u (Nz.sn u 0))) ≠ 61) :
    Calls Tryz.prog 109 #[.pointer (some ⟨g, 0, none⟩)] w (PrPost (6, Nz.em, Nz.em, Nz.em) w0 g nm v l) := by
  have HB0 := Lib.hid (RB.new h)
  have HR0 := Lib.hid (h.after ((Below.refl _ w).alloc (Nat.le_refl _) (.cells #[.string ⟨#[]⟩, .string ⟨#[]⟩] 141)))
  have C1 := Lib.hid (fun w h => name_yes w0 g u nm v l w h (by omega) h1)
  have hz := Nz.fr_size u (Nz.sn u 0)
  have C2 := Lib.hid (fun w h => skip_any w0 g (Nz.fr u (Nz.sn u 0)) nm v l w h (by omega) _ rfl)
  have C3 := Lib.hid (fun w h => mark_no w0 g (sk (Nz.fr u (Nz.sn u 0))) nm 61 v l w h (by rw [u61]; exact h2))
  clear h h1 h2 hz
  generalize sk (Nz.fr u (Nz.sn u 0)) = u2 at *
  generalize hb2 : decide (bk (Nz.fr u (Nz.sn u 0)) ≠ 0) = b2 at *
  clear hb2
  generalize Nz.fr u (Nz.sn u 0) = u1 at *
  generalize Nz.sx u 0 = x at *
  go_enter Tryz.func109, Tryz.ntmps109
  go_wp2_with fail
  refine (C1.out _ HR0.out).mono ?_
  rintro e w1 ⟨rfl, hr1, hg1⟩
  have HR1 := Lib.hid hr1
  have HB1 := Lib.hid (HB0.out.after hg1)
  clear hr1 hg1 C1 HR0 HB0
  generalize w.heap.size = r at *
  go_wp2_with fail
  refine (C2.out _ HR1.out).mono ?_
  rintro e w2 ⟨rfl, hr2, hg2⟩
  have HR2 := Lib.hid hr2
  have HB2 := Lib.hid (HB1.out.after hg2)
  clear hr2 hg2 C2 HR1 HB1
  go_wp2_with fail
  refine (C3.out _ HR2.out).mono ?_
  rintro e w3 ⟨rfl, hr3, hg3⟩
  have HR3 := Lib.hid hr3
  have HB3 := Lib.hid (HB2.out.after hg3)
  clear hr3 hg3 C3 HR2 HB2
  have c0 := HB3.out.c0
  have c1 := HB3.out.c1
  have f0 := HB3.out.fz 0
  have f1 := HB3.out.fz 1
  go_wp2
  exact bodyPost_ret (v := .tuple #[.agg #[.string ⟨#[]⟩, .string ⟨#[]⟩], .int .i64 6]) (by simp [results, Tryz.results109, go_sem, c0, c1]) rfl ⟨_, rfl, HR3.out.res HB3.out _ _, fun h => absurd h (by decide)⟩
set_option maxHeartbeats 2000000 in
set_option maxRecDepth 100000 in
theorem pair_noquote (w0 : World) (g : Nat) (u u5 nm : ByteArray) (v : Value) (l : List (ByteArray × ByteArray)) (w : World) (h : RS w0 g u nm v l w) (hs : u.size ≤ 100000) (h1 : isN (Nz.sx u 0) = true) (h2 : hd (sk (Nz.fr u (Nz.sn u 0))) = 61)
    (C5 : Hid (∀ w, RS w0 g (sk (Nz.fr (sk (Nz.fr u (Nz.sn u 0))) 1)) nm v l w → Calls Tryz.prog 137 #[.pointer (some ⟨g, 0, none⟩)] w (RPost (.tuple #[.string ⟨#[]⟩, .int .i64 6]) w w0 g u5 nm v l))) :
    Calls Tryz.prog 109 #[.pointer (some ⟨g, 0, none⟩)] w (PrPost (6, Nz.em, Nz.em, Nz.em) w0 g nm v l) := by
  have HB0 := Lib.hid (RB.new h)
  have HR0 := Lib.hid (h.after ((Below.refl _ w).alloc (Nat.le_refl _) (.cells #[.string ⟨#[]⟩, .string ⟨#[]⟩] 141)))
  have C1 := Lib.hid (fun w h => name_yes w0 g u nm v l w h (by omega) h1)
  have hz := Nz.fr_size u (Nz.sn u 0)
  have hz2 := sk_size (Nz.fr u (Nz.sn u 0))
  have hz3 := Nz.fr_size (sk (Nz.fr u (Nz.sn u 0))) 1
  have C2 := Lib.hid (fun w h => skip_any w0 g (Nz.fr u (Nz.sn u 0)) nm v l w h (by omega) _ rfl)
  have C3 := Lib.hid (fun w h => mark_yes w0 g (sk (Nz.fr u (Nz.sn u 0))) nm 61 v l w h (by decide) (by rw [u61]; exact h2))
  have C4 := Lib.hid (fun w h => skip_any w0 g (Nz.fr (sk (Nz.fr u (Nz.sn u 0))) 1) nm v l w h (by omega) _ rfl)
  clear h h1 h2 hz hz2 hz3
  generalize sk (Nz.fr (sk (Nz.fr u (Nz.sn u 0))) 1) = u4 at *
  generalize hb4 : decide (bk (Nz.fr (sk (Nz.fr u (Nz.sn u 0))) 1) ≠ 0) = b4 at *
  clear hb4
  generalize Nz.fr (sk (Nz.fr u (Nz.sn u 0))) 1 = u3 at *
  generalize sk (Nz.fr u (Nz.sn u 0)) = u2 at *
  generalize hb2 : decide (bk (Nz.fr u (Nz.sn u 0)) ≠ 0) = b2 at *
  clear hb2
  generalize Nz.fr u (Nz.sn u 0) = u1 at *
  generalize Nz.sx u 0 = x at *
  go_enter Tryz.func109, Tryz.ntmps109
  go_wp2_with fail
  refine (C1.out _ HR0.out).mono ?_
  rintro e w1 ⟨rfl, hr1, hg1⟩
  have HR1 := Lib.hid hr1
  have HB1 := Lib.hid (HB0.out.after hg1)
  clear hr1 hg1 C1 HR0 HB0
  generalize w.heap.size = r at *
  go_wp2_with fail
  refine (C2.out _ HR1.out).mono ?_
  rintro e w2 ⟨rfl, hr2, hg2⟩
  have HR2 := Lib.hid hr2
  have HB2 := Lib.hid (HB1.out.after hg2)
  clear hr2 hg2 C2 HR1 HB1
  go_wp2_with fail
  refine (C3.out _ HR2.out).mono ?_
  rintro e w3 ⟨rfl, hr3, hg3⟩
  have HR3 := Lib.hid hr3
  have HB3 := Lib.hid (HB2.out.after hg3)
  clear hr3 hg3 C3 HR2 HB2
  go_wp2_with fail
  refine (C4.out _ HR3.out).mono ?_
  rintro e w4 ⟨rfl, hr4, hg4⟩
  have HR4 := Lib.hid hr4
  have HB4 := Lib.hid (HB3.out.after hg4)
  clear hr4 hg4 C4 HR3 HB3
  go_wp2_with fail
  refine (C5.out _ HR4.out).mono ?_
  rintro e w5 ⟨rfl, hr5, hg5⟩
  have HR5 := Lib.hid hr5
  have HB5 := Lib.hid (HB4.out.after hg5)
  clear hr5 hg5 C5 HR4 HB4
  have c0 := HB5.out.c0
  have c1 := HB5.out.c1
  have f0 := HB5.out.fz 0
  have f1 := HB5.out.fz 1
  go_wp2
  exact bodyPost_ret (v := .tuple #[.agg #[.string ⟨#[]⟩, .string ⟨#[]⟩], .int .i64 6]) (by simp [results, Tryz.results109, go_sem, c0, c1]) rfl ⟨_, rfl, HR5.out.res HB5.out _ _, fun h => absurd h (by decide)⟩
def vlF (nm a b : ByteArray) : Int × ByteArray × ByteArray × ByteArray :=
  if (ansF true (byts a)).2.2 ≠ 0 then ((ansF true (byts a)).2.2, Nz.em, Nz.em, Nz.em) else (0, nm, strOfNums (ansF true (byts a)).1, b)
set_option maxHeartbeats 4000000 in
set_option maxRecDepth 100000 in
theorem pair_value (w0 : World) (g : Nat) (u a u5 nm : ByteArray) (v : Value) (l : List (ByteArray × ByteArray)) (w : World) (h : RS w0 g u nm v l w) (hs : u.size ≤ 100000) (h1 : isN (Nz.sx u 0) = true) (h2 : hd (sk (Nz.fr u (Nz.sn u 0))) = 61) (ha : a.size ≤ 100000)
    (C5 : Hid (∀ w, RS w0 g (sk (Nz.fr (sk (Nz.fr u (Nz.sn u 0))) 1)) nm v l w → Calls Tryz.prog 137 #[.pointer (some ⟨g, 0, none⟩)] w (RPost (.tuple #[.string a, .int .i64 0]) w w0 g u5 nm v l))) :
    Calls Tryz.prog 109 #[.pointer (some ⟨g, 0, none⟩)] w (PrPost (vlF (Nz.sx u 0) a u5) w0 g nm v l) := by
  have HB0 := Lib.hid (RB.new h)
  have HR0 := Lib.hid (h.after ((Below.refl _ w).alloc (Nat.le_refl _) (.cells #[.string ⟨#[]⟩, .string ⟨#[]⟩] 141)))
  have C1 := Lib.hid (fun w h => name_yes w0 g u nm v l w h (by omega) h1)
  have hz := Nz.fr_size u (Nz.sn u 0)
  have hz2 := sk_size (Nz.fr u (Nz.sn u 0))
  have hz3 := Nz.fr_size (sk (Nz.fr u (Nz.sn u 0))) 1
  have C2 := Lib.hid (fun w h => skip_any w0 g (Nz.fr u (Nz.sn u 0)) nm v l w h (by omega) _ rfl)
  have C3 := Lib.hid (fun w h => mark_yes w0 g (sk (Nz.fr u (Nz.sn u 0))) nm 61 v l w h (by decide) (by rw [u61]; exact h2))
  have C4 := Lib.hid (fun w h => skip_any w0 g (Nz.fr (sk (Nz.fr u (Nz.sn u 0))) 1) nm v l w h (by omega) _ rfl)
  have C6 := Lib.hid (fun w h => valu_any a w ha h)
  clear h h1 h2 hz hz2 hz3
  generalize sk (Nz.fr (sk (Nz.fr u (Nz.sn u 0))) 1) = u4 at *
  generalize hb4 : decide (bk (Nz.fr (sk (Nz.fr u (Nz.sn u 0))) 1) ≠ 0) = b4 at *
  clear hb4
  generalize Nz.fr (sk (Nz.fr u (Nz.sn u 0))) 1 = u3 at *
  generalize sk (Nz.fr u (Nz.sn u 0)) = u2 at *
  generalize hb2 : decide (bk (Nz.fr u (Nz.sn u 0)) ≠ 0) = b2 at *
  clear hb2
  generalize Nz.fr u (Nz.sn u 0) = u1 at *
  generalize Nz.sx u 0 = x at *
  obtain ⟨q, hq⟩ : ∃ q, q = vlF x a u5 := ⟨_, rfl⟩
  rw [← hq]
  unfold vlF at hq
  generalize ansF true (byts a) = y at *
  obtain ⟨yl, yp, ye⟩ := y
  dsimp only at hq
  generalize hst : strOfNums yl = str at *
  have HST := Lib.hid hst
  clear hst
  by_cases he : ye = 0
  · subst he
    rw [if_neg (by decide)] at hq
    have HQ := Lib.hid hq
    clear hq
    go_enter Tryz.func109, Tryz.ntmps109
    go_wp2_with fail
    refine (C1.out _ HR0.out).mono ?_
    rintro e w1 ⟨rfl, hr1, hg1⟩
    have HR1 := Lib.hid hr1
    have HB1 := Lib.hid (HB0.out.after hg1)
    clear hr1 hg1 C1 HR0 HB0
    generalize w.heap.size = r at *
    go_wp2_with fail
    refine (C2.out _ HR1.out).mono ?_
    rintro e w2 ⟨rfl, hr2, hg2⟩
    have HR2 := Lib.hid hr2
    have HB2 := Lib.hid (HB1.out.after hg2)
    clear hr2 hg2 C2 HR1 HB1
    go_wp2_with fail
    refine (C3.out _ HR2.out).mono ?_
    rintro e w3 ⟨rfl, hr3, hg3⟩
    have HR3 := Lib.hid hr3
    have HB3 := Lib.hid (HB2.out.after hg3)
    clear hr3 hg3 C3 HR2 HB2
    go_wp2_with fail
    refine (C4.out _ HR3.out).mono ?_
    rintro e w4 ⟨rfl, hr4, hg4⟩
    have HR4 := Lib.hid hr4
    have HB4 := Lib.hid (HB3.out.after hg4)
    clear hr4 hg4 C4 HR3 HB3
    go_wp2_with fail
    refine (C5.out _ HR4.out).mono ?_
    rintro e w5 ⟨rfl, hr5, hg5⟩
    have HR5 := Lib.hid hr5
    have HB5 := Lib.hid (HB4.out.after hg5)
    clear hr5 hg5 C5 HR4 HB4
    go_wp2_with fail
    refine (C6.out _ HR5.out.vr).mono ?_
    rintro e w6 ⟨rfl, hb6⟩
    have HR6 := Lib.hid (HR5.out.after hb6)
    have HB6 := Lib.hid (HB5.out.below hb6)
    clear hb6 C6 HR5 HB5
    dsimp only
    rw [HST.out]
    have c0 := HB6.out.c0
    have c1 := HB6.out.c1
    have f0 := HB6.out.fz 0
    have f1 := HB6.out.fz 1
    go_wp2
    exact bodyPost_ret (v := .tuple #[.agg #[.string x, .string str], .int .i64 0]) (by simp [results, Tryz.results109, go_sem, c0, c1]) rfl (pr_of HQ.out ⟨_, rfl, HR6.out.res HB6.out _ _, fun _ => rfl⟩)
  · rw [if_pos he] at hq
    have HQ := Lib.hid hq
    have t1 : (ye != 0) = true := by rw [bne_iff_ne]; exact he
    have HE := Lib.hid he
    clear hq he
    go_enter Tryz.func109, Tryz.ntmps109
    go_wp2_with fail
    refine (C1.out _ HR0.out).mono ?_
    rintro e w1 ⟨rfl, hr1, hg1⟩
    have HR1 := Lib.hid hr1
    have HB1 := Lib.hid (HB0.out.after hg1)
    clear hr1 hg1 C1 HR0 HB0
    generalize w.heap.size = r at *
    go_wp2_with fail
    refine (C2.out _ HR1.out).mono ?_
    rintro e w2 ⟨rfl, hr2, hg2⟩
    have HR2 := Lib.hid hr2
    have HB2 := Lib.hid (HB1.out.after hg2)
    clear hr2 hg2 C2 HR1 HB1
    go_wp2_with fail
    refine (C3.out _ HR2.out).mono ?_
    rintro e w3 ⟨rfl, hr3, hg3⟩
    have HR3 := Lib.hid hr3
    have HB3 := Lib.hid (HB2.out.after hg3)
    clear hr3 hg3 C3 HR2 HB2
    go_wp2_with fail
    refine (C4.out _ HR3.out).mono ?_
    rintro e w4 ⟨rfl, hr4, hg4⟩
    have HR4 := Lib.hid hr4
    have HB4 := Lib.hid (HB3.out.after hg4)
    clear hr4 hg4 C4 HR3 HB3
    go_wp2_with fail
    refine (C5.out _ HR4.out).mono ?_
    rintro e w5 ⟨rfl, hr5, hg5⟩
    have HR5 := Lib.hid hr5
    have HB5 := Lib.hid (HB4.out.after hg5)
    clear hr5 hg5 C5 HR4 HB4
    go_wp2_with fail
    refine (C6.out _ HR5.out.vr).mono ?_
    rintro e w6 ⟨rfl, hb6⟩
    have HR6 := Lib.hid (HR5.out.after hb6)
    have HB6 := Lib.hid (HB5.out.below hb6)
    clear hb6 C6 HR5 HB5
    dsimp only
    rw [HST.out]
    have c0 := HB6.out.c0
    have c1 := HB6.out.c1
    have f0 := HB6.out.fz 0
    have f1 := HB6.out.fz 1
    go_wp2
    exact bodyPost_ret (v := .tuple #[.agg #[.string ⟨#[]⟩, .string ⟨#[]⟩], .int .i64 ye]) (by simp [results, Tryz.results109, go_sem, c0, c1]) rfl (pr_of HQ.out ⟨_, rfl, HR6.out.res HB6.out _ _, fun h => absurd h HE.out⟩)

theorem quo_size (u : ByteArray) (i : Nat) (hs : u.size ≤ 100000) : (u.extract 0 i).size ≤ 100000 := by
  rw [← byts_len, byts_to, List.length_take, byts_len]
  omega
/-- An attribute that stands next. -/
theorem pair_any (w0 : World) (g : Nat) (u nm : ByteArray) (v : Value) (l : List (ByteArray × ByteArray)) (w : World) (h : RS w0 g u nm v l w) (hs : u.size ≤ 100000) :
    Calls Tryz.prog 109 #[.pointer (some ⟨g, 0, none⟩)] w (PrPost (pairF u) w0 g nm v l) := by
  unfold pairF
  by_cases h1 : isN (Nz.sx u 0) = false
  · rw [if_pos h1]
    exact pair_noname w0 g u nm v l w h hs h1
  rw [if_neg h1]
  have h1' : isN (Nz.sx u 0) = true := by simpa using h1
  by_cases h2 : hd (sk (Nz.fr u (Nz.sn u 0))) ≠ 61
  · rw [if_pos h2]
    exact pair_nomark w0 g u nm v l w h hs h1' h2
  rw [if_neg h2]
  have h2' := Decidable.not_not.1 h2
  have z1 := Nz.fr_size u (Nz.sn u 0)
  have z2 := sk_size (Nz.fr u (Nz.sn u 0))
  have z3 := Nz.fr_size (sk (Nz.fr u (Nz.sn u 0))) 1
  have z4 := sk_size (Nz.fr (sk (Nz.fr u (Nz.sn u 0))) 1)
  have z5 := Nz.fr_size (sk (Nz.fr (sk (Nz.fr u (Nz.sn u 0))) 1)) 1
  by_cases h3 : hd (sk (Nz.fr (sk (Nz.fr u (Nz.sn u 0))) 1)) = 34
  · rw [if_pos h3]
    unfold quoF
    rcases qi_cases 34 (Nz.fr (sk (Nz.fr (sk (Nz.fr u (Nz.sn u 0))) 1)) 1) with ⟨q1, _⟩ | ⟨i, q1, q2, _⟩
    · rw [if_pos q1]
      exact pair_noquote w0 g u _ nm v l w h hs h1' h2' (Lib.hid fun w h => quoted_34n w0 g _ nm _ _ v l w h h3 (Lib.hid fun w => scut_miss34 _ q1 w))
    · rw [q1, if_neg (by omega)]
      exact pair_value w0 g u _ _ nm v l w h hs h1' h2' (quo_size _ _ (by omega)) (Lib.hid fun w h => quoted_34 w0 g _ nm _ _ true v l w h h3 (Lib.hid fun w => scut_hit34 _ i q1 q2 (by omega) w))
  rw [if_neg h3]
  by_cases h4 : hd (sk (Nz.fr (sk (Nz.fr u (Nz.sn u 0))) 1)) = 39
  · rw [if_pos h4]
    unfold quoF
    rcases qi_cases 39 (Nz.fr (sk (Nz.fr (sk (Nz.fr u (Nz.sn u 0))) 1)) 1) with ⟨q1, _⟩ | ⟨i, q1, q2, _⟩
    · rw [if_pos q1]
      exact pair_noquote w0 g u _ nm v l w h hs h1' h2' (Lib.hid fun w h => quoted_39n w0 g _ nm _ _ v l w h h4 (Lib.hid fun w => scut_miss39 _ q1 w))
    · rw [q1, if_neg (by omega)]
      exact pair_value w0 g u _ _ nm v l w h hs h1' h2' (quo_size _ _ (by omega)) (Lib.hid fun w h => quoted_39 w0 g _ nm _ _ v l w h h4 (Lib.hid fun w => scut_hit39 _ i q1 q2 (by omega) w))
  rw [if_neg h4]
  exact pair_noquote w0 g u _ nm v l w h hs h1' h2' (Lib.hid fun w h => quoted_none w0 g _ nm v l w h h3 h4)
end Go.Proofs.YtkeilgompipfjaaGreatDoor.Tg

/- The walks of the reader's attribute, read, and of tag.Parse. -/
set_option linter.unusedSimpArgs false
set_option linter.unusedVariables false
namespace Go.Proofs.YtkeilgompipfjaaGreatDoor.Tg
open Go.RowKit

theorem rwL_get : ∀ (l : List (ByteArray × ByteArray)) (k i : Nat) (t : ByteArray × ByteArray), l[k]? = some t → i < 2 → (rwL l)[k * 2 + i]? = (rwC t)[i]?
  | [], k, i, t, h, _ => by simp at h
  | x :: l, 0, i, t, h, hi => by
    have : x = t := by simpa using h
    subst this
    unfold rwL
    rw [List.flatMap_cons, Nat.zero_mul, Nat.zero_add, List.getElem?_append_left (by show i < 2; exact hi)]
  | x :: l, k + 1, i, t, h, hi => by
    have h' : l[k]? = some t := by simpa using h
    have := rwL_get l k i t h' hi
    unfold rwL at this ⊢
    rw [List.flatMap_cons, List.getElem?_append_right (by show 2 ≤ (k + 1) * 2 + i; omega), ← this]
    congr 1
    show (k + 1) * 2 + i - 2 = k * 2 + i
    omega
/-- The slice at A reads as these attributes. -/
def RdR (w : World) (A : Option Addr) (l : List (ByteArray × ByteArray)) : Prop :=
  ∀ k x, l[k]? = some x → ∃ b off, A = some ⟨b, off, none⟩ ∧ b < w.heap.size ∧ w.cell? ⟨b, off + k * 2, none⟩ = some (.string x.1) ∧ w.cell? ⟨b, off + k * 2 + 1, none⟩ = some (.string x.2)
theorem own_rdR {w : World} {B : Nat} {v : Value} {l : List (ByteArray × ByteArray)} (h : OwnR w B v l) : ∃ A c, v = .slice A l.length c ∧ RdR w A l := by
  have h' : w.ownsRow B 141 2 v l.length (rwL l) := h
  rcases h'.2 with ⟨rfl, h0⟩ | ⟨g, cap, cur, rfl, hB, _⟩
  · refine ⟨none, 0, by rw [h0], fun k x hk => ?_⟩
    rw [List.eq_nil_of_length_eq_zero h0] at hk
    simp at hk
  · refine ⟨_, cap, rfl, fun k x hk => ⟨g, 0, rfl, (h'.lt g rfl).2, ?_⟩⟩
    have hlt : k < l.length := (List.getElem?_eq_some_iff.1 hk).1
    exact ⟨by rw [Nat.zero_add]; exact (h'.cellAt (k * 2) (by omega)).trans (rwL_get l k 0 x hk (by omega)), by rw [Nat.zero_add]; exact (h'.cellAt (k * 2 + 1) (by omega)).trans (rwL_get l k 1 x hk (by omega))⟩
theorem RdR.keep {w w' : World} {A : Option Addr} {l : List (ByteArray × ByteArray)} (h : RdR w A l) (hb : Below w.heap.size w w') : RdR w' A l := fun k t hk => by
  obtain ⟨b, o, e, hlt, c0, c1⟩ := h k t hk
  exact ⟨b, o, e, Nat.lt_of_lt_of_le hlt hb.size, (hb.cell (p := ⟨b, o + k * 2, none⟩) hlt).trans c0, (hb.cell (p := ⟨b, o + k * 2 + 1, none⟩) hlt).trans c1⟩

set_option maxHeartbeats 1000000 in
set_option maxRecDepth 100000 in
theorem clo_any (x y nm : ByteArray) (p : Nat) (b : Bool) (w : World) (hp : w.cell? ⟨p, 0, none⟩ = some (.string nm)) (hlt : p < w.heap.size) (hb : decide (byts x = byts nm) = b) :
    Calls Tryz.prog 111 #[.agg #[.string x, .string y], .pointer (some ⟨p, 0, none⟩)] w fun e w' => e = .returned (.bool b) ∧ Below w.heap.size w w' := by
  have hq : (x.toList == nm.toList) = b := (eqS x nm).trans hb
  have hz : ¬ p = w.heap.size := by omega
  have HB := Lib.hid ((Below.refl w.heap.size w).alloc (Nat.le_refl _) (.cells #[.string x, .string y] 141))
  clear hb
  go_enter Tryz.func111, Tryz.ntmps111
  go_wp2
  go_ret
  exact ⟨rfl, HB.out⟩

/-- slices.IndexFunc and ContainsFunc of attributes, at the function that asks for a name. -/
def IxRel (n : Nat) (l : List (ByteArray × ByteArray)) (nm : ByteArray) (p : Nat) (A : Option Addr) (w : World) (i : Value) (wr : World) : Prop :=
  ∃ k : Nat, i = .int .i64 k ∧ k ≤ n ∧ Hid (RdR wr A l) ∧ wr.cell? ⟨p, 0, none⟩ = some (.string nm) ∧ p < wr.heap.size ∧ Hid (Below w.heap.size w wr) ∧ Hid (∀ j x, j < k → l[j]? = some x → byts x.1 ≠ byts nm)
def IxPost (b : Bool) (w : World) (e : Ending) (w' : World) : Prop := ∃ i : Int, e = .returned (.int .i64 i) ∧ decide (0 ≤ i) = b ∧ Below w.heap.size w w'
theorem hasn_no {nm : ByteArray} {l : List (ByteArray × ByteArray)} (h : ∀ j x, j < l.length → l[j]? = some x → byts x.1 ≠ byts nm) : hasN nm l = false := by
  unfold hasN
  rw [List.any_eq_false]
  intro x hx
  obtain ⟨j, hj⟩ := List.getElem?_of_mem hx
  have := h j x (List.getElem?_eq_some_iff.1 hj).1 hj
  simpa using this
theorem hasn_yes {nm : ByteArray} {l : List (ByteArray × ByteArray)} {k : Nat} {x : ByteArray × ByteArray} (h : l[k]? = some x) (he : byts x.1 = byts nm) : hasN nm l = true := by
  unfold hasN
  rw [List.any_eq_true]
  exact ⟨x, List.mem_of_getElem? h, by simpa using he⟩
set_option maxHeartbeats 4000000 in
set_option maxRecDepth 100000 in
theorem idxf_any (l : List (ByteArray × ByteArray)) (nm : ByteArray) (n cap p : Nat) (A : Option Addr) (w : World) (hn : n = l.length) (hl : n ≤ 10000) (h1 : RdR w A l) (hp : w.cell? ⟨p, 0, none⟩ = some (.string nm)) (hlt : p < w.heap.size) :
    Calls Tryz.prog 139 #[.slice A n cap, .func (.func 111) #[] #[.pointer (some ⟨p, 0, none⟩)]] w (IxPost (hasN nm l) w) := by
  have H1 := Lib.hid h1
  have HN := Lib.hid hn
  clear h1 hn
  go_enter Tryz.func139, Tryz.ntmps139
  go_wp2_with fail
  go_loopw [8] (fun i wr => IxRel n l nm p A w i wr) (fun i _ => n - (intOf i).toNat)
  case atStart => exact ⟨0, rfl, Nat.zero_le _, H1, hp, hlt, Lib.hid (Below.refl _ _), Lib.hid (fun j x hj => absurd hj (Nat.not_lt_zero _))⟩
  case round =>
    obtain ⟨k, rfl, hk, hR, hpr, hplt, hB, hN⟩ := hrel
    clear hp hlt H1
    by_cases hlt : k < n
    · have hkl : k < l.length := by rw [← HN.out]; exact hlt
      obtain ⟨b1, o1, rfl, hb1, x0, x1⟩ := hR.out k _ (List.getElem?_eq_getElem hkl)
      have HK := Lib.hid (List.getElem?_eq_getElem hkl)
      have d1 : (k : Int) < (n : Int) := by omega
      have d0 : (0 : Int) ≤ (k : Int) := by omega
      generalize l[k] = t at *
      obtain ⟨tn, tv⟩ := t
      dsimp only at x0 x1
      by_cases he : byts tn = byts nm
      · have C := Lib.hid (fun W hp hl => clo_any tn tv nm p true W hp hl (decide_eq_true he))
        have HH := Lib.hid (hasn_yes (nm := nm) HK.out he)
        clear he
        go_wp2_with (first | (go_at_call 111; refine (C.out _ hpr hplt).mono ?_; rintro e w' ⟨rfl, hb⟩))
        go_ret
        exact ⟨_, rfl, by rw [HH.out, decide_eq_true d0], hB.out.trans (hb.mono hB.out.size)⟩
      · have C := Lib.hid (fun W hp hl => clo_any tn tv nm p false W hp hl (decide_eq_false he))
        have HH := Lib.hid he
        clear he
        go_wp2_with (first | (go_at_call 111; refine (C.out _ hpr hplt).mono ?_; rintro e w' ⟨rfl, hb⟩))
        go_roundw
        case rel =>
          refine ⟨k + 1, by go_num, by omega, Lib.hid (hR.out.keep hb), (hb.cell (p := ⟨p, 0, none⟩) hplt).trans hpr, Nat.lt_of_lt_of_le hplt hb.size, Lib.hid (hB.out.trans (hb.mono hB.out.size)), Lib.hid (fun j x hj hx => ?_)⟩
          rcases Nat.lt_or_ge j k with h | h
          · exact hN.out j x h hx
          · obtain rfl : j = k := by omega
            have := HK.out
            rw [hx] at this
            injection this with this
            rw [this]
            exact HH.out
        case measure => simp only [intOf]; omega
    · have d1 : ¬ (k : Int) < (n : Int) := by omega
      have hkn : k = n := by omega
      have HF : Hid (hasN nm l = false) := Lib.hid (hasn_no fun j x hj hx => hN.out j x (by rw [hkn, HN.out]; exact hj) hx)
      clear hR hN hkn
      go_wp2_with fail
      go_ret
      exact ⟨_, rfl, by rw [HF.out]; decide, hB.out⟩
set_option maxHeartbeats 1000000 in
set_option maxRecDepth 100000 in
theorem conf_any (l : List (ByteArray × ByteArray)) (nm : ByteArray) (n cap p : Nat) (A : Option Addr) (w : World) (hn : n = l.length) (hl : n ≤ 10000) (h1 : RdR w A l) (hp : w.cell? ⟨p, 0, none⟩ = some (.string nm)) (hlt : p < w.heap.size) (b : Bool) (hb : hasN nm l = b) :
    Calls Tryz.prog 110 #[.slice A n cap, .func (.func 111) #[] #[.pointer (some ⟨p, 0, none⟩)]] w fun e w' => e = .returned (.bool b) ∧ Below w.heap.size w w' := by
  have C := Lib.hid (idxf_any l nm n cap p A w hn hl h1 hp hlt)
  rw [hb] at C
  clear h1 hn hp hlt hb
  go_enter Tryz.func110, Tryz.ntmps110
  go_wp2_with fail
  refine C.out.mono ?_
  rintro e w1 ⟨i, rfl, hi, hb1⟩
  clear C
  go_wp2
  go_ret
  exact ⟨rfl, hb1⟩

/-- An append to a row of the call's own, as one step of a region that draws its order. -/
theorem step_append_own {P : Program} {ops : Array Oper} {o : Oper} {a : Act} {w : World} {K : Act → World → Prop} {Q : Exit → Act → World → Prop} {E : Prop}
    (hg : o.guard = none) (s x : Operand) (t : TypeId) (hop : o.op = Op.call { callee := Callee.builtin Builtin.append, args := #[s, x], argTypes := #[t, t] })
    (base : Nat) (e : TypeId) (i : TypeInfo) (z : Value) (size bytes : Nat) (h1 : P.underlying t = some (.slice e)) (h2 : P.info? e = some i) (h3 : i.zero = some z) (h4 : i.size = size) (h5 : i.bytes = bytes) (h6 : z.cells.size = size) (h7 : 0 < size)
    (v : Value) (n : Nat) (xs : List Value) (hs : a.eval s = v) (hown : w.ownsRow base e size v n xs)
    (ad : Addr) (m c : Nat) (news : List Value) (hx : a.eval x = .slice (some ad) m c) (hn : news.length = m * size) (hc : ∀ j u, news[j]? = some u → w.cell? (ad.add j) = some u) (h1c : ∀ u ∈ news, u.oneCell' = true)
    (b1 : n + m ≤ maxLen) (b2 : (n + m) * bytes ≤ 140737488355328) (hb : base ≤ w.heap.size)
    (hK : ∀ v' w', w'.ownsRow base e size v' (n + m) (xs ++ news) → w.grownBy w' v.ownBlock → K (a.put o.dst v') w') :
    if Region.wanted o (yielded ops a.tmps) = true then Oper.wp P o a w K Q else E := by
  have hw : Region.wanted o (yielded ops a.tmps) = true := by simp [Region.wanted, hg]
  rw [if_pos hw]
  obtain ⟨v', w', hrun, r1, r2, _⟩ := run_append_own (P := P) w base t o.type e i z size bytes h1 h2 h3 h4 h5 h6 h7 v n xs hown ad m c news hn hc h1c b1 b2 hb
  unfold Oper.wp
  simp [execOp, hop, resolve, invoke, builtin, hs, hx, hrun, Result.andThen]
  exact hK v' w' r1 r2
theorem own_shape {w : World} {B : Nat} {e : TypeId} {z n : Nat} {v : Value} {xs : List Value} (h : w.ownsRow B e z v (n + 1) xs) : ∃ g cap, v = .slice (some ⟨g, 0, none⟩) (n + 1) cap := by
  rcases h.2 with ⟨_, h0⟩ | ⟨g, cap, cur, rfl, _⟩
  · omega
  · exact ⟨g, cap, rfl⟩
/-- A new attribute laid into the reader. -/
theorem RS.put {w0 w w2 : World} {g : Nat} {u nm : ByteArray} {v v' : Value} {l : List (ByteArray × ByteArray)} {x : ByteArray × ByteArray} (h : RS w0 g u nm v l w) (hown : w2.ownsRow w0.heap.size 141 2 v' (l.length + 1) (rwL l ++ rwC x)) (hg : w.grownBy w2 v.ownBlock) :
    w2.heap[g]? = some (.cells #[.string u, .string nm, v] 111 (0, 0)) ∧ RS w0 g u nm v' (l ++ [x]) (w2.setCell ⟨g, 2, none⟩ v') := by
  have hne := own_ne h.own h.blk (by decide)
  have hb2 : w2.heap[g]? = some (.cells #[.string u, .string nm, v] 111 (0, 0)) := (hg.block g h.lt (fun e => hne e.symm)).trans h.blk
  have ho : OwnR w2 w0.heap.size v' (l ++ [x]) := by
    unfold OwnR
    rw [rwL_app, List.length_append]
    exact hown
  refine ⟨hb2, h.lo, by simp [World.setCell, Array.getElem?_modify, hb2], own_set ho hb2 (by decide) 2 _, ?_, h.vr0⟩
  exact (h.bel.grown hg h.bel.size (fun k hk => (World.ownsRow.lt h.own k hk).1)).setCell (p := ⟨g, 2, none⟩) h.lo _
theorem Tryz.info141 : (Tryz.prog.info? 141).map (fun i => (i.zero, i.size, i.bytes)) = some (some (.agg #[.string ⟨#[]⟩, .string ⟨#[]⟩]), 2, 32) := by kernel_rfl
theorem RS.drew {w0 w : World} {g : Nat} {u nm : ByteArray} {v : Value} {l : List (ByteArray × ByteArray)} (h : RS w0 g u nm v l w) : RS w0 g u nm v l w.drew := h.after (Below.refl _ w).drew
theorem RS.alloc {w0 w : World} {g : Nat} {u nm : ByteArray} {v : Value} {l : List (ByteArray × ByteArray)} (h : RS w0 g u nm v l w) (o : Obj) : RS w0 g u nm v l (w.alloc o) := h.after ((Below.refl _ w).alloc (Nat.le_refl _) o)
theorem rw_one (x : ByteArray × ByteArray) : ∀ u ∈ rwC x, u.oneCell' = true := by
  intro u hu
  unfold rwC at hu
  simp only [List.mem_cons, List.not_mem_nil, or_false] at hu
  rcases hu with rfl | rfl <;> rfl

/-- What attribute answers. -/
def atF (l : List (ByteArray × ByteArray)) (x : Int × ByteArray × ByteArray × ByteArray) : Int := if x.1 ≠ 0 then x.1 else if hasN x.2.1 l = true then 8 else if 32 ≤ l.length then 13 else 0
def AtPost (l : List (ByteArray × ByteArray)) (x : Int × ByteArray × ByteArray × ByteArray) (w0 : World) (g : Nat) (nm : ByteArray) (e : Ending) (w' : World) : Prop :=
  e = .returned (.int .i64 (atF l x)) ∧ (atF l x = 0 → ∃ v', RS w0 g x.2.2.2 nm v' (l ++ [(x.2.1, x.2.2.1)]) w') ∧ ∃ u' v' l', RS w0 g u' nm v' l' w'
end Go.Proofs.YtkeilgompipfjaaGreatDoor.Tg

/- The walk of the reader's attribute. -/
set_option linter.unusedSimpArgs false
set_option linter.unusedVariables false
namespace Go.Proofs.YtkeilgompipfjaaGreatDoor.Tg
open Go.RowKit

theorem at_of {l : List (ByteArray × ByteArray)} {x : Int × ByteArray × ByteArray × ByteArray} {w0 w' : World} {g : Nat} {nm : ByteArray} {e : Ending} {r : Int} (h : atF l x = r) (h1 : e = .returned (.int .i64 r)) (h2 : r = 0 → ∃ v', RS w0 g x.2.2.2 nm v' (l ++ [(x.2.1, x.2.2.1)]) w') (h3 : ∃ u' v' l', RS w0 g u' nm v' l' w') : AtPost l x w0 g nm e w' := by
  unfold AtPost
  rw [h]
  exact ⟨h1, h2, h3⟩
set_option maxHeartbeats 2000000 in
set_option maxRecDepth 100000 in
theorem attr_err (w0 : World) (g : Nat) (nm : ByteArray) (v : Value) (l : List (ByteArray × ByteArray)) (x : Int × ByteArray × ByteArray × ByteArray) (w : World) (he : x.1 ≠ 0)
    (C : Hid (Calls Tryz.prog 109 #[.pointer (some ⟨g, 0, none⟩)] w (PrPost x w0 g nm v l))) :
    Calls Tryz.prog 83 #[.pointer (some ⟨g, 0, none⟩)] w (AtPost l x w0 g nm) := by
  have HA : Hid (atF l x = x.1) := Lib.hid (by unfold atF; rw [if_pos he])
  obtain ⟨er, xn, xv, xr⟩ := x
  dsimp only at he HA
  have t1 : (er != 0) = true := by rw [bne_iff_ne]; exact he
  have HE := Lib.hid he
  clear he
  go_enter Tryz.func83, Tryz.ntmps83
  go_wp2_with fail
  refine C.out.mono ?_
  rintro e w1 ⟨u', rfl, hr, _⟩
  have HR := Lib.hid (hr.alloc (.cells #[.string xn, .string xv] 141))
  clear C hr
  dsimp only
  go_wp2
  go_ret
  exact at_of HA.out rfl (fun h => absurd h HE.out) ⟨_, _, _, HR.out⟩
set_option maxHeartbeats 2000000 in
set_option maxRecDepth 100000 in
theorem attr_twice (w0 : World) (g : Nat) (nm : ByteArray) (v : Value) (l : List (ByteArray × ByteArray)) (x : Int × ByteArray × ByteArray × ByteArray) (w : World) (he : x.1 = 0) (hh : hasN x.2.1 l = true) (hl : l.length ≤ 10000)
    (C : Hid (Calls Tryz.prog 109 #[.pointer (some ⟨g, 0, none⟩)] w (PrPost x w0 g nm v l))) :
    Calls Tryz.prog 83 #[.pointer (some ⟨g, 0, none⟩)] w (AtPost l x w0 g nm) := by
  have HA : Hid (atF l x = 8) := Lib.hid (by unfold atF; rw [if_neg (by rw [he]; decide), if_pos hh])
  obtain ⟨er, xn, xv, xr⟩ := x
  dsimp only at he hh
  subst he
  have CF := Lib.hid (fun n cap p A W hn h1 hp hlt => conf_any l xn n cap p A W hn (by omega) h1 hp hlt true hh)
  clear hh
  go_enter Tryz.func83, Tryz.ntmps83
  go_wp2_with fail
  refine C.out.mono ?_
  rintro e w1 ⟨u', rfl, hr, _⟩
  obtain ⟨A, c, rfl, hR⟩ := own_rdR hr.own
  have hb := (Below.refl _ w1).alloc (Nat.le_refl _) (.cells #[.string xn, .string xv] 141)
  have HR := Lib.hid (hr.alloc (.cells #[.string xn, .string xv] 141))
  have HD := Lib.hid (hR.keep hb)
  have c2 := HR.out.c2
  clear C hr hR hb
  obtain ⟨n, hn⟩ : ∃ n, n = l.length := ⟨_, rfl⟩
  rw [← hn] at c2
  have HN := Lib.hid hn
  clear hn
  dsimp only
  go_wp2_with fail
  refine (CF.out n c w1.heap.size A _ HN.out HD.out (Blk0 w1 141 #[.string xn, .string xv] 0) (by simp)).mono ?_
  rintro e w2 ⟨rfl, hb2⟩
  have HR2 := Lib.hid (HR.out.after hb2)
  clear hb2 CF HR HD c2
  go_wp2
  go_ret
  exact at_of HA.out rfl (fun h => absurd h (by decide)) ⟨_, _, _, HR2.out⟩
set_option maxHeartbeats 2000000 in
set_option maxRecDepth 100000 in
theorem attr_large (w0 : World) (g : Nat) (nm : ByteArray) (v : Value) (l : List (ByteArray × ByteArray)) (x : Int × ByteArray × ByteArray × ByteArray) (w : World) (he : x.1 = 0) (hh : hasN x.2.1 l = false) (hl : l.length = 32)
    (C : Hid (Calls Tryz.prog 109 #[.pointer (some ⟨g, 0, none⟩)] w (PrPost x w0 g nm v l))) :
    Calls Tryz.prog 83 #[.pointer (some ⟨g, 0, none⟩)] w (AtPost l x w0 g nm) := by
  have HA : Hid (atF l x = 13) := Lib.hid (by unfold atF; rw [if_neg (by rw [he]; decide), if_neg (by rw [hh]; decide), if_pos (by omega)])
  obtain ⟨er, xn, xv, xr⟩ := x
  dsimp only at he hh
  subst he
  have CF := Lib.hid (fun n cap p A W hn h1 hp hlt => conf_any l xn n cap p A W hn (by omega) h1 hp hlt false hh)
  have HL := Lib.hid hl
  clear hh hl
  go_enter Tryz.func83, Tryz.ntmps83
  go_wp2_with fail
  refine C.out.mono ?_
  rintro e w1 ⟨u', rfl, hr, _⟩
  obtain ⟨A, c, rfl, hR⟩ := own_rdR hr.own
  have hb := (Below.refl _ w1).alloc (Nat.le_refl _) (.cells #[.string xn, .string xv] 141)
  have HR := Lib.hid (hr.alloc (.cells #[.string xn, .string xv] 141))
  have HD := Lib.hid (hR.keep hb)
  have c2 := HR.out.c2
  clear C hr hR hb
  rw [HL.out] at c2
  dsimp only
  go_wp2_with fail
  refine (CF.out 32 c w1.heap.size A _ HL.out.symm HD.out (Blk0 w1 141 #[.string xn, .string xv] 0) (by simp)).mono ?_
  rintro e w2 ⟨rfl, hb2⟩
  have HR2 := Lib.hid (HR.out.after hb2)
  have d2 := HR2.out.c2
  rw [HL.out] at d2
  clear hb2 CF HR HD c2
  go_wp2
  go_ret
  exact at_of HA.out rfl (fun h => absurd h (by decide)) ⟨_, _, _, HR2.out⟩
set_option maxHeartbeats 4000000 in
set_option maxRecDepth 100000 in
theorem attr_ok (w0 : World) (g : Nat) (nm : ByteArray) (v : Value) (l : List (ByteArray × ByteArray)) (x : Int × ByteArray × ByteArray × ByteArray) (w : World) (he : x.1 = 0) (hh : hasN x.2.1 l = false) (hl : l.length < 32)
    (C : Hid (Calls Tryz.prog 109 #[.pointer (some ⟨g, 0, none⟩)] w (PrPost x w0 g nm v l))) :
    Calls Tryz.prog 83 #[.pointer (some ⟨g, 0, none⟩)] w (AtPost l x w0 g nm) := by
  have HA : Hid (atF l x = 0) := Lib.hid (by unfold atF; rw [if_neg (by rw [he]; decide), if_neg (by rw [hh]; decide), if_neg (by omega)])
  obtain ⟨er, xn, xv, xr⟩ := x
  dsimp only at he hh
  subst he
  have CF := Lib.hid (fun n cap p A W hn h1 hp hlt => conf_any l xn n cap p A W hn (by omega) h1 hp hlt false hh)
  clear hh
  obtain ⟨i0, hi, hz0, hz1, hz2⟩ := info_parts Tryz.info141
  go_enter Tryz.func83, Tryz.ntmps83
  go_wp2_with fail
  refine C.out.mono ?_
  rintro e w1 ⟨u', rfl, hr, hu⟩
  obtain rfl : u' = xr := hu rfl
  obtain ⟨A, c, rfl, hR⟩ := own_rdR hr.own
  have hb := (Below.refl _ w1).alloc (Nat.le_refl _) (.cells #[.string xn, .string xv] 141)
  have HR := Lib.hid (hr.alloc (.cells #[.string xn, .string xv] 141))
  have HD := Lib.hid (hR.keep hb)
  have c2 := HR.out.c2
  clear C hr hR hb hu
  obtain ⟨n, hn⟩ : ∃ n, n = l.length := ⟨_, rfl⟩
  rw [← hn] at c2
  have HN := Lib.hid hn
  have hn32 : n < 32 := by omega
  clear hn
  dsimp only
  go_wp2_with fail
  refine (CF.out n c w1.heap.size A _ HN.out HD.out (Blk0 w1 141 #[.string xn, .string xv] 0) (by simp)).mono ?_
  rintro e w2 ⟨rfl, hb2⟩
  have HR2 := Lib.hid (HR.out.after hb2)
  have hpl : w1.heap.size < w2.heap.size := Nat.lt_of_lt_of_le (by simp) hb2.size
  have a0 : w2.cell? ⟨w1.heap.size, 0, none⟩ = some (.string xn) := (hb2.cell (p := ⟨w1.heap.size, 0, none⟩) (by simp)).trans (Blk0 w1 141 #[.string xn, .string xv] 0)
  have a1 : w2.cell? ⟨w1.heap.size, 1, none⟩ = some (.string xv) := (hb2.cell (p := ⟨w1.heap.size, 1, none⟩) (by simp)).trans (Blk0 w1 141 #[.string xn, .string xv] 1)
  have d2 := HR2.out.c2
  rw [← HN.out] at d2
  clear hb2 CF HR HD c2
  generalize w1.heap.size = p at *
  have t1 : ((n : Int) == 32) = false := by rw [beq_eq_false_iff_ne]; omega
  have hgl := HR2.out.lt
  have HX := Lib.hid (HR2.out.drew.alloc (.cells #[.string xn, .string xv] 141))
  have ho := HX.out.own
  unfold OwnR at ho
  rw [← HN.out] at ho
  have hbz := HX.out.bel.size
  have hlc := lit_cells w2.drew #[.string xn, .string xv] 141
  have HK : Hid (∀ v' w', w'.ownsRow w0.heap.size 141 2 v' (n + 1) (rwL l ++ [.string xn, .string xv]) → (w2.drew.alloc (.cells #[.string xn, .string xv] 141)).grownBy w' (Value.slice A n c).ownBlock →
      ∃ g' cap', v' = .slice (some ⟨g', 0, none⟩) (n + 1) cap' ∧ w'.cell? ⟨g, 2, none⟩ = some (.slice A n c) ∧ w'.frozen? ⟨g, 2, none⟩ = false ∧ RS w0 g u' nm v' (l ++ [(xn, xv)]) (w'.setCell ⟨g, 2, none⟩ v')) := Lib.hid (by
    intro v' w' k1 k2
    obtain ⟨g', cap', hv⟩ := own_shape k1
    have hx := HX.out
    rw [HN.out] at k1 k2
    obtain ⟨q1, q2⟩ := RS.put (x := (xn, xv)) hx k1 k2
    refine ⟨g', cap', hv, ?_, Lib.frozen_of_heap q1 2, q2⟩
    rw [Lib.cell_of_heap q1, HN.out]
    rfl)
  have D2 : w2.drew.cell? ⟨g, 2, none⟩ = some (.slice A n c) := d2
  have A0 : w2.drew.cell? ⟨p, 0, none⟩ = some (.string xn) := a0
  have A1 : w2.drew.cell? ⟨p, 1, none⟩ = some (.string xv) := a1
  have hne : ¬ g = w2.heap.size := by omega
  have D3 : (w2.drew.alloc (.cells #[.string xn, .string xv] 141)).cell? ⟨g, 2, none⟩ = some (.slice A n c) := by
    rw [← d2]
    exact ((Below.refl _ w2.drew).alloc (Nat.le_refl _) _).cell (p := ⟨g, 2, none⟩) hgl
  clear HX HR2
  go_wp2_with fail
  go_region_law (refine step_append_own rfl (.tmp 35) (.tmp 37) 73 rfl w0.heap.size 141 i0 (.agg #[.string ⟨#[]⟩, .string ⟨#[]⟩]) 2 32 Tryz.underlying73 hi hz0 hz1 hz2 rfl (by decide) (.slice A n c) n (rwL l) (by simp [Act.eval, Act.put]) ho ⟨w2.heap.size, 0, none⟩ 1 1 [.string xn, .string xv] (by simp [Act.eval, Act.put]) rfl hlc (by intro u hu; simp only [List.mem_cons, List.not_mem_nil, or_false] at hu; rcases hu with rfl | rfl <;> rfl) (by unfold maxLen; omega) (by omega) hbz ?_; intro v' w' k1 k2; obtain ⟨g', cap', rfl, e2, f2, r2⟩ := HK.out v' w' k1 k2; have HR3 := Lib.hid r2; clear k1 k2 r2)
  all_goals go_wp2
  all_goals go_ret
  all_goals exact at_of HA.out rfl (fun _ => ⟨_, HR3.out⟩) ⟨_, _, _, HR3.out⟩
theorem attr_any (w0 : World) (g : Nat) (u nm : ByteArray) (v : Value) (l : List (ByteArray × ByteArray)) (w : World) (h : RS w0 g u nm v l w) (hs : u.size ≤ 100000) (hl : l.length ≤ 32) :
    Calls Tryz.prog 83 #[.pointer (some ⟨g, 0, none⟩)] w (AtPost l (pairF u) w0 g nm) := by
  have C := Lib.hid (pair_any w0 g u nm v l w h hs)
  by_cases h1 : (pairF u).1 = 0
  · by_cases h2 : hasN (pairF u).2.1 l = true
    · exact attr_twice w0 g nm v l _ w h1 h2 (by omega) C
    · have h2' : hasN (pairF u).2.1 l = false := by simpa using h2
      by_cases h3 : l.length = 32
      · exact attr_large w0 g nm v l _ w h1 h2' h3 C
      · exact attr_ok w0 g nm v l _ w h1 h2' (by omega) C
  · exact attr_err w0 g nm v l _ w h1 C
end Go.Proofs.YtkeilgompipfjaaGreatDoor.Tg
