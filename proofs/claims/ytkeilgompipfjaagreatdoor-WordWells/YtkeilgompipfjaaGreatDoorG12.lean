/-
  Merged by program out of the texts WlSmall, WlEnd, WlStart of one seat.
-/
import Derived.Test.YtkeilgompipfjaaGreatDoorG11
import Derived.Test.YtkeilgompipfjaaGreatDoorG05
import Derived.Deep.QuietTactic
import Derived.BigQuiet
import Derived.Deep.RegionHeld3
import Derived.Deep.RegionWith
import Derived.Deep.RegionLaw
import Derived.Lib.SliceRun

/- The walks of well.New, Depth, Over, closes, tell, lay, last, chars, bindings. -/
set_option linter.unusedSimpArgs false
set_option linter.unusedVariables false
namespace Go.Proofs.YtkeilgompipfjaaGreatDoor.Wl
open Go.RowKit

section
variable {B rb : Nat} {vw vo : Value} {es : List OpP} {s : St} {w w' : World}
set_option maxHeartbeats 1000000 in
set_option maxRecDepth 100000 in
theorem depth_any (h : RW B rb vw vo es s w) : Calls Tryz.prog 35 #[.pointer (some ⟨rb, 0, none⟩)] w fun e w' => e = .returned (.int .i64 (s.op.length : Int)) ∧ w = w' := by
  obtain ⟨A, c, rfl⟩ := h.opn
  have c1 := h.c1
  clear h
  generalize s.op.length = n at *
  go_enter Tryz.func35, Tryz.ntmps35
  go_wp2
  go_ret
  exact ⟨rfl, rfl⟩
set_option maxHeartbeats 1000000 in
set_option maxRecDepth 100000 in
theorem over_any (h : RW B rb vw vo es s w) : Calls Tryz.prog 14 #[.pointer (some ⟨rb, 0, none⟩)] w fun e w' => e = .returned (.bool s.over) ∧ w = w' := by
  have c3 := h.c3
  clear h
  generalize s.over = b at *
  go_enter Tryz.func14, Tryz.ntmps14
  go_wp2
  go_ret
  exact ⟨rfl, rfl⟩
theorem Tryz.results40 : Tryz.f40.results = #[ResultVar.cell 0 33] := by kernel_rfl
set_option maxHeartbeats 1000000 in
set_option maxRecDepth 100000 in
theorem closes_any (w : World) : Calls Tryz.prog 40 #[] w fun e w' => e = .returned (.agg #[.int .i64 3, .string ⟨#[]⟩, .string ⟨#[]⟩, .slice none 0 0, .string ⟨#[]⟩]) ∧ Below w.heap.size w w' := by
  go_enter Tryz.func40, Tryz.ntmps40
  go_wp2
  exact bodyPost_ret (v := .agg #[.int .i64 3, .string ⟨#[]⟩, .string ⟨#[]⟩, .slice none 0 0, .string ⟨#[]⟩]) (by simp [results, Tryz.results40, go_sem]) rfl ⟨rfl, (Below.refl w.heap.size w).alloc (Nat.le_refl _) _⟩
set_option maxHeartbeats 1000000 in
set_option maxRecDepth 100000 in
theorem new_any (w : World) : Calls Tryz.prog 11 #[] w fun e w' => e = .returned (.pointer (some ⟨w.heap.size, 0, none⟩)) ∧ RW w.heap.size w.heap.size (.slice none 0 0) (.slice none 0 0) [] st0 w' ∧ Below w.heap.size w w' := by
  have HK := Lib.hid (Nz.Sc.nblk w 54 #[.slice none 0 0, .slice none 0 0, .bool false, .bool false, .int .i64 0])
  go_enter Tryz.func11, Tryz.ntmps11
  go_wp2
  go_ret
  exact ⟨rfl, ⟨Nat.le_refl _, HK.out, ⟨rfl, .inl ⟨rfl, rfl⟩⟩, rfl, ⟨rfl, .inl ⟨rfl, rfl⟩⟩, (fun x hx => by cases hx), by simp⟩, (Below.refl w.heap.size w).alloc (Nat.le_refl _) _⟩
/-- What tell leaves. -/
def TlPost (B rb : Nat) (vo : Value) (es : List OpP) (s : St) (w : World) (e : Ending) (w' : World) : Prop :=
  ∃ v vw, e = .returned v ∧ EvOwn w' w.heap.size v (toldF s.wait) ∧ RW B rb vw vo es { s with wait := Nz.em } w' ∧ Frm w w' ∧ Below B w w'
theorem RW.wnil (h : RW B rb vw vo es s w) (h0 : s.wait.size = 0) : RW B rb vw vo es { s with wait := Nz.em } w := by
  have e := size_em h0
  obtain ⟨op, wait, root, over, err⟩ := s
  have e' : wait = Nz.em := e
  subst e'
  exact h
set_option maxHeartbeats 1000000 in
set_option maxRecDepth 100000 in
theorem tell_no (h : RW B rb vw vo es s w) (h0 : s.wait.size = 0) : Calls Tryz.prog 39 #[.pointer (some ⟨rb, 0, none⟩)] w (TlPost B rb vo es s w) := by
  have HR := Lib.hid h
  obtain ⟨A, c, rfl⟩ := h.wai
  have c0 := h.c0
  rw [h0] at c0
  clear h
  go_enter Tryz.func39, Tryz.ntmps39
  go_wp2
  go_ret
  refine ⟨_, _, rfl, ?_, HR.out.wnil h0, Frm.refl _, Below.refl _ _⟩
  unfold toldF
  rw [if_pos h0]
  exact EvOwn.nil _ _
/-- A new list of one event. -/
theorem ev_one {W W' : World} {x : Ev} {va : Value} (hk : W'.heap[W.heap.size]? = some (.cells #[.int .i64 (kd x), .string (sp x), .string (lo x), va, .string (tx x)] 33 (0, 0))) (ha : Nz.Sc.OwnT W' B va (atts x)) (hB : B ≤ W.heap.size) :
    EvOwn W' B (.slice (some ⟨W.heap.size, 0, none⟩) 1 1) [x] :=
  ⟨[(x, va)], rfl, ⟨rfl, .inr ⟨W.heap.size, 1, _, rfl, hB, hk, Nat.le_refl _, by decide, rfl, rfl⟩⟩, fun y hy => by rw [List.mem_singleton] at hy; subst hy; exact ha⟩
set_option maxHeartbeats 1000000 in
set_option maxRecDepth 100000 in
theorem tell_yes (h : RW B rb vw vo es s w) (h0 : s.wait.size ≠ 0) : Calls Tryz.prog 39 #[.pointer (some ⟨rb, 0, none⟩)] w (TlPost B rb vo es s w) := by
  have HR := Lib.hid h
  have ho : Hid (EvOwn (w.alloc (.cells #[.int .i64 2, .string ⟨#[]⟩, .string ⟨#[]⟩, .slice none 0 0, .string s.wait] 33)) w.heap.size (.slice (some ⟨w.heap.size, 0, none⟩) 1 1) (toldF s.wait)) := Lib.hid (by
    unfold toldF
    rw [if_neg h0]
    exact ev_one (x := .txt s.wait) (Nz.Sc.nblk w 33 _) (ownT_nil _ _) (Nat.le_refl _))
  obtain ⟨A, c, hrd, hR⟩ := own_rd h.wt
  have hcv := conv_rd (c := c) hR
  rw [← str_of_byts rfl, byts_len] at hcv
  have HA := Lib.hid (h.after ((Below.refl _ w).alloc (Nat.le_refl _) (.cells #[.int .i64 2, .string ⟨#[]⟩, .string ⟨#[]⟩, .slice none 0 0, .string s.wait] 33)))
  have c0 := h.c0
  rw [hrd, byts_len] at c0
  have d0 := HA.out.c0
  rw [hrd, byts_len] at d0
  have f0 := HA.out.fz 0
  have q0 : ((s.wait.size : Int) == 0) = false := by rw [beq_eq_false_iff_ne]; omega
  clear h hR hrd
  generalize s.wait.size = n at *
  go_enter Tryz.func39, Tryz.ntmps39
  go_wp2
  go_ret
  exact ⟨_, _, rfl, ho.out.frm (HA.out.frmS 0 _), HA.out.set0, (Frm.of_below ((Below.refl _ w).alloc (Nat.le_refl _) _)).trans (HA.out.frmS 0 _), ((Below.refl B w).alloc HR.out.siz _).trans (HA.out.belS 0 _)⟩
theorem tell_any (h : RW B rb vw vo es s w) : Calls Tryz.prog 39 #[.pointer (some ⟨rb, 0, none⟩)] w (TlPost B rb vo es s w) := by
  by_cases h0 : s.wait.size = 0
  · exact tell_no h h0
  · exact tell_yes h h0
/-- Behind an append to the text that waits. -/
theorem RW.putw (h : RW B rb vw vo es s w) {v' : Value} {w2 : World} {m : ByteArray} (ho : w2.ownsRow B 5 1 v' ((byts s.wait).length + m.size) ((byts s.wait).map (Value.int .u8) ++ Lib.strCells m)) (hg : w.grownBy w2 vw.ownBlock) :
    w2.heap[rb]? = some (.cells #[vw, vo, .bool s.root, .bool s.over, .int .i64 s.err] 54 (0, 0)) ∧ RW B rb v' vo es { s with wait := s.wait ++ m } (w2.setCell ⟨rb, 0, none⟩ v') ∧ Frm w (w2.setCell ⟨rb, 0, none⟩ v') ∧ Below B w (w2.setCell ⟨rb, 0, none⟩ v') := by
  have b2 := (hg.block rb h.lt (fun e => Nz.Sc.own_ne h.wt h.blk (by decide) e.symm)).trans h.blk
  have hf := Frm.grown hg h.wt (.inl rfl)
  have hs := Frm.set b2 (.inr (.inl rfl)) 0 v'
  have hb : Below B w w2 := (Below.refl B w).grown hg h.siz (fun k hk => (World.ownsRow.lt h.wt k hk).1)
  refine ⟨b2, ⟨h.lo, by rw [set_blk b2]; rfl, ?_, h.eq, Wl.own_set (own_grown h.op h.wt hg (by decide)) b2 (by decide) 0 v', (h.own.frm hf).frm hs, by simpa [World.setCell] using Nat.le_trans h.siz hg.size⟩, hf.trans hs, hb.setCell (p := ⟨rb, 0, none⟩) h.lo v'⟩
  refine Wl.own_set ?_ b2 (by decide) 0 v'
  show w2.ownsRow B 5 1 v' (byts (s.wait ++ m)).length ((byts (s.wait ++ m)).map (Value.int .u8))
  have e : (byts m).map (Value.int .u8) = Lib.strCells m := by unfold byts; rw [List.map_map]; rfl
  rw [byts_cat, List.length_append, List.map_append, e, byts_len m]
  exact ho
def LyPost (B rb : Nat) (vo : Value) (es : List OpP) (s : St) (m : ByteArray) (w : World) (e : Ending) (w' : World) : Prop :=
  e = .returned (.tuple #[]) ∧ (∃ vw, RW B rb vw vo es { s with wait := s.wait ++ m } w') ∧ Frm w w' ∧ Below B w w'
set_option maxHeartbeats 1000000 in
set_option maxRecDepth 100000 in
theorem lay_any (h : RW B rb vw vo es s w) (m : ByteArray) (hz : s.wait.size ≤ 1000000000) (hm : m.size ≤ 1000000) : Calls Tryz.prog 42 #[.pointer (some ⟨rb, 0, none⟩), .string m] w (LyPost B rb vo es s m w) := by
  obtain ⟨i0, hi, hz0, hz1, hz2⟩ := info_parts Tryz.info5
  have HR := Lib.hid h
  have hown := h.wt
  have hsz := h.siz
  have hl : (byts s.wait).length ≤ 1000000000 := by rw [byts_len]; exact hz
  have c0 := h.c0
  clear h hz
  go_enter Tryz.func42, Tryz.ntmps42
  go_wp2_with (at_builtin; refine Lib.wpList_append_own_string _ rfl _ _ 49 9 rfl B 5 i0 Tryz.underlying49 Tryz.underlying9 hi hz0 hz1 hz2 _ _ _ rfl hown m rfl (by unfold maxLen; omega) (by omega) (by omega) ?_)
  intro v' w2 hown' hgrow _
  obtain ⟨b2, r2, f2, l2⟩ := HR.out.putw hown' hgrow
  have R2 := Lib.hid r2
  have F2 := Lib.hid f2
  have L2 := Lib.hid l2
  have d0 : w2.cell? ⟨rb, 0, none⟩ = some vw := by rw [Lib.cell_of_heap b2]; rfl
  have f0 : w2.frozen? ⟨rb, 0, none⟩ = false := Lib.frozen_of_heap b2 0
  obtain ⟨A, cap, rfl⟩ : ∃ A cap, v' = .slice A ((byts s.wait).length + m.size) cap := Nz.Sc.own_slice hown'
  clear b2 r2 f2 l2 hown' hgrow hown HR c0
  go_wp2
  go_end0
  exact ⟨rfl, ⟨_, R2.out⟩, F2.out, L2.out⟩
/-- A reader's state but for its error. -/
def clr (s : St) : St := { s with err := 0 }
theorem clr_bad (s : St) (h : s.err = 0) (e : Int) : clr (bad s e).1 = s := by
  obtain ⟨op, wait, root, over, err⟩ := s
  have : err = 0 := h
  subst this
  rfl
theorem clr_self (s : St) (h : s.err = 0) : clr s = s := clr_bad s h 0
def LaPost (B rb : Nat) (vo : Value) (es : List OpP) (x : St × List Ev × Int) (w : World) (e : Ending) (w' : World) : Prop :=
  e = .returned (.int .i64 x.2.2) ∧ (∃ vw, RW B rb vw vo es (clr x.1) w') ∧ Frm w w' ∧ Below B w w'
set_option maxHeartbeats 1000000 in
set_option maxRecDepth 100000 in
theorem last_any (h : RW B rb vw vo es s w) (he : s.err = 0) : Calls Tryz.prog 26 #[.pointer (some ⟨rb, 0, none⟩)] w (LaPost B rb vo es (lastT s) w) := by
  have HR := Lib.hid h
  have CD := Lib.hid (depth_any h)
  have c2 := h.c2
  have c3 := h.c3
  have f3 := h.fz 3
  unfold lastT
  by_cases k1 : s.op ≠ []
  · have k0 : 0 < s.op.length := List.length_pos_iff.2 k1
    rw [if_pos k1]
    clear h
    generalize s.op.length = n at *
    have d1 : (0 : Int) < (n : Int) := by omega
    go_enter Tryz.func26, Tryz.ntmps26
    go_wp2_with fail
    refine CD.out.mono ?_
    rintro e w1 ⟨rfl, rfl⟩
    go_wp2
    go_ret
    exact ⟨rfl, ⟨_, by rw [clr_bad s he]; exact HR.out⟩, Frm.refl _, Below.refl _ _⟩
  · have k0 : s.op.length = 0 := by rw [Decidable.not_not.1 k1]; rfl
    rw [if_neg k1]
    rw [k0] at CD
    cases hr : s.root
    · rw [hr] at c2
      rw [if_pos rfl]
      clear h
      go_enter Tryz.func26, Tryz.ntmps26
      go_wp2_with fail
      refine CD.out.mono ?_
      rintro e w1 ⟨rfl, rfl⟩
      go_wp2
      go_ret
      exact ⟨rfl, ⟨_, by rw [clr_bad s he]; exact HR.out⟩, Frm.refl _, Below.refl _ _⟩
    · rw [hr] at c2
      rw [if_neg (by decide)]
      clear h
      go_enter Tryz.func26, Tryz.ntmps26
      go_wp2_with fail
      refine CD.out.mono ?_
      rintro e w1 ⟨rfl, rfl⟩
      go_wp2
      go_ret
      refine ⟨rfl, ⟨vw, ?_⟩, HR.out.frmS 3 _, HR.out.belS 3 _⟩
      have := HR.out.set3 true
      rw [← clr_self _ (show ({ s with over := true } : St).err = 0 from he), hr] at this
      exact this
theorem RW.box (h : RW B rb vw vo es s w) (o : Obj) : RW B rb vw vo es s (w.alloc o) := h.after ((Below.refl _ w).alloc (Nat.le_refl _) o)
theorem RW.drew (h : RW B rb vw vo es s w) : RW B rb vw vo es s w.drew := h.after (Below.refl _ w).drew
theorem bel_box (h : RW B rb vw vo es s w) (o : Obj) : Below B w (w.alloc o) := (Below.refl B w).alloc h.siz o
theorem frm_box (w : World) (o : Obj) : Frm w (w.alloc o) := Frm.of_below ((Below.refl _ w).alloc (Nat.le_refl _) o)
theorem frm_cell {a b : World} (hf : Frm a b) {k : Nat} {cs : Array Value} {fr : Nat × Nat} (hk : a.heap[k]? = some (.cells cs 41 fr)) (j : Nat) {v : Value} (hv : cs[j]? = some v) : b.cell? ⟨k, j, none⟩ = some v :=
  (Lib.cell_of_heap (hf k cs 41 fr hk (by decide) (by decide) (by decide)) j).trans hv
set_option maxHeartbeats 2000000 in
set_option maxRecDepth 100000 in
theorem chars_any (h : RW B rb vw vo es s w) (he : s.err = 0) (k : Int) (m : ByteArray) (em bk : Bool) (hz : s.wait.size ≤ 1000000000) (hm : m.size ≤ 1000000) :
    Calls Tryz.prog 25 #[.pointer (some ⟨rb, 0, none⟩), .agg #[.int .i64 k, .string m, .bool em, .bool bk]] w (LaPost B rb vo es (charsT s ⟨k, m, em, bk⟩) w) := by
  have HW := Lib.hid h
  have HR := Lib.hid (h.box (.cells #[.int .i64 k, .string m, .bool em, .bool bk] 41))
  have CD := Lib.hid (depth_any HR.out)
  unfold charsT
  by_cases k1 : s.op ≠ []
  · have k0 : 0 < s.op.length := List.length_pos_iff.2 k1
    rw [if_pos k1]
    have CL := Lib.hid (lay_any HR.out.drew m hz hm)
    have HK := Lib.hid (show (w.alloc (.cells #[.int .i64 k, .string m, .bool em, .bool bk] 41)).drew.heap[w.heap.size]? = _ from Nz.Sc.nblk w 41 #[.int .i64 k, .string m, .bool em, .bool bk])
    clear h
    generalize s.op.length = n at *
    have d1 : (0 : Int) < (n : Int) := by omega
    go_enter Tryz.func25, Tryz.ntmps25
    go_wp2_with fail
    refine CD.out.mono ?_
    rintro e w1 ⟨rfl, rfl⟩
    go_wp2_with fail
    go_region_held3 (fun W => W.cell? ⟨w.heap.size, 1, none⟩ = some (.string m)) (first | assumption | simp | exact rfl) (first | (go_at_call 42; refine CL.out.mono ?_; rintro e w2 ⟨rfl, h2, f2, l2⟩; have k2 := frm_cell f2 HK.out 1 rfl) | fail)
    go_wp2
    go_ret
    obtain ⟨vw2, h2⟩ := h2
    exact ⟨rfl, ⟨vw2, by rw [← clr_self _ (show ({ s with wait := s.wait ++ m } : St).err = 0 from he)] at h2; exact h2⟩, (frm_box w _).trans f2, (bel_box HW.out _).drew.trans l2⟩
  · have k0 : s.op.length = 0 := by rw [Decidable.not_not.1 k1]; rfl
    rw [if_neg k1]
    rw [k0] at CD
    cases bk
    · rw [if_neg (fun e => by cases e)]
      clear h
      go_enter Tryz.func25, Tryz.ntmps25
      go_wp2_with fail
      refine CD.out.mono ?_
      rintro e w1 ⟨rfl, rfl⟩
      go_wp2
      go_ret
      exact ⟨rfl, ⟨_, by rw [clr_bad s he]; exact HR.out⟩, frm_box _ _, bel_box HW.out _⟩
    · rw [if_pos rfl]
      clear h
      go_enter Tryz.func25, Tryz.ntmps25
      go_wp2_with fail
      refine CD.out.mono ?_
      rintro e w1 ⟨rfl, rfl⟩
      go_wp2
      go_ret
      exact ⟨rfl, ⟨_, by rw [clr_self s he]; exact HR.out⟩, frm_box _ _, bel_box HW.out _⟩
theorem own_heap {e : TypeId} {z n : Nat} {v : Value} {xs : List Value} (h : w.ownsRow B e z v n xs) (he : w'.heap = w.heap) : w'.ownsRow B e z v n xs := by
  unfold World.ownsRow at *
  rw [he]
  exact h
theorem RW.heap (h : RW B rb vw vo es s w) (he : w'.heap = w.heap) : RW B rb vw vo es s w' :=
  ⟨h.lo, by rw [he]; exact h.blk, own_heap h.wt he, h.eq, own_heap h.op he, fun x hx => own_heap (h.own x hx) he, by rw [he]; exact h.siz⟩
/-- The scope in which the next tag stands. -/
def BnPost (B : Nat) (s : St) (w : World) (e : Ending) (w' : World) : Prop := ∃ v, e = .returned v ∧ Nz.Sc.OwnP 138 w' B v (scpF s) ∧ Below w.heap.size w w'
theorem own_bind0 {W : World} (hB : B ≤ W.heap.size) : Nz.Sc.OwnP 138 (W.alloc (.cells #[.string Nz.Sc.xm, .string Nz.Sc.XS] 138)) B (.slice (some ⟨W.heap.size, 0, none⟩) 1 1) bind0 :=
  ⟨rfl, .inr ⟨W.heap.size, 1, _, rfl, hB, Nz.Sc.nblk W 138 _, Nat.le_refl _, by decide, rfl, rfl⟩⟩
theorem RW.inn (h : RW B rb vw vo es s w) {n : Nat} (hn : s.op.length = n + 1) : ∃ g c x, vo = .slice (some ⟨g, 0, none⟩) (n + 1) c ∧ s.op.getLast? = some x.1 ∧ w.cell? ⟨g, n * 2, none⟩ = some (.string x.1.1) ∧ w.cell? ⟨g, n * 2 + 1, none⟩ = some x.2 ∧ Nz.Sc.OwnP 138 w B x.2 x.1.2 ∧ es[n]? = some x := by
  have hl := h.len
  have ho := h.op
  rw [hl, hn] at ho
  obtain ⟨g, c, hv⟩ := Nz.Sc.own_shape ho
  have hlt : n < es.length := by omega
  have hx := List.getElem?_eq_getElem hlt
  refine ⟨g, c, es[n], hv, ?_, ?_, ?_, h.own _ (List.getElem_mem _), hx⟩
  · rw [← h.eq, List.getLast?_map, List.getLast?_eq_getElem?, show es.length - 1 = n by omega, hx]
    rfl
  · rw [hv] at ho
    exact (ho.cellAt (n * 2) (by omega)).trans (opL_get es n 0 _ hx (by omega))
  · rw [hv] at ho
    exact (ho.cellAt (n * 2 + 1) (by omega)).trans (opL_get es n 1 _ hx (by omega))
set_option maxHeartbeats 2000000 in
set_option maxRecDepth 100000 in
theorem bind_any (h : RW B rb vw vo es s w) (hd : s.op.length ≤ 64) : Calls Tryz.prog 38 #[.pointer (some ⟨rb, 0, none⟩)] w (BnPost B s w) := by
  have HW := Lib.hid h
  have CD := Lib.hid (depth_any h)
  unfold BnPost scpF
  by_cases k1 : s.op = []
  · have k0 : s.op.length = 0 := by rw [k1]; rfl
    rw [k0] at CD
    rw [k1]
    have CN := Lib.hid (Nz.Sc.new_any w)
    clear h
    go_enter Tryz.func38, Tryz.ntmps38
    go_wp2_with fail
    refine CD.out.mono ?_
    rintro e w1 ⟨rfl, rfl⟩
    go_wp2_with fail
    refine CN.out.mono ?_
    rintro e w1 ⟨rfl, rfl⟩
    go_wp2
    go_ret
    exact ⟨_, rfl, own_bind0 HW.out.siz, (Below.refl _ w).alloc (Nat.le_refl _) _⟩
  · have k0 : 0 < s.op.length := List.length_pos_iff.2 k1
    obtain ⟨n, hn⟩ : ∃ n, s.op.length = n + 1 := ⟨s.op.length - 1, by omega⟩
    obtain ⟨g, c, x, rfl, hx, x0, x1, ho, _⟩ := h.inn hn
    rw [hx]
    obtain ⟨⟨xn, xl⟩, xv⟩ := x
    dsimp only at x0 x1 ho hx ⊢
    have HO := Lib.hid ho
    have c1 := h.c1
    rw [hn] at CD
    have CQ : Hid (∀ W, W.heap = w.heap → Calls Tryz.prog 35 #[.pointer (some ⟨rb, 0, none⟩)] W fun e w' => e = .returned (.int .i64 ((n + 1 : Nat) : Int)) ∧ w' = W) := Lib.hid (fun W hW => by
      have := depth_any (h.heap hW)
      rw [hn] at this
      exact this.mono fun e w' ⟨h1, h2⟩ => ⟨h1, h2.symm⟩)
    obtain ⟨A, m, k, rfl⟩ := own_slc ho
    have d0 : ¬ (((n + 1 : Nat) : Int) == 0) = true := by simp; omega
    clear h ho hx k0 k1
    go_enter Tryz.func38, Tryz.ntmps38
    go_wp2_with fail
    refine CD.out.mono ?_
    rintro e w1 ⟨rfl, rfl⟩
    go_wp2_with fail
    go_quiet ((go_at_call 35; exact Calls.quiet_of_same (CQ.out _ rfl)))
    go_wp2
    go_ret
    exact ⟨_, rfl, HO.out, below_drewN (Below.refl _ _) _⟩
end
end Go.Proofs.YtkeilgompipfjaaGreatDoor.Wl

/- The walks of slices.Delete at the last element, and of well's end. -/
set_option linter.unusedSimpArgs false
set_option linter.unusedVariables false
namespace Go.Proofs.YtkeilgompipfjaaGreatDoor.Wl
open Go.RowKit

section
variable {B rb : Nat} {vw vo : Value} {es : List OpP} {s : St} {w w' : World}
theorem Tryz.zero118 : ∀ w, (zeroValue 85).run Tryz.prog w = .ok (.agg #[.string ⟨#[]⟩, .slice none 0 0]) w := fun w => by kernel_rfl
theorem run_clear2 {w : World} {a b : Value} (g o c : Nat) (h0 : w.cell? ⟨g, o, none⟩ = some a) (h1 : w.cell? ⟨g, o + 1, none⟩ = some b) (f0 : w.frozen? ⟨g, o, none⟩ = false) (f1 : w.frozen? ⟨g, o + 1, none⟩ = false) :
    (Builtin.clear_ #[52] 0 #[.slice (some ⟨g, o, none⟩) 1 c]).run Tryz.prog w = .ok (.tuple #[]) ((w.setCell ⟨g, o, none⟩ (.string ⟨#[]⟩)).setCell ⟨g, o + 1, none⟩ (.slice none 0 0)) := by
  have hst := run_storeCells_cells (P := Tryz.prog) g o [.string ⟨#[]⟩, .slice none 0 0] 0 w (fun j hj => by
    have hj' : j = 0 ∨ j = 1 := by simp at hj; omega
    rcases hj' with rfl | rfl
    · rw [show o + 0 = o from rfl, h0]; rfl
    · rw [h1]; rfl) (fun j hj => by
    have hj' : j = 0 ∨ j = 1 := by simp at hj; omega
    rcases hj' with rfl | rfl
    · exact f0
    · exact f1) (by intro v hv; simp only [List.mem_cons, List.not_mem_nil, or_false] at hv; rcases hv with rfl | rfl <;> rfl)
  have hz : (Builtin.zeroCells (Value.agg #[.string ⟨#[]⟩, .slice none 0 0]).cells 1).toList = [.string ⟨#[]⟩, .slice none 0 0] := by kernel_rfl
  simp only [Nat.add_zero] at hst
  simp [Builtin.clear_, run_underlying Tryz.underlying52, Tryz.zero118, hz, hst]
  rfl
set_option maxHeartbeats 2000000 in
set_option maxRecDepth 100000 in
theorem delete_any (g n c : Nat) (a b : Value) (w : World) (hn : n ≤ 64) (hc : n + 1 ≤ c) (hm : c ≤ maxLen) (h0 : w.cell? ⟨g, n * 2, none⟩ = some a) (h1 : w.cell? ⟨g, n * 2 + 1, none⟩ = some b) (f0 : w.frozen? ⟨g, n * 2, none⟩ = false) (f1 : w.frozen? ⟨g, n * 2 + 1, none⟩ = false) :
    Calls Tryz.prog 41 #[.slice (some ⟨g, 0, none⟩) (n + 1) c, .int .i64 (n : Int), .int .i64 ((n : Int) + 1)] w fun e w' => e = .returned (.slice (some ⟨g, 0, none⟩) n c) ∧ w' = ((w.drew.setCell ⟨g, n * 2, none⟩ (.string ⟨#[]⟩)).setCell ⟨g, n * 2 + 1, none⟩ (.slice none 0 0)) := by
  have d0 : (0 : Int) ≤ (n : Int) := by omega
  have d1 : (n : Int) ≤ (n : Int) + 1 := by omega
  have d2 : (0 : Int) ≤ (n : Int) + 1 := by omega
  have d3 : ((n : Int) == (n : Int) + 1) = false := by rw [beq_eq_false_iff_ne]; omega
  have d4 : (n : Int) + 1 ≤ (c : Int) := by omega
  have d5 : (n : Int) ≤ (c : Int) := by omega
  have d6 : ((n : Int) + 1).toNat = n + 1 := by omega
  have d7 : n ≤ c := by omega
  unfold maxLen at hm
  by_cases hcc : c = n + 1
  · subst hcc
    have q0 : n + 1 - n = 1 := by omega
    go_enter Tryz.func41, Tryz.ntmps41
    go_wp2_with fail
    go_region
    have hcl := run_clear2 (w := w.drew) g (n * 2) 1 h0 h1 f0 f1
    go_wp2
    go_ret
    exact ⟨rfl, rfl⟩
  · go_enter Tryz.func41, Tryz.ntmps41
    go_wp2_with fail
    go_region
    have hcl := run_clear2 (w := w.drew) g (n * 2) (c - n) h0 h1 f0 f1
    go_wp2
    go_ret
    exact ⟨rfl, rfl⟩
/-- The last element is struck. -/
theorem set_cell_keep {W : World} {b j : Nat} {x : Value} {k : Nat} (hk : k ≠ b) : (W.setCell ⟨b, j, none⟩ x).heap[k]? = W.heap[k]? := Below.heap_setCell _ _ _ _ (fun e => hk e)
theorem RW.strike (h : RW B rb vw vo es s w) {n : Nat} (hn : s.op.length = n + 1) {g c : Nat} (hv : vo = .slice (some ⟨g, 0, none⟩) (n + 1) c) (W : World) (hW : W.heap = ((w.setCell ⟨g, n * 2, none⟩ (.string ⟨#[]⟩)).setCell ⟨g, n * 2 + 1, none⟩ (.slice none 0 0)).heap) :
    W.heap[rb]? = some (.cells #[vw, vo, .bool s.root, .bool s.over, .int .i64 s.err] 54 (0, 0)) ∧ RW B rb vw (.slice (some ⟨g, 0, none⟩) n c) es.dropLast { s with op := s.op.dropLast } (W.setCell ⟨rb, 1, none⟩ (.slice (some ⟨g, 0, none⟩) n c)) ∧ Frm w (W.setCell ⟨rb, 1, none⟩ (.slice (some ⟨g, 0, none⟩) n c)) ∧ W.heap.size = w.heap.size ∧ (∀ k, k ≠ g → W.heap[k]? = w.heap[k]?) ∧ B ≤ g := by
  have hl := h.len
  have ho := h.op
  rw [hl, hn, hv] at ho
  obtain ⟨hx, h2⟩ := ho
  rcases h2 with ⟨h2, _⟩ | ⟨g', cap, cur, e, hB, hh, h3, h4, h5, h6⟩
  · cases h2
  injection e with e1 e2 e3
  injection e1 with e1
  injection e1 with e1
  subst e1 e3
  have hne : rb ≠ g := by
    rintro rfl
    have := h.blk
    rw [hh] at this
    injection this with this
    injection this with _ q _
    exact absurd q (by decide)
  have hsz : W.heap.size = w.heap.size := by rw [hW]; simp [World.setCell]
  have hk : ∀ k, k ≠ g → W.heap[k]? = w.heap[k]? := fun k hk => by
    rw [hW, set_cell_keep hk, set_cell_keep hk]
  have hg : W.heap[g]? = some (.cells ((cur.set! (n * 2) (.string ⟨#[]⟩)).set! (n * 2 + 1) (.slice none 0 0)) 85 (0, 0)) := by
    rw [hW, set_blk (set_blk hh)]
  have hf1 : Frm w W := fun k cs T fr hc t1 t2 t3 => by
    rw [hk k ?_]
    · exact hc
    · rintro rfl
      rw [hh] at hc
      injection hc with hc
      injection hc with _ q _
      exact t3 q.symm
  have b2 : W.heap[rb]? = _ := (hk rb hne).trans h.blk
  have hf2 := Frm.set b2 (.inr (.inl rfl)) 1 (.slice (some ⟨g, 0, none⟩) n c)
  have keep : ∀ {e : TypeId} {z m : Nat} {v : Value} {xs : List Value}, w.ownsRow B e z v m xs → e ≠ 85 → W.ownsRow B e z v m xs := fun {e z m v xs} q he => by
    refine ⟨q.1, ?_⟩
    rcases q.2 with q | ⟨g2, cap2, cur2, rfl, qB, qh, qr⟩
    · exact .inl q
    · refine .inr ⟨g2, cap2, cur2, rfl, qB, ?_, qr⟩
      rw [hk g2 ?_]
      · exact qh
      · rintro rfl
        rw [hh] at qh
        injection qh with qh
        injection qh with _ q _
        exact he q.symm
  have hel : es.dropLast.length = n := by rw [List.length_dropLast]; omega
  refine ⟨b2, ⟨h.lo, by rw [set_blk b2]; rfl, Wl.own_set (keep h.wt (by decide)) b2 (by decide) 1 _, ?_, ?_, fun x hx => Wl.own_set (keep (h.own x (List.dropLast_subset _ hx)) (by decide)) b2 (by decide) 1 _, by simp [World.setCell]; rw [hsz]; exact h.siz⟩, hf1.trans hf2, hsz, hk, hB⟩
  · rw [List.map_dropLast, h.eq]
  · refine Wl.own_set ?_ b2 (by decide) 1 _
    rw [hel]
    refine ⟨by rw [opL_len, hel], .inr ⟨g, c, _, rfl, hB, hg, by omega, h4, by simpa using h5, ?_⟩⟩
    have hlen : n * 2 ≤ cur.toList.length := by rw [Array.length_toList, h5]; omega
    have h7 : cur.toList.take (n * 2) = opL es.dropLast := by
      have : es = es.dropLast ++ [es[n]'(by omega)] := by
        have hne' : es ≠ [] := fun e => by rw [e] at hl; simp at hl; omega
        conv => lhs; rw [← List.dropLast_concat_getLast hne']
        congr 2
        rw [List.getLast_eq_getElem]
        congr 1
        omega
      have q := congrArg (List.take (n * 2)) h6
      rw [List.take_take, Nat.min_eq_left (by omega)] at q
      rw [q]
      conv => lhs; rw [this]
      rw [opL_app, List.take_left' (by rw [opL_len, hel])]
    rw [← h7]
    simp only [Array.set!_eq_setIfInBounds, Array.toList_setIfInBounds]
    rw [List.take_set_of_le (by omega), List.take_set_of_le (by omega)]
theorem Tryz.info33 : (Tryz.prog.info? 33).map (fun i => (i.zero, i.size, i.bytes)) = some (some (.agg #[.int .i64 0, .string ⟨#[]⟩, .string ⟨#[]⟩, .slice none 0 0, .string ⟨#[]⟩]), 5, 80) := by kernel_rfl
/-- Behind an append of one event. -/
theorem ev_put {W w2 : World} {B : Nat} {v v' va : Value} {xs : List EvP} {l : List Ev} {x : Ev} (hl : xs.map (·.1) = l) (ho : W.ownsRow B 33 5 v xs.length (evL xs)) (hO : EvO W B xs) (ha : Nz.Sc.OwnT W B va (atts x)) (hg : W.grownBy w2 v.ownBlock) (hn : w2.ownsRow B 33 5 v' (xs.length + 1) (evL xs ++ evC (x, va))) : EvOwn w2 B v' (l ++ [x]) := by
  refine ⟨xs ++ [(x, va)], by rw [List.map_append, hl]; rfl, ?_, ?_⟩
  · rw [evL_app, List.length_append]
    exact hn
  · refine (hO.grown ho hg (by decide)).app fun y hy => ?_
    rw [List.mem_singleton] at hy
    subst hy
    exact own_grown ha ho hg (by decide)
theorem RW.grown {W w2 : World} (h : RW B rb vw vo es s W) {B' z n : Nat} {v : Value} {xs : List Value} (ho : W.ownsRow B' 33 z v n xs) (hg : W.grownBy w2 v.ownBlock) : RW B rb vw vo es s w2 :=
  ⟨h.lo, (hg.block rb h.lt (fun e => Nz.Sc.own_ne ho h.blk (by decide) e.symm)).trans h.blk, own_grown h.wt ho hg (by decide), h.eq, own_grown h.op ho hg (by decide), fun x hx => own_grown (h.own x hx) ho hg (by decide), Nat.le_trans h.siz hg.size⟩
theorem Frm.fresh {W w2 : World} (h : Frm w W) (hs : w.heap.size ≤ W.heap.size) {e : TypeId} {z n : Nat} {v : Value} {xs : List Value} (ho : W.ownsRow w.heap.size e z v n xs) (hg : W.grownBy w2 v.ownBlock) : Frm w w2 := fun k cs T fr hk h1 h2 h3 => by
  have hlt := (Array.getElem?_eq_some_iff.1 hk).1
  refine (hg.block k (by omega) ?_).trans (h k cs T fr hk h1 h2 h3)
  intro e
  have := (World.ownsRow.lt ho k e.symm).1
  omega
/-- What read, start, end and Take leave. -/
def TkP (B rb : Nat) (x : St × List Ev × Int) (st : St) (w : World) (e : Ending) (w' : World) : Prop :=
  ∃ v, e = .returned (.tuple #[v, .int .i64 x.2.2]) ∧ EvOwn w' w.heap.size v x.2.1 ∧ RS B rb st w' ∧ Frm w w' ∧ Below B w w'
theorem tkp_bad {x : St × List Ev × Int} {c : Int} (hx : x = bad s c) (he : s.err = 0) (h : RW B rb vw vo es s w') (hf : Frm w w') (hb : Below B w w') : TkP B rb x (clr x.1) w (.returned (.tuple #[.slice none 0 0, .int .i64 c])) w' := by
  subst hx
  exact ⟨_, rfl, EvOwn.nil _ _, ⟨vw, vo, es, by rw [clr_bad s he]; exact h⟩, hf, hb⟩
theorem getLast_nil {α : Type} {l : List α} (h : l = []) : l.getLast? = none := by rw [h]; rfl
set_option maxHeartbeats 4000000 in
set_option maxRecDepth 100000 in
theorem end_no (h : RW B rb vw vo es s w) (he : s.err = 0) (k : Int) (m : ByteArray) (em bk : Bool) (hn : s.op = []) :
    Calls Tryz.prog 24 #[.pointer (some ⟨rb, 0, none⟩), .agg #[.int .i64 k, .string m, .bool em, .bool bk]] w (TkP B rb (endT s ⟨k, m, em, bk⟩) (clr (endT s ⟨k, m, em, bk⟩).1) w) := by
  have HW := Lib.hid h
  have HR := Lib.hid (h.box (.cells #[.int .i64 k, .string m, .bool em, .bool bk] 41))
  have CD := Lib.hid (depth_any HR.out)
  have HX : Hid (endT s ⟨k, m, em, bk⟩ = bad s 10) := Lib.hid (by unfold endT inner; rw [getLast_nil hn]; rfl)
  have k0 : s.op.length = 0 := by rw [hn]; rfl
  rw [k0] at CD
  clear h hn
  generalize endT s ⟨k, m, em, bk⟩ = x at *
  go_enter Tryz.func24, Tryz.ntmps24
  go_wp2_with fail
  refine CD.out.mono ?_
  rintro e w1 ⟨rfl, rfl⟩
  go_wp2_with fail
  go_quiet (fail)
  go_wp2
  go_ret2
  exact tkp_bad HX.out he (HR.out.heap rfl) (frm_box w _) (below_drewN (bel_box HW.out _) _)
set_option maxHeartbeats 4000000 in
set_option maxRecDepth 100000 in
theorem end_ne (h : RW B rb vw vo es s w) (he : s.err = 0) (k : Int) (m : ByteArray) (em bk : Bool) (n : Nat) (hn : s.op.length = n + 1) (hd : n ≤ 64) (hne : inner s ≠ some m) :
    Calls Tryz.prog 24 #[.pointer (some ⟨rb, 0, none⟩), .agg #[.int .i64 k, .string m, .bool em, .bool bk]] w (TkP B rb (endT s ⟨k, m, em, bk⟩) (clr (endT s ⟨k, m, em, bk⟩).1) w) := by
  have HW := Lib.hid h
  have HR := Lib.hid (h.box (.cells #[.int .i64 k, .string m, .bool em, .bool bk] 41))
  have CD := Lib.hid (depth_any HR.out)
  have HX : Hid (endT s ⟨k, m, em, bk⟩ = bad s 10) := Lib.hid (by unfold endT; rw [if_neg hne])
  obtain ⟨g, c, x, rfl, hx, x0, x1, ho, _⟩ := HR.out.inn hn
  have c1 := HR.out.c1
  rw [hn] at CD
  have q1 : IntKind.i64.wrap (((n + 1 : Nat) : Int) - 1) = (n : Int) := by rw [IntWalk.i64_in _ (by omega)]; omega
  have q2 : (x.1.1.toList != m.toList) = true := by
    rw [bne_iff_ne]
    intro e
    apply hne
    unfold inner
    rw [hx, ← Nz.Sc.toList_inj e]
    rfl
  have q3 : (x.1.1.toList == m.toList) = false := by rw [← Bool.not_eq_true, beq_iff_eq]; exact bne_iff_ne.1 q2
  have d1 : ¬ (n : Int) < 0 := by omega
  have d2 : (0 : Int) ≤ (n : Int) := by omega
  have d3 : (n : Int) < (n : Int) + 1 := by omega
  have d4 : n < n + 1 := by omega
  clear h hne hx ho x1
  generalize x.1.1 = xn at *
  generalize endT s ⟨k, m, em, bk⟩ = y at *
  go_enter Tryz.func24, Tryz.ntmps24
  go_wp2_with fail
  refine CD.out.mono ?_
  rintro e w1 ⟨rfl, rfl⟩
  go_wp2_with fail
  go_quiet (fail)
  go_wp2
  go_ret2
  exact tkp_bad HX.out he (HR.out.heap rfl) (frm_box w _) (below_drewN (bel_box HW.out _) _)
theorem RW.cap (h : RW B rb vw vo es s w) {n g c : Nat} (hn : s.op.length = n + 1) (hv : vo = .slice (some ⟨g, 0, none⟩) (n + 1) c) : n + 1 ≤ c ∧ c ≤ maxLen ∧ B ≤ g ∧ ∀ j, w.frozen? ⟨g, j, none⟩ = false := by
  have ho := h.op
  rw [h.len, hn, hv] at ho
  rcases ho.2 with ⟨h2, _⟩ | ⟨g', cap, cur, e, hB, hh, h3, h4, h5, h6⟩
  · cases h2
  injection e with e1 e2 e3
  injection e1 with e1
  injection e1 with e1
  subst e1 e3
  exact ⟨h3, h4, hB, fun j => Lib.frozen_of_heap hh j⟩
theorem cls_one : ∀ u ∈ ([.int .i64 3, .string ⟨#[]⟩, .string ⟨#[]⟩, .slice none 0 0, .string ⟨#[]⟩] : List Value), u.oneCell' = true := evC_one (x := (.cls, .slice none 0 0)) ⟨_, _, _, rfl⟩
theorem told_len (u : ByteArray) : (toldF u).length ≤ 1 := by unfold toldF; split <;> simp
set_option maxHeartbeats 4000000 in
set_option maxRecDepth 100000 in
theorem end_yes (h : RW B rb vw vo es s w) (he : s.err = 0) (k : Int) (m : ByteArray) (em bk : Bool) (n : Nat) (hn : s.op.length = n + 1) (hd : n ≤ 64) (hne : inner s = some m) :
    Calls Tryz.prog 24 #[.pointer (some ⟨rb, 0, none⟩), .agg #[.int .i64 k, .string m, .bool em, .bool bk]] w (TkP B rb (endT s ⟨k, m, em, bk⟩) (clr (endT s ⟨k, m, em, bk⟩).1) w) := by
  obtain ⟨i0, hi, hz0, hz1, hz2⟩ := info_parts Tryz.info33
  have HW := Lib.hid h
  have HR := Lib.hid (h.box (.cells #[.int .i64 k, .string m, .bool em, .bool bk] 41))
  have CD := Lib.hid (depth_any HR.out)
  have HX : Hid (endT s ⟨k, m, em, bk⟩ = ({ s with wait := Nz.em, op := s.op.dropLast }, toldF s.wait ++ [.cls], 0)) := Lib.hid (by unfold endT; rw [if_pos hne])
  obtain ⟨g, c, x, rfl, hx, x0, x1, ho, _⟩ := HR.out.inn hn
  obtain ⟨z1, z2, z3, z4⟩ := HR.out.cap hn rfl
  have c1 := HR.out.c1
  rw [hn] at CD
  have q1 : IntKind.i64.wrap (((n + 1 : Nat) : Int) - 1) = (n : Int) := by rw [IntWalk.i64_in _ (by omega)]; omega
  have q4 : IntKind.i64.wrap ((n : Int) + 1) = (n : Int) + 1 := by rw [IntWalk.i64_in _ (by omega)]
  have q3 : (x.1.1.toList == m.toList) = true := by
    unfold inner at hne
    rw [hx] at hne
    injection hne with hne
    have hne' : x.1.1 = m := hne
    rw [hne', beq_self_eq_true]
  have q2 : (x.1.1.toList != m.toList) = false := by rw [← Bool.not_eq_true, bne_iff_ne, Decidable.not_not]; exact beq_iff_eq.1 q3
  have d1 : ¬ (n : Int) < 0 := by omega
  have d2 : (0 : Int) ≤ (n : Int) := by omega
  have d3 : (n : Int) < (n : Int) + 1 := by omega
  have d4 : n < n + 1 := by omega
  have KD : Hid (∀ W : World, W.heap = (w.alloc (.cells #[.int .i64 k, .string m, .bool em, .bool bk] 41)).heap → Calls Tryz.prog 41 #[.slice (some ⟨g, 0, none⟩) (n + 1) c, .int .i64 (n : Int), .int .i64 ((n : Int) + 1)] W fun e w' => e = .returned (.slice (some ⟨g, 0, none⟩) n c) ∧ w' = ((W.drew.setCell ⟨g, n * 2, none⟩ (.string ⟨#[]⟩)).setCell ⟨g, n * 2 + 1, none⟩ (.slice none 0 0))) :=
    Lib.hid fun W hW => delete_any g n c (.string x.1.1) x.2 W hd z1 z2 (by unfold World.cell?; rw [hW]; exact x0) (by unfold World.cell?; rw [hW]; exact x1) (by unfold World.frozen?; rw [hW]; exact z4 _) (by unfold World.frozen?; rw [hW]; exact z4 _)
  have KS : Hid (∀ W : World, W.heap = (w.alloc (.cells #[.int .i64 k, .string m, .bool em, .bool bk] 41)).heap → _) := Lib.hid fun W hW => HR.out.strike hn rfl ((W.drew.setCell ⟨g, n * 2, none⟩ (.string ⟨#[]⟩)).setCell ⟨g, n * 2 + 1, none⟩ (.slice none 0 0)) (show ((W.drew.setCell ⟨g, n * 2, none⟩ (.string ⟨#[]⟩)).setCell ⟨g, n * 2 + 1, none⟩ (.slice none 0 0)).heap = _ by simp [World.setCell, World.drew, hW])
  clear h hne hx ho
  generalize x.1.1 = xn at *
  generalize endT s ⟨k, m, em, bk⟩ = y at *
  go_enter Tryz.func24, Tryz.ntmps24
  go_wp2_with fail
  refine CD.out.mono ?_
  rintro e w1 ⟨rfl, rfl⟩
  go_wp2_with fail
  go_quiet (fail)
  go_wp2_with fail
  have KD1 := Lib.hid (KD.out ((w.alloc (.cells #[.int .i64 k, .string m, .bool em, .bool bk] 41)).drewN nq) rfl)
  have KS1 := KS.out ((w.alloc (.cells #[.int .i64 k, .string m, .bool em, .bool bk] 41)).drewN nq) rfl
  have HB1 := Lib.hid (below_drewN (bel_box HW.out (.cells #[.int .i64 k, .string m, .bool em, .bool bk] 41)) nq)
  have HF1 := Lib.hid (show Frm w ((w.alloc (.cells #[.int .i64 k, .string m, .bool em, .bool bk] 41)).drewN nq) from frm_box w _)
  clear KD KS x0 x1
  generalize (w.alloc (.cells #[.int .i64 k, .string m, .bool em, .bool bk] 41)).drewN nq = W at *
  refine KD1.out.mono ?_
  rintro e w2 ⟨rfl, rfl⟩
  obtain ⟨b2, r2, f2, n2, o2, g2⟩ := KS1
  have d5 : ((W.drew.setCell ⟨g, n * 2, none⟩ (.string ⟨#[]⟩)).setCell ⟨g, n * 2 + 1, none⟩ (.slice none 0 0)).cell? ⟨rb, 1, none⟩ = some (.slice (some ⟨g, 0, none⟩) (n + 1) c) := by rw [Lib.cell_of_heap b2]; rfl
  have f5 : ((W.drew.setCell ⟨g, n * 2, none⟩ (.string ⟨#[]⟩)).setCell ⟨g, n * 2 + 1, none⟩ (.slice none 0 0)).frozen? ⟨rb, 1, none⟩ = false := Lib.frozen_of_heap b2 1
  have HR2 := Lib.hid r2
  have HF2 := Lib.hid ((frm_box w (.cells #[.int .i64 k, .string m, .bool em, .bool bk] 41)).trans f2)
  have HB2 := Lib.hid (((HB1.out.drew.setCell (p := ⟨g, n * 2, none⟩) z3 (.string ⟨#[]⟩)).setCell (p := ⟨g, n * 2 + 1, none⟩) z3 (.slice none 0 0)).setCell (p := ⟨rb, 1, none⟩) HW.out.lo (.slice (some ⟨g, 0, none⟩) n c))
  have CT := Lib.hid (tell_any r2)
  clear b2 r2 f2 n2 o2 KD1 HR CD
  generalize hV : (W.drew.setCell ⟨g, n * 2, none⟩ (.string ⟨#[]⟩)).setCell ⟨g, n * 2 + 1, none⟩ (.slice none 0 0) = V at *
  clear hV
  go_wp2_with fail
  refine CT.out.mono ?_
  rintro e w3 ⟨v3, vw3, rfl, e3, r3, f3, l3⟩
  have CC := Lib.hid (closes_any w3)
  go_wp2_with fail
  refine CC.out.mono ?_
  rintro e w4 ⟨rfl, b4⟩
  obtain ⟨ts, t1, t2, t3⟩ := e3
  have tl := told_len s.wait
  rw [← t1, List.length_map] at tl
  have hs2 : w.heap.size ≤ (V.setCell ⟨rb, 1, none⟩ (.slice (some ⟨g, 0, none⟩) n c)).heap.size := HB2.out.size
  have hA := (Below.refl w4.heap.size w4).alloc (Nat.le_refl _) (.cells #[.int .i64 3, .string ⟨#[]⟩, .string ⟨#[]⟩, .slice none 0 0, .string ⟨#[]⟩] 33)
  have b5 : Below w3.heap.size w3 (w4.alloc (.cells #[.int .i64 3, .string ⟨#[]⟩, .string ⟨#[]⟩, .slice none 0 0, .string ⟨#[]⟩] 33)) := b4.trans (hA.mono b4.size)
  have ho5 := own_mono (Nz.Sc.own_keep t2 b5) hs2
  have hO5 := Lib.hid ((t3.frm (Frm.of_below b5)).mono hs2)
  have R5 := Lib.hid (r3.after b5)
  have F5 := Lib.hid ((HF2.out.trans f3).trans (Frm.of_below b5))
  have L5 := Lib.hid ((HB2.out.trans l3).trans (b5.mono (Nat.le_trans HW.out.siz (Nat.le_trans HB2.out.size l3.size))))
  have hnew := Lib.hid (Nz.Sc.new_cells w4 #[.int .i64 3, .string ⟨#[]⟩, .string ⟨#[]⟩, .slice none 0 0, .string ⟨#[]⟩] 33)
  have hz5 : w.heap.size ≤ (w4.alloc (.cells #[.int .i64 3, .string ⟨#[]⟩, .string ⟨#[]⟩, .slice none 0 0, .string ⟨#[]⟩] 33)).heap.size := L5.out.size
  have HT := Lib.hid t1
  obtain ⟨A3, c3, rfl⟩ := Nz.Sc.own_slice t2
  obtain ⟨nt, hnt⟩ : ∃ nt, nt = ts.length := ⟨_, rfl⟩
  have HNT := Lib.hid hnt
  rw [← hnt] at tl ho5 ⊢
  clear t1 t2 t3 hnt b4 b5 hA f3 l3 r3 CT CC HR2 HF2 HB2 HB1 HF1
  go_wp2_with (at_builtin; refine wpList_append_own _ rfl _ _ 23 rfl w.heap.size 33 i0 (.agg #[.int .i64 0, .string ⟨#[]⟩, .string ⟨#[]⟩, .slice none 0 0, .string ⟨#[]⟩]) 5 80 Tryz.underlying23 hi hz0 hz1 hz2 rfl (by decide) _ nt (evL ts) rfl ho5 ⟨w4.heap.size, 0, none⟩ 1 1 [.int .i64 3, .string ⟨#[]⟩, .string ⟨#[]⟩, .slice none 0 0, .string ⟨#[]⟩] rfl rfl hnew.out cls_one (by unfold maxLen; omega) (by omega) hz5 ?_)
  intro v' w5 hown' hgrow _
  obtain ⟨g', cap', rfl⟩ := Nz.Sc.own_shape hown'
  rw [HNT.out] at ho5 hown' hgrow
  have he6 := ev_put (x := .cls) (va := .slice none 0 0) HT.out ho5 hO5.out (ownT_nil _ _) hgrow hown'
  rw [← HNT.out] at he6
  have HE := Lib.hid he6
  have HR6 := Lib.hid (R5.out.grown ho5 hgrow)
  have HF6 := Lib.hid (F5.out.fresh hz5 ho5 hgrow)
  have HL6 := Lib.hid (L5.out.grown hgrow (Nat.le_trans HW.out.siz hz5) (fun j hj => Nat.le_trans HW.out.siz (World.ownsRow.lt ho5 j hj).1))
  clear he6 ho5 hO5 hown' hgrow R5 F5 L5 hnew
  go_wp2
  go_ret2
  refine ⟨_, by rw [HX.out]; rfl, by rw [HX.out]; exact HE.out, ?_, HF6.out, HL6.out⟩
  rw [HX.out]
  exact ⟨_, _, _, (clr_self { s with wait := Nz.em, op := s.op.dropLast } he).symm ▸ HR6.out⟩
end
end Go.Proofs.YtkeilgompipfjaaGreatDoor.Wl

/- The walk of well's start. -/
set_option linter.unusedSimpArgs false
set_option linter.unusedVariables false
namespace Go.Proofs.YtkeilgompipfjaaGreatDoor.Wl
open Go.RowKit

/-- Sizes of what is open. -/
structure Gd (s : St) : Prop where
  dep : s.op.length ≤ 64
  len : ∀ (k : Nat) (x : ByteArray × List Pr), s.op[k]? = some x → x.2.length ≤ 1 + 32 * (k + 1) ∧ Nz.Sc.LimL x.2
theorem gd0 : Gd st0 := ⟨by decide, fun k x h => by simp [st0] at h⟩
theorem lim0 : Nz.Sc.LimL bind0 := by
  intro x hx
  unfold bind0 at hx
  rw [List.mem_singleton] at hx
  subst hx
  exact ⟨by decide, by decide⟩
theorem Gd.scp {s : St} (h : Gd s) : (scpF s).length ≤ 1 + 32 * s.op.length ∧ Nz.Sc.LimL (scpF s) := by
  unfold scpF
  cases hl : s.op.getLast? with
  | none => exact ⟨by show 1 ≤ _; omega, lim0⟩
  | some x =>
    rw [List.getLast?_eq_getElem?] at hl
    have := h.len _ _ hl
    have hlt := (List.getElem?_eq_some_iff.1 hl).1
    exact ⟨by show x.2.length ≤ _; omega, this.2⟩
/-- Sizes of a tag. -/
theorem par_lim {u : ByteArray} (h : (Tg.parF u).1 = 0) (hu : u.size ≤ 10000) : (Tg.parF u).2.1.size ≤ 10000 ∧ (Tg.parF u).2.2.length ≤ 32 ∧ Nz.Sc.LimL (Tg.parF u).2.2 ∧ ∀ x ∈ (Tg.parF u).2.2, x.1.size ≤ 10000 := by
  obtain ⟨h1, h2, h3⟩ := Tg.par_I u h
  refine ⟨by omega, h1.2.1, fun x hx => ?_, fun x hx => by have := (h3 x hx).1; omega⟩
  have := h3 x hx
  unfold Nz.Sc.Lim
  omega
section
variable {B rb : Nat} {vw vo : Value} {es : List OpP} {s : St} {w w' : World}
set_option maxHeartbeats 4000000 in
set_option maxRecDepth 100000 in
theorem start_11 (h : RW B rb vw vo es s w) (he : s.err = 0) (k : Int) (m : ByteArray) (em bk : Bool) (hr : s.root = true) (hn : s.op = []) :
    Calls Tryz.prog 23 #[.pointer (some ⟨rb, 0, none⟩), .agg #[.int .i64 k, .string m, .bool em, .bool bk]] w (TkP B rb (startT s ⟨k, m, em, bk⟩) (clr (startT s ⟨k, m, em, bk⟩).1) w) := by
  have HW := Lib.hid h
  have HR := Lib.hid (h.box (.cells #[.int .i64 k, .string m, .bool em, .bool bk] 41))
  have CD := Lib.hid (depth_any HR.out)
  have HX : Hid (startT s ⟨k, m, em, bk⟩ = bad s 11) := Lib.hid (by unfold startT; rw [if_pos ⟨hr, hn⟩])
  have c2 := HR.out.c2
  rw [hr] at c2
  have k0 : s.op.length = 0 := by rw [hn]; rfl
  rw [k0] at CD
  clear h hn
  generalize startT s ⟨k, m, em, bk⟩ = x at *
  go_enter Tryz.func23, Tryz.ntmps23
  go_wp2_with fail
  refine CD.out.mono ?_
  rintro e w1 ⟨rfl, rfl⟩
  go_wp2
  go_ret2
  exact tkp_bad HX.out he HR.out (frm_box w _) (bel_box HW.out _)
/-- parse's answer, the tag in its box. -/
theorem RW.call (h : RW B rb vw vo es s w) (hb : Below w.heap.size w w') : Below B w w' := hb.mono h.siz
set_option maxHeartbeats 4000000 in
set_option maxRecDepth 100000 in
theorem start_par (h : RW B rb vw vo es s w) (hG : Gl w) (he : s.err = 0) (k : Int) (m : ByteArray) (em bk : Bool) (hm : m.size ≤ 10000) (hd : s.op.length ≤ 64) (hr : ¬ (s.root = true ∧ s.op = [])) (hp : (Tg.parF m).1 ≠ 0) :
    Calls Tryz.prog 23 #[.pointer (some ⟨rb, 0, none⟩), .agg #[.int .i64 k, .string m, .bool em, .bool bk]] w (TkP B rb (startT s ⟨k, m, em, bk⟩) (clr (startT s ⟨k, m, em, bk⟩).1) w) := by
  have HW := Lib.hid h
  have HR := Lib.hid (h.box (.cells #[.int .i64 k, .string m, .bool em, .bool bk] 41))
  have CD := Lib.hid (depth_any HR.out)
  have HX : Hid (startT s ⟨k, m, em, bk⟩ = bad s (Tg.parF m).1) := Lib.hid (by unfold startT; rw [if_neg hr, if_pos hp])
  have CP := Lib.hid (Tg.tparse_any m (w.alloc (.cells #[.int .i64 k, .string m, .bool em, .bool bk] 41)) (hG.alloc _).vars (by omega))
  have c2 := HR.out.c2
  have t1 : ((Tg.parF m).1 != 0) = true := bne_iff_ne.2 hp
  have hq : s.root = true → ((s.op.length : Int) == 0) = false := fun e => by
    rw [beq_eq_false_iff_ne]
    intro e2
    exact hr ⟨e, List.eq_nil_of_length_eq_zero (by omega)⟩
  clear h hp hr hG
  generalize startT s ⟨k, m, em, bk⟩ = y at *
  generalize s.op.length = n at *
  generalize Tg.parF m = q at *
  obtain ⟨er, pn, pa⟩ := q
  dsimp only at t1 HX
  cases hroot : s.root
  · rw [hroot] at c2
    go_enter Tryz.func23, Tryz.ntmps23
    go_wp2_with fail
    refine CP.out.mono ?_
    rintro e w1 ⟨v, rfl, ho, hb⟩
    obtain ⟨A2, m2, k2, rfl⟩ := own_slc ho
    have HR1 := Lib.hid (HR.out.after hb)
    have HB1 := Lib.hid ((bel_box HW.out (.cells #[.int .i64 k, .string m, .bool em, .bool bk] 41)).trans (HR.out.call hb))
    have HF1 := Lib.hid ((frm_box w (.cells #[.int .i64 k, .string m, .bool em, .bool bk] 41)).trans (Frm.of_below hb))
    clear hb ho CP CD c2 HR
    dsimp only
    go_wp2
    go_ret2
    exact tkp_bad HX.out he (HR1.out.box _) (HF1.out.trans (frm_box w1 _)) (HB1.out.trans (bel_box HR1.out _))
  · rw [hroot] at c2
    have hq1 := hq hroot
    go_enter Tryz.func23, Tryz.ntmps23
    go_wp2_with fail
    refine CD.out.mono ?_
    rintro e w1 ⟨rfl, rfl⟩
    go_wp2_with fail
    refine CP.out.mono ?_
    rintro e w1 ⟨v, rfl, ho, hb⟩
    obtain ⟨A2, m2, k2, rfl⟩ := own_slc ho
    have HR1 := Lib.hid (HR.out.after hb)
    have HB1 := Lib.hid ((bel_box HW.out (.cells #[.int .i64 k, .string m, .bool em, .bool bk] 41)).trans (HR.out.call hb))
    have HF1 := Lib.hid ((frm_box w (.cells #[.int .i64 k, .string m, .bool em, .bool bk] 41)).trans (Frm.of_below hb))
    clear hb ho CP CD c2 HR
    dsimp only
    go_wp2
    go_ret2
    exact tkp_bad HX.out he (HR1.out.box _) (HF1.out.trans (frm_box w1 _)) (HB1.out.trans (bel_box HR1.out _))
end
end Go.Proofs.YtkeilgompipfjaaGreatDoor.Wl
