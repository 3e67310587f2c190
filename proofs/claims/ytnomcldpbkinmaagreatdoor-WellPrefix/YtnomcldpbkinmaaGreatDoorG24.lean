/-
  Merged by program out of the texts WlStart3 of one seat.
-/
import Derived.Test.YtnomcldpbkinmaaGreatDoorG23

/- The walk of well's start where an element opens. (Made by a generator.) -/
set_option linter.unusedSimpArgs false
set_option linter.unusedVariables false
namespace Go.Proofs.YtnomcldpbkinmaaGreatDoor.Wl
open Go.RowKit

section
variable {B rb : Nat} {vw vo : Value} {es : List OpP} {s : St} {w w' : World}
/-- The walk's memory but for the reader: the boxes of the token, the tag and the event; the scope, the attributes. -/
structure BX (B : Nat) (w : World) (tk : Array Value) (tb : Nat) (tg : Array Value) (b : Nat) (ev : Array Value) (vW : Value) (Ws : List Pr) (vF : Value) (ff : List Tr) (W : World) : Prop where
  frm : Frm w W
  bel : Below B w W
  tok : W.heap[w.heap.size]? = some (.cells tk 42 (0, 0))
  tag : W.heap[tb]? = some (.cells tg 53 (0, 0))
  ev : W.heap[b]? = some (.cells ev 50 (0, 0))
  pb : Nz.Sc.OwnP 75 W w.heap.size vW Ws
  at_ : Nz.Sc.OwnT W w.heap.size vF ff
  siz : B ≤ w.heap.size
section
variable {tk tg ev : Array Value} {tb b : Nat} {vW vF : Value} {Ws : List Pr} {ff : List Tr} {W W' : World}
theorem BX.size (h : BX B w tk tb tg b ev vW Ws vF ff W) : w.heap.size ≤ W.heap.size := Nat.le_of_lt (Array.getElem?_eq_some_iff.1 h.tok).1
theorem BX.frm2 (h : BX B w tk tb tg b ev vW Ws vF ff W) (hf : Frm W W') (hb : Below B W W') : BX B w tk tb tg b ev vW Ws vF ff W' :=
  ⟨h.frm.trans hf, h.bel.trans hb, hf _ _ _ _ h.tok (by decide) (by decide) (by decide), hf _ _ _ _ h.tag (by decide) (by decide) (by decide), hf _ _ _ _ h.ev (by decide) (by decide) (by decide), own_frm h.pb hf (by decide) (by decide) (by decide), own_frm h.at_ hf (by decide) (by decide) (by decide), h.siz⟩
theorem BX.keep (h : BX B w tk tb tg b ev vW Ws vF ff W) (hb : Below W.heap.size W W') : BX B w tk tb tg b ev vW Ws vF ff W' := h.frm2 (Frm.of_below hb) (hb.mono (Nat.le_trans h.siz h.size))
theorem BX.app (h : BX B w tk tb tg b ev vW Ws vF ff W) {S n : Nat} {v : Value} {xs : List Value} (ho : W.ownsRow S 50 5 v n xs) (hS : b < S) (hw : w.heap.size ≤ S) (hg : W.grownBy W' v.ownBlock) : BX B w tk tb tg b ev vW Ws vF ff W' :=
  ⟨h.frm.fresh h.size (own_mono ho hw) hg, h.bel.grown hg (Nat.le_trans h.siz h.size) (fun j hj => Nat.le_trans (Nat.le_trans h.siz hw) (World.ownsRow.lt ho j hj).1), (hg.block _ (Array.getElem?_eq_some_iff.1 h.tok).1 (fun e => Nz.Sc.own_ne ho h.tok (by decide) e.symm)).trans h.tok,
    (hg.block _ (Array.getElem?_eq_some_iff.1 h.tag).1 (fun e => Nz.Sc.own_ne ho h.tag (by decide) e.symm)).trans h.tag, (hg.block _ (Array.getElem?_eq_some_iff.1 h.ev).1 (fun e => by have := (World.ownsRow.lt ho b e.symm).1; omega)).trans h.ev, own_grown h.pb ho hg (by decide), own_grown h.at_ ho hg (by decide), h.siz⟩
theorem SA.bx {nm : ByteArray} {A2 : Option Addr} {M c2 : Nat} {R : List Pr} (h : SA B rb vw vo es s w tk tb nm A2 M c2 R W) (he : W.heap[b]? = some (.cells ev 50 (0, 0))) (hp : Nz.Sc.OwnP 75 W w.heap.size vW Ws) (ht : Nz.Sc.OwnT W w.heap.size vF ff) (hB : B ≤ w.heap.size) : BX B w tk tb #[.string nm, .slice A2 M c2] b ev vW Ws vF ff W :=
  ⟨h.frm, h.bel, h.tok, h.tag, he, hp, ht, hB⟩
theorem bx_c {a0 a1 a2 a3 a4 : Value} (h : BX B w tk tb tg b #[a0, a1, a2, a3, a4] vW Ws vF ff W) : W.cell? ⟨b, 0, none⟩ = some a0 ∧ W.cell? ⟨b, 1, none⟩ = some a1 ∧ W.cell? ⟨b, 2, none⟩ = some a2 ∧ W.cell? ⟨b, 3, none⟩ = some a3 ∧ W.cell? ⟨b, 4, none⟩ = some a4 :=
  ⟨Nz.Sc.cells_of h.ev 0 rfl, Nz.Sc.cells_of h.ev 1 rfl, Nz.Sc.cells_of h.ev 2 rfl, Nz.Sc.cells_of h.ev 3 rfl, Nz.Sc.cells_of h.ev 4 rfl⟩
theorem put7 {na nb u : ByteArray} {AF : Option Addr} {nF cF S : Nat} {v v7 : Value} {ts : List EvP} (h : BX B w tk tb tg b ev vW Ws (.slice AF nF cF) ff W) (h1 : ts.map (·.1) = toldF u) (ho : W.ownsRow S 50 5 v ts.length (evL ts)) (hS : w.heap.size ≤ S) (hO : EvO W w.heap.size ts) (hg : W.grownBy W' v.ownBlock)
    (hn : W'.ownsRow S 50 5 v7 (ts.length + 1) (evL ts ++ [.int .i64 1, .string na, .string nb, .slice AF nF cF, .string ⟨#[]⟩])) : EvOwn W' w.heap.size v7 (toldF u ++ [.opn (na, nb) ff]) :=
  ev_put (x := .opn (na, nb) ff) (va := .slice AF nF cF) h1 (own_mono ho hS) hO h.at_ hg (own_mono hn hS)
end
theorem len_of {W : World} {e : TypeId} {z n m c S : Nat} {A : Option Addr} {xs : List Value} (h : W.ownsRow S e z (.slice A n c) m xs) : n = m := by
  obtain ⟨A', c', q⟩ := Nz.Sc.own_slice h
  injection q
theorem new_of {W : World} {a : Nat} {cs : Array Value} {T : TypeId} {fr : Nat × Nat} (h : W.heap[a]? = some (.cells cs T fr)) : ∀ j u, cs.toList[j]? = some u → W.cell? ((⟨a, 0, none⟩ : Addr).add j) = some u := fun j u hu => by
  rw [Addr.add_lit, Nat.zero_add, Lib.cell_of_heap h]
  simpa using hu
theorem opn_one (na nb : ByteArray) (A : Option Addr) (n c : Nat) : ∀ u ∈ ([.int .i64 1, .string na, .string nb, .slice A n c, .string ⟨#[]⟩] : List Value), u.oneCell' = true := evC_one (x := (.opn (na, nb) [], .slice A n c)) ⟨_, _, _, rfl⟩
/-- Behind an append to what is open. -/
theorem RW.push {W w9 : World} (h : RW B rb vw vo es s W) {v' vW : Value} {nm : ByteArray} {Ws : List Pr} (hW : Nz.Sc.OwnP 75 W B vW Ws) (ho : w9.ownsRow B 118 2 v' (es.length + 1) (opL es ++ [.string nm, vW])) (hg : W.grownBy w9 vo.ownBlock) :
    w9.heap[rb]? = some (.cells #[vw, vo, .bool s.root, .bool s.over, .int .i64 s.err] 70 (0, 0)) ∧ RW B rb vw v' (es ++ [((nm, Ws), vW)]) { s with op := s.op ++ [(nm, Ws)] } (w9.setCell ⟨rb, 1, none⟩ v') ∧ Frm W (w9.setCell ⟨rb, 1, none⟩ v') ∧ Below B W (w9.setCell ⟨rb, 1, none⟩ v') := by
  have b2 := (hg.block rb h.lt (fun e => Nz.Sc.own_ne h.op h.blk (by decide) e.symm)).trans h.blk
  have hf := Frm.grown hg h.op (.inr (.inr rfl))
  have hs := Frm.set b2 (.inr (.inl rfl)) 1 v'
  have hb : Below B W w9 := (Below.refl B W).grown hg h.siz (fun k hk => (World.ownsRow.lt h.op k hk).1)
  refine ⟨b2, ⟨h.lo, by rw [set_blk b2]; rfl, Wl.own_set (own_grown h.wt h.op hg (by decide)) b2 (by decide) 1 v', by rw [List.map_append, h.eq]; rfl, ?_, ?_, by simpa [World.setCell] using Nat.le_trans h.siz hg.size⟩, hf.trans hs, hb.setCell (p := ⟨rb, 1, none⟩) h.lo v'⟩
  · refine Wl.own_set ?_ b2 (by decide) 1 v'
    rw [opL_app, List.length_append]
    exact ho
  · intro x hx
    rcases List.mem_append.1 hx with hx | hx
    · exact own_frm (own_frm (h.own x hx) hf (by decide) (by decide) (by decide)) hs (by decide) (by decide) (by decide)
    · rw [List.mem_singleton] at hx
      subst hx
      exact own_frm (own_frm hW hf (by decide) (by decide) (by decide)) hs (by decide) (by decide) (by decide)
theorem Tryz.info118 : (Tryz.prog.info? 118).map (fun i => (i.zero, i.size, i.bytes)) = some (some (.agg #[.string ⟨#[]⟩, .slice none 0 0]), 2, 40) := by kernel_rfl
theorem op_one (nm : ByteArray) (A : Option Addr) (n c : Nat) : ∀ u ∈ ([.string nm, .slice A n c] : List Value), u.oneCell' = true := by
  intro u hu
  simp only [List.mem_cons, List.not_mem_nil, or_false] at hu
  rcases hu with rfl | rfl <;> rfl
set_option maxHeartbeats 8000000 in
set_option maxRecDepth 100000 in
theorem start_empty (h : RW B rb vw vo es s w) (hG : Gl w) (he : s.err = 0) (k : Int) (m : ByteArray) (bk : Bool) (hm : m.size ≤ 10000) (hgd : Gd s) (hr : ¬ (s.root = true ∧ s.op = [])) (hp : (Tg.parF m).1 = 0) (Ws : List Pr) (na nb : ByteArray) (ff : List Tr) (ho : Nz.Sc.entF (scpF s) (Tg.parF m).2.1 (Tg.parF m).2.2 = .ok (Ws, (na, nb), ff)) (h64 : s.op.length < 64) :
    Calls Tryz.prog 39 #[.pointer (some ⟨rb, 0, none⟩), .agg #[.int .i64 k, .string m, .bool true, .bool bk]] w (TkP B rb (startT s ⟨k, m, true, bk⟩) (clr (startT s ⟨k, m, true, bk⟩).1) w) := by
  obtain ⟨i0, hi, hz0, hz1, hz2⟩ := info_parts Tryz.info50
  have HW := Lib.hid h
  have HR := Lib.hid (h.box (.cells #[.int .i64 k, .string m, .bool true, .bool bk] 42))
  have CD := Lib.hid (depth_any HR.out)
  have HX : Hid (startT s ⟨k, m, true, bk⟩ = ({ s with wait := Nz.em, root := true }, toldF s.wait ++ [.opn (na, nb) ff, .cls], 0)) := Lib.hid (by unfold startT; rw [if_neg hr, if_neg (Decidable.not_not.2 hp), ho]; show (if 64 ≤ s.op.length then _ else _) = _; rw [if_neg (by omega)]; rfl)
  have CP := Lib.hid (Tg.tparse_any m (w.alloc (.cells #[.int .i64 k, .string m, .bool true, .bool bk] 42)) (hG.alloc _).vars (by omega))
  have c2 := HR.out.c2
  have hq : s.root = true → ((s.op.length : Int) == 0) = false := fun e => by
    rw [beq_eq_false_iff_ne]
    intro e2
    exact hr ⟨e, List.eq_nil_of_length_eq_zero (by omega)⟩
  obtain ⟨pl1, pl2, pl3, pl4⟩ := par_lim hp hm
  obtain ⟨sl1, sl2⟩ := hgd.scp
  have hdp := hgd.dep
  have CB : Hid (∀ W, RW B rb vw vo es s W → Calls Tryz.prog 61 #[.pointer (some ⟨rb, 0, none⟩)] W (fun e w' => ∃ v, e = .returned v ∧ Nz.Sc.OwnP 75 w' B v (scpF s) ∧ Below W.heap.size W w')) := Lib.hid fun W hW => bind_any hW hgd.dep
  have CE : Hid (∀ (W : World) (v : Value) (A2 : Option Addr) (M c2 : Nat), Nz.Sc.OwnP 75 W B v (scpF s) → Nz.Sc.RdR W A2 (Tg.parF m).2.2 → M = (Tg.parF m).2.2.length → Calls Tryz.prog 60 #[v, .agg #[.string (Tg.parF m).2.1, .slice A2 M c2]] W (Nz.Sc.EnPost W (Nz.Sc.entF (scpF s) (Tg.parF m).2.1 (Tg.parF m).2.2))) := Lib.hid fun W v A2 M c2 hv hR hM => by
    obtain ⟨A, c, hv1, hv2, _⟩ := Nz.Sc.own_rdR hv
    rw [hv1]
    exact Nz.Sc.enter_any c c2 ⟨rfl, hM, by omega, by omega, pl1, sl2, pl3, pl4, hv2, hR⟩
  rw [ho] at CE
  clear h hr hG pl1 pl3 pl4 sl1 sl2 hgd
  generalize startT s ⟨k, m, true, bk⟩ = y at *
  generalize scpF s = L at *
  obtain ⟨n, hn⟩ : ∃ n, n = s.op.length := ⟨_, rfl⟩
  have HN := Lib.hid hn
  rw [← hn] at CD hq hdp h64
  clear hn
  revert CP
  generalize Tg.parF m = q at *
  obtain ⟨er, pn, R⟩ := q
  dsimp only at ho HX CE pl2 hp ⊢
  intro CP
  subst hp
  cases hroot : s.root
  all_goals
    rw [hroot] at c2
    have hq1 := hq
    rw [hroot] at hq1
    try have hq2 := hq1 rfl
    clear hq1 hq
    go_enter Tryz.func39, Tryz.ntmps39
    go_wp2_with fail
    try (refine CD.out.mono ?_; rintro e w1 ⟨rfl, rfl⟩; go_wp2_with fail)
    refine CP.out.mono ?_
    rintro e w1 ⟨v1, rfl, ho1, hb1⟩
    obtain ⟨A2, c2', hv1, hR1⟩ := Tg.own_rdR ho1
    obtain ⟨M, hM⟩ : ∃ M, M = R.length := ⟨_, rfl⟩
    have hv2 : v1 = .slice A2 M c2' := by rw [hv1, hM]
    subst hv2
    have ho2 : w1.ownsRow (w.alloc (.cells #[.int .i64 k, .string m, .bool true, .bool bk] 42)).heap.size 81 2 (.slice A2 M c2') R.length (Nz.Sc.rwL R) := ho1
    rw [← hM] at ho2
    have hs1 : w.heap.size < w1.heap.size := by have := hb1.size; simp at this; omega
    have HS := Lib.hid (show SA B rb vw vo es s w #[.int .i64 k, .string m, .bool true, .bool bk] w1.heap.size pn A2 M c2' R (w1.alloc (.cells #[.string pn, .slice A2 M c2'] 53)) from
      ⟨(HR.out.after hb1).box _, own_mono (Nz.Sc.own_keep ho2 ((Below.refl _ w1).alloc (Nat.le_refl _) _)) (by rw [World.size_alloc]; omega), ((frm_box w _).trans (Frm.of_below hb1)).trans (frm_box w1 _), ((bel_box HW.out _).trans (HR.out.call hb1)).trans (bel_box (HR.out.after hb1) _),
        (Below.heap_alloc _ _ _ hs1).trans ((hb1.block w.heap.size (by simp)).trans (Nz.Sc.nblk w 42 _)), Nz.Sc.nblk w1 53 _, hs1⟩)
    have HM := Lib.hid hM
    clear hM hv1 hR1 ho1 ho2 hb1 CP CD c2 HR
    dsimp only
    go_wp2_with fail
    generalize w1.heap.size = p at *
    generalize w1.alloc (.cells #[.string pn, .slice A2 M c2'] 53) = V0 at *
    have HBs := HW.out.siz
    have H0d := Lib.hid (HS.out.keep (Below.refl _ V0).drew)
    have H0a := Lib.hid (HS.out.keep ((Below.refl _ V0).alloc (Nat.le_refl _) (.cells #[.int .i64 0, .string ⟨#[]⟩, .string ⟨#[]⟩, .slice none 0 0, .string ⟨#[]⟩] 50)))
    have H0ad := Lib.hid (HS.out.keep ((Below.refl _ V0).alloc (Nat.le_refl _) (.cells #[.int .i64 0, .string ⟨#[]⟩, .string ⟨#[]⟩, .slice none 0 0, .string ⟨#[]⟩] 50)).drew)
    have E0 := Lib.hid (Nz.Sc.nblk V0 50 #[.int .i64 0, .string ⟨#[]⟩, .string ⟨#[]⟩, .slice none 0 0, .string ⟨#[]⟩])
    have lv := HS.out.lt
    have lt0 : V0.heap.size < (V0.alloc (.cells #[.int .i64 0, .string ⟨#[]⟩, .string ⟨#[]⟩, .slice none 0 0, .string ⟨#[]⟩] 50)).drew.heap.size := by show V0.heap.size < (V0.alloc _).heap.size; simp
    go_region_held3 (fun W => W.cell? ⟨p, 0, none⟩ = some (.string pn) ∧ W.cell? ⟨p, 1, none⟩ = some (.slice A2 M c2') ∧ Hid (SA B rb vw vo es s w #[.int .i64 k, .string m, .bool true, .bool bk] p pn A2 M c2' R W))
      (first
        | with_reducible exact ⟨HS.out.t0, HS.out.t1, HS⟩
        | with_reducible exact ⟨H0d.out.t0, H0d.out.t1, H0d⟩
        | with_reducible exact ⟨H0a.out.t0, H0a.out.t1, H0a⟩
        | with_reducible exact ⟨H0ad.out.t0, H0ad.out.t1, H0ad⟩
        | (go_split_ands; with_reducible exact ⟨by assumption, by assumption, by assumption⟩)
        | with_reducible exact ⟨(H5.out.keep ((Below.refl _ w5).alloc (Nat.le_refl _) _)).t0, (H5.out.keep ((Below.refl _ w5).alloc (Nat.le_refl _) _)).t1, Lib.hid (H5.out.keep ((Below.refl _ w5).alloc (Nat.le_refl _) _))⟩
        | with_reducible exact ⟨(H5.out.set5 E5.out (by omega) HBs _ _ _ _ _).t0, (H5.out.set5 E5.out (by omega) HBs _ _ _ _ _).t1, Lib.hid (H5.out.set5 E5.out (by omega) HBs _ _ _ _ _)⟩
        | with_reducible exact ⟨(H4.out.keep ((Below.refl _ w4).alloc (Nat.le_refl _) _)).t0, (H4.out.keep ((Below.refl _ w4).alloc (Nat.le_refl _) _)).t1, Lib.hid (H4.out.keep ((Below.refl _ w4).alloc (Nat.le_refl _) _))⟩
        | fail)
      (first
        | (go_at_call 61; with_reducible refine (CB.out _ (H0d.out.rw)).mono ?_; rintro e w4 ⟨v4, rfl, ho4, hb4⟩; have H4 := Lib.hid (H0d.out.keep hb4); have q0 := H4.out.t0; have q1 := H4.out.t1; have O4 := Lib.hid ho4; have l4 := H4.out.lt; clear ho4 hb4)
        | (go_at_call 61; refine (CB.out _ (H0ad.out.rw)).mono ?_; rintro e w4 ⟨v4, rfl, ho4, hb4⟩; have H4 := Lib.hid (H0ad.out.keep hb4); have q0 := H4.out.t0; have q1 := H4.out.t1; have O4 := Lib.hid ho4; have l4 := H4.out.lt; have E4 := Lib.hid ((hb4.block V0.heap.size lt0).trans E0.out); clear ho4 hb4)
        | (go_at_call 60; refine (CE.out w4 v4 A2 M c2' O4.out (H4.out.rdr HM.out) HM.out).mono ?_; rintro e w5 ⟨g5, g5', hb5⟩; obtain ⟨v5, va5, g6, P5, T5⟩ := g5' Ws (na, nb) ff rfl; unfold Nz.Sc.evV at g6; dsimp only at g6; obtain ⟨AW, cW, rfl⟩ := Nz.Sc.own_slice P5; obtain ⟨AF, cF, rfl⟩ := Nz.Sc.own_slice T5; subst g6; have P6 := Lib.hid P5; have T6 := Lib.hid T5; clear g5 g5' P5 T5; have H5 := Lib.hid (H4.out.keep hb5); have E5 := Lib.hid ((hb5.block V0.heap.size (Array.getElem?_eq_some_iff.1 E4.out).1).trans E4.out); have z0 := Nz.Sc.cells_of E5.out 0 (u := .int .i64 0) rfl; have z1 := Nz.Sc.cells_of E5.out 1 (u := .string ⟨#[]⟩) rfl; have z2 := Nz.Sc.cells_of E5.out 2 (u := .string ⟨#[]⟩) rfl; have z3 := Nz.Sc.cells_of E5.out 3 (u := .slice none 0 0) rfl; have z4 := Nz.Sc.cells_of E5.out 4 (u := .string ⟨#[]⟩) rfl; have f0 := Nz.Sc.froz_of E5.out 0; have f1 := Nz.Sc.froz_of E5.out 1; have f2 := Nz.Sc.froz_of E5.out 2; have f3 := Nz.Sc.froz_of E5.out 3; have f4 := Nz.Sc.froz_of E5.out 4; have r0 := H5.out.t0; have r1 := H5.out.t1; have l5 := H5.out.lt; clear hb5)
        | (go_at_call 60; refine (CE.out w4 v4 A2 M c2' O4.out (H4.out.rdr HM.out) HM.out).mono ?_; rintro e w5 ⟨g5, g5', hb5⟩; obtain ⟨v5, va5, g6, P5, T5⟩ := g5' Ws (na, nb) ff rfl; unfold Nz.Sc.evV at g6; dsimp only at g6; obtain ⟨AW, cW, rfl⟩ := Nz.Sc.own_slice P5; obtain ⟨AF, cF, rfl⟩ := Nz.Sc.own_slice T5; subst g6; have P6 := Lib.hid P5; have T6 := Lib.hid T5; clear g5 g5' P5 T5; have H5 := Lib.hid (H4.out.keep hb5); have r0 := H5.out.t0; have r1 := H5.out.t1; have l5 := H5.out.lt; clear hb5)
        | (go_at_call 60; refine (CE.out (w4.alloc (.cells #[.int .i64 0, .string ⟨#[]⟩, .string ⟨#[]⟩, .slice none 0 0, .string ⟨#[]⟩] 50)) v4 A2 M c2' (Nz.Sc.own_keep O4.out ((Below.refl _ w4).alloc (Nat.le_refl _) (.cells #[.int .i64 0, .string ⟨#[]⟩, .string ⟨#[]⟩, .slice none 0 0, .string ⟨#[]⟩] 50))) ((H4.out.keep ((Below.refl _ w4).alloc (Nat.le_refl _) (.cells #[.int .i64 0, .string ⟨#[]⟩, .string ⟨#[]⟩, .slice none 0 0, .string ⟨#[]⟩] 50))).rdr HM.out) HM.out).mono ?_; rintro e w5 ⟨g5, g5', hb5⟩; obtain ⟨v5, va5, g6, P5, T5⟩ := g5' Ws (na, nb) ff rfl; unfold Nz.Sc.evV at g6; dsimp only at g6; obtain ⟨AW, cW, rfl⟩ := Nz.Sc.own_slice P5; obtain ⟨AF, cF, rfl⟩ := Nz.Sc.own_slice T5; subst g6; have P6 := Lib.hid P5; have T6 := Lib.hid T5; clear g5 g5' P5 T5; have H5 := Lib.hid ((H4.out.keep ((Below.refl _ w4).alloc (Nat.le_refl _) (.cells #[.int .i64 0, .string ⟨#[]⟩, .string ⟨#[]⟩, .slice none 0 0, .string ⟨#[]⟩] 50))).keep hb5); have E5 := Lib.hid ((hb5.block w4.heap.size (by simp)).trans (Nz.Sc.nblk w4 50 #[.int .i64 0, .string ⟨#[]⟩, .string ⟨#[]⟩, .slice none 0 0, .string ⟨#[]⟩])); have z0 := Nz.Sc.cells_of E5.out 0 (u := .int .i64 0) rfl; have z1 := Nz.Sc.cells_of E5.out 1 (u := .string ⟨#[]⟩) rfl; have z2 := Nz.Sc.cells_of E5.out 2 (u := .string ⟨#[]⟩) rfl; have z3 := Nz.Sc.cells_of E5.out 3 (u := .slice none 0 0) rfl; have z4 := Nz.Sc.cells_of E5.out 4 (u := .string ⟨#[]⟩) rfl; have f0 := Nz.Sc.froz_of E5.out 0; have f1 := Nz.Sc.froz_of E5.out 1; have f2 := Nz.Sc.froz_of E5.out 2; have f3 := Nz.Sc.froz_of E5.out 3; have f4 := Nz.Sc.froz_of E5.out 4; have r0 := H5.out.t0; have r1 := H5.out.t1; have l5 := H5.out.lt; clear hb5)
        | fail)
    all_goals
      rename_i hHeld
      obtain ⟨-, -, SX⟩ := hHeld
      clear CB CE HS H0d H0a H0ad E0 lt0
      first
        | (have E6 : w5.heap[w4.heap.size]? = some (.cells #[.int .i64 0, .string ⟨#[]⟩, .string ⟨#[]⟩, .slice none 0 0, .string ⟨#[]⟩] 50 (0, 0)) := E5.out
           have EB := Lib.hid (Nz.Sc.set5 E6 (.int .i64 1) (.string na) (.string nb) (.slice AF ff.length cF) (.string ⟨#[]⟩))
           have gg := Nz.Sc.gro5 w5 w4.heap.size (.int .i64 1) (.string na) (.string nb) (.slice AF ff.length cF) (.string ⟨#[]⟩)
           have PB := Lib.hid (own_mono (B' := w.heap.size) (World.ownsRow.kept P6.out gg (.inr (Nz.Sc.own_ne P6.out E6 (by decide)))) (by first | omega | (simp; omega)))
           have TB := Lib.hid (own_mono (B' := w.heap.size) (World.ownsRow.kept T6.out gg (.inr (Nz.Sc.own_ne T6.out E6 (by decide)))) (by first | omega | (simp; omega)))
           have hbl : w.heap.size ≤ w4.heap.size := by omega
           clear gg E6 E5 z0 z1 z2 z3 z4 f0 f1 f2 f3 f4 P6 T6 H5 r0 r1 H4 q0 q1 O4
           generalize ((((w5.setCell ⟨w4.heap.size, 0, none⟩ (.int .i64 1)).setCell ⟨w4.heap.size, 1, none⟩ (.string na)).setCell ⟨w4.heap.size, 2, none⟩ (.string nb)).setCell ⟨w4.heap.size, 3, none⟩ (.slice AF ff.length cF)).setCell ⟨w4.heap.size, 4, none⟩ (.string ⟨#[]⟩) = V at *
           generalize w4.heap.size = b at *)
        | (have E6 : w5.heap[V0.heap.size]? = some (.cells #[.int .i64 0, .string ⟨#[]⟩, .string ⟨#[]⟩, .slice none 0 0, .string ⟨#[]⟩] 50 (0, 0)) := E5.out
           have EB := Lib.hid (Nz.Sc.set5 E6 (.int .i64 1) (.string na) (.string nb) (.slice AF ff.length cF) (.string ⟨#[]⟩))
           have gg := Nz.Sc.gro5 w5 V0.heap.size (.int .i64 1) (.string na) (.string nb) (.slice AF ff.length cF) (.string ⟨#[]⟩)
           have PB := Lib.hid (own_mono (B' := w.heap.size) (World.ownsRow.kept P6.out gg (.inr (Nz.Sc.own_ne P6.out E6 (by decide)))) (by first | omega | (simp; omega)))
           have TB := Lib.hid (own_mono (B' := w.heap.size) (World.ownsRow.kept T6.out gg (.inr (Nz.Sc.own_ne T6.out E6 (by decide)))) (by first | omega | (simp; omega)))
           have hbl : w.heap.size ≤ V0.heap.size := by omega
           clear gg E6 E5 z0 z1 z2 z3 z4 f0 f1 f2 f3 f4 P6 T6 H5 r0 r1 H4 q0 q1 O4
           generalize ((((w5.setCell ⟨V0.heap.size, 0, none⟩ (.int .i64 1)).setCell ⟨V0.heap.size, 1, none⟩ (.string na)).setCell ⟨V0.heap.size, 2, none⟩ (.string nb)).setCell ⟨V0.heap.size, 3, none⟩ (.slice AF ff.length cF)).setCell ⟨V0.heap.size, 4, none⟩ (.string ⟨#[]⟩) = V at *
           generalize V0.heap.size = b at *)
        | (fail_if_success (have E9 := E5.out)
           have EB := Lib.hid (Nz.Sc.nblk w5 50 #[.int .i64 1, .string na, .string nb, .slice AF ff.length cF, .string ⟨#[]⟩])
           have PB := Lib.hid (own_mono (B' := w.heap.size) (Nz.Sc.own_keep P6.out ((Below.refl _ w5).alloc (Nat.le_refl _) (.cells #[.int .i64 1, .string na, .string nb, .slice AF ff.length cF, .string ⟨#[]⟩] 50))) (by first | omega | (simp; omega)))
           have TB := Lib.hid (own_mono (B' := w.heap.size) (Nz.Sc.own_keep T6.out ((Below.refl _ w5).alloc (Nat.le_refl _) (.cells #[.int .i64 1, .string na, .string nb, .slice AF ff.length cF, .string ⟨#[]⟩] 50))) (by first | omega | (simp; omega)))
           have hbl : w.heap.size ≤ w5.heap.size := by omega
           clear P6 T6 H5 r0 r1 H4 q0 q1 O4
           generalize w5.alloc (.cells #[.int .i64 1, .string na, .string nb, .slice AF ff.length cF, .string ⟨#[]⟩] 50) = V at *
           generalize w5.heap.size = b at *)
        | fail
      have CDV := Lib.hid (depth_any SX.out.rw)
      rw [← HN.out] at CDV
      have t64 : ((n : Int) == 64) = false := by rw [beq_eq_false_iff_ne]; omega
      have c2V := SX.out.rw.c2
      have f2V := SX.out.rw.fz 2
      have R1 := Lib.hid (SX.out.rw.set2 true)
      have EB2 : V.heap[b]? = some (.cells #[.int .i64 1, .string na, .string nb, .slice AF ff.length cF, .string ⟨#[]⟩] 50 (0, 0)) := EB.out
      have PB2 : Nz.Sc.OwnP 75 V w.heap.size (.slice AW Ws.length cW) Ws := PB.out
      have TB2 : Nz.Sc.OwnT V w.heap.size (.slice AF ff.length cF) ff := TB.out
      have B0 : BX B w #[.int .i64 k, .string m, .bool true, .bool bk] p #[.string pn, .slice A2 M c2'] b #[.int .i64 1, .string na, .string nb, .slice AF ff.length cF, .string ⟨#[]⟩] (.slice AW Ws.length cW) Ws (.slice AF ff.length cF) ff V := SX.out.bx EB2 PB2 TB2 HBs
      have fS := SX.out.rw.frmS 2 (.bool true)
      have bS := SX.out.rw.belS 2 (.bool true)
      have B1 := Lib.hid (B0.frm2 fS bS)
      clear EB2 PB2 TB2 B0 fS bS
      have hbV : b < (V.setCell ⟨rb, 2, none⟩ (.bool true)).heap.size := (Array.getElem?_eq_some_iff.1 B1.out.ev).1
      have hwV := B1.out.size
      go_wp2_with fail
      refine CDV.out.mono ?_
      rintro e w6 ⟨rfl, rfl⟩
      go_wp2_with fail
      clear CDV c2V f2V SX EB PB TB
      generalize V.setCell ⟨rb, 2, none⟩ (.bool true) = V1 at *
      have Bd := Lib.hid (B1.out.keep (Below.refl _ V1).drew)
      have Ba := Lib.hid (B1.out.keep ((Below.refl _ V1).alloc (Nat.le_refl _) (.cells #[.int .i64 1, .string na, .string nb, .slice AF ff.length cF, .string ⟨#[]⟩] 50)).drew)
      have CT0 := Lib.hid (tell_any R1.out.drew)
      have CT1 := Lib.hid (tell_any (R1.out.after ((Below.refl _ V1).alloc (Nat.le_refl _) (.cells #[.int .i64 1, .string na, .string nb, .slice AF ff.length cF, .string ⟨#[]⟩] 50)).drew))
      have lw1 := Lib.hid (show V1.heap.size ≤ (V1.alloc (.cells #[.int .i64 1, .string na, .string nb, .slice AF ff.length cF, .string ⟨#[]⟩] 50)).drew.heap.size by show V1.heap.size ≤ (V1.alloc _).heap.size; simp)
      go_region_held3 (fun W => W.cell? ⟨b, 0, none⟩ = some (.int .i64 1) ∧ W.cell? ⟨b, 1, none⟩ = some (.string na) ∧ W.cell? ⟨b, 2, none⟩ = some (.string nb) ∧ W.cell? ⟨b, 3, none⟩ = some (.slice AF ff.length cF) ∧ W.cell? ⟨b, 4, none⟩ = some (.string ⟨#[]⟩) ∧ Hid (BX B w #[.int .i64 k, .string m, .bool true, .bool bk] p #[.string pn, .slice A2 M c2'] b #[.int .i64 1, .string na, .string nb, .slice AF ff.length cF, .string ⟨#[]⟩] (.slice AW Ws.length cW) Ws (.slice AF ff.length cF) ff W))
        (first
          | with_reducible exact ⟨Nz.Sc.cells_of Bd.out.ev 0 rfl, Nz.Sc.cells_of Bd.out.ev 1 rfl, Nz.Sc.cells_of Bd.out.ev 2 rfl, Nz.Sc.cells_of Bd.out.ev 3 rfl, Nz.Sc.cells_of Bd.out.ev 4 rfl, Bd⟩
          | with_reducible exact ⟨Nz.Sc.cells_of Ba.out.ev 0 rfl, Nz.Sc.cells_of Ba.out.ev 1 rfl, Nz.Sc.cells_of Ba.out.ev 2 rfl, Nz.Sc.cells_of Ba.out.ev 3 rfl, Nz.Sc.cells_of Ba.out.ev 4 rfl, Ba⟩
          | (go_split_ands; with_reducible exact ⟨by assumption, by assumption, by assumption, by assumption, by assumption, by assumption⟩)
          | with_reducible exact ⟨Nz.Sc.cells_of BA6.out.ev 0 rfl, Nz.Sc.cells_of BA6.out.ev 1 rfl, Nz.Sc.cells_of BA6.out.ev 2 rfl, Nz.Sc.cells_of BA6.out.ev 3 rfl, Nz.Sc.cells_of BA6.out.ev 4 rfl, BA6⟩
          | fail)
        (first
          | (go_at_call 62
             refine CT0.out.mono ?_
             rintro e w6 ⟨v6, vw6, rfl, ⟨ts, t1, t2, t3⟩, r6, f6, l6⟩
             have B6 := Lib.hid (Bd.out.frm2 f6 l6)
             have R6 := Lib.hid r6
             have hl6 := told_len s.wait
             have T1 := Lib.hid (show ts.map (·.1) = toldF s.wait from t1)
             rw [← T1.out, List.length_map] at hl6
             obtain ⟨A6, c6, rfl⟩ := Nz.Sc.own_slice t2
             have T2 := Lib.hid (show w6.ownsRow V1.heap.size 50 5 (.slice A6 ts.length c6) ts.length (evL ts) from t2)
             have T3 := Lib.hid (show EvO w6 w.heap.size ts from t3.mono hwV)
             have s6 : V1.heap.size ≤ w6.heap.size := l6.size
             have BA6 := Lib.hid (B6.out.keep ((Below.refl _ w6).alloc (Nat.le_refl _) (.cells #[.int .i64 1, .string na, .string nb, .slice AF ff.length cF, .string ⟨#[]⟩] 50)))
             obtain ⟨k0, k1, k2, k3, k4⟩ := bx_c B6.out
             clear t1 t2 t3 r6 f6 l6)
          | (go_at_call 62
             refine CT1.out.mono ?_
             rintro e w6 ⟨v6, vw6, rfl, ⟨ts, t1, t2, t3⟩, r6, f6, l6⟩
             have B6 := Lib.hid (Ba.out.frm2 f6 l6)
             have R6 := Lib.hid r6
             have hl6 := told_len s.wait
             have T1 := Lib.hid (show ts.map (·.1) = toldF s.wait from t1)
             rw [← T1.out, List.length_map] at hl6
             obtain ⟨A6, c6, rfl⟩ := Nz.Sc.own_slice t2
             have T2 := Lib.hid (own_mono (B' := V1.heap.size) t2 lw1.out)
             have T3 := Lib.hid (show EvO w6 w.heap.size ts from t3.mono (Nat.le_trans hwV lw1.out))
             have s6 : V1.heap.size ≤ w6.heap.size := Nat.le_trans lw1.out l6.size
             have N6 := Lib.hid (new_of (f6 V1.heap.size #[.int .i64 1, .string na, .string nb, .slice AF ff.length cF, .string ⟨#[]⟩] 50 (0, 0) (Nz.Sc.nblk V1 50 #[.int .i64 1, .string na, .string nb, .slice AF ff.length cF, .string ⟨#[]⟩]) (by decide) (by decide) (by decide)))
             obtain ⟨k0, k1, k2, k3, k4⟩ := bx_c B6.out
             clear t1 t2 t3 r6 f6 l6)
          | (have N7 := N6.out
             refine Nz.Sc.step_append_own (by rfl) (.tmp 49) (.tmp 51) 23 (by rfl) V1.heap.size 50 i0 (.agg #[.int .i64 0, .string ⟨#[]⟩, .string ⟨#[]⟩, .slice none 0 0, .string ⟨#[]⟩]) 5 80 Tryz.underlying23 hi hz0 hz1 hz2 rfl (by decide) (.slice A6 ts.length c6) ts.length (evL ts) (by rfl) T2.out ⟨V1.heap.size, 0, none⟩ 1 1 [.int .i64 1, .string na, .string nb, .slice AF ff.length cF, .string ⟨#[]⟩] (by rfl) rfl N7 (opn_one _ _ _ _ _) (by unfold maxLen; omega) (by omega) s6 ?_
             intro v7 w7 n1 n2
             obtain ⟨g7, c7, rfl⟩ := Nz.Sc.own_shape n1
             have B7 := Lib.hid (B6.out.app T2.out hbV hwV n2)
             have R7 := Lib.hid (R6.out.grown T2.out n2)
             have E7 := Lib.hid (put7 B6.out T1.out T2.out hwV T3.out n2 n1)
             obtain ⟨m0, m1, m2, m3, m4⟩ := bx_c B7.out
             clear n1 n2 N7)
          | (refine Nz.Sc.step_append_own (by rfl) (.tmp 49) (.tmp 51) 23 (by rfl) V1.heap.size 50 i0 (.agg #[.int .i64 0, .string ⟨#[]⟩, .string ⟨#[]⟩, .slice none 0 0, .string ⟨#[]⟩]) 5 80 Tryz.underlying23 hi hz0 hz1 hz2 rfl (by decide) (.slice A6 ts.length c6) ts.length (evL ts) (by rfl) (T2.out.alloc (.cells #[.int .i64 1, .string na, .string nb, .slice AF ff.length cF, .string ⟨#[]⟩] 50)) ⟨w6.heap.size, 0, none⟩ 1 1 [.int .i64 1, .string na, .string nb, .slice AF ff.length cF, .string ⟨#[]⟩] (by rfl) rfl (Nz.Sc.new_cells w6 #[.int .i64 1, .string na, .string nb, .slice AF ff.length cF, .string ⟨#[]⟩] 50) (opn_one _ _ _ _ _) (by unfold maxLen; omega) (by omega) (by rw [World.size_alloc]; omega) ?_
             intro v7 w7 n1 n2
             obtain ⟨g7, c7, rfl⟩ := Nz.Sc.own_shape n1
             have B7 := Lib.hid (BA6.out.app (T2.out.alloc (.cells #[.int .i64 1, .string na, .string nb, .slice AF ff.length cF, .string ⟨#[]⟩] 50)) hbV hwV n2)
             have R7 := Lib.hid ((R6.out.box (.cells #[.int .i64 1, .string na, .string nb, .slice AF ff.length cF, .string ⟨#[]⟩] 50)).grown (T2.out.alloc (.cells #[.int .i64 1, .string na, .string nb, .slice AF ff.length cF, .string ⟨#[]⟩] 50)) n2)
             have E7 := Lib.hid (put7 BA6.out T1.out (T2.out.alloc (.cells #[.int .i64 1, .string na, .string nb, .slice AF ff.length cF, .string ⟨#[]⟩] 50)) hwV (T3.out.frm (frm_box w6 _)) n2 n1)
             obtain ⟨m0, m1, m2, m3, m4⟩ := bx_c B7.out
             clear n1 n2)
          | fail)
      all_goals
        rename_i hHeld
        clear hHeld
        have tk2 := Nz.Sc.cells_of B7.out.tok 2 (u := .bool true) rfl
        obtain ⟨us, u1, u2, u3⟩ := E7.out
        have hul := len_of u2
        have hul2 : us.length ≤ 3 := by omega
        have U1 := Lib.hid u1
        have CC := Lib.hid (closes_any w7)
        clear u1
        obtain ⟨nu, hnu⟩ : ∃ nu, nu = us.length := ⟨_, rfl⟩
        have NU := Lib.hid hnu
        rw [← hnu] at u2 hul2 hul
        rw [hul] at u2 ⊢
        clear E7 T1 T2 T3 R6 B6 CT0 CT1 Bd Ba B1 R1 m0 m1 m2 m3 m4 k0 k1 k2 k3 k4 hnu hul
        go_wp2_with fail
        refine CC.out.mono ?_
        rintro e w8 ⟨rfl, b8⟩
        have hA := (Below.refl w8.heap.size w8).alloc (Nat.le_refl _) (.cells #[.int .i64 3, .string ⟨#[]⟩, .string ⟨#[]⟩, .slice none 0 0, .string ⟨#[]⟩] 50)
        have b9 : Below w7.heap.size w7 (w8.alloc (.cells #[.int .i64 3, .string ⟨#[]⟩, .string ⟨#[]⟩, .slice none 0 0, .string ⟨#[]⟩] 50)) := b8.trans (hA.mono b8.size)
        have ho9 := Nz.Sc.own_keep u2 b9
        have hO9 := Lib.hid (u3.frm (Frm.of_below b9))
        have B9 := Lib.hid (B7.out.keep b9)
        have R9 := Lib.hid (R7.out.after b9)
        have hnew := Lib.hid (Nz.Sc.new_cells w8 #[.int .i64 3, .string ⟨#[]⟩, .string ⟨#[]⟩, .slice none 0 0, .string ⟨#[]⟩] 50)
        have hz9 := B9.out.size
        clear b8 hA b9 u2 u3 B7 R7 CC
        go_wp2_with (at_builtin; refine wpList_append_own _ rfl _ _ 23 rfl w.heap.size 50 i0 (.agg #[.int .i64 0, .string ⟨#[]⟩, .string ⟨#[]⟩, .slice none 0 0, .string ⟨#[]⟩]) 5 80 Tryz.underlying23 hi hz0 hz1 hz2 rfl (by decide) _ nu (evL us) rfl ho9 ⟨w8.heap.size, 0, none⟩ 1 1 [.int .i64 3, .string ⟨#[]⟩, .string ⟨#[]⟩, .slice none 0 0, .string ⟨#[]⟩] rfl rfl hnew.out cls_one (by unfold maxLen; omega) (by omega) hz9 ?_)
        intro v9 w9 n1 n2 _
        obtain ⟨g9, c9, rfl⟩ := Nz.Sc.own_shape n1
        rw [NU.out] at ho9 n1 n2
        have he9 := ev_put (x := .cls) (va := .slice none 0 0) U1.out ho9 hO9.out (ownT_nil _ _) n2 n1
        have HR9 := Lib.hid (R9.out.grown ho9 n2)
        have HF9 := Lib.hid (B9.out.frm.fresh hz9 ho9 n2)
        have HL9 := Lib.hid (B9.out.bel.grown n2 (Nat.le_trans B9.out.siz hz9) (fun j hj => Nat.le_trans B9.out.siz (World.ownsRow.lt ho9 j hj).1))
        rw [← NU.out, List.append_assoc] at he9
        have HE := Lib.hid he9
        clear he9 ho9 hO9 n1 n2 R9 B9 hnew
        go_wp2
        go_ret2
        refine ⟨_, by rw [HX.out]; rfl, by rw [HX.out]; exact HE.out, ?_, HF9.out, HL9.out⟩
        rw [HX.out]
        exact ⟨_, _, _, (clr_self { s with wait := Nz.em, root := true } he).symm ▸ HR9.out⟩
end
end Go.Proofs.YtnomcldpbkinmaaGreatDoor.Wl
