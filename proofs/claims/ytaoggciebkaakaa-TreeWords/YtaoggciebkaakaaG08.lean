/-
  Merged by program out of the texts TpFs, TpSp, WdFol of one seat.
-/
import Derived.Test.YtaoggciebkaakaaG05
import Derived.Test.YtaoggciebkaakaaG06
import Derived.Test.YtaoggciebkaakaaG02
import Derived.Deep.Cut

/- tree.first: the tree of the events that stand first. -/
set_option linter.unusedSimpArgs false
set_option linter.unusedVariables false
namespace Go.Proofs.Ytaoggciebkaakaa.Ev
open Go.RowKit

def FsC (w0 : World) (N : Nat) : Prop := ∀ (t : Bool) (tx sp lo : ByteArray) (ats : List P3) (ks : Fo) (post : List RE) (A : Option Addr) (n c : Nat) (W : World), ks.siz < N → n ≤ 100000 → (∀ x ∈ (Fo.cons t tx sp lo ats ks .nil).evs, RLim x) → Below w0.heap.size w0 W → EvsIn w0 A n c ((Fo.cons t tx sp lo ats ks .nil).evs ++ post) → Calls Try.prog 27 #[.slice A n c] W (FPost w0 W (Fo.cons t tx sp lo ats ks .nil) post)
def sliceLen : Value → Nat
  | .slice _ n _ => n
  | _ => 0
theorem hd_evs (t : Bool) (tx sp lo : ByteArray) (ats : List P3) (ks : Fo) (r : List RE) : ∃ x l, (Fo.cons t tx sp lo ats ks .nil).evs ++ r = x :: l ∧ x.kind ≠ 3 := by
  rw [Fo.evs]
  cases t
  · exact ⟨⟨1, sp, lo, ats, emB⟩, _, by rw [if_neg (by decide)]; rfl, show (1 : Int) ≠ 3 by decide⟩
  · exact ⟨⟨2, emB, emB, [], tx⟩, _, by rw [if_pos rfl]; rfl, show (2 : Int) ≠ 3 by decide⟩
theorem len_evs : ∀ f : Fo, f.len ≤ f.evs.length
  | .nil => Nat.le_refl _
  | .cons t tx sp lo ats ks nx => by
    have h1 := len_evs nx
    have h2 := evs_one_pos t tx sp lo ats ks
    rw [Fo.len, evs_cons, List.length_append]
    omega
set_option maxHeartbeats 8000000 in
set_option maxRecDepth 100000 in
theorem first_el (w0 : World) (N : Nat) (hIH : Hid (FsC w0 N)) (tx sp lo : ByteArray) (ats : List P3) (ks : Fo) (post : List RE) (A : Option Addr) (n c : Nat) (w : World) (hN : ks.siz < N + 1) (hn : n ≤ 100000) (hR : ∀ x ∈ (Fo.cons false tx sp lo ats ks .nil).evs, RLim x) (hw : Below w0.heap.size w0 w) (T0 : EvsIn w0 A n c ((Fo.cons false tx sp lo ats ks .nil).evs ++ post)) :
    Calls Try.prog 27 #[.slice A n c] w (FPost w0 w (Fo.cons false tx sp lo ats ks .nil) post) := by
  have HW := Lib.hid hw
  obtain ⟨i0, hi, hz0, hz1, hz2⟩ := info_parts Try.info30
  have hE : (Fo.cons false tx sp lo ats ks .nil).evs ++ post = (⟨1, sp, lo, ats, emB⟩ : RE) :: (ks.evs ++ clE :: post) := by rw [evs_el]; simp
  rw [hE] at T0
  have T := T0.keep hw
  have hR0 : RLim ⟨1, sp, lo, ats, emB⟩ := hR _ (by rw [evs_el]; simp)
  have HR0 := Lib.hid hR0
  have HRk : Hid (∀ x ∈ ks.evs, RLim x) := Lib.hid fun x hx => hR x (by rw [evs_el]; simp [hx])
  obtain ⟨b, off, Aa, na, ca, rfl, hb, TA, c0, c1, c2, c3, c4⟩ := T.head
  dsimp only at c0 c1 c2 c3 c4 TA
  have hl := T.len
  rw [List.length_cons, List.length_append, List.length_cons] at hl
  have hcap := T.cap.1
  have HT1 : Hid (EvsIn w0 (some ⟨b, off + 5, none⟩) (n - 1) (c - 1) (ks.evs ++ clE :: post)) := Lib.hid T0.tail
  have hlen := len_evs ks
  have HTn := Lib.hid TA.len
  have CN : Hid (∀ W, Calls Try.prog 37 #[.agg #[.string sp, .string lo]] W fun e w' => e = .returned (.agg #[.string sp, .string lo]) ∧ Below W.heap.size W w') := Lib.hid fun W => tnamed_any sp lo W hR0.sp hR0.lo
  have CA : Hid (∀ W, Below w.heap.size w W → Calls Try.prog 38 #[.slice Aa na ca] W fun e w' => ∃ v, e = .returned v ∧ w'.ownsRow W.heap.size 52 3 v na (atL ats) ∧ Below W.heap.size W w') := Lib.hid fun W hW => tattrs_any Aa na ca ats W (TA.keep hW) (by rw [TA.len]; exact hR0.cnt) hR0.ats
  have g1 : (1 : Int) ≤ (n : Int) := by omega
  have g0 : (0 : Int) < (n : Int) := by omega
  have hc1 : ¬ c = 1 := by omega
  have hkl : ks.len ≤ 100000 := by omega
  have HV : Hid (FE w sp lo Aa na ca ((w.alloc (.cells #[.bool false, .string ⟨#[]⟩, .string ⟨#[]⟩, .string ⟨#[]⟩, .slice none 0 0, .slice none 0 0] 30)).alloc (.cells #[.int .i64 1, .string sp, .string lo, .slice Aa na ca, .string emB] 38)).drew) := Lib.hid (by
    have h := nblk (w.alloc (.cells #[.bool false, .string ⟨#[]⟩, .string ⟨#[]⟩, .string ⟨#[]⟩, .slice none 0 0, .slice none 0 0] 30)) 38 #[.int .i64 1, .string sp, .string lo, .slice Aa na ca, .string emB]
    rw [World.size_alloc] at h
    exact ⟨h, (Below.heap_alloc (w.alloc _) _ _ (by simp)).trans (nblk w 30 _), (((Below.refl _ w).alloc (Nat.le_refl _) _).alloc (by simp) _).drew⟩)
  clear T T0 hw hE hR hR0 TA hl
  go_enter Try.func27, Try.ntmps27
  go_wp2_with fail
  go_region
  go_upto_region 4 with fail
  generalize ((w.alloc (.cells #[.bool false, .string ⟨#[]⟩, .string ⟨#[]⟩, .string ⟨#[]⟩, .slice none 0 0, .slice none 0 0] 30)).alloc (.cells #[.int .i64 1, .string sp, .string lo, .slice Aa na ca, .string emB] 38)).drew = V at *
  clear c0 c1 c2 c3 c4
  go_cut [6] from 16 (fun v6 wx => ∃ (tb : Nat) (A6 : Option Addr) (c6 : Nat), v6 = .pointer (some ⟨tb, 0, none⟩) ∧ Hid (FY w tb sp lo ats A6 na c6 wx))
  case first =>
    have hVz := HV.out.lt
    have Fd := Lib.hid (HV.out.keep (Below.refl _ V).drew)
    have Fa := Lib.hid (HV.out.keep ((Below.refl _ V).alloc (Nat.le_refl _) (.cells #[.bool false, .string ⟨#[]⟩, .string ⟨#[]⟩, .string ⟨#[]⟩, .slice none 0 0, .slice none 0 0] 30)).drew)
    have Na : Hid ((V.alloc (.cells #[.bool false, .string ⟨#[]⟩, .string ⟨#[]⟩, .string ⟨#[]⟩, .slice none 0 0, .slice none 0 0] 30)).drew.heap[V.heap.size]? = some (.cells #[.bool false, .string ⟨#[]⟩, .string ⟨#[]⟩, .string ⟨#[]⟩, .slice none 0 0, .slice none 0 0] 30 (0, 0))) := Lib.hid (nblk V 30 _)
    go_region_held3 (fun W => W.cell? ⟨w.heap.size + 1, 1, none⟩ = some (.string sp) ∧ W.cell? ⟨w.heap.size + 1, 2, none⟩ = some (.string lo) ∧ W.cell? ⟨w.heap.size + 1, 3, none⟩ = some (.slice Aa na ca))
      (first
        | with_reducible exact Fd.out.s3
        | with_reducible exact Fa.out.s3
        | with_reducible exact F5.out.s3
        | with_reducible exact (F5.out.keep ((Below.refl _ w5).alloc (Nat.le_refl _) _)).s3
        | with_reducible exact F6.out.s3
        | with_reducible exact (F6.out.keep ((Below.refl _ w6).alloc (Nat.le_refl _) _)).s3
        | exact F6.out.s3b N6.out hN6 _ _ _ _ _ _
        | fail)
      (first
        | (go_at_call 37
           refine (CN.out V.drew).mono ?_
           rintro e w5 ⟨rfl, b5⟩
           have F5 := Lib.hid (Fd.out.keep b5)
           clear b5)
        | (go_at_call 37
           refine (CN.out (V.alloc (.cells #[.bool false, .string ⟨#[]⟩, .string ⟨#[]⟩, .string ⟨#[]⟩, .slice none 0 0, .slice none 0 0] 30)).drew).mono ?_
           rintro e w5 ⟨rfl, b5⟩
           have F5 := Lib.hid (Fa.out.keep b5)
           have N5 := Lib.hid ((b5.block _ (Array.getElem?_eq_some_iff.1 Na.out).1).trans Na.out)
           clear b5)
        | (go_at_call 38
           refine (CA.out w5 F5.out.bel).mono ?_
           rintro e w6 ⟨v6, rfl, oa, b6⟩
           have F6 := Lib.hid (F5.out.keep b6)
           have N6 := Lib.hid ((b6.block _ (Array.getElem?_eq_some_iff.1 N5.out).1).trans N5.out)
           have hN6 : w.heap.size + 2 ≤ V.heap.size := hVz
           obtain ⟨A6, c6, rfl⟩ := own_slice oa
           have TY := Lib.hid (F6.out.y2 (own_base oa F5.out.lt) N6.out hN6)
           obtain ⟨z0, z1, z2, z3, z4, z5⟩ := cells6 N6.out
           have y0 := froz_of N6.out 0
           have y1 := froz_of N6.out 1
           have y2 := froz_of N6.out 2
           have y3 := froz_of N6.out 3
           have y4 := froz_of N6.out 4
           have y5 := froz_of N6.out 5
           clear b6 oa)
        | (go_at_call 38
           refine (CA.out w5 F5.out.bel).mono ?_
           rintro e w6 ⟨v6, rfl, oa, b6⟩
           have F6 := Lib.hid (F5.out.keep b6)
           obtain ⟨A6, c6, rfl⟩ := own_slice oa
           have TY := Lib.hid (F6.out.y1 (own_base oa F5.out.lt))
           clear b6 oa)
        | (go_at_call 38
           refine (CA.out (w5.alloc (.cells #[.bool false, .string ⟨#[]⟩, .string ⟨#[]⟩, .string ⟨#[]⟩, .slice none 0 0, .slice none 0 0] 30)) (F5.out.keep ((Below.refl _ w5).alloc (Nat.le_refl _) _)).bel).mono ?_
           rintro e w6 ⟨v6, rfl, oa, b6⟩
           have F6 := Lib.hid ((F5.out.keep ((Below.refl _ w5).alloc (Nat.le_refl _) _)).keep b6)
           have N6 := Lib.hid ((b6.block w5.heap.size (by simp)).trans (nblk w5 30 _))
           have hN6 : w.heap.size + 2 ≤ w5.heap.size := F5.out.lt
           obtain ⟨A6, c6, rfl⟩ := own_slice oa
           have TY := Lib.hid (F6.out.y2 (own_base oa (Nat.le_trans hN6 (by simp))) N6.out hN6)
           obtain ⟨z0, z1, z2, z3, z4, z5⟩ := cells6 N6.out
           have y0 := froz_of N6.out 0
           have y1 := froz_of N6.out 1
           have y2 := froz_of N6.out 2
           have y3 := froz_of N6.out 3
           have y4 := froz_of N6.out 4
           have y5 := froz_of N6.out 5
           clear b6 oa)
        | fail)
    all_goals
      rename_i hHeld
      clear hHeld
      go_wp2_with fail
      go_meet
      exact ⟨_, A6, c6, rfl, TY⟩
  case rest =>
    obtain ⟨tb, A6, c6, rfl, HY⟩ := hcut
    have HK0 : Hid (EvsIn w0 (some ⟨b, off + 5, none⟩) (n - 1) (c - 1) ((ks.drop 0).evs ++ clE :: post)) := HT1
    have HL0 : Hid (FL w tb sp lo ats A6 na c6 (ks.take 0).pln 0 (.slice none 0 0) wc) := Lib.hid (by
      rw [show (ks.take 0).pln = .nil by cases ks <;> rfl]
      exact HY.out.fl)
    clear CN CA HV HY HT1 g0 g1 hc1
    go_wp2_with fail
    go_loopw [5] (fun r wr => ∃ (k n1 c1 : Nat) (A1 : Option Addr) (v : Value), r = .slice A1 n1 c1 ∧ k ≤ ks.len ∧ n1 ≤ 100000 ∧ Hid (EvsIn w0 A1 n1 c1 ((ks.drop k).evs ++ clE :: post)) ∧ Hid (FL w tb sp lo ats A6 na c6 (ks.take k).pln k v wr)) (fun r _ => sliceLen r)
    case atStart => exact ⟨0, n - 1, c - 1, _, _, rfl, Nat.zero_le _, by omega, HK0, HL0⟩
    case round =>
      clear HK0 HL0
      obtain ⟨k, n1, c1, A1, v, rfl, hk, hn1, HT, HL⟩ := hrel
      obtain ⟨vs, ho, hkv⟩ := HL.out.own
      obtain ⟨A3, c3, rfl⟩ := own_slice ho
      by_cases hlt : k < ks.len
      · obtain ⟨u, ux, us, ul, ua, uk, ed, e2⟩ := drop_cons hlt
        have hde : (ks.drop k).evs ++ clE :: post = (Fo.cons u ux us ul ua uk .nil).evs ++ ((ks.drop (k + 1)).evs ++ clE :: post) := by rw [ed, evs_cons u ux us ul ua uk (ks.drop (k + 1)), List.append_assoc]
        have HBw := Lib.hid (HW.out.trans (HL.out.bel.mono HW.out.size))
        have HTu : Hid (EvsIn w0 A1 n1 c1 ((Fo.cons u ux us ul ua uk .nil).evs ++ ((ks.drop (k + 1)).evs ++ clE :: post))) := Lib.hid (by rw [← hde]; exact HT.out)
        obtain ⟨x, l', hx, hxk⟩ := hd_evs u ux us ul ua uk ((ks.drop (k + 1)).evs ++ clE :: post)
        have hTx := HTu.out.keep HBw.out
        rw [hx] at hTx
        obtain ⟨b2, o2, _, _, _, rfl, _, _, d0, _, _, _, _⟩ := hTx.head
        have hl2 := hTx.len
        rw [List.length_cons] at hl2
        have q0 : (0 : Int) < (n1 : Int) := by omega
        have q1 : (x.kind != 3) = true := by simpa using hxk
        have hsk := siz_kid ed
        have hRu : ∀ y ∈ (Fo.cons u ux us ul ua uk .nil).evs, RLim y := fun y hy => HRk.out y (by
          rw [← take_drop_F k ks, evs_app, ed, evs_cons]
          simp [hy])
        have BA : Hid (Below wr.heap.size wr (wr.alloc (.cells #[.bool false, .string ⟨#[]⟩, .string ⟨#[]⟩, .string ⟨#[]⟩, .slice none 0 0, .slice none 0 0] 30))) := Lib.hid ((Below.refl _ wr).alloc (Nat.le_refl _) _)
        have NC : Hid ((wr.alloc (.cells #[.bool false, .string ⟨#[]⟩, .string ⟨#[]⟩, .string ⟨#[]⟩, .slice none 0 0, .slice none 0 0] 30)).heap[wr.heap.size]? = some (.cells #[.bool false, .string ⟨#[]⟩, .string ⟨#[]⟩, .string ⟨#[]⟩, .slice none 0 0, .slice none 0 0] 30 (0, 0))) := Lib.hid (nblk wr 30 _)
        have CS := Lib.hid (hIH.out u ux us ul ua uk ((ks.drop (k + 1)).evs ++ clE :: post) _ n1 c1 (wr.alloc (.cells #[.bool false, .string ⟨#[]⟩, .string ⟨#[]⟩, .string ⟨#[]⟩, .slice none 0 0, .slice none 0 0] 30)) (by omega) hn1 hRu (HBw.out.trans (BA.out.mono HBw.out.size)) HTu.out)
        have HPl : Hid ((ks.take (k + 1)).pln = (ks.take k).pln.app (Fo.cons u ux us ul ua uk .nil).pln) := Lib.hid (by rw [e2, pln_app])
        have hpos : 1 ≤ (Fo.cons u ux us ul ua uk .nil).evs.length := evs_one_pos _ _ _ _ _ _
        have hn1l : n1 = (Fo.cons u ux us ul ua uk .nil).evs.length + ((ks.drop (k + 1)).evs ++ clE :: post).length := by rw [HTu.out.len, List.length_append]
        have Hn1 := Lib.hid hn1l
        have hwt : tb < wr.heap.size := HL.out.lt.2
        have hwt0 : w.heap.size ≤ tb := by have := HL.out.lt.1; omega
        have Ho := Lib.hid ho
        have Hv := Lib.hid hkv
        clear hTx hx ho hkv hl2 hde hRu hn1l HTu
        generalize hL2 : (ks.drop (k + 1)).evs ++ clE :: post = L2 at *
        have HL2 := Lib.hid hL2
        clear hL2
        go_wp2_with fail
        refine CS.out.mono ?_
        rintro e' w2 ⟨t', tx', sp', lo', ats', ks', Aa', na', ca', Ak', nk', ck', A2, n2, c2, hp, rfl, tr, T2, b2⟩
        have HC2 := Lib.hid ((b2.block wr.heap.size (by simp)).trans NC.out)
        obtain ⟨h6, g6⟩ := put6 (.bool t') (.string tx') (.string sp') (.string lo') (.slice Aa' na' ca') (.slice Ak' nk' ck') HC2.out
        have B3 := Lib.hid ((BA.out.trans (b2.mono BA.out.size)).grown g6 (Nat.le_trans BA.out.size b2.size) (fun j hj => by injection hj with hj; omega))
        have L3 := Lib.hid (HL.out.keep B3.out)
        have T3 := Lib.hid T2
        have R3 : Hid (Tr1 (Pq w.heap.size tb (.slice A3 k c3) (put6W w2 wr.heap.size (.bool t') (.string tx') (.string sp') (.string lo') (.slice Aa' na' ca') (.slice Ak' nk' ck'))) (put6W w2 wr.heap.size (.bool t') (.string tx') (.string sp') (.string lo') (.slice Aa' na' ca') (.slice Ak' nk' ck')) tx' sp' lo' ats' ks' Aa' na' ca' Ak' nk' ck') := Lib.hid ((tr.grown g6 (fun j hj e => by injection e with e; have h1 := hj.1; rw [World.size_alloc] at h1; omega)).mono fun j hj => (FL.child Ho.out hwt hwt0 BA.out.size hj).mono g6.size)
        have H6 := Lib.hid h6
        have Hp := Lib.hid hp
        obtain ⟨z0, z1, z2, z3, z4, z5⟩ := cells6 HC2.out
        have y0 := froz_of HC2.out 0
        have y1 := froz_of HC2.out 1
        have y2 := froz_of HC2.out 2
        have y3 := froz_of HC2.out 3
        have y4 := froz_of HC2.out 4
        have y5 := froz_of HC2.out 5
        have hm2 : n2 < n1 := by have h1 := T2.len; have h2 := Hn1.out; omega
        clear h6 g6 hp tr T2 b2 CS d0 NC hpos
        go_upto_region 8 with fail
        change Code.wp _ _ _ _ (put6W w2 wr.heap.size (.bool t') (.string tx') (.string sp') (.string lo') (.slice Aa' na' ca') (.slice Ak' nk' ck'))
        generalize put6W w2 wr.heap.size (.bool t') (.string tx') (.string sp') (.string lo') (.slice Aa' na' ca') (.slice Ak' nk' ck') = W3 at *
        clear z0 z1 z2 z3 z4 z5 y0 y1 y2 y3 y4 y5
        obtain ⟨z0, z1, z2, z3, z4, z5⟩ := cells6 H6.out
        obtain ⟨_, _, _, _, _, x5⟩ := cells6 L3.out.box
        have B4 := Lib.hid ((Below.refl W3.heap.size W3).alloc (Nat.le_refl _) (.cells #[.bool t', .string tx', .string sp', .string lo', .slice Aa' na' ca', .slice Ak' nk' ck'] 30))
        have L4 := Lib.hid (L3.out.keep B4.out)
        have o4 := Lib.hid (own_keep (own_keep Ho.out B3.out) B4.out)
        have k4 := Lib.hid ((Hv.out.map fun t => ((t.keep B3.out).keep B4.out).mono fun b hp => hp.mono (Nat.le_trans B3.out.size B4.out.size)))
        have R4 := Lib.hid ((R3.out.keep B4.out).mono fun b hp => hp.mono B4.out.size)
        have N4 := Lib.hid (lit_cells W3 #[.bool t', .string tx', .string sp', .string lo', .slice Aa' na' ca', .slice Ak' nk' ck'] 30)
        have hbz : tb + 1 ≤ (W3.alloc (.cells #[.bool t', .string tx', .string sp', .string lo', .slice Aa' na' ca', .slice Ak' nk' ck'] 30)).heap.size := L4.out.lt.2
        clear HC2 H6
        go_wp2_with (at_builtin; refine wpList_append_lies (w := W3.alloc (.cells #[.bool t', .string tx', .string sp', .string lo', .slice Aa' na' ca', .slice Ak' nk' ck'] 30)) rfl _ _ 28 rfl (tb + 1) 30 i0 (.agg #[.bool false, .string ⟨#[]⟩, .string ⟨#[]⟩, .string ⟨#[]⟩, .slice none 0 0, .slice none 0 0]) 6 104 Try.underlying28 hi hz0 hz1 hz2 rfl (by decide) (.slice A3 k c3) k vs rfl o4.out ⟨W3.heap.size, 0, none⟩ 1 1 [.bool t', .string tx', .string sp', .string lo', .slice Aa' na' ca', .slice Ak' nk' ck'] rfl rfl N4.out (tree_one _ _ _ _ _ _ _ _ _ _) (by decide) (by unfold maxLen; omega) (by omega) hbz _ rfl ?_)
        intro g cap w5 m1 m2 m3 m4
        have T5 := Lib.hid (L4.out.put o4.out k4.out R4.out m1 m2 (m3.imp id fun h => h.trans (World.size_alloc _ _).symm) m4)
        have x7 := (m2.block tb (Nat.lt_of_succ_le hbz) (fun e => by have := (World.ownsRow.lt o4.out _ e.symm).1; omega)).trans L4.out.box
        have e7 := (cells6 x7).2.2.2.2.2
        have f7 := froz_of x7 5
        clear m1 m2 m3 m4 x7 x5 z0 z1 z2 z3 z4 z5
        go_wp2
        go_roundw
        case rel => exact ⟨k + 1, n2, c2, A2, _, rfl, hlt, by omega, Lib.hid (by rw [HL2.out]; exact T3.out), Lib.hid (by rw [HPl.out, Hp.out]; exact T5.out)⟩
        case measure => exact hm2
      · have hke : k = ks.len := by omega
        subst hke
        have hT := HT.out
        rw [drop_all] at hT
        have hT1 : EvsIn w0 A1 n1 c1 (clE :: post) := hT
        have HT2 := Lib.hid hT1
        obtain ⟨b2, o2, _, _, _, rfl, _, _, d0, _, _, _, _⟩ := (hT1.keep (HW.out.trans (HL.out.bel.mono HW.out.size))).head
        have hl2 : 1 ≤ n1 := by rw [hT1.len, List.length_cons]; omega
        have q0 : (0 : Int) < (n1 : Int) := by omega
        have q2 : (1 : Int) ≤ (n1 : Int) := by omega
        rw [take_all] at HL
        have hl0 := HL.out.lt
        obtain ⟨A4, c4, hv, hin⟩ := own_ks (P := fun b => w.heap.size ≤ b ∧ b < wr.heap.size ∧ b ≠ w.heap.size) ho (by rw [take_all] at hkv; exact hkv.map fun t => t.mono fun b hp => ⟨hp.1, hp.2.1, hp.2.2.1⟩) (len_pln ks).symm (by omega) (fun g hg => by have := World.ownsRow.lt ho g hg; omega)
        injection hv with hv1 hv2 hv3
        subst hv1 hv3
        have hat := own_ats HL.out.ats HTn.out (by rw [HTn.out]; exact HR0.out.cnt) HR0.out.ats
        have HR : Hid (Tr1 (fun b => w.heap.size ≤ b ∧ b < wr.heap.size ∧ b ≠ w.heap.size) wr emB sp lo ats ks.pln A6 na c6 A3 ks.len c3) := Lib.hid ⟨⟨lim_maxLen em_lim', lim_maxLen HR0.out.sp, lim_maxLen HR0.out.lo⟩, hat, fun h0 a e => by
          have h1 : (Value.slice A6 na c6).ownBlock = some a.block := by
            rcases HL.out.ats.2 with ⟨q, h00⟩ | ⟨g, cap, cur, q, _⟩
            · omega
            · injection q with q1
              rw [q1] at e
              injection e with e
              rw [q1, ← e]
              rfl
          have := World.ownsRow.lt HL.out.ats _ h1
          exact ⟨by omega, by omega, by omega⟩, hin⟩
        obtain ⟨y0, y1, y2, y3, y4, y5⟩ := cells6 HL.out.box
        obtain ⟨r0, r1, r2, r3, r4, r5⟩ := cells6 HL.out.res
        have f0 := froz_of HL.out.res 0
        have f1 := froz_of HL.out.res 1
        have f2 := froz_of HL.out.res 2
        have f3 := froz_of HL.out.res 3
        have f4 := froz_of HL.out.res 4
        have f5 := froz_of HL.out.res 5
        obtain ⟨h6, g6⟩ := put6 (.bool false) (.string ⟨#[]⟩) (.string sp) (.string lo) (.slice A6 na c6) (.slice A3 ks.len c3) HL.out.res
        obtain ⟨W6, hW6⟩ : ∃ W6, W6 = (put6W wr w.heap.size (.bool false) (.string ⟨#[]⟩) (.string sp) (.string lo) (.slice A6 na c6) (.slice A3 ks.len c3)).drew := ⟨_, rfl⟩
        have H6 : Hid (W6.heap[w.heap.size]? = some (.cells #[.bool false, .string ⟨#[]⟩, .string sp, .string lo, .slice A6 na c6, .slice A3 ks.len c3] 30 (0, 0))) := Lib.hid (by rw [hW6]; exact blk_end h6)
        have R6 : Hid (Tr1 (Lo w.heap.size W6) W6 emB sp lo ats ks.pln A6 na c6 A3 ks.len c3) := Lib.hid (by rw [hW6]; exact tr_end HR.out g6)
        have B6 : Hid (Below w.heap.size w W6) := Lib.hid (by rw [hW6]; exact bel_end HL.out.bel g6 (Nat.le_refl _))
        have E6 := Lib.hid hW6
        clear hT hT1 ho hkv hin hat HT HRk hIH h6 g6 HR hW6
        by_cases hc : c1 = 1
        · go_wp2_with fail
          go_region
          go_wp2
          change bodyPost _ _ _ _ _ (put6W wr w.heap.size (.bool false) (.string ⟨#[]⟩) (.string sp) (.string lo) (.slice A6 na c6) (.slice A3 ks.len c3)).drew
          rw [← E6.out]
          obtain ⟨e0, e1, e2, e3, e4, e5⟩ := cells6 H6.out
          clear y0 y1 y2 y3 y4 y5 r0 r1 r2 r3 r4 r5 f0 f1 f2 f3 f4 f5
          refine bodyPost_ret (v := .tuple #[.agg #[.bool false, .string ⟨#[]⟩, .string sp, .string lo, .slice A6 na c6, .slice A3 ks.len c3], .slice (some ⟨b2, o2, none⟩) (n1 - 1) 0]) (by simp [results, Try.results27, go_sem, e0, e1, e2, e3, e4, e5]) rfl ?_
          exact ⟨false, emB, sp, lo, ats, ks.pln, A6, na, c6, A3, ks.len, c3, _, _, _, by rw [Fo.pln, if_neg (by decide)]; rfl, rfl, R6.out, (by have h := HT2.out.tail1 hc; rw [hc] at h; exact h), B6.out⟩
        · go_wp2_with fail
          go_region
          go_wp2
          change bodyPost _ _ _ _ _ (put6W wr w.heap.size (.bool false) (.string ⟨#[]⟩) (.string sp) (.string lo) (.slice A6 na c6) (.slice A3 ks.len c3)).drew
          rw [← E6.out]
          obtain ⟨e0, e1, e2, e3, e4, e5⟩ := cells6 H6.out
          clear y0 y1 y2 y3 y4 y5 r0 r1 r2 r3 r4 r5 f0 f1 f2 f3 f4 f5
          refine bodyPost_ret (v := .tuple #[.agg #[.bool false, .string ⟨#[]⟩, .string sp, .string lo, .slice A6 na c6, .slice A3 ks.len c3], .slice (some ⟨b2, o2 + 5, none⟩) (n1 - 1) (c1 - 1)]) (by simp [results, Try.results27, go_sem, e0, e1, e2, e3, e4, e5]) rfl ?_
          exact ⟨false, emB, sp, lo, ats, ks.pln, A6, na, c6, A3, ks.len, c3, _, _, _, by rw [Fo.pln, if_neg (by decide)]; rfl, rfl, R6.out, HT2.out.tail, B6.out⟩
theorem first_all (w0 : World) : ∀ N, FsC w0 N
  | 0 => fun t tx sp lo ats ks post A n c W h => by omega
  | N + 1 => fun t tx sp lo ats ks post A n c W hN hn hR hW T => by
    cases t
    · exact first_el w0 N (Lib.hid (first_all w0 N)) tx sp lo ats ks post A n c W hN hn hR hW T
    · have he : (Fo.cons true tx sp lo ats ks .nil).evs = [⟨2, emB, emB, [], tx⟩] := by rw [Fo.evs, if_pos rfl]; rfl
      rw [he] at hR T
      exact first_text A n c tx sp lo ats ks post w0 W hW T (hR _ (List.mem_singleton.2 rfl)).tx hn
end Go.Proofs.Ytaoggciebkaakaa.Ev

/- tree.spell: the events of a tree, behind others. -/
set_option linter.unusedSimpArgs false
set_option linter.unusedVariables false
namespace Go.Proofs.Ytaoggciebkaakaa.Ev
open Go.RowKit

theorem em_lim : emB.size ≤ LimS := by decide
def SpC (N : Nat) : Prop := ∀ (t : Bool) (tx sp lo : ByteArray) (ats : List P3) (ks : Fo) (Aa : Option Addr) (na ca : Nat) (Ak : Option Addr) (nk ck : Nat) (B : Nat) (W : World) (A : Option Addr) (c : Nat) (ps : List PE), ks.siz < N → ks.siz ≤ 1000 → ps.length + (Fo.cons t tx sp lo ats ks .nil).evs.length ≤ 10000 → B ≤ W.heap.size → Tr1 (· < B) W tx sp lo ats ks Aa na ca Ak nk ck → (∀ x ∈ (Fo.cons t tx sp lo ats ks .nil).evs, RLim x) → EvO W B (.slice A ps.length c) ps →
    Calls Try.prog 31 #[.slice A ps.length c, .agg #[.bool t, .string tx, .string sp, .string lo, .slice Aa na ca, .slice Ak nk ck]] W fun e w' => ∃ A' c' Q, e = .returned (.slice A' Q.length c') ∧ EvO w' B (.slice A' Q.length c') Q ∧ Q.map (·.1) = ps.map (·.1) ++ (Fo.cons t tx sp lo ats ks .nil).evs ∧ Below B W w'
theorem evo_slice {W : World} {B : Nat} {v : Value} {ps : List PE} (h : EvO W B v ps) : ∃ A c, v = .slice A ps.length c := own_slice h.own
set_option maxHeartbeats 8000000 in
set_option maxRecDepth 100000 in
theorem spell_text (tx sp lo : ByteArray) (ats : List P3) (ks : Fo) (Aa : Option Addr) (na ca : Nat) (Ak : Option Addr) (nk ck : Nat) (B : Nat) (w : World) (A : Option Addr) (c : Nat) (ps : List PE) (hl : ps.length ≤ 10000) (hB : B ≤ w.heap.size) (ht : tx.size ≤ LimS) (hO : EvO w B (.slice A ps.length c) ps) :
    Calls Try.prog 31 #[.slice A ps.length c, .agg #[.bool true, .string tx, .string sp, .string lo, .slice Aa na ca, .slice Ak nk ck]] w fun e w' => ∃ A' c' Q, e = .returned (.slice A' Q.length c') ∧ EvO w' B (.slice A' Q.length c') Q ∧ Q.map (·.1) = ps.map (·.1) ++ (Fo.cons true tx sp lo ats ks .nil).evs ∧ Below B w w' := by
  obtain ⟨i0, hi, hz0, hz1, hz2⟩ := info_parts Try.info38
  have CV : Hid (∀ W, Calls Try.prog 36 #[.string tx] W fun e w' => e = .returned (.string tx) ∧ Below W.heap.size W w') := Lib.hid fun W => clone_any tx W ht
  have HB0 : Hid (Below w.heap.size w (w.alloc (.cells #[.bool true, .string tx, .string sp, .string lo, .slice Aa na ca, .slice Ak nk ck] 30))) := Lib.hid ((Below.refl _ w).alloc (Nat.le_refl _) _)
  have HO := Lib.hid hO
  have HR : Hid (PeOwn w B (⟨2, emB, emB, [], tx⟩, none, 0, 0)) := Lib.hid ⟨World.ownsRow_nil _ _ _ _, rfl, ⟨ht, em_lim, em_lim, Nat.zero_le _, fun x hx => by cases hx⟩⟩
  clear hO ht
  go_enter Try.func31, Try.ntmps31
  go_wp2_with fail
  refine (CV.out _).mono ?_
  rintro e w1 ⟨rfl, b1⟩
  have B2 := Lib.hid ((HB0.out.trans (b1.mono HB0.out.size)).trans (((Below.refl w1.heap.size w1).alloc (Nat.le_refl _) (.cells #[.int .i64 2, .string ⟨#[]⟩, .string ⟨#[]⟩, .slice none 0 0, .string tx] 38)).mono (Nat.le_trans HB0.out.size b1.size)))
  have O2 := Lib.hid (HO.out.keep B2.out)
  have N2 : Hid (∀ (j : Nat) (u : Value), (peC ((⟨2, emB, emB, [], tx⟩, none, 0, 0) : PE))[j]? = some u → _) := Lib.hid (lit_cells w1 #[.int .i64 2, .string ⟨#[]⟩, .string ⟨#[]⟩, .slice none 0 0, .string tx] 38)
  have H1 : Hid (∀ u ∈ peC ((⟨2, emB, emB, [], tx⟩, none, 0, 0) : PE), u.oneCell' = true) := Lib.hid (by
    intro u hu
    simp only [peC, List.mem_cons, List.not_mem_nil, or_false] at hu
    rcases hu with rfl | rfl | rfl | rfl | rfl <;> rfl)
  have HP2 : Hid (PeOwn (w1.alloc (.cells #[.int .i64 2, .string ⟨#[]⟩, .string ⟨#[]⟩, .slice none 0 0, .string tx] 38)) B (⟨2, emB, emB, [], tx⟩, none, 0, 0)) := Lib.hid ⟨own_keep HR.out.1 B2.out, HR.out.2⟩
  have hBz : B ≤ (w1.alloc (.cells #[.int .i64 2, .string ⟨#[]⟩, .string ⟨#[]⟩, .slice none 0 0, .string tx] 38)).heap.size := Nat.le_trans hB B2.out.size
  have hown := O2.out.own
  clear b1 CV HB0
  go_wp2_with (at_builtin; refine wpList_append_any (w := w1.alloc (.cells #[.int .i64 2, .string ⟨#[]⟩, .string ⟨#[]⟩, .slice none 0 0, .string tx] 38)) rfl _ _ 22 rfl B 38 i0 (.agg #[.int .i64 0, .string ⟨#[]⟩, .string ⟨#[]⟩, .slice none 0 0, .string ⟨#[]⟩]) 5 80 Try.underlying22 hi hz0 hz1 hz2 rfl (by decide) _ ps.length (peL ps) rfl hown (some ⟨w1.heap.size, 0, none⟩) 1 1 (peC (⟨2, emB, emB, [], tx⟩, none, 0, 0)) rfl (fun h => by cases h) rfl (fun ad h => by injection h with h; subst h; exact N2.out) H1.out (by unfold maxLen; omega) (by omega) hBz ?_)
  intro v' w3 n1 n2
  have O3 := O2.out.put HP2.out n1 n2
  have B3 : Below B w w3 := (B2.out.mono hB).grown n2 hBz (fun g hg => (World.ownsRow.lt hown g hg).1)
  obtain ⟨A3, c3, rfl⟩ := evo_slice O3
  have H3 := Lib.hid O3
  have G3 := Lib.hid B3
  clear O3 B3 n1 n2 hown O2 B2 HP2
  go_wp2
  go_ret
  exact ⟨A3, c3, _, rfl, H3.out, by rw [Fo.evs, if_pos rfl, List.map_append]; rfl, G3.out⟩
theorem one_peC (p : PE) : ∀ u ∈ peC p, u.oneCell' = true := by
  intro u hu
  simp only [peC, List.mem_cons, List.not_mem_nil, or_false] at hu
  rcases hu with rfl | rfl | rfl | rfl | rfl <;> rfl
theorem own_slice' {e : TypeId} {z n : Nat} {w : World} {B : Nat} {v : Value} {xs : List Value} (h : w.ownsRow B e z v n xs) : ∃ A c, v = .slice A n c := own_slice h
set_option maxHeartbeats 8000000 in
set_option maxRecDepth 100000 in
theorem spell_el (N : Nat) (hIH : Hid (SpC N)) (tx sp lo : ByteArray) (ats : List P3) (ks : Fo) (Aa : Option Addr) (na ca : Nat) (Ak : Option Addr) (nk ck : Nat) (B : Nat) (w : World) (A : Option Addr) (c : Nat) (ps : List PE) (hN : ks.siz < N + 1) (h1k : ks.siz ≤ 1000) (hl : ps.length + (Fo.cons false tx sp lo ats ks .nil).evs.length ≤ 10000) (hB : B ≤ w.heap.size) (T : Tr1 (· < B) w tx sp lo ats ks Aa na ca Ak nk ck) (hR : ∀ x ∈ (Fo.cons false tx sp lo ats ks .nil).evs, RLim x) (hO : EvO w B (.slice A ps.length c) ps) :
    Calls Try.prog 31 #[.slice A ps.length c, .agg #[.bool false, .string tx, .string sp, .string lo, .slice Aa na ca, .slice Ak nk ck]] w fun e w' => ∃ A' c' Q, e = .returned (.slice A' Q.length c') ∧ EvO w' B (.slice A' Q.length c') Q ∧ Q.map (·.1) = ps.map (·.1) ++ (Fo.cons false tx sp lo ats ks .nil).evs ∧ Below B w w' := by
  obtain ⟨i0, hi, hz0, hz1, hz2⟩ := info_parts Try.info38
  have hE := evs_el tx sp lo ats ks
  rw [hE] at hR hl
  rw [hE]
  have hR0 : RLim ⟨1, sp, lo, ats, emB⟩ := hR _ (by simp)
  have HR0 := Lib.hid hR0
  have HRk : Hid (∀ x ∈ ks.evs, RLim x) := Lib.hid fun x hx => hR x (by simp [hx])
  have hln : ps.length + ks.evs.length + 2 ≤ 10000 := by simp at hl; omega
  have HT := Lib.hid T
  have HTn := Lib.hid T.at_.len
  have hnk := T.ks.2.1
  have CN : Hid (∀ W, Calls Try.prog 37 #[.agg #[.string sp, .string lo]] W fun e w' => e = .returned (.agg #[.string sp, .string lo]) ∧ Below W.heap.size W w') := Lib.hid fun W => tnamed_any sp lo W hR0.sp hR0.lo
  have CA : Hid (∀ W, Below B w W → Calls Try.prog 38 #[.slice Aa na ca] W fun e w' => ∃ v, e = .returned v ∧ w'.ownsRow W.heap.size 52 3 v na (atL ats) ∧ Below W.heap.size W w') := Lib.hid fun W hW => tattrs_any Aa na ca ats W (T.at_.keepB hW T.ap) (by rw [T.at_.len]; exact hR0.cnt) hR0.ats
  have HB0 : Hid (Below w.heap.size w (w.alloc (.cells #[.bool false, .string tx, .string sp, .string lo, .slice Aa na ca, .slice Ak nk ck] 30)).drew) := Lib.hid ((Below.refl _ w).alloc (Nat.le_refl _) _).drew
  have HX0 : Hid ((w.alloc (.cells #[.bool false, .string tx, .string sp, .string lo, .slice Aa na ca, .slice Ak nk ck] 30)).drew.heap[w.heap.size]? = some (.cells #[.bool false, .string tx, .string sp, .string lo, .slice Aa na ca, .slice Ak nk ck] 30 (0, 0))) := Lib.hid (nblk w 30 _)
  have hz : w.heap.size < (w.alloc (.cells #[.bool false, .string tx, .string sp, .string lo, .slice Aa na ca, .slice Ak nk ck] 30)).drew.heap.size := by show _ < (w.alloc _).heap.size; simp
  have HO := Lib.hid hO
  have HEv := Lib.hid hE
  clear hO T hR hR0 hl hE
  obtain ⟨_, _, D2, D3, D4, D5⟩ := cells6 HX0.out
  go_enter Try.func31, Try.ntmps31
  go_upto_region 3 with fail
  go_cut [0] from 7 (fun v0 wx => ∃ (A0 : Option Addr) (c0 : Nat) (pe : PE), v0 = .slice A0 (ps ++ [pe]).length c0 ∧ pe.1 = ⟨1, sp, lo, ats, emB⟩ ∧ Hid (EvO wx B (.slice A0 (ps ++ [pe]).length c0) (ps ++ [pe])) ∧ Hid (Below B w wx) ∧ Hid (wx.heap[w.heap.size]? = some (.cells #[.bool false, .string tx, .string sp, .string lo, .slice Aa na ca, .slice Ak nk ck] 30 (0, 0))))
  case first =>
    go_region_law (first
      | (refine step_append_lies _ (by rfl) (.tmp 16) (.tmp 24) 22 (by rfl) B 38 i0 (.agg #[.int .i64 0, .string ⟨#[]⟩, .string ⟨#[]⟩, .slice none 0 0, .string ⟨#[]⟩]) 5 80 Try.underlying22 hi hz0 hz1 hz2 rfl (by decide) (.slice A ps.length c) ps.length (peL ps) (by simp [Act.eval, Act.put]) o6.out.own ⟨w6.heap.size, 0, none⟩ 1 1 (peC (⟨1, sp, lo, ats, emB⟩, A6, na, c6)) (by simp [Act.eval, Act.put]) rfl N6.out (one_peC _) (by decide) (by unfold maxLen; omega) (by omega) (Nat.le_trans hB C6.out.size) _ rfl ?_
         intro g cap w7 n1 n2 n3 n4
         have hlo : ∀ j, (Value.slice A ps.length c).ownBlock = some j → B ≤ j := fun j hj => (World.ownsRow.lt o6.out.own j hj).1
         have O7 := Lib.hid (o6.out.put P6.out n1 n2)
         have B7 : Hid (Below B w w7) := Lib.hid ((C6.out.mono hB).grown n2 (Nat.le_trans hB C6.out.size) hlo)
         have X7 := Lib.hid ((n2.block w.heap.size (Nat.lt_of_lt_of_le hz (Nat.le_trans (Nat.le_trans b5.out.size b6.out.size) (by simp))) (fun e => by have := World.ownsRow.lt HO.out.own _ e.symm; omega)).trans X6.out)
         clear n1 n2 n3 n4 hlo)
      | (go_simp; go_at_call 37; refine (CN.out _).mono ?_; rintro e w5 ⟨rfl, b5'⟩
         have b5 := Lib.hid b5'
         have X5 := Lib.hid ((b5'.block _ hz).trans HX0.out)
         obtain ⟨_, _, _, _, E4, _⟩ := cells6 X5.out
         clear b5')
      | (go_simp; go_at_call 38; refine (CA.out _ ((HB0.out.trans (b5.out.mono HB0.out.size)).mono hB)).mono ?_; rintro e w6 ⟨v6, rfl, oa, b6'⟩
         obtain ⟨A6, c6, rfl⟩ := own_slice' oa
         have b6 := Lib.hid b6'
         have C0 := Lib.hid ((HB0.out.trans (b5.out.mono HB0.out.size)).trans (b6'.mono (Nat.le_trans HB0.out.size b5.out.size)))
         have C1 := Lib.hid ((Below.refl w6.heap.size w6).alloc (Nat.le_refl _) (.cells #[.int .i64 1, .string sp, .string lo, .slice A6 na c6, .string ⟨#[]⟩] 38))
         have C6 := Lib.hid (C0.out.trans (C1.out.mono C0.out.size))
         have o6 := Lib.hid (HO.out.keep C6.out)
         have X6 := Lib.hid ((C1.out.block _ (Nat.lt_of_lt_of_le hz (Nat.le_trans b5.out.size b6.out.size))).trans ((b6'.block _ (Nat.lt_of_lt_of_le hz b5.out.size)).trans X5.out))
         have P6 : Hid (PeOwn (w6.alloc (.cells #[.int .i64 1, .string sp, .string lo, .slice A6 na c6, .string ⟨#[]⟩] 38)) B (⟨1, sp, lo, ats, emB⟩, A6, na, c6)) := Lib.hid ⟨own_keep (own_base oa (Nat.le_trans (Nat.le_trans hB HB0.out.size) b5.out.size)) C1.out, HTn.out, HR0.out⟩
         have N6 : Hid (∀ (j : Nat) (u : Value), (peC ((⟨1, sp, lo, ats, emB⟩, A6, na, c6) : PE))[j]? = some u → _) := Lib.hid (lit_cells w6 #[.int .i64 1, .string sp, .string lo, .slice A6 na c6, .string ⟨#[]⟩] 38)
         clear b6' oa)
      | fail)
    all_goals
      go_wp2_with fail
      go_meet
      have hq : (ps ++ [((⟨1, sp, lo, ats, emB⟩, A6, na, c6) : PE)]).length = ps.length + 1 := by rw [List.length_append]; rfl
      exact ⟨some ⟨g, 0, none⟩, cap, (⟨1, sp, lo, ats, emB⟩, A6, na, c6), by rw [hq], rfl, by rw [hq]; exact O7, B7, X7⟩
  case rest =>
    obtain ⟨A0, c0, pe, rfl, hpe, HO1, HB1, HX1⟩ := hcut
    clear HO CN CA HB0 HX0 hz D2 D3 D4 D5
    obtain ⟨_, _, _, _, _, d5⟩ := cells6 HX1.out
    have HM : Hid ((ps ++ [pe]).map (·.1) = ps.map (·.1) ++ [⟨1, sp, lo, ats, emB⟩]) := Lib.hid (by rw [List.map_append, ← hpe]; rfl)
    have hP1 : (ps ++ [pe]).length ≤ ps.length + 1 := by rw [List.length_append]; exact Nat.le_refl _
    generalize ps ++ [pe] = P1 at *
    have HTn2 : Hid ((ks.take nk).evs = ks.evs) := Lib.hid (by rw [HT.out.ks.1, take_all])
    have hevl := evs_len ks
    have HKl : Hid (∀ k, (ks.take k).evs.length ≤ ks.evs.length) := Lib.hid fun k => by
      conv => rhs; rw [← take_drop_F k ks]
      rw [evs_app, List.length_append]
      omega
    clear HX1 hpe
    go_wp2_with fail
    go_loopw [0, 29] (fun v i wr => ∃ (k : Nat) (A' : Option Addr) (c' : Nat) (Q : List PE), v = .slice A' Q.length c' ∧ i = .int .i64 k ∧ k ≤ nk ∧ Q.length ≤ P1.length + (ks.take k).evs.length ∧ Hid (EvO wr B (.slice A' Q.length c') Q) ∧ Hid (Q.map (·.1) = P1.map (·.1) ++ (ks.take k).evs) ∧ Hid (Below B w wr)) (fun _ i _ => nk - (intOf i).toNat)
    case atStart => exact ⟨0, A0, c0, P1, rfl, rfl, Nat.zero_le _, by omega, HO1, Lib.hid (by rw [show (ks.take 0).evs = [] by cases ks <;> rfl, List.append_nil]), HB1⟩
    case round =>
      clear HO1 HB1 d5
      obtain ⟨k, A1, c1, Q, rfl, rfl, hk, hql, HO, HQ, HB⟩ := hrel
      by_cases hlt : k < nk
      · have g1 : (k : Int) < (nk : Int) := by omega
        have g0 : (0 : Int) ≤ (k : Int) := by omega
        obtain ⟨u, ux, us, ul, ua, uk, b1, o1, u1, u2, u3, u4, u5, u6, ed, rfl, hb1, x6, X⟩ := (HT.out.ks.keepB HB.out).at_ (k := k) hlt
        have hsk := siz_kid ed
        have HTk : Hid ((ks.take (k + 1)).evs = (ks.take k).evs ++ (Fo.cons u ux us ul ua uk .nil).evs) := Lib.hid (by
          obtain ⟨t', tx', sp', lo', ats', ks', e1, e2⟩ := drop_cons (f := ks) (k := k) (by rw [← HT.out.ks.1]; exact hlt)
          rw [ed] at e1
          injection e1 with e1 e4 e5 e6 e7 e8 e9
          subst e1 e4 e5 e6 e7 e8
          rw [e2, evs_app])
        have hk1 : (ks.take k).evs.length + (Fo.cons u ux us ul ua uk .nil).evs.length ≤ ks.evs.length := by
          have h := HKl.out (k + 1)
          rw [HTk.out, List.length_append] at h
          exact h
        have hRu : ∀ x ∈ (Fo.cons u ux us ul ua uk .nil).evs, RLim x := fun x hx => HRk.out x (by
          rw [← take_drop_F k ks, evs_app, ed, evs_cons]
          simp [hx])
        have BA : Hid (Below wr.heap.size wr (wr.alloc (.cells #[.bool u, .string ux, .string us, .string ul, .slice u1 u2 u3, .slice u4 u5 u6] 30))) := Lib.hid ((Below.refl _ wr).alloc (Nat.le_refl _) _)
        have CS := Lib.hid (hIH.out u ux us ul ua uk u1 u2 u3 u4 u5 u6 B (wr.alloc (.cells #[.bool u, .string ux, .string us, .string ul, .slice u1 u2 u3, .slice u4 u5 u6] 30)) A1 c1 Q (by omega) (by omega) (by omega) (Nat.le_trans (Nat.le_trans hB HB.out.size) BA.out.size) (X.keepB (BA.out.mono (Nat.le_trans hB HB.out.size))) hRu (HO.out.keep BA.out))
        obtain ⟨x1, x2, x3, x4, x5, x7⟩ := x6
        clear X ed hb1 hRu
        generalize hq : Q.length = q at *
        have HQl := Lib.hid hq
        clear hq
        go_wp2_with fail
        refine CS.out.mono ?_
        rintro e' w2 ⟨A2, c2, Q2, rfl, o2, m2, b2⟩
        have HO2 := Lib.hid o2
        have HQ2 : Hid (Q2.map (·.1) = P1.map (·.1) ++ (ks.take (k + 1)).evs) := Lib.hid (by rw [m2, HQ.out, HTk.out, List.append_assoc])
        have hq2 : Q2.length ≤ P1.length + (ks.take (k + 1)).evs.length := by
          have h := congrArg List.length HQ2.out
          rw [List.length_map, List.length_append, List.length_map] at h
          omega
        have HB2 := Lib.hid ((HB.out.trans (BA.out.mono (Nat.le_trans hB HB.out.size))).trans b2)
        clear CS b2 o2 m2 x1 x2 x3 x4 x5 x7 HO HQ
        go_wp2
        go_roundw
        case rel => exact ⟨k + 1, A2, c2, Q2, rfl, by go_num, by omega, hq2, HO2, HQ2, HB2⟩
        case measure => simp only [intOf]; omega
      · have hke : k = nk := by omega
        subst hke
        have g1 : ¬ (k : Int) < (k : Int) := by omega
        have hq2 : Q.length ≤ 10000 := by
          have h := HKl.out k
          omega
        have BA : Hid (Below wr.heap.size wr (wr.alloc (.cells #[.int .i64 3, .string ⟨#[]⟩, .string ⟨#[]⟩, .slice none 0 0, .string ⟨#[]⟩] 38))) := Lib.hid ((Below.refl _ wr).alloc (Nat.le_refl _) _)
        have HO2 := Lib.hid (HO.out.keep BA.out)
        have HP : Hid (PeOwn (wr.alloc (.cells #[.int .i64 3, .string ⟨#[]⟩, .string ⟨#[]⟩, .slice none 0 0, .string ⟨#[]⟩] 38)) B (clE, none, 0, 0)) := Lib.hid ⟨World.ownsRow_nil _ _ _ _, rfl, ⟨em_lim, em_lim, em_lim, Nat.zero_le _, fun x hx => by cases hx⟩⟩
        have N2 : Hid (∀ (j : Nat) (u : Value), (peC ((clE, none, 0, 0) : PE))[j]? = some u → _) := Lib.hid (lit_cells wr #[.int .i64 3, .string ⟨#[]⟩, .string ⟨#[]⟩, .slice none 0 0, .string ⟨#[]⟩] 38)
        have hBz : B ≤ (wr.alloc (.cells #[.int .i64 3, .string ⟨#[]⟩, .string ⟨#[]⟩, .slice none 0 0, .string ⟨#[]⟩] 38)).heap.size := Nat.le_trans (Nat.le_trans hB HB.out.size) BA.out.size
        have HB2 := Lib.hid (HB.out.trans (BA.out.mono (Nat.le_trans hB HB.out.size)))
        have hown := HO2.out.own
        clear HO
        go_wp2_with (at_builtin; refine wpList_append_any (w := wr.alloc (.cells #[.int .i64 3, .string ⟨#[]⟩, .string ⟨#[]⟩, .slice none 0 0, .string ⟨#[]⟩] 38)) rfl _ _ 22 rfl B 38 i0 (.agg #[.int .i64 0, .string ⟨#[]⟩, .string ⟨#[]⟩, .slice none 0 0, .string ⟨#[]⟩]) 5 80 Try.underlying22 hi hz0 hz1 hz2 rfl (by decide) _ Q.length (peL Q) rfl hown (some ⟨wr.heap.size, 0, none⟩) 1 1 (peC (clE, none, 0, 0)) rfl (fun h => by cases h) rfl (fun ad h => by injection h with h; subst h; exact N2.out) (one_peC _) (by unfold maxLen; omega) (by omega) hBz ?_)
        intro v' w3 n1 n2
        have O3 := HO2.out.put HP.out n1 n2
        have B3 : Below B w w3 := HB2.out.grown n2 hBz (fun g hg => (World.ownsRow.lt hown g hg).1)
        have M3 : Hid ((Q ++ [((clE, none, 0, 0) : PE)]).map (·.1) = ps.map (·.1) ++ ([⟨1, sp, lo, ats, emB⟩] ++ ks.evs ++ [clE])) := Lib.hid (by
          rw [List.map_append, HQ.out, HM.out, HTn2.out]
          simp)
        obtain ⟨A3, c3, rfl⟩ := evo_slice O3
        have H3 := Lib.hid O3
        have G3 := Lib.hid B3
        clear O3 B3 n1 n2 hown HO2 HB2 HP
        go_wp2
        go_ret
        exact ⟨A3, c3, Q ++ [(clE, none, 0, 0)], (by rw [List.length_append]; rfl), H3.out, M3.out, G3.out⟩
theorem spell_all : ∀ N, SpC N
  | 0 => fun t tx sp lo ats ks Aa na ca Ak nk ck B W A c ps h => by omega
  | N + 1 => fun t tx sp lo ats ks Aa na ca Ak nk ck B W A c ps hN h1 hl hB T hR hO => by
    cases t
    · exact spell_el N (Lib.hid (spell_all N)) tx sp lo ats ks Aa na ca Ak nk ck B W A c ps hN h1 hl hB T hR hO
    · exact spell_text tx sp lo ats ks Aa na ca Ak nk ck B W A c ps (by omega) hB (hR ⟨2, emB, emB, [], tx⟩ (by rw [Fo.evs, if_pos rfl]; simp)).tx hO
end Go.Proofs.Ytaoggciebkaakaa.Ev

/- word.follows. -/
set_option linter.unusedSimpArgs false
set_option linter.unusedVariables false
namespace Go.Proofs.Ytaoggciebkaakaa.Ev
open Go.RowKit

/-- What may follow: first, or behind an event of kind p, where m elements are open. -/
def folF (k0 : Bool) (p m kd : Int) : Bool := if k0 = true then kd == 1 else if kd = 1 then decide (0 < m) && decide (m < 64) else if kd = 2 then decide (0 < m) && (p != 2) else decide (0 < m)
set_option maxHeartbeats 4000000 in
set_option maxRecDepth 100000 in
theorem follows_any (A : Option Addr) (k c : Nat) (p m : Int) (Aa : Option Addr) (na ca : Nat) (kind : Int) (sp lo tx : ByteArray) (w : World) (hk : k ≤ 100000)
    (hp : 0 < k → ∃ b off, A = some ⟨b, off, none⟩ ∧ b < w.heap.size ∧ w.cell? ⟨b, off + (k - 1) * 5, none⟩ = some (.int .i64 p)) :
    Calls Try.prog 40 #[.slice A k c, .int .i64 m, .agg #[.int .i64 kind, .string sp, .string lo, .slice Aa na ca, .string tx]] w fun e w' => e = .returned (.bool (folF (decide (k = 0)) p m kind)) ∧ Below w.heap.size w w' := by
  have HB0 := Lib.hid ((Below.refl w.heap.size w).alloc (Nat.le_refl _) (.cells #[.int .i64 kind, .string sp, .string lo, .slice Aa na ca, .string tx] 38))
  obtain ⟨F, hF⟩ : ∃ F, F = folF (decide (k = 0)) p m kind := ⟨_, rfl⟩
  rw [← hF]
  have HF := Lib.hid hF
  clear hF
  by_cases h0 : k = 0
  · have HE : Hid (F = (kind == 1)) := Lib.hid (by rw [HF.out]; unfold folF; rw [decide_eq_true h0, if_pos rfl])
    subst h0
    clear HF hp
    go_enter Try.func40, Try.ntmps40
    go_wp2
    go_ret
    exact ⟨by rw [HE.out] <;> rfl, HB0.out⟩
  have z0 : ((k : Int) == 0) = false := by rw [beq_eq_false_iff_ne]; omega
  have HF2 : Hid (F = if kind = 1 then decide (0 < m) && decide (m < 64) else if kind = 2 then decide (0 < m) && (p != 2) else decide (0 < m)) := Lib.hid (by rw [HF.out]; unfold folF; rw [decide_eq_false h0, if_neg (by decide)])
  clear HF
  obtain ⟨b, off, rfl, hb, hcp⟩ := hp (by omega)
  obtain ⟨kp, rfl⟩ : ∃ kp, k = kp + 1 := ⟨k - 1, by omega⟩
  have hcp2 : (w.alloc (.cells #[.int .i64 kind, .string sp, .string lo, .slice Aa na ca, .string tx] 38)).cell? ⟨b, off + kp * 5, none⟩ = some (.int .i64 p) := by rw [World.cell?_alloc_lt _ _ _ (by exact hb)]; exact hcp
  clear hcp hb h0
  have g0 : (0 : Int) ≤ (kp : Int) := by omega
  have g1 : (kp : Int) < ((kp + 1 : Nat) : Int) := by omega
  by_cases k1 : kind = 1
  · have HE : Hid (F = (decide (0 < m) && decide (m < 64))) := Lib.hid (by rw [HF2.out, if_pos k1])
    subst k1
    clear HF2 hcp2
    by_cases m0 : 0 < m
    · have m0' : decide (0 < m) = true := decide_eq_true m0
      have HE2 : Hid (F = decide (m < 64)) := Lib.hid (by rw [HE.out, m0']; rfl)
      clear HE
      go_enter Try.func40, Try.ntmps40
      go_wp2
      go_ret
      exact ⟨by rw [HE2.out] <;> rfl, HB0.out⟩
    · have m0' : decide (0 < m) = false := decide_eq_false m0
      have HE2 : Hid (F = false) := Lib.hid (by rw [HE.out, m0']; rfl)
      clear HE
      go_enter Try.func40, Try.ntmps40
      go_wp2
      go_ret
      exact ⟨by rw [HE2.out] <;> rfl, HB0.out⟩
  have e1 : (kind == 1) = false := by simpa using k1
  by_cases k2 : kind = 2
  · have HE : Hid (F = (decide (0 < m) && (p != 2))) := Lib.hid (by rw [HF2.out, if_neg k1, if_pos k2])
    subst k2
    clear HF2 k1 e1
    by_cases m0 : 0 < m
    · have m0' : decide (0 < m) = true := decide_eq_true m0
      have HE2 : Hid (F = (p != 2)) := Lib.hid (by rw [HE.out, m0']; rfl)
      clear HE
      go_enter Try.func40, Try.ntmps40
      go_wp2
      go_ret
      exact ⟨by rw [HE2.out] <;> rfl, HB0.out⟩
    · have m0' : decide (0 < m) = false := decide_eq_false m0
      have HE2 : Hid (F = false) := Lib.hid (by rw [HE.out, m0']; rfl)
      clear HE
      go_enter Try.func40, Try.ntmps40
      go_wp2
      go_ret
      exact ⟨by rw [HE2.out] <;> rfl, HB0.out⟩
  have e2 : (kind == 2) = false := by simpa using k2
  have HE : Hid (F = decide (0 < m)) := Lib.hid (by rw [HF2.out, if_neg k1, if_neg k2])
  clear HF2 k1 k2 hcp2
  go_enter Try.func40, Try.ntmps40
  go_wp2
  go_ret
  exact ⟨by rw [HE.out] <;> rfl, HB0.out⟩
end Go.Proofs.Ytaoggciebkaakaa.Ev
