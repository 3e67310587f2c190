/-
  Merged by program out of the texts TpL5 of one seat.
-/
import Derived.Test.YtaoggciebkaakaaK11

/- TreeBack, over the contracts. -/
set_option linter.unusedSimpArgs false
set_option linter.unusedVariables false
namespace Go.Proofs.Ytaoggciebkaakaa.Ev
open Go.RowKit

/-- The tree's box, and the other's. -/
structure YX (w : World) (u : Bool) (tx sp lo : ByteArray) (ats : List P3) (ks : Fo) (Aa : Option Addr) (na ca : Nat) (Ak : Option Addr) (nk ck tb : Nat) (ks2 : Fo) (Aa2 : Option Addr) (na2 ca2 : Nat) (Ak2 : Option Addr) (nk2 ck2 yb : Nat) (W : World) : Prop where
  tb : TbX w u tx sp lo ats ks Aa na ca Ak nk ck tb W
  yb : TbX w false emB sp lo ats ks2 Aa2 na2 ca2 Ak2 nk2 ck2 yb W
theorem YX.keep {w : World} {u : Bool} {tx sp lo : ByteArray} {ats : List P3} {ks : Fo} {Aa : Option Addr} {na ca : Nat} {Ak : Option Addr} {nk ck tb : Nat} {ks2 : Fo} {Aa2 : Option Addr} {na2 ca2 : Nat} {Ak2 : Option Addr} {nk2 ck2 yb : Nat} {W W' : World} (h : YX w u tx sp lo ats ks Aa na ca Ak nk ck tb ks2 Aa2 na2 ca2 Ak2 nk2 ck2 yb W) (hb : Below W.heap.size W W') : YX w u tx sp lo ats ks Aa na ca Ak nk ck tb ks2 Aa2 na2 ca2 Ak2 nk2 ck2 yb W' := ⟨h.tb.keep hb, h.yb.keep hb⟩
theorem YX.s12 {w : World} {u : Bool} {tx sp lo : ByteArray} {ats : List P3} {ks : Fo} {Aa : Option Addr} {na ca : Nat} {Ak : Option Addr} {nk ck tb : Nat} {ks2 : Fo} {Aa2 : Option Addr} {na2 ca2 : Nat} {Ak2 : Option Addr} {nk2 ck2 yb : Nat} {W : World} (h : YX w u tx sp lo ats ks Aa na ca Ak nk ck tb ks2 Aa2 na2 ca2 Ak2 nk2 ck2 yb W) : W.cell? ⟨tb, 0, none⟩ = some (.bool u) ∧ W.cell? ⟨tb, 1, none⟩ = some (.string tx) ∧ W.cell? ⟨tb, 2, none⟩ = some (.string sp) ∧ W.cell? ⟨tb, 3, none⟩ = some (.string lo) ∧ W.cell? ⟨tb, 4, none⟩ = some (.slice Aa na ca) ∧ W.cell? ⟨tb, 5, none⟩ = some (.slice Ak nk ck) ∧ W.cell? ⟨yb, 0, none⟩ = some (.bool false) ∧ W.cell? ⟨yb, 1, none⟩ = some (.string emB) ∧ W.cell? ⟨yb, 2, none⟩ = some (.string sp) ∧ W.cell? ⟨yb, 3, none⟩ = some (.string lo) ∧ W.cell? ⟨yb, 4, none⟩ = some (.slice Aa2 na2 ca2) ∧ W.cell? ⟨yb, 5, none⟩ = some (.slice Ak2 nk2 ck2) := ⟨h.tb.s6.1, h.tb.s6.2.1, h.tb.s6.2.2.1, h.tb.s6.2.2.2.1, h.tb.s6.2.2.2.2.1, h.tb.s6.2.2.2.2.2, h.yb.s6⟩
/-- What lies where, behind Of's answer boxed. -/
theorem box_below (W : World) (o : Obj) : Below W.heap.size W (W.alloc o) := (Below.refl W.heap.size W).alloc (Nat.le_refl _) o
theorem tree_spok {l : List RE} {n : Nat} {sp lo : ByteArray} {ats : List P3} {ks : Fo} (hl : l = (Fo.cons false emB sp lo ats ks .nil).evs) (hp : ks.pln = ks) (hn : l.length ≤ 400) (hd : depF plF rtF l = 0) (hB : ∀ x ∈ l, RgB x) : SpOk (Fo.cons false emB sp lo ats ks .nil) := by
  have hpl : (Fo.cons false emB sp lo ats ks .nil).pln = .cons false emB sp lo ats ks .nil := by
    rw [Fo.pln, if_neg (by decide), hp]
    rfl
  refine ⟨?_, by rw [← hl]; omega, by rw [← hl]; exact doc_lim hd hB⟩
  have := siz_pln (Fo.cons false emB sp lo ats ks .nil)
  rw [hpl, ← hl] at this
  omega
theorem pln_el (tx sp lo : ByteArray) (ats : List P3) (ks : Fo) : (Fo.cons false tx sp lo ats ks .nil).pln = .cons false emB sp lo ats ks.pln .nil := by
  rw [Fo.pln, if_neg (by decide)]
  rfl
theorem evs_el0 (tx sp lo : ByteArray) (ats : List P3) (ks : Fo) : (Fo.cons false tx sp lo ats ks .nil).evs = (Fo.cons false emB sp lo ats ks.pln .nil).evs := by
  rw [← pln_el tx sp lo ats ks, evs_pln]
set_option maxHeartbeats 5000000 in
set_option maxRecDepth 100000 in
theorem back_law (A : Option Addr) (n c : Nat) (l : List RE) (t : Bool) (tx sp lo : ByteArray) (ats : List P3) (ks : Fo) (Aa : Option Addr) (na ca : Nat) (Ak : Option Addr) (nk ck : Nat) (w : World) (TL : EvsIn w A n c l) (T : Tr1 (· < w.heap.size) w tx sp lo ats ks Aa na ca Ak nk ck) (hZ : (Fo.cons t tx sp lo ats ks .nil).szs) : Calls Try.prog 6 #[.slice A n c, .agg #[.bool t, .string tx, .string sp, .string lo, .slice Aa na ca, .slice Ak nk ck]] w fun e w' => e = .returned (.bool true) ∧ Below w.heap.size w w' := by
  have HAw := Lib.hid awake_any
  have X0 : Hid (WX w t tx sp lo ats ks Aa na ca Ak nk ck w.heap.size A n c l (w.alloc (.cells #[.bool t, .string tx, .string sp, .string lo, .slice Aa na ca, .slice Ak nk ck] 30))) := Lib.hid ⟨TbX.mk' (Below.refl _ _) T, TL.keep (box_below w _)⟩
  have HZ := Lib.hid hZ
  clear T hZ TL
  go_enter Try.func6, Try.ntmps6
  go_upto_region 1 with fail
  generalize w.alloc (.cells #[.bool t, .string tx, .string sp, .string lo, .slice Aa na ca, .slice Ak nk ck] 30) = W0 at *
  have Hb := Lib.hid X0.out.tb.bel
  generalize w.heap.size = tb at *
  have CFl : Hid (∀ W, WX w t tx sp lo ats ks Aa na ca Ak nk ck tb A n c l W → Calls Try.prog 9 #[.slice A n c] W (FwPost l W)) := Lib.hid fun W h => few_any A n c l W h.ev
  go_wp2_with fail
  refine (HAw.out W0).mono ?_
  rintro e w1 ⟨rfl, b1⟩
  have X1 := Lib.hid (X0.out.keep b1)
  clear b1 X0
  have C1 := Lib.hid (CFl.out w1 X1.out)
  clear CFl
  go_wp2_with fail
  refine C1.out.mono ?_
  rintro e w1' ⟨bl, rfl, hl, rfl⟩
  clear C1
  cases bl with
  | false =>
    clear hl
    go_wp2_with fail
    refine (HAw.out w1).mono ?_
    rintro e w3 ⟨rfl, b3⟩
    have X3 := Lib.hid (X1.out.keep b3)
    clear b3
    go_wp2
    go_ret
    exact ⟨rfl, X3.out.tb.bel⟩
  | true =>
  obtain ⟨hl4, hlf⟩ := hl rfl
  have HLf := Lib.hid hlf
  clear hl hlf
  obtain ⟨d0, d1, d2, d3, d4, d5⟩ := X1.out.tb.s6
  have CF := Lib.hid (tfew_any t tx sp lo ats ks Aa na ca Ak nk ck _ w1 X1.out.tb.tr)
  go_wp2_with fail
  refine CF.out.mono ?_
  rintro e w2 ⟨bf, rfl, hf, b2⟩
  have X2 := Lib.hid (X1.out.keep b2)
  clear b2 CF X1 d0 d1 d2 d3 d4 d5
  cases bf with
  | false =>
    clear hf
    go_wp2_with fail
    refine (HAw.out w2).mono ?_
    rintro e w3 ⟨rfl, b3⟩
    have X3 := Lib.hid (X2.out.keep b3)
    clear b3
    go_wp2
    go_ret
    exact ⟨rfl, X3.out.tb.bel⟩
  | true =>
    have hsz := (hf rfl).1
    have hks : ks.siz ≤ 1000 := by rw [Fo.siz, Fo.siz] at hsz; omega
    clear hf
    have CWd : Hid (∀ W, WX w t tx sp lo ats ks Aa na ca Ak nk ck tb A n c l W → _) := Lib.hid fun W h => dword_any t tx sp lo ats ks Aa na ca Ak nk ck W hks h.tb.tr
    have CFw : Hid (∀ W A c, EvsIn W A (Fo.cons t tx sp lo ats ks .nil).evs.length c (Fo.cons t tx sp lo ats ks .nil).evs → Calls Try.prog 9 #[.slice A (Fo.cons t tx sp lo ats ks .nil).evs.length c] W (FwPost (Fo.cons t tx sp lo ats ks .nil).evs W)) := Lib.hid fun W A c h => few_any A _ c _ W h
    have hev1 := evs_len (Fo.cons t tx sp lo ats ks .nil)
    generalize hE : (Fo.cons t tx sp lo ats ks .nil).evs = E at *
    have HE := Lib.hid hE
    clear hE
    obtain ⟨d0, d1, d2, d3, d4, d5⟩ := X2.out.tb.s6
    go_wp2_with fail
    refine (CWd.out w2 X2.out).mono ?_
    rintro e w3 ⟨A3, c3, rfl, T3, b3⟩
    have X3 := Lib.hid (X2.out.keep b3)
    have C3 := Lib.hid (CFw.out w3 A3 c3 T3)
    clear b3 X2 T3 CFw CWd d0 d1 d2 d3 d4 d5
    go_wp2_with fail
    refine C3.out.mono ?_
    rintro e w4 ⟨bw, rfl, hw, rfl⟩
    cases bw with
    | false =>
      clear hw
      go_wp2_with fail
      refine (HAw.out w3).mono ?_
      rintro e w5 ⟨rfl, b5⟩
      have X5 := Lib.hid (X3.out.keep b5)
      clear b5
      go_wp2
      go_ret
      exact ⟨rfl, X5.out.tb.bel⟩
    | true =>
      obtain ⟨hE4, hfe⟩ := hw rfl
      have hfe' := hfe
      rw [← HE.out] at hfe' hE4
      have HS := Lib.hid (few_spok (by omega) hE4 hfe' HZ.out)
      rw [HE.out] at hE4
      have HR : Hid (∀ x ∈ E, RgB x) := Lib.hid fun x hx => by
        obtain ⟨k, hk⟩ := List.getElem?_of_mem hx
        exact few_rgb (hfe k x hk)
      have HRl : Hid (∀ x ∈ l, RgB x) := Lib.hid fun x hx => by
        obtain ⟨k, hk⟩ := List.getElem?_of_mem hx
        exact few_rgb (HLf.out k x hk)
      clear hfe hfe' hw C3 HAw HLf
      have HNL := Lib.hid X3.out.ev.len
      have hn4 : n ≤ 400 := by have := HNL.out; omega
      have CO := Lib.hid (tof_any A n c l w3 X3.out.ev (by omega) HRl.out)
      have CW : Hid (∀ W, WX w t tx sp lo ats ks Aa na ca Ak nk ck tb A n c l W → Calls Try.prog 17 #[.agg #[.bool t, .string tx, .string sp, .string lo, .slice Aa na ca, .slice Ak nk ck]] W fun e w' => ∃ A c, e = .returned (.slice A E.length c) ∧ EvsIn w' A E.length c E ∧ Below W.heap.size W w') := Lib.hid fun W h => by
        refine (tword_any t tx sp lo ats ks Aa na ca Ak nk ck W h.tb.tr HS.out).mono fun e w' q => ?_
        obtain ⟨A, c, Q, rfl, o, m, b⟩ := q
        rw [HE.out] at m
        have hq : Q.length = E.length := by rw [← m, List.length_map]
        have T := o.evs rfl (by omega)
        rw [m, hq] at T
        exact ⟨A, c, by rw [hq], T, b⟩
      have CR : Hid (∀ W, WX w t tx sp lo ats ks Aa na ca Ak nk ck tb A n c l W → Calls Try.prog 18 #[.agg #[.bool t, .string tx, .string sp, .string lo, .slice Aa na ca, .slice Ak nk ck]] W fun e w' => e = .returned (.bool (!t && decide (depF plF rtF E = 0))) ∧ Below W.heap.size W w') := Lib.hid fun W h => by
        have q := tright_any t tx sp lo ats ks Aa na ca Ak nk ck W h.tb.tr HS.out (by rw [HE.out]; exact HR.out)
        rw [HE.out] at q
        exact q
      by_cases hW : depF plF rtF l = 0 ∧ 0 < n
      · have hne : l ≠ [] := fun e => by have hnl := HNL.out; rw [e, List.length_nil] at hnl; omega
        obtain ⟨sp', lo', ats', ks', hl, hp⟩ := doc_tree hW.1 hne
        have HS' := Lib.hid (tree_spok (n := n) hl hp hl4 hW.1 HRl.out)
        have CO2 : Hid (Calls Try.prog 10 #[.slice A n c] w3 fun e w' => ∃ Aa na ca Ak nk ck, e = .returned (.tuple #[.agg #[.bool false, .string emB, .string sp', .string lo', .slice Aa na ca, .slice Ak nk ck], .bool true]) ∧ Tr1 (Lo w3.heap.size w') w' emB sp' lo' ats' ks' Aa na ca Ak nk ck ∧ Below w3.heap.size w3 w') := Lib.hid (CO.out.mono fun e w' h => of_at h hl hp hW.1 hW.2)
        have HL := Lib.hid hl
        have HD := Lib.hid hW.1
        clear hW hne hl hp CO
        go_wp2_with fail
        refine CO2.out.mono ?_
        rintro e w4 ⟨Aa', na', ca', Ak', nk', ck', rfl, tr, b4⟩
        have Z4 : Hid (TbX w false emB sp' lo' ats' ks' Aa' na' ca' Ak' nk' ck' w4.heap.size (w4.alloc (.cells #[.bool false, .string emB, .string sp', .string lo', .slice Aa' na' ca', .slice Ak' nk' ck'] 30))) := Lib.hid (TbX.mk' (X3.out.tb.bel.trans (b4.mono X3.out.tb.bel.size)) tr)
        have X4 := Lib.hid ((X3.out.keep b4).keep (box_below w4 (.cells #[.bool false, .string emB, .string sp', .string lo', .slice Aa' na' ca', .slice Ak' nk' ck'] 30)))
        clear tr b4 CO2 X3
        go_upto_region 4 with fail
        generalize w4.alloc (.cells #[.bool false, .string emB, .string sp', .string lo', .slice Aa' na' ca', .slice Ak' nk' ck'] 30) = W4 at *
        generalize w4.heap.size = xb at *
        obtain ⟨d0, d1, d2, d3, d4, d5⟩ := Z4.out.s6
        have CW4 : Hid (Calls Try.prog 17 #[.agg #[.bool false, .string emB, .string sp', .string lo', .slice Aa' na' ca', .slice Ak' nk' ck']] W4 fun e w' => ∃ A c, e = .returned (.slice A n c) ∧ EvsIn w' A n c l ∧ Below W4.heap.size W4 w') := Lib.hid (by
          refine (tword_any false emB sp' lo' ats' ks' Aa' na' ca' Ak' nk' ck' W4 Z4.out.tr HS'.out).mono fun e w' q => ?_
          obtain ⟨A, c, Q, rfl, o, m, b⟩ := q
          have hq : Q.length = n := by rw [HNL.out, HL.out, ← m, List.length_map]
          have T := o.evs rfl (by omega)
          rw [m, ← HL.out, hq] at T
          exact ⟨A, c, by rw [hq], T, b⟩)
        go_wp2_with fail
        refine CW4.out.mono ?_
        rintro e w5 ⟨A5, c5, rfl, T5, b5⟩
        have Z5 := Lib.hid (Z4.out.keep b5)
        have X5 := Lib.hid (X4.out.keep b5)
        have CS := Lib.hid (same_any l n A5 A c5 c w5 T5 X5.out.ev)
        clear b5 T5 CW4 Z4 X4 d0 d1 d2 d3 d4 d5
        go_wp2_with fail
        refine CS.out.mono ?_
        rintro e w6 ⟨rfl, b6⟩
        have Z6 := Lib.hid (Z5.out.keep b6)
        have X6 := Lib.hid (X5.out.keep b6)
        clear b6 CS Z5 X5
        obtain ⟨d0, d1, d2, d3, d4, d5⟩ := Z6.out.s6
        have CR6 : Hid (Calls Try.prog 18 #[.agg #[.bool false, .string emB, .string sp', .string lo', .slice Aa' na' ca', .slice Ak' nk' ck']] w6 fun e w' => e = .returned (.bool true) ∧ Below w6.heap.size w6 w') := Lib.hid (by
          have q := tright_any false emB sp' lo' ats' ks' Aa' na' ca' Ak' nk' ck' w6 Z6.out.tr HS'.out (by rw [← HL.out]; exact HRl.out)
          rw [← HL.out, decide_eq_true HD.out] at q
          exact q)
        go_wp2_with fail
        refine CR6.out.mono ?_
        rintro e w7 ⟨rfl, b7⟩
        have X7 := Lib.hid (X6.out.keep b7)
        clear b7 CR6 Z6 X6 HL HD HS' HRl d0 d1 d2 d3 d4 d5
        obtain ⟨d0, d1, d2, d3, d4, d5⟩ := X7.out.tb.s6
        have C7 := Lib.hid (CR.out w7 X7.out)
        go_wp2_with fail
        refine C7.out.mono ?_
        rintro e w8 ⟨rfl, b8⟩
        have X8 := Lib.hid (X7.out.keep b8)
        clear b8 CR C7 X7 d0 d1 d2 d3 d4 d5
        cases hr : (!t && decide (depF plF rtF E = 0)) with
        | false =>
          clear hr
          go_wp2
          go_ret
          exact ⟨rfl, X8.out.tb.bel⟩
        | true =>
          have ht : t = false := by
            cases t
            · rfl
            · simp at hr
          subst ht
          have hd : depF plF rtF E = 0 := by simpa using hr
          have hE2 : E = (Fo.cons false emB sp lo ats ks.pln .nil).evs := by rw [← HE.out, evs_el0]
          have hEp : 0 < E.length := by
            have := evs_one_pos false tx sp lo ats ks
            rw [HE.out] at this
            omega
          have hpk : ks.pln.siz ≤ 1000 := by
            have := siz_pln (Fo.cons false tx sp lo ats ks .nil)
            rw [pln_el, Fo.siz, HE.out] at this
            omega
          have hc1 : (Fo.cons false tx sp lo ats ks .nil).cnt = numG E := by rw [← num_evs, HE.out]
          have hc2 : (Fo.cons false emB sp lo ats ks.pln .nil).cnt = numG E := by rw [← num_evs, ← hE2]
          have CO3 : Hid (∀ W A c, EvsIn W A E.length c E → Calls Try.prog 10 #[.slice A E.length c] W fun e w' => ∃ Aa na ca Ak nk ck, e = .returned (.tuple #[.agg #[.bool false, .string emB, .string sp, .string lo, .slice Aa na ca, .slice Ak nk ck], .bool true]) ∧ Tr1 (Lo W.heap.size w') w' emB sp lo ats ks.pln Aa na ca Ak nk ck ∧ Below W.heap.size W w') := Lib.hid fun W A c h => (tof_any A E.length c E W h (by omega) HR.out).mono fun e w' q => of_at q hE2 (pln_pln ks) hd hEp
          have CP : Hid (∀ W, TbX w false tx sp lo ats ks Aa na ca Ak nk ck tb W → Calls Try.prog 25 #[.agg #[.bool false, .string tx, .string sp, .string lo, .slice Aa na ca, .slice Ak nk ck]] W fun e w' => ∃ Aa na ca Ak nk ck, e = .returned (.agg #[.bool false, .string emB, .string sp, .string lo, .slice Aa na ca, .slice Ak nk ck]) ∧ (∃ P : Nat → Prop, Tr1 P w' emB sp lo ats ks.pln Aa na ca Ak nk ck) ∧ Below W.heap.size W w') := Lib.hid fun W h => by
            refine (plain_all (ks.siz + 1) false tx sp lo ats ks Aa na ca Ak nk ck W.heap.size W (Nat.lt_succ_self _) hks (Nat.le_refl _) h.tr).mono fun e w' q => ?_
            obtain ⟨t2, tx2, sp2, lo2, ats2, ks2, Aa2, na2, ca2, Ak2, nk2, ck2, e1, e2, e3, e4⟩ := q
            rw [pln_el] at e1
            injection e1 with q1 q2 q3 q4 q5 q6 _
            subst q1 q2 q3 q4 q5 q6
            exact ⟨Aa2, na2, ca2, Ak2, nk2, ck2, e2, ⟨_, e3⟩, e4⟩
          have CC1 : Hid (∀ W, TbX w false tx sp lo ats ks Aa na ca Ak nk ck tb W → Calls Try.prog 19 #[.agg #[.bool false, .string tx, .string sp, .string lo, .slice Aa na ca, .slice Ak nk ck]] W fun e w' => e = .returned (.int .i64 (numG E : Int)) ∧ Below W.heap.size W w') := Lib.hid fun W h => by
            have q := count_all (ks.siz + 1) false tx sp lo ats ks Aa na ca Ak nk ck _ W (Nat.lt_succ_self _) hks h.tr
            rw [hc1] at q
            exact q
          have CC2 : Hid (∀ W Aa na ca Ak nk ck P, Tr1 P W emB sp lo ats ks.pln Aa na ca Ak nk ck → Calls Try.prog 19 #[.agg #[.bool false, .string emB, .string sp, .string lo, .slice Aa na ca, .slice Ak nk ck]] W fun e w' => e = .returned (.int .i64 (numG E : Int)) ∧ Below W.heap.size W w') := Lib.hid fun W Aa na ca Ak nk ck P h => by
            have q := count_all (ks.pln.siz + 1) false emB sp lo ats ks.pln Aa na ca Ak nk ck P W (Nat.lt_succ_self _) hpk h
            rw [hc2] at q
            exact q
          have C8 := Lib.hid (CW.out w8 X8.out)
          obtain ⟨d0, d1, d2, d3, d4, d5⟩ := X8.out.tb.s6
          clear hr hd hE2 hpk hc1 hc2 CW HR HS HZ HE
          generalize numG E = nn at *
          generalize E.length = m at *
          generalize ks.pln = kp at *
          go_wp2_with fail
          refine C8.out.mono ?_
          rintro e w9 ⟨A9, c9, rfl, T9, b9⟩
          have X9 := Lib.hid (X8.out.keep b9)
          have C9 := Lib.hid (CO3.out w9 A9 c9 T9)
          clear b9 T9 CO3 C8 X8 d0 d1 d2 d3 d4 d5
          go_wp2_with fail
          refine C9.out.mono ?_
          rintro e w10 ⟨Ay, ny, cy, Aq, nq, cq, rfl, tr, b10⟩
          have Y10 : Hid (YX w false tx sp lo ats ks Aa na ca Ak nk ck tb kp Ay ny cy Aq nq cq w10.heap.size (w10.alloc (.cells #[.bool false, .string emB, .string sp, .string lo, .slice Ay ny cy, .slice Aq nq cq] 30))) := Lib.hid ⟨((X9.out.keep b10).keep (box_below w10 _)).tb, TbX.mk' (X9.out.tb.bel.trans (b10.mono X9.out.tb.bel.size)) tr⟩
          clear tr b10 C9 X9
          go_upto_region 9 with fail
          generalize w10.alloc (.cells #[.bool false, .string emB, .string sp, .string lo, .slice Ay ny cy, .slice Aq nq cq] 30) = W10 at *
          generalize w10.heap.size = yb at *
          have Y11 := Lib.hid (Y10.out.keep (Below.refl _ W10).drew)
          clear Y10
          go_region_held3 (fun W => W.cell? ⟨tb, 0, none⟩ = some (.bool false) ∧ W.cell? ⟨tb, 1, none⟩ = some (.string tx) ∧ W.cell? ⟨tb, 2, none⟩ = some (.string sp) ∧ W.cell? ⟨tb, 3, none⟩ = some (.string lo) ∧ W.cell? ⟨tb, 4, none⟩ = some (.slice Aa na ca) ∧ W.cell? ⟨tb, 5, none⟩ = some (.slice Ak nk ck) ∧ W.cell? ⟨yb, 0, none⟩ = some (.bool false) ∧ W.cell? ⟨yb, 1, none⟩ = some (.string emB) ∧ W.cell? ⟨yb, 2, none⟩ = some (.string sp) ∧ W.cell? ⟨yb, 3, none⟩ = some (.string lo) ∧ W.cell? ⟨yb, 4, none⟩ = some (.slice Ay ny cy) ∧ W.cell? ⟨yb, 5, none⟩ = some (.slice Aq nq cq))
            (first
              | with_reducible exact Y11.out.s12
              | with_reducible exact Y12.out.s12
              | with_reducible exact Y13.out.s12
              | with_reducible exact Y14.out.s12
              | with_reducible exact Y15.out.s12
              | fail)
            (first
              | (go_at_call 25
                 refine (CP.out W10.drew Y11.out.tb).mono ?_
                 rintro e w12 ⟨Az, nz, cz, Az', nz', cz', rfl, ⟨P, tz⟩, b12⟩
                 have Y12 := Lib.hid (Y11.out.keep b12)
                 have R12 := Lib.hid tz
                 clear b12 tz)
              | (go_at_call 12
                 refine (same_refl false emB sp lo ats kp Ay ny cy Aq nq cq Az nz cz Az' nz' cz' _ _ w12 Y12.out.yb.tr R12.out).mono ?_
                 rintro e w13 ⟨rfl, b13⟩
                 have Y13 := Lib.hid (Y12.out.keep b13)
                 clear b13)
              | (go_at_call 19
                 refine (CC1.out w14 Y14.out.tb).mono ?_
                 rintro e w15 ⟨rfl, b15⟩
                 have Y15 := Lib.hid (Y14.out.keep b15)
                 clear b15)
              | (go_at_call 19
                 refine (CC2.out w13 Ay ny cy Aq nq cq _ Y13.out.yb.tr).mono ?_
                 rintro e w14 ⟨rfl, b14⟩
                 have Y14 := Lib.hid (Y13.out.keep b14)
                 clear b14)
              | fail)
          all_goals
            rename_i hHeld
            clear hHeld
            go_wp2
            go_ret
            exact ⟨rfl, Y15.out.tb.bel⟩
      · have CO2 : Hid (Calls Try.prog 10 #[.slice A n c] w3 fun e w' => e = .returned (.tuple #[.agg #[.bool false, .string ⟨#[]⟩, .string ⟨#[]⟩, .string ⟨#[]⟩, .slice none 0 0, .slice none 0 0], .bool false]) ∧ Below w3.heap.size w3 w') := Lib.hid (CO.out.mono fun e w' h => ⟨h.2.1 hW, h.1⟩)
        clear hW CO
        go_wp2_with fail
        refine CO2.out.mono ?_
        rintro e w4 ⟨rfl, b4⟩
        have X7 := Lib.hid ((X3.out.keep b4).keep (box_below w4 (.cells #[.bool false, .string ⟨#[]⟩, .string ⟨#[]⟩, .string ⟨#[]⟩, .slice none 0 0, .slice none 0 0] 30)))
        clear b4 CO2 X3 HRl
        go_upto_region 4 with fail
        generalize w4.alloc (.cells #[.bool false, .string ⟨#[]⟩, .string ⟨#[]⟩, .string ⟨#[]⟩, .slice none 0 0, .slice none 0 0] 30) = w7 at *
        generalize w4.heap.size = xb at *
        obtain ⟨d0, d1, d2, d3, d4, d5⟩ := X7.out.tb.s6
        have C7 := Lib.hid (CR.out w7 X7.out)
        go_wp2_with fail
        refine C7.out.mono ?_
        rintro e w8 ⟨rfl, b8⟩
        have X8 := Lib.hid (X7.out.keep b8)
        clear b8 CR C7 X7 d0 d1 d2 d3 d4 d5
        cases hr : (!t && decide (depF plF rtF E = 0)) with
        | false =>
          clear hr
          go_wp2
          go_ret
          exact ⟨rfl, X8.out.tb.bel⟩
        | true =>
          have ht : t = false := by
            cases t
            · rfl
            · simp at hr
          subst ht
          have hd : depF plF rtF E = 0 := by simpa using hr
          have hE2 : E = (Fo.cons false emB sp lo ats ks.pln .nil).evs := by rw [← HE.out, evs_el0]
          have hEp : 0 < E.length := by
            have := evs_one_pos false tx sp lo ats ks
            rw [HE.out] at this
            omega
          have hpk : ks.pln.siz ≤ 1000 := by
            have := siz_pln (Fo.cons false tx sp lo ats ks .nil)
            rw [pln_el, Fo.siz, HE.out] at this
            omega
          have hc1 : (Fo.cons false tx sp lo ats ks .nil).cnt = numG E := by rw [← num_evs, HE.out]
          have hc2 : (Fo.cons false emB sp lo ats ks.pln .nil).cnt = numG E := by rw [← num_evs, ← hE2]
          have CO3 : Hid (∀ W A c, EvsIn W A E.length c E → Calls Try.prog 10 #[.slice A E.length c] W fun e w' => ∃ Aa na ca Ak nk ck, e = .returned (.tuple #[.agg #[.bool false, .string emB, .string sp, .string lo, .slice Aa na ca, .slice Ak nk ck], .bool true]) ∧ Tr1 (Lo W.heap.size w') w' emB sp lo ats ks.pln Aa na ca Ak nk ck ∧ Below W.heap.size W w') := Lib.hid fun W A c h => (tof_any A E.length c E W h (by omega) HR.out).mono fun e w' q => of_at q hE2 (pln_pln ks) hd hEp
          have CP : Hid (∀ W, TbX w false tx sp lo ats ks Aa na ca Ak nk ck tb W → Calls Try.prog 25 #[.agg #[.bool false, .string tx, .string sp, .string lo, .slice Aa na ca, .slice Ak nk ck]] W fun e w' => ∃ Aa na ca Ak nk ck, e = .returned (.agg #[.bool false, .string emB, .string sp, .string lo, .slice Aa na ca, .slice Ak nk ck]) ∧ (∃ P : Nat → Prop, Tr1 P w' emB sp lo ats ks.pln Aa na ca Ak nk ck) ∧ Below W.heap.size W w') := Lib.hid fun W h => by
            refine (plain_all (ks.siz + 1) false tx sp lo ats ks Aa na ca Ak nk ck W.heap.size W (Nat.lt_succ_self _) hks (Nat.le_refl _) h.tr).mono fun e w' q => ?_
            obtain ⟨t2, tx2, sp2, lo2, ats2, ks2, Aa2, na2, ca2, Ak2, nk2, ck2, e1, e2, e3, e4⟩ := q
            rw [pln_el] at e1
            injection e1 with q1 q2 q3 q4 q5 q6 _
            subst q1 q2 q3 q4 q5 q6
            exact ⟨Aa2, na2, ca2, Ak2, nk2, ck2, e2, ⟨_, e3⟩, e4⟩
          have CC1 : Hid (∀ W, TbX w false tx sp lo ats ks Aa na ca Ak nk ck tb W → Calls Try.prog 19 #[.agg #[.bool false, .string tx, .string sp, .string lo, .slice Aa na ca, .slice Ak nk ck]] W fun e w' => e = .returned (.int .i64 (numG E : Int)) ∧ Below W.heap.size W w') := Lib.hid fun W h => by
            have q := count_all (ks.siz + 1) false tx sp lo ats ks Aa na ca Ak nk ck _ W (Nat.lt_succ_self _) hks h.tr
            rw [hc1] at q
            exact q
          have CC2 : Hid (∀ W Aa na ca Ak nk ck P, Tr1 P W emB sp lo ats ks.pln Aa na ca Ak nk ck → Calls Try.prog 19 #[.agg #[.bool false, .string emB, .string sp, .string lo, .slice Aa na ca, .slice Ak nk ck]] W fun e w' => e = .returned (.int .i64 (numG E : Int)) ∧ Below W.heap.size W w') := Lib.hid fun W Aa na ca Ak nk ck P h => by
            have q := count_all (ks.pln.siz + 1) false emB sp lo ats ks.pln Aa na ca Ak nk ck P W (Nat.lt_succ_self _) hpk h
            rw [hc2] at q
            exact q
          have C8 := Lib.hid (CW.out w8 X8.out)
          obtain ⟨d0, d1, d2, d3, d4, d5⟩ := X8.out.tb.s6
          clear hr hd hE2 hpk hc1 hc2 CW HR HS HZ HE
          generalize numG E = nn at *
          generalize E.length = m at *
          generalize ks.pln = kp at *
          go_wp2_with fail
          refine C8.out.mono ?_
          rintro e w9 ⟨A9, c9, rfl, T9, b9⟩
          have X9 := Lib.hid (X8.out.keep b9)
          have C9 := Lib.hid (CO3.out w9 A9 c9 T9)
          clear b9 T9 CO3 C8 X8 d0 d1 d2 d3 d4 d5
          go_wp2_with fail
          refine C9.out.mono ?_
          rintro e w10 ⟨Ay, ny, cy, Aq, nq, cq, rfl, tr, b10⟩
          have Y10 : Hid (YX w false tx sp lo ats ks Aa na ca Ak nk ck tb kp Ay ny cy Aq nq cq w10.heap.size (w10.alloc (.cells #[.bool false, .string emB, .string sp, .string lo, .slice Ay ny cy, .slice Aq nq cq] 30))) := Lib.hid ⟨((X9.out.keep b10).keep (box_below w10 _)).tb, TbX.mk' (X9.out.tb.bel.trans (b10.mono X9.out.tb.bel.size)) tr⟩
          clear tr b10 C9 X9
          go_upto_region 9 with fail
          generalize w10.alloc (.cells #[.bool false, .string emB, .string sp, .string lo, .slice Ay ny cy, .slice Aq nq cq] 30) = W10 at *
          generalize w10.heap.size = yb at *
          have Y11 := Lib.hid (Y10.out.keep (Below.refl _ W10).drew)
          clear Y10
          go_region_held3 (fun W => W.cell? ⟨tb, 0, none⟩ = some (.bool false) ∧ W.cell? ⟨tb, 1, none⟩ = some (.string tx) ∧ W.cell? ⟨tb, 2, none⟩ = some (.string sp) ∧ W.cell? ⟨tb, 3, none⟩ = some (.string lo) ∧ W.cell? ⟨tb, 4, none⟩ = some (.slice Aa na ca) ∧ W.cell? ⟨tb, 5, none⟩ = some (.slice Ak nk ck) ∧ W.cell? ⟨yb, 0, none⟩ = some (.bool false) ∧ W.cell? ⟨yb, 1, none⟩ = some (.string emB) ∧ W.cell? ⟨yb, 2, none⟩ = some (.string sp) ∧ W.cell? ⟨yb, 3, none⟩ = some (.string lo) ∧ W.cell? ⟨yb, 4, none⟩ = some (.slice Ay ny cy) ∧ W.cell? ⟨yb, 5, none⟩ = some (.slice Aq nq cq))
            (first
              | with_reducible exact Y11.out.s12
              | with_reducible exact Y12.out.s12
              | with_reducible exact Y13.out.s12
              | with_reducible exact Y14.out.s12
              | with_reducible exact Y15.out.s12
              | fail)
            (first
              | (go_at_call 25
                 refine (CP.out W10.drew Y11.out.tb).mono ?_
                 rintro e w12 ⟨Az, nz, cz, Az', nz', cz', rfl, ⟨P, tz⟩, b12⟩
                 have Y12 := Lib.hid (Y11.out.keep b12)
                 have R12 := Lib.hid tz
                 clear b12 tz)
              | (go_at_call 12
                 refine (same_refl false emB sp lo ats kp Ay ny cy Aq nq cq Az nz cz Az' nz' cz' _ _ w12 Y12.out.yb.tr R12.out).mono ?_
                 rintro e w13 ⟨rfl, b13⟩
                 have Y13 := Lib.hid (Y12.out.keep b13)
                 clear b13)
              | (go_at_call 19
                 refine (CC1.out w14 Y14.out.tb).mono ?_
                 rintro e w15 ⟨rfl, b15⟩
                 have Y15 := Lib.hid (Y14.out.keep b15)
                 clear b15)
              | (go_at_call 19
                 refine (CC2.out w13 Ay ny cy Aq nq cq _ Y13.out.yb.tr).mono ?_
                 rintro e w14 ⟨rfl, b14⟩
                 have Y14 := Lib.hid (Y13.out.keep b14)
                 clear b14)
              | fail)
          all_goals
            rename_i hHeld
            clear hHeld
            go_wp2
            go_ret
            exact ⟨rfl, Y15.out.tb.bel⟩
end Go.Proofs.Ytaoggciebkaakaa.Ev
