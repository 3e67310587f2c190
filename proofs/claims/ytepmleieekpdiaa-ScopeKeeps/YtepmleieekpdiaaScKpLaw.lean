/-
  The walk of the law ScopeKeeps.
-/
import Derived.Test.YtepmleieekpdiaaScKpMem
import Derived.Deep.RegionHeld3
set_option linter.unusedSimpArgs false
set_option linter.unusedVariables false
namespace Go.Proofs.Ytepmleieekpdiaa
open Go.RowKit

set_option maxHeartbeats 4000000 in
set_option maxRecDepth 100000 in
theorem kp_out (A A2 : Option Addr) (N M cap cap2 : Nat) (nm : ByteArray) (w : World) (CF : Hid (SmC A A2 N M cap cap2 nm false w)) :
    Calls Try.prog 6 #[.slice A N cap, .agg #[.string nm, .slice A2 M cap2]] w fun e w' => e = .returned (.bool true) ∧ Below w.heap.size w w' := by
  have CW : Hid AwC := Lib.hid awake_any
  have H0 := Lib.hid (tgb_start w nm A2 M cap2)
  go_enter Try.func6, Try.ntmps6
  go_wp2_with fail
  refine (CW.out _).mono ?_
  rintro e w1 ⟨rfl, hb1⟩
  have H1 := Lib.hid (H0.out.keep hb1)
  have t0 := cells_of H1.out.1 0 (u := .string nm) rfl
  have t1 := cells_of H1.out.1 1 (u := .slice A2 M cap2) rfl
  clear hb1 H0
  go_wp2_with fail
  refine (CF.out _ H1.out.2).mono ?_
  rintro e w2 ⟨rfl, hb2⟩
  have H2 := Lib.hid (H1.out.keep hb2)
  clear t0 t1 hb2 H1
  go_wp2_with fail
  refine (CW.out _).mono ?_
  rintro e w3 ⟨rfl, hb3⟩
  go_wp2
  go_ret
  exact ⟨rfl, (H2.out.keep hb3).2⟩
def KpR (S : Nat) (W4 : World) (n : Nat) (A' : Option Addr) (NW : Nat) (Aa : Option Addr) (NF be : Nat) (kd : Int) (na nb : ByteArray) (ca : Nat) (i : Value) (wr : World) : Prop :=
  ∃ k : Nat, i = .int .i64 k ∧ k ≤ n ∧ Hid (Below S W4 wr) ∧ Hid (Row 50 2 A' NW S wr) ∧ Hid (Row 53 3 Aa NF S wr) ∧ Hid (EvB be kd na nb (.slice Aa NF ca) wr) ∧ Hid (S ≤ wr.heap.size)
def KpN (S : Nat) (W4 : World) (bn : Nat) (i : Value) (wr : World) : Prop :=
  ∃ k : Nat, i = .int .i64 k ∧ k ≤ 1 ∧ Hid (Below S W4 wr) ∧ Hid (S ≤ wr.heap.size) ∧ ∃ x : Value, Hid (wr.heap[bn]? = some (.cells #[.string xm, x] 50 (0, 0)))
set_option maxHeartbeats 8000000 in
set_option maxRecDepth 100000 in
theorem kp_in (A A2 : Option Addr) (N M cap cap2 : Nat) (nm : ByteArray) (L R : List P2) (w : World) (o : Except Int (List P2 × P2 × List P3)) (hN : N = L.length) (hN1 : N ≤ 60) (hM : M = R.length) (hM1 : M ≤ 60) (hnilA : A = none → N = 0 ∧ cap = 0) (hnil : A2 = none → M = 0 ∧ cap2 = 0) (hRd : RdR w A L) (hRd2 : RdR w A2 R)
    (hol : ∀ Ws n f, o = .ok (Ws, n, f) → Ws.length ≤ 2000 ∧ f.length ≤ 1000)
    (CF : Hid (SmC A A2 N M cap cap2 nm true w)) (CE : Hid (EnC A A2 N M cap cap2 nm o w))
    (CS : Hid (∀ (A1 A3 : Option Addr) (k1 k3 : Nat) (W : World), RdR W A1 L → RdR W A3 L → Calls Try.prog 14 #[.slice A1 N k1, .slice A3 N k3] W fun e w' => e = .returned (.bool true) ∧ Below W.heap.size W w'))
    (CT : Hid (∀ (A1 A3 : Option Addr) (k1 k3 : Nat) (W : World), RdR W A1 R → RdR W A3 R → Calls Try.prog 19 #[.agg #[.string nm, .slice A1 M k1], .agg #[.string nm, .slice A3 M k3]] W fun e w' => e = .returned (.bool true) ∧ Below W.heap.size W w')) :
    Calls Try.prog 6 #[.slice A N cap, .agg #[.string nm, .slice A2 M cap2]] w fun e w' => e = .returned (.bool true) ∧ Below w.heap.size w w' := by
  have CW : Hid AwC := Lib.hid awake_any
  have CNew := Lib.hid (fun W => new_any W)
  have H0 := Lib.hid (tgb_start w nm A2 M cap2)
  obtain ⟨i50, ji, jy0, jy1, jy2⟩ := info_parts Try.info50
  obtain ⟨i57, hi, hy0, hy1, hy2⟩ := info_parts Try.info57
  have HN := Lib.hid hN
  have HM := Lib.hid hM
  have HNilA := Lib.hid hnilA
  have HNil := Lib.hid hnil
  have HRd := Lib.hid hRd
  have HRd2 := Lib.hid hRd2
  have HOL := Lib.hid hol
  have tok1 : True := trivial
  have xsl : (XS.toList == [104, 116, 116, 112, 58, 47, 47, 119, 119, 119, 46, 119, 51, 46, 111, 114, 103, 47, 88, 77, 76, 47, 49, 57, 57, 56, 47, 110, 97, 109, 101, 115, 112, 97, 99, 101]) = true := eqb_XS (eqb_self XS)
  clear hN hM hnilA hnil hRd hRd2 hol
  go_enter Try.func6, Try.ntmps6
  go_wp2_with fail
  refine (CW.out _).mono ?_
  rintro e w1 ⟨rfl, hb1⟩
  have H1 := Lib.hid (H0.out.keep hb1)
  have t0 := cells_of H1.out.1 0 (u := .string nm) rfl
  have t1 := cells_of H1.out.1 1 (u := .slice A2 M cap2) rfl
  clear hb1 H0 CW
  go_wp2_with fail
  refine (CF.out _ H1.out.2).mono ?_
  rintro e wa ⟨rfl, hb2⟩
  have Ha := Lib.hid (H1.out.keep hb2)
  have HRa := Lib.hid (HRd.out.keep Ha.out.2)
  have HE : Hid ((wa.alloc (.cells #[] 50)).ownsRow wa.heap.size 50 2 (.slice (some ⟨wa.heap.size, 0, none⟩) 0 0) 0 []) := Lib.hid (own_emp (nblk wa 50 #[]) (Nat.le_refl _))
  have HBe := Lib.hid ((Below.refl wa.heap.size wa).alloc (Nat.le_refl _) (.cells #[] 50))
  have HCe : Hid (∀ ad, A = some ad → ∀ j u, (rwL L)[j]? = some u → (wa.alloc (.cells #[] 50)).cell? (ad.add j) = some u) := Lib.hid (fun ad ha => by
    have := HRa.out.keep HBe.out
    rw [ha] at this
    exact this.cells)
  have HLLa : Hid ((rwL L).length = N * 2) := Lib.hid (by rw [rwL_len, HN.out])
  have HONEa := Lib.hid (rwL_one L)
  clear t0 t1 hb2 H1 CF
  go_wp2_with (first
    | (at_builtin; have _t := tok1
       refine wpList_append_any rfl _ _ 22 rfl wa.heap.size 50 i50 (.agg #[.string ⟨#[]⟩, .string ⟨#[]⟩]) 2 32 Try.underlying22 ji jy0 jy1 jy2 rfl (by decide) _ 0 [] rfl HE.out A N cap (rwL L) rfl HNilA.out HLLa.out HCe.out HONEa.out (by unfold maxLen; omega) (by omega) HBe.out.size ?_
       intro vw w2 hown5 hgrow5
       clear tok1
       have HB5 := Lib.hid (HBe.out.grown hgrow5 HBe.out.size (fun j hj => (World.ownsRow.lt HE.out j hj).1))
       rw [List.nil_append, Nat.zero_add, HN.out] at hown5
       obtain ⟨Aw, cw, rfl, hrdw⟩ := own_rdR' (n := N) hown5 HN.out
       have HRw := Lib.hid hrdw
       clear hown5 hgrow5 HE HBe HCe HLLa HONEa hrdw)
    | fail)
  have H2 := Lib.hid (Ha.out.keep HB5.out)
  have HRl := Lib.hid (HRa.out.keep HB5.out)
  have HR2 := Lib.hid (HRd2.out.keep H2.out.2)
  have k0 := cells_of H2.out.1 0 (u := .string nm) rfl
  have k1 := cells_of H2.out.1 1 (u := .slice A2 M cap2) rfl
  have hz2 : w.heap.size < w2.heap.size := (Array.getElem?_eq_some_iff.1 H2.out.1).1
  have HB2 := Lib.hid H2.out.2
  have hne2 : ¬ w.heap.size = w2.heap.size := by omega
  have hne3 : ¬ w.heap.size = w2.heap.size + 1 := by omega
  have hne4 : ¬ w2.heap.size = w.heap.size := by omega
  have hne5 : ¬ w2.heap.size + 1 = w.heap.size := by omega
  clear HB5 Ha HRa HRd HRd2 H2
  have Ba := ((Below.refl w2.heap.size w2).alloc (Nat.le_refl _) (.cells #[] 57)).drew
  have Bb := (((Below.refl w2.heap.size w2).alloc (Nat.le_refl _) (.cells #[] 57)).alloc (by simp) (.cells #[.string ⟨#[]⟩, .slice none 0 0] 25)).drew
  have Bc := (((Below.refl w2.heap.size w2).alloc (Nat.le_refl _) (.cells #[.string ⟨#[]⟩, .slice none 0 0] 25)).alloc (by simp) (.cells #[] 57)).drew
  have HOa := Lib.hid (own_emp (W := (w2.alloc (.cells #[] 57)).drew) (B := w2.heap.size) (h := w2.heap.size) (heap_alloc_new w2 _) (Nat.le_refl _))
  have HOb := Lib.hid (own_emp (W := ((w2.alloc (.cells #[] 57)).alloc (.cells #[.string ⟨#[]⟩, .slice none 0 0] 25)).drew) (B := w2.heap.size) (h := w2.heap.size) ((Below.heap_alloc _ _ _ (by simp)).trans (heap_alloc_new w2 _)) (Nat.le_refl _))
  have hzc : (w2.alloc (.cells #[.string ⟨#[]⟩, .slice none 0 0] 25)).heap.size = w2.heap.size + 1 := by simp
  have HOc : Hid (((w2.alloc (.cells #[.string ⟨#[]⟩, .slice none 0 0] 25)).alloc (.cells #[] 57)).drew.ownsRow w2.heap.size 57 2 (.slice (some ⟨w2.heap.size + 1, 0, none⟩) 0 0) 0 []) := Lib.hid (own_emp (by rw [← hzc]; exact heap_alloc_new _ _) (by omega))
  have HCa := Lib.hid (fun ad (e : A2 = some ad) => RdR.cells (w := (w2.alloc (.cells #[] 57)).drew) (ad := ad) (by rw [← e]; exact HR2.out.keep Ba))
  have HCb := Lib.hid (fun ad (e : A2 = some ad) => RdR.cells (w := ((w2.alloc (.cells #[] 57)).alloc (.cells #[.string ⟨#[]⟩, .slice none 0 0] 25)).drew) (ad := ad) (by rw [← e]; exact HR2.out.keep Bb))
  have HCc := Lib.hid (fun ad (e : A2 = some ad) => RdR.cells (w := ((w2.alloc (.cells #[.string ⟨#[]⟩, .slice none 0 0] 25)).alloc (.cells #[] 57)).drew) (ad := ad) (by rw [← e]; exact HR2.out.keep Bc))
  have HKa := Lib.hid (fun v' w3 z g => k3_of (w2 := w2) (W := (w2.alloc (.cells #[] 57)).drew) (w3 := w3) (l := R) (h := w2.heap.size) (v' := v') HM.out Ba (Nat.le_refl _) z g)
  have HKb := Lib.hid (fun v' w3 z g => k3_of (w2 := w2) (W := ((w2.alloc (.cells #[] 57)).alloc (.cells #[.string ⟨#[]⟩, .slice none 0 0] 25)).drew) (w3 := w3) (l := R) (h := w2.heap.size) (v' := v') HM.out Bb (Nat.le_refl _) z g)
  have HKc := Lib.hid (fun v' w3 z g => k3_of (w2 := w2) (W := ((w2.alloc (.cells #[.string ⟨#[]⟩, .slice none 0 0] 25)).alloc (.cells #[] 57)).drew) (w3 := w3) (l := R) (h := w2.heap.size + 1) (v' := v') HM.out Bc (by omega) z g)
  have HXb : Hid (∀ w3 : World, ((w2.alloc (.cells #[] 57)).alloc (.cells #[.string ⟨#[]⟩, .slice none 0 0] 25)).drew.grownBy w3 (Value.slice (some ⟨w2.heap.size, 0, none⟩) 0 0).ownBlock → w3.heap[w2.heap.size + 1]? = some (.cells #[.string ⟨#[]⟩, .slice none 0 0] 25 (0, 0))) := Lib.hid (fun w3 g => by
    have hz : (w2.alloc (.cells #[] 57)).heap.size = w2.heap.size + 1 := by simp
    refine (g.block (w2.heap.size + 1) (by show _ < ((w2.alloc (.cells #[] 57)).alloc (.cells #[.string ⟨#[]⟩, .slice none 0 0] 25)).heap.size; simp) (fun e => ?_)).trans ?_
    · have : some (w2.heap.size + 1) = some w2.heap.size := e
      injection this with this
      omega
    · show ((w2.alloc (.cells #[] 57)).alloc (.cells #[.string ⟨#[]⟩, .slice none 0 0] 25)).heap[w2.heap.size + 1]? = _
      rw [← hz]
      exact heap_alloc_new _ _)
  have HXc : Hid (∀ w3 : World, ((w2.alloc (.cells #[.string ⟨#[]⟩, .slice none 0 0] 25)).alloc (.cells #[] 57)).drew.grownBy w3 (Value.slice (some ⟨w2.heap.size + 1, 0, none⟩) 0 0).ownBlock → w3.heap[w2.heap.size]? = some (.cells #[.string ⟨#[]⟩, .slice none 0 0] 25 (0, 0))) := Lib.hid (fun w3 g => by
    refine (g.block w2.heap.size (by show _ < ((w2.alloc (.cells #[.string ⟨#[]⟩, .slice none 0 0] 25)).alloc (.cells #[] 57)).heap.size; simp; omega) (fun e => ?_)).trans ?_
    · have : some w2.heap.size = some (w2.heap.size + 1) := e
      injection this with this
      omega
    · show ((w2.alloc (.cells #[.string ⟨#[]⟩, .slice none 0 0] 25)).alloc (.cells #[] 57)).heap[w2.heap.size]? = _
      exact (Below.heap_alloc _ _ _ (by simp)).trans (heap_alloc_new w2 _))
  have HLL : Hid ((rwL R).length = M * 2) := Lib.hid (by rw [rwL_len, HM.out])
  have HONE := Lib.hid (rwL_one R)
  clear Ba Bb Bc hzc
  go_wp2_with fail
  go_region_held3 (fun W => W.cell? ⟨w.heap.size, 0, none⟩ = some (.string nm) ∧ W.cell? ⟨w.heap.size, 1, none⟩ = some (.slice A2 M cap2))
    (first
      | go_keep
      | exact ⟨s0, s1⟩
      | (go_split_ands; refine ⟨?_, ?_⟩ <;> simp [*]))
    (first
      | (refine step_append_any (by rfl) (.tmp 29) (.tmp 31) 23 (by rfl) w2.heap.size 57 i57 (.agg #[.string ⟨#[]⟩, .string ⟨#[]⟩]) 2 32 Try.underlying23 hi hy0 hy1 hy2 rfl (by decide) (.slice (some ⟨w2.heap.size, 0, none⟩) 0 0) 0 [] (by rfl) HOa.out A2 M cap2 (rwL R) (by rfl) HNil.out HLL.out HCa.out HONE.out (by unfold maxLen; omega) (by omega) (by simp) ?_; intro v' w3 z1 z2; obtain ⟨A3, c3, rfl, k3⟩ := HKa.out v' w3 z1 z2; have H3 := Lib.hid k3; have s0 := cell_keep k0 hz2 k3.bel; have s1 := cell_keep k1 hz2 k3.bel; have n3 : ¬ w.heap.size = w3.heap.size := (by have := k3.bel.size; omega); have n4 : ¬ w3.heap.size = w.heap.size := (by have := k3.bel.size; omega); clear z1 z2 k3)
      | (refine step_append_any (by rfl) (.tmp 29) (.tmp 31) 23 (by rfl) w2.heap.size 57 i57 (.agg #[.string ⟨#[]⟩, .string ⟨#[]⟩]) 2 32 Try.underlying23 hi hy0 hy1 hy2 rfl (by decide) (.slice (some ⟨w2.heap.size, 0, none⟩) 0 0) 0 [] (by rfl) HOb.out A2 M cap2 (rwL R) (by rfl) HNil.out HLL.out HCb.out HONE.out (by unfold maxLen; omega) (by omega) (by simp; omega) ?_; intro v' w3 z1 z2; obtain ⟨A3, c3, rfl, k3⟩ := HKb.out v' w3 z1 z2; have H3 := Lib.hid k3; have s0 := cell_keep k0 hz2 k3.bel; have s1 := cell_keep k1 hz2 k3.bel; have n3 : ¬ w.heap.size = w3.heap.size := (by have := k3.bel.size; omega); have n4 : ¬ w3.heap.size = w.heap.size := (by have := k3.bel.size; omega); have hbx := HXb.out w3 z2; have x0 : w3.cell? ⟨w2.heap.size + 1, 0, none⟩ = some (.string ⟨#[]⟩) := (by rw [Lib.cell_of_heap hbx]; rfl); have x1 : w3.cell? ⟨w2.heap.size + 1, 1, none⟩ = some (.slice none 0 0) := (by rw [Lib.cell_of_heap hbx]; rfl); have y0 := froz_of hbx 0; have y1 := froz_of hbx 1; have HBX := Lib.hid hbx; clear z1 z2 k3 hbx)
      | (refine step_append_any (by rfl) (.tmp 29) (.tmp 31) 23 (by rfl) w2.heap.size 57 i57 (.agg #[.string ⟨#[]⟩, .string ⟨#[]⟩]) 2 32 Try.underlying23 hi hy0 hy1 hy2 rfl (by decide) (.slice (some ⟨w2.heap.size + 1, 0, none⟩) 0 0) 0 [] (by rfl) HOc.out A2 M cap2 (rwL R) (by rfl) HNil.out HLL.out HCc.out HONE.out (by unfold maxLen; omega) (by omega) (by simp; omega) ?_; intro v' w3 z1 z2; obtain ⟨A3, c3, rfl, k3⟩ := HKc.out v' w3 z1 z2; have H3 := Lib.hid k3; have s0 := cell_keep k0 hz2 k3.bel; have s1 := cell_keep k1 hz2 k3.bel; have n3 : ¬ w.heap.size = w3.heap.size := (by have := k3.bel.size; omega); have n4 : ¬ w3.heap.size = w.heap.size := (by have := k3.bel.size; omega); have hbx := HXc.out w3 z2; have x0 : w3.cell? ⟨w2.heap.size, 0, none⟩ = some (.string ⟨#[]⟩) := (by rw [Lib.cell_of_heap hbx]; rfl); have x1 : w3.cell? ⟨w2.heap.size, 1, none⟩ = some (.slice none 0 0) := (by rw [Lib.cell_of_heap hbx]; rfl); have y0 := froz_of hbx 0; have y1 := froz_of hbx 1; have HBX := Lib.hid hbx; clear z1 z2 k3 hbx)
      | fail)
  all_goals first
    | (have H4 := Lib.hid (k4_set (box := w2.heap.size + 1) (nm := nm) H3.out HBX.out rfl (by omega))
       clear H3 n3 n4 s0 s1 HBX x0 x1 y0 y1 HOa HOb HOc HCa HCb HCc HKa HKb HKc HXb HXc
       generalize (w3.setCell ⟨w2.heap.size + 1, 0, none⟩ (.string nm)).setCell ⟨w2.heap.size + 1, 1, none⟩ (.slice A3 M c3) = W4 at *
       have tokb : True := trivial)
    | (have H4 := Lib.hid (k4_set (box := w2.heap.size) (nm := nm) H3.out HBX.out rfl (by omega))
       clear H3 n3 n4 s0 s1 HBX x0 x1 y0 y1 HOa HOb HOc HCa HCb HCc HKa HKb HKc HXb HXc
       generalize (w3.setCell ⟨w2.heap.size, 0, none⟩ (.string nm)).setCell ⟨w2.heap.size, 1, none⟩ (.slice A3 M c3) = W4 at *
       have tokb : True := trivial)
    | (have H4 := Lib.hid (k4_alloc (nm := nm) H3.out)
       clear H3 n3 n4 s0 s1 HOa HOb HOc HCa HCb HCc HKa HKb HKc HXb HXc
       generalize w3.alloc (.cells #[.string nm, .slice A3 M c3] 25) = W4 at *
       have tokb : True := trivial)
    | fail
  all_goals
    have HB4 := Lib.hid (HB2.out.trans (H4.out.bel.mono HB2.out.size))
    have HRl4 := Lib.hid (HRl.out.keep H4.out.bel)
    have HRw4 := Lib.hid (HRw.out.keep H4.out.bel)
    have HRt4 := Lib.hid (HR2.out.keep H4.out.bel)
    have HRc4 := Lib.hid H4.out.rd
    have t0 := cell_keep k0 hz2 H4.out.bel
    have t1 := cell_keep k1 hz2 H4.out.bel
    have d0 := H4.out.c0
    have d1 := H4.out.c1
    have hbl := H4.out.lt
    have hzl : w.heap.size < W4.heap.size := Nat.lt_of_lt_of_le hz2 H4.out.bel.size
    clear tokb H4 k0 k1 HB2 HRl HRw HR2 hz2 hne2 hne3 hne4 hne5 HLL HONE
    go_wp2_with fail
    refine (CE.out _ HB4.out).mono ?_
    intro e w5 hen
    obtain ⟨A', NW, c', kd, na, nb, Aa, NF, ca, er, rfl, hr1, hr2, hw1, hf1, hb5⟩ := en_shape hen HOL.out
    have HEv : Hid (EvB w5.heap.size kd na nb (.slice Aa NF ca) (w5.alloc (.cells #[.int .i64 kd, .string na, .string nb, .slice Aa NF ca, .string ⟨#[]⟩] 32))) := Lib.hid (nblk w5 32 _)
    have HBx := Lib.hid (hb5.alloc hb5.size (.cells #[.int .i64 kd, .string na, .string nb, .slice Aa NF ca, .string ⟨#[]⟩] 32))
    have HRow1 := Lib.hid (hr1.keep ((Below.refl _ w5).alloc (Nat.le_refl _) (.cells #[.int .i64 kd, .string na, .string nb, .slice Aa NF ca, .string ⟨#[]⟩] 32)))
    have HRow2 := Lib.hid (hr2.keep ((Below.refl _ w5).alloc (Nat.le_refl _) (.cells #[.int .i64 kd, .string na, .string nb, .slice Aa NF ca, .string ⟨#[]⟩] 32)))
    have T0 := Lib.hid t0
    have T1 := Lib.hid t1
    have D0 := Lib.hid d0
    have D1 := Lib.hid d1
    clear hen hr1 hr2 hb5 CE HOL t0 t1 d0 d1
    go_wp2_with fail
    go_loopw [10] (fun i wr => KpR W4.heap.size W4 NW A' NW Aa NF w5.heap.size kd na nb ca i wr) (fun i _ => NW - (intOf i).toNat)
    case atStart => exact ⟨0, rfl, Nat.zero_le _, HBx, HRow1, HRow2, HEv, Lib.hid HBx.out.size⟩
    case round =>
      clear HBx HRow1 HRow2 HEv
      obtain ⟨k, rfl, hk, hB, h1, h2, h3, h4⟩ := hrel
      by_cases hlt : k < NW
      · obtain ⟨g, cur, rfl, hg1, hg2, hg3⟩ := h1.out (by omega)
        have e1 : (k : Int) < (NW : Int) := by omega
        have e0 : (0 : Int) ≤ (k : Int) := by omega
        have hcc : k * 2 + 1 < cur.size := by omega
        obtain ⟨xv, x1⟩ : ∃ xv, wr.cell? ⟨g, k * 2 + 1, none⟩ = some xv := ⟨_, cells_of hg2 _ (Array.getElem?_eq_getElem hcc)⟩
        have f1 := froz_of hg2 (k * 2 + 1)
        have HG2 := Lib.hid hg2
        clear hg2 hg3 hcc
        go_wp2_with fail
        go_roundw
        case rel => exact ⟨k + 1, by go_num, by omega, Lib.hid (hB.out.setCell (p := ⟨g, k * 2 + 1, none⟩) hg1 _), Lib.hid (h1.out.set _ _ _), Lib.hid (h2.out.set _ _ _), Lib.hid (h3.out.set HG2.out (by decide) _ _), Lib.hid (by simpa [World.setCell] using h4.out)⟩
        case measure => simp only [intOf]; omega
      · have e1 : ¬ (k : Int) < (NW : Int) := by omega
        clear hk hlt
        go_wp2_with fail
        go_loopw [11] (fun i wr => KpR W4.heap.size W4 NF A' NW Aa NF w5.heap.size kd na nb ca i wr) (fun i _ => NF - (intOf i).toNat)
        case atStart => exact ⟨0, rfl, Nat.zero_le _, hB, h1, h2, h3, h4⟩
        case round =>
          clear hB h1 h2 h3 h4 e1
          obtain ⟨k2, rfl, hk, hB, h1, h2, h3, h4⟩ := hrel
          have ev3 := cells_of h3.out 3 (u := .slice Aa NF ca) rfl
          by_cases hlt : k2 < NF
          · obtain ⟨g, cur, rfl, hg1, hg2, hg3⟩ := h2.out (by omega)
            have e1 : (k2 : Int) < (NF : Int) := by omega
            have e0 : (0 : Int) ≤ (k2 : Int) := by omega
            have hcc : k2 * 3 + 2 < cur.size := by omega
            obtain ⟨xv, x1⟩ : ∃ xv, wr.cell? ⟨g, k2 * 3 + 2, none⟩ = some xv := ⟨_, cells_of hg2 _ (Array.getElem?_eq_getElem hcc)⟩
            have f1 := froz_of hg2 (k2 * 3 + 2)
            have HG2 := Lib.hid hg2
            clear hg2 hg3 hcc
            go_wp2_with fail
            go_roundw
            case rel => exact ⟨k2 + 1, by go_num, by omega, Lib.hid (hB.out.setCell (p := ⟨g, k2 * 3 + 2, none⟩) hg1 _), Lib.hid (h1.out.set _ _ _), Lib.hid (h2.out.set _ _ _), Lib.hid (h3.out.set HG2.out (by decide) _ _), Lib.hid (by simpa [World.setCell] using h4.out)⟩
            case measure => simp only [intOf]; omega
          · have e1 : ¬ (k2 : Int) < (NF : Int) := by omega
            have HBn := Lib.hid (hB.out.alloc h4.out (.cells #[.string xm, .string XS] 50))
            have HKn := Lib.hid (nblk wr 50 #[.string xm, .string XS])
            have HSn : Hid (W4.heap.size ≤ (wr.alloc (.cells #[.string xm, .string XS] 50)).heap.size) := Lib.hid (Nat.le_trans h4.out (by simp))
            have hbn : W4.heap.size ≤ wr.heap.size := h4.out
            clear hk hlt hB h1 h2 h3 h4
            go_wp2_with (go_at_call 18; refine (CNew.out _).mono ?_; rintro e w' ⟨rfl, rfl⟩)
            clear ev3 e1
            generalize wr.heap.size = bn at *
            go_loopw [13] (fun i wr => KpN W4.heap.size W4 bn i wr) (fun i _ => 1 - (intOf i).toNat)
            case atStart => exact ⟨0, rfl, Nat.zero_le _, HBn, HSn, _, HKn⟩
            case round =>
              clear HBn HKn HSn
              obtain ⟨k3, rfl, hk, hB, h4, xo, h5⟩ := hrel
              by_cases hlt : k3 < 1
              · have e1 : (k3 : Int) < 1 := by omega
                have e0 : (0 : Int) ≤ (k3 : Int) := by omega
                have hk0 : Hid (k3 = 0) := Lib.hid (by omega)
                have x1 : wr.cell? ⟨bn, k3 * 2 + 1, none⟩ = some xo := by rw [hk0.out]; exact cells_of h5.out 1 rfl
                have f1 := froz_of h5.out (k3 * 2 + 1)
                go_wp2_with fail
                go_roundw
                case rel => exact ⟨k3 + 1, by go_num, by omega, Lib.hid (hB.out.setCell (p := ⟨bn, k3 * 2 + 1, none⟩) hbn _), Lib.hid (by simpa [World.setCell] using h4.out), _, Lib.hid (by rw [hk0.out]; simp [World.setCell, Array.getElem?_modify, h5.out]; rfl)⟩
                case measure => simp only [intOf]; omega
              · have e1 : ¬ (k3 : Int) < 1 := by omega
                have HBk := Lib.hid (hB.out.alloc h4.out (.cells #[.string xm, .string XS] 50))
                have HKk := Lib.hid (nblk wr 50 #[.string xm, .string XS])
                have y0 := (HBk.out.cell (p := ⟨w.heap.size, 0, none⟩) hzl).trans T0.out
                clear hB h4 h5 hk hlt
                go_wp2_with (go_at_call 18; refine (CNew.out _).mono ?_; rintro e w' ⟨rfl, rfl⟩)
                refine (CS.out A Aw cap cw _ (HRl4.out.keep HBk.out) (HRw4.out.keep HBk.out)).mono ?_
                rintro e w8 ⟨rfl, hb8⟩
                have HB8 := Lib.hid (HBk.out.trans (hb8.mono HBk.out.size))
                have y0 := (HB8.out.cell (p := ⟨w.heap.size, 0, none⟩) hzl).trans T0.out
                have y1 := (HB8.out.cell (p := ⟨w.heap.size, 1, none⟩) hzl).trans T1.out
                have z0 := cell_keep D0.out hbl HB8.out
                have z1 := cell_keep D1.out hbl HB8.out
                have hk8 := Lib.hid ((hb8.block wr.heap.size (by simp)).trans HKk.out)
                have l8 : wr.heap.size < w8.heap.size := Nat.lt_of_lt_of_le (by simp) hb8.size
                clear hb8 CS HBk HKk HRl4 HRw4
                go_wp2_with fail
                refine (CT.out A2 A3 cap2 c3 _ (HRt4.out.keep HB8.out) (HRc4.out.keep HB8.out)).mono ?_
                rintro e w9 ⟨rfl, hb9⟩
                have kk1 : w9.cell? ⟨wr.heap.size, 1, none⟩ = some (.string XS) := cells_of ((hb9.block wr.heap.size l8).trans hk8.out) 1 rfl
                have HB9 := Lib.hid (HB4.out.trans ((HB8.out.trans (hb9.mono HB8.out.size)).mono HB4.out.size))
                clear hb9 CT HB8 HRt4 HRc4 y0 y1 z0 z1 hk8
                go_wp2_with fail
                go_ret
                exact ⟨rfl, HB9.out⟩
theorem keeps_law (A A2 : Option Addr) (N M cap cap2 : Nat) (nm : ByteArray) (L R : List P2) (w : World) (hN : N = L.length) (hNm : N ≤ maxLen) (hl : LimL L) (hR : RdR w A L) (hnA : A = none → N = 0 ∧ cap = 0)
    (hM : M = R.length) (hMm : M ≤ maxLen) (hlR : LimL R) (hR2 : RdR w A2 R) (hnA2 : A2 = none → M = 0 ∧ cap2 = 0) (hn : nm.size ≤ Lim) :
    Calls Try.prog 6 #[.slice A N cap, .agg #[.string nm, .slice A2 M cap2]] w fun e w' => e = .returned (.bool true) ∧ Below w.heap.size w w' := by
  have lm : ∀ k, k ≤ Lim → k ≤ maxLen := fun k h => Nat.le_trans h (by unfold Lim maxLen; omega)
  have hx : ∀ x ∈ R, x.1.size ≤ maxLen ∧ x.2.size ≤ maxLen := fun x h => ⟨lm _ (hlR x h).1, lm _ (hlR x h).2⟩
  by_cases hf : SmlP N nm R
  · have h1 := hf.1
    have h2 := hf.2.1.2.1
    have hE : Ent w A A2 N M nm L R := ⟨hN, hM, by omega, by omega, by have := hf.2.1.1; omega, hl, hlR, fun x h => by have := (hf.2.1.2.2 x h).1; omega, hR, hR2⟩
    refine kp_in A A2 N M cap cap2 nm L R w (entF L nm R) hN h1 hM (by omega) hnA hnA2 hR hR2 (fun Ws n f ho => ?_) (Lib.hid (fun W hW => sml_yes hNm hM (lm _ hn) hMm hx (hR2.keep hW) hf)) (Lib.hid (fun W hW => enter_any cap cap2 (hE.keep hW)))
      (Lib.hid (fun A1 A3 k1 k3 W r1 r2 => same_any L N A1 A3 k1 k3 W hN (by omega) r1 r2)) (Lib.hid (fun A1 A3 k1 k3 W r1 r2 => tsame_any nm R M A1 A3 k1 k3 W hM (by omega) r1 r2))
    unfold entF at ho
    split at ho
    · cases ho
    · rename_i W0 g1
      split at ho
      · cases ho
      · split at ho
        · cases ho
        · rename_i f0 g2
          injection ho with ho
          injection ho with ho1 ho2
          injection ho2 with ho2 ho3
          have l1 := bind_len R L g1
          have l2 := att_len W0 R [] g2
          rw [← ho1, ← ho3]
          rw [List.length_nil] at l2
          omega
  · exact kp_out A A2 N M cap cap2 nm w (Lib.hid (fun W hW => sml_no hNm hM (lm _ hn) hMm hx (hR2.keep hW) hf))
end Go.Proofs.Ytepmleieekpdiaa
