/-
  The walk of TagKeeps where there are few.
-/
import Derived.Test.YtaoklhalkfcpfaaGreatDoorLTgKpLaw
import Derived.Deep.RegionHeld3
set_option linter.unusedSimpArgs false
set_option linter.unusedVariables false
namespace Go.Proofs.YtaoklhalkfcpfaaGreatDoor
open Go.RowKit

set_option maxHeartbeats 4000000 in
set_option maxRecDepth 100000 in
theorem keeps_few (nm : ByteArray) (A : Option Addr) (n c : Nat) (l : List (ByteArray × ByteArray)) (s : ByteArray) (w : World) (hT : TagIn w nm A n c l) (hF : FewP nm l) (hs : s.size ≤ 400) (hV : Vars w) :
    Calls Tryz.prog 6 #[.agg #[.string nm, .slice A n c], .string s] w fun e w' => e = .returned (.bool true) ∧ Below w.heap.size w w' := by
  have i8 : decide ((400 : Int) < (s.size : Int)) = false := by rw [decide_eq_false_iff_not]; omega
  have j8 : decide (400 < s.size) = false := by rw [decide_eq_false_iff_not]; omega
  have CF := Lib.hid (fun W h => few_yes nm l n A c W hT.len hT.nsz hT.lsz hT.xsz h hF)
  have hn60 : n ≤ 60 := by have := hF.2.1; have := hT.len; omega
  have CP := Lib.hid (fun W h => print_any nm l n c A W hT.len (by omega) (by have := hF.1; omega) (few_fit hF) h)
  have CS1 := Lib.hid (fun (A1 A2 : Option Addr) (k1 k2 : Nat) W h1 h2 => same_any nm l n A1 A2 k1 k2 W hT.len (by omega) h1 h2)
  have CA := Lib.hid (fun W (hW : Vars W) => tparse_any s W hW (by omega))
  have hxl : (parF s).2.2.length ≤ 32 := by
    by_cases h : (parF s).1 = 0
    · exact (par_I s h).1.2.1
    · rw [par_err h]; simp
  have HN := Lib.hid hT.len
  have HNil := Lib.hid hT.nil
  generalize parF s = x at *
  obtain ⟨er, xn, xl⟩ := x
  dsimp only at hxl
  have CS2 := Lib.hid (fun (m : Nat) (A1 A2 : Option Addr) (k1 k2 : Nat) W (hm : m = xl.length) h1 h2 => same_any xn xl m A1 A2 k1 k2 W hm (by omega) h1 h2)
  generalize strOfNums (prF nm l) = q at *
  have a0 := (Below.refl w.heap.size w).alloc (Nat.le_refl _) (.cells #[.string nm, .slice A n c] 25)
  have HB0 := Lib.hid a0
  have HV0 := Lib.hid (hV.keep a0 hV.1)
  have HR0 := Lib.hid ((hT.rd.keep a0))
  have Q0 := Lib.hid (Blk0 w 25 #[.string nm, .slice A n c] 0)
  have Q1 := Lib.hid (Blk0 w 25 #[.string nm, .slice A n c] 1)
  have hz0 : w.heap.size < (w.alloc (.cells #[.string nm, .slice A n c] 25)).heap.size := by simp
  obtain ⟨i37, hi, hy0, hy1, hy2⟩ := info_parts Tryz.info37
  clear hT hF hV a0
  go_enter Tryz.func6, Tryz.ntmps6
  go_wp2_with fail
  refine (awake_any _ HV0.out).mono ?_
  rintro e w1 ⟨rfl, b1⟩
  have HB1 := Lib.hid (HB0.out.trans (b1.mono HB0.out.size))
  have HV1 := Lib.hid (HV0.out.after b1)
  have HR1 := Lib.hid (HR0.out.keep b1)
  have g0 := cell_keep Q0.out hz0 b1
  have g1 := cell_keep Q1.out hz0 b1
  have hz1 : w.heap.size < w1.heap.size := Nat.lt_of_lt_of_le hz0 b1.size
  clear b1 HB0 HV0 HR0 Q0 Q1 hz0
  go_wp2_with fail
  refine (CF.out _ HR1.out).mono ?_
  rintro e w2 ⟨rfl, b2⟩
  have HB2 := Lib.hid (HB1.out.trans (b2.mono HB1.out.size))
  have HV2 := Lib.hid (HV1.out.after b2)
  have HR2 := Lib.hid (HR1.out.keep b2)
  have k0 := cell_keep g0 hz1 b2
  have k1 := cell_keep g1 hz1 b2
  have hz2 : w.heap.size < w2.heap.size := Nat.lt_of_lt_of_le hz1 b2.size
  have hne2 : ¬ w.heap.size = w2.heap.size := by omega
  have hne3 : ¬ w.heap.size = w2.heap.size + 1 := by omega
  have hne4 : ¬ w2.heap.size = w.heap.size := by omega
  have hne5 : ¬ w2.heap.size + 1 = w.heap.size := by omega
  clear b2 HB1 HV1 HR1 CF g0 g1 hz1
  have Ba := ((Below.refl w2.heap.size w2).alloc (Nat.le_refl _) (.cells #[] 37)).drew
  have Bb := (((Below.refl w2.heap.size w2).alloc (Nat.le_refl _) (.cells #[] 37)).alloc (by simp) (.cells #[.string ⟨#[]⟩, .slice none 0 0] 25)).drew
  have Bc := (((Below.refl w2.heap.size w2).alloc (Nat.le_refl _) (.cells #[.string ⟨#[]⟩, .slice none 0 0] 25)).alloc (by simp) (.cells #[] 37)).drew
  have HOa := Lib.hid (own_emp (W := (w2.alloc (.cells #[] 37)).drew) (B := w2.heap.size) (h := w2.heap.size) (heap_alloc_new w2 _) (Nat.le_refl _))
  have HOb := Lib.hid (own_emp (W := ((w2.alloc (.cells #[] 37)).alloc (.cells #[.string ⟨#[]⟩, .slice none 0 0] 25)).drew) (B := w2.heap.size) (h := w2.heap.size) ((Below.heap_alloc _ _ _ (by simp)).trans (heap_alloc_new w2 _)) (Nat.le_refl _))
  have hzc : (w2.alloc (.cells #[.string ⟨#[]⟩, .slice none 0 0] 25)).heap.size = w2.heap.size + 1 := by simp
  have HOc : Hid (((w2.alloc (.cells #[.string ⟨#[]⟩, .slice none 0 0] 25)).alloc (.cells #[] 37)).drew.ownsRow w2.heap.size 37 2 (.slice (some ⟨w2.heap.size + 1, 0, none⟩) 0 0) 0 []) := Lib.hid (own_emp (by rw [← hzc]; exact heap_alloc_new _ _) (by omega))
  have HCa := Lib.hid (fun ad (e : A = some ad) => RdR.cells (w := (w2.alloc (.cells #[] 37)).drew) (ad := ad) (by rw [← e]; exact HR2.out.keep Ba))
  have HCb := Lib.hid (fun ad (e : A = some ad) => RdR.cells (w := ((w2.alloc (.cells #[] 37)).alloc (.cells #[.string ⟨#[]⟩, .slice none 0 0] 25)).drew) (ad := ad) (by rw [← e]; exact HR2.out.keep Bb))
  have HCc := Lib.hid (fun ad (e : A = some ad) => RdR.cells (w := ((w2.alloc (.cells #[.string ⟨#[]⟩, .slice none 0 0] 25)).alloc (.cells #[] 37)).drew) (ad := ad) (by rw [← e]; exact HR2.out.keep Bc))
  have HKa := Lib.hid (fun v' w3 z g => k3_of (w2 := w2) (W := (w2.alloc (.cells #[] 37)).drew) (w3 := w3) (l := l) (h := w2.heap.size) (v' := v') HN.out Ba (Nat.le_refl _) z g)
  have HKb := Lib.hid (fun v' w3 z g => k3_of (w2 := w2) (W := ((w2.alloc (.cells #[] 37)).alloc (.cells #[.string ⟨#[]⟩, .slice none 0 0] 25)).drew) (w3 := w3) (l := l) (h := w2.heap.size) (v' := v') HN.out Bb (Nat.le_refl _) z g)
  have HKc := Lib.hid (fun v' w3 z g => k3_of (w2 := w2) (W := ((w2.alloc (.cells #[.string ⟨#[]⟩, .slice none 0 0] 25)).alloc (.cells #[] 37)).drew) (w3 := w3) (l := l) (h := w2.heap.size + 1) (v' := v') HN.out Bc (by omega) z g)
  have HXb : Hid (∀ w3 : World, ((w2.alloc (.cells #[] 37)).alloc (.cells #[.string ⟨#[]⟩, .slice none 0 0] 25)).drew.grownBy w3 (Value.slice (some ⟨w2.heap.size, 0, none⟩) 0 0).ownBlock → w3.heap[w2.heap.size + 1]? = some (.cells #[.string ⟨#[]⟩, .slice none 0 0] 25 (0, 0))) := Lib.hid (fun w3 g => by
    have hz : (w2.alloc (.cells #[] 37)).heap.size = w2.heap.size + 1 := by simp
    refine (g.block (w2.heap.size + 1) (by show _ < ((w2.alloc (.cells #[] 37)).alloc (.cells #[.string ⟨#[]⟩, .slice none 0 0] 25)).heap.size; simp) (fun e => ?_)).trans ?_
    · have : some (w2.heap.size + 1) = some w2.heap.size := e
      injection this with this
      omega
    · show ((w2.alloc (.cells #[] 37)).alloc (.cells #[.string ⟨#[]⟩, .slice none 0 0] 25)).heap[w2.heap.size + 1]? = _
      rw [← hz]
      exact heap_alloc_new _ _)
  have HXc : Hid (∀ w3 : World, ((w2.alloc (.cells #[.string ⟨#[]⟩, .slice none 0 0] 25)).alloc (.cells #[] 37)).drew.grownBy w3 (Value.slice (some ⟨w2.heap.size + 1, 0, none⟩) 0 0).ownBlock → w3.heap[w2.heap.size]? = some (.cells #[.string ⟨#[]⟩, .slice none 0 0] 25 (0, 0))) := Lib.hid (fun w3 g => by
    refine (g.block w2.heap.size (by show _ < ((w2.alloc (.cells #[.string ⟨#[]⟩, .slice none 0 0] 25)).alloc (.cells #[] 37)).heap.size; simp; omega) (fun e => ?_)).trans ?_
    · have : some w2.heap.size = some (w2.heap.size + 1) := e
      injection this with this
      omega
    · show ((w2.alloc (.cells #[.string ⟨#[]⟩, .slice none 0 0] 25)).alloc (.cells #[] 37)).heap[w2.heap.size]? = _
      exact (Below.heap_alloc _ _ _ (by simp)).trans (heap_alloc_new w2 _))
  have HLL : Hid ((rwL l).length = n * 2) := Lib.hid (by rw [rwL_len, HN.out])
  have HONE := Lib.hid (rwL_one l)
  clear Ba Bb Bc hzc
  go_wp2_with fail
  go_region_held3 (fun W => W.cell? ⟨w.heap.size, 0, none⟩ = some (.string nm) ∧ W.cell? ⟨w.heap.size, 1, none⟩ = some (.slice A n c))
    (first
      | go_keep
      | exact ⟨s0, s1⟩
      | (go_split_ands; refine ⟨?_, ?_⟩ <;> simp [*]))
    (first
      | (refine step_append_any (by rfl) (.tmp 28) (.tmp 30) 23 (by rfl) w2.heap.size 37 i37 (.agg #[.string ⟨#[]⟩, .string ⟨#[]⟩]) 2 32 Tryz.underlying23 hi hy0 hy1 hy2 rfl (by decide) (.slice (some ⟨w2.heap.size, 0, none⟩) 0 0) 0 [] (by rfl) HOa.out A n c (rwL l) (by rfl) HNil.out HLL.out HCa.out HONE.out (by unfold maxLen; omega) (by omega) (by simp) ?_; intro v' w3 z1 z2; obtain ⟨A3, c3, rfl, k3⟩ := HKa.out v' w3 z1 z2; have H3 := Lib.hid k3; have s0 := cell_keep k0 hz2 k3.bel; have s1 := cell_keep k1 hz2 k3.bel; have n3 : ¬ w.heap.size = w3.heap.size := (by have := k3.bel.size; omega); have n4 : ¬ w3.heap.size = w.heap.size := (by have := k3.bel.size; omega); clear z1 z2 k3)
      | (refine step_append_any (by rfl) (.tmp 28) (.tmp 30) 23 (by rfl) w2.heap.size 37 i37 (.agg #[.string ⟨#[]⟩, .string ⟨#[]⟩]) 2 32 Tryz.underlying23 hi hy0 hy1 hy2 rfl (by decide) (.slice (some ⟨w2.heap.size, 0, none⟩) 0 0) 0 [] (by rfl) HOb.out A n c (rwL l) (by rfl) HNil.out HLL.out HCb.out HONE.out (by unfold maxLen; omega) (by omega) (by simp; omega) ?_; intro v' w3 z1 z2; obtain ⟨A3, c3, rfl, k3⟩ := HKb.out v' w3 z1 z2; have H3 := Lib.hid k3; have s0 := cell_keep k0 hz2 k3.bel; have s1 := cell_keep k1 hz2 k3.bel; have n3 : ¬ w.heap.size = w3.heap.size := (by have := k3.bel.size; omega); have n4 : ¬ w3.heap.size = w.heap.size := (by have := k3.bel.size; omega); have hbx := HXb.out w3 z2; have x0 : w3.cell? ⟨w2.heap.size + 1, 0, none⟩ = some (.string ⟨#[]⟩) := (by rw [Lib.cell_of_heap hbx]; rfl); have x1 : w3.cell? ⟨w2.heap.size + 1, 1, none⟩ = some (.slice none 0 0) := (by rw [Lib.cell_of_heap hbx]; rfl); have y0 := Lib.frozen_of_heap hbx 0; have y1 := Lib.frozen_of_heap hbx 1; have HBX := Lib.hid hbx; clear z1 z2 k3 hbx)
      | (refine step_append_any (by rfl) (.tmp 28) (.tmp 30) 23 (by rfl) w2.heap.size 37 i37 (.agg #[.string ⟨#[]⟩, .string ⟨#[]⟩]) 2 32 Tryz.underlying23 hi hy0 hy1 hy2 rfl (by decide) (.slice (some ⟨w2.heap.size + 1, 0, none⟩) 0 0) 0 [] (by rfl) HOc.out A n c (rwL l) (by rfl) HNil.out HLL.out HCc.out HONE.out (by unfold maxLen; omega) (by omega) (by simp; omega) ?_; intro v' w3 z1 z2; obtain ⟨A3, c3, rfl, k3⟩ := HKc.out v' w3 z1 z2; have H3 := Lib.hid k3; have s0 := cell_keep k0 hz2 k3.bel; have s1 := cell_keep k1 hz2 k3.bel; have n3 : ¬ w.heap.size = w3.heap.size := (by have := k3.bel.size; omega); have n4 : ¬ w3.heap.size = w.heap.size := (by have := k3.bel.size; omega); have hbx := HXc.out w3 z2; have x0 : w3.cell? ⟨w2.heap.size, 0, none⟩ = some (.string ⟨#[]⟩) := (by rw [Lib.cell_of_heap hbx]; rfl); have x1 : w3.cell? ⟨w2.heap.size, 1, none⟩ = some (.slice none 0 0) := (by rw [Lib.cell_of_heap hbx]; rfl); have y0 := Lib.frozen_of_heap hbx 0; have y1 := Lib.frozen_of_heap hbx 1; have HBX := Lib.hid hbx; clear z1 z2 k3 hbx))
  · have H4 := Lib.hid (k4_alloc (nm := nm) H3.out)
    clear H3 n3 n4 s0 s1 HOa HOb HOc HCa HCb HCc HKa HKb HKc HXb HXc hne2 hne3 hne4 hne5
    generalize w3.alloc (.cells #[.string nm, .slice A3 n c3] 25) = W4 at *
    generalize w3.heap.size = box at *
    have HB4 := Lib.hid (HB2.out.trans (H4.out.bel.mono HB2.out.size))
    have HV4 := Lib.hid (HV2.out.after H4.out.bel)
    have HR4 := Lib.hid (HR2.out.keep H4.out.bel)
    have HS4 := Lib.hid H4.out.rd
    have t0 := cell_keep k0 hz2 H4.out.bel
    have t1 := cell_keep k1 hz2 H4.out.bel
    have d0 := H4.out.c0
    have d1 := H4.out.c1
    have hbl := H4.out.lt
    have hzl : w.heap.size < W4.heap.size := Nat.lt_of_lt_of_le hz2 H4.out.bel.size
    clear k0 k1 H4 hz2
    go_wp2_with fail
    refine (CP.out _ HR4.out).mono ?_
    rintro e w5 ⟨rfl, b5⟩
    have HB5 := Lib.hid (HB4.out.trans (b5.mono HB4.out.size))
    have HV5 := Lib.hid (HV4.out.after b5)
    have HR5 := Lib.hid (HR4.out.keep b5)
    have HS5 := Lib.hid (HS4.out.keep b5)
    have T0 := cell_keep t0 hzl b5
    have T1 := cell_keep t1 hzl b5
    have D0 := cell_keep d0 hbl b5
    have D1 := cell_keep d1 hbl b5
    have hz5 : w.heap.size < w5.heap.size := Nat.lt_of_lt_of_le hzl b5.size
    have hl5 : box < w5.heap.size := Nat.lt_of_lt_of_le hbl b5.size
    clear b5 t0 t1 d0 d1 hzl hbl HB4 HV4 HR4 HS4 CP
    go_wp2_with fail
    refine (CA.out _ HV5.out).mono ?_
    rintro e w6 ⟨va, rfl, howna, b6⟩
    obtain ⟨Aa, ka, rfl, hra⟩ := own_rdR howna
    obtain ⟨m, hm⟩ : ∃ m, m = xl.length := ⟨_, rfl⟩
    dsimp only at *
    rw [← hm] at howna
    rw [← hm]
    have HM := Lib.hid hm
    have hm32 : m ≤ 32 := by omega
    have a6 := (Below.refl _ w6).alloc (Nat.le_refl _) (.cells #[.string xn, .slice Aa m ka] 25)
    have c6 := b6.trans (a6.mono b6.size)
    have HOa := Lib.hid howna
    have HB6 := Lib.hid c6
    have HV6 := Lib.hid (HV5.out.after c6)
    have Qa := Lib.hid (Blk0 w6 25 #[.string xn, .slice Aa m ka] 1)
    clear hm hra b6 a6 c6 howna
    go_wp2_with fail
    refine (CA.out _ HV6.out).mono ?_
    rintro e w7 ⟨vb, rfl, hownb, b7⟩
    obtain ⟨Ab, kb, rfl, hrb⟩ := own_rdR hownb
    dsimp only at *
    rw [← HM.out] at hownb
    rw [← HM.out]
    have a7 := (Below.refl _ w7).alloc (Nat.le_refl _) (.cells #[.string xn, .slice Ab m kb] 25)
    have c7 := b7.trans (a7.mono b7.size)
    have HB7 := Lib.hid (HB6.out.trans (c7.mono HB6.out.size))
    have HRb := Lib.hid (hrb.keep a7)
    have HOb := Lib.hid hownb
    have A1 := cell_keep Qa.out (by simp) c7
    have B0 := Blk0 w7 25 #[.string xn, .slice Ab m kb] 0
    have B1 := Blk0 w7 25 #[.string xn, .slice Ab m kb] 1
    have h67 : w6.heap.size < w7.heap.size := Nat.lt_of_lt_of_le (by simp) b7.size
    have HROW := Lib.hid (row_keep (row_keep (own_blk HOa.out HM.out) ((Below.refl _ w6).alloc (Nat.le_refl _) (.cells #[.string xn, .slice Aa m ka] 25))) c7)
    have hlo : ∀ g, (Value.slice Aa m ka).ownBlock = some g → w5.heap.size ≤ g ∧ g < w6.heap.size := fun g e => World.ownsRow.lt HOa.out g e
    have HLO := Lib.hid hlo
    have hlb : ∀ g, (Value.slice Ab m kb).ownBlock = some g → w6.heap.size + 1 ≤ g := fun g e => by
      have := (World.ownsRow.lt HOb.out g e).1
      simpa using this
    have HLB := Lib.hid hlb
    clear hrb a7 b7 hownb Qa hlo hlb c7 HOb
    go_wp2_with fail
    generalize hW7 : w7.alloc (.cells #[.string xn, .slice Ab m kb] 25) = W7 at *
    have HZ7 : Hid (W7.heap.size = w7.heap.size + 1) := Lib.hid (by rw [← hW7]; simp)
    clear hW7
    generalize hrow : (Value.slice Aa m ka).ownBlock = row at *
    have HRW := Lib.hid hrow
    clear hrow
    go_loopw [10] (fun i wr => KLRel W7 row w6.heap.size m (.slice Aa m ka) i wr) (fun i _ => m - (intOf i).toNat)
    case atStart => exact ⟨0, rfl, Nat.zero_le _, Lib.hid (kl_start W7 row), HROW, A1⟩
    case round =>
      obtain ⟨k, rfl, hk, hG, hbk, ga⟩ := hrel
      by_cases hkm : k < m
      · obtain ⟨g, rfl⟩ := own_some HOa.out (by rw [← HM.out]; omega)
        have hrg : row = some g := HRW.out.symm.trans rfl
        subst hrg
        obtain ⟨cur, q1, q2⟩ := hbk.out g rfl
        obtain ⟨u, q3⟩ := kl_cell (m := m) q1 (j := k * 2 + 1) (by omega)
        have q4 := Lib.frozen_of_heap q1 (k * 2 + 1)
        have HKS := Lib.hid (kl_set (j := k * 2 + 1) q1 q2 hG.out (.string ⟨#[115, 112, 111, 105, 108, 116]⟩))
        have hlg := HLO.out g rfl
        have hng : ¬ w6.heap.size = g := by omega
        have hng2 : ¬ g = w6.heap.size := by omega
        have e1 : (k : Int) < (m : Int) := by omega
        have e0 : (0 : Int) ≤ (k : Int) := by omega
        have ga2 : (wr.setCell ⟨g, k * 2 + 1, none⟩ (.string ⟨#[115, 112, 111, 105, 108, 116]⟩)).cell? ⟨w6.heap.size, 1, none⟩ = some (.slice (some ⟨g, 0, none⟩) m ka) := (World.cell?_of_block (w := wr) (a := ⟨w6.heap.size, 1, none⟩) (Below.heap_setCell _ _ _ _ hng)).trans ga
        have GA2 := Lib.hid ga2
        clear q1 q2 hbk hG hlg ga2 HROW A1
        go_wp2_with fail
        go_roundw
        case rel => exact ⟨k + 1, by go_num, by omega, Lib.hid HKS.out.1, Lib.hid HKS.out.2, GA2.out⟩
        case measure => simp only [intOf]; omega
      · have e1 : ¬ (k : Int) < (m : Int) := by omega
        have hlow : ∀ b, b < w5.heap.size → some b ≠ row := fun b hb e => by have := (HLO.out b e.symm).1; omega
        have hB5 : Below w5.heap.size w5 wr := HB7.out.grown hG.out (by have := HB7.out.size; omega) (fun g e => (HLO.out g e).1)
        have HB9 := Lib.hid (HB5.out.trans (hB5.mono HB5.out.size))
        have HV9 := Lib.hid (HV5.out.after hB5)
        have HR9 := Lib.hid (HR5.out.keep hB5)
        have HS9 := Lib.hid (HS5.out.keep hB5)
        have T0' := cell_keep T0 hz5 hB5
        have T1' := cell_keep T1 hz5 hB5
        have D0' := cell_keep D0 hl5 hB5
        have D1' := cell_keep D1 hl5 hB5
        have hnb : some w7.heap.size ≠ row := fun e => by have := (HLO.out _ e.symm).2; omega
        have B0' := cell_far B0 hG.out hnb
        have B1' := cell_far B1 hG.out hnb
        have HRb9 := Lib.hid (HRb.out.keepG hG.out (fun b off e => fun e2 => by
          have h1 := HLB.out b (by rw [e]; rfl)
          have h2 := (HLO.out b e2.symm).2
          omega))
        have z5 : w.heap.size < wr.heap.size := Nat.lt_of_lt_of_le hz5 hB5.size
        have l5 : box < wr.heap.size := Nat.lt_of_lt_of_le hl5 hB5.size
        have z7 : w7.heap.size < wr.heap.size := by have := hG.out.size; have := HZ7.out; omega
        clear hlow hB5 hG hbk HROW A1 B0 B1 T0 T1 D0 D1 hnb HRb HR5 HS5 HB7 hz5 hl5 h67
        go_wp2_with fail
        refine (CA.out _ HV9.out).mono ?_
        rintro e w10 ⟨vc, rfl, hownc, b10⟩
        obtain ⟨Ac, kc, rfl, hrc⟩ := own_rdR hownc
        dsimp only at *
        rw [← HM.out]
        have a10 := (Below.refl _ w10).alloc (Nat.le_refl _) (.cells #[.string xn, .slice Ac m kc] 25)
        have c10 := b10.trans (a10.mono b10.size)
        have HB10 := Lib.hid (HB9.out.trans (c10.mono HB9.out.size))
        have HR10 := Lib.hid (HR9.out.keep c10)
        have HS10 := Lib.hid (HS9.out.keep c10)
        have HRb10 := Lib.hid (HRb9.out.keep c10)
        have HRc10 := Lib.hid (hrc.keep a10)
        have u0 := cell_keep T0' z5 b10
        have u1 := cell_keep T1' z5 b10
        have u2 := cell_keep D0' l5 b10
        have u3 := cell_keep D1' l5 b10
        have u4 := cell_keep B0' z7 b10
        have u5 := cell_keep B1' z7 b10
        have y5 : w.heap.size < w10.heap.size := Nat.lt_of_lt_of_le z5 b10.size
        have y6 : box < w10.heap.size := Nat.lt_of_lt_of_le l5 b10.size
        have y7 : w7.heap.size < w10.heap.size := Nat.lt_of_lt_of_le z7 b10.size
        have x5 : ¬ w.heap.size = w10.heap.size := by omega
        have x6 : ¬ box = w10.heap.size := by omega
        have x7 : ¬ w7.heap.size = w10.heap.size := by omega
        have U4 := Lib.hid (cell_keep u4 y7 a10)
        have U5 := Lib.hid (cell_keep u5 y7 a10)
        have W0' := Lib.hid (Blk0 w10 25 #[.string xn, .slice Ac m kc] 0)
        have W1' := Lib.hid (Blk0 w10 25 #[.string xn, .slice Ac m kc] 1)
        have y8 : w7.heap.size < (w10.alloc (.cells #[.string xn, .slice Ac m kc] 25)).heap.size := Nat.lt_of_lt_of_le y7 a10.size
        clear a10 b10 hownc hrc T0' T1' D0' D1' B0' B1' z5 l5 z7 CA
        go_wp2_with fail
        refine (CS1.out A A3 c c3 _ HR10.out HS10.out).mono ?_
        rintro e w11 ⟨rfl, b11⟩
        have HB11 := Lib.hid (HB10.out.trans (b11.mono HB10.out.size))
        have HRb11 := Lib.hid (HRb10.out.keep b11)
        have HRc11 := Lib.hid (HRc10.out.keep b11)
        have m4 := cell_keep U4.out y8 b11
        have m5 := cell_keep U5.out y8 b11
        have m6 := cell_keep W0'.out (by simp) b11
        have m7 := cell_keep W1'.out (by simp) b11
        clear b11 CS1
        go_wp2_with fail
        refine (CS2.out m Ab Ac kb kc _ HM.out HRb11.out HRc11.out).mono ?_
        rintro e w12 ⟨rfl, b12⟩
        have HB12 := Lib.hid (HB11.out.trans (b12.mono HB11.out.size))
        clear b12
        go_wp2
        go_ret
        exact ⟨rfl, HB12.out⟩
  · have H4 := Lib.hid (k4_set (nm := nm) H3.out HBX.out rfl (by omega))
    clear H3 HBX x0 x1 y0 y1 n3 n4 s0 s1 HOa HOb HOc HCa HCb HCc HKa HKb HKc HXb HXc hne2 hne3 hne4 hne5
    generalize (w3.setCell ⟨w2.heap.size + 1, 0, none⟩ (.string nm)).setCell ⟨w2.heap.size + 1, 1, none⟩ (.slice A3 n c3) = W4 at *
    generalize w2.heap.size + 1 = box at *
    have HB4 := Lib.hid (HB2.out.trans (H4.out.bel.mono HB2.out.size))
    have HV4 := Lib.hid (HV2.out.after H4.out.bel)
    have HR4 := Lib.hid (HR2.out.keep H4.out.bel)
    have HS4 := Lib.hid H4.out.rd
    have t0 := cell_keep k0 hz2 H4.out.bel
    have t1 := cell_keep k1 hz2 H4.out.bel
    have d0 := H4.out.c0
    have d1 := H4.out.c1
    have hbl := H4.out.lt
    have hzl : w.heap.size < W4.heap.size := Nat.lt_of_lt_of_le hz2 H4.out.bel.size
    clear k0 k1 H4 hz2
    go_wp2_with fail
    refine (CP.out _ HR4.out).mono ?_
    rintro e w5 ⟨rfl, b5⟩
    have HB5 := Lib.hid (HB4.out.trans (b5.mono HB4.out.size))
    have HV5 := Lib.hid (HV4.out.after b5)
    have HR5 := Lib.hid (HR4.out.keep b5)
    have HS5 := Lib.hid (HS4.out.keep b5)
    have T0 := cell_keep t0 hzl b5
    have T1 := cell_keep t1 hzl b5
    have D0 := cell_keep d0 hbl b5
    have D1 := cell_keep d1 hbl b5
    have hz5 : w.heap.size < w5.heap.size := Nat.lt_of_lt_of_le hzl b5.size
    have hl5 : box < w5.heap.size := Nat.lt_of_lt_of_le hbl b5.size
    clear b5 t0 t1 d0 d1 hzl hbl HB4 HV4 HR4 HS4 CP
    go_wp2_with fail
    refine (CA.out _ HV5.out).mono ?_
    rintro e w6 ⟨va, rfl, howna, b6⟩
    obtain ⟨Aa, ka, rfl, hra⟩ := own_rdR howna
    obtain ⟨m, hm⟩ : ∃ m, m = xl.length := ⟨_, rfl⟩
    dsimp only at *
    rw [← hm] at howna
    rw [← hm]
    have HM := Lib.hid hm
    have hm32 : m ≤ 32 := by omega
    have a6 := (Below.refl _ w6).alloc (Nat.le_refl _) (.cells #[.string xn, .slice Aa m ka] 25)
    have c6 := b6.trans (a6.mono b6.size)
    have HOa := Lib.hid howna
    have HB6 := Lib.hid c6
    have HV6 := Lib.hid (HV5.out.after c6)
    have Qa := Lib.hid (Blk0 w6 25 #[.string xn, .slice Aa m ka] 1)
    clear hm hra b6 a6 c6 howna
    go_wp2_with fail
    refine (CA.out _ HV6.out).mono ?_
    rintro e w7 ⟨vb, rfl, hownb, b7⟩
    obtain ⟨Ab, kb, rfl, hrb⟩ := own_rdR hownb
    dsimp only at *
    rw [← HM.out] at hownb
    rw [← HM.out]
    have a7 := (Below.refl _ w7).alloc (Nat.le_refl _) (.cells #[.string xn, .slice Ab m kb] 25)
    have c7 := b7.trans (a7.mono b7.size)
    have HB7 := Lib.hid (HB6.out.trans (c7.mono HB6.out.size))
    have HRb := Lib.hid (hrb.keep a7)
    have HOb := Lib.hid hownb
    have A1 := cell_keep Qa.out (by simp) c7
    have B0 := Blk0 w7 25 #[.string xn, .slice Ab m kb] 0
    have B1 := Blk0 w7 25 #[.string xn, .slice Ab m kb] 1
    have h67 : w6.heap.size < w7.heap.size := Nat.lt_of_lt_of_le (by simp) b7.size
    have HROW := Lib.hid (row_keep (row_keep (own_blk HOa.out HM.out) ((Below.refl _ w6).alloc (Nat.le_refl _) (.cells #[.string xn, .slice Aa m ka] 25))) c7)
    have hlo : ∀ g, (Value.slice Aa m ka).ownBlock = some g → w5.heap.size ≤ g ∧ g < w6.heap.size := fun g e => World.ownsRow.lt HOa.out g e
    have HLO := Lib.hid hlo
    have hlb : ∀ g, (Value.slice Ab m kb).ownBlock = some g → w6.heap.size + 1 ≤ g := fun g e => by
      have := (World.ownsRow.lt HOb.out g e).1
      simpa using this
    have HLB := Lib.hid hlb
    clear hrb a7 b7 hownb Qa hlo hlb c7 HOb
    go_wp2_with fail
    generalize hW7 : w7.alloc (.cells #[.string xn, .slice Ab m kb] 25) = W7 at *
    have HZ7 : Hid (W7.heap.size = w7.heap.size + 1) := Lib.hid (by rw [← hW7]; simp)
    clear hW7
    generalize hrow : (Value.slice Aa m ka).ownBlock = row at *
    have HRW := Lib.hid hrow
    clear hrow
    go_loopw [10] (fun i wr => KLRel W7 row w6.heap.size m (.slice Aa m ka) i wr) (fun i _ => m - (intOf i).toNat)
    case atStart => exact ⟨0, rfl, Nat.zero_le _, Lib.hid (kl_start W7 row), HROW, A1⟩
    case round =>
      obtain ⟨k, rfl, hk, hG, hbk, ga⟩ := hrel
      by_cases hkm : k < m
      · obtain ⟨g, rfl⟩ := own_some HOa.out (by rw [← HM.out]; omega)
        have hrg : row = some g := HRW.out.symm.trans rfl
        subst hrg
        obtain ⟨cur, q1, q2⟩ := hbk.out g rfl
        obtain ⟨u, q3⟩ := kl_cell (m := m) q1 (j := k * 2 + 1) (by omega)
        have q4 := Lib.frozen_of_heap q1 (k * 2 + 1)
        have HKS := Lib.hid (kl_set (j := k * 2 + 1) q1 q2 hG.out (.string ⟨#[115, 112, 111, 105, 108, 116]⟩))
        have hlg := HLO.out g rfl
        have hng : ¬ w6.heap.size = g := by omega
        have hng2 : ¬ g = w6.heap.size := by omega
        have e1 : (k : Int) < (m : Int) := by omega
        have e0 : (0 : Int) ≤ (k : Int) := by omega
        have ga2 : (wr.setCell ⟨g, k * 2 + 1, none⟩ (.string ⟨#[115, 112, 111, 105, 108, 116]⟩)).cell? ⟨w6.heap.size, 1, none⟩ = some (.slice (some ⟨g, 0, none⟩) m ka) := (World.cell?_of_block (w := wr) (a := ⟨w6.heap.size, 1, none⟩) (Below.heap_setCell _ _ _ _ hng)).trans ga
        have GA2 := Lib.hid ga2
        clear q1 q2 hbk hG hlg ga2 HROW A1
        go_wp2_with fail
        go_roundw
        case rel => exact ⟨k + 1, by go_num, by omega, Lib.hid HKS.out.1, Lib.hid HKS.out.2, GA2.out⟩
        case measure => simp only [intOf]; omega
      · have e1 : ¬ (k : Int) < (m : Int) := by omega
        have hlow : ∀ b, b < w5.heap.size → some b ≠ row := fun b hb e => by have := (HLO.out b e.symm).1; omega
        have hB5 : Below w5.heap.size w5 wr := HB7.out.grown hG.out (by have := HB7.out.size; omega) (fun g e => (HLO.out g e).1)
        have HB9 := Lib.hid (HB5.out.trans (hB5.mono HB5.out.size))
        have HV9 := Lib.hid (HV5.out.after hB5)
        have HR9 := Lib.hid (HR5.out.keep hB5)
        have HS9 := Lib.hid (HS5.out.keep hB5)
        have T0' := cell_keep T0 hz5 hB5
        have T1' := cell_keep T1 hz5 hB5
        have D0' := cell_keep D0 hl5 hB5
        have D1' := cell_keep D1 hl5 hB5
        have hnb : some w7.heap.size ≠ row := fun e => by have := (HLO.out _ e.symm).2; omega
        have B0' := cell_far B0 hG.out hnb
        have B1' := cell_far B1 hG.out hnb
        have HRb9 := Lib.hid (HRb.out.keepG hG.out (fun b off e => fun e2 => by
          have h1 := HLB.out b (by rw [e]; rfl)
          have h2 := (HLO.out b e2.symm).2
          omega))
        have z5 : w.heap.size < wr.heap.size := Nat.lt_of_lt_of_le hz5 hB5.size
        have l5 : box < wr.heap.size := Nat.lt_of_lt_of_le hl5 hB5.size
        have z7 : w7.heap.size < wr.heap.size := by have := hG.out.size; have := HZ7.out; omega
        clear hlow hB5 hG hbk HROW A1 B0 B1 T0 T1 D0 D1 hnb HRb HR5 HS5 HB7 hz5 hl5 h67
        go_wp2_with fail
        refine (CA.out _ HV9.out).mono ?_
        rintro e w10 ⟨vc, rfl, hownc, b10⟩
        obtain ⟨Ac, kc, rfl, hrc⟩ := own_rdR hownc
        dsimp only at *
        rw [← HM.out]
        have a10 := (Below.refl _ w10).alloc (Nat.le_refl _) (.cells #[.string xn, .slice Ac m kc] 25)
        have c10 := b10.trans (a10.mono b10.size)
        have HB10 := Lib.hid (HB9.out.trans (c10.mono HB9.out.size))
        have HR10 := Lib.hid (HR9.out.keep c10)
        have HS10 := Lib.hid (HS9.out.keep c10)
        have HRb10 := Lib.hid (HRb9.out.keep c10)
        have HRc10 := Lib.hid (hrc.keep a10)
        have u0 := cell_keep T0' z5 b10
        have u1 := cell_keep T1' z5 b10
        have u2 := cell_keep D0' l5 b10
        have u3 := cell_keep D1' l5 b10
        have u4 := cell_keep B0' z7 b10
        have u5 := cell_keep B1' z7 b10
        have y5 : w.heap.size < w10.heap.size := Nat.lt_of_lt_of_le z5 b10.size
        have y6 : box < w10.heap.size := Nat.lt_of_lt_of_le l5 b10.size
        have y7 : w7.heap.size < w10.heap.size := Nat.lt_of_lt_of_le z7 b10.size
        have x5 : ¬ w.heap.size = w10.heap.size := by omega
        have x6 : ¬ box = w10.heap.size := by omega
        have x7 : ¬ w7.heap.size = w10.heap.size := by omega
        have U4 := Lib.hid (cell_keep u4 y7 a10)
        have U5 := Lib.hid (cell_keep u5 y7 a10)
        have W0' := Lib.hid (Blk0 w10 25 #[.string xn, .slice Ac m kc] 0)
        have W1' := Lib.hid (Blk0 w10 25 #[.string xn, .slice Ac m kc] 1)
        have y8 : w7.heap.size < (w10.alloc (.cells #[.string xn, .slice Ac m kc] 25)).heap.size := Nat.lt_of_lt_of_le y7 a10.size
        clear a10 b10 hownc hrc T0' T1' D0' D1' B0' B1' z5 l5 z7 CA
        go_wp2_with fail
        refine (CS1.out A A3 c c3 _ HR10.out HS10.out).mono ?_
        rintro e w11 ⟨rfl, b11⟩
        have HB11 := Lib.hid (HB10.out.trans (b11.mono HB10.out.size))
        have HRb11 := Lib.hid (HRb10.out.keep b11)
        have HRc11 := Lib.hid (HRc10.out.keep b11)
        have m4 := cell_keep U4.out y8 b11
        have m5 := cell_keep U5.out y8 b11
        have m6 := cell_keep W0'.out (by simp) b11
        have m7 := cell_keep W1'.out (by simp) b11
        clear b11 CS1
        go_wp2_with fail
        refine (CS2.out m Ab Ac kb kc _ HM.out HRb11.out HRc11.out).mono ?_
        rintro e w12 ⟨rfl, b12⟩
        have HB12 := Lib.hid (HB11.out.trans (b12.mono HB11.out.size))
        clear b12
        go_wp2
        go_ret
        exact ⟨rfl, HB12.out⟩
  · have H4 := Lib.hid (k4_set (nm := nm) H3.out HBX.out rfl (by omega))
    clear H3 HBX x0 x1 y0 y1 n3 n4 s0 s1 HOa HOb HOc HCa HCb HCc HKa HKb HKc HXb HXc hne2 hne3 hne4 hne5
    generalize (w3.setCell ⟨w2.heap.size, 0, none⟩ (.string nm)).setCell ⟨w2.heap.size, 1, none⟩ (.slice A3 n c3) = W4 at *
    obtain ⟨box, hbox⟩ : ∃ box, box = w2.heap.size := ⟨_, rfl⟩
    rw [← hbox] at H4 ⊢
    clear hbox
    have HB4 := Lib.hid (HB2.out.trans (H4.out.bel.mono HB2.out.size))
    have HV4 := Lib.hid (HV2.out.after H4.out.bel)
    have HR4 := Lib.hid (HR2.out.keep H4.out.bel)
    have HS4 := Lib.hid H4.out.rd
    have t0 := cell_keep k0 hz2 H4.out.bel
    have t1 := cell_keep k1 hz2 H4.out.bel
    have d0 := H4.out.c0
    have d1 := H4.out.c1
    have hbl := H4.out.lt
    have hzl : w.heap.size < W4.heap.size := Nat.lt_of_lt_of_le hz2 H4.out.bel.size
    clear k0 k1 H4 hz2
    go_wp2_with fail
    refine (CP.out _ HR4.out).mono ?_
    rintro e w5 ⟨rfl, b5⟩
    have HB5 := Lib.hid (HB4.out.trans (b5.mono HB4.out.size))
    have HV5 := Lib.hid (HV4.out.after b5)
    have HR5 := Lib.hid (HR4.out.keep b5)
    have HS5 := Lib.hid (HS4.out.keep b5)
    have T0 := cell_keep t0 hzl b5
    have T1 := cell_keep t1 hzl b5
    have D0 := cell_keep d0 hbl b5
    have D1 := cell_keep d1 hbl b5
    have hz5 : w.heap.size < w5.heap.size := Nat.lt_of_lt_of_le hzl b5.size
    have hl5 : box < w5.heap.size := Nat.lt_of_lt_of_le hbl b5.size
    clear b5 t0 t1 d0 d1 hzl hbl HB4 HV4 HR4 HS4 CP
    go_wp2_with fail
    refine (CA.out _ HV5.out).mono ?_
    rintro e w6 ⟨va, rfl, howna, b6⟩
    obtain ⟨Aa, ka, rfl, hra⟩ := own_rdR howna
    obtain ⟨m, hm⟩ : ∃ m, m = xl.length := ⟨_, rfl⟩
    dsimp only at *
    rw [← hm] at howna
    rw [← hm]
    have HM := Lib.hid hm
    have hm32 : m ≤ 32 := by omega
    have a6 := (Below.refl _ w6).alloc (Nat.le_refl _) (.cells #[.string xn, .slice Aa m ka] 25)
    have c6 := b6.trans (a6.mono b6.size)
    have HOa := Lib.hid howna
    have HB6 := Lib.hid c6
    have HV6 := Lib.hid (HV5.out.after c6)
    have Qa := Lib.hid (Blk0 w6 25 #[.string xn, .slice Aa m ka] 1)
    clear hm hra b6 a6 c6 howna
    go_wp2_with fail
    refine (CA.out _ HV6.out).mono ?_
    rintro e w7 ⟨vb, rfl, hownb, b7⟩
    obtain ⟨Ab, kb, rfl, hrb⟩ := own_rdR hownb
    dsimp only at *
    rw [← HM.out] at hownb
    rw [← HM.out]
    have a7 := (Below.refl _ w7).alloc (Nat.le_refl _) (.cells #[.string xn, .slice Ab m kb] 25)
    have c7 := b7.trans (a7.mono b7.size)
    have HB7 := Lib.hid (HB6.out.trans (c7.mono HB6.out.size))
    have HRb := Lib.hid (hrb.keep a7)
    have HOb := Lib.hid hownb
    have A1 := cell_keep Qa.out (by simp) c7
    have B0 := Blk0 w7 25 #[.string xn, .slice Ab m kb] 0
    have B1 := Blk0 w7 25 #[.string xn, .slice Ab m kb] 1
    have h67 : w6.heap.size < w7.heap.size := Nat.lt_of_lt_of_le (by simp) b7.size
    have HROW := Lib.hid (row_keep (row_keep (own_blk HOa.out HM.out) ((Below.refl _ w6).alloc (Nat.le_refl _) (.cells #[.string xn, .slice Aa m ka] 25))) c7)
    have hlo : ∀ g, (Value.slice Aa m ka).ownBlock = some g → w5.heap.size ≤ g ∧ g < w6.heap.size := fun g e => World.ownsRow.lt HOa.out g e
    have HLO := Lib.hid hlo
    have hlb : ∀ g, (Value.slice Ab m kb).ownBlock = some g → w6.heap.size + 1 ≤ g := fun g e => by
      have := (World.ownsRow.lt HOb.out g e).1
      simpa using this
    have HLB := Lib.hid hlb
    clear hrb a7 b7 hownb Qa hlo hlb c7 HOb
    go_wp2_with fail
    generalize hW7 : w7.alloc (.cells #[.string xn, .slice Ab m kb] 25) = W7 at *
    have HZ7 : Hid (W7.heap.size = w7.heap.size + 1) := Lib.hid (by rw [← hW7]; simp)
    clear hW7
    generalize hrow : (Value.slice Aa m ka).ownBlock = row at *
    have HRW := Lib.hid hrow
    clear hrow
    go_loopw [10] (fun i wr => KLRel W7 row w6.heap.size m (.slice Aa m ka) i wr) (fun i _ => m - (intOf i).toNat)
    case atStart => exact ⟨0, rfl, Nat.zero_le _, Lib.hid (kl_start W7 row), HROW, A1⟩
    case round =>
      obtain ⟨k, rfl, hk, hG, hbk, ga⟩ := hrel
      by_cases hkm : k < m
      · obtain ⟨g, rfl⟩ := own_some HOa.out (by rw [← HM.out]; omega)
        have hrg : row = some g := HRW.out.symm.trans rfl
        subst hrg
        obtain ⟨cur, q1, q2⟩ := hbk.out g rfl
        obtain ⟨u, q3⟩ := kl_cell (m := m) q1 (j := k * 2 + 1) (by omega)
        have q4 := Lib.frozen_of_heap q1 (k * 2 + 1)
        have HKS := Lib.hid (kl_set (j := k * 2 + 1) q1 q2 hG.out (.string ⟨#[115, 112, 111, 105, 108, 116]⟩))
        have hlg := HLO.out g rfl
        have hng : ¬ w6.heap.size = g := by omega
        have hng2 : ¬ g = w6.heap.size := by omega
        have e1 : (k : Int) < (m : Int) := by omega
        have e0 : (0 : Int) ≤ (k : Int) := by omega
        have ga2 : (wr.setCell ⟨g, k * 2 + 1, none⟩ (.string ⟨#[115, 112, 111, 105, 108, 116]⟩)).cell? ⟨w6.heap.size, 1, none⟩ = some (.slice (some ⟨g, 0, none⟩) m ka) := (World.cell?_of_block (w := wr) (a := ⟨w6.heap.size, 1, none⟩) (Below.heap_setCell _ _ _ _ hng)).trans ga
        have GA2 := Lib.hid ga2
        clear q1 q2 hbk hG hlg ga2 HROW A1
        go_wp2_with fail
        go_roundw
        case rel => exact ⟨k + 1, by go_num, by omega, Lib.hid HKS.out.1, Lib.hid HKS.out.2, GA2.out⟩
        case measure => simp only [intOf]; omega
      · have e1 : ¬ (k : Int) < (m : Int) := by omega
        have hlow : ∀ b, b < w5.heap.size → some b ≠ row := fun b hb e => by have := (HLO.out b e.symm).1; omega
        have hB5 : Below w5.heap.size w5 wr := HB7.out.grown hG.out (by have := HB7.out.size; omega) (fun g e => (HLO.out g e).1)
        have HB9 := Lib.hid (HB5.out.trans (hB5.mono HB5.out.size))
        have HV9 := Lib.hid (HV5.out.after hB5)
        have HR9 := Lib.hid (HR5.out.keep hB5)
        have HS9 := Lib.hid (HS5.out.keep hB5)
        have T0' := cell_keep T0 hz5 hB5
        have T1' := cell_keep T1 hz5 hB5
        have D0' := cell_keep D0 hl5 hB5
        have D1' := cell_keep D1 hl5 hB5
        have hnb : some w7.heap.size ≠ row := fun e => by have := (HLO.out _ e.symm).2; omega
        have B0' := cell_far B0 hG.out hnb
        have B1' := cell_far B1 hG.out hnb
        have HRb9 := Lib.hid (HRb.out.keepG hG.out (fun b off e => fun e2 => by
          have h1 := HLB.out b (by rw [e]; rfl)
          have h2 := (HLO.out b e2.symm).2
          omega))
        have z5 : w.heap.size < wr.heap.size := Nat.lt_of_lt_of_le hz5 hB5.size
        have l5 : box < wr.heap.size := Nat.lt_of_lt_of_le hl5 hB5.size
        have z7 : w7.heap.size < wr.heap.size := by have := hG.out.size; have := HZ7.out; omega
        clear hlow hB5 hG hbk HROW A1 B0 B1 T0 T1 D0 D1 hnb HRb HR5 HS5 HB7 hz5 hl5 h67
        go_wp2_with fail
        refine (CA.out _ HV9.out).mono ?_
        rintro e w10 ⟨vc, rfl, hownc, b10⟩
        obtain ⟨Ac, kc, rfl, hrc⟩ := own_rdR hownc
        dsimp only at *
        rw [← HM.out]
        have a10 := (Below.refl _ w10).alloc (Nat.le_refl _) (.cells #[.string xn, .slice Ac m kc] 25)
        have c10 := b10.trans (a10.mono b10.size)
        have HB10 := Lib.hid (HB9.out.trans (c10.mono HB9.out.size))
        have HR10 := Lib.hid (HR9.out.keep c10)
        have HS10 := Lib.hid (HS9.out.keep c10)
        have HRb10 := Lib.hid (HRb9.out.keep c10)
        have HRc10 := Lib.hid (hrc.keep a10)
        have u0 := cell_keep T0' z5 b10
        have u1 := cell_keep T1' z5 b10
        have u2 := cell_keep D0' l5 b10
        have u3 := cell_keep D1' l5 b10
        have u4 := cell_keep B0' z7 b10
        have u5 := cell_keep B1' z7 b10
        have y5 : w.heap.size < w10.heap.size := Nat.lt_of_lt_of_le z5 b10.size
        have y6 : box < w10.heap.size := Nat.lt_of_lt_of_le l5 b10.size
        have y7 : w7.heap.size < w10.heap.size := Nat.lt_of_lt_of_le z7 b10.size
        have x5 : ¬ w.heap.size = w10.heap.size := by omega
        have x6 : ¬ box = w10.heap.size := by omega
        have x7 : ¬ w7.heap.size = w10.heap.size := by omega
        have U4 := Lib.hid (cell_keep u4 y7 a10)
        have U5 := Lib.hid (cell_keep u5 y7 a10)
        have W0' := Lib.hid (Blk0 w10 25 #[.string xn, .slice Ac m kc] 0)
        have W1' := Lib.hid (Blk0 w10 25 #[.string xn, .slice Ac m kc] 1)
        have y8 : w7.heap.size < (w10.alloc (.cells #[.string xn, .slice Ac m kc] 25)).heap.size := Nat.lt_of_lt_of_le y7 a10.size
        clear a10 b10 hownc hrc T0' T1' D0' D1' B0' B1' z5 l5 z7 CA
        go_wp2_with fail
        refine (CS1.out A A3 c c3 _ HR10.out HS10.out).mono ?_
        rintro e w11 ⟨rfl, b11⟩
        have HB11 := Lib.hid (HB10.out.trans (b11.mono HB10.out.size))
        have HRb11 := Lib.hid (HRb10.out.keep b11)
        have HRc11 := Lib.hid (HRc10.out.keep b11)
        have m4 := cell_keep U4.out y8 b11
        have m5 := cell_keep U5.out y8 b11
        have m6 := cell_keep W0'.out (by simp) b11
        have m7 := cell_keep W1'.out (by simp) b11
        clear b11 CS1
        go_wp2_with fail
        refine (CS2.out m Ab Ac kb kc _ HM.out HRb11.out HRc11.out).mono ?_
        rintro e w12 ⟨rfl, b12⟩
        have HB12 := Lib.hid (HB11.out.trans (b12.mono HB11.out.size))
        clear b12
        go_wp2
        go_ret
        exact ⟨rfl, HB12.out⟩
end Go.Proofs.YtaoklhalkfcpfaaGreatDoor
