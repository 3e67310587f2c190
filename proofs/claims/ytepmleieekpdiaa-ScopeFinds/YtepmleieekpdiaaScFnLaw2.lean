/-
  The walk of the law ScopeFinds where the tag may be entered; the law.
-/
import Derived.Test.YtepmleieekpdiaaScFnLaw
set_option linter.unusedSimpArgs false
set_option linter.unusedVariables false
namespace Go.Proofs.Ytepmleieekpdiaa
open Go.RowKit

set_option maxHeartbeats 8000000 in
set_option maxRecDepth 100000 in
theorem fn_ok (A A2 : Option Addr) (N M cap cap2 NW : Nat) (nm p s fs na nb : ByteArray) (fb : Bool) (Ws : List P2) (f : List P3) (w : World) (hNW : NW = Ws.length) (hNN : N ≤ NW) (hW1 : NW ≤ 1000)
    (CF : Hid (SmC A A2 N M cap cap2 nm true w)) (CE : Hid (EnC A A2 N M cap cap2 nm (.ok (Ws, (na, nb), f)) w)) (C1 : Hid (FnC A N cap p fs fb w))
    (CK : Hid (∀ (A'' : Option Addr) (c'' : Nat) (W' : World), RdR W' A'' (Ws ++ [(p, s)]) → Below w.heap.size w W' → Calls Try.prog 12 #[.slice A'' (NW + 1) c'', .string p] W' fun e w' => e = .returned (.tuple #[.string s, .bool true]) ∧ Below W'.heap.size W' w'))
    (CS : Hid (∀ (A' : Option Addr) (c' : Nat) (W' : World), RdR W' A' Ws → Below w.heap.size w W' → Calls Try.prog 14 #[.slice A' N c', .slice A N cap] W' fun e w' => e = .returned (.bool true) ∧ Below W'.heap.size W' w')) :
    Calls Try.prog 5 #[.slice A N cap, .agg #[.string nm, .slice A2 M cap2], .string p, .string s] w fun e w' => e = .returned (.bool true) ∧ Below w.heap.size w w' := by
  have CW : Hid AwC := Lib.hid awake_any
  have H0 := Lib.hid (tgb_start w nm A2 M cap2)
  obtain ⟨i0, hi, hz0, hz1, hz2⟩ := info_parts Try.info50
  have HNW := Lib.hid hNW
  have q1 : (s.toList == s.toList) = true := beq_self_eq_true _
  have q2 : (fs.toList == fs.toList) = true := beq_self_eq_true _
  have q3 : (fb == fb) = true := beq_self_eq_true _
  have q4 : decide ((N : Int) ≤ (NW : Int)) = true := by rw [decide_eq_true_eq]; omega
  have q5 : decide (N ≤ NW) = true := by rw [decide_eq_true_eq]; omega
  have tok1 : True := trivial
  have tok2 : True := trivial
  clear hNW
  go_enter Try.func5, Try.ntmps5
  go_wp2_with fail
  refine (CW.out _).mono ?_
  rintro e w1 ⟨rfl, hb1⟩
  have H1 := Lib.hid (H0.out.keep hb1)
  have t0 := cells_of H1.out.1 0 (u := .string nm) rfl
  have t1 := cells_of H1.out.1 1 (u := .slice A2 M cap2) rfl
  clear hb1 H0 CW
  go_wp2_with fail
  refine (CF.out _ H1.out.2).mono ?_
  rintro e w2 ⟨rfl, hb2⟩
  have H2 := Lib.hid (H1.out.keep hb2)
  clear t0 t1 hb2 H1 CF
  go_wp2_with fail
  refine (C1.out _ H2.out.2).mono ?_
  rintro e w3 ⟨rfl, hb3⟩
  have H3 := Lib.hid (H2.out.keep hb3)
  have t0 := cells_of H3.out.1 0 (u := .string nm) rfl
  have t1 := cells_of H3.out.1 1 (u := .slice A2 M cap2) rfl
  clear hb3 H2
  go_wp2_with fail
  refine (CE.out _ H3.out.2).mono ?_
  rintro e w4 ⟨-, g2, hb4⟩
  obtain ⟨v, va, rfl, hv, hva⟩ := g2 _ _ _ rfl
  unfold evV
  dsimp only
  obtain ⟨Ax, cx, ex, hrd⟩ := own_rdR' hv HNW.out
  rcases hv.2 with ⟨ev, en⟩ | ⟨g, cw, cur, ev, -, -, hnc, hcm, -⟩
  · subst ev
    obtain rfl : NW = 0 := HNW.out.trans en
    obtain rfl : N = 0 := by omega
    injection ex with ex1 ex2 ex3
    rw [← ex1] at hrd
    clear ex1 ex2 ex3 en

    obtain ⟨Av, Nv, cv, rfl⟩ : ∃ Av Nv cv, va = .slice Av Nv cv := by obtain ⟨x1, x2, x3⟩ := own_slice hva; exact ⟨_, _, _, x3⟩
    have H4 := Lib.hid (H3.out.keep hb4)
    have HB4 := Lib.hid (H4.out.2.alloc H4.out.2.size (.cells #[.int .i64 1, .string na, .string nb, .slice Av Nv cv, .string ⟨#[]⟩] 32))
    have HRb := Lib.hid (hrd.keep ((Below.refl _ w4).alloc (Nat.le_refl _) (.cells #[.int .i64 1, .string na, .string nb, .slice Av Nv cv, .string ⟨#[]⟩] 32)))
    have HE : Hid (((w4.alloc (.cells #[.int .i64 1, .string na, .string nb, .slice Av Nv cv, .string ⟨#[]⟩] 32)).alloc (.cells #[] 50)).ownsRow (w4.heap.size + 1) 50 2 (.slice (some ⟨w4.heap.size + 1, 0, none⟩) 0 0) 0 []) := Lib.hid (own_emp (by have := nblk (w4.alloc (.cells #[.int .i64 1, .string na, .string nb, .slice Av Nv cv, .string ⟨#[]⟩] 32)) 50 #[]; rw [World.size_alloc] at this; exact this) (Nat.le_refl _))
    have HBe : Hid (Below (w4.heap.size + 1) (w4.alloc (.cells #[.int .i64 1, .string na, .string nb, .slice Av Nv cv, .string ⟨#[]⟩] 32)) ((w4.alloc (.cells #[.int .i64 1, .string na, .string nb, .slice Av Nv cv, .string ⟨#[]⟩] 32)).alloc (.cells #[] 50))) := Lib.hid ((Below.refl (w4.heap.size + 1) (w4.alloc (.cells #[.int .i64 1, .string na, .string nb, .slice Av Nv cv, .string ⟨#[]⟩] 32))).alloc (by simp) (.cells #[] 50))
    have HCe : Hid (∀ ad, (none : Option Addr) = some ad → ∀ j u, (rwL Ws)[j]? = some u → ((w4.alloc (.cells #[.int .i64 1, .string na, .string nb, .slice Av Nv cv, .string ⟨#[]⟩] 32)).alloc (.cells #[] 50)).cell? (ad.add j) = some u) := Lib.hid (fun ad ha => by
      have := HRb.out.keep ((Below.refl _ (w4.alloc (.cells #[.int .i64 1, .string na, .string nb, .slice Av Nv cv, .string ⟨#[]⟩] 32))).alloc (Nat.le_refl _) (.cells #[] 50))
      rw [ha] at this
      exact this.cells)
    have HLL : Hid ((rwL Ws).length = 0 * 2) := Lib.hid (by rw [rwL_len, HNW.out])
    have HONE := Lib.hid (rwL_one Ws)
    have hw4 : w4.heap.size + 1 ≤ ((w4.alloc (.cells #[.int .i64 1, .string na, .string nb, .slice Av Nv cv, .string ⟨#[]⟩] 32)).alloc (.cells #[] 50)).heap.size := by simp
    have HW4 := Lib.hid hw4
    clear hb4 H3 CE t0 t1 hva hrd H4 hv g2 hw4
    go_wp2_with (first
      | (at_builtin; have _t := tok1
         refine wpList_append_any rfl _ _ 22 rfl (w4.heap.size + 1) 50 i0 (.agg #[.string ⟨#[]⟩, .string ⟨#[]⟩]) 2 32 Try.underlying22 hi hz0 hz1 hz2 rfl (by decide) _ 0 [] rfl HE.out none 0 0 (rwL Ws) rfl (fun _ => ⟨rfl, rfl⟩) HLL.out HCe.out HONE.out (by unfold maxLen; omega) (by omega) HW4.out ?_
         intro v2 w5 hown5 hgrow5
         clear tok1
         have HB5 := Lib.hid (HBe.out.grown hgrow5 HW4.out (fun j hj => (World.ownsRow.lt HE.out j hj).1))
         rw [List.nil_append, Nat.zero_add] at hown5
         obtain ⟨A5, c5, rfl⟩ := own_slice hown5
         have HO5 := Lib.hid (hown5.alloc (.cells #[.string p, .string s] 50))
         have hnew := Lib.hid (new_cells w5 #[.string p, .string s] 50)
         have HZ5 : Hid (w4.heap.size + 1 ≤ w5.heap.size) := Lib.hid (Nat.le_trans (by simp) HB5.out.size)
         have HB6 := Lib.hid (HB5.out.alloc HZ5.out (.cells #[.string p, .string s] 50))
         have HZ6 : Hid (w4.heap.size + 1 ≤ (w5.alloc (.cells #[.string p, .string s] 50)).heap.size) := Lib.hid (Nat.le_trans HZ5.out (by simp))
         clear hown5 hgrow5 HE HBe HCe HLL HONE HW4)
      | (at_builtin; have _t := tok2
         refine wpList_append_own _ rfl _ _ 22 rfl (w4.heap.size + 1) 50 i0 (.agg #[.string ⟨#[]⟩, .string ⟨#[]⟩]) 2 32 Try.underlying22 hi hz0 hz1 hz2 rfl (by decide) _ 0 (rwL Ws) rfl HO5.out ⟨w5.heap.size, 0, none⟩ 1 1 [.string p, .string s] rfl rfl hnew.out (pair_one p s) (by unfold maxLen; omega) (by omega) HZ6.out ?_
         intro v3 w6 hown6 hgrow6 _
         clear tok2
         have HB7 := Lib.hid (HB6.out.grown hgrow6 HZ6.out (fun j hj => (World.ownsRow.lt HO5.out j hj).1))
         have HO6 : Hid (OwnP 50 w6 (w4.heap.size + 1) v3 (Ws ++ [(p, s)])) := Lib.hid (own_put (w := w6) (by rw [← HNW.out]; exact hown6))
         obtain ⟨A6, c6, rfl, hrd6⟩ := own_rdR' (n := 0 + 1) HO6.out (by rw [List.length_append, ← HNW.out]; rfl)
         have HR6 := Lib.hid hrd6
         have HBx : Hid (Below (w4.alloc (.cells #[.int .i64 1, .string na, .string nb, .slice Av Nv cv, .string ⟨#[]⟩] 32)).heap.size (w4.alloc (.cells #[.int .i64 1, .string na, .string nb, .slice Av Nv cv, .string ⟨#[]⟩] 32)) w6) := Lib.hid (by rw [World.size_alloc]; exact HB7.out)
         have HBw := Lib.hid (HB4.out.trans (HBx.out.mono HB4.out.size))
         have HRm := Lib.hid (HRb.out.keep HBx.out)
         clear hown6 hgrow6 HO5 HB6 HB5 hnew HO6 hrd6 HB7 HBx HZ5 HZ6)
      | fail)
    refine (CK.out A6 c6 _ HR6.out HBw.out).mono ?_
    rintro e w7 ⟨rfl, hb7⟩
    have HB8 := Lib.hid (HBw.out.trans (hb7.mono HBw.out.size))
    have HR8 := Lib.hid (HRm.out.keep hb7)
    clear hb7 CK HR6 HRm HB4 HRb HBw
    go_wp2_with fail
    refine (C1.out _ HB8.out).mono ?_
    rintro e w8 ⟨rfl, hb8⟩
    have HB9 := Lib.hid (HB8.out.trans (hb8.mono HB8.out.size))
    have HR9 := Lib.hid (HR8.out.keep hb8)
    clear hb8 C1 HB8 HR8
    go_wp2_with fail
    refine (CS.out none 0 _ HR9.out HB9.out).mono ?_
    rintro e w9 ⟨rfl, hb9⟩
    have HBz := Lib.hid (HB9.out.trans (hb9.mono HB9.out.size))
    clear hb9 CS HB9 HR9
    go_wp2_with fail
    go_ret
    exact ⟨rfl, HBz.out⟩
  · have ex' : (Value.slice Ax NW cx) = .slice (some ⟨g, 0, none⟩) Ws.length cw := ex.symm.trans ev
    injection ex' with ex1 ex2 ex3
    rw [← HNW.out] at ev hnc
    subst ev
    rw [ex1] at hrd
    have q6 : (N : Int) ≤ (cw : Int) := by omega
    have q7 : (0 : Int) ≤ (N : Int) := by omega
    have q8 : N ≤ cw := by omega
    unfold maxLen at hcm
    clear ex1 ex2 ex3 ex

    obtain ⟨Av, Nv, cv, rfl⟩ : ∃ Av Nv cv, va = .slice Av Nv cv := by obtain ⟨x1, x2, x3⟩ := own_slice hva; exact ⟨_, _, _, x3⟩
    have H4 := Lib.hid (H3.out.keep hb4)
    have HB4 := Lib.hid (H4.out.2.alloc H4.out.2.size (.cells #[.int .i64 1, .string na, .string nb, .slice Av Nv cv, .string ⟨#[]⟩] 32))
    have HRb := Lib.hid (hrd.keep ((Below.refl _ w4).alloc (Nat.le_refl _) (.cells #[.int .i64 1, .string na, .string nb, .slice Av Nv cv, .string ⟨#[]⟩] 32)))
    have HE : Hid (((w4.alloc (.cells #[.int .i64 1, .string na, .string nb, .slice Av Nv cv, .string ⟨#[]⟩] 32)).alloc (.cells #[] 50)).ownsRow (w4.heap.size + 1) 50 2 (.slice (some ⟨w4.heap.size + 1, 0, none⟩) 0 0) 0 []) := Lib.hid (own_emp (by have := nblk (w4.alloc (.cells #[.int .i64 1, .string na, .string nb, .slice Av Nv cv, .string ⟨#[]⟩] 32)) 50 #[]; rw [World.size_alloc] at this; exact this) (Nat.le_refl _))
    have HBe : Hid (Below (w4.heap.size + 1) (w4.alloc (.cells #[.int .i64 1, .string na, .string nb, .slice Av Nv cv, .string ⟨#[]⟩] 32)) ((w4.alloc (.cells #[.int .i64 1, .string na, .string nb, .slice Av Nv cv, .string ⟨#[]⟩] 32)).alloc (.cells #[] 50))) := Lib.hid ((Below.refl (w4.heap.size + 1) (w4.alloc (.cells #[.int .i64 1, .string na, .string nb, .slice Av Nv cv, .string ⟨#[]⟩] 32))).alloc (by simp) (.cells #[] 50))
    have HCe : Hid (∀ ad, ((some ⟨g, 0, none⟩) : Option Addr) = some ad → ∀ j u, (rwL Ws)[j]? = some u → ((w4.alloc (.cells #[.int .i64 1, .string na, .string nb, .slice Av Nv cv, .string ⟨#[]⟩] 32)).alloc (.cells #[] 50)).cell? (ad.add j) = some u) := Lib.hid (fun ad ha => by
      have := HRb.out.keep ((Below.refl _ (w4.alloc (.cells #[.int .i64 1, .string na, .string nb, .slice Av Nv cv, .string ⟨#[]⟩] 32))).alloc (Nat.le_refl _) (.cells #[] 50))
      rw [ha] at this
      exact this.cells)
    have HLL : Hid ((rwL Ws).length = NW * 2) := Lib.hid (by rw [rwL_len, HNW.out])
    have HONE := Lib.hid (rwL_one Ws)
    have hw4 : w4.heap.size + 1 ≤ ((w4.alloc (.cells #[.int .i64 1, .string na, .string nb, .slice Av Nv cv, .string ⟨#[]⟩] 32)).alloc (.cells #[] 50)).heap.size := by simp
    have HW4 := Lib.hid hw4
    clear hb4 H3 CE t0 t1 hva hrd H4 hv g2 hw4
    go_wp2_with (first
      | (at_builtin; have _t := tok1
         refine wpList_append_any rfl _ _ 22 rfl (w4.heap.size + 1) 50 i0 (.agg #[.string ⟨#[]⟩, .string ⟨#[]⟩]) 2 32 Try.underlying22 hi hz0 hz1 hz2 rfl (by decide) _ 0 [] rfl HE.out (some ⟨g, 0, none⟩) NW cw (rwL Ws) rfl (fun h => by cases h) HLL.out HCe.out HONE.out (by unfold maxLen; omega) (by omega) HW4.out ?_
         intro v2 w5 hown5 hgrow5
         clear tok1
         have HB5 := Lib.hid (HBe.out.grown hgrow5 HW4.out (fun j hj => (World.ownsRow.lt HE.out j hj).1))
         rw [List.nil_append, Nat.zero_add] at hown5
         obtain ⟨A5, c5, rfl⟩ := own_slice hown5
         have HO5 := Lib.hid (hown5.alloc (.cells #[.string p, .string s] 50))
         have hnew := Lib.hid (new_cells w5 #[.string p, .string s] 50)
         have HZ5 : Hid (w4.heap.size + 1 ≤ w5.heap.size) := Lib.hid (Nat.le_trans (by simp) HB5.out.size)
         have HB6 := Lib.hid (HB5.out.alloc HZ5.out (.cells #[.string p, .string s] 50))
         have HZ6 : Hid (w4.heap.size + 1 ≤ (w5.alloc (.cells #[.string p, .string s] 50)).heap.size) := Lib.hid (Nat.le_trans HZ5.out (by simp))
         clear hown5 hgrow5 HE HBe HCe HLL HONE HW4)
      | (at_builtin; have _t := tok2
         refine wpList_append_own _ rfl _ _ 22 rfl (w4.heap.size + 1) 50 i0 (.agg #[.string ⟨#[]⟩, .string ⟨#[]⟩]) 2 32 Try.underlying22 hi hz0 hz1 hz2 rfl (by decide) _ NW (rwL Ws) rfl HO5.out ⟨w5.heap.size, 0, none⟩ 1 1 [.string p, .string s] rfl rfl hnew.out (pair_one p s) (by unfold maxLen; omega) (by omega) HZ6.out ?_
         intro v3 w6 hown6 hgrow6 _
         clear tok2
         have HB7 := Lib.hid (HB6.out.grown hgrow6 HZ6.out (fun j hj => (World.ownsRow.lt HO5.out j hj).1))
         have HO6 : Hid (OwnP 50 w6 (w4.heap.size + 1) v3 (Ws ++ [(p, s)])) := Lib.hid (own_put (w := w6) (by rw [← HNW.out]; exact hown6))
         obtain ⟨A6, c6, rfl, hrd6⟩ := own_rdR' (n := NW + 1) HO6.out (by rw [List.length_append, ← HNW.out]; rfl)
         have HR6 := Lib.hid hrd6
         have HBx : Hid (Below (w4.alloc (.cells #[.int .i64 1, .string na, .string nb, .slice Av Nv cv, .string ⟨#[]⟩] 32)).heap.size (w4.alloc (.cells #[.int .i64 1, .string na, .string nb, .slice Av Nv cv, .string ⟨#[]⟩] 32)) w6) := Lib.hid (by rw [World.size_alloc]; exact HB7.out)
         have HBw := Lib.hid (HB4.out.trans (HBx.out.mono HB4.out.size))
         have HRm := Lib.hid (HRb.out.keep HBx.out)
         clear hown6 hgrow6 HO5 HB6 HB5 hnew HO6 hrd6 HB7 HBx HZ5 HZ6)
      | fail)
    refine (CK.out A6 c6 _ HR6.out HBw.out).mono ?_
    rintro e w7 ⟨rfl, hb7⟩
    have HB8 := Lib.hid (HBw.out.trans (hb7.mono HBw.out.size))
    have HR8 := Lib.hid (HRm.out.keep hb7)
    clear hb7 CK HR6 HRm HB4 HRb HBw
    go_wp2_with fail
    refine (C1.out _ HB8.out).mono ?_
    rintro e w8 ⟨rfl, hb8⟩
    have HB9 := Lib.hid (HB8.out.trans (hb8.mono HB8.out.size))
    have HR9 := Lib.hid (HR8.out.keep hb8)
    clear hb8 C1 HB8 HR8
    go_wp2_with fail
    refine (CS.out (some ⟨g, 0, none⟩) cw _ HR9.out HB9.out).mono ?_
    rintro e w9 ⟨rfl, hb9⟩
    have HBz := Lib.hid (HB9.out.trans (hb9.mono HB9.out.size))
    clear hb9 CS HB9 HR9
    go_wp2_with fail
    go_ret
    exact ⟨rfl, HBz.out⟩

theorem finds_law (A A2 : Option Addr) (N M cap cap2 : Nat) (nm p s : ByteArray) (L R : List P2) (w : World) (hN : N = L.length) (hNm : N ≤ maxLen) (hl : LimL L) (hR : RdR w A L)
    (hM : M = R.length) (hMm : M ≤ maxLen) (hlR : LimL R) (hR2 : RdR w A2 R) (hn : nm.size ≤ Lim) (hs : s.size ≤ Lim) (hp : p.size ≤ Lim) :
    Calls Try.prog 5 #[.slice A N cap, .agg #[.string nm, .slice A2 M cap2], .string p, .string s] w fun e w' => e = .returned (.bool true) ∧ Below w.heap.size w w' := by
  have lm : ∀ k, k ≤ Lim → k ≤ maxLen := fun k h => Nat.le_trans h (by unfold Lim maxLen; omega)
  have hx : ∀ x ∈ R, x.1.size ≤ maxLen ∧ x.2.size ≤ maxLen := fun x h => ⟨lm _ (hlR x h).1, lm _ (hlR x h).2⟩
  by_cases hf : SmlP N nm R
  · have CF : SmC A A2 N M cap cap2 nm true w := fun W hW => sml_yes hNm hM (lm _ hn) hMm hx (hR2.keep hW) hf
    have hE : Ent w A A2 N M nm L R := ⟨hN, hM, by have := hf.1; omega, by have := hf.2.1.2.1; omega, by have := hf.2.1.1; omega, hl, hlR, fun x h => by have := (hf.2.1.2.2 x h).1; omega, hR, hR2⟩
    have CE : EnC A A2 N M cap cap2 nm (entF L nm R) w := fun W hW => enter_any cap cap2 (hE.keep hW)
    have C1 : FnC A N cap p (fndF L p).1 (fndF L p).2 w := fun W hW => find_any A N cap p L W hN hl (by have := hf.1; omega) (hR.keep hW)
    cases ho : entF L nm R with
    | error c =>
      rw [ho] at CE
      have hc : c = 8 ∨ c = 9 := by
        unfold entF at ho
        split at ho
        · injection ho with ho
          exact .inr ho.symm
        · split at ho
          · injection ho with ho
            exact .inr ho.symm
          · split at ho
            · rename_i h1
              injection ho with ho
              rw [← ho]
              exact att_err _ R [] h1
            · cases ho
      exact fn_err A A2 N M cap cap2 nm p s _ _ c w hc (Lib.hid CF) (Lib.hid CE) (Lib.hid C1)
    | ok x =>
      obtain ⟨Ws, ⟨na, nb⟩, f⟩ := x
      rw [ho] at CE
      have hb : bindF L R = some Ws := by
        unfold entF at ho
        split at ho
        · cases ho
        · rename_i h1
          split at ho
          · cases ho
          · split at ho
            · cases ho
            · injection ho with ho
              injection ho with ho1 ho2
              rw [h1, ho1]
      have hw := bind_len R L hb
      have hwl := bind_lim R L hl hlR hb
      have h1 := hf.1
      have h2 := hf.2.1.2.1
      refine fn_ok A A2 N M cap cap2 Ws.length nm p s _ na nb _ Ws f w rfl (by omega) (by omega) (Lib.hid CF) (Lib.hid CE) (Lib.hid C1) (Lib.hid (fun A'' c'' W' r1 _ => ?_)) (Lib.hid (fun A' c' W' r1 r2 => ?_))
      · have hlx : LimL (Ws ++ [(p, s)]) := fun x hx => by
          rcases List.mem_append.1 hx with hx | hx
          · exact hwl x hx
          · rw [List.mem_singleton] at hx
            subst hx
            exact ⟨hp, hs⟩
        have := find_any A'' (Ws.length + 1) c'' p (Ws ++ [(p, s)]) W' (by rw [List.length_append]; rfl) hlx (by omega) r1
        rw [fnd_last Ws (p, s)] at this
        exact this
      · exact same_any L N A' A c' cap W' hN (by omega) (r1.take (by exact hw.2.2)) (hR.keep r2)
  · exact fn_out A A2 N M cap cap2 nm p s w (Lib.hid (fun W hW => sml_no hNm hM (lm _ hn) hMm hx (hR2.keep hW) hf))
end Go.Proofs.Ytepmleieekpdiaa
