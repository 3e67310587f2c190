/-
  The walk of TagBack where the tag may be.
-/
import Derived.Test.YtaoklhalkfcpfaaGreatDoorLTgBkLaw
set_option linter.unusedSimpArgs false
set_option linter.unusedVariables false
namespace Go.Proofs.YtaoklhalkfcpfaaGreatDoor
open Go.RowKit

def BRel (w : World) (nm : ByteArray) (l : List (ByteArray × ByteArray)) (n c : Nat) (A : Option Addr) (L : Nat) (j1 j2 j3 : Nat) (o i : Value) (wr : World) : Prop :=
  ∃ (k : Nat) (O : ByteArray), i = .int .i64 k ∧ k ≤ n ∧ o = .string O ∧ O.size ≤ 200 + 2000 * k ∧ Hid (byts O = byts nm ++ (l.take k).flatMap (atT (byts (bkS j1)) (byts (bkS j2)) (byts (bkS j3)))) ∧ Hid (RdR wr A l) ∧ Hid (Below w.heap.size w wr) ∧
    w.heap.size < wr.heap.size ∧ L < wr.heap.size ∧ wr.cell? ⟨w.heap.size, 0, none⟩ = some (.string nm) ∧ wr.cell? ⟨w.heap.size, 1, none⟩ = some (.slice A n c) ∧ Hid (wr.cell? ⟨L, 0, none⟩ = some (.string ⟨#[]⟩) ∧ wr.cell? ⟨L, 1, none⟩ = some (.string ⟨#[32]⟩) ∧ wr.cell? ⟨L, 2, none⟩ = some (.string ⟨#[10]⟩) ∧ wr.cell? ⟨L, 3, none⟩ = some (.string ⟨#[9, 13, 32]⟩))
theorem bk_cell {wr : World} {L i : Nat} (h : wr.cell? ⟨L, 0, none⟩ = some (.string ⟨#[]⟩) ∧ wr.cell? ⟨L, 1, none⟩ = some (.string ⟨#[32]⟩) ∧ wr.cell? ⟨L, 2, none⟩ = some (.string ⟨#[10]⟩) ∧ wr.cell? ⟨L, 3, none⟩ = some (.string ⟨#[9, 13, 32]⟩)) (hi : i < 4) : wr.cell? ⟨L, i, none⟩ = some (.string (bkS i)) := by
  have : i = 0 ∨ i = 1 ∨ i = 2 ∨ i = 3 := by omega
  rcases this with rfl | rfl | rfl | rfl
  · exact h.1
  · exact h.2.1
  · exact h.2.2.1
  · exact h.2.2.2
theorem bkS_ne (i : Nat) (h1 : 1 ≤ i) (h : i < 4) : byts (bkS i) ≠ [] := by
  have : i = 1 ∨ i = 2 ∨ i = 3 := by omega
  rcases this with rfl | rfl | rfl <;> simp [bkS, byts]
theorem one_str (tn : ByteArray) : strOfNums (prF tn []) = tn := (str_of_byts (s := tn) (l := prF tn []) (by unfold prF; simp)).symm
/-- What stands behind the first two bytes of a value that is printed alone. -/
theorem val_str (tv : ByteArray) : (strOfNums (prF Nz.em [(Nz.em, tv)])).size = (escF true (byts tv)).length + 4 ∧ byts ((strOfNums (prF Nz.em [(Nz.em, tv)])).extract 2 (strOfNums (prF Nz.em [(Nz.em, tv)])).size) = 34 :: (escF true (byts tv) ++ [34]) := by
  have e := pr_str Nz.em [(Nz.em, tv)]
  have e2 : prF Nz.em [(Nz.em, tv)] = 32 :: 61 :: 34 :: (escF true (byts tv) ++ [34]) := by
    unfold prF atP
    have : byts Nz.em = [] := rfl
    simp [this]
  refine ⟨by rw [← byts_len, e, e2]; simp, ?_⟩
  rw [byts_from, e, e2]
  rfl
theorem print_one (tn : ByteArray) (h : tn.size ≤ 1000) (W : World) : Calls Tryz.prog 13 #[.agg #[.string tn, .slice none 0 0]] W fun e w' => e = .returned (.string tn) ∧ Below W.heap.size W w' := by
  have := print_any tn [] 0 0 none W rfl (by omega) h (fun x hx => by simp at hx) (fun j x hx => by simp at hx)
  rw [one_str] at this
  exact this
theorem print_val (tv : ByteArray) (h : tv.size ≤ 1000) (W : World) : Calls Tryz.prog 13 #[.agg #[.string ⟨#[]⟩, .slice (some ⟨W.heap.size, 0, none⟩) 1 1]] (W.alloc (.cells #[.string ⟨#[]⟩, .string tv] 37)) fun e w' => e = .returned (.string (strOfNums (prF Nz.em [(Nz.em, tv)]))) ∧ Below (W.alloc (.cells #[.string ⟨#[]⟩, .string tv] 37)).heap.size (W.alloc (.cells #[.string ⟨#[]⟩, .string tv] 37)) w' := by
  refine print_any Nz.em [(Nz.em, tv)] 1 1 (some ⟨W.heap.size, 0, none⟩) (W.alloc (.cells #[.string ⟨#[]⟩, .string tv] 37)) rfl (by omega) (by decide) (fun x hx => ?_) (fun j x hx => ?_)
  · have : x = (Nz.em, tv) := by simpa using hx
    subst this
    exact ⟨by show (Nz.em).size ≤ 1000; decide, h⟩
  · cases j with
    | succ j => simp at hx
    | zero =>
      have : x = (Nz.em, tv) := by simpa using hx.symm
      subst this
      exact ⟨W.heap.size, 0, rfl, by simp, Blk0 W 37 #[.string ⟨#[]⟩, .string tv] 0, Blk0 W 37 #[.string ⟨#[]⟩, .string tv] 1⟩
set_option maxHeartbeats 4000000 in
set_option maxRecDepth 100000 in
theorem back_right (nm : ByteArray) (A : Option Addr) (n c : Nat) (l : List (ByteArray × ByteArray)) (B : Int) (w : World) (hT : TagIn w nm A n c l) (hF : FewP nm l) (hR : RgP nm l) (hB0 : 0 ≤ B) (hB1 : B ≤ 255) (hV : Vars w) :
    Calls Tryz.prog 5 #[.agg #[.string nm, .slice A n c], .int .u8 B] w fun e w' => e = .returned (.bool true) ∧ Below w.heap.size w w' := by
  have hfit : Fit l := fun x hx => by have := hF.2.2 x hx; omega
  have hn32 : n ≤ 32 := by have := hR.2.1; have := hT.len; omega
  have CF := Lib.hid (fun W h => few_yes nm l n A c W hT.len hT.nsz hT.lsz hT.xsz h hF)
  have CG := Lib.hid (fun W h => rgt_yes nm l n c A W hT.len (by omega) (by have := hF.1; omega) hfit h hR)
  have CP := Lib.hid (fun W h => print_any nm l n c A W hT.len (by omega) (by have := hF.1; omega) hfit h)
  have hsz : (strOfNums (prF nm l)).size ≤ 100000 := by
    rw [← byts_len, pr_str]
    have := pr_len2 nm hF.1 l hF.2.2
    have := hT.len
    omega
  have CA := Lib.hid (fun W (hW : Vars W) => tparse_any (strOfNums (prF nm l)) W hW hsz)
  rw [print_back nm l hR (pr_str nm l)] at CA
  have CS := Lib.hid (fun (A1 A2 : Option Addr) (k1 k2 : Nat) W h1 h2 => same_any nm l n A1 A2 k1 k2 W hT.len (by omega) h1 h2)
  have HN := Lib.hid hT.len
  have HFw := Lib.hid hF
  have HVW := Lib.hid hV
  have HRg := Lib.hid hR
  have CB := Lib.hid (fun (u : ByteArray) W (hW : Vars W) (hz : u.size ≤ 100000) (hp : parF u = (0, nm, l)) => (by have := tparse_any u W hW hz; rw [hp] at this; exact this : Calls Tryz.prog 9 #[.string u] W (PsPost (0, nm, l) W)))
  generalize strOfNums (prF nm l) = q at *
  have a0 := (Below.refl w.heap.size w).alloc (Nat.le_refl _) (.cells #[.string nm, .slice A n c] 25)
  have HB0 := Lib.hid a0
  have HV0 := Lib.hid (hV.keep a0 hV.1)
  have HR0 := Lib.hid ((hT.rd.keep a0))
  have Q0 := Lib.hid (Blk0 w 25 #[.string nm, .slice A n c] 0)
  have Q1 := Lib.hid (Blk0 w 25 #[.string nm, .slice A n c] 1)
  have hz0 : w.heap.size < (w.alloc (.cells #[.string nm, .slice A n c] 25)).heap.size := by simp
  have hnm := hF.1
  clear hT hF hV a0 hR hfit hsz
  go_enter Tryz.func5, Tryz.ntmps5
  go_wp2_with fail
  refine (awake_any _ HV0.out).mono ?_
  rintro e w1 ⟨rfl, b1⟩
  have HB1 := Lib.hid (HB0.out.trans (b1.mono HB0.out.size))
  have HV1 := Lib.hid (HV0.out.after b1)
  have HR1 := Lib.hid (HR0.out.keep b1)
  have g0 := cell_keep Q0.out hz0 b1
  have g1 := cell_keep Q1.out hz0 b1
  have hz1 : w.heap.size < w1.heap.size := Nat.lt_of_lt_of_le hz0 b1.size
  clear b1 HB0 HV0 HR0 Q0 Q1 hz0
  go_wp2_with fail
  refine (CF.out _ HR1.out).mono ?_
  rintro e w2 ⟨rfl, b2⟩
  have HB2 := Lib.hid (HB1.out.trans (b2.mono HB1.out.size))
  have HV2 := Lib.hid (HV1.out.after b2)
  have HR2 := Lib.hid (HR1.out.keep b2)
  have k0 := cell_keep g0 hz1 b2
  have k1 := cell_keep g1 hz1 b2
  have hz2 : w.heap.size < w2.heap.size := Nat.lt_of_lt_of_le hz1 b2.size
  clear b2 HB1 HV1 HR1 g0 g1 hz1 CF
  go_wp2_with fail
  refine (CG.out _ HR2.out).mono ?_
  rintro e w3 ⟨rfl, b3⟩
  have HB3 := Lib.hid (HB2.out.trans (b3.mono HB2.out.size))
  have HV3 := Lib.hid (HV2.out.after b3)
  have HR3 := Lib.hid (HR2.out.keep b3)
  have g0 := cell_keep k0 hz2 b3
  have g1 := cell_keep k1 hz2 b3
  have hz3 : w.heap.size < w3.heap.size := Nat.lt_of_lt_of_le hz2 b3.size
  clear b3 HB2 HV2 HR2 k0 k1 hz2 CG
  go_wp2_with fail
  refine (CP.out _ HR3.out).mono ?_
  rintro e w4 ⟨rfl, b4⟩
  have HB4 := Lib.hid (HB3.out.trans (b4.mono HB3.out.size))
  have HV4 := Lib.hid (HV3.out.after b4)
  have HR4 := Lib.hid (HR3.out.keep b4)
  have k0 := cell_keep g0 hz3 b4
  have k1 := cell_keep g1 hz3 b4
  have hz4 : w.heap.size < w4.heap.size := Nat.lt_of_lt_of_le hz3 b4.size
  clear b4 HB3 HV3 HR3 g0 g1 hz3 CP
  go_wp2_with fail
  refine (CA.out _ HV4.out).mono ?_
  rintro e w5 ⟨v, rfl, hown, b5⟩
  obtain ⟨Ax, kx, rfl, hrx⟩ := own_rdR hown
  dsimp only at *
  rw [← HN.out]
  have a5 := (Below.refl _ w5).alloc (Nat.le_refl _) (.cells #[.string nm, .slice Ax n kx] 25)
  have c5 := b5.trans (a5.mono b5.size)
  have HB5 := Lib.hid (HB4.out.trans (c5.mono HB4.out.size))
  have HV5 := Lib.hid (HV4.out.after c5)
  have HR5 := Lib.hid (HR4.out.keep c5)
  have HX5 := Lib.hid (hrx.keep a5)
  have g0 := cell_keep k0 hz4 b5
  have g1 := cell_keep k1 hz4 b5
  have G0 := Lib.hid (cell_keep k0 hz4 c5)
  have G1 := Lib.hid (cell_keep k1 hz4 c5)
  have hz5 : w.heap.size < w5.heap.size := Nat.lt_of_lt_of_le hz4 b5.size
  have hz5' : w.heap.size < (w5.alloc (.cells #[.string nm, .slice Ax n kx] 25)).heap.size := Nat.lt_of_lt_of_le hz5 a5.size
  have x5 : ¬ w.heap.size = w5.heap.size := by omega
  clear hown hrx a5 b5 c5 HB4 HV4 HR4 k0 k1 hz4 CA
  go_wp2_with fail
  refine (CS.out Ax A kx c _ HX5.out HR5.out).mono ?_
  rintro e w6 ⟨rfl, b6⟩
  have HB6 := Lib.hid (HB5.out.trans (b6.mono HB5.out.size))
  have HV6 := Lib.hid (HV5.out.after b6)
  have HR6 := Lib.hid (HR5.out.keep b6)
  have k0 := cell_keep G0.out hz5' b6
  have k1 := cell_keep G1.out hz5' b6
  have hz6 : w.heap.size < w6.heap.size := Nat.lt_of_lt_of_le hz5' b6.size
  clear b6 HB5 HV5 HR5 g0 g1 G0 G1 hz5 hz5' x5 HX5
  obtain ⟨b, rfl⟩ : ∃ b : Nat, B = (b : Int) := ⟨B.toNat, by omega⟩
  obtain ⟨j1, hj1⟩ : ∃ j : Nat, j = 1 + b % 3 := ⟨_, rfl⟩
  obtain ⟨j2, hj2⟩ : ∃ j : Nat, j = b % 4 := ⟨_, rfl⟩
  obtain ⟨j3, hj3⟩ : ∃ j : Nat, j = b / 4 % 4 := ⟨_, rfl⟩
  obtain ⟨j4, hj4⟩ : ∃ j : Nat, j = b / 16 % 4 := ⟨_, rfl⟩
  have J1 : 1 ≤ j1 ∧ j1 < 4 := by omega
  have J2 : j2 < 4 := by omega
  have J3 : j3 < 4 := by omega
  have J4 : j4 < 4 := by omega
  have v1 : ((b : Nat) : Int).tmod 3 = ((j1 - 1 : Nat) : Int) := by rw [Int.tmod_eq_emod_of_nonneg (by omega)]; omega
  have v2 : IntKind.i64.wrap (1 + ((j1 - 1 : Nat) : Int)) = (j1 : Int) := by rw [IntWalk.i64_in _ (by omega)]; omega
  have v3 : ((b : Nat) : Int).tmod 4 = (j2 : Int) := by rw [Int.tmod_eq_emod_of_nonneg (by omega)]; omega
  have v4 : (((b : Nat) : Int).tdiv 4).tmod 4 = (j3 : Int) := by rw [Int.tdiv_eq_ediv_of_nonneg (by omega), Int.tmod_eq_emod_of_nonneg (by omega)]; omega
  have v5 : (((b : Nat) : Int).tdiv 16).tmod 4 = (j4 : Int) := by rw [Int.tdiv_eq_ediv_of_nonneg (by omega), Int.tmod_eq_emod_of_nonneg (by omega)]; omega
  have HJ := Lib.hid (And.intro hj1 (And.intro hj2 (And.intro hj3 hj4)))
  have V5 := Lib.hid v5
  clear hj1 hj2 hj3 hj4 v5
  have b7 := (Below.refl _ w6).alloc (Nat.le_refl _) (.cells #[.string ⟨#[]⟩, .string ⟨#[32]⟩, .string ⟨#[10]⟩, .string ⟨#[9, 13, 32]⟩] 9)
  have HB7 := Lib.hid (HB6.out.trans (b7.mono HB6.out.size))
  have HR7 := Lib.hid (HR6.out.keep b7)
  have K0 := Lib.hid (cell_keep k0 hz6 b7)
  have K1 := Lib.hid (cell_keep k1 hz6 b7)
  have hL4 := Lib.hid (And.intro (Blk0 w6 9 #[.string ⟨#[]⟩, .string ⟨#[32]⟩, .string ⟨#[10]⟩, .string ⟨#[9, 13, 32]⟩] 0) (And.intro (Blk0 w6 9 #[.string ⟨#[]⟩, .string ⟨#[32]⟩, .string ⟨#[10]⟩, .string ⟨#[9, 13, 32]⟩] 1) (And.intro (Blk0 w6 9 #[.string ⟨#[]⟩, .string ⟨#[32]⟩, .string ⟨#[10]⟩, .string ⟨#[9, 13, 32]⟩] 2) (Blk0 w6 9 #[.string ⟨#[]⟩, .string ⟨#[32]⟩, .string ⟨#[10]⟩, .string ⟨#[9, 13, 32]⟩] 3))))
  have hz7 : w.heap.size < (w6.alloc (.cells #[.string ⟨#[]⟩, .string ⟨#[32]⟩, .string ⟨#[10]⟩, .string ⟨#[9, 13, 32]⟩] 9)).heap.size := Nat.lt_of_lt_of_le hz6 b7.size
  have hl7 : w6.heap.size < (w6.alloc (.cells #[.string ⟨#[]⟩, .string ⟨#[32]⟩, .string ⟨#[10]⟩, .string ⟨#[9, 13, 32]⟩] 9)).heap.size := by simp
  have HVw := HV6
  have hw6 : w.heap.size ≠ w6.heap.size := by omega
  clear b7
  go_wp2_with fail
  generalize w6.alloc (.cells #[.string ⟨#[]⟩, .string ⟨#[32]⟩, .string ⟨#[10]⟩, .string ⟨#[9, 13, 32]⟩] 9) = W7 at *
  generalize w6.heap.size = L at *
  go_loopw [8, 9] (fun o i wr => BRel w nm l n c A L j1 j2 j3 o i wr) (fun _ i _ => n - (intOf i).toNat)
  case atStart => exact ⟨0, nm, rfl, Nat.zero_le _, rfl, by omega, Lib.hid (by simp), HR7, HB7, hz7, hl7, K0.out, K1.out, hL4⟩
  case round =>
    clear HR7 HB7 hz7 hl7 K0 K1 hL4 k0 k1 hz6 HB6 HV6 HR6
    obtain ⟨k, O, rfl, hk, rfl, hO, hP, hR, hB, hz, hl, t0, t1, hL⟩ := hrel
    by_cases hlt : k < n
    · have hkl : k < l.length := by rw [← HN.out]; exact hlt
      obtain ⟨b1, o1, rfl, hb1, x0, x1⟩ := hR.out k _ (List.getElem?_eq_getElem hkl)
      have HK := Lib.hid (List.getElem?_eq_getElem hkl)
      have hfit := HFw.out.2.2 l[k] (List.getElem_mem _)
      have d1 : (k : Int) < (n : Int) := by omega
      have d0 : (0 : Int) ≤ (k : Int) := by omega
      generalize l[k] = tt at *
      obtain ⟨tn, tv⟩ := tt
      dsimp only at x0 x1 hfit
      have C1 := Lib.hid (fun W => print_one tn (by omega) W)
      have C2 := Lib.hid (fun W => print_val tv (by omega) W)
      have hvs := val_str tv
      have hesc := escF_len true (byts tv)
      rw [byts_len] at hesc
      generalize strOfNums (prF Nz.em [(Nz.em, tv)]) = val at *
      have hval4 : 4 ≤ val.size := by omega
      have hvalz : val.size ≤ 1204 := by omega
      have hvv : (val.extract 2 val.size).size = val.size - 2 := by rw [← byts_len, hvs.2]; simp; omega
      have q1 := bkS_size j1 J1.2
      have q2 := bkS_size j2 J2
      have q3 := bkS_size j3 J3
      have HE : Hid (byts ((((((O ++ bkS j1) ++ tn) ++ bkS j2) ++ ⟨#[61]⟩) ++ bkS j3) ++ val.extract 2 val.size) = byts nm ++ (l.take (k + 1)).flatMap (atT (byts (bkS j1)) (byts (bkS j2)) (byts (bkS j3)))) := Lib.hid (by
        rw [byts_cat, byts_cat, byts_cat, byts_cat, byts_cat, byts_cat, hP.out, hvs.2, List.take_add_one, HK.out, Option.toList_some, List.flatMap_append]
        have e61 : byts ⟨#[61]⟩ = [61] := rfl
        rw [e61]
        simp only [List.flatMap_cons, List.flatMap_nil, List.append_nil, atT, List.append_assoc, List.cons_append, List.nil_append])
      have hE : ((((((O ++ bkS j1) ++ tn) ++ bkS j2) ++ ⟨#[61]⟩) ++ bkS j3) ++ val.extract 2 val.size).size ≤ 200 + 2000 * (k + 1) := by
        rw [size_cat, size_cat, size_cat, size_cat, size_cat, size_cat, hvv]
        have : (⟨#[61]⟩ : ByteArray).size = 1 := rfl
        omega
      have HL := hL
      clear hP hvs hesc
      generalize hβ1 : bkS j1 = β1 at *
      generalize hβ2 : bkS j2 = β2 at *
      generalize hβ3 : bkS j3 = β3 at *
      have Hβ := Lib.hid (And.intro hβ1 (And.intro hβ2 hβ3))
      clear hβ1 hβ2 hβ3
      go_wp2_with fail
      refine (C1.out _).mono ?_
      rintro e w8 ⟨rfl, b8⟩
      have HB8 := Lib.hid (hB.out.trans (b8.mono hB.out.size))
      have HR8 := Lib.hid (hR.out.keep b8)
      have HL8 := Lib.hid (And.intro (cell_keep HL.out.1 hl b8) (And.intro (cell_keep HL.out.2.1 hl b8) (And.intro (cell_keep HL.out.2.2.1 hl b8) (cell_keep HL.out.2.2.2 hl b8))))
      have t0' := cell_keep t0 hz b8
      have t1' := cell_keep t1 hz b8
      have x1' := cell_keep x1 hb1 b8
      have hz8 : w.heap.size < w8.heap.size := Nat.lt_of_lt_of_le hz b8.size
      have hl8 : L < w8.heap.size := Nat.lt_of_lt_of_le hl b8.size
      have hb8 : b1 < w8.heap.size := Nat.lt_of_lt_of_le hb1 b8.size
      clear b8 hB hR HL hL t0 t1 x0 x1 hz hl hb1 C1
      go_wp2_with fail
      refine (C2.out _).mono ?_
      rintro e w9 ⟨rfl, b9⟩
      have c9 := ((Below.refl _ w8).alloc (Nat.le_refl _) (.cells #[.string ⟨#[]⟩, .string tv] 37)).trans (b9.mono (by simp))
      have HB9 := Lib.hid (HB8.out.trans (c9.mono HB8.out.size))
      have HR9 := Lib.hid (HR8.out.keep c9)
      have HL9 := Lib.hid (And.intro (cell_keep HL8.out.1 hl8 c9) (And.intro (cell_keep HL8.out.2.1 hl8 c9) (And.intro (cell_keep HL8.out.2.2.1 hl8 c9) (cell_keep HL8.out.2.2.2 hl8 c9))))
      have s0 := cell_keep t0' hz8 c9
      have s1 := cell_keep t1' hz8 c9
      have hz9 : w.heap.size < w9.heap.size := Nat.lt_of_lt_of_le hz8 c9.size
      have hl9 : L < w9.heap.size := Nat.lt_of_lt_of_le hl8 c9.size
      have y1 := bk_cell HL9.out J1.2
      have y2 := bk_cell HL9.out J2
      have y3 := bk_cell HL9.out J3
      rw [Hβ.out.1] at y1
      rw [Hβ.out.2.1] at y2
      rw [Hβ.out.2.2] at y3
      have y3b : w9.cell? ⟨L, b / 4 % 4, none⟩ = some (.string β3) := by rw [← HJ.out.2.2.1]; exact y3
      have n1 : ¬ 9223372036854775807 < O.size + β1.size := by omega
      have n2 : ¬ 9223372036854775807 < O.size + β1.size + tn.size := by omega
      have n3 : ¬ 9223372036854775807 < O.size + β1.size + tn.size + β2.size := by omega
      have n4 : ¬ 9223372036854775807 < O.size + β1.size + tn.size + β2.size + 1 := by omega
      have n5 : ¬ 9223372036854775807 < O.size + β1.size + tn.size + β2.size + 1 + β3.size := by omega
      have n6 : ¬ 9223372036854775807 < O.size + β1.size + tn.size + β2.size + 1 + β3.size + (val.size - 2) := by omega
      have n7 : ¬ 9223372036854775807 < O.size + β1.size + tn.size + β2.size + 1 + β3.size + (val.extract 2 val.size).size := by omega
      have i1 : (0 : Int) ≤ (j1 : Int) := by omega
      have i2 : (j1 : Int) < 4 := by omega
      have i3 : (0 : Int) ≤ (j2 : Int) := by omega
      have i4 : (j2 : Int) < 4 := by omega
      have i5 : (0 : Int) ≤ (j3 : Int) := by omega
      have i6 : (j3 : Int) < 4 := by omega
      have i7 : (2 : Int) ≤ (val.size : Int) := by omega
      have HHV := Lib.hid hvv
      clear b9 c9 HB8 HR8 HL8 t0' t1' x1' hz8 hl8 hb8 C2 hvv q1 q2 q3
      go_wp2_with fail
      refine wp_region_quiet_lit (by kernel_rfl) (by kernel_rfl) ?_
      repeat (go_big_quiet_step (fail))
      refine wpQuiet_nil ?_
      intro _ hw'
      obtain ⟨nq, hw''⟩ := hw'
      subst hw''
      go_wp2
      go_roundw
      case rel => exact ⟨k + 1, _, by go_num, by omega, rfl, hE, by rw [Hβ.out.1, Hβ.out.2.1, Hβ.out.2.2]; exact HE, Lib.hid (fun k t h => HR9.out k t h), Lib.hid (below_drewN HB9.out _), hz9, hl9, s0, s1, HL9⟩
      case measure => simp only [intOf]; omega
    · have d1 : ¬ (k : Int) < (n : Int) := by omega
      have hke : k = n := by omega
      have hu : byts (O ++ bkS j4) = txF (byts (bkS j1)) (byts (bkS j2)) (byts (bkS j3)) (byts (bkS j4)) nm l := by
        rw [byts_cat, hP.out, hke, HN.out, List.take_length]
        unfold txF
        rw [List.append_assoc]
      have hp := back_par nm l _ _ _ _ (bkS_bks j1 J1.2) (bkS_ne j1 J1.1 J1.2) (bkS_bks j2 J2) (bkS_bks j3 J3) (bkS_bks j4 J4) HRg.out (O ++ bkS j4) hu
      have q4 := bkS_size j4 J4
      have hzu : (O ++ bkS j4).size ≤ 100000 := by rw [size_cat]; omega
      have CY := Lib.hid (CB.out (O ++ bkS j4) wr (HVW.out.keep hB.out HVW.out.1) hzu hp)
      have y4 := bk_cell hL.out J4
      have y4b : wr.cell? ⟨L, b / 16 % 4, none⟩ = some (.string (bkS j4)) := by rw [← HJ.out.2.2.2]; exact y4
      have m1 : ¬ 9223372036854775807 < O.size + (bkS j4).size := by omega
      have i3 : (0 : Int) ≤ (j4 : Int) := by omega
      have i4 : (j4 : Int) < 4 := by omega
      clear hu hp hzu hke hP CB
      generalize bkS j4 = β4 at *
      have m2 : (O ++ β4).size ≤ 200000 := by rw [size_cat]; omega
      go_wp2_with fail
      refine CY.out.mono ?_
      rintro e w10 ⟨vc, rfl, hownc, b10⟩
      obtain ⟨Ac, kc, rfl, hrc⟩ := own_rdR hownc
      dsimp only at *
      rw [← HN.out]
      have a10 := (Below.refl _ w10).alloc (Nat.le_refl _) (.cells #[.string nm, .slice Ac n kc] 25)
      have c10 := b10.trans (a10.mono b10.size)
      have HB10 := Lib.hid (hB.out.trans (c10.mono hB.out.size))
      have HR10 := Lib.hid (hR.out.keep c10)
      have HY10 := Lib.hid (hrc.keep a10)
      have u0 := cell_keep t0 hz b10
      have u1 := cell_keep t1 hz b10
      have y5 : w.heap.size < w10.heap.size := Nat.lt_of_lt_of_le hz b10.size
      have x5 : ¬ w.heap.size = w10.heap.size := by omega
      clear a10 b10 c10 hownc hrc CY t0 t1 hB hR
      go_wp2_with fail
      refine (CS.out Ac A kc c _ HY10.out HR10.out).mono ?_
      rintro e w11 ⟨rfl, b11⟩
      have HB11 := Lib.hid (HB10.out.trans (b11.mono HB10.out.size))
      clear b11
      go_wp2
      go_ret
      exact ⟨rfl, HB11.out⟩
end Go.Proofs.YtaoklhalkfcpfaaGreatDoor
