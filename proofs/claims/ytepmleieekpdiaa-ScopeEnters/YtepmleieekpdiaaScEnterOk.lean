/-
  The walk of scope.Enter where all goes well.
-/
import Derived.Test.YtepmleieekpdiaaScEnter
set_option linter.unusedSimpArgs false
set_option linter.unusedVariables false
namespace Go.Proofs.Ytepmleieekpdiaa
open Go.RowKit

set_option maxHeartbeats 4000000 in
set_option maxRecDepth 100000 in
theorem enter_ok (A A2 : Option Addr) (N M cap cap2 NW NF : Nat) (nm na nb : ByteArray) (Ws : List P2) (f : List P3) (w : World) (o : Except Int (List P2 × P2 × List P3)) (ho : o = .ok (Ws, (na, nb), f)) (hNW : NW = Ws.length) (hNF : NF = f.length)
    (CB : Hid (BdC A A2 N M cap cap2 Ws w)) (CN : Hid (NmC NW Ws nm (some [(na, nb)]))) (CA : Hid (AttC NW Ws A2 M cap2 w (.ok f))) :
    Calls Try.prog 10 #[.slice A N cap, .agg #[.string nm, .slice A2 M cap2]] w (EnPost w o) := by
  have H0 := Lib.hid (enb_start w nm A2 M cap2)
  have HO := Lib.hid ho
  have HNW := Lib.hid hNW
  have HNF := Lib.hid hNF
  clear ho hNW hNF
  go_enter Try.func10, Try.ntmps10
  go_wp2_with fail
  refine (CB.out _ H0.out.bel).mono ?_
  rintro e w1 ⟨-, h2, hb⟩
  obtain ⟨v, rfl, hv⟩ := h2 _ rfl
  obtain ⟨A', c', rfl, hrd⟩ := own_rdR' hv HNW.out
  have HK1 := Lib.hid (H0.out.keep hb)
  have HR1 := Lib.hid hrd
  have HV1 := Lib.hid (own_mono hv H0.out.bel.size)
  have t0 := cells_of HK1.out.tag 0 (u := .string nm) rfl
  have t1 := cells_of HK1.out.tag 1 (u := .slice A2 M cap2) rfl
  clear CB H0 hb h2 hv hrd
  go_wp2_with fail
  refine (CN.out A' c' (some ⟨w1.heap.size, 0, none⟩) 1 _ (HR1.out.keep ((Below.refl _ w1).alloc (Nat.le_refl _) _)) (rdS_one w1 nm)).mono ?_
  rintro e w2 ⟨-, h2, hb2⟩
  obtain ⟨vn, rfl, hvn⟩ := h2 _ rfl
  have HK2 := Lib.hid ((HK1.out.keep ((Below.refl _ w1).alloc (Nat.le_refl _) _)).keep hb2)
  have HR2 := Lib.hid ((HR1.out.keep ((Below.refl _ w1).alloc (Nat.le_refl _) _)).keep hb2)
  have HV2 := Lib.hid (own_keep (own_keep HV1.out ((Below.refl _ w1).alloc (Nat.le_refl _) _)) hb2)
  obtain ⟨An, cn, rfl, hrn⟩ := own_rdR' (n := 1) hvn rfl
  have HN2 := Lib.hid hrn
  have u0 := cells_of HK2.out.tag 0 (u := .string nm) rfl
  have u1 := cells_of HK2.out.tag 1 (u := .slice A2 M cap2) rfl
  clear CN HK1 HR1 HV1 h2 hb2 hvn hrn t0 t1
  go_wp2_with fail
  refine (CA.out A' c' _ HR2.out HK2.out.bel).mono ?_
  rintro e w3 ⟨-, h2, hb3⟩
  obtain ⟨va, rfl, hva⟩ := h2 _ rfl
  have HK := Lib.hid (HK2.out.keep hb3)
  have HV := Lib.hid (own_keep HV2.out hb3)
  have HA := Lib.hid (own_mono hva HK2.out.bel.size)
  obtain ⟨bn, on, rfl, hbn, n0, n1⟩ := (HN2.out.keep hb3) 0 (na, nb) rfl
  obtain ⟨Aa, ca, ea⟩ := own_slice hva
  rw [← HNF.out] at ea
  subst ea
  rw [Nat.zero_mul, Nat.add_zero] at n0 n1
  dsimp only at n0 n1
  have z0 := cells_of HK.out.ev 0 (u := .int .i64 0) rfl
  have z1 := cells_of HK.out.ev 1 (u := .string ⟨#[]⟩) rfl
  have z2 := cells_of HK.out.ev 2 (u := .string ⟨#[]⟩) rfl
  have z3 := cells_of HK.out.ev 3 (u := .slice none 0 0) rfl
  have z4 := cells_of HK.out.ev 4 (u := .string ⟨#[]⟩) rfl
  have f0 := froz_of HK.out.ev 0
  have f1 := froz_of HK.out.ev 1
  have f2 := froz_of HK.out.ev 2
  have f3 := froz_of HK.out.ev 3
  have f4 := froz_of HK.out.ev 4
  clear CA HK2 HR2 HV2 HN2 h2 hb3 u0 u1 hva hbn
  go_wp2_with fail
  go_region
  go_wp2
  have HS := Lib.hid (set5 HK.out.ev (.int .i64 1) (.string na) (.string nb) (.slice Aa NF ca) (.string ⟨#[]⟩))
  have c0 := cells_of HS.out 0 (u := .int .i64 1) rfl
  have c1 := cells_of HS.out 1 (u := .string na) rfl
  have c2 := cells_of HS.out 2 (u := .string nb) rfl
  have c3 := cells_of HS.out 3 (u := .slice Aa NF ca) rfl
  have c4 := cells_of HS.out 4 (u := .string ⟨#[]⟩) rfl
  refine bodyPost_ret (v := .tuple #[.slice A' NW c', evV (na, nb) (.slice Aa NF ca), .int .i64 0]) (by simp [results, Try.results10, go_sem, c0, c1, c2, c3, c4, evV]) rfl ⟨fun c hc => ?_, fun W n f' hc => ?_, (bel5 HK.out.bel (Nat.le_succ _) _ _ _ _ _).drew⟩
  · rw [HO.out] at hc
    cases hc
  · rw [HO.out] at hc
    cases hc
    have g := gro5 w3 (w.heap.size + 1) (.int .i64 1) (.string na) (.string nb) (.slice Aa NF ca) (.string ⟨#[]⟩)
    exact ⟨_, _, rfl, World.ownsRow.drew (HV.out.kept g (.inr (own_ne HV.out HK.out.ev (by decide)))), World.ownsRow.drew (HA.out.kept g (.inr (own_ne HA.out HK.out.ev (by decide))))⟩
end Go.Proofs.Ytepmleieekpdiaa
