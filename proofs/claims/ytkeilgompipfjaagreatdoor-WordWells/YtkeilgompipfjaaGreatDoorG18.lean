/-
  Merged by program out of the texts Tok2 of one seat.
-/
import Derived.Test.YtkeilgompipfjaaGreatDoorG17

/- The walk of markup's token where it is read, at each kind's reading. -/
set_option linter.unusedSimpArgs false
set_option linter.unusedVariables false
namespace Go.Proofs.YtkeilgompipfjaaGreatDoor
open Go.RowKit

set_option maxHeartbeats 1000000 in
set_option maxRecDepth 100000 in
theorem tok_read_56 (bg r : ByteArray) (b : Nat) (at_ : Int) (n m : Nat) (kd : Int) (tx : ByteArray) (em bk : Bool) (er : Int) (w : World) (hbg : bg.size ≤ 100) (hr : r.size ≤ 10000) (hn : n ≤ r.size) (hm : m ≤ r.size) (hG : Gl w) (C1 : Hid (EndC w 92 #[.string r, .pointer (some ⟨b, 0, none⟩)] n m true)) (C2 : Hid (SoC (r.extract 0 m) 0)) (C3 : Hid (RdC w 67 #[.string (r.extract 0 n), .int .i64 at_] kd tx em bk er)) :
    Calls Tryz.prog 48 #[.agg #[.string bg, .func (.func 92) #[] #[.pointer (some ⟨b, 0, none⟩)], .func (.func 67) #[] #[]], .string r, .int .i64 at_] w fun e w' => e = .returned (.tuple #[.agg #[.int .i64 kd, .string tx, .bool em, .bool bk], .int .i64 ((bg.size : Int) + (m : Int)), .int .i64 er]) ∧ Below w.heap.size w w' := by
  have HB := Lib.hid (kin_below w (.string bg) (.func (.func 92) #[] #[.pointer (some ⟨b, 0, none⟩)]) (.func (.func 67) #[] #[]))
  have HG := Lib.hid (hG.after HB.out)
  have HN := Lib.hid (kin_new w (.string bg) (.func (.func 92) #[] #[.pointer (some ⟨b, 0, none⟩)]) (.func (.func 67) #[] #[]))
  have HK := Lib.hid (kin_cells w (.string bg) (.func (.func 92) #[] #[.pointer (some ⟨b, 0, none⟩)]) (.func (.func 67) #[] #[]))
  clear hG
  go_enter Tryz.func48, Tryz.ntmps48
  go_wp2_with fail
  refine (C1.out _ HB.out HG.out).mono ?_
  rintro e w1 ⟨rfl, hb1⟩
  have hz : w.heap.size + 1 < w1.heap.size := by have := hb1.size; simp at this; omega
  have HB1 := Lib.hid (HB.out.trans (hb1.mono (by simp; omega)))
  have HG1 := Lib.hid (HG.out.after hb1)
  have HN1 := Lib.hid (HN.out.keep hb1 (by simp))
  have HK0 := Lib.hid ((hb1.cell (p := ⟨w.heap.size, 0, none⟩) (by simp; omega)).trans HK.out.1)
  have HK2 := Lib.hid ((hb1.cell (p := ⟨w.heap.size, 2, none⟩) (by simp; omega)).trans HK.out.2.2)
  clear hb1
  go_wp2_with fail
  refine (C2.out _).mono ?_
  rintro e w2 ⟨rfl, hb2⟩
  have hz2 : w.heap.size + 1 < w2.heap.size := Nat.lt_of_lt_of_le hz hb2.size
  have HB2 := Lib.hid (HB1.out.trans (hb2.mono HB1.out.size))
  have HG2 := Lib.hid (HG1.out.after hb2)
  have HN2 := Lib.hid (HN1.out.keep hb2 hz)
  have k0 : w2.cell? ⟨w.heap.size, 0, none⟩ = _ := (hb2.cell (p := ⟨w.heap.size, 0, none⟩) (by show w.heap.size < w1.heap.size; omega)).trans HK0.out
  have k2 : w2.cell? ⟨w.heap.size, 2, none⟩ = _ := (hb2.cell (p := ⟨w.heap.size, 2, none⟩) (by show w.heap.size < w1.heap.size; omega)).trans HK2.out
  clear hb2
  have HBd := Lib.hid HB2.out.drew
  have HGd := Lib.hid HG2.out.drew
  have HBa := Lib.hid (HB2.out.alloc HB2.out.size (.cells #[.int .i64 0, .string ⟨#[]⟩, .bool false, .bool false] 41)).drew
  have HGa := Lib.hid (HG2.out.alloc (.cells #[.int .i64 0, .string ⟨#[]⟩, .bool false, .bool false] 41)).drew
  have HNa := Lib.hid (res_new w2).drew
  have HN2d := Lib.hid HN2.out.drew
  have HN2a := Lib.hid (HN2.out.keep ((Below.refl w2.heap.size w2).alloc (Nat.le_refl _) (.cells #[.int .i64 0, .string ⟨#[]⟩, .bool false, .bool false] 41)) hz2).drew
  have hzb := Lib.hid (show w2.heap.size < (w2.alloc (.cells #[.int .i64 0, .string ⟨#[]⟩, .bool false, .bool false] 41)).heap.size by simp)
  have hza := Lib.hid (Nat.lt_trans (show w.heap.size < w2.heap.size by omega) hzb.out)
  have k0a : (w2.alloc (.cells #[.int .i64 0, .string ⟨#[]⟩, .bool false, .bool false] 41)).cell? ⟨w.heap.size, 0, none⟩ = some (.string bg) :=
    (((Below.refl w2.heap.size w2).alloc (Nat.le_refl _) _).cell (p := ⟨w.heap.size, 0, none⟩) (show w.heap.size < w2.heap.size by omega)).trans k0
  have hzc := Lib.hid (Nat.lt_trans hz2 hzb.out)
  have k2a : (w2.alloc (.cells #[.int .i64 0, .string ⟨#[]⟩, .bool false, .bool false] 41)).cell? ⟨w.heap.size, 2, none⟩ = some (.func (.func 67) #[] #[]) :=
    (((Below.refl w2.heap.size w2).alloc (Nat.le_refl _) _).cell (p := ⟨w.heap.size, 2, none⟩) (show w.heap.size < w2.heap.size by omega)).trans k2
  go_wp2_with fail
  have k2d : w2.drew.cell? ⟨w.heap.size, 2, none⟩ = some (.func (.func 67) #[] #[]) := k2
  have k2b : (w2.alloc (.cells #[.int .i64 0, .string ⟨#[]⟩, .bool false, .bool false] 41)).drew.cell? ⟨w.heap.size, 2, none⟩ = some (.func (.func 67) #[] #[]) := k2a
  have hzk := Lib.hid (show w.heap.size < w2.heap.size by omega)
  have CA := Lib.hid (C3.out w2.drew HBd.out HGd.out)
  have CB := Lib.hid (C3.out (w2.alloc (.cells #[.int .i64 0, .string ⟨#[]⟩, .bool false, .bool false] 41)).drew HBa.out HGa.out)
  go_region_held3 (fun W => W.cell? ⟨w.heap.size, 2, none⟩ = some (.func (.func 67) #[] #[])) (first | with_reducible exact k2 | with_reducible exact k2d | with_reducible exact k2a | with_reducible exact k2b | with_reducible exact k3 | with_reducible exact keepA k3 _ | with_reducible exact keepB k3 hzk.out _ _ _ _ | (trace_state; fail))
    (first | (go_at_call 67; (with_reducible refine CA.out.mono ?_); rintro e w3 ⟨rfl, hb3⟩; have k3 : w3.cell? ⟨w.heap.size, 2, none⟩ = some (.func (.func 67) #[] #[]) := (hb3.cell (p := ⟨w.heap.size, 2, none⟩) (show w.heap.size < w2.heap.size by omega)).trans k2)
           | (go_at_call 67; (with_reducible refine CB.out.mono ?_); rintro e w3 ⟨rfl, hb3⟩; have k3 : w3.cell? ⟨w.heap.size, 2, none⟩ = some (.func (.func 67) #[] #[]) := (hb3.cell (p := ⟨w.heap.size, 2, none⟩) hza.out).trans k2a; obtain ⟨d0, d1, d2, d3, g0, g1, g2, g3⟩ := HNa.out.keep hb3 hzb.out))
  · have k30 : w3.cell? ⟨w.heap.size, 0, none⟩ = some (.string bg) := (hb3.cell (p := ⟨w.heap.size, 0, none⟩) hzk.out).trans k0
    have hz3 : w.heap.size + 1 < w3.heap.size := Nat.lt_of_lt_of_le hz2 hb3.size
    have HB3 := Lib.hid (HBd.out.trans (hb3.mono HBd.out.size))
    have t0 := World.cell?_alloc_mark w3 #[.int .i64 kd, .string tx, .bool em, .bool bk] 41 (0, 0) 0
    have t1 := World.cell?_alloc_mark w3 #[.int .i64 kd, .string tx, .bool em, .bool bk] 41 (0, 0) 1
    have t2 := World.cell?_alloc_mark w3 #[.int .i64 kd, .string tx, .bool em, .bool bk] 41 (0, 0) 2
    have t3 := World.cell?_alloc_mark w3 #[.int .i64 kd, .string tx, .bool em, .bool bk] 41 (0, 0) 3
    have HAl := Lib.hid ((Below.refl w3.heap.size w3).alloc (Nat.le_refl _) (.cells #[.int .i64 kd, .string tx, .bool em, .bool bk] 41))
    obtain ⟨c0, c1, c2, c3, f0, f1, f2, f3⟩ := (HN2d.out.keep hb3 hz2).keep HAl.out hz3
    have kW := keepA k30 (.cells #[.int .i64 kd, .string tx, .bool em, .bool bk] 41)
    have HBW := Lib.hid (HB3.out.trans (HAl.out.mono HB3.out.size))
    have hzW : w.heap.size + 1 < (w3.alloc (.cells #[.int .i64 kd, .string tx, .bool em, .bool bk] 41)).heap.size := Nat.lt_of_lt_of_le hz3 HAl.out.size
    clear HAl
    generalize w3.alloc (.cells #[.int .i64 kd, .string tx, .bool em, .bool bk] 41) = W at *
    simp at t0 t1 t2 t3
    have q2 : IntKind.i64.wrap ((bg.size : Int) + (m : Int)) = (bg.size : Int) + (m : Int) := IntWalk.i64_in _ (by omega)
    clear HB3 hb3 k2 k2a k2d k2b k0 k0a k3 k30 hz hz2 hz3
    go_wp2_with fail
    go_region
    all_goals
      go_wp2_with fail
      exact bodyPost_ret (v := .tuple #[.agg #[.int .i64 kd, .string tx, .bool em, .bool bk], .int .i64 ((bg.size : Int) + (m : Int)), .int .i64 er]) (by simp [results, Tryz.results48, go_sem, c0, c1, c2, c3, hzW]) rfl ⟨rfl, (below_set4 HBW.out (by omega) _ _ _ _).drew⟩
  · have k30 : w3.cell? ⟨w.heap.size, 0, none⟩ = some (.string bg) := (hb3.cell (p := ⟨w.heap.size, 0, none⟩) hza.out).trans k0a
    have hz3 : w.heap.size + 1 < w3.heap.size := Nat.lt_of_lt_of_le hzc.out hb3.size
    have HB3 := Lib.hid (HBa.out.trans (hb3.mono HBa.out.size))
    have hs4 := below_set4 (Below.refl w2.heap.size w3) (Nat.le_refl _) (.int .i64 kd) (.string tx) (.bool em) (.bool bk)
    have t0 : ((((w3.setCell ⟨w2.heap.size, 0, none⟩ (.int .i64 kd)).setCell ⟨w2.heap.size, 1, none⟩ (.string tx)).setCell ⟨w2.heap.size, 2, none⟩ (.bool em)).setCell ⟨w2.heap.size, 3, none⟩ (.bool bk)).cell? ⟨w2.heap.size, 0, none⟩ = some (.int .i64 kd) := by simp [go_sem, d0, d1, d2, d3]
    have t1 : ((((w3.setCell ⟨w2.heap.size, 0, none⟩ (.int .i64 kd)).setCell ⟨w2.heap.size, 1, none⟩ (.string tx)).setCell ⟨w2.heap.size, 2, none⟩ (.bool em)).setCell ⟨w2.heap.size, 3, none⟩ (.bool bk)).cell? ⟨w2.heap.size, 1, none⟩ = some (.string tx) := by simp [go_sem, d0, d1, d2, d3]
    have t2 : ((((w3.setCell ⟨w2.heap.size, 0, none⟩ (.int .i64 kd)).setCell ⟨w2.heap.size, 1, none⟩ (.string tx)).setCell ⟨w2.heap.size, 2, none⟩ (.bool em)).setCell ⟨w2.heap.size, 3, none⟩ (.bool bk)).cell? ⟨w2.heap.size, 2, none⟩ = some (.bool em) := by simp [go_sem, d0, d1, d2, d3]
    have t3 : ((((w3.setCell ⟨w2.heap.size, 0, none⟩ (.int .i64 kd)).setCell ⟨w2.heap.size, 1, none⟩ (.string tx)).setCell ⟨w2.heap.size, 2, none⟩ (.bool em)).setCell ⟨w2.heap.size, 3, none⟩ (.bool bk)).cell? ⟨w2.heap.size, 3, none⟩ = some (.bool bk) := by simp [go_sem, d0, d1, d2, d3]
    obtain ⟨c0, c1, c2, c3, f0, f1, f2, f3⟩ := (HN2a.out.keep hb3 hzc.out).keep hs4 hz2
    have kW := keepB k30 hzk.out (.int .i64 kd) (.string tx) (.bool em) (.bool bk)
    have HBW := Lib.hid (below_set4 HB3.out (show w.heap.size ≤ w2.heap.size by omega) (.int .i64 kd) (.string tx) (.bool em) (.bool bk))
    have hzW : w.heap.size + 1 < ((((w3.setCell ⟨w2.heap.size, 0, none⟩ (.int .i64 kd)).setCell ⟨w2.heap.size, 1, none⟩ (.string tx)).setCell ⟨w2.heap.size, 2, none⟩ (.bool em)).setCell ⟨w2.heap.size, 3, none⟩ (.bool bk)).heap.size := Nat.lt_of_lt_of_le hz3 hs4.size
    clear hs4 d0 d1 d2 d3 g0 g1 g2 g3
    generalize ((((w3.setCell ⟨w2.heap.size, 0, none⟩ (.int .i64 kd)).setCell ⟨w2.heap.size, 1, none⟩ (.string tx)).setCell ⟨w2.heap.size, 2, none⟩ (.bool em)).setCell ⟨w2.heap.size, 3, none⟩ (.bool bk)) = W at *
    have q2 : IntKind.i64.wrap ((bg.size : Int) + (m : Int)) = (bg.size : Int) + (m : Int) := IntWalk.i64_in _ (by omega)
    clear HB3 hb3 k2 k2a k2d k2b k0 k0a k3 k30 hz hz2 hz3
    go_wp2_with fail
    go_region
    all_goals
      go_wp2_with fail
      exact bodyPost_ret (v := .tuple #[.agg #[.int .i64 kd, .string tx, .bool em, .bool bk], .int .i64 ((bg.size : Int) + (m : Int)), .int .i64 er]) (by simp [results, Tryz.results48, go_sem, c0, c1, c2, c3, hzW]) rfl ⟨rfl, (below_set4 HBW.out (by omega) _ _ _ _).drew⟩
set_option maxHeartbeats 1000000 in
set_option maxRecDepth 100000 in
theorem tok_read_57 (bg r : ByteArray) (b : Nat) (at_ : Int) (n m : Nat) (kd : Int) (tx : ByteArray) (em bk : Bool) (er : Int) (w : World) (hbg : bg.size ≤ 100) (hr : r.size ≤ 10000) (hn : n ≤ r.size) (hm : m ≤ r.size) (hG : Gl w) (C1 : Hid (EndC w 92 #[.string r, .pointer (some ⟨b, 0, none⟩)] n m true)) (C2 : Hid (SoC (r.extract 0 m) 0)) (C3 : Hid (RdC w 68 #[.string (r.extract 0 n), .int .i64 at_] kd tx em bk er)) :
    Calls Tryz.prog 48 #[.agg #[.string bg, .func (.func 92) #[] #[.pointer (some ⟨b, 0, none⟩)], .func (.func 68) #[] #[]], .string r, .int .i64 at_] w fun e w' => e = .returned (.tuple #[.agg #[.int .i64 kd, .string tx, .bool em, .bool bk], .int .i64 ((bg.size : Int) + (m : Int)), .int .i64 er]) ∧ Below w.heap.size w w' := by
  have HB := Lib.hid (kin_below w (.string bg) (.func (.func 92) #[] #[.pointer (some ⟨b, 0, none⟩)]) (.func (.func 68) #[] #[]))
  have HG := Lib.hid (hG.after HB.out)
  have HN := Lib.hid (kin_new w (.string bg) (.func (.func 92) #[] #[.pointer (some ⟨b, 0, none⟩)]) (.func (.func 68) #[] #[]))
  have HK := Lib.hid (kin_cells w (.string bg) (.func (.func 92) #[] #[.pointer (some ⟨b, 0, none⟩)]) (.func (.func 68) #[] #[]))
  clear hG
  go_enter Tryz.func48, Tryz.ntmps48
  go_wp2_with fail
  refine (C1.out _ HB.out HG.out).mono ?_
  rintro e w1 ⟨rfl, hb1⟩
  have hz : w.heap.size + 1 < w1.heap.size := by have := hb1.size; simp at this; omega
  have HB1 := Lib.hid (HB.out.trans (hb1.mono (by simp; omega)))
  have HG1 := Lib.hid (HG.out.after hb1)
  have HN1 := Lib.hid (HN.out.keep hb1 (by simp))
  have HK0 := Lib.hid ((hb1.cell (p := ⟨w.heap.size, 0, none⟩) (by simp; omega)).trans HK.out.1)
  have HK2 := Lib.hid ((hb1.cell (p := ⟨w.heap.size, 2, none⟩) (by simp; omega)).trans HK.out.2.2)
  clear hb1
  go_wp2_with fail
  refine (C2.out _).mono ?_
  rintro e w2 ⟨rfl, hb2⟩
  have hz2 : w.heap.size + 1 < w2.heap.size := Nat.lt_of_lt_of_le hz hb2.size
  have HB2 := Lib.hid (HB1.out.trans (hb2.mono HB1.out.size))
  have HG2 := Lib.hid (HG1.out.after hb2)
  have HN2 := Lib.hid (HN1.out.keep hb2 hz)
  have k0 : w2.cell? ⟨w.heap.size, 0, none⟩ = _ := (hb2.cell (p := ⟨w.heap.size, 0, none⟩) (by show w.heap.size < w1.heap.size; omega)).trans HK0.out
  have k2 : w2.cell? ⟨w.heap.size, 2, none⟩ = _ := (hb2.cell (p := ⟨w.heap.size, 2, none⟩) (by show w.heap.size < w1.heap.size; omega)).trans HK2.out
  clear hb2
  have HBd := Lib.hid HB2.out.drew
  have HGd := Lib.hid HG2.out.drew
  have HBa := Lib.hid (HB2.out.alloc HB2.out.size (.cells #[.int .i64 0, .string ⟨#[]⟩, .bool false, .bool false] 41)).drew
  have HGa := Lib.hid (HG2.out.alloc (.cells #[.int .i64 0, .string ⟨#[]⟩, .bool false, .bool false] 41)).drew
  have HNa := Lib.hid (res_new w2).drew
  have HN2d := Lib.hid HN2.out.drew
  have HN2a := Lib.hid (HN2.out.keep ((Below.refl w2.heap.size w2).alloc (Nat.le_refl _) (.cells #[.int .i64 0, .string ⟨#[]⟩, .bool false, .bool false] 41)) hz2).drew
  have hzb := Lib.hid (show w2.heap.size < (w2.alloc (.cells #[.int .i64 0, .string ⟨#[]⟩, .bool false, .bool false] 41)).heap.size by simp)
  have hza := Lib.hid (Nat.lt_trans (show w.heap.size < w2.heap.size by omega) hzb.out)
  have k0a : (w2.alloc (.cells #[.int .i64 0, .string ⟨#[]⟩, .bool false, .bool false] 41)).cell? ⟨w.heap.size, 0, none⟩ = some (.string bg) :=
    (((Below.refl w2.heap.size w2).alloc (Nat.le_refl _) _).cell (p := ⟨w.heap.size, 0, none⟩) (show w.heap.size < w2.heap.size by omega)).trans k0
  have hzc := Lib.hid (Nat.lt_trans hz2 hzb.out)
  have k2a : (w2.alloc (.cells #[.int .i64 0, .string ⟨#[]⟩, .bool false, .bool false] 41)).cell? ⟨w.heap.size, 2, none⟩ = some (.func (.func 68) #[] #[]) :=
    (((Below.refl w2.heap.size w2).alloc (Nat.le_refl _) _).cell (p := ⟨w.heap.size, 2, none⟩) (show w.heap.size < w2.heap.size by omega)).trans k2
  go_wp2_with fail
  have k2d : w2.drew.cell? ⟨w.heap.size, 2, none⟩ = some (.func (.func 68) #[] #[]) := k2
  have k2b : (w2.alloc (.cells #[.int .i64 0, .string ⟨#[]⟩, .bool false, .bool false] 41)).drew.cell? ⟨w.heap.size, 2, none⟩ = some (.func (.func 68) #[] #[]) := k2a
  have hzk := Lib.hid (show w.heap.size < w2.heap.size by omega)
  have CA := Lib.hid (C3.out w2.drew HBd.out HGd.out)
  have CB := Lib.hid (C3.out (w2.alloc (.cells #[.int .i64 0, .string ⟨#[]⟩, .bool false, .bool false] 41)).drew HBa.out HGa.out)
  go_region_held3 (fun W => W.cell? ⟨w.heap.size, 2, none⟩ = some (.func (.func 68) #[] #[])) (first | with_reducible exact k2 | with_reducible exact k2d | with_reducible exact k2a | with_reducible exact k2b | with_reducible exact k3 | with_reducible exact keepA k3 _ | with_reducible exact keepB k3 hzk.out _ _ _ _ | (trace_state; fail))
    (first | (go_at_call 68; (with_reducible refine CA.out.mono ?_); rintro e w3 ⟨rfl, hb3⟩; have k3 : w3.cell? ⟨w.heap.size, 2, none⟩ = some (.func (.func 68) #[] #[]) := (hb3.cell (p := ⟨w.heap.size, 2, none⟩) (show w.heap.size < w2.heap.size by omega)).trans k2)
           | (go_at_call 68; (with_reducible refine CB.out.mono ?_); rintro e w3 ⟨rfl, hb3⟩; have k3 : w3.cell? ⟨w.heap.size, 2, none⟩ = some (.func (.func 68) #[] #[]) := (hb3.cell (p := ⟨w.heap.size, 2, none⟩) hza.out).trans k2a; obtain ⟨d0, d1, d2, d3, g0, g1, g2, g3⟩ := HNa.out.keep hb3 hzb.out))
  · have k30 : w3.cell? ⟨w.heap.size, 0, none⟩ = some (.string bg) := (hb3.cell (p := ⟨w.heap.size, 0, none⟩) hzk.out).trans k0
    have hz3 : w.heap.size + 1 < w3.heap.size := Nat.lt_of_lt_of_le hz2 hb3.size
    have HB3 := Lib.hid (HBd.out.trans (hb3.mono HBd.out.size))
    have t0 := World.cell?_alloc_mark w3 #[.int .i64 kd, .string tx, .bool em, .bool bk] 41 (0, 0) 0
    have t1 := World.cell?_alloc_mark w3 #[.int .i64 kd, .string tx, .bool em, .bool bk] 41 (0, 0) 1
    have t2 := World.cell?_alloc_mark w3 #[.int .i64 kd, .string tx, .bool em, .bool bk] 41 (0, 0) 2
    have t3 := World.cell?_alloc_mark w3 #[.int .i64 kd, .string tx, .bool em, .bool bk] 41 (0, 0) 3
    have HAl := Lib.hid ((Below.refl w3.heap.size w3).alloc (Nat.le_refl _) (.cells #[.int .i64 kd, .string tx, .bool em, .bool bk] 41))
    obtain ⟨c0, c1, c2, c3, f0, f1, f2, f3⟩ := (HN2d.out.keep hb3 hz2).keep HAl.out hz3
    have kW := keepA k30 (.cells #[.int .i64 kd, .string tx, .bool em, .bool bk] 41)
    have HBW := Lib.hid (HB3.out.trans (HAl.out.mono HB3.out.size))
    have hzW : w.heap.size + 1 < (w3.alloc (.cells #[.int .i64 kd, .string tx, .bool em, .bool bk] 41)).heap.size := Nat.lt_of_lt_of_le hz3 HAl.out.size
    clear HAl
    generalize w3.alloc (.cells #[.int .i64 kd, .string tx, .bool em, .bool bk] 41) = W at *
    simp at t0 t1 t2 t3
    have q2 : IntKind.i64.wrap ((bg.size : Int) + (m : Int)) = (bg.size : Int) + (m : Int) := IntWalk.i64_in _ (by omega)
    clear HB3 hb3 k2 k2a k2d k2b k0 k0a k3 k30 hz hz2 hz3
    go_wp2_with fail
    go_region
    all_goals
      go_wp2_with fail
      exact bodyPost_ret (v := .tuple #[.agg #[.int .i64 kd, .string tx, .bool em, .bool bk], .int .i64 ((bg.size : Int) + (m : Int)), .int .i64 er]) (by simp [results, Tryz.results48, go_sem, c0, c1, c2, c3, hzW]) rfl ⟨rfl, (below_set4 HBW.out (by omega) _ _ _ _).drew⟩
  · have k30 : w3.cell? ⟨w.heap.size, 0, none⟩ = some (.string bg) := (hb3.cell (p := ⟨w.heap.size, 0, none⟩) hza.out).trans k0a
    have hz3 : w.heap.size + 1 < w3.heap.size := Nat.lt_of_lt_of_le hzc.out hb3.size
    have HB3 := Lib.hid (HBa.out.trans (hb3.mono HBa.out.size))
    have hs4 := below_set4 (Below.refl w2.heap.size w3) (Nat.le_refl _) (.int .i64 kd) (.string tx) (.bool em) (.bool bk)
    have t0 : ((((w3.setCell ⟨w2.heap.size, 0, none⟩ (.int .i64 kd)).setCell ⟨w2.heap.size, 1, none⟩ (.string tx)).setCell ⟨w2.heap.size, 2, none⟩ (.bool em)).setCell ⟨w2.heap.size, 3, none⟩ (.bool bk)).cell? ⟨w2.heap.size, 0, none⟩ = some (.int .i64 kd) := by simp [go_sem, d0, d1, d2, d3]
    have t1 : ((((w3.setCell ⟨w2.heap.size, 0, none⟩ (.int .i64 kd)).setCell ⟨w2.heap.size, 1, none⟩ (.string tx)).setCell ⟨w2.heap.size, 2, none⟩ (.bool em)).setCell ⟨w2.heap.size, 3, none⟩ (.bool bk)).cell? ⟨w2.heap.size, 1, none⟩ = some (.string tx) := by simp [go_sem, d0, d1, d2, d3]
    have t2 : ((((w3.setCell ⟨w2.heap.size, 0, none⟩ (.int .i64 kd)).setCell ⟨w2.heap.size, 1, none⟩ (.string tx)).setCell ⟨w2.heap.size, 2, none⟩ (.bool em)).setCell ⟨w2.heap.size, 3, none⟩ (.bool bk)).cell? ⟨w2.heap.size, 2, none⟩ = some (.bool em) := by simp [go_sem, d0, d1, d2, d3]
    have t3 : ((((w3.setCell ⟨w2.heap.size, 0, none⟩ (.int .i64 kd)).setCell ⟨w2.heap.size, 1, none⟩ (.string tx)).setCell ⟨w2.heap.size, 2, none⟩ (.bool em)).setCell ⟨w2.heap.size, 3, none⟩ (.bool bk)).cell? ⟨w2.heap.size, 3, none⟩ = some (.bool bk) := by simp [go_sem, d0, d1, d2, d3]
    obtain ⟨c0, c1, c2, c3, f0, f1, f2, f3⟩ := (HN2a.out.keep hb3 hzc.out).keep hs4 hz2
    have kW := keepB k30 hzk.out (.int .i64 kd) (.string tx) (.bool em) (.bool bk)
    have HBW := Lib.hid (below_set4 HB3.out (show w.heap.size ≤ w2.heap.size by omega) (.int .i64 kd) (.string tx) (.bool em) (.bool bk))
    have hzW : w.heap.size + 1 < ((((w3.setCell ⟨w2.heap.size, 0, none⟩ (.int .i64 kd)).setCell ⟨w2.heap.size, 1, none⟩ (.string tx)).setCell ⟨w2.heap.size, 2, none⟩ (.bool em)).setCell ⟨w2.heap.size, 3, none⟩ (.bool bk)).heap.size := Nat.lt_of_lt_of_le hz3 hs4.size
    clear hs4 d0 d1 d2 d3 g0 g1 g2 g3
    generalize ((((w3.setCell ⟨w2.heap.size, 0, none⟩ (.int .i64 kd)).setCell ⟨w2.heap.size, 1, none⟩ (.string tx)).setCell ⟨w2.heap.size, 2, none⟩ (.bool em)).setCell ⟨w2.heap.size, 3, none⟩ (.bool bk)) = W at *
    have q2 : IntKind.i64.wrap ((bg.size : Int) + (m : Int)) = (bg.size : Int) + (m : Int) := IntWalk.i64_in _ (by omega)
    clear HB3 hb3 k2 k2a k2d k2b k0 k0a k3 k30 hz hz2 hz3
    go_wp2_with fail
    go_region
    all_goals
      go_wp2_with fail
      exact bodyPost_ret (v := .tuple #[.agg #[.int .i64 kd, .string tx, .bool em, .bool bk], .int .i64 ((bg.size : Int) + (m : Int)), .int .i64 er]) (by simp [results, Tryz.results48, go_sem, c0, c1, c2, c3, hzW]) rfl ⟨rfl, (below_set4 HBW.out (by omega) _ _ _ _).drew⟩
set_option maxHeartbeats 1000000 in
set_option maxRecDepth 100000 in
theorem tok_read_73 (bg r : ByteArray) (b : Nat) (d : Nat) (at_ : Int) (n m : Nat) (kd : Int) (tx : ByteArray) (em bk : Bool) (er : Int) (w : World) (hbg : bg.size ≤ 100) (hr : r.size ≤ 10000) (hn : n ≤ r.size) (hm : m ≤ r.size) (hG : Gl w) (C1 : Hid (EndC w 92 #[.string r, .pointer (some ⟨b, 0, none⟩)] n m true)) (C2 : Hid (SoC (r.extract 0 m) 0)) (C3 : Hid (RdC w 95 #[.string (r.extract 0 n), .int .i64 at_, .pointer (some ⟨d, 0, none⟩)] kd tx em bk er)) :
    Calls Tryz.prog 48 #[.agg #[.string bg, .func (.func 92) #[] #[.pointer (some ⟨b, 0, none⟩)], .func (.func 95) #[] #[.pointer (some ⟨d, 0, none⟩)]], .string r, .int .i64 at_] w fun e w' => e = .returned (.tuple #[.agg #[.int .i64 kd, .string tx, .bool em, .bool bk], .int .i64 ((bg.size : Int) + (m : Int)), .int .i64 er]) ∧ Below w.heap.size w w' := by
  have HB := Lib.hid (kin_below w (.string bg) (.func (.func 92) #[] #[.pointer (some ⟨b, 0, none⟩)]) (.func (.func 95) #[] #[.pointer (some ⟨d, 0, none⟩)]))
  have HG := Lib.hid (hG.after HB.out)
  have HN := Lib.hid (kin_new w (.string bg) (.func (.func 92) #[] #[.pointer (some ⟨b, 0, none⟩)]) (.func (.func 95) #[] #[.pointer (some ⟨d, 0, none⟩)]))
  have HK := Lib.hid (kin_cells w (.string bg) (.func (.func 92) #[] #[.pointer (some ⟨b, 0, none⟩)]) (.func (.func 95) #[] #[.pointer (some ⟨d, 0, none⟩)]))
  clear hG
  go_enter Tryz.func48, Tryz.ntmps48
  go_wp2_with fail
  refine (C1.out _ HB.out HG.out).mono ?_
  rintro e w1 ⟨rfl, hb1⟩
  have hz : w.heap.size + 1 < w1.heap.size := by have := hb1.size; simp at this; omega
  have HB1 := Lib.hid (HB.out.trans (hb1.mono (by simp; omega)))
  have HG1 := Lib.hid (HG.out.after hb1)
  have HN1 := Lib.hid (HN.out.keep hb1 (by simp))
  have HK0 := Lib.hid ((hb1.cell (p := ⟨w.heap.size, 0, none⟩) (by simp; omega)).trans HK.out.1)
  have HK2 := Lib.hid ((hb1.cell (p := ⟨w.heap.size, 2, none⟩) (by simp; omega)).trans HK.out.2.2)
  clear hb1
  go_wp2_with fail
  refine (C2.out _).mono ?_
  rintro e w2 ⟨rfl, hb2⟩
  have hz2 : w.heap.size + 1 < w2.heap.size := Nat.lt_of_lt_of_le hz hb2.size
  have HB2 := Lib.hid (HB1.out.trans (hb2.mono HB1.out.size))
  have HG2 := Lib.hid (HG1.out.after hb2)
  have HN2 := Lib.hid (HN1.out.keep hb2 hz)
  have k0 : w2.cell? ⟨w.heap.size, 0, none⟩ = _ := (hb2.cell (p := ⟨w.heap.size, 0, none⟩) (by show w.heap.size < w1.heap.size; omega)).trans HK0.out
  have k2 : w2.cell? ⟨w.heap.size, 2, none⟩ = _ := (hb2.cell (p := ⟨w.heap.size, 2, none⟩) (by show w.heap.size < w1.heap.size; omega)).trans HK2.out
  clear hb2
  have HBd := Lib.hid HB2.out.drew
  have HGd := Lib.hid HG2.out.drew
  have HBa := Lib.hid (HB2.out.alloc HB2.out.size (.cells #[.int .i64 0, .string ⟨#[]⟩, .bool false, .bool false] 41)).drew
  have HGa := Lib.hid (HG2.out.alloc (.cells #[.int .i64 0, .string ⟨#[]⟩, .bool false, .bool false] 41)).drew
  have HNa := Lib.hid (res_new w2).drew
  have HN2d := Lib.hid HN2.out.drew
  have HN2a := Lib.hid (HN2.out.keep ((Below.refl w2.heap.size w2).alloc (Nat.le_refl _) (.cells #[.int .i64 0, .string ⟨#[]⟩, .bool false, .bool false] 41)) hz2).drew
  have hzb := Lib.hid (show w2.heap.size < (w2.alloc (.cells #[.int .i64 0, .string ⟨#[]⟩, .bool false, .bool false] 41)).heap.size by simp)
  have hza := Lib.hid (Nat.lt_trans (show w.heap.size < w2.heap.size by omega) hzb.out)
  have k0a : (w2.alloc (.cells #[.int .i64 0, .string ⟨#[]⟩, .bool false, .bool false] 41)).cell? ⟨w.heap.size, 0, none⟩ = some (.string bg) :=
    (((Below.refl w2.heap.size w2).alloc (Nat.le_refl _) _).cell (p := ⟨w.heap.size, 0, none⟩) (show w.heap.size < w2.heap.size by omega)).trans k0
  have hzc := Lib.hid (Nat.lt_trans hz2 hzb.out)
  have k2a : (w2.alloc (.cells #[.int .i64 0, .string ⟨#[]⟩, .bool false, .bool false] 41)).cell? ⟨w.heap.size, 2, none⟩ = some (.func (.func 95) #[] #[.pointer (some ⟨d, 0, none⟩)]) :=
    (((Below.refl w2.heap.size w2).alloc (Nat.le_refl _) _).cell (p := ⟨w.heap.size, 2, none⟩) (show w.heap.size < w2.heap.size by omega)).trans k2
  go_wp2_with fail
  have k2d : w2.drew.cell? ⟨w.heap.size, 2, none⟩ = some (.func (.func 95) #[] #[.pointer (some ⟨d, 0, none⟩)]) := k2
  have k2b : (w2.alloc (.cells #[.int .i64 0, .string ⟨#[]⟩, .bool false, .bool false] 41)).drew.cell? ⟨w.heap.size, 2, none⟩ = some (.func (.func 95) #[] #[.pointer (some ⟨d, 0, none⟩)]) := k2a
  have hzk := Lib.hid (show w.heap.size < w2.heap.size by omega)
  have CA := Lib.hid (C3.out w2.drew HBd.out HGd.out)
  have CB := Lib.hid (C3.out (w2.alloc (.cells #[.int .i64 0, .string ⟨#[]⟩, .bool false, .bool false] 41)).drew HBa.out HGa.out)
  go_region_held3 (fun W => W.cell? ⟨w.heap.size, 2, none⟩ = some (.func (.func 95) #[] #[.pointer (some ⟨d, 0, none⟩)])) (first | with_reducible exact k2 | with_reducible exact k2d | with_reducible exact k2a | with_reducible exact k2b | with_reducible exact k3 | with_reducible exact keepA k3 _ | with_reducible exact keepB k3 hzk.out _ _ _ _ | (trace_state; fail))
    (first | (go_at_call 95; (with_reducible refine CA.out.mono ?_); rintro e w3 ⟨rfl, hb3⟩; have k3 : w3.cell? ⟨w.heap.size, 2, none⟩ = some (.func (.func 95) #[] #[.pointer (some ⟨d, 0, none⟩)]) := (hb3.cell (p := ⟨w.heap.size, 2, none⟩) (show w.heap.size < w2.heap.size by omega)).trans k2)
           | (go_at_call 95; (with_reducible refine CB.out.mono ?_); rintro e w3 ⟨rfl, hb3⟩; have k3 : w3.cell? ⟨w.heap.size, 2, none⟩ = some (.func (.func 95) #[] #[.pointer (some ⟨d, 0, none⟩)]) := (hb3.cell (p := ⟨w.heap.size, 2, none⟩) hza.out).trans k2a; obtain ⟨d0, d1, d2, d3, g0, g1, g2, g3⟩ := HNa.out.keep hb3 hzb.out))
  · have k30 : w3.cell? ⟨w.heap.size, 0, none⟩ = some (.string bg) := (hb3.cell (p := ⟨w.heap.size, 0, none⟩) hzk.out).trans k0
    have hz3 : w.heap.size + 1 < w3.heap.size := Nat.lt_of_lt_of_le hz2 hb3.size
    have HB3 := Lib.hid (HBd.out.trans (hb3.mono HBd.out.size))
    have t0 := World.cell?_alloc_mark w3 #[.int .i64 kd, .string tx, .bool em, .bool bk] 41 (0, 0) 0
    have t1 := World.cell?_alloc_mark w3 #[.int .i64 kd, .string tx, .bool em, .bool bk] 41 (0, 0) 1
    have t2 := World.cell?_alloc_mark w3 #[.int .i64 kd, .string tx, .bool em, .bool bk] 41 (0, 0) 2
    have t3 := World.cell?_alloc_mark w3 #[.int .i64 kd, .string tx, .bool em, .bool bk] 41 (0, 0) 3
    have HAl := Lib.hid ((Below.refl w3.heap.size w3).alloc (Nat.le_refl _) (.cells #[.int .i64 kd, .string tx, .bool em, .bool bk] 41))
    obtain ⟨c0, c1, c2, c3, f0, f1, f2, f3⟩ := (HN2d.out.keep hb3 hz2).keep HAl.out hz3
    have kW := keepA k30 (.cells #[.int .i64 kd, .string tx, .bool em, .bool bk] 41)
    have HBW := Lib.hid (HB3.out.trans (HAl.out.mono HB3.out.size))
    have hzW : w.heap.size + 1 < (w3.alloc (.cells #[.int .i64 kd, .string tx, .bool em, .bool bk] 41)).heap.size := Nat.lt_of_lt_of_le hz3 HAl.out.size
    clear HAl
    generalize w3.alloc (.cells #[.int .i64 kd, .string tx, .bool em, .bool bk] 41) = W at *
    simp at t0 t1 t2 t3
    have q2 : IntKind.i64.wrap ((bg.size : Int) + (m : Int)) = (bg.size : Int) + (m : Int) := IntWalk.i64_in _ (by omega)
    clear HB3 hb3 k2 k2a k2d k2b k0 k0a k3 k30 hz hz2 hz3
    go_wp2_with fail
    go_region
    all_goals
      go_wp2_with fail
      exact bodyPost_ret (v := .tuple #[.agg #[.int .i64 kd, .string tx, .bool em, .bool bk], .int .i64 ((bg.size : Int) + (m : Int)), .int .i64 er]) (by simp [results, Tryz.results48, go_sem, c0, c1, c2, c3, hzW]) rfl ⟨rfl, (below_set4 HBW.out (by omega) _ _ _ _).drew⟩
  · have k30 : w3.cell? ⟨w.heap.size, 0, none⟩ = some (.string bg) := (hb3.cell (p := ⟨w.heap.size, 0, none⟩) hza.out).trans k0a
    have hz3 : w.heap.size + 1 < w3.heap.size := Nat.lt_of_lt_of_le hzc.out hb3.size
    have HB3 := Lib.hid (HBa.out.trans (hb3.mono HBa.out.size))
    have hs4 := below_set4 (Below.refl w2.heap.size w3) (Nat.le_refl _) (.int .i64 kd) (.string tx) (.bool em) (.bool bk)
    have t0 : ((((w3.setCell ⟨w2.heap.size, 0, none⟩ (.int .i64 kd)).setCell ⟨w2.heap.size, 1, none⟩ (.string tx)).setCell ⟨w2.heap.size, 2, none⟩ (.bool em)).setCell ⟨w2.heap.size, 3, none⟩ (.bool bk)).cell? ⟨w2.heap.size, 0, none⟩ = some (.int .i64 kd) := by simp [go_sem, d0, d1, d2, d3]
    have t1 : ((((w3.setCell ⟨w2.heap.size, 0, none⟩ (.int .i64 kd)).setCell ⟨w2.heap.size, 1, none⟩ (.string tx)).setCell ⟨w2.heap.size, 2, none⟩ (.bool em)).setCell ⟨w2.heap.size, 3, none⟩ (.bool bk)).cell? ⟨w2.heap.size, 1, none⟩ = some (.string tx) := by simp [go_sem, d0, d1, d2, d3]
    have t2 : ((((w3.setCell ⟨w2.heap.size, 0, none⟩ (.int .i64 kd)).setCell ⟨w2.heap.size, 1, none⟩ (.string tx)).setCell ⟨w2.heap.size, 2, none⟩ (.bool em)).setCell ⟨w2.heap.size, 3, none⟩ (.bool bk)).cell? ⟨w2.heap.size, 2, none⟩ = some (.bool em) := by simp [go_sem, d0, d1, d2, d3]
    have t3 : ((((w3.setCell ⟨w2.heap.size, 0, none⟩ (.int .i64 kd)).setCell ⟨w2.heap.size, 1, none⟩ (.string tx)).setCell ⟨w2.heap.size, 2, none⟩ (.bool em)).setCell ⟨w2.heap.size, 3, none⟩ (.bool bk)).cell? ⟨w2.heap.size, 3, none⟩ = some (.bool bk) := by simp [go_sem, d0, d1, d2, d3]
    obtain ⟨c0, c1, c2, c3, f0, f1, f2, f3⟩ := (HN2a.out.keep hb3 hzc.out).keep hs4 hz2
    have kW := keepB k30 hzk.out (.int .i64 kd) (.string tx) (.bool em) (.bool bk)
    have HBW := Lib.hid (below_set4 HB3.out (show w.heap.size ≤ w2.heap.size by omega) (.int .i64 kd) (.string tx) (.bool em) (.bool bk))
    have hzW : w.heap.size + 1 < ((((w3.setCell ⟨w2.heap.size, 0, none⟩ (.int .i64 kd)).setCell ⟨w2.heap.size, 1, none⟩ (.string tx)).setCell ⟨w2.heap.size, 2, none⟩ (.bool em)).setCell ⟨w2.heap.size, 3, none⟩ (.bool bk)).heap.size := Nat.lt_of_lt_of_le hz3 hs4.size
    clear hs4 d0 d1 d2 d3 g0 g1 g2 g3
    generalize ((((w3.setCell ⟨w2.heap.size, 0, none⟩ (.int .i64 kd)).setCell ⟨w2.heap.size, 1, none⟩ (.string tx)).setCell ⟨w2.heap.size, 2, none⟩ (.bool em)).setCell ⟨w2.heap.size, 3, none⟩ (.bool bk)) = W at *
    have q2 : IntKind.i64.wrap ((bg.size : Int) + (m : Int)) = (bg.size : Int) + (m : Int) := IntWalk.i64_in _ (by omega)
    clear HB3 hb3 k2 k2a k2d k2b k0 k0a k3 k30 hz hz2 hz3
    go_wp2_with fail
    go_region
    all_goals
      go_wp2_with fail
      exact bodyPost_ret (v := .tuple #[.agg #[.int .i64 kd, .string tx, .bool em, .bool bk], .int .i64 ((bg.size : Int) + (m : Int)), .int .i64 er]) (by simp [results, Tryz.results48, go_sem, c0, c1, c2, c3, hzW]) rfl ⟨rfl, (below_set4 HBW.out (by omega) _ _ _ _).drew⟩
set_option maxHeartbeats 1000000 in
set_option maxRecDepth 100000 in
theorem tok_read_59 (bg r : ByteArray) (b : Nat) (at_ : Int) (n m : Nat) (kd : Int) (tx : ByteArray) (em bk : Bool) (er : Int) (w : World) (hbg : bg.size ≤ 100) (hr : r.size ≤ 10000) (hn : n ≤ r.size) (hm : m ≤ r.size) (hG : Gl w) (C1 : Hid (EndC w 92 #[.string r, .pointer (some ⟨b, 0, none⟩)] n m true)) (C2 : Hid (SoC (r.extract 0 m) 0)) (C3 : Hid (RdC w 70 #[.string (r.extract 0 n), .int .i64 at_] kd tx em bk er)) :
    Calls Tryz.prog 48 #[.agg #[.string bg, .func (.func 92) #[] #[.pointer (some ⟨b, 0, none⟩)], .func (.func 70) #[] #[]], .string r, .int .i64 at_] w fun e w' => e = .returned (.tuple #[.agg #[.int .i64 kd, .string tx, .bool em, .bool bk], .int .i64 ((bg.size : Int) + (m : Int)), .int .i64 er]) ∧ Below w.heap.size w w' := by
  have HB := Lib.hid (kin_below w (.string bg) (.func (.func 92) #[] #[.pointer (some ⟨b, 0, none⟩)]) (.func (.func 70) #[] #[]))
  have HG := Lib.hid (hG.after HB.out)
  have HN := Lib.hid (kin_new w (.string bg) (.func (.func 92) #[] #[.pointer (some ⟨b, 0, none⟩)]) (.func (.func 70) #[] #[]))
  have HK := Lib.hid (kin_cells w (.string bg) (.func (.func 92) #[] #[.pointer (some ⟨b, 0, none⟩)]) (.func (.func 70) #[] #[]))
  clear hG
  go_enter Tryz.func48, Tryz.ntmps48
  go_wp2_with fail
  refine (C1.out _ HB.out HG.out).mono ?_
  rintro e w1 ⟨rfl, hb1⟩
  have hz : w.heap.size + 1 < w1.heap.size := by have := hb1.size; simp at this; omega
  have HB1 := Lib.hid (HB.out.trans (hb1.mono (by simp; omega)))
  have HG1 := Lib.hid (HG.out.after hb1)
  have HN1 := Lib.hid (HN.out.keep hb1 (by simp))
  have HK0 := Lib.hid ((hb1.cell (p := ⟨w.heap.size, 0, none⟩) (by simp; omega)).trans HK.out.1)
  have HK2 := Lib.hid ((hb1.cell (p := ⟨w.heap.size, 2, none⟩) (by simp; omega)).trans HK.out.2.2)
  clear hb1
  go_wp2_with fail
  refine (C2.out _).mono ?_
  rintro e w2 ⟨rfl, hb2⟩
  have hz2 : w.heap.size + 1 < w2.heap.size := Nat.lt_of_lt_of_le hz hb2.size
  have HB2 := Lib.hid (HB1.out.trans (hb2.mono HB1.out.size))
  have HG2 := Lib.hid (HG1.out.after hb2)
  have HN2 := Lib.hid (HN1.out.keep hb2 hz)
  have k0 : w2.cell? ⟨w.heap.size, 0, none⟩ = _ := (hb2.cell (p := ⟨w.heap.size, 0, none⟩) (by show w.heap.size < w1.heap.size; omega)).trans HK0.out
  have k2 : w2.cell? ⟨w.heap.size, 2, none⟩ = _ := (hb2.cell (p := ⟨w.heap.size, 2, none⟩) (by show w.heap.size < w1.heap.size; omega)).trans HK2.out
  clear hb2
  have HBd := Lib.hid HB2.out.drew
  have HGd := Lib.hid HG2.out.drew
  have HBa := Lib.hid (HB2.out.alloc HB2.out.size (.cells #[.int .i64 0, .string ⟨#[]⟩, .bool false, .bool false] 41)).drew
  have HGa := Lib.hid (HG2.out.alloc (.cells #[.int .i64 0, .string ⟨#[]⟩, .bool false, .bool false] 41)).drew
  have HNa := Lib.hid (res_new w2).drew
  have HN2d := Lib.hid HN2.out.drew
  have HN2a := Lib.hid (HN2.out.keep ((Below.refl w2.heap.size w2).alloc (Nat.le_refl _) (.cells #[.int .i64 0, .string ⟨#[]⟩, .bool false, .bool false] 41)) hz2).drew
  have hzb := Lib.hid (show w2.heap.size < (w2.alloc (.cells #[.int .i64 0, .string ⟨#[]⟩, .bool false, .bool false] 41)).heap.size by simp)
  have hza := Lib.hid (Nat.lt_trans (show w.heap.size < w2.heap.size by omega) hzb.out)
  have k0a : (w2.alloc (.cells #[.int .i64 0, .string ⟨#[]⟩, .bool false, .bool false] 41)).cell? ⟨w.heap.size, 0, none⟩ = some (.string bg) :=
    (((Below.refl w2.heap.size w2).alloc (Nat.le_refl _) _).cell (p := ⟨w.heap.size, 0, none⟩) (show w.heap.size < w2.heap.size by omega)).trans k0
  have hzc := Lib.hid (Nat.lt_trans hz2 hzb.out)
  have k2a : (w2.alloc (.cells #[.int .i64 0, .string ⟨#[]⟩, .bool false, .bool false] 41)).cell? ⟨w.heap.size, 2, none⟩ = some (.func (.func 70) #[] #[]) :=
    (((Below.refl w2.heap.size w2).alloc (Nat.le_refl _) _).cell (p := ⟨w.heap.size, 2, none⟩) (show w.heap.size < w2.heap.size by omega)).trans k2
  go_wp2_with fail
  have k2d : w2.drew.cell? ⟨w.heap.size, 2, none⟩ = some (.func (.func 70) #[] #[]) := k2
  have k2b : (w2.alloc (.cells #[.int .i64 0, .string ⟨#[]⟩, .bool false, .bool false] 41)).drew.cell? ⟨w.heap.size, 2, none⟩ = some (.func (.func 70) #[] #[]) := k2a
  have hzk := Lib.hid (show w.heap.size < w2.heap.size by omega)
  have CA := Lib.hid (C3.out w2.drew HBd.out HGd.out)
  have CB := Lib.hid (C3.out (w2.alloc (.cells #[.int .i64 0, .string ⟨#[]⟩, .bool false, .bool false] 41)).drew HBa.out HGa.out)
  go_region_held3 (fun W => W.cell? ⟨w.heap.size, 2, none⟩ = some (.func (.func 70) #[] #[])) (first | with_reducible exact k2 | with_reducible exact k2d | with_reducible exact k2a | with_reducible exact k2b | with_reducible exact k3 | with_reducible exact keepA k3 _ | with_reducible exact keepB k3 hzk.out _ _ _ _ | (trace_state; fail))
    (first | (go_at_call 70; (with_reducible refine CA.out.mono ?_); rintro e w3 ⟨rfl, hb3⟩; have k3 : w3.cell? ⟨w.heap.size, 2, none⟩ = some (.func (.func 70) #[] #[]) := (hb3.cell (p := ⟨w.heap.size, 2, none⟩) (show w.heap.size < w2.heap.size by omega)).trans k2)
           | (go_at_call 70; (with_reducible refine CB.out.mono ?_); rintro e w3 ⟨rfl, hb3⟩; have k3 : w3.cell? ⟨w.heap.size, 2, none⟩ = some (.func (.func 70) #[] #[]) := (hb3.cell (p := ⟨w.heap.size, 2, none⟩) hza.out).trans k2a; obtain ⟨d0, d1, d2, d3, g0, g1, g2, g3⟩ := HNa.out.keep hb3 hzb.out))
  · have k30 : w3.cell? ⟨w.heap.size, 0, none⟩ = some (.string bg) := (hb3.cell (p := ⟨w.heap.size, 0, none⟩) hzk.out).trans k0
    have hz3 : w.heap.size + 1 < w3.heap.size := Nat.lt_of_lt_of_le hz2 hb3.size
    have HB3 := Lib.hid (HBd.out.trans (hb3.mono HBd.out.size))
    have t0 := World.cell?_alloc_mark w3 #[.int .i64 kd, .string tx, .bool em, .bool bk] 41 (0, 0) 0
    have t1 := World.cell?_alloc_mark w3 #[.int .i64 kd, .string tx, .bool em, .bool bk] 41 (0, 0) 1
    have t2 := World.cell?_alloc_mark w3 #[.int .i64 kd, .string tx, .bool em, .bool bk] 41 (0, 0) 2
    have t3 := World.cell?_alloc_mark w3 #[.int .i64 kd, .string tx, .bool em, .bool bk] 41 (0, 0) 3
    have HAl := Lib.hid ((Below.refl w3.heap.size w3).alloc (Nat.le_refl _) (.cells #[.int .i64 kd, .string tx, .bool em, .bool bk] 41))
    obtain ⟨c0, c1, c2, c3, f0, f1, f2, f3⟩ := (HN2d.out.keep hb3 hz2).keep HAl.out hz3
    have kW := keepA k30 (.cells #[.int .i64 kd, .string tx, .bool em, .bool bk] 41)
    have HBW := Lib.hid (HB3.out.trans (HAl.out.mono HB3.out.size))
    have hzW : w.heap.size + 1 < (w3.alloc (.cells #[.int .i64 kd, .string tx, .bool em, .bool bk] 41)).heap.size := Nat.lt_of_lt_of_le hz3 HAl.out.size
    clear HAl
    generalize w3.alloc (.cells #[.int .i64 kd, .string tx, .bool em, .bool bk] 41) = W at *
    simp at t0 t1 t2 t3
    have q2 : IntKind.i64.wrap ((bg.size : Int) + (m : Int)) = (bg.size : Int) + (m : Int) := IntWalk.i64_in _ (by omega)
    clear HB3 hb3 k2 k2a k2d k2b k0 k0a k3 k30 hz hz2 hz3
    go_wp2_with fail
    go_region
    all_goals
      go_wp2_with fail
      exact bodyPost_ret (v := .tuple #[.agg #[.int .i64 kd, .string tx, .bool em, .bool bk], .int .i64 ((bg.size : Int) + (m : Int)), .int .i64 er]) (by simp [results, Tryz.results48, go_sem, c0, c1, c2, c3, hzW]) rfl ⟨rfl, (below_set4 HBW.out (by omega) _ _ _ _).drew⟩
  · have k30 : w3.cell? ⟨w.heap.size, 0, none⟩ = some (.string bg) := (hb3.cell (p := ⟨w.heap.size, 0, none⟩) hza.out).trans k0a
    have hz3 : w.heap.size + 1 < w3.heap.size := Nat.lt_of_lt_of_le hzc.out hb3.size
    have HB3 := Lib.hid (HBa.out.trans (hb3.mono HBa.out.size))
    have hs4 := below_set4 (Below.refl w2.heap.size w3) (Nat.le_refl _) (.int .i64 kd) (.string tx) (.bool em) (.bool bk)
    have t0 : ((((w3.setCell ⟨w2.heap.size, 0, none⟩ (.int .i64 kd)).setCell ⟨w2.heap.size, 1, none⟩ (.string tx)).setCell ⟨w2.heap.size, 2, none⟩ (.bool em)).setCell ⟨w2.heap.size, 3, none⟩ (.bool bk)).cell? ⟨w2.heap.size, 0, none⟩ = some (.int .i64 kd) := by simp [go_sem, d0, d1, d2, d3]
    have t1 : ((((w3.setCell ⟨w2.heap.size, 0, none⟩ (.int .i64 kd)).setCell ⟨w2.heap.size, 1, none⟩ (.string tx)).setCell ⟨w2.heap.size, 2, none⟩ (.bool em)).setCell ⟨w2.heap.size, 3, none⟩ (.bool bk)).cell? ⟨w2.heap.size, 1, none⟩ = some (.string tx) := by simp [go_sem, d0, d1, d2, d3]
    have t2 : ((((w3.setCell ⟨w2.heap.size, 0, none⟩ (.int .i64 kd)).setCell ⟨w2.heap.size, 1, none⟩ (.string tx)).setCell ⟨w2.heap.size, 2, none⟩ (.bool em)).setCell ⟨w2.heap.size, 3, none⟩ (.bool bk)).cell? ⟨w2.heap.size, 2, none⟩ = some (.bool em) := by simp [go_sem, d0, d1, d2, d3]
    have t3 : ((((w3.setCell ⟨w2.heap.size, 0, none⟩ (.int .i64 kd)).setCell ⟨w2.heap.size, 1, none⟩ (.string tx)).setCell ⟨w2.heap.size, 2, none⟩ (.bool em)).setCell ⟨w2.heap.size, 3, none⟩ (.bool bk)).cell? ⟨w2.heap.size, 3, none⟩ = some (.bool bk) := by simp [go_sem, d0, d1, d2, d3]
    obtain ⟨c0, c1, c2, c3, f0, f1, f2, f3⟩ := (HN2a.out.keep hb3 hzc.out).keep hs4 hz2
    have kW := keepB k30 hzk.out (.int .i64 kd) (.string tx) (.bool em) (.bool bk)
    have HBW := Lib.hid (below_set4 HB3.out (show w.heap.size ≤ w2.heap.size by omega) (.int .i64 kd) (.string tx) (.bool em) (.bool bk))
    have hzW : w.heap.size + 1 < ((((w3.setCell ⟨w2.heap.size, 0, none⟩ (.int .i64 kd)).setCell ⟨w2.heap.size, 1, none⟩ (.string tx)).setCell ⟨w2.heap.size, 2, none⟩ (.bool em)).setCell ⟨w2.heap.size, 3, none⟩ (.bool bk)).heap.size := Nat.lt_of_lt_of_le hz3 hs4.size
    clear hs4 d0 d1 d2 d3 g0 g1 g2 g3
    generalize ((((w3.setCell ⟨w2.heap.size, 0, none⟩ (.int .i64 kd)).setCell ⟨w2.heap.size, 1, none⟩ (.string tx)).setCell ⟨w2.heap.size, 2, none⟩ (.bool em)).setCell ⟨w2.heap.size, 3, none⟩ (.bool bk)) = W at *
    have q2 : IntKind.i64.wrap ((bg.size : Int) + (m : Int)) = (bg.size : Int) + (m : Int) := IntWalk.i64_in _ (by omega)
    clear HB3 hb3 k2 k2a k2d k2b k0 k0a k3 k30 hz hz2 hz3
    go_wp2_with fail
    go_region
    all_goals
      go_wp2_with fail
      exact bodyPost_ret (v := .tuple #[.agg #[.int .i64 kd, .string tx, .bool em, .bool bk], .int .i64 ((bg.size : Int) + (m : Int)), .int .i64 er]) (by simp [results, Tryz.results48, go_sem, c0, c1, c2, c3, hzW]) rfl ⟨rfl, (below_set4 HBW.out (by omega) _ _ _ _).drew⟩
set_option maxHeartbeats 1000000 in
set_option maxRecDepth 100000 in
theorem tok_read_60 (bg r : ByteArray) (b : Nat) (at_ : Int) (n m : Nat) (kd : Int) (tx : ByteArray) (em bk : Bool) (er : Int) (w : World) (hbg : bg.size ≤ 100) (hr : r.size ≤ 10000) (hn : n ≤ r.size) (hm : m ≤ r.size) (hG : Gl w) (C1 : Hid (EndC w 92 #[.string r, .pointer (some ⟨b, 0, none⟩)] n m true)) (C2 : Hid (SoC (r.extract 0 m) 0)) (C3 : Hid (RdC w 71 #[.string (r.extract 0 n), .int .i64 at_] kd tx em bk er)) :
    Calls Tryz.prog 48 #[.agg #[.string bg, .func (.func 92) #[] #[.pointer (some ⟨b, 0, none⟩)], .func (.func 71) #[] #[]], .string r, .int .i64 at_] w fun e w' => e = .returned (.tuple #[.agg #[.int .i64 kd, .string tx, .bool em, .bool bk], .int .i64 ((bg.size : Int) + (m : Int)), .int .i64 er]) ∧ Below w.heap.size w w' := by
  have HB := Lib.hid (kin_below w (.string bg) (.func (.func 92) #[] #[.pointer (some ⟨b, 0, none⟩)]) (.func (.func 71) #[] #[]))
  have HG := Lib.hid (hG.after HB.out)
  have HN := Lib.hid (kin_new w (.string bg) (.func (.func 92) #[] #[.pointer (some ⟨b, 0, none⟩)]) (.func (.func 71) #[] #[]))
  have HK := Lib.hid (kin_cells w (.string bg) (.func (.func 92) #[] #[.pointer (some ⟨b, 0, none⟩)]) (.func (.func 71) #[] #[]))
  clear hG
  go_enter Tryz.func48, Tryz.ntmps48
  go_wp2_with fail
  refine (C1.out _ HB.out HG.out).mono ?_
  rintro e w1 ⟨rfl, hb1⟩
  have hz : w.heap.size + 1 < w1.heap.size := by have := hb1.size; simp at this; omega
  have HB1 := Lib.hid (HB.out.trans (hb1.mono (by simp; omega)))
  have HG1 := Lib.hid (HG.out.after hb1)
  have HN1 := Lib.hid (HN.out.keep hb1 (by simp))
  have HK0 := Lib.hid ((hb1.cell (p := ⟨w.heap.size, 0, none⟩) (by simp; omega)).trans HK.out.1)
  have HK2 := Lib.hid ((hb1.cell (p := ⟨w.heap.size, 2, none⟩) (by simp; omega)).trans HK.out.2.2)
  clear hb1
  go_wp2_with fail
  refine (C2.out _).mono ?_
  rintro e w2 ⟨rfl, hb2⟩
  have hz2 : w.heap.size + 1 < w2.heap.size := Nat.lt_of_lt_of_le hz hb2.size
  have HB2 := Lib.hid (HB1.out.trans (hb2.mono HB1.out.size))
  have HG2 := Lib.hid (HG1.out.after hb2)
  have HN2 := Lib.hid (HN1.out.keep hb2 hz)
  have k0 : w2.cell? ⟨w.heap.size, 0, none⟩ = _ := (hb2.cell (p := ⟨w.heap.size, 0, none⟩) (by show w.heap.size < w1.heap.size; omega)).trans HK0.out
  have k2 : w2.cell? ⟨w.heap.size, 2, none⟩ = _ := (hb2.cell (p := ⟨w.heap.size, 2, none⟩) (by show w.heap.size < w1.heap.size; omega)).trans HK2.out
  clear hb2
  have HBd := Lib.hid HB2.out.drew
  have HGd := Lib.hid HG2.out.drew
  have HBa := Lib.hid (HB2.out.alloc HB2.out.size (.cells #[.int .i64 0, .string ⟨#[]⟩, .bool false, .bool false] 41)).drew
  have HGa := Lib.hid (HG2.out.alloc (.cells #[.int .i64 0, .string ⟨#[]⟩, .bool false, .bool false] 41)).drew
  have HNa := Lib.hid (res_new w2).drew
  have HN2d := Lib.hid HN2.out.drew
  have HN2a := Lib.hid (HN2.out.keep ((Below.refl w2.heap.size w2).alloc (Nat.le_refl _) (.cells #[.int .i64 0, .string ⟨#[]⟩, .bool false, .bool false] 41)) hz2).drew
  have hzb := Lib.hid (show w2.heap.size < (w2.alloc (.cells #[.int .i64 0, .string ⟨#[]⟩, .bool false, .bool false] 41)).heap.size by simp)
  have hza := Lib.hid (Nat.lt_trans (show w.heap.size < w2.heap.size by omega) hzb.out)
  have k0a : (w2.alloc (.cells #[.int .i64 0, .string ⟨#[]⟩, .bool false, .bool false] 41)).cell? ⟨w.heap.size, 0, none⟩ = some (.string bg) :=
    (((Below.refl w2.heap.size w2).alloc (Nat.le_refl _) _).cell (p := ⟨w.heap.size, 0, none⟩) (show w.heap.size < w2.heap.size by omega)).trans k0
  have hzc := Lib.hid (Nat.lt_trans hz2 hzb.out)
  have k2a : (w2.alloc (.cells #[.int .i64 0, .string ⟨#[]⟩, .bool false, .bool false] 41)).cell? ⟨w.heap.size, 2, none⟩ = some (.func (.func 71) #[] #[]) :=
    (((Below.refl w2.heap.size w2).alloc (Nat.le_refl _) _).cell (p := ⟨w.heap.size, 2, none⟩) (show w.heap.size < w2.heap.size by omega)).trans k2
  go_wp2_with fail
  have k2d : w2.drew.cell? ⟨w.heap.size, 2, none⟩ = some (.func (.func 71) #[] #[]) := k2
  have k2b : (w2.alloc (.cells #[.int .i64 0, .string ⟨#[]⟩, .bool false, .bool false] 41)).drew.cell? ⟨w.heap.size, 2, none⟩ = some (.func (.func 71) #[] #[]) := k2a
  have hzk := Lib.hid (show w.heap.size < w2.heap.size by omega)
  have CA := Lib.hid (C3.out w2.drew HBd.out HGd.out)
  have CB := Lib.hid (C3.out (w2.alloc (.cells #[.int .i64 0, .string ⟨#[]⟩, .bool false, .bool false] 41)).drew HBa.out HGa.out)
  go_region_held3 (fun W => W.cell? ⟨w.heap.size, 2, none⟩ = some (.func (.func 71) #[] #[])) (first | with_reducible exact k2 | with_reducible exact k2d | with_reducible exact k2a | with_reducible exact k2b | with_reducible exact k3 | with_reducible exact keepA k3 _ | with_reducible exact keepB k3 hzk.out _ _ _ _ | (trace_state; fail))
    (first | (go_at_call 71; (with_reducible refine CA.out.mono ?_); rintro e w3 ⟨rfl, hb3⟩; have k3 : w3.cell? ⟨w.heap.size, 2, none⟩ = some (.func (.func 71) #[] #[]) := (hb3.cell (p := ⟨w.heap.size, 2, none⟩) (show w.heap.size < w2.heap.size by omega)).trans k2)
           | (go_at_call 71; (with_reducible refine CB.out.mono ?_); rintro e w3 ⟨rfl, hb3⟩; have k3 : w3.cell? ⟨w.heap.size, 2, none⟩ = some (.func (.func 71) #[] #[]) := (hb3.cell (p := ⟨w.heap.size, 2, none⟩) hza.out).trans k2a; obtain ⟨d0, d1, d2, d3, g0, g1, g2, g3⟩ := HNa.out.keep hb3 hzb.out))
  · have k30 : w3.cell? ⟨w.heap.size, 0, none⟩ = some (.string bg) := (hb3.cell (p := ⟨w.heap.size, 0, none⟩) hzk.out).trans k0
    have hz3 : w.heap.size + 1 < w3.heap.size := Nat.lt_of_lt_of_le hz2 hb3.size
    have HB3 := Lib.hid (HBd.out.trans (hb3.mono HBd.out.size))
    have t0 := World.cell?_alloc_mark w3 #[.int .i64 kd, .string tx, .bool em, .bool bk] 41 (0, 0) 0
    have t1 := World.cell?_alloc_mark w3 #[.int .i64 kd, .string tx, .bool em, .bool bk] 41 (0, 0) 1
    have t2 := World.cell?_alloc_mark w3 #[.int .i64 kd, .string tx, .bool em, .bool bk] 41 (0, 0) 2
    have t3 := World.cell?_alloc_mark w3 #[.int .i64 kd, .string tx, .bool em, .bool bk] 41 (0, 0) 3
    have HAl := Lib.hid ((Below.refl w3.heap.size w3).alloc (Nat.le_refl _) (.cells #[.int .i64 kd, .string tx, .bool em, .bool bk] 41))
    obtain ⟨c0, c1, c2, c3, f0, f1, f2, f3⟩ := (HN2d.out.keep hb3 hz2).keep HAl.out hz3
    have kW := keepA k30 (.cells #[.int .i64 kd, .string tx, .bool em, .bool bk] 41)
    have HBW := Lib.hid (HB3.out.trans (HAl.out.mono HB3.out.size))
    have hzW : w.heap.size + 1 < (w3.alloc (.cells #[.int .i64 kd, .string tx, .bool em, .bool bk] 41)).heap.size := Nat.lt_of_lt_of_le hz3 HAl.out.size
    clear HAl
    generalize w3.alloc (.cells #[.int .i64 kd, .string tx, .bool em, .bool bk] 41) = W at *
    simp at t0 t1 t2 t3
    have q2 : IntKind.i64.wrap ((bg.size : Int) + (m : Int)) = (bg.size : Int) + (m : Int) := IntWalk.i64_in _ (by omega)
    clear HB3 hb3 k2 k2a k2d k2b k0 k0a k3 k30 hz hz2 hz3
    go_wp2_with fail
    go_region
    all_goals
      go_wp2_with fail
      exact bodyPost_ret (v := .tuple #[.agg #[.int .i64 kd, .string tx, .bool em, .bool bk], .int .i64 ((bg.size : Int) + (m : Int)), .int .i64 er]) (by simp [results, Tryz.results48, go_sem, c0, c1, c2, c3, hzW]) rfl ⟨rfl, (below_set4 HBW.out (by omega) _ _ _ _).drew⟩
  · have k30 : w3.cell? ⟨w.heap.size, 0, none⟩ = some (.string bg) := (hb3.cell (p := ⟨w.heap.size, 0, none⟩) hza.out).trans k0a
    have hz3 : w.heap.size + 1 < w3.heap.size := Nat.lt_of_lt_of_le hzc.out hb3.size
    have HB3 := Lib.hid (HBa.out.trans (hb3.mono HBa.out.size))
    have hs4 := below_set4 (Below.refl w2.heap.size w3) (Nat.le_refl _) (.int .i64 kd) (.string tx) (.bool em) (.bool bk)
    have t0 : ((((w3.setCell ⟨w2.heap.size, 0, none⟩ (.int .i64 kd)).setCell ⟨w2.heap.size, 1, none⟩ (.string tx)).setCell ⟨w2.heap.size, 2, none⟩ (.bool em)).setCell ⟨w2.heap.size, 3, none⟩ (.bool bk)).cell? ⟨w2.heap.size, 0, none⟩ = some (.int .i64 kd) := by simp [go_sem, d0, d1, d2, d3]
    have t1 : ((((w3.setCell ⟨w2.heap.size, 0, none⟩ (.int .i64 kd)).setCell ⟨w2.heap.size, 1, none⟩ (.string tx)).setCell ⟨w2.heap.size, 2, none⟩ (.bool em)).setCell ⟨w2.heap.size, 3, none⟩ (.bool bk)).cell? ⟨w2.heap.size, 1, none⟩ = some (.string tx) := by simp [go_sem, d0, d1, d2, d3]
    have t2 : ((((w3.setCell ⟨w2.heap.size, 0, none⟩ (.int .i64 kd)).setCell ⟨w2.heap.size, 1, none⟩ (.string tx)).setCell ⟨w2.heap.size, 2, none⟩ (.bool em)).setCell ⟨w2.heap.size, 3, none⟩ (.bool bk)).cell? ⟨w2.heap.size, 2, none⟩ = some (.bool em) := by simp [go_sem, d0, d1, d2, d3]
    have t3 : ((((w3.setCell ⟨w2.heap.size, 0, none⟩ (.int .i64 kd)).setCell ⟨w2.heap.size, 1, none⟩ (.string tx)).setCell ⟨w2.heap.size, 2, none⟩ (.bool em)).setCell ⟨w2.heap.size, 3, none⟩ (.bool bk)).cell? ⟨w2.heap.size, 3, none⟩ = some (.bool bk) := by simp [go_sem, d0, d1, d2, d3]
    obtain ⟨c0, c1, c2, c3, f0, f1, f2, f3⟩ := (HN2a.out.keep hb3 hzc.out).keep hs4 hz2
    have kW := keepB k30 hzk.out (.int .i64 kd) (.string tx) (.bool em) (.bool bk)
    have HBW := Lib.hid (below_set4 HB3.out (show w.heap.size ≤ w2.heap.size by omega) (.int .i64 kd) (.string tx) (.bool em) (.bool bk))
    have hzW : w.heap.size + 1 < ((((w3.setCell ⟨w2.heap.size, 0, none⟩ (.int .i64 kd)).setCell ⟨w2.heap.size, 1, none⟩ (.string tx)).setCell ⟨w2.heap.size, 2, none⟩ (.bool em)).setCell ⟨w2.heap.size, 3, none⟩ (.bool bk)).heap.size := Nat.lt_of_lt_of_le hz3 hs4.size
    clear hs4 d0 d1 d2 d3 g0 g1 g2 g3
    generalize ((((w3.setCell ⟨w2.heap.size, 0, none⟩ (.int .i64 kd)).setCell ⟨w2.heap.size, 1, none⟩ (.string tx)).setCell ⟨w2.heap.size, 2, none⟩ (.bool em)).setCell ⟨w2.heap.size, 3, none⟩ (.bool bk)) = W at *
    have q2 : IntKind.i64.wrap ((bg.size : Int) + (m : Int)) = (bg.size : Int) + (m : Int) := IntWalk.i64_in _ (by omega)
    clear HB3 hb3 k2 k2a k2d k2b k0 k0a k3 k30 hz hz2 hz3
    go_wp2_with fail
    go_region
    all_goals
      go_wp2_with fail
      exact bodyPost_ret (v := .tuple #[.agg #[.int .i64 kd, .string tx, .bool em, .bool bk], .int .i64 ((bg.size : Int) + (m : Int)), .int .i64 er]) (by simp [results, Tryz.results48, go_sem, c0, c1, c2, c3, hzW]) rfl ⟨rfl, (below_set4 HBW.out (by omega) _ _ _ _).drew⟩
set_option maxHeartbeats 1000000 in
set_option maxRecDepth 100000 in
theorem tok_read_62 (bg r : ByteArray) (at_ : Int) (n m : Nat) (kd : Int) (tx : ByteArray) (em bk : Bool) (er : Int) (w : World) (hbg : bg.size ≤ 100) (hr : r.size ≤ 10000) (hn : n ≤ r.size) (hm : m ≤ r.size) (hG : Gl w) (C1 : Hid (EndC w 72 #[.string r] n m true)) (C2 : Hid (SoC (r.extract 0 m) 0)) (C3 : Hid (RdC w 73 #[.string (r.extract 0 n), .int .i64 at_] kd tx em bk er)) :
    Calls Tryz.prog 48 #[.agg #[.string bg, .func (.func 72) #[] #[], .func (.func 73) #[] #[]], .string r, .int .i64 at_] w fun e w' => e = .returned (.tuple #[.agg #[.int .i64 kd, .string tx, .bool em, .bool bk], .int .i64 ((bg.size : Int) + (m : Int)), .int .i64 er]) ∧ Below w.heap.size w w' := by
  have HB := Lib.hid (kin_below w (.string bg) (.func (.func 72) #[] #[]) (.func (.func 73) #[] #[]))
  have HG := Lib.hid (hG.after HB.out)
  have HN := Lib.hid (kin_new w (.string bg) (.func (.func 72) #[] #[]) (.func (.func 73) #[] #[]))
  have HK := Lib.hid (kin_cells w (.string bg) (.func (.func 72) #[] #[]) (.func (.func 73) #[] #[]))
  clear hG
  go_enter Tryz.func48, Tryz.ntmps48
  go_wp2_with fail
  refine (C1.out _ HB.out HG.out).mono ?_
  rintro e w1 ⟨rfl, hb1⟩
  have hz : w.heap.size + 1 < w1.heap.size := by have := hb1.size; simp at this; omega
  have HB1 := Lib.hid (HB.out.trans (hb1.mono (by simp; omega)))
  have HG1 := Lib.hid (HG.out.after hb1)
  have HN1 := Lib.hid (HN.out.keep hb1 (by simp))
  have HK0 := Lib.hid ((hb1.cell (p := ⟨w.heap.size, 0, none⟩) (by simp; omega)).trans HK.out.1)
  have HK2 := Lib.hid ((hb1.cell (p := ⟨w.heap.size, 2, none⟩) (by simp; omega)).trans HK.out.2.2)
  clear hb1
  go_wp2_with fail
  refine (C2.out _).mono ?_
  rintro e w2 ⟨rfl, hb2⟩
  have hz2 : w.heap.size + 1 < w2.heap.size := Nat.lt_of_lt_of_le hz hb2.size
  have HB2 := Lib.hid (HB1.out.trans (hb2.mono HB1.out.size))
  have HG2 := Lib.hid (HG1.out.after hb2)
  have HN2 := Lib.hid (HN1.out.keep hb2 hz)
  have k0 : w2.cell? ⟨w.heap.size, 0, none⟩ = _ := (hb2.cell (p := ⟨w.heap.size, 0, none⟩) (by show w.heap.size < w1.heap.size; omega)).trans HK0.out
  have k2 : w2.cell? ⟨w.heap.size, 2, none⟩ = _ := (hb2.cell (p := ⟨w.heap.size, 2, none⟩) (by show w.heap.size < w1.heap.size; omega)).trans HK2.out
  clear hb2
  have HBd := Lib.hid HB2.out.drew
  have HGd := Lib.hid HG2.out.drew
  have HBa := Lib.hid (HB2.out.alloc HB2.out.size (.cells #[.int .i64 0, .string ⟨#[]⟩, .bool false, .bool false] 41)).drew
  have HGa := Lib.hid (HG2.out.alloc (.cells #[.int .i64 0, .string ⟨#[]⟩, .bool false, .bool false] 41)).drew
  have HNa := Lib.hid (res_new w2).drew
  have HN2d := Lib.hid HN2.out.drew
  have HN2a := Lib.hid (HN2.out.keep ((Below.refl w2.heap.size w2).alloc (Nat.le_refl _) (.cells #[.int .i64 0, .string ⟨#[]⟩, .bool false, .bool false] 41)) hz2).drew
  have hzb := Lib.hid (show w2.heap.size < (w2.alloc (.cells #[.int .i64 0, .string ⟨#[]⟩, .bool false, .bool false] 41)).heap.size by simp)
  have hza := Lib.hid (Nat.lt_trans (show w.heap.size < w2.heap.size by omega) hzb.out)
  have k0a : (w2.alloc (.cells #[.int .i64 0, .string ⟨#[]⟩, .bool false, .bool false] 41)).cell? ⟨w.heap.size, 0, none⟩ = some (.string bg) :=
    (((Below.refl w2.heap.size w2).alloc (Nat.le_refl _) _).cell (p := ⟨w.heap.size, 0, none⟩) (show w.heap.size < w2.heap.size by omega)).trans k0
  have hzc := Lib.hid (Nat.lt_trans hz2 hzb.out)
  have k2a : (w2.alloc (.cells #[.int .i64 0, .string ⟨#[]⟩, .bool false, .bool false] 41)).cell? ⟨w.heap.size, 2, none⟩ = some (.func (.func 73) #[] #[]) :=
    (((Below.refl w2.heap.size w2).alloc (Nat.le_refl _) _).cell (p := ⟨w.heap.size, 2, none⟩) (show w.heap.size < w2.heap.size by omega)).trans k2
  go_wp2_with fail
  have k2d : w2.drew.cell? ⟨w.heap.size, 2, none⟩ = some (.func (.func 73) #[] #[]) := k2
  have k2b : (w2.alloc (.cells #[.int .i64 0, .string ⟨#[]⟩, .bool false, .bool false] 41)).drew.cell? ⟨w.heap.size, 2, none⟩ = some (.func (.func 73) #[] #[]) := k2a
  have hzk := Lib.hid (show w.heap.size < w2.heap.size by omega)
  have CA := Lib.hid (C3.out w2.drew HBd.out HGd.out)
  have CB := Lib.hid (C3.out (w2.alloc (.cells #[.int .i64 0, .string ⟨#[]⟩, .bool false, .bool false] 41)).drew HBa.out HGa.out)
  go_region_held3 (fun W => W.cell? ⟨w.heap.size, 2, none⟩ = some (.func (.func 73) #[] #[])) (first | with_reducible exact k2 | with_reducible exact k2d | with_reducible exact k2a | with_reducible exact k2b | with_reducible exact k3 | with_reducible exact keepA k3 _ | with_reducible exact keepB k3 hzk.out _ _ _ _ | (trace_state; fail))
    (first | (go_at_call 73; (with_reducible refine CA.out.mono ?_); rintro e w3 ⟨rfl, hb3⟩; have k3 : w3.cell? ⟨w.heap.size, 2, none⟩ = some (.func (.func 73) #[] #[]) := (hb3.cell (p := ⟨w.heap.size, 2, none⟩) (show w.heap.size < w2.heap.size by omega)).trans k2)
           | (go_at_call 73; (with_reducible refine CB.out.mono ?_); rintro e w3 ⟨rfl, hb3⟩; have k3 : w3.cell? ⟨w.heap.size, 2, none⟩ = some (.func (.func 73) #[] #[]) := (hb3.cell (p := ⟨w.heap.size, 2, none⟩) hza.out).trans k2a; obtain ⟨d0, d1, d2, d3, g0, g1, g2, g3⟩ := HNa.out.keep hb3 hzb.out))
  · have k30 : w3.cell? ⟨w.heap.size, 0, none⟩ = some (.string bg) := (hb3.cell (p := ⟨w.heap.size, 0, none⟩) hzk.out).trans k0
    have hz3 : w.heap.size + 1 < w3.heap.size := Nat.lt_of_lt_of_le hz2 hb3.size
    have HB3 := Lib.hid (HBd.out.trans (hb3.mono HBd.out.size))
    have t0 := World.cell?_alloc_mark w3 #[.int .i64 kd, .string tx, .bool em, .bool bk] 41 (0, 0) 0
    have t1 := World.cell?_alloc_mark w3 #[.int .i64 kd, .string tx, .bool em, .bool bk] 41 (0, 0) 1
    have t2 := World.cell?_alloc_mark w3 #[.int .i64 kd, .string tx, .bool em, .bool bk] 41 (0, 0) 2
    have t3 := World.cell?_alloc_mark w3 #[.int .i64 kd, .string tx, .bool em, .bool bk] 41 (0, 0) 3
    have HAl := Lib.hid ((Below.refl w3.heap.size w3).alloc (Nat.le_refl _) (.cells #[.int .i64 kd, .string tx, .bool em, .bool bk] 41))
    obtain ⟨c0, c1, c2, c3, f0, f1, f2, f3⟩ := (HN2d.out.keep hb3 hz2).keep HAl.out hz3
    have kW := keepA k30 (.cells #[.int .i64 kd, .string tx, .bool em, .bool bk] 41)
    have HBW := Lib.hid (HB3.out.trans (HAl.out.mono HB3.out.size))
    have hzW : w.heap.size + 1 < (w3.alloc (.cells #[.int .i64 kd, .string tx, .bool em, .bool bk] 41)).heap.size := Nat.lt_of_lt_of_le hz3 HAl.out.size
    clear HAl
    generalize w3.alloc (.cells #[.int .i64 kd, .string tx, .bool em, .bool bk] 41) = W at *
    simp at t0 t1 t2 t3
    have q2 : IntKind.i64.wrap ((bg.size : Int) + (m : Int)) = (bg.size : Int) + (m : Int) := IntWalk.i64_in _ (by omega)
    clear HB3 hb3 k2 k2a k2d k2b k0 k0a k3 k30 hz hz2 hz3
    go_wp2_with fail
    go_region
    all_goals
      go_wp2_with fail
      exact bodyPost_ret (v := .tuple #[.agg #[.int .i64 kd, .string tx, .bool em, .bool bk], .int .i64 ((bg.size : Int) + (m : Int)), .int .i64 er]) (by simp [results, Tryz.results48, go_sem, c0, c1, c2, c3, hzW]) rfl ⟨rfl, (below_set4 HBW.out (by omega) _ _ _ _).drew⟩
  · have k30 : w3.cell? ⟨w.heap.size, 0, none⟩ = some (.string bg) := (hb3.cell (p := ⟨w.heap.size, 0, none⟩) hza.out).trans k0a
    have hz3 : w.heap.size + 1 < w3.heap.size := Nat.lt_of_lt_of_le hzc.out hb3.size
    have HB3 := Lib.hid (HBa.out.trans (hb3.mono HBa.out.size))
    have hs4 := below_set4 (Below.refl w2.heap.size w3) (Nat.le_refl _) (.int .i64 kd) (.string tx) (.bool em) (.bool bk)
    have t0 : ((((w3.setCell ⟨w2.heap.size, 0, none⟩ (.int .i64 kd)).setCell ⟨w2.heap.size, 1, none⟩ (.string tx)).setCell ⟨w2.heap.size, 2, none⟩ (.bool em)).setCell ⟨w2.heap.size, 3, none⟩ (.bool bk)).cell? ⟨w2.heap.size, 0, none⟩ = some (.int .i64 kd) := by simp [go_sem, d0, d1, d2, d3]
    have t1 : ((((w3.setCell ⟨w2.heap.size, 0, none⟩ (.int .i64 kd)).setCell ⟨w2.heap.size, 1, none⟩ (.string tx)).setCell ⟨w2.heap.size, 2, none⟩ (.bool em)).setCell ⟨w2.heap.size, 3, none⟩ (.bool bk)).cell? ⟨w2.heap.size, 1, none⟩ = some (.string tx) := by simp [go_sem, d0, d1, d2, d3]
    have t2 : ((((w3.setCell ⟨w2.heap.size, 0, none⟩ (.int .i64 kd)).setCell ⟨w2.heap.size, 1, none⟩ (.string tx)).setCell ⟨w2.heap.size, 2, none⟩ (.bool em)).setCell ⟨w2.heap.size, 3, none⟩ (.bool bk)).cell? ⟨w2.heap.size, 2, none⟩ = some (.bool em) := by simp [go_sem, d0, d1, d2, d3]
    have t3 : ((((w3.setCell ⟨w2.heap.size, 0, none⟩ (.int .i64 kd)).setCell ⟨w2.heap.size, 1, none⟩ (.string tx)).setCell ⟨w2.heap.size, 2, none⟩ (.bool em)).setCell ⟨w2.heap.size, 3, none⟩ (.bool bk)).cell? ⟨w2.heap.size, 3, none⟩ = some (.bool bk) := by simp [go_sem, d0, d1, d2, d3]
    obtain ⟨c0, c1, c2, c3, f0, f1, f2, f3⟩ := (HN2a.out.keep hb3 hzc.out).keep hs4 hz2
    have kW := keepB k30 hzk.out (.int .i64 kd) (.string tx) (.bool em) (.bool bk)
    have HBW := Lib.hid (below_set4 HB3.out (show w.heap.size ≤ w2.heap.size by omega) (.int .i64 kd) (.string tx) (.bool em) (.bool bk))
    have hzW : w.heap.size + 1 < ((((w3.setCell ⟨w2.heap.size, 0, none⟩ (.int .i64 kd)).setCell ⟨w2.heap.size, 1, none⟩ (.string tx)).setCell ⟨w2.heap.size, 2, none⟩ (.bool em)).setCell ⟨w2.heap.size, 3, none⟩ (.bool bk)).heap.size := Nat.lt_of_lt_of_le hz3 hs4.size
    clear hs4 d0 d1 d2 d3 g0 g1 g2 g3
    generalize ((((w3.setCell ⟨w2.heap.size, 0, none⟩ (.int .i64 kd)).setCell ⟨w2.heap.size, 1, none⟩ (.string tx)).setCell ⟨w2.heap.size, 2, none⟩ (.bool em)).setCell ⟨w2.heap.size, 3, none⟩ (.bool bk)) = W at *
    have q2 : IntKind.i64.wrap ((bg.size : Int) + (m : Int)) = (bg.size : Int) + (m : Int) := IntWalk.i64_in _ (by omega)
    clear HB3 hb3 k2 k2a k2d k2b k0 k0a k3 k30 hz hz2 hz3
    go_wp2_with fail
    go_region
    all_goals
      go_wp2_with fail
      exact bodyPost_ret (v := .tuple #[.agg #[.int .i64 kd, .string tx, .bool em, .bool bk], .int .i64 ((bg.size : Int) + (m : Int)), .int .i64 er]) (by simp [results, Tryz.results48, go_sem, c0, c1, c2, c3, hzW]) rfl ⟨rfl, (below_set4 HBW.out (by omega) _ _ _ _).drew⟩
end Go.Proofs.YtkeilgompipfjaaGreatDoor
