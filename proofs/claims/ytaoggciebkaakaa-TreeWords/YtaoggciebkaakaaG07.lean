/-
  Merged by program out of the texts TpAdd, TpNuM, TpNu of one seat.
-/
import Derived.Test.YtaoggciebkaakaaG06
import Derived.Test.YtaoggciebkaakaaG04
import Derived.Test.YtaoggciebkaakaaG05
import Derived.Deep.Cut

/- tree.Plan.add. -/
set_option linter.unusedSimpArgs false
set_option linter.unusedVariables false
namespace Go.Proofs.Ytaoggciebkaakaa.Ev
open Go.RowKit

theorem Try.underlying41 : Try.prog.underlying 41 = some (.slice 3) := by kernel_rfl
theorem int_one (x : Int) : ∀ u ∈ [Value.int .i64 x], u.oneCell' = true := by
  intro u hu
  rw [List.mem_singleton.1 hu]
  rfl
/-- The last element of a row that has just grown is stored anew. -/
theorem row_six {W w2 : World} {B g n cap : Nat} {v4 : Value} {xs : List Value} {z0 z1 z2 z3 z4 z5 : Value} (x0 x1 x2 x3 x4 x5 : Value) (n1 : w2.ownsRow B 30 6 (.slice (some ⟨g, 0, none⟩) (n + 1) cap) (n + 1) (xs ++ [z0, z1, z2, z3, z4, z5])) (n2 : W.grownBy w2 v4.ownBlock) (n3 : v4.ownBlock = some g ∨ g = W.heap.size) (n4 : g < w2.heap.size) (hx : xs.length = n * 6) :
    ((((((w2.setCell ⟨g, n * 6, none⟩ x0).setCell ⟨g, n * 6 + 1, none⟩ x1).setCell ⟨g, n * 6 + 2, none⟩ x2).setCell ⟨g, n * 6 + 3, none⟩ x3).setCell ⟨g, n * 6 + 4, none⟩ x4).setCell ⟨g, n * 6 + 5, none⟩ x5).ownsRow B 30 6 (.slice (some ⟨g, 0, none⟩) (n + 1) cap) (n + 1) (xs ++ [x0, x1, x2, x3, x4, x5]) ∧
    W.grownBy ((((((w2.setCell ⟨g, n * 6, none⟩ x0).setCell ⟨g, n * 6 + 1, none⟩ x1).setCell ⟨g, n * 6 + 2, none⟩ x2).setCell ⟨g, n * 6 + 3, none⟩ x3).setCell ⟨g, n * 6 + 4, none⟩ x4).setCell ⟨g, n * 6 + 5, none⟩ x5) v4.ownBlock ∧ w2.grownBy ((((((w2.setCell ⟨g, n * 6, none⟩ x0).setCell ⟨g, n * 6 + 1, none⟩ x1).setCell ⟨g, n * 6 + 2, none⟩ x2).setCell ⟨g, n * 6 + 3, none⟩ x3).setCell ⟨g, n * 6 + 4, none⟩ x4).setCell ⟨g, n * 6 + 5, none⟩ x5) (some g) := by
  obtain ⟨a0, b0⟩ := World.ownsRow.stored (w := w2) n1 (n * 6) x0
  obtain ⟨a1, b1⟩ := World.ownsRow.stored a0 (n * 6 + 1) x1
  obtain ⟨a2, b2⟩ := World.ownsRow.stored a1 (n * 6 + 2) x2
  obtain ⟨a3, b3⟩ := World.ownsRow.stored a2 (n * 6 + 3) x3
  obtain ⟨a4, b4⟩ := World.ownsRow.stored a3 (n * 6 + 4) x4
  obtain ⟨a5, b5⟩ := World.ownsRow.stored a4 (n * 6 + 5) x5
  have hl : ((((((xs ++ [z0, z1, z2, z3, z4, z5]).set (n * 6) x0).set (n * 6 + 1) x1).set (n * 6 + 2) x2).set (n * 6 + 3) x3).set (n * 6 + 4) x4).set (n * 6 + 5) x5 = xs ++ [x0, x1, x2, x3, x4, x5] := by
    rw [← hx]
    simp [List.set_append_right]
  rw [hl] at a5
  have bg := ((((b0.trans b1).trans b2).trans b3).trans b4).trans b5
  refine ⟨a5, ⟨bg.os.trans n2.os, bg.tape.trans n2.tape, bg.output.trans n2.output, Nat.le_trans n2.size bg.size, fun k hk hne => ?_⟩, bg⟩
  refine (bg.block k (Nat.lt_of_lt_of_le hk n2.size) (fun e => ?_)).trans (n2.block k hk hne)
  injection e with e
  rcases n3 with n3 | n3
  · exact hne (by rw [n3, e])
  · omega
theorem setCell_comm (w : World) (a b : Addr) (x y : Value) (h : a.block ≠ b.block) : (w.setCell a x).setCell b y = (w.setCell b y).setCell a x := by
  unfold World.setCell
  simp only [World.mk.injEq, true_and, and_true]
  apply Array.ext_getElem?
  intro k
  simp only [Array.getElem?_modify]
  by_cases h1 : a.block = k
  · by_cases h2 : b.block = k
    · exact absurd (h1.trans h2.symm) h
    · simp [h1, h2]
  · by_cases h2 : b.block = k
    · simp [h1, h2]
    · simp [h1, h2]
theorem six_comm (w : World) (p : Addr) (x : Value) (g n : Nat) (a0 a1 a2 a3 a4 a5 : Value) (h : p.block ≠ g) : ((((((w.setCell p x).setCell ⟨g, n * 6, none⟩ a0).setCell ⟨g, n * 6 + 1, none⟩ a1).setCell ⟨g, n * 6 + 2, none⟩ a2).setCell ⟨g, n * 6 + 3, none⟩ a3).setCell ⟨g, n * 6 + 4, none⟩ a4).setCell ⟨g, n * 6 + 5, none⟩ a5 = ((((((w.setCell ⟨g, n * 6, none⟩ a0).setCell ⟨g, n * 6 + 1, none⟩ a1).setCell ⟨g, n * 6 + 2, none⟩ a2).setCell ⟨g, n * 6 + 3, none⟩ a3).setCell ⟨g, n * 6 + 4, none⟩ a4).setCell ⟨g, n * 6 + 5, none⟩ a5).setCell p x := by
  rw [setCell_comm w p ⟨g, n * 6, none⟩ x a0 h, setCell_comm _ p ⟨g, n * 6 + 1, none⟩ x a1 h, setCell_comm _ p ⟨g, n * 6 + 2, none⟩ x a2 h, setCell_comm _ p ⟨g, n * 6 + 3, none⟩ x a3 h, setCell_comm _ p ⟨g, n * 6 + 4, none⟩ x a4 h, setCell_comm _ p ⟨g, n * 6 + 5, none⟩ x a5 h]
def AddPost (B pb nb : Nat) (L : Nat → List Int) (f : Fo) (par : Int) (u : Bool) (ux us ul : ByteArray) (ua : List P3) (uk : Fo) (cb : Nat) (ob : Obj) (W : World) (e : Ending) (w' : World) : Prop := ∃ v v4 L', e = .returned (.int .i64 (f.len : Int)) ∧ PlS B pb nb v v4 L' (f.app (.cons u ux us ul ua uk .nil)) w' ∧ (L' 0 = L 0 ++ [par] ∧ L' 1 = L 1 ++ [-1] ∧ L' 2 = L 2 ++ [-1] ∧ L' 3 = L 3 ++ [1]) ∧ Below B W w' ∧ w'.heap[cb]? = some ob
set_option maxHeartbeats 8000000 in
set_option maxRecDepth 100000 in
theorem add_any (B pb nb : Nat) (v : Nat → Value) (v4 : Value) (L : Nat → List Int) (f : Fo) (par : Int) (u : Bool) (ux us ul : ByteArray) (ua : List P3) (uk : Fo) (u1 : Option Addr) (u2 u3 : Nat) (u4 : Option Addr) (u5 u6 : Nat) (w : World) (h : PlS B pb nb v v4 L f w) (hL : ∀ i, i < 4 → (L i).length ≤ 100000) (hf : f.len ≤ 100000) (hT : Tr1 (· < B) w ux us ul ua uk u1 u2 u3 u4 u5 u6) (cb : Nat) (ob : Obj) (hcb : w.heap[cb]? = some ob) (hcp : cb ≠ pb) (hcr : ∀ i, i < 4 → (v i).ownBlock ≠ some cb) (hc4 : v4.ownBlock ≠ some cb) :
    Calls Try.prog 34 #[.pointer (some ⟨pb, 0, none⟩), .agg #[.bool u, .string ux, .string us, .string ul, .slice u1 u2 u3, .slice u4 u5 u6], .int .i64 par] w (AddPost B pb nb L f par u ux us ul ua uk cb ob w) := by
  obtain ⟨i3, hi, hz0, hz1, hz2⟩ := info_parts Try.info3
  obtain ⟨i30, hj, hy0, hy1, hy2⟩ := info_parts Try.info30
  have B0 := (Below.refl w.heap.size w).alloc (Nat.le_refl _) (.cells #[.bool u, .string ux, .string us, .string ul, .slice u1 u2 u3, .slice u4 u5 u6] 30)
  have P0 := Lib.hid (h.keep B0)
  have BB0 : Hid (Below B w (w.alloc (.cells #[.bool u, .string ux, .string us, .string ul, .slice u1 u2 u3, .slice u4 u5 u6] 30))) := Lib.hid (B0.mono h.lt)
  have X0 : Hid ((w.alloc (.cells #[.bool u, .string ux, .string us, .string ul, .slice u1 u2 u3, .slice u4 u5 u6] 30)).heap[w.heap.size]? = some (.cells #[.bool u, .string ux, .string us, .string ul, .slice u1 u2 u3, .slice u4 u5 u6] 30 (0, 0))) := Lib.hid (nblk w 30 _)
  have hB0 := h.lt
  have HTT0 := Lib.hid (hT.keepB (B0.mono h.lt))
  have hpbl : pb < w.heap.size := (Array.getElem?_eq_some_iff.1 h.box).1
  have HX : Hid (pb ≠ w.heap.size) := Lib.hid (by omega)
  have HL0 : Hid ((L 0).length ≤ 100000 ∧ (L 1).length ≤ 100000 ∧ (L 2).length ≤ 100000 ∧ (L 3).length ≤ 100000) := Lib.hid ⟨hL 0 (by decide), hL 1 (by decide), hL 2 (by decide), hL 3 (by decide)⟩
  -- the box that t lies in is none of the plan's rows
  have HRR0 : Hid (∀ i, i < 4 → (v i).ownBlock ≠ some w.heap.size) := Lib.hid fun i hi e => by have := (World.ownsRow.lt (h.own i hi) _ e).2; omega
  have HR4 : Hid (v4.ownBlock ≠ some w.heap.size) := Lib.hid fun e => by
    obtain ⟨vs, q, _⟩ := h.tr
    have := (World.ownsRow.lt q _ e).2
    omega
  have Y0 := Lib.hid ((B0.block cb (Array.getElem?_eq_some_iff.1 hcb).1).trans hcb)
  have HCP := Lib.hid hcp
  have HCR0 := Lib.hid hcr
  have HC4 := Lib.hid hc4
  clear h hL B0 hpbl hT hcb hcp hcr hc4
  go_enter Try.func34, Try.ntmps34
  go_upto_region 1 with fail
  generalize w.alloc (.cells #[.bool u, .string ux, .string us, .string ul, .slice u1 u2 u3, .slice u4 u5 u6] 30) = W0 at *
  generalize w.heap.size = tb at *
  -- region 1
  have hlt0 : tb < W0.heap.size := (Array.getElem?_eq_some_iff.1 X0.out).1
  obtain ⟨A0, c0, e0⟩ := own_slice (P0.out.own 0 (by decide))
  have C0 : W0.cell? ⟨pb, 0, none⟩ = some (v 0) := cells_of P0.out.box 0 rfl
  rw [e0] at C0
  have He0 := Lib.hid e0
  clear e0
  have hn0 : (L 0).length ≤ 100000 := by have := HL0.out; omega
  have BA0 := Lib.hid ((Below.refl W0.heap.size W0).alloc (Nat.le_refl _) (.cells #[.int .i64 par] 3))
  have PA0 := Lib.hid (P0.out.keep BA0.out)
  have O0 : Hid ((W0.alloc (.cells #[.int .i64 par] 3)).ownsRow B 3 1 (.slice A0 (L 0).length c0) (L 0).length ((L 0).map (Value.int .i64))) := Lib.hid (by rw [← He0.out]; exact PA0.out.own 0 (by decide))
  have N0 := Lib.hid (lit_cells W0 #[.int .i64 par] 3)
  have hb0 : B ≤ (W0.alloc (.cells #[.int .i64 par] 3)).heap.size := PA0.out.lt
  generalize hm0 : (L 0).length = m0 at *
  have Hm0 := Lib.hid hm0
  clear hm0
  go_wp2_with (at_builtin; refine wpList_append_lies (w := W0.alloc (.cells #[.int .i64 par] 3)) rfl _ _ 41 rfl B 3 i3 (.int .i64 0) 1 8 Try.underlying41 hi hz0 hz1 hz2 rfl (by decide) (.slice A0 m0 c0) m0 ((L 0).map (Value.int .i64)) rfl O0.out ⟨W0.heap.size, 0, none⟩ 1 1 [.int .i64 par] rfl rfl N0.out (int_one _) (by decide) (by unfold maxLen; omega) (by omega) hb0 _ rfl ?_)
  intro g0 k0 w0 n1 n2 n3 n4
  have P1' := PA0.out.push (by decide) Hm0.out n1 (by rw [He0.out]; exact n2) (by rw [He0.out]; exact n3.imp id fun h => h.trans (World.size_alloc _ _).symm) n4
  have hbx := (n2.block pb (Array.getElem?_eq_some_iff.1 PA0.out.box).1 (own_box O0.out PA0.out.box (by decide))).trans PA0.out.box
  have xe : w0.cell? ⟨pb, 0, none⟩ = some (v 0) := cells_of hbx 0 rfl
  have xf := frz_of hbx 0
  have G2 := grown_setCell w0 ⟨pb, 0, none⟩ (.slice (some ⟨g0, 0, none⟩) (m0 + 1) k0)
  have hr0 : ∀ g, (Value.slice A0 m0 c0).ownBlock = some g → B ≤ g := fun g hg => (World.ownsRow.lt O0.out g hg).1
  have BB1' := (((BB0.out.trans (BA0.out.mono P0.out.lt)).grown n2 hb0 hr0).grown G2 (Nat.le_trans hb0 n2.size) (fun g hg => by have hg : some pb = some g := hg; injection hg with hg; have := P0.out.lo.1; omega))
  have X1' := (G2.block tb (Nat.lt_of_lt_of_le (Nat.lt_of_lt_of_le hlt0 BA0.out.size) n2.size) (fun e => by injection e with e; exact HX.out e.symm)).trans ((n2.block tb (Nat.lt_of_lt_of_le hlt0 BA0.out.size) (fun e => HRR0.out 0 (by decide) (by rw [He0.out]; exact e.symm))).trans ((BA0.out.block _ hlt0).trans X0.out))
  have hly0 : cb < W0.heap.size := (Array.getElem?_eq_some_iff.1 Y0.out).1
  have Y1' := (G2.block cb (Nat.lt_of_lt_of_le (Nat.lt_of_lt_of_le hly0 BA0.out.size) n2.size) (fun e => by injection e with e; exact HCP.out e)).trans ((n2.block cb (Nat.lt_of_lt_of_le hly0 BA0.out.size) (fun e => HCR0.out 0 (by decide) (by rw [He0.out]; exact e.symm))).trans ((BA0.out.block _ hly0).trans Y0.out))
  have HCR1' : ∀ i, i < 4 → (upd v 0 (.slice (some ⟨g0, 0, none⟩) (m0 + 1) k0) i).ownBlock ≠ some cb := fun i hi => by
    by_cases q : i = 0
    · subst q
      rw [upd_same]
      intro e
      have e : some g0 = some cb := e
      injection e with e
      rcases n3 with n3 | n3
      · exact HCR0.out 0 (by decide) (by rw [He0.out, n3, e])
      · have h1 := BA0.out.size
        rw [World.size_alloc] at h1
        omega
    · rw [upd_ne _ _ q]
      exact HCR0.out i hi
  have HT1' := ((HTT0.out.keepB (BA0.out.mono P0.out.lt)).grown n2 (fun b hb e => by have := hr0 b e.symm; omega)).grown G2 (fun b hb e => by have e : some b = some pb := e; injection e with e; have := P0.out.lo.1; omega)
  have HRR1' : ∀ i, i < 4 → (upd v 0 (.slice (some ⟨g0, 0, none⟩) (m0 + 1) k0) i).ownBlock ≠ some tb := fun i hi => by
    by_cases q : i = 0
    · subst q
      rw [upd_same]
      intro e
      have e : some g0 = some tb := e
      injection e with e
      rcases n3 with n3 | n3
      · exact HRR0.out 0 (by decide) (by rw [He0.out, n3, e])
      · have h1 := BA0.out.size
        rw [World.size_alloc] at h1
        omega
    · rw [upd_ne _ _ q]
      exact HRR0.out i hi
  go_upto_region 2 with fail
  have P1 := Lib.hid P1'
  have BB1 := Lib.hid BB1'
  have X1 := Lib.hid X1'
  have HTT1 := Lib.hid HT1'
  have HRR1 := Lib.hid HRR1'
  have Y1 := Lib.hid Y1'
  have HCR1 := Lib.hid HCR1'
  have HU1 : Hid (∀ k, k ≠ 0 → upd L 0 (L 0 ++ [par]) k = L k) := Lib.hid fun k hk => upd_ne _ _ hk
  have HV1 : Hid (upd L 0 (L 0 ++ [par]) 0 = L 0 ++ [par]) := Lib.hid (upd_same _ _ _)
  clear Y1' HCR1' P1' BB1' X1' HT1' HRR1' n1 n2 n3 n4 hbx xe xf G2 hr0 C0 O0 N0 hb0 PA0 BA0 hn0
  generalize w0.setCell ⟨pb, 0, none⟩ (.slice (some ⟨g0, 0, none⟩) (m0 + 1) k0) = W1 at *
  generalize upd v 0 (.slice (some ⟨g0, 0, none⟩) (m0 + 1) k0) = vv1 at *
  generalize upd L 0 (L 0 ++ [par]) = LL1 at *
  have HL1 : Hid ((LL1 1).length ≤ 100000 ∧ (LL1 2).length ≤ 100000 ∧ (LL1 3).length ≤ 100000) := Lib.hid ⟨by rw [HU1.out 1 (by decide)]; have := HL0.out; omega, by rw [HU1.out 2 (by decide)]; have := HL0.out; omega, by rw [HU1.out 3 (by decide)]; have := HL0.out; omega⟩
  -- region 2
  have hlt1 : tb < W1.heap.size := (Array.getElem?_eq_some_iff.1 X1.out).1
  obtain ⟨A1, c1, e1⟩ := own_slice (P1.out.own 1 (by decide))
  have C1 : W1.cell? ⟨pb, 1, none⟩ = some (vv1 1) := cells_of P1.out.box 1 rfl
  rw [e1] at C1
  have He1 := Lib.hid e1
  clear e1
  have hn1 : (LL1 1).length ≤ 100000 := by have := HL1.out; omega
  have BA1 := Lib.hid ((Below.refl W1.heap.size W1).alloc (Nat.le_refl _) (.cells #[.int .i64 (-1)] 3))
  have PA1 := Lib.hid (P1.out.keep BA1.out)
  have O1 : Hid ((W1.alloc (.cells #[.int .i64 (-1)] 3)).ownsRow B 3 1 (.slice A1 (LL1 1).length c1) (LL1 1).length ((LL1 1).map (Value.int .i64))) := Lib.hid (by rw [← He1.out]; exact PA1.out.own 1 (by decide))
  have N1 := Lib.hid (lit_cells W1 #[.int .i64 (-1)] 3)
  have hb1 : B ≤ (W1.alloc (.cells #[.int .i64 (-1)] 3)).heap.size := PA1.out.lt
  generalize hm1 : (LL1 1).length = m1 at *
  have Hm1 := Lib.hid hm1
  clear hm1
  go_wp2_with (at_builtin; refine wpList_append_lies (w := W1.alloc (.cells #[.int .i64 (-1)] 3)) rfl _ _ 41 rfl B 3 i3 (.int .i64 0) 1 8 Try.underlying41 hi hz0 hz1 hz2 rfl (by decide) (.slice A1 m1 c1) m1 ((LL1 1).map (Value.int .i64)) rfl O1.out ⟨W1.heap.size, 0, none⟩ 1 1 [.int .i64 (-1)] rfl rfl N1.out (int_one _) (by decide) (by unfold maxLen; omega) (by omega) hb1 _ rfl ?_)
  intro g1 k1 w1 n1 n2 n3 n4
  have P2' := PA1.out.push (by decide) Hm1.out n1 (by rw [He1.out]; exact n2) (by rw [He1.out]; exact n3.imp id fun h => h.trans (World.size_alloc _ _).symm) n4
  have hbx := (n2.block pb (Array.getElem?_eq_some_iff.1 PA1.out.box).1 (own_box O1.out PA1.out.box (by decide))).trans PA1.out.box
  have xe : w1.cell? ⟨pb, 1, none⟩ = some (vv1 1) := cells_of hbx 1 rfl
  have xf := frz_of hbx 1
  have G2 := grown_setCell w1 ⟨pb, 1, none⟩ (.slice (some ⟨g1, 0, none⟩) (m1 + 1) k1)
  have hr1 : ∀ g, (Value.slice A1 m1 c1).ownBlock = some g → B ≤ g := fun g hg => (World.ownsRow.lt O1.out g hg).1
  have BB2' := (((BB1.out.trans (BA1.out.mono P1.out.lt)).grown n2 hb1 hr1).grown G2 (Nat.le_trans hb1 n2.size) (fun g hg => by have hg : some pb = some g := hg; injection hg with hg; have := P1.out.lo.1; omega))
  have X2' := (G2.block tb (Nat.lt_of_lt_of_le (Nat.lt_of_lt_of_le hlt1 BA1.out.size) n2.size) (fun e => by injection e with e; exact HX.out e.symm)).trans ((n2.block tb (Nat.lt_of_lt_of_le hlt1 BA1.out.size) (fun e => HRR1.out 1 (by decide) (by rw [He1.out]; exact e.symm))).trans ((BA1.out.block _ hlt1).trans X1.out))
  have hly1 : cb < W1.heap.size := (Array.getElem?_eq_some_iff.1 Y1.out).1
  have Y2' := (G2.block cb (Nat.lt_of_lt_of_le (Nat.lt_of_lt_of_le hly1 BA1.out.size) n2.size) (fun e => by injection e with e; exact HCP.out e)).trans ((n2.block cb (Nat.lt_of_lt_of_le hly1 BA1.out.size) (fun e => HCR1.out 1 (by decide) (by rw [He1.out]; exact e.symm))).trans ((BA1.out.block _ hly1).trans Y1.out))
  have HCR2' : ∀ i, i < 4 → (upd vv1 1 (.slice (some ⟨g1, 0, none⟩) (m1 + 1) k1) i).ownBlock ≠ some cb := fun i hi => by
    by_cases q : i = 1
    · subst q
      rw [upd_same]
      intro e
      have e : some g1 = some cb := e
      injection e with e
      rcases n3 with n3 | n3
      · exact HCR1.out 1 (by decide) (by rw [He1.out, n3, e])
      · have h1 := BA1.out.size
        rw [World.size_alloc] at h1
        omega
    · rw [upd_ne _ _ q]
      exact HCR1.out i hi
  have HT2' := ((HTT1.out.keepB (BA1.out.mono P1.out.lt)).grown n2 (fun b hb e => by have := hr1 b e.symm; omega)).grown G2 (fun b hb e => by have e : some b = some pb := e; injection e with e; have := P1.out.lo.1; omega)
  have HRR2' : ∀ i, i < 4 → (upd vv1 1 (.slice (some ⟨g1, 0, none⟩) (m1 + 1) k1) i).ownBlock ≠ some tb := fun i hi => by
    by_cases q : i = 1
    · subst q
      rw [upd_same]
      intro e
      have e : some g1 = some tb := e
      injection e with e
      rcases n3 with n3 | n3
      · exact HRR1.out 1 (by decide) (by rw [He1.out, n3, e])
      · have h1 := BA1.out.size
        rw [World.size_alloc] at h1
        omega
    · rw [upd_ne _ _ q]
      exact HRR1.out i hi
  go_upto_region 3 with fail
  have P2 := Lib.hid P2'
  have BB2 := Lib.hid BB2'
  have X2 := Lib.hid X2'
  have HTT2 := Lib.hid HT2'
  have HRR2 := Lib.hid HRR2'
  have Y2 := Lib.hid Y2'
  have HCR2 := Lib.hid HCR2'
  have HU2 : Hid (∀ k, k ≠ 1 → upd LL1 1 (LL1 1 ++ [(-1)]) k = LL1 k) := Lib.hid fun k hk => upd_ne _ _ hk
  have HV2 : Hid (upd LL1 1 (LL1 1 ++ [(-1)]) 1 = LL1 1 ++ [(-1)]) := Lib.hid (upd_same _ _ _)
  clear Y2' HCR2' P2' BB2' X2' HT2' HRR2' n1 n2 n3 n4 hbx xe xf G2 hr1 C1 O1 N1 hb1 PA1 BA1 hn1
  generalize w1.setCell ⟨pb, 1, none⟩ (.slice (some ⟨g1, 0, none⟩) (m1 + 1) k1) = W2 at *
  generalize upd vv1 1 (.slice (some ⟨g1, 0, none⟩) (m1 + 1) k1) = vv2 at *
  generalize upd LL1 1 (LL1 1 ++ [(-1)]) = LL2 at *
  have HL2 : Hid ((LL2 2).length ≤ 100000 ∧ (LL2 3).length ≤ 100000) := Lib.hid ⟨by rw [HU2.out 2 (by decide)]; have := HL1.out; omega, by rw [HU2.out 3 (by decide)]; have := HL1.out; omega⟩
  -- region 3
  have hlt2 : tb < W2.heap.size := (Array.getElem?_eq_some_iff.1 X2.out).1
  obtain ⟨A2, c2, e2⟩ := own_slice (P2.out.own 2 (by decide))
  have C2 : W2.cell? ⟨pb, 2, none⟩ = some (vv2 2) := cells_of P2.out.box 2 rfl
  rw [e2] at C2
  have He2 := Lib.hid e2
  clear e2
  have hn2 : (LL2 2).length ≤ 100000 := by have := HL2.out; omega
  have BA2 := Lib.hid ((Below.refl W2.heap.size W2).alloc (Nat.le_refl _) (.cells #[.int .i64 (-1)] 3))
  have PA2 := Lib.hid (P2.out.keep BA2.out)
  have O2 : Hid ((W2.alloc (.cells #[.int .i64 (-1)] 3)).ownsRow B 3 1 (.slice A2 (LL2 2).length c2) (LL2 2).length ((LL2 2).map (Value.int .i64))) := Lib.hid (by rw [← He2.out]; exact PA2.out.own 2 (by decide))
  have N2 := Lib.hid (lit_cells W2 #[.int .i64 (-1)] 3)
  have hb2 : B ≤ (W2.alloc (.cells #[.int .i64 (-1)] 3)).heap.size := PA2.out.lt
  generalize hm2 : (LL2 2).length = m2 at *
  have Hm2 := Lib.hid hm2
  clear hm2
  go_wp2_with (at_builtin; refine wpList_append_lies (w := W2.alloc (.cells #[.int .i64 (-1)] 3)) rfl _ _ 41 rfl B 3 i3 (.int .i64 0) 1 8 Try.underlying41 hi hz0 hz1 hz2 rfl (by decide) (.slice A2 m2 c2) m2 ((LL2 2).map (Value.int .i64)) rfl O2.out ⟨W2.heap.size, 0, none⟩ 1 1 [.int .i64 (-1)] rfl rfl N2.out (int_one _) (by decide) (by unfold maxLen; omega) (by omega) hb2 _ rfl ?_)
  intro g2 k2 w2 n1 n2 n3 n4
  have P3' := PA2.out.push (by decide) Hm2.out n1 (by rw [He2.out]; exact n2) (by rw [He2.out]; exact n3.imp id fun h => h.trans (World.size_alloc _ _).symm) n4
  have hbx := (n2.block pb (Array.getElem?_eq_some_iff.1 PA2.out.box).1 (own_box O2.out PA2.out.box (by decide))).trans PA2.out.box
  have xe : w2.cell? ⟨pb, 2, none⟩ = some (vv2 2) := cells_of hbx 2 rfl
  have xf := frz_of hbx 2
  have G2 := grown_setCell w2 ⟨pb, 2, none⟩ (.slice (some ⟨g2, 0, none⟩) (m2 + 1) k2)
  have hr2 : ∀ g, (Value.slice A2 m2 c2).ownBlock = some g → B ≤ g := fun g hg => (World.ownsRow.lt O2.out g hg).1
  have BB3' := (((BB2.out.trans (BA2.out.mono P2.out.lt)).grown n2 hb2 hr2).grown G2 (Nat.le_trans hb2 n2.size) (fun g hg => by have hg : some pb = some g := hg; injection hg with hg; have := P2.out.lo.1; omega))
  have X3' := (G2.block tb (Nat.lt_of_lt_of_le (Nat.lt_of_lt_of_le hlt2 BA2.out.size) n2.size) (fun e => by injection e with e; exact HX.out e.symm)).trans ((n2.block tb (Nat.lt_of_lt_of_le hlt2 BA2.out.size) (fun e => HRR2.out 2 (by decide) (by rw [He2.out]; exact e.symm))).trans ((BA2.out.block _ hlt2).trans X2.out))
  have hly2 : cb < W2.heap.size := (Array.getElem?_eq_some_iff.1 Y2.out).1
  have Y3' := (G2.block cb (Nat.lt_of_lt_of_le (Nat.lt_of_lt_of_le hly2 BA2.out.size) n2.size) (fun e => by injection e with e; exact HCP.out e)).trans ((n2.block cb (Nat.lt_of_lt_of_le hly2 BA2.out.size) (fun e => HCR2.out 2 (by decide) (by rw [He2.out]; exact e.symm))).trans ((BA2.out.block _ hly2).trans Y2.out))
  have HCR3' : ∀ i, i < 4 → (upd vv2 2 (.slice (some ⟨g2, 0, none⟩) (m2 + 1) k2) i).ownBlock ≠ some cb := fun i hi => by
    by_cases q : i = 2
    · subst q
      rw [upd_same]
      intro e
      have e : some g2 = some cb := e
      injection e with e
      rcases n3 with n3 | n3
      · exact HCR2.out 2 (by decide) (by rw [He2.out, n3, e])
      · have h1 := BA2.out.size
        rw [World.size_alloc] at h1
        omega
    · rw [upd_ne _ _ q]
      exact HCR2.out i hi
  have HT3' := ((HTT2.out.keepB (BA2.out.mono P2.out.lt)).grown n2 (fun b hb e => by have := hr2 b e.symm; omega)).grown G2 (fun b hb e => by have e : some b = some pb := e; injection e with e; have := P2.out.lo.1; omega)
  have HRR3' : ∀ i, i < 4 → (upd vv2 2 (.slice (some ⟨g2, 0, none⟩) (m2 + 1) k2) i).ownBlock ≠ some tb := fun i hi => by
    by_cases q : i = 2
    · subst q
      rw [upd_same]
      intro e
      have e : some g2 = some tb := e
      injection e with e
      rcases n3 with n3 | n3
      · exact HRR2.out 2 (by decide) (by rw [He2.out, n3, e])
      · have h1 := BA2.out.size
        rw [World.size_alloc] at h1
        omega
    · rw [upd_ne _ _ q]
      exact HRR2.out i hi
  go_upto_region 4 with fail
  have P3 := Lib.hid P3'
  have BB3 := Lib.hid BB3'
  have X3 := Lib.hid X3'
  have HTT3 := Lib.hid HT3'
  have HRR3 := Lib.hid HRR3'
  have Y3 := Lib.hid Y3'
  have HCR3 := Lib.hid HCR3'
  have HU3 : Hid (∀ k, k ≠ 2 → upd LL2 2 (LL2 2 ++ [(-1)]) k = LL2 k) := Lib.hid fun k hk => upd_ne _ _ hk
  have HV3 : Hid (upd LL2 2 (LL2 2 ++ [(-1)]) 2 = LL2 2 ++ [(-1)]) := Lib.hid (upd_same _ _ _)
  clear Y3' HCR3' P3' BB3' X3' HT3' HRR3' n1 n2 n3 n4 hbx xe xf G2 hr2 C2 O2 N2 hb2 PA2 BA2 hn2
  generalize w2.setCell ⟨pb, 2, none⟩ (.slice (some ⟨g2, 0, none⟩) (m2 + 1) k2) = W3 at *
  generalize upd vv2 2 (.slice (some ⟨g2, 0, none⟩) (m2 + 1) k2) = vv3 at *
  generalize upd LL2 2 (LL2 2 ++ [(-1)]) = LL3 at *
  have HL3 : Hid ((LL3 3).length ≤ 100000) := Lib.hid (by rw [HU3.out 3 (by decide)]; have := HL2.out; omega)
  -- region 4
  have hlt3 : tb < W3.heap.size := (Array.getElem?_eq_some_iff.1 X3.out).1
  obtain ⟨A3, c3, e3⟩ := own_slice (P3.out.own 3 (by decide))
  have C3 : W3.cell? ⟨pb, 3, none⟩ = some (vv3 3) := cells_of P3.out.box 3 rfl
  rw [e3] at C3
  have He3 := Lib.hid e3
  clear e3
  have hn3 : (LL3 3).length ≤ 100000 := by have := HL3.out; omega
  have BA3 := Lib.hid ((Below.refl W3.heap.size W3).alloc (Nat.le_refl _) (.cells #[.int .i64 1] 3))
  have PA3 := Lib.hid (P3.out.keep BA3.out)
  have O3 : Hid ((W3.alloc (.cells #[.int .i64 1] 3)).ownsRow B 3 1 (.slice A3 (LL3 3).length c3) (LL3 3).length ((LL3 3).map (Value.int .i64))) := Lib.hid (by rw [← He3.out]; exact PA3.out.own 3 (by decide))
  have N3 := Lib.hid (lit_cells W3 #[.int .i64 1] 3)
  have hb3 : B ≤ (W3.alloc (.cells #[.int .i64 1] 3)).heap.size := PA3.out.lt
  generalize hm3 : (LL3 3).length = m3 at *
  have Hm3 := Lib.hid hm3
  clear hm3
  go_wp2_with (at_builtin; refine wpList_append_lies (w := W3.alloc (.cells #[.int .i64 1] 3)) rfl _ _ 41 rfl B 3 i3 (.int .i64 0) 1 8 Try.underlying41 hi hz0 hz1 hz2 rfl (by decide) (.slice A3 m3 c3) m3 ((LL3 3).map (Value.int .i64)) rfl O3.out ⟨W3.heap.size, 0, none⟩ 1 1 [.int .i64 1] rfl rfl N3.out (int_one _) (by decide) (by unfold maxLen; omega) (by omega) hb3 _ rfl ?_)
  intro g3 k3 w3 n1 n2 n3 n4
  have P4' := PA3.out.push (by decide) Hm3.out n1 (by rw [He3.out]; exact n2) (by rw [He3.out]; exact n3.imp id fun h => h.trans (World.size_alloc _ _).symm) n4
  have hbx := (n2.block pb (Array.getElem?_eq_some_iff.1 PA3.out.box).1 (own_box O3.out PA3.out.box (by decide))).trans PA3.out.box
  have xe : w3.cell? ⟨pb, 3, none⟩ = some (vv3 3) := cells_of hbx 3 rfl
  have xf := frz_of hbx 3
  have G2 := grown_setCell w3 ⟨pb, 3, none⟩ (.slice (some ⟨g3, 0, none⟩) (m3 + 1) k3)
  have hr3 : ∀ g, (Value.slice A3 m3 c3).ownBlock = some g → B ≤ g := fun g hg => (World.ownsRow.lt O3.out g hg).1
  have BB4' := (((BB3.out.trans (BA3.out.mono P3.out.lt)).grown n2 hb3 hr3).grown G2 (Nat.le_trans hb3 n2.size) (fun g hg => by have hg : some pb = some g := hg; injection hg with hg; have := P3.out.lo.1; omega))
  have X4' := (G2.block tb (Nat.lt_of_lt_of_le (Nat.lt_of_lt_of_le hlt3 BA3.out.size) n2.size) (fun e => by injection e with e; exact HX.out e.symm)).trans ((n2.block tb (Nat.lt_of_lt_of_le hlt3 BA3.out.size) (fun e => HRR3.out 3 (by decide) (by rw [He3.out]; exact e.symm))).trans ((BA3.out.block _ hlt3).trans X3.out))
  have hly3 : cb < W3.heap.size := (Array.getElem?_eq_some_iff.1 Y3.out).1
  have Y4' := (G2.block cb (Nat.lt_of_lt_of_le (Nat.lt_of_lt_of_le hly3 BA3.out.size) n2.size) (fun e => by injection e with e; exact HCP.out e)).trans ((n2.block cb (Nat.lt_of_lt_of_le hly3 BA3.out.size) (fun e => HCR3.out 3 (by decide) (by rw [He3.out]; exact e.symm))).trans ((BA3.out.block _ hly3).trans Y3.out))
  have HCR4' : ∀ i, i < 4 → (upd vv3 3 (.slice (some ⟨g3, 0, none⟩) (m3 + 1) k3) i).ownBlock ≠ some cb := fun i hi => by
    by_cases q : i = 3
    · subst q
      rw [upd_same]
      intro e
      have e : some g3 = some cb := e
      injection e with e
      rcases n3 with n3 | n3
      · exact HCR3.out 3 (by decide) (by rw [He3.out, n3, e])
      · have h1 := BA3.out.size
        rw [World.size_alloc] at h1
        omega
    · rw [upd_ne _ _ q]
      exact HCR3.out i hi
  have HT4' := ((HTT3.out.keepB (BA3.out.mono P3.out.lt)).grown n2 (fun b hb e => by have := hr3 b e.symm; omega)).grown G2 (fun b hb e => by have e : some b = some pb := e; injection e with e; have := P3.out.lo.1; omega)
  have HRR4' : ∀ i, i < 4 → (upd vv3 3 (.slice (some ⟨g3, 0, none⟩) (m3 + 1) k3) i).ownBlock ≠ some tb := fun i hi => by
    by_cases q : i = 3
    · subst q
      rw [upd_same]
      intro e
      have e : some g3 = some tb := e
      injection e with e
      rcases n3 with n3 | n3
      · exact HRR3.out 3 (by decide) (by rw [He3.out, n3, e])
      · have h1 := BA3.out.size
        rw [World.size_alloc] at h1
        omega
    · rw [upd_ne _ _ q]
      exact HRR3.out i hi
  go_upto_region 5 with fail
  have P4 := Lib.hid P4'
  have BB4 := Lib.hid BB4'
  have X4 := Lib.hid X4'
  have HTT4 := Lib.hid HT4'
  have HRR4 := Lib.hid HRR4'
  have Y4 := Lib.hid Y4'
  have HCR4 := Lib.hid HCR4'
  have HU4 : Hid (∀ k, k ≠ 3 → upd LL3 3 (LL3 3 ++ [1]) k = LL3 k) := Lib.hid fun k hk => upd_ne _ _ hk
  have HV4 : Hid (upd LL3 3 (LL3 3 ++ [1]) 3 = LL3 3 ++ [1]) := Lib.hid (upd_same _ _ _)
  clear Y4' HCR4' P4' BB4' X4' HT4' HRR4' n1 n2 n3 n4 hbx xe xf G2 hr3 C3 O3 N3 hb3 PA3 BA3 hn3
  generalize w3.setCell ⟨pb, 3, none⟩ (.slice (some ⟨g3, 0, none⟩) (m3 + 1) k3) = W4 at *
  generalize upd vv3 3 (.slice (some ⟨g3, 0, none⟩) (m3 + 1) k3) = vv4 at *
  generalize upd LL3 3 (LL3 3 ++ [1]) = LL4 at *
  obtain ⟨vs, ho, hk⟩ := P4.out.tr
  obtain ⟨A4, c4, e4⟩ := own_slice ho
  have C4 : W4.cell? ⟨pb, 4, none⟩ = some v4 := cells_of P4.out.box 4 rfl
  rw [e4] at C4 ho
  have He4 := Lib.hid e4
  obtain ⟨Z, hZ⟩ : ∃ Z, Z = (W4.alloc (.cells #[.bool false, .string ⟨#[]⟩, .string ⟨#[]⟩, .string ⟨#[]⟩, .slice none 0 0, .slice none 0 0] 30)).drew := ⟨_, rfl⟩
  have BZ : Below W4.heap.size W4 (W4.alloc (.cells #[.bool false, .string ⟨#[]⟩, .string ⟨#[]⟩, .string ⟨#[]⟩, .slice none 0 0, .slice none 0 0] 30)).drew := ((Below.refl _ W4).alloc (Nat.le_refl _) _).drew
  have PZ := Lib.hid (P4.out.keep BZ)
  have OZ := Lib.hid (own_keep ho BZ)
  have KZ := Lib.hid (hk.map fun t => t.keep BZ)
  have NZ : Hid (∀ j u, [Value.bool false, .string ⟨#[]⟩, .string ⟨#[]⟩, .string ⟨#[]⟩, .slice none 0 0, .slice none 0 0][j]? = some u → (W4.alloc (.cells #[.bool false, .string ⟨#[]⟩, .string ⟨#[]⟩, .string ⟨#[]⟩, .slice none 0 0, .slice none 0 0] 30)).drew.cell? ((⟨W4.heap.size, 0, none⟩ : Addr).add j) = some u) := Lib.hid (lit_cells W4 #[.bool false, .string ⟨#[]⟩, .string ⟨#[]⟩, .string ⟨#[]⟩, .slice none 0 0, .slice none 0 0] 30)
  have hbz := PZ.out.lt
  have TZ := Lib.hid (HTT4.out.keepB (BZ.mono P4.out.lt))
  have XZ := Lib.hid ((BZ.block tb (Array.getElem?_eq_some_iff.1 X4.out).1).trans X4.out)
  have YZ := Lib.hid ((BZ.block cb (Array.getElem?_eq_some_iff.1 Y4.out).1).trans Y4.out)
  have HC4' : Hid ((Value.slice A4 f.len c4).ownBlock ≠ some cb) := Lib.hid (by rw [← e4]; exact HC4.out)
  have BBZ := Lib.hid (BB4.out.trans (BZ.mono P4.out.lt))
  have hvl := ho.1
  have CZ : (W4.alloc (.cells #[.bool false, .string ⟨#[]⟩, .string ⟨#[]⟩, .string ⟨#[]⟩, .slice none 0 0, .slice none 0 0] 30)).drew.cell? ⟨pb, 4, none⟩ = some (.slice A4 f.len c4) := by rw [← e4]; exact cells_of PZ.out.box 4 rfl
  obtain ⟨d0, d1, d2, d3, d4, d5⟩ := cells6 X4.out
  have D0 : W4.drew.cell? ⟨tb, 0, none⟩ = _ := d0
  obtain ⟨q0, q1, q2, q3, q4, q5⟩ := cells6 XZ.out
  have hR4' : (Value.slice A4 f.len c4).ownBlock ≠ some tb := by rw [← e4]; exact HR4.out
  have HR4' := Lib.hid hR4'
  have HV4l := Lib.hid hvl
  clear ho hk BZ e4 hR4' hvl D0 hZ
  generalize hn : f.len = n at *
  have Hn := Lib.hid hn
  clear hn
  go_region_law (first
    | (refine step_append_lies _ (by rfl) (.tmp 47) (.tmp 50) 28 (by rfl) B 30 i30 (.agg #[.bool false, .string ⟨#[]⟩, .string ⟨#[]⟩, .string ⟨#[]⟩, .slice none 0 0, .slice none 0 0]) 6 104 Try.underlying28 hj hy0 hy1 hy2 rfl (by decide) (.slice A4 n c4) n vs (by simp [Act.eval, Act.put]) OZ.out ⟨W4.heap.size, 0, none⟩ 1 1 [.bool false, .string ⟨#[]⟩, .string ⟨#[]⟩, .string ⟨#[]⟩, .slice none 0 0, .slice none 0 0] (by simp [Act.eval, Act.put]) rfl NZ.out (tree_one _ _ _ _ _ _ _ _ _ _) (by decide) (by unfold maxLen; omega) (by omega) hbz _ rfl ?_
       intro g cap w5 n1 n2 n3 n4
       have S6 := Lib.hid (row_six (.bool u) (.string ux) (.string us) (.string ul) (.slice u1 u2 u3) (.slice u4 u5 u6) n1 n2 n3 n4 HV4l.out)
       have X5 := (n2.block tb (Array.getElem?_eq_some_iff.1 XZ.out).1 (fun e => HR4'.out e.symm)).trans XZ.out
       obtain ⟨r0, r1, r2, r3, r4, r5⟩ := cells6 X5
       have b5 := (n2.block pb (Array.getElem?_eq_some_iff.1 PZ.out.box).1 (own_box OZ.out PZ.out.box (by decide))).trans PZ.out.box
       have y4 : w5.cell? ⟨pb, 4, none⟩ = some v4 := cells_of b5 4 rfl
       have f4 := frz_of b5 4
       have hcg : ∀ j, j < 6 → w5.cell? ⟨g, n * 6 + j, none⟩ = ([Value.bool false, .string ⟨#[]⟩, .string ⟨#[]⟩, .string ⟨#[]⟩, .slice none 0 0, .slice none 0 0])[j]? := fun j hj => by
         have := World.ownsRow.cells n1 (g := g) rfl (n * 6 + j)
         rw [← HV4l.out, List.getElem?_append_right (Nat.le_add_right _ _), Nat.add_sub_cancel_left, HV4l.out, add_at] at this
         rw [List.getElem?_eq_getElem (by simpa using hj)] at this ⊢
         exact this _ rfl
       have z0 := hcg 0 (by decide)
       have z1 := hcg 1 (by decide)
       have z2 := hcg 2 (by decide)
       have z3 := hcg 3 (by decide)
       have z4 := hcg 4 (by decide)
       have z5 := hcg 5 (by decide)
       have fz : ∀ j, w5.frozen? ⟨g, j, none⟩ = false := fun j => World.ownsRow.frozenAt n1 j
       have s0 := fz (n * 6)
       have s1 := fz (n * 6 + 1)
       have s2 := fz (n * 6 + 2)
       have s3 := fz (n * 6 + 3)
       have s4 := fz (n * 6 + 4)
       have s5 := fz (n * 6 + 5)
       have hpg : pb ≠ g := by
         have hg := World.ownsRow.cells n1 (g := g) rfl
         intro e
         rcases n3 with n3 | n3
         · exact own_box OZ.out PZ.out.box (by decide) (by rw [n3, e])
         · have := (Array.getElem?_eq_some_iff.1 PZ.out.box).1
           omega
       simp only [List.getElem?_cons_zero, List.getElem?_cons_succ, Nat.add_zero] at z0 z1 z2 z3 z4 z5
       have gi : (n : Int) < (n : Int) + 1 := by omega
       have N2 := Lib.hid n2
       have N4' := Lib.hid n4
       clear n1 n2 n3 n4 hcg fz X5 b5)
    | fail)
  all_goals
    first
      | rw [six_comm w5 ⟨pb, 4, none⟩ _ g n _ _ _ _ _ _ hpg]
      | skip
    have P5 := PZ.out.pushT (g := g) (cap := cap) (by rw [He4.out, Hn.out]; exact OZ.out) KZ.out TZ.out (by rw [Hn.out]; exact S6.out.1) (by rw [He4.out]; exact S6.out.2.1) (Nat.lt_of_lt_of_le N4'.out S6.out.2.2.size)
    rw [Hn.out] at P5
    have B5 : Below B w _ := ((BBZ.out.grown S6.out.2.1 hbz (fun j hj => (World.ownsRow.lt OZ.out j hj).1)).grown (grown_setCell _ ⟨pb, 4, none⟩ (.slice (some ⟨g, 0, none⟩) (n + 1) cap)) (Nat.le_trans hbz S6.out.2.1.size) (fun j hj => by have hj : some pb = some j := hj; injection hj with hj; have := PZ.out.lo.1; omega))
    have Y5 : Hid ((World.setCell _ ⟨pb, 4, none⟩ (.slice (some ⟨g, 0, none⟩) (n + 1) cap)).heap[cb]? = some ob) := Lib.hid (((grown_setCell _ ⟨pb, 4, none⟩ (.slice (some ⟨g, 0, none⟩) (n + 1) cap)).block cb (Nat.lt_of_lt_of_le (Array.getElem?_eq_some_iff.1 YZ.out).1 S6.out.2.1.size) (fun e => by injection e with e; exact HCP.out e)).trans ((S6.out.2.1.block cb (Array.getElem?_eq_some_iff.1 YZ.out).1 (fun e => HC4'.out e.symm)).trans YZ.out))
    have H5 := Lib.hid P5
    have G5 := Lib.hid B5
    have q4 := cells_of P5.box 4 rfl
    clear P5 B5 z0 z1 z2 z3 z4 z5 s0 s1 s2 s3 s4 s5 r0 r1 r2 r3 r4 r5 y4 f4 gi
    generalize (World.setCell _ ⟨pb, 4, none⟩ (.slice (some ⟨g, 0, none⟩) (n + 1) cap)) = W6 at *
    have qn : IntKind.i64.wrap ((n : Int) + 1 - 1) = (n : Int) := by rw [IntWalk.i64_in _ (by omega)]; omega
    go_wp2
    go_ret
    exact ⟨vv4, _, LL4, by first | rfl | (rw [Hn.out]; rfl) | (rw [Hn.out]; simp), H5.out, ⟨by rw [HU4.out 0 (by decide), HU3.out 0 (by decide), HU2.out 0 (by decide), HV1.out], by rw [HU4.out 1 (by decide), HU3.out 1 (by decide), HV2.out, HU1.out 1 (by decide)], by rw [HU4.out 2 (by decide), HV3.out, HU2.out 2 (by decide), HU1.out 2 (by decide)], by rw [HV4.out, HU3.out 3 (by decide), HU2.out 3 (by decide), HU1.out 3 (by decide)]⟩, G5.out, Y5.out⟩
end Go.Proofs.Ytaoggciebkaakaa.Ev

/- A plan in the loop over children: the lists. -/
set_option linter.unusedSimpArgs false
set_option linter.unusedVariables false
namespace Go.Proofs.Ytaoggciebkaakaa.Ev
open Go.RowKit

structure NL (L L' : Nat → List Int) (n : Nat) (par : Int) (K : Fo) (k : Nat) : Prop where
  l0 : L' 0 = L 0 ++ (par :: (K.take k).parL (n + 1) (n : Int))
  l1 : L' 1 = L 1 ++ ((if k = 0 then -1 else (n : Int) + 1) :: (K.take k).fstL (n + 1))
  l2 : L' 2 = L 2 ++ (-1 :: (K.take k).nxtL (n + 1))
  l3 : L' 3 = L 3 ++ (1 :: (K.take k).sizL)
/-- These are behind these. -/
def Beh (L' L'' : Nat → List Int) (X : Fo) (s : Nat) (p : Int) : Prop := L'' 0 = L' 0 ++ X.parL s p ∧ L'' 1 = L' 1 ++ X.fstL s ∧ L'' 2 = L' 2 ++ X.nxtL s ∧ L'' 3 = L' 3 ++ X.sizL
section
variable {L L' L'' : Nat → List Int} {n k : Nat} {par : Int} {K : Fo}
theorem take_zero (K : Fo) : K.take 0 = .nil := by cases K <;> rfl
theorem NL.len (h : NL L L' n par K k) (hL : ∀ i, i < 4 → (L i).length = n) : ∀ i, i < 4 → (L' i).length = n + 1 + (K.take k).cnt := fun i hi => by
  have : i = 0 ∨ i = 1 ∨ i = 2 ∨ i = 3 := by omega
  rcases this with rfl | rfl | rfl | rfl
  · rw [h.l0, List.length_append, List.length_cons, hL 0 (by decide), par_len]; omega
  · rw [h.l1, List.length_append, List.length_cons, hL 1 (by decide), fst_len]; omega
  · rw [h.l2, List.length_append, List.length_cons, hL 2 (by decide), nxt_len]; omega
  · rw [h.l3, List.length_append, List.length_cons, hL 3 (by decide), siz_len]; omega
theorem Beh.len {X : Fo} {s : Nat} {p : Int} (h : Beh L' L'' X s p) {m : Nat} (hL : ∀ i, i < 4 → (L' i).length = m) : ∀ i, i < 4 → (L'' i).length = m + X.cnt := fun i hi => by
  have : i = 0 ∨ i = 1 ∨ i = 2 ∨ i = 3 := by omega
  rcases this with rfl | rfl | rfl | rfl
  · rw [h.1, List.length_append, hL 0 (by decide), par_len]
  · rw [h.2.1, List.length_append, hL 1 (by decide), fst_len]
  · rw [h.2.2.1, List.length_append, hL 2 (by decide), nxt_len]
  · rw [h.2.2.2, List.length_append, hL 3 (by decide), siz_len]
/-- The first child. -/
theorem NL.step0 (h : NL L L' n par K 0) (hL : ∀ i, i < 4 → (L i).length = n) {X : Fo} (hX : K.take 1 = (K.take 0).app X) (hb : Beh L' L'' X (n + 1 + (K.take 0).cnt) (n : Int)) : NL L (upd L'' 1 ((L'' 1).set n ((n + 1 + (K.take 0).cnt : Nat) : Int))) n par K 1 := by
  obtain ⟨b0, b1, b2, b3⟩ := hb
  rw [take_zero] at hX b0 b1 b2 ⊢
  have hX : K.take 1 = X := hX
  have h0 : (Fo.nil).cnt = 0 := rfl
  rw [h0, Nat.add_zero] at b0 b1 b2 ⊢
  refine ⟨?_, ?_, ?_, ?_⟩
  · rw [upd_ne _ _ (by decide), b0, h.l0, take_zero, hX]
    simp [Fo.parL]
  · rw [upd_same, b1, h.l1, take_zero, if_pos rfl, if_neg (by decide), hX, ← hL 1 (by decide)]
    simp [Fo.fstL]
  · rw [upd_ne _ _ (by decide), b2, h.l2, take_zero, hX]
    simp [Fo.nxtL]
  · rw [upd_ne _ _ (by decide), b3, h.l3, take_zero, hX]
    simp [Fo.sizL]
/-- Another child. -/
theorem NL.stepS {j : Nat} (h : NL L L' n par K (j + 1)) (hL : ∀ i, i < 4 → (L i).length = n) {X : Fo} {t : Bool} {tx sp lo : ByteArray} {ats : List P3} {ks : Fo} (hY : K.take (j + 1) = (K.take j).app (.cons t tx sp lo ats ks .nil)) (hX : K.take (j + 2) = (K.take (j + 1)).app X) (hXl : X.len = 1) (hb : Beh L' L'' X (n + 1 + (K.take (j + 1)).cnt) (n : Int)) : NL L (upd L'' 2 ((L'' 2).set (n + 1 + (K.take j).cnt) ((n + 1 + (K.take (j + 1)).cnt : Nat) : Int))) n par K (j + 2) := by
  obtain ⟨b0, b1, b2, b3⟩ := hb
  refine ⟨?_, ?_, ?_, ?_⟩
  · rw [upd_ne _ _ (by decide), b0, h.l0, hX, par_app]
    simp
  · rw [upd_ne _ _ (by decide), b1, h.l1, hX, fst_app, if_neg (by omega), if_neg (by omega)]
    simp
  · rw [upd_same, b2, h.l2, hX, hY, nxt_app2 _ _ _ _ _ _ _ _ _ hXl, ← hY]
    have hlt : (K.take j).cnt < ((K.take (j + 1)).nxtL (n + 1)).length := by
      rw [nxt_len, hY, cnt_app, cnt_cons]
      omega
    have e : n + 1 + (K.take j).cnt = (L 2).length + ((K.take j).cnt + 1) := by rw [hL 2 (by decide)]; omega
    rw [e, List.append_assoc, List.set_append_right (h := by omega), Nat.add_sub_cancel_left, List.cons_append, List.set_cons_succ, List.set_append_left (h := hlt)]
  · rw [upd_ne _ _ (by decide), b3, h.l3, hX, siz_app_L]
    simp
/-- Behind the loop. -/
theorem NL.fin {t : Bool} {tx sp lo : ByteArray} {ats : List P3} {ks : Fo} (h : NL L L' n par (kidF t ks) (kidF t ks).len) (hL : ∀ i, i < 4 → (L i).length = n) : Beh L (upd L' 3 ((L' 3).set n ((1 + (kidF t ks).cnt : Nat) : Int))) (.cons t tx sp lo ats ks .nil) n par := by
  obtain ⟨l0, l1, l2, l3⟩ := h
  rw [take_all] at l0 l1 l2 l3
  refine ⟨?_, ?_, ?_, ?_⟩
  · rw [upd_ne _ _ (by decide), l0, par_cons]
    simp [Fo.parL]
  · rw [upd_ne _ _ (by decide), l1, fst_cons]
    simp [Fo.fstL]
  · rw [upd_ne _ _ (by decide), l2, nxt_cons]
    simp [Fo.nxtL, Fo.len]
  · rw [upd_same, l3, siz_cons, ← hL 3 (by decide)]
    simp [Fo.sizL]
end
/-- Where a number of the plan stands. -/
theorem PlS.at_ {B pb nb : Nat} {v : Nat → Value} {v4 : Value} {L : Nat → List Int} {f : Fo} {W : World} (h : PlS B pb nb v v4 L f W) {i j m : Nat} (hi : i < 4) (hm : (L i).length = m) (hj : j < m) : ∃ g cap y, v i = .slice (some ⟨g, 0, none⟩) m cap ∧ W.cell? ⟨g, j, none⟩ = some (.int .i64 y) ∧ (L i)[j]? = some y ∧ W.frozen? ⟨g, j, none⟩ = false ∧ B ≤ g ∧ g ≠ pb := by
  subst hm
  have ho := h.own i hi
  obtain ⟨g, cap, hv, hb, hg⟩ := ho.form (by omega)
  have hx : (L i)[j]? = some (L i)[j] := List.getElem?_eq_getElem hj
  rw [hv] at ho
  refine ⟨g, cap, (L i)[j], hv, ?_, hx, World.ownsRow.frozenAt ho j, hb, fun e => ?_⟩
  · have := World.ownsRow.cells ho (g := g) rfl j (.int .i64 (L i)[j]) (by rw [List.getElem?_map, hx]; rfl)
    rw [add_at] at this
    exact this
  · exact own_box ho h.box (by decide) (by rw [e]; rfl)
end Go.Proofs.Ytaoggciebkaakaa.Ev

/- The function that numbers, in tree.Make. -/
set_option linter.unusedSimpArgs false
set_option linter.unusedVariables false
namespace Go.Proofs.Ytaoggciebkaakaa.Ev
open Go.RowKit

def NuPost (B pb nb : Nat) (L : Nat → List Int) (f : Fo) (par : Int) (X : Fo) (W : World) (e : Ending) (w' : World) : Prop := ∃ v v4 L', e = .returned (.int .i64 (f.len : Int)) ∧ PlS B pb nb v v4 L' (f.app X.treL) w' ∧ Beh L L' X f.len par ∧ Below B W w'
def NuC (N : Nat) : Prop := ∀ (t : Bool) (tx sp lo : ByteArray) (ats : List P3) (ks : Fo) (Aa : Option Addr) (na ca : Nat) (Ak : Option Addr) (nk ck : Nat) (B pb nb : Nat) (v : Nat → Value) (v4 : Value) (L : Nat → List Int) (f : Fo) (par : Int) (W : World), ks.siz < N → (∀ i, i < 4 → (L i).length = f.len) → f.len + (Fo.cons t tx sp lo ats ks .nil).cnt ≤ 1000 → PlS B pb nb v v4 L f W → Tr1 (· < B) W tx sp lo ats ks Aa na ca Ak nk ck →
    Calls Try.prog 33 #[.agg #[.bool t, .string tx, .string sp, .string lo, .slice Aa na ca, .slice Ak nk ck], .int .i64 par, .pointer (some ⟨pb, 0, none⟩), .pointer (some ⟨nb, 0, none⟩)] W (NuPost B pb nb L f par (Fo.cons t tx sp lo ats ks .nil) W)
theorem upd_beh {L L' : Nat → List Int} {x0 x1 x2 x3 : Int} (h : L' 0 = L 0 ++ [x0] ∧ L' 1 = L 1 ++ [x1] ∧ L' 2 = L 2 ++ [x2] ∧ L' 3 = L 3 ++ [x3]) {n : Nat} {par : Int} {K : Fo} (e0 : x0 = par) (e1 : x1 = -1) (e2 : x2 = -1) (e3 : x3 = 1) : NL L L' n par K 0 := by
  subst e0 e1 e2 e3
  exact ⟨by rw [take_zero]; exact h.1, by rw [take_zero, if_pos rfl]; exact h.2.1, by rw [take_zero]; exact h.2.2.1, by rw [take_zero]; exact h.2.2.2⟩
set_option maxHeartbeats 8000000 in
set_option maxRecDepth 100000 in
theorem nu_step (N : Nat) (hIH : Hid (NuC N)) : NuC (N + 1) := by
  intro t tx sp lo ats ks Aa na ca Ak nk ck B pb nb v v4 L f par w hN hL hc P T
  obtain ⟨A, nK, cK, hv, hin⟩ := kid_in (t := t) T.ks
  have hs := siz_kidF t ks
  have hcc := cnt_one t tx sp lo ats ks
  rw [hcc] at hc
  have B0 : Below w.heap.size w (w.alloc (.cells #[.bool t, .string tx, .string sp, .string lo, .slice Aa na ca, .slice Ak nk ck] 30)) := (Below.refl _ w).alloc (Nat.le_refl _) _
  have hBw := P.lt
  have N0 := nblk w 30 #[.bool t, .string tx, .string sp, .string lo, .slice Aa na ca, .slice Ak nk ck]
  have CA := add_any B pb nb v v4 L f par t tx sp lo ats ks Aa na ca Ak nk ck (w.alloc (.cells #[.bool t, .string tx, .string sp, .string lo, .slice Aa na ca, .slice Ak nk ck] 30)) (P.keep B0) (fun i hi => by rw [hL i hi]; omega) (by omega) (T.keep B0) w.heap.size _ N0
    (fun e => by have := (Array.getElem?_eq_some_iff.1 P.box).1; omega) (fun i hi e => by have := (World.ownsRow.lt (P.own i hi) _ e).2; omega) (fun e => by
      obtain ⟨vs, q, _⟩ := P.tr
      have := (World.ownsRow.lt q _ e).2
      omega)
  have CA2 := Lib.hid CA
  have CC := Lib.hid (fun W => children_any t tx sp lo Aa na ca Ak nk ck W)
  rw [hv] at CC
  have HB0 := Lib.hid (B0.mono hBw)
  have HK := Lib.hid hin
  have HLn := Lib.hid hL
  have hnk : nK ≤ 4398046511104 := hin.2.1
  have HnK := Lib.hid hin.1
  have hsN : (kidF t ks).siz < N + 1 := by omega
  have hn0 : f.len ≤ 1000 := by omega
  have hKl : (kidF t ks).len ≤ 1000 := by
    have h1 : ∀ g : Fo, g.len ≤ g.cnt := fun g => by
      induction g with
      | nil => exact Nat.le_refl _
      | cons t tx sp lo ats ks nx _ ih => rw [Fo.len, cnt_cons]; omega
    have := h1 (kidF t ks)
    omega
  clear CA P T hin hL N0 B0 hs
  go_enter Try.func33, Try.ntmps33
  go_wp2_with fail
  refine CA2.out.mono ?_
  rintro e w1 ⟨v1, v41, L1, rfl, P1, hq, b1, y1⟩
  have HN1 : Hid (NL L L1 f.len par (kidF t ks) 0) := Lib.hid (upd_beh hq rfl rfl rfl rfl)
  have HP1 := Lib.hid P1
  have HB1 := Lib.hid (HB0.out.trans b1)
  obtain ⟨d0, d1, d2, d3, d4, d5⟩ := cells6 y1
  clear CA2 P1 b1 y1 hq HB0
  go_wp2_with fail
  refine (CC.out _).mono ?_
  rintro e w2 ⟨rfl, b2⟩
  have HP2 := Lib.hid (HP1.out.keep b2)
  have HB2 := Lib.hid (HB1.out.trans (b2.mono HP1.out.lt))
  clear CC HP1 HB1 b2 d0 d1 d2 d3 d4 d5
  have HT0 : Hid (PlS B pb nb v1 v41 L1 ((f.app (.cons t tx sp lo ats ks .nil)).app ((kidF t ks).take 0).treL) w2) := Lib.hid (by
    rw [take_zero, show (Fo.nil).treL = Fo.nil from rfl, app_nil]
    exact HP2.out)
  clear HP2
  have Hcc := Lib.hid hcc
  generalize hn : f.len = n at *
  have Hn := Lib.hid hn
  have HKd : Hid (∀ k, k < nK → k < (kidF t ks).len) := Lib.hid fun k hk => by rw [← HnK.out]; exact hk
  generalize hK : kidF t ks = K at *
  have HKe := Lib.hid hK
  clear hn hcc hK hv
  have hnK : nK ≤ 1000 := by rw [HnK.out]; exact hKl
  go_wp2_with fail
  go_loopw [8, 18] (fun b i wr => ∃ (k : Nat) (bf : Int) (v' : Nat → Value) (v4' : Value) (L' : Nat → List Int), i = .int .i64 k ∧ k ≤ nK ∧ b = .int .i64 bf ∧ Hid ((k = 0 → bf = -1) ∧ (0 < k → bf = ((n + 1 + (K.take (k - 1)).cnt : Nat) : Int))) ∧ Hid (PlS B pb nb v' v4' L' ((f.app (.cons t tx sp lo ats ks .nil)).app (K.take k).treL) wr) ∧ Hid (NL L L' n par K k) ∧ Hid (Below B w wr)) (fun _ i _ => nK - (intOf i).toNat)
  case atStart => exact ⟨0, -1, v1, v41, L1, rfl, Nat.zero_le _, rfl, Lib.hid ⟨fun _ => rfl, fun h => absurd h (Nat.lt_irrefl 0)⟩, HT0, HN1, HB2⟩
  case round =>
    clear HT0 HN1 HB2
    obtain ⟨k, bf, v', v4', L', rfl, hk, rfl, HBf, HP, HN, HB⟩ := hrel
    by_cases hlt : k < nK
    · have g1 : (k : Int) < (nK : Int) := by omega
      have g0 : (0 : Int) ≤ (k : Int) := by omega
      obtain ⟨u, ux, us, ul, ua, uk, b1, o1, u1, u2, u3, u4, u5, u6, ed, rfl, hb1, x6, X⟩ := (HK.out.keepB HB.out).at_ (k := k) hlt
      have hsk := siz_kid ed
      have BA : Hid (Below wr.heap.size wr (wr.alloc (.cells #[.bool u, .string ux, .string us, .string ul, .slice u1 u2 u3, .slice u4 u5 u6] 30))) := Lib.hid ((Below.refl _ wr).alloc (Nat.le_refl _) _)
      have HT2 := Lib.hid (cnt_take (f := K) (k := k) (HKd.out k hlt) ed)
      have hcl := cnt_take_le K (k + 1)
      rw [HT2.out] at hcl
      have hfl : ((f.app (.cons t tx sp lo ats ks .nil)).app (K.take k).treL).len = n + 1 + (K.take k).cnt := by
        rw [len_app, len_app, tre_len, Hn.out]
        rfl
      have hLl := HN.out.len HLn.out
      have CS0 := (hIH.out u ux us ul ua uk u1 u2 u3 u4 u5 u6 B pb nb v' v4' L' _ (n : Int) (wr.alloc (.cells #[.bool u, .string ux, .string us, .string ul, .slice u1 u2 u3, .slice u4 u5 u6] 30)) (by omega) (fun i hi => by rw [hLl i hi, hfl]) (by rw [hfl]; omega) (HP.out.keep BA.out) (X.keepB (BA.out.mono HP.out.lt)))
      unfold NuPost at CS0
      rw [hfl] at CS0
      have CS := Lib.hid CS0
      have cn : (wr.alloc (.cells #[.bool u, .string ux, .string us, .string ul, .slice u1 u2 u3, .slice u4 u5 u6] 30)).cell? ⟨nb, 0, none⟩ = some (.func (.func 33) #[] #[.pointer (some ⟨pb, 0, none⟩), .pointer (some ⟨nb, 0, none⟩)]) := cells_of (HP.out.keep BA.out).nbx 0 rfl
      have HLl := Lib.hid hLl
      have HX1 : Hid (K.take (k + 1) = (K.take k).app (.cons u ux us ul ua uk .nil) ∧ (Fo.cons u ux us ul ua uk .nil).len = 1 ∧ ((f.app (.cons t tx sp lo ats ks .nil)).app (K.take k).treL).app (Fo.cons u ux us ul ua uk .nil).treL = (f.app (.cons t tx sp lo ats ks .nil)).app (K.take (k + 1)).treL) := Lib.hid (by
        obtain ⟨t', tx', sp', lo', ats', ks', e1, e2⟩ := drop_cons (HKd.out k hlt)
        rw [ed] at e1
        injection e1 with e1 e4 e5 e6 e7 e8 e9
        subst e1 e4 e5 e6 e7 e8
        exact ⟨e2, rfl, by rw [e2, tre_app, app_assoc]⟩)
      obtain ⟨x1, x2, x3, x4, x5, x7⟩ := x6
      clear X ed hb1 CS0 hLl hfl
      generalize ha : n + 1 + (K.take k).cnt = a at *
      have Ha := Lib.hid ha
      have hac : a + (Fo.cons u ux us ul ua uk .nil).cnt ≤ 1000 := by omega
      clear ha
      by_cases hk0 : k = 0
      · have hbf := HBf.out.1 hk0
        subst hbf
        have Hk0 := Lib.hid hk0
        clear HBf hk0
        go_wp2_with fail
        refine CS.out.mono ?_
        rintro e' w3 ⟨v3, v43, L3, rfl, P3, hbeh, b3⟩
        have hl3 := hbeh.len HLl.out
        obtain ⟨m3, hm3⟩ : ∃ m3, m3 = a + (Fo.cons u ux us ul ua uk .nil).cnt := ⟨_, rfl⟩
        rw [← hm3] at hl3
        have hjm : n < m3 := by have := Ha.out; omega
        obtain ⟨g, cap, y, e3, q1, q2, q3, q4, q5⟩ := P3.at_ (i := 1) (j := n) (m := m3) (by decide) (hl3 1 (by decide)) hjm
        have c1 : w3.cell? ⟨pb, 1, none⟩ = some (v3 1) := cells_of P3.box 1 rfl
        rw [e3] at c1
        have P4 := P3.set (j := n) (x := (a : Int)) (by decide) e3
        rw [HX1.out.2.2] at P4
        have HP4 := Lib.hid P4
        have HB4 := Lib.hid (((HB.out.trans (BA.out.mono HP.out.lt)).trans b3).setCell (p := ⟨g, n, none⟩) q4 (.int .i64 (a : Int)))
        have j1 : (n : Int) < (m3 : Int) := by omega
        have j0 : (0 : Int) ≤ (n : Int) := by omega
        have HN4 : Hid (NL L (upd L3 1 ((L3 1).set n (a : Int))) n par K (k + 1)) := Lib.hid (by
          have h0 := Hk0.out
          have h1 := HN.out
          have h2 := HX1.out.1
          have h3 := hbeh
          rw [← Ha.out] at h3 ⊢
          subst h0
          exact NL.step0 h1 HLn.out h2 h3)
        have HBf4 : Hid ((k + 1 = 0 → (a : Int) = -1) ∧ (0 < k + 1 → (a : Int) = ((n + 1 + (K.take (k + 1 - 1)).cnt : Nat) : Int))) := Lib.hid ⟨fun h => by omega, fun _ => by rw [Nat.add_sub_cancel, Ha.out]⟩
        clear P4 P3 e3 q2 b3 hbeh hl3 hm3 CS x1 x2 x3 x4 x5 x7 hcl cn
        go_wp2
        go_roundw
        case rel => exact ⟨k + 1, (a : Int), v3, v43, _, by go_num, by omega, rfl, HBf4, HP4, HN4, HB4⟩
        case measure => simp only [intOf]; omega
      · obtain ⟨j, hj⟩ : ∃ j, k = j + 1 := ⟨k - 1, by omega⟩
        obtain ⟨q, hq⟩ : ∃ q, q = n + 1 + (K.take j).cnt := ⟨_, rfl⟩
        have hbf : bf = (q : Int) := by rw [HBf.out.2 (by omega), hj, hq, Nat.add_sub_cancel]
        subst hbf
        obtain ⟨t0, tx0, sp0, lo0, ats0, ks0, ej, hY⟩ := drop_cons (f := K) (k := j) (by have := HKd.out k hlt; omega)
        have hqa : q < a := by
          have h1 := congrArg Fo.cnt hY
          rw [cnt_app, cnt_cons, ← hj] at h1
          have := Ha.out
          omega
        have Hj := Lib.hid hj
        have Hq := Lib.hid hq
        have HY := Lib.hid hY
        have q9 : ¬ (q : Int) < 0 := by omega
        clear HBf hk0 hj hq hY ej
        go_wp2_with fail
        refine CS.out.mono ?_
        rintro e' w3 ⟨v3, v43, L3, rfl, P3, hbeh, b3⟩
        have hl3 := hbeh.len HLl.out
        obtain ⟨m3, hm3⟩ : ∃ m3, m3 = a + (Fo.cons u ux us ul ua uk .nil).cnt := ⟨_, rfl⟩
        rw [← hm3] at hl3
        have hjm : q < m3 := by omega
        obtain ⟨g, cap, y, e3, q1, q2, q3, q4, q5⟩ := P3.at_ (i := 2) (j := q) (m := m3) (by decide) (hl3 2 (by decide)) hjm
        have c1 : w3.cell? ⟨pb, 2, none⟩ = some (v3 2) := cells_of P3.box 2 rfl
        rw [e3] at c1
        have P4 := P3.set (j := q) (x := (a : Int)) (by decide) e3
        rw [HX1.out.2.2] at P4
        have HP4 := Lib.hid P4
        have HB4 := Lib.hid (((HB.out.trans (BA.out.mono HP.out.lt)).trans b3).setCell (p := ⟨g, q, none⟩) q4 (.int .i64 (a : Int)))
        have j1 : (q : Int) < (m3 : Int) := by omega
        have j0 : (0 : Int) ≤ (q : Int) := by omega
        have HN4 : Hid (NL L (upd L3 2 ((L3 2).set q (a : Int))) n par K (k + 1)) := Lib.hid (by
          have h0 := Hj.out
          have h1 := HN.out
          have h2 := HX1.out.1
          have h3 := hbeh
          rw [← Ha.out] at h3 ⊢
          rw [Hq.out]
          subst h0
          exact NL.stepS h1 HLn.out HY.out h2 HX1.out.2.1 h3)
        have HBf4 : Hid ((k + 1 = 0 → (a : Int) = -1) ∧ (0 < k + 1 → (a : Int) = ((n + 1 + (K.take (k + 1 - 1)).cnt : Nat) : Int))) := Lib.hid ⟨fun h => by omega, fun _ => by rw [Nat.add_sub_cancel, Ha.out]⟩
        clear P4 P3 e3 q2 b3 hbeh hl3 hm3 CS x1 x2 x3 x4 x5 x7 hcl cn
        go_wp2
        go_roundw
        case rel => exact ⟨k + 1, (a : Int), v3, v43, _, by go_num, by omega, rfl, HBf4, HP4, HN4, HB4⟩
        case measure => simp only [intOf]; omega
    · have hke : k = nK := by omega
      have g1 : ¬ (k : Int) < (nK : Int) := by omega
      have HNf : Hid (NL L L' n par (kidF t ks) (kidF t ks).len) := Lib.hid (by
        have h1 := HN.out
        rw [hke, HnK.out, ← HKe.out] at h1
        exact h1)
      obtain ⟨m3, hm3⟩ : ∃ m3, m3 = n + 1 + K.cnt := ⟨_, rfl⟩
      have hkt : (K.take k).cnt = K.cnt := by rw [hke, HnK.out, take_all]
      have hl3 : ∀ i, i < 4 → (L' i).length = m3 := fun i hi => by rw [HN.out.len HLn.out i hi, hkt, hm3]
      have P3 := HP.out
      have hfl : ((f.app (.cons t tx sp lo ats ks .nil)).app (K.take k).treL).len = m3 := by
        rw [len_app, len_app, tre_len, Hn.out, hkt, hm3]
        rfl
      have hft : (f.app (.cons t tx sp lo ats ks .nil)).app (K.take k).treL = f.app (Fo.cons t tx sp lo ats ks .nil).treL := by
        rw [hke, HnK.out, take_all, tre_cons, ← HKe.out, app_assoc]
        simp [Fo.app, Fo.treL, app_nil]
      have hjm : n < m3 := by omega
      obtain ⟨g, cap, y, e3, q1, q2, q3, q4, q5⟩ := P3.at_ (i := 3) (j := n) (m := m3) (by decide) (hl3 3 (by decide)) hjm
      have c1 : wr.cell? ⟨pb, 3, none⟩ = some (v' 3) := cells_of P3.box 3 rfl
      rw [e3] at c1
      obtain ⟨vs, ho, _⟩ := P3.tr
      rw [hfl] at ho
      obtain ⟨A4, c4, e4⟩ := own_slice ho
      have c2 : wr.cell? ⟨pb, 4, none⟩ = some v4' := cells_of P3.box 4 rfl
      rw [e4] at c2
      obtain ⟨z, hz⟩ : ∃ z : Nat, z = 1 + K.cnt := ⟨_, rfl⟩
      have P4 := P3.set (j := n) (x := (z : Int)) (by decide) e3
      rw [hft] at P4
      have HP4 := Lib.hid P4
      have HB4 := Lib.hid (HB.out.setCell (p := ⟨g, n, none⟩) q4 (.int .i64 (z : Int)))
      have HBe : Hid (Beh L (upd L' 3 ((L' 3).set n (z : Int))) (.cons t tx sp lo ats ks .nil) n par) := Lib.hid (by
        rw [hz, ← HKe.out]
        exact NL.fin HNf.out HLn.out)
      have j1 : (n : Int) < (m3 : Int) := by omega
      have j0 : (0 : Int) ≤ (n : Int) := by omega
      have hm0 : m3 ≤ 1001 := by omega
      have qn : IntKind.i64.wrap ((m3 : Int) - (n : Int)) = (z : Int) := by rw [IntWalk.i64_in _ (by omega)]; omega
      clear P4 P3 e3 e4 q2 hl3 hm3 hfl hft ho HP HN hke hkt hz HNf HBf
      go_wp2
      go_ret
      exact ⟨v', v4', _, by rw [Hn.out]; rfl, HP4.out, by rw [Hn.out]; exact HBe.out, HB4.out⟩
theorem nu_all : ∀ N, NuC N
  | 0 => fun t tx sp lo ats ks Aa na ca Ak nk ck B pb nb v v4 L f par W h => by omega
  | N + 1 => nu_step N (Lib.hid (nu_all N))
end Go.Proofs.Ytaoggciebkaakaa.Ev
