/-
  Merged by program out of the texts TpAwk, TrWhW, TrSmR, TpL1, TpL2, TpNd of one seat.
-/
import Derived.Test.YtaoggciebkaakaaG13
import Derived.Test.YtaoggciebkaakaaG04
import Derived.Test.YtaoggciebkaakaaG02
import Derived.Test.YtaoggciebkaakaaG03
import Derived.Test.YtaoggciebkaakaaG05
import Derived.Deep.RegionHeld3

/- awake: answers that the document fixes. -/
set_option linter.unusedSimpArgs false
set_option linter.unusedVariables false
namespace Go.Proofs.Ytaoggciebkaakaa.Ev
open Go.RowKit

theorem cl_right : rightF plF rtF clE = true := clR plF rtF
theorem awk_dep2 : depF plF rtF [opE, txE] = 1 := by
  show depR _ true 0 0 _ = 1
  rw [depR, if_neg (by rw [op_right]; rintro (h | h | h); cases h; exact h rfl; exact h.2 rfl), if_neg (by rintro ⟨h, _⟩; cases h)]
  show (if (64 : Int) < (if (1 : Int) = 1 then 0 + 1 else _) then _ else _) = _
  rw [if_pos rfl, if_neg (by decide), depR, if_neg (by rw [tx_right]; rintro (h | h | h); cases h; exact h rfl; cases h.1), if_neg (by rintro ⟨_, h⟩; cases h)]
  rfl
theorem awk_dep3 : depF plF rtF [opE, txE, clE] = 0 := dep_whole (R := rightF plF rtF) (u := [opE, txE]) (d := 1) cl_right rfl (by simp) awk_dep2
/-- The children of the element. -/
def ksA : Fo := .cons true ⟨#[120]⟩ emB emB [] .nil .nil
theorem awk_evs : (Fo.cons false emB emB ⟨#[97]⟩ [] ksA .nil).evs = [opE, txE, clE] := by
  rw [evs_el]
  rfl
theorem of_at {l : List RE} {n : Nat} {W w' : World} {e : Ending} {sp lo : ByteArray} {ats : List P3} {ks : Fo} (h : OfPost l n W e w') (hl : l = (Fo.cons false emB sp lo ats ks .nil).evs) (hp : ks.pln = ks) (hd : depF plF rtF l = 0) (hn : 0 < n) : ∃ Aa na ca Ak nk ck, e = .returned (.tuple #[.agg #[.bool false, .string emB, .string sp, .string lo, .slice Aa na ca, .slice Ak nk ck], .bool true]) ∧ Tr1 (Lo W.heap.size w') w' emB sp lo ats ks Aa na ca Ak nk ck ∧ Below W.heap.size W w' := by
  obtain ⟨hb, _, h3⟩ := h
  obtain ⟨sp', lo', ats', ks', Aa, na, ca, Ak, nk, ck, e1, e2, e3, e4⟩ := h3 ⟨hd, hn⟩
  have := evs_inj' (hl.symm.trans e1)
  have q : ∀ (sp lo : ByteArray) (ats : List P3) (ks : Fo), (Fo.cons false emB sp lo ats ks .nil).pln = .cons false emB sp lo ats ks.pln .nil := fun sp lo ats ks => by rw [Fo.pln, if_neg (by decide)]; rfl
  rw [q, q, hp, e2] at this
  injection this with _ _ q1 q2 q3 q4 _
  subst q1 q2 q3 q4
  exact ⟨Aa, na, ca, Ak, nk, ck, e3, e4, hb⟩
def Awc : Array Value := #[.int .i64 1, .string ⟨#[]⟩, .string ⟨#[97]⟩, .slice none 0 0, .string ⟨#[]⟩, .int .i64 2, .string ⟨#[]⟩, .string ⟨#[]⟩, .slice none 0 0, .string ⟨#[120]⟩, .int .i64 3, .string ⟨#[]⟩, .string ⟨#[]⟩, .slice none 0 0, .string ⟨#[]⟩]
theorem awk_in {W : World} {b : Nat} (h : W.heap[b]? = some (.cells Awc 38 (0, 0))) : EvsIn W (some ⟨b, 0, none⟩) 3 3 [opE, txE, clE] := by
  have hz : ∀ x ∈ [opE, txE, clE], RSz x := by
    intro x hx
    simp only [List.mem_cons, List.not_mem_nil, or_false] at hx
    rcases hx with rfl | rfl | rfl <;> exact ⟨by decide, by decide, by decide⟩
  have ho : W.ownsRow b 38 5 (.slice (some ⟨b, 0, none⟩) 3 3) 3 (peL [(opE, none, 0, 0), (txE, none, 0, 0), (clE, none, 0, 0)]) := ⟨rfl, .inr ⟨b, 3, _, rfl, Nat.le_refl _, h, Nat.le_refl _, by decide, rfl, rfl⟩⟩
  exact own_evs ho rfl (fun p hp => by
    simp only [List.mem_cons, List.not_mem_nil, or_false] at hp
    rcases hp with rfl | rfl | rfl
    · exact ⟨attsNil W, hz _ (by simp)⟩
    · exact ⟨attsNil W, hz _ (by simp)⟩
    · exact ⟨attsNil W, hz _ (by simp)⟩) (by decide)
theorem awk_rgb : ∀ x ∈ [opE, txE, clE], RgB x := by
  intro x hx
  simp only [List.mem_cons, List.not_mem_nil, or_false] at hx
  rcases hx with rfl | rfl | rfl <;> exact ⟨by decide, by decide, by decide, fun _ y hy => by cases hy⟩
theorem awk_ok : SpOk (Fo.cons false emB emB ⟨#[97]⟩ [] ksA .nil) := by
  refine ⟨by decide, by rw [awk_evs]; decide, ?_⟩
  rw [awk_evs]
  exact doc_lim awk_dep3 awk_rgb
structure AwX (w : World) (W : World) : Prop where
  blk : W.heap[w.heap.size]? = some (.cells Awc 38 (0, 0))
  bel : Below w.heap.size w W
theorem AwX.keep {w W W' : World} (h : AwX w W) (hb : Below W.heap.size W W') : AwX w W' := ⟨(hb.block _ (Array.getElem?_eq_some_iff.1 h.blk).1).trans h.blk, h.bel.trans (hb.mono h.bel.size)⟩
/-- The tree that Of answers, in a box; what stands in it. -/
structure AwT (Aa : Option Addr) (ca : Nat) (Ak : Option Addr) (ck tb : Nat) (W : World) : Prop where
  box : W.heap[tb]? = some (.cells #[.bool false, .string emB, .string emB, .string ⟨#[97]⟩, .slice Aa 0 ca, .slice Ak 1 ck] 30 (0, 0))
  tr : Tr1 (· < W.heap.size) W emB emB ⟨#[97]⟩ [] ksA Aa 0 ca Ak 1 ck
theorem AwT.keep {Aa : Option Addr} {ca : Nat} {Ak : Option Addr} {ck tb : Nat} {W W' : World} (h : AwT Aa ca Ak ck tb W) (hb : Below W.heap.size W W') : AwT Aa ca Ak ck tb W' := ⟨(hb.block _ (Array.getElem?_eq_some_iff.1 h.box).1).trans h.box, (h.tr.keep hb).inb⟩
theorem plan_awk {W : World} {B : Nat} {v : Nat → Value} {v4 : Value} (h : PlanAt W B v v4 (Fo.cons false emB emB ⟨#[97]⟩ [] ksA .nil)) : ∃ g0 k0 g1 k1 A2 k2 A3 k3 A4 k4, v 0 = .slice (some ⟨g0, 0, none⟩) 2 k0 ∧ v 1 = .slice (some ⟨g1, 0, none⟩) 2 k1 ∧ v 2 = .slice A2 2 k2 ∧ v 3 = .slice A3 2 k3 ∧ v4 = .slice A4 2 k4 ∧ W.cell? ⟨g0, 1, none⟩ = some (.int .i64 0) ∧ W.cell? ⟨g1, 0, none⟩ = some (.int .i64 1) := by
  have o0 : W.ownsRow B 3 1 (v 0) 2 [.int .i64 (-1), .int .i64 0] := h.own 0 (by decide)
  have o1 : W.ownsRow B 3 1 (v 1) 2 [.int .i64 1, .int .i64 (-1)] := h.own 1 (by decide)
  have o2 := h.own 2 (by decide)
  have o3 := h.own 3 (by decide)
  obtain ⟨A4, k4, e4, _⟩ := h.tr
  obtain ⟨g0, k0, e0, _⟩ := o0.form (by decide)
  obtain ⟨g1, k1, e1, _⟩ := o1.form (by decide)
  obtain ⟨A2, k2, e2⟩ := own_slice o2
  obtain ⟨A3, k3, e3⟩ := own_slice o3
  rw [e0] at o0
  rw [e1] at o1
  have q0 := World.ownsRow.cells o0 (g := g0) rfl 1 _ rfl
  have q1 := World.ownsRow.cells o1 (g := g1) rfl 0 _ rfl
  rw [add_at] at q0 q1
  exact ⟨g0, k0, g1, k1, A2, k2, A3, k3, A4, k4, e0, e1, e2, e3, e4, q0, q1⟩
structure AwQ (g0 k0 g1 k1 : Nat) (A2 : Option Addr) (k2 : Nat) (A3 : Option Addr) (k3 : Nat) (A4 : Option Addr) (k4 pb : Nat) (W : World) : Prop where
  box : W.heap[pb]? = some (.cells #[.slice (some ⟨g0, 0, none⟩) 2 k0, .slice (some ⟨g1, 0, none⟩) 2 k1, .slice A2 2 k2, .slice A3 2 k3, .slice A4 2 k4] 43 (0, 0))
  c0 : W.cell? ⟨g0, 1, none⟩ = some (.int .i64 0)
  c1 : W.cell? ⟨g1, 0, none⟩ = some (.int .i64 1)
theorem AwQ.keep {g0 k0 g1 k1 : Nat} {A2 : Option Addr} {k2 : Nat} {A3 : Option Addr} {k3 : Nat} {A4 : Option Addr} {k4 pb : Nat} {W W' : World} (h : AwQ g0 k0 g1 k1 A2 k2 A3 k3 A4 k4 pb W) (hb : Below W.heap.size W W') : AwQ g0 k0 g1 k1 A2 k2 A3 k3 A4 k4 pb W' := ⟨(hb.block _ (Array.getElem?_eq_some_iff.1 h.box).1).trans h.box, cell_lt h.c0 hb, cell_lt h.c1 hb⟩
set_option maxHeartbeats 4000000 in
set_option maxRecDepth 100000 in
theorem awake_any (w : World) : Calls Try.prog 8 #[] w fun e w' => e = .returned (.bool true) ∧ Below w.heap.size w w' := by
  have C10 : Hid (∀ W, AwX w W → Calls Try.prog 10 #[.slice (some ⟨w.heap.size, 0, none⟩) 3 3] W fun e w' => ∃ Aa ca Ak ck, e = .returned (.tuple #[.agg #[.bool false, .string emB, .string emB, .string ⟨#[97]⟩, .slice Aa 0 ca, .slice Ak 1 ck], .bool true]) ∧ Tr1 (· < w'.heap.size) w' emB emB ⟨#[97]⟩ [] ksA Aa 0 ca Ak 1 ck ∧ Below W.heap.size W w') := Lib.hid fun W h => by
    refine (tof_any _ 3 3 _ W (awk_in h.blk) (by decide) awk_rgb).mono fun e w' hq => ?_
    obtain ⟨Aa, na, ca, Ak, nk, ck, rfl, tr, hb⟩ := of_at hq awk_evs.symm rfl awk_dep3 (by decide)
    obtain rfl : na = 0 := tr.at_.len
    obtain rfl : nk = 1 := tr.ks.1
    exact ⟨Aa, ca, Ak, ck, rfl, tr.mono fun b hb => hb.2, hb⟩
  have C10n : Hid (∀ W, AwX w W → Calls Try.prog 10 #[.slice (some ⟨w.heap.size, 0, none⟩) 2 3] W fun e w' => e = .returned (.tuple #[.agg #[.bool false, .string ⟨#[]⟩, .string ⟨#[]⟩, .string ⟨#[]⟩, .slice none 0 0, .slice none 0 0], .bool false]) ∧ Below W.heap.size W w') := Lib.hid fun W h => by
    refine (tof_any _ 2 3 _ W ((awk_in h.blk).take (k := 2) (by decide)) (by decide) (fun x hx => awk_rgb x (List.mem_of_mem_take hx))).mono fun e w' hq => ?_
    exact ⟨hq.2.1 (by
      rintro ⟨h1, _⟩
      have h2 : depF plF rtF [opE, txE] = 0 := h1
      rw [awk_dep2] at h2
      cases h2), hq.1⟩
  have X : Hid (AwX w (w.alloc (.cells Awc 38))) := Lib.hid ⟨nblk w 38 _, (Below.refl _ w).alloc (Nat.le_refl _) _⟩
  unfold Awc at X
  go_enter Try.func8, Try.ntmps8
  go_wp2_with fail
  generalize w.alloc (.cells #[.int .i64 1, .string ⟨#[]⟩, .string ⟨#[97]⟩, .slice none 0 0, .string ⟨#[]⟩, .int .i64 2, .string ⟨#[]⟩, .string ⟨#[]⟩, .slice none 0 0, .string ⟨#[120]⟩, .int .i64 3, .string ⟨#[]⟩, .string ⟨#[]⟩, .slice none 0 0, .string ⟨#[]⟩] 38) = V at *
  refine (C10.out _ X.out).mono ?_
  rintro e w1 ⟨Aa, ca, Ak, ck, rfl, tr, b1⟩
  have hb2 := (Below.refl w1.heap.size w1).alloc (Nat.le_refl _) (.cells #[.bool false, .string emB, .string emB, .string ⟨#[97]⟩, .slice Aa 0 ca, .slice Ak 1 ck] 30)
  have T2 : Hid (AwT Aa ca Ak ck w1.heap.size (w1.alloc (.cells #[.bool false, .string emB, .string emB, .string ⟨#[97]⟩, .slice Aa 0 ca, .slice Ak 1 ck] 30))) := Lib.hid ⟨nblk w1 30 _, (tr.keep hb2).inb⟩
  have X2 := Lib.hid ((X.out.keep b1).keep hb2)
  clear tr b1 hb2 X C10
  go_upto_region 3 with fail
  generalize w1.alloc (.cells #[.bool false, .string emB, .string emB, .string ⟨#[97]⟩, .slice Aa 0 ca, .slice Ak 1 ck] 30) = W2 at *
  generalize w1.heap.size = tb at *
  have C20 := Lib.hid (tmake_any false emB emB ⟨#[97]⟩ [] ksA Aa 0 ca Ak 1 ck W2 T2.out.tr (by decide))
  obtain ⟨d0, d1, d2, d3, d4, d5⟩ := cells6 T2.out.box
  go_wp2_with fail
  refine C20.out.mono ?_
  rintro e w3 ⟨v, v4, rfl, P3, b3⟩
  obtain ⟨g0, k0, g1, k1, A2, k2, A3, k3, A4, k4, e0, e1, e2, e3, e4, q0, q1⟩ := plan_awk P3
  rw [e0, e1, e2, e3, e4]
  have hb4 := (Below.refl w3.heap.size w3).alloc (Nat.le_refl _) (.cells #[.slice (some ⟨g0, 0, none⟩) 2 k0, .slice (some ⟨g1, 0, none⟩) 2 k1, .slice A2 2 k2, .slice A3 2 k3, .slice A4 2 k4] 43)
  have Q4 : Hid (AwQ g0 k0 g1 k1 A2 k2 A3 k3 A4 k4 w3.heap.size (w3.alloc (.cells #[.slice (some ⟨g0, 0, none⟩) 2 k0, .slice (some ⟨g1, 0, none⟩) 2 k1, .slice A2 2 k2, .slice A3 2 k3, .slice A4 2 k4] 43))) := Lib.hid ⟨nblk w3 43 _, cell_lt q0 hb4, cell_lt q1 hb4⟩
  have T4 := Lib.hid ((T2.out.keep b3).keep hb4)
  have X4 := Lib.hid ((X2.out.keep b3).keep hb4)
  clear P3 b3 e0 e1 e2 e3 e4 q0 q1 hb4 T2 X2 C20 d0 d1 d2 d3 d4 d5
  go_upto_region 4 with fail
  generalize w3.alloc (.cells #[.slice (some ⟨g0, 0, none⟩) 2 k0, .slice (some ⟨g1, 0, none⟩) 2 k1, .slice A2 2 k2, .slice A3 2 k3, .slice A4 2 k4] 43) = W4 at *
  generalize w3.heap.size = pb at *
  have C10b := Lib.hid (C10n.out W4 X4.out)
  go_wp2_with fail
  refine C10b.out.mono ?_
  rintro e w5 ⟨rfl, b5⟩
  have hb6 := (Below.refl w5.heap.size w5).alloc (Nat.le_refl _) (.cells #[.bool false, .string ⟨#[]⟩, .string ⟨#[]⟩, .string ⟨#[]⟩, .slice none 0 0, .slice none 0 0] 30)
  have Q6 := Lib.hid ((Q4.out.keep b5).keep hb6)
  have T6 := Lib.hid ((T4.out.keep b5).keep hb6)
  have X6 := Lib.hid ((X4.out.keep b5).keep hb6)
  clear b5 hb6 Q4 T4 X4 C10b C10n
  go_upto_region 5 with fail
  generalize w5.alloc (.cells #[.bool false, .string ⟨#[]⟩, .string ⟨#[]⟩, .string ⟨#[]⟩, .slice none 0 0, .slice none 0 0] 30) = W6 at *
  generalize w5.heap.size = nb at *
  have CT := Lib.hid (fun W (h : AwT Aa ca Ak ck tb W) => count_all 10 false emB emB ⟨#[97]⟩ [] ksA Aa 0 ca Ak 1 ck _ W (by decide) (by decide) h.tr)
  have CR := Lib.hid (fun W (h : AwT Aa ca Ak ck tb W) => tright_any false emB emB ⟨#[97]⟩ [] ksA Aa 0 ca Ak 1 ck W h.tr awk_ok (by rw [awk_evs]; exact awk_rgb))
  obtain ⟨d0, d1, d2, d3, d4, d5⟩ := cells6 T6.out.box
  obtain ⟨u, ux, us, ul, ua, uk, b1, o1, u1, u2, u3, u4, u5, u6, ed, hA, hb1, x6, XX⟩ := T6.out.tr.ks.at_ (k := 0) (by decide)
  have ed2 : Fo.cons true ⟨#[120]⟩ emB emB [] .nil .nil = Fo.cons u ux us ul ua uk (ksA.drop 1) := ed
  injection ed2 with z0 z1 z2 z3 z4 z5 z6
  subst z0 z1 z2 z3 z4 z5 hA
  obtain ⟨y0, y1, y2, y3, y4, y5⟩ := x6
  rw [Nat.zero_mul, Nat.add_zero] at y0 y1 y2 y3 y4 y5
  clear ed XX z6
  go_wp2_with fail
  refine (CT.out W6 T6.out).mono ?_
  rintro e w7 ⟨rfl, b7⟩
  have Q7 := Lib.hid (Q6.out.keep b7)
  have T7 := Lib.hid (T6.out.keep b7)
  have X7 := Lib.hid (X6.out.keep b7)
  clear b7 Q6 T6 X6 d0 d1 d2 d3 d4 d5 y0 y1 y2 y3 y4 y5
  obtain ⟨d0, d1, d2, d3, d4, d5⟩ := cells6 T7.out.box
  obtain ⟨p0, p1, p2, p3, p4⟩ := cells5 Q7.out.box
  have r0 := Q7.out.c0
  have r1 := Q7.out.c1
  have hcn : (Fo.cons false emB emB ⟨#[97]⟩ [] ksA .nil).cnt = 2 := rfl
  rw [hcn]
  go_wp2_with fail
  refine (CR.out w7 T7.out).mono ?_
  rintro e w8 ⟨rfl, b8⟩
  have X8 := Lib.hid (X7.out.keep b8)
  have hdd : (!false && decide (depF plF rtF (Fo.cons false emB emB ⟨#[97]⟩ [] ksA .nil).evs = 0)) = true := by rw [awk_evs, awk_dep3]; rfl
  rw [hdd]
  clear b8 Q7 T7 X7
  go_wp2
  go_ret
  exact ⟨rfl, X8.out.bel⟩
end Go.Proofs.Ytaoggciebkaakaa.Ev

/- The document's Whole; Kids of what is no element. -/
set_option linter.unusedSimpArgs false
set_option linter.unusedVariables false
namespace Go.Proofs.Ytaoggciebkaakaa.Ev
open Go.RowKit

set_option maxHeartbeats 4000000 in
set_option maxRecDepth 100000 in
theorem whole_any (pL tR : ByteArray → Bool) (C : Hid (EvC pL tR)) (A : Option Addr) (n c : Nat) (l : List RE) (w : World) (T : EvsIn w A n c l) (hn : n ≤ 500) (hF : ∀ (k : Nat) (x : RE), l[k]? = some x → FewE x) :
    Calls Try.prog 11 #[.slice A n c] w fun e w' => e = .returned (.bool (decide (l ≠ []) && decide (depF pL tR l = 0))) ∧ Below w.heap.size w w' := by
  have CD := Lib.hid (depth_any pL tR C A n c l w T hn hF)
  have hlen := T.len
  clear T hF C
  by_cases h0 : 0 < n
  · have g1 : (0 : Int) < (n : Int) := by omega
    have hne : l ≠ [] := fun e => by rw [e] at hlen; simp at hlen; omega
    rw [decide_eq_true hne, Bool.true_and]
    clear hne hlen
    generalize depF pL tR l = d at *
    go_enter Try.func11, Try.ntmps11
    go_wp2_with fail
    refine CD.out.mono ?_
    rintro e w1 ⟨rfl, hb⟩
    have HB := Lib.hid hb
    clear CD hb
    go_wp2
    go_ret
    exact ⟨rfl, HB.out⟩
  · have h1 : n = 0 := by omega
    have hle : l = [] := List.eq_nil_of_length_eq_zero (by omega)
    subst hle
    clear hlen
    clear CD
    rw [decide_eq_false (show ¬ (([] : List RE) ≠ []) from fun h => h rfl), Bool.false_and]
    have g1 : ¬ (0 : Int) < (n : Int) := by omega
    clear h1 h0
    go_enter Try.func11, Try.ntmps11
    go_wp2
    go_ret
    exact ⟨rfl, Below.refl _ _⟩
set_option maxHeartbeats 4000000 in
set_option maxRecDepth 100000 in
theorem kids_text (A : Option Addr) (n c : Nat) (l : List RE) (at_ : Nat) (x : RE) (w : World) (T : EvsIn w A n c l) (hx : l[at_]? = some x) (hk : x.kind ≠ 1) :
    Calls Try.prog 22 #[.slice A n c, .int .i64 (at_ : Int)] w fun e w' => e = .returned (.slice none 0 0) ∧ w = w' := by
  have hlen : at_ < n := by
    rw [T.len]
    exact (List.getElem?_eq_some_iff.1 hx).1
  obtain ⟨b, off, Aa, na, ca, hA, hbl, TA, c0, c1, c2, c3, c4⟩ := T.rd _ _ hx
  subst hA
  have g1 : (at_ : Int) < (n : Int) := by omega
  have g0 : (0 : Int) ≤ (at_ : Int) := by omega
  clear T hx TA c1 c2 c3 c4
  generalize x.kind = kd at *
  go_enter Try.func22, Try.ntmps22
  go_wp2
  go_ret
  exact ⟨rfl, rfl⟩
end Go.Proofs.Ytaoggciebkaakaa.Ev

/- Same of a tree and itself. -/
set_option linter.unusedSimpArgs false
set_option linter.unusedVariables false
namespace Go.Proofs.Ytaoggciebkaakaa.Ev
open Go.RowKit

theorem eqn_refl (a : ByteArray × ByteArray) : eqn a a = true := by simp [eqn]
theorem eq3_refl (a : P3) : eq3 a a = true := by simp [eq3, eqn]
theorem zip_self_all (l : List P3) : (l.zip l).all (fun p => eq3 p.1 p.2) = true := by
  induction l with
  | nil => rfl
  | cons x r ih => simp [eq3_refl, ih]
theorem smG_refl : ∀ f : Fo, smG f f = true
  | .nil => rfl
  | .cons t tx sp lo ats ks nx => by
    rw [smG, smG_refl ks, smG_refl nx, eqn_refl, zip_self_all]
    simp
end Go.Proofs.Ytaoggciebkaakaa.Ev

/- TreeOfs, over the contracts. -/
set_option linter.unusedSimpArgs false
set_option linter.unusedVariables false
namespace Go.Proofs.Ytaoggciebkaakaa.Ev
open Go.RowKit

/-- A tree in a box. -/
structure TbX (w : World) (u : Bool) (tx sp lo : ByteArray) (ats : List P3) (ks : Fo) (Aa : Option Addr) (na ca : Nat) (Ak : Option Addr) (nk ck tb : Nat) (W : World) : Prop where
  box : W.heap[tb]? = some (.cells #[.bool u, .string tx, .string sp, .string lo, .slice Aa na ca, .slice Ak nk ck] 30 (0, 0))
  tr : Tr1 (· < W.heap.size) W tx sp lo ats ks Aa na ca Ak nk ck
  bel : Below w.heap.size w W
section
variable {w W W' : World} {u : Bool} {tx sp lo : ByteArray} {ats : List P3} {ks : Fo} {Aa : Option Addr} {na ca : Nat} {Ak : Option Addr} {nk ck tb : Nat}
theorem TbX.keep (h : TbX w u tx sp lo ats ks Aa na ca Ak nk ck tb W) (hb : Below W.heap.size W W') : TbX w u tx sp lo ats ks Aa na ca Ak nk ck tb W' := ⟨(hb.block _ (Array.getElem?_eq_some_iff.1 h.box).1).trans h.box, (h.tr.keep hb).inb, h.bel.trans (hb.mono h.bel.size)⟩
theorem TbX.s6 (h : TbX w u tx sp lo ats ks Aa na ca Ak nk ck tb W) : W.cell? ⟨tb, 0, none⟩ = some (.bool u) ∧ W.cell? ⟨tb, 1, none⟩ = some (.string tx) ∧ W.cell? ⟨tb, 2, none⟩ = some (.string sp) ∧ W.cell? ⟨tb, 3, none⟩ = some (.string lo) ∧ W.cell? ⟨tb, 4, none⟩ = some (.slice Aa na ca) ∧ W.cell? ⟨tb, 5, none⟩ = some (.slice Ak nk ck) := cells6 h.box
theorem TbX.mk' {P : Nat → Prop} (hb : Below w.heap.size w W) (ht : Tr1 P W tx sp lo ats ks Aa na ca Ak nk ck) : TbX w u tx sp lo ats ks Aa na ca Ak nk ck W.heap.size (W.alloc (.cells #[.bool u, .string tx, .string sp, .string lo, .slice Aa na ca, .slice Ak nk ck] 30)) := by
  have h := (Below.refl W.heap.size W).alloc (Nat.le_refl _) (.cells #[.bool u, .string tx, .string sp, .string lo, .slice Aa na ca, .slice Ak nk ck] 30)
  exact ⟨nblk W 30 _, (ht.keep h).inb, hb.trans (h.mono hb.size)⟩
end
theorem zero_tr (P : Nat → Prop) (W : World) : Tr1 P W emB emB emB [] .nil none 0 0 none 0 0 := ⟨⟨lim_maxLen em_lim', lim_maxLen em_lim', lim_maxLen em_lim'⟩, attsNil _, fun h => absurd h (Nat.lt_irrefl 0), ksNil _ _⟩
/-- The document's Tree of a document. -/
theorem doc_tree_at {w : World} {A : Option Addr} {n c : Nat} {l : List RE} (T : EvsIn w A n c l) (hn : n ≤ 100000) {sp lo : ByteArray} {ats : List P3} {ks : Fo} (hl : l = (Fo.cons false emB sp lo ats ks .nil).evs) (hp : ks.pln = ks) : ∀ W, Below w.heap.size w W → Calls Try.prog 13 #[.slice A n c, .int .i64 0] W fun e w' => ∃ Aa na ca Ak nk ck, e = .returned (.agg #[.bool false, .string emB, .string sp, .string lo, .slice Aa na ca, .slice Ak nk ck]) ∧ Tr1 (fun _ => True) w' emB sp lo ats ks Aa na ca Ak nk ck ∧ Below W.heap.size W w' := fun W hW => by
  refine (tree_all T hn (ks.siz + 1) [] [] false emB sp lo ats ks (Nat.lt_succ_self _) (by rw [hl]; simp) W hW).mono fun e w' h => ?_
  obtain ⟨t, tx, sp', lo', ats', ks', Aa, na, ca, Ak, nk, ck, e1, e2, e3, e4⟩ := h
  rw [Fo.pln, if_neg (by decide), hp] at e1
  injection e1 with q0 q1 q2 q3 q4 q5 _
  subst q0 q1 q2 q3 q4 q5
  exact ⟨Aa, na, ca, Ak, nk, ck, e2, e3.mono fun _ _ => trivial, e4⟩
theorem same_refl (t : Bool) (tx sp lo : ByteArray) (ats : List P3) (ks : Fo) (Aa : Option Addr) (na ca : Nat) (Ak : Option Addr) (nk ck : Nat) (Aa' : Option Addr) (na' ca' : Nat) (Ak' : Option Addr) (nk' ck' : Nat) (P Q : Nat → Prop) (W : World) (h1 : Tr1 P W tx sp lo ats ks Aa na ca Ak nk ck) (h2 : Tr1 Q W tx sp lo ats ks Aa' na' ca' Ak' nk' ck') :
    Calls Try.prog 12 #[.agg #[.bool t, .string tx, .string sp, .string lo, .slice Aa na ca, .slice Ak nk ck], .agg #[.bool t, .string tx, .string sp, .string lo, .slice Aa' na' ca', .slice Ak' nk' ck']] W fun e w' => e = .returned (.bool true) ∧ Below W.heap.size W w' := by
  have h := same_all (ks.siz + 1) t tx sp lo ats ks Aa na ca Ak nk ck t tx sp lo ats ks Aa' na' ca' Ak' nk' ck' P Q W (Nat.lt_succ_self _) h1 h2
  rw [smG_refl] at h
  exact h
set_option maxHeartbeats 4000000 in
set_option maxRecDepth 100000 in
theorem ofs_law (A : Option Addr) (n c : Nat) (l : List RE) (w : World) (T : EvsIn w A n c l) : Calls Try.prog 3 #[.slice A n c] w fun e w' => e = .returned (.bool true) ∧ Below w.heap.size w w' := by
  have HAw := Lib.hid awake_any
  have HF : Hid (∀ W, Below w.heap.size w W → Calls Try.prog 9 #[.slice A n c] W (FwPost l W)) := Lib.hid fun W hW => few_any A n c l W (T.keep hW)
  have HT := Lib.hid T
  clear T
  go_enter Try.func3, Try.ntmps3
  go_wp2_with fail
  refine (HAw.out w).mono ?_
  rintro e w1 ⟨rfl, b1⟩
  have HB1 := Lib.hid b1
  clear b1
  go_wp2_with fail
  refine (HF.out w1 HB1.out).mono ?_
  rintro e w2 ⟨bf, rfl, hf, rfl⟩
  cases bf with
  | false =>
    clear hf HF
    go_wp2_with fail
    refine (HAw.out w1).mono ?_
    rintro e w3 ⟨rfl, b3⟩
    have HB3 := Lib.hid (HB1.out.trans (b3.mono HB1.out.size))
    clear b3
    go_wp2
    go_ret
    exact ⟨rfl, HB3.out⟩
  | true =>
    obtain ⟨hl4, hfe⟩ := hf rfl
    have hn4 : n ≤ 400 := by rw [HT.out.len]; exact hl4
    have HE := Lib.hid hfe
    have hB : ∀ x ∈ l, RgB x := fun x hx => by
      obtain ⟨k, hk⟩ := List.getElem?_of_mem hx
      exact few_rgb (hfe k x hk)
    have HR := Lib.hid hB
    have CO := Lib.hid (tof_any A n c l w1 (HT.out.keep HB1.out) (by omega) hB)
    have CWh : Hid (∀ W, Below w.heap.size w W → Calls Try.prog 11 #[.slice A n c] W fun e w' => e = .returned (.bool (decide (l ≠ []) && decide (depF plF rtF l = 0))) ∧ Below W.heap.size W w') := Lib.hid fun W hW => whole_any plF rtF (Lib.hid ev_all) A n c l W (HT.out.keep hW) (by omega) HE.out
    clear hl4 hfe hB hf HF HAw
    by_cases hW : depF plF rtF l = 0 ∧ 0 < n
    · have hne : l ≠ [] := fun e => by have := HT.out.len; rw [e, List.length_nil] at this; omega
      obtain ⟨sp, lo, ats, ks, hl, hp⟩ := doc_tree hW.1 hne
      have CW2 : Hid (∀ W, Below w.heap.size w W → Calls Try.prog 11 #[.slice A n c] W fun e w' => e = .returned (.bool true) ∧ Below W.heap.size W w') := Lib.hid fun W h => by
        have q := CWh.out W h
        rw [decide_eq_true hne, decide_eq_true hW.1] at q
        exact q
      have CT := Lib.hid (doc_tree_at HT.out (by omega) hl hp)
      have CO2 : Hid (Calls Try.prog 10 #[.slice A n c] w1 fun e w' => ∃ Aa na ca Ak nk ck, e = .returned (.tuple #[.agg #[.bool false, .string emB, .string sp, .string lo, .slice Aa na ca, .slice Ak nk ck], .bool true]) ∧ Tr1 (Lo w1.heap.size w') w' emB sp lo ats ks Aa na ca Ak nk ck ∧ Below w1.heap.size w1 w') := Lib.hid (CO.out.mono fun e w' h => of_at h hl hp hW.1 hW.2)
      clear hW hne hl hp CO CWh
      go_wp2_with fail
      refine CO2.out.mono ?_
      rintro e w2 ⟨Aa, na, ca, Ak, nk, ck, rfl, tr, b2⟩
      have X2 : Hid (TbX w false emB sp lo ats ks Aa na ca Ak nk ck w2.heap.size (w2.alloc (.cells #[.bool false, .string emB, .string sp, .string lo, .slice Aa na ca, .slice Ak nk ck] 30))) := Lib.hid (TbX.mk' (HB1.out.trans (b2.mono HB1.out.size)) tr)
      clear tr b2 CO2
      go_upto_region 4 with fail
      generalize w2.alloc (.cells #[.bool false, .string emB, .string sp, .string lo, .slice Aa na ca, .slice Ak nk ck] 30) = W2 at *
      generalize w2.heap.size = tb at *
      go_wp2_with fail
      refine (CW2.out W2 X2.out.bel).mono ?_
      rintro e w3 ⟨rfl, b3⟩
      have X3 := Lib.hid ((X2.out.keep b3).keep (Below.refl _ w3).drew)
      clear b3 CW2 X2
      go_wp2_with fail
      go_region_held3 (fun W => W.cell? ⟨tb, 0, none⟩ = some (.bool false) ∧ W.cell? ⟨tb, 1, none⟩ = some (.string emB) ∧ W.cell? ⟨tb, 2, none⟩ = some (.string sp) ∧ W.cell? ⟨tb, 3, none⟩ = some (.string lo) ∧ W.cell? ⟨tb, 4, none⟩ = some (.slice Aa na ca) ∧ W.cell? ⟨tb, 5, none⟩ = some (.slice Ak nk ck))
        (first
          | with_reducible exact X3.out.s6
          | with_reducible exact X4.out.s6
          | with_reducible exact X5.out.s6
          | fail)
        (first
          | (go_at_call 13
             refine (CT.out w3.drew X3.out.bel).mono ?_
             rintro e w4 ⟨Aa', na', ca', Ak', nk', ck', rfl, tr4, b4⟩
             have X4 := Lib.hid (X3.out.keep b4)
             have R4 := Lib.hid tr4
             clear b4 tr4)
          | (go_at_call 12
             refine (same_refl false emB sp lo ats ks Aa na ca Ak nk ck Aa' na' ca' Ak' nk' ck' _ _ w4 X4.out.tr R4.out).mono ?_
             rintro e w5 ⟨rfl, b5⟩
             have X5 := Lib.hid (X4.out.keep b5)
             clear b5)
          | fail)
      all_goals
        rename_i hHeld
        clear hHeld
        go_wp2
        go_ret
        exact ⟨rfl, X5.out.bel⟩
    · have CW2 : Hid (∀ W, Below w.heap.size w W → Calls Try.prog 11 #[.slice A n c] W fun e w' => e = .returned (.bool false) ∧ Below W.heap.size W w') := Lib.hid fun W h => by
        have q := CWh.out W h
        have e : (decide (l ≠ []) && decide (depF plF rtF l = 0)) = false := by
          by_cases hd : depF plF rtF l = 0
          · have h0 : l = [] := by
              have : ¬ 0 < n := fun h => hW ⟨hd, h⟩
              exact List.eq_nil_of_length_eq_zero (by have := HT.out.len; omega)
            rw [decide_eq_false (fun h => h h0), Bool.false_and]
          · rw [decide_eq_false hd, Bool.and_false]
        rw [e] at q
        exact q
      have CO2 : Hid (Calls Try.prog 10 #[.slice A n c] w1 fun e w' => e = .returned (.tuple #[.agg #[.bool false, .string ⟨#[]⟩, .string ⟨#[]⟩, .string ⟨#[]⟩, .slice none 0 0, .slice none 0 0], .bool false]) ∧ Below w1.heap.size w1 w') := Lib.hid (CO.out.mono fun e w' h => ⟨h.2.1 hW, h.1⟩)
      clear hW CO CWh
      go_wp2_with fail
      refine CO2.out.mono ?_
      rintro e w2 ⟨rfl, b2⟩
      have X2 : Hid (TbX w false emB emB emB [] .nil none 0 0 none 0 0 w2.heap.size (w2.alloc (.cells #[.bool false, .string ⟨#[]⟩, .string ⟨#[]⟩, .string ⟨#[]⟩, .slice none 0 0, .slice none 0 0] 30))) := Lib.hid (TbX.mk' (P := fun _ => True) (HB1.out.trans (b2.mono HB1.out.size)) (zero_tr _ _))
      clear b2 CO2
      go_upto_region 4 with fail
      generalize w2.alloc (.cells #[.bool false, .string ⟨#[]⟩, .string ⟨#[]⟩, .string ⟨#[]⟩, .slice none 0 0, .slice none 0 0] 30) = W2 at *
      generalize w2.heap.size = tb at *
      go_wp2_with fail
      refine (CW2.out W2 X2.out.bel).mono ?_
      rintro e w3 ⟨rfl, b3⟩
      have X3 := Lib.hid (X2.out.keep b3)
      obtain ⟨d0, d1, d2, d3, d4, d5⟩ := X3.out.s6
      have CS := Lib.hid (same_refl false emB emB emB [] .nil none 0 0 none 0 0 none 0 0 none 0 0 _ _ w3 X3.out.tr X3.out.tr)
      unfold emB at d1 d2 d3 CS
      clear b3 CW2 X2
      go_wp2_with fail
      refine CS.out.mono ?_
      rintro e w5 ⟨rfl, b5⟩
      have X5 := Lib.hid (X3.out.keep b5)
      clear b5 CS X3 d0 d1 d2 d3 d4 d5
      go_wp2
      go_ret
      exact ⟨rfl, X5.out.bel⟩
end Go.Proofs.Ytaoggciebkaakaa.Ev

/- TreeKeeps, over the contracts. -/
set_option linter.unusedSimpArgs false
set_option linter.unusedVariables false
namespace Go.Proofs.Ytaoggciebkaakaa.Ev
open Go.RowKit

/-- Events of the call's own, whose attributes are spoilt. -/
structure SpX (W1 : World) (A : Option Addr) (c : Nat) (Q : List PE) (wr : World) : Prop where
  own : wr.ownsRow W1.heap.size 38 5 (.slice A Q.length c) Q.length (peL Q)
  blk : ∀ p ∈ Q, ∃ xs, wr.ownsRow W1.heap.size 52 3 (.slice p.2.1 p.2.2.1 p.2.2.2) p.2.2.1 xs
  bel : Below W1.heap.size W1 wr
  sml : ∀ p ∈ Q, p.2.2.1 ≤ 100000
section
variable {W1 wr : World} {A : Option Addr} {c : Nat} {Q : List PE}
theorem SpX.at_ (h : SpX W1 A c Q wr) {i : Nat} {p : PE} (hp : Q[i]? = some p) : ∃ ga, A = some ⟨ga, 0, none⟩ ∧ wr.cell? ⟨ga, i * 5 + 3, none⟩ = some (.slice p.2.1 p.2.2.1 p.2.2.2) := by
  have hi := (List.getElem?_eq_some_iff.1 hp).1
  obtain ⟨ga, cap, e, _⟩ := h.own.form (by omega)
  injection e with e1 e2 e3
  refine ⟨ga, e1, ?_⟩
  have ho := h.own
  rw [e1] at ho
  have := World.ownsRow.cells ho (g := ga) rfl (i * 5 + 3) _ ((peL_get Q i 3 p hp (by decide)).trans rfl)
  rw [add_at] at this
  exact this
theorem SpX.attr (h : SpX W1 A c Q wr) {i k : Nat} {p : PE} (hp : Q[i]? = some p) (hk : k < p.2.2.1) : ∃ g u, p.2.1 = some ⟨g, 0, none⟩ ∧ wr.cell? ⟨g, k * 3 + 2, none⟩ = some u ∧ wr.frozen? ⟨g, k * 3 + 2, none⟩ = false ∧ W1.heap.size ≤ g ∧ ∀ x, SpX W1 A c Q (wr.setCell ⟨g, k * 3 + 2, none⟩ x) := by
  obtain ⟨xs, ho⟩ := h.blk p (List.mem_of_getElem? hp)
  obtain ⟨g, cap, e, hb, hg⟩ := ho.form (by omega)
  injection e with e1 e2 e3
  have hx : k * 3 + 2 < xs.length := by rw [ho.1]; omega
  have ho' := ho
  rw [e1] at ho'
  refine ⟨g, xs[k * 3 + 2], e1, ?_, World.ownsRow.frozenAt ho' _, hb, fun x => ?_⟩
  · have := World.ownsRow.cells ho' (g := g) rfl (k * 3 + 2) _ (List.getElem?_eq_getElem hx)
    rw [add_at] at this
    exact this
  · obtain ⟨k1, k2⟩ := World.ownsRow.stored ho' (k * 3 + 2) x
    have hcell : ∃ cs, wr.heap[g]? = some (.cells cs 52 (0, 0)) := by
      rcases ho'.2 with ⟨q, _⟩ | ⟨g', cap', cur, q, _, hg', _⟩
      · cases q
      · injection q with q1
        injection q1 with q1
        injection q1 with q1
        subst q1
        exact ⟨_, hg'⟩
    obtain ⟨cs, hcs⟩ := hcell
    refine ⟨World.ownsRow.kept h.own k2 (own_blk h.own hcs (by decide)), fun q hq => ?_, h.bel.setCell hb x, h.sml⟩
    obtain ⟨ys, hy⟩ := h.blk q hq
    by_cases hqg : (Value.slice q.2.1 q.2.2.1 q.2.2.2).ownBlock = some g
    · rcases hy.2 with ⟨z, _⟩ | ⟨g', cap', cur, z, zr⟩
      · rw [z] at hqg
        cases hqg
      · rw [z] at hqg
        have hqg : some g' = some g := hqg
        injection hqg with hqg
        subst hqg
        rw [z] at hy ⊢
        exact ⟨_, (World.ownsRow.stored hy (k * 3 + 2) x).1⟩
    · exact ⟨ys, World.ownsRow.kept hy k2 (.inr hqg)⟩
end
set_option maxHeartbeats 4000000 in
set_option maxRecDepth 100000 in
theorem keeps_law (A : Option Addr) (n c : Nat) (l : List RE) (w : World) (T : EvsIn w A n c l) : Calls Try.prog 7 #[.slice A n c] w fun e w' => e = .returned (.bool true) ∧ Below w.heap.size w w' := by
  have HAw := Lib.hid awake_any
  have HF : Hid (∀ W, Below w.heap.size w W → Calls Try.prog 9 #[.slice A n c] W (FwPost l W)) := Lib.hid fun W hW => few_any A n c l W (T.keep hW)
  have HT := Lib.hid T
  clear T
  go_enter Try.func7, Try.ntmps7
  go_wp2_with fail
  refine (HAw.out w).mono ?_
  rintro e w1 ⟨rfl, b1⟩
  have HB1 := Lib.hid b1
  clear b1
  go_wp2_with fail
  refine (HF.out w1 HB1.out).mono ?_
  rintro e w2 ⟨bf, rfl, hf, rfl⟩
  cases bf with
  | false =>
    clear hf HF
    go_wp2_with fail
    refine (HAw.out w1).mono ?_
    rintro e w3 ⟨rfl, b3⟩
    have HB3 := Lib.hid (HB1.out.trans (b3.mono HB1.out.size))
    clear b3
    go_wp2
    go_ret
    exact ⟨rfl, HB3.out⟩
  | true =>
    obtain ⟨hl4, hfe⟩ := hf rfl
    have hn4 : n ≤ 400 := by rw [HT.out.len]; exact hl4
    have hB : ∀ x ∈ l, RgB x := fun x hx => by
      obtain ⟨k, hk⟩ := List.getElem?_of_mem hx
      exact few_rgb (hfe k x hk)
    have CO := Lib.hid (tof_any A n c l w1 (HT.out.keep HB1.out) (by omega) hB)
    have HBl := Lib.hid hB
    clear hfe hB hf HF HAw
    by_cases hW : depF plF rtF l = 0 ∧ 0 < n
    · have hne : l ≠ [] := fun e => by have := HT.out.len; rw [e, List.length_nil] at this; omega
      obtain ⟨sp, lo, ats, ks, hl, hp⟩ := doc_tree hW.1 hne
      have hpl : (Fo.cons false emB sp lo ats ks .nil).pln = .cons false emB sp lo ats ks .nil := by
        rw [Fo.pln, if_neg (by decide), hp]
        rfl
      have hS : SpOk (Fo.cons false emB sp lo ats ks .nil) := by
        refine ⟨?_, by rw [← hl]; omega, by rw [← hl]; exact doc_lim hW.1 HBl.out⟩
        have := siz_pln (Fo.cons false emB sp lo ats ks .nil)
        rw [hpl, ← hl] at this
        omega
      have hcn : (Fo.cons false emB sp lo ats ks .nil).cnt ≤ 1000 := by
        rw [← num_evs, ← hl]
        have := num_le l
        omega
      have hc1 : 1 ≤ (Fo.cons false emB sp lo ats ks .nil).cnt := by rw [cnt_cons]; omega
      have CO2 : Hid (Calls Try.prog 10 #[.slice A n c] w1 fun e w' => ∃ Aa na ca Ak nk ck, e = .returned (.tuple #[.agg #[.bool false, .string emB, .string sp, .string lo, .slice Aa na ca, .slice Ak nk ck], .bool true]) ∧ Tr1 (Lo w1.heap.size w') w' emB sp lo ats ks Aa na ca Ak nk ck ∧ Below w1.heap.size w1 w') := Lib.hid (CO.out.mono fun e w' h => of_at h hl hp hW.1 hW.2)
      have CM : Hid (∀ W Aa na ca Ak nk ck, Tr1 (· < W.heap.size) W emB sp lo ats ks Aa na ca Ak nk ck → Calls Try.prog 20 #[.agg #[.bool false, .string emB, .string sp, .string lo, .slice Aa na ca, .slice Ak nk ck]] W fun e w' => ∃ g0 m0 k0 A1 m1 k1 A2 m2 k2 A3 m3 k3 A4 m4 k4, e = .returned (.agg #[.slice (some ⟨g0, 0, none⟩) m0 k0, .slice A1 m1 k1, .slice A2 m2 k2, .slice A3 m3 k3, .slice A4 m4 k4]) ∧ 1 ≤ m0 ∧ W.heap.size ≤ g0 ∧ w'.cell? ⟨g0, 0, none⟩ = some (.int .i64 (-1)) ∧ w'.frozen? ⟨g0, 0, none⟩ = false ∧ Below W.heap.size W w') := Lib.hid fun W Aa na ca Ak nk ck tr => by
        refine (tmake_any false emB sp lo ats ks Aa na ca Ak nk ck W tr hcn).mono ?_
        rintro e w' ⟨v, v4, rfl, P, b⟩
        have o0 := P.own 0 (by decide)
        obtain ⟨g0, k0, e0, hg, hgl⟩ := o0.form (by omega)
        obtain ⟨A1, m1, k1, e1⟩ := own_any (P.own 1 (by decide))
        obtain ⟨A2, m2, k2, e2⟩ := own_any (P.own 2 (by decide))
        obtain ⟨A3, m3, k3, e3⟩ := own_any (P.own 3 (by decide))
        obtain ⟨A4, k4, e4, _⟩ := P.tr
        rw [e0] at o0
        have q0 := World.ownsRow.cells o0 (g := g0) rfl 0 (.int .i64 (-1)) (by
          show ((Fo.parL (Fo.cons false emB sp lo ats ks .nil) 0 (-1)).map (Value.int .i64))[0]? = _
          rw [par_cons]
          rfl)
        rw [add_at] at q0
        exact ⟨g0, _, k0, A1, m1, k1, A2, m2, k2, A3, m3, k3, A4, _, k4, by rw [e0, e1, e2, e3, e4], hc1, hg, q0, World.ownsRow.frozenAt o0 0, b⟩
      have CWd : Hid (∀ W Aa na ca Ak nk ck, Tr1 (· < W.heap.size) W emB sp lo ats ks Aa na ca Ak nk ck → Calls Try.prog 17 #[.agg #[.bool false, .string emB, .string sp, .string lo, .slice Aa na ca, .slice Ak nk ck]] W fun e w' => ∃ A' c' Q, e = .returned (.slice A' Q.length c') ∧ EvO w' W.heap.size (.slice A' Q.length c') Q ∧ Q.map (·.1) = l ∧ Below W.heap.size W w') := Lib.hid fun W Aa na ca Ak nk ck tr => by
        have h := tword_any false emB sp lo ats ks Aa na ca Ak nk ck W tr hS
        rw [← hl] at h
        exact h
      clear hW hne hl hp CO hpl hS hcn hc1
      go_wp2_with fail
      refine CO2.out.mono ?_
      rintro e w2 ⟨Aa, na, ca, Ak, nk, ck, rfl, tr, b2⟩
      have X2 : Hid (TbX w false emB sp lo ats ks Aa na ca Ak nk ck w2.heap.size (w2.alloc (.cells #[.bool false, .string emB, .string sp, .string lo, .slice Aa na ca, .slice Ak nk ck] 30))) := Lib.hid (TbX.mk' (HB1.out.trans (b2.mono HB1.out.size)) tr)
      clear tr b2 CO2
      go_upto_region 4 with fail
      generalize w2.alloc (.cells #[.bool false, .string emB, .string sp, .string lo, .slice Aa na ca, .slice Ak nk ck] 30) = W2 at *
      generalize w2.heap.size = tb at *
      obtain ⟨d0, d1, d2, d3, d4, d5⟩ := X2.out.s6
      go_wp2_with fail
      refine (CWd.out W2 _ _ _ _ _ _ X2.out.tr).mono ?_
      rintro e w3 ⟨A3, c3, Q, rfl, o3, m3, b3⟩
      have S3 : Hid (SpX W2 A3 c3 Q w3) := Lib.hid ⟨o3.own, fun p hp => ⟨_, (o3.blk p hp).1⟩, b3, fun p hp => by rw [(o3.blk p hp).2.1]; exact (o3.blk p hp).2.2.cnt⟩
      have hq4 : Q.length ≤ 400 := by rw [← List.length_map, m3]; exact hl4
      clear o3 m3 b3 d0 d1 d2 d3 d4 d5
      generalize hq : Q.length = q at *
      have HQ := Lib.hid hq
      clear hq
      go_wp2_with fail
      go_loopw [6] (fun i wr => ∃ k : Nat, i = .int .i64 k ∧ k ≤ q ∧ Hid (SpX W2 A3 c3 Q wr)) (fun i _ => q - (intOf i).toNat)
      case atStart => exact ⟨0, rfl, Nat.zero_le _, S3⟩
      case round =>
        clear S3
        obtain ⟨i, rfl, hi, HS⟩ := hrel
        by_cases hlt : i < q
        · have g1 : (i : Int) < (q : Int) := by omega
          have g0 : (0 : Int) ≤ (i : Int) := by omega
          have hpi := List.getElem?_eq_getElem (show i < Q.length by rw [HQ.out]; exact hlt)
          have HPi := Lib.hid hpi
          generalize Q[i]'_ = p at *
          obtain ⟨px, pA, pn, pc⟩ := p
          have HKi : Hid (∀ wr, SpX W2 A3 c3 Q wr → ∃ ga, A3 = some ⟨ga, 0, none⟩ ∧ wr.cell? ⟨ga, i * 5 + 3, none⟩ = some (.slice pA pn pc)) := Lib.hid fun wr h => h.at_ HPi.out
          have HKk : Hid (∀ wr k, SpX W2 A3 c3 Q wr → k < pn → ∃ g u, pA = some ⟨g, 0, none⟩ ∧ wr.cell? ⟨g, k * 3 + 2, none⟩ = some u ∧ wr.frozen? ⟨g, k * 3 + 2, none⟩ = false ∧ W2.heap.size ≤ g ∧ ∀ x, SpX W2 A3 c3 Q (wr.setCell ⟨g, k * 3 + 2, none⟩ x)) := Lib.hid fun wr k h hk => h.attr HPi.out hk
          have hpn : pn ≤ 100000 := HS.out.sml _ (List.mem_of_getElem? HPi.out)
          obtain ⟨ga, rfl, c5⟩ := HKi.out wr HS.out
          clear hpi HPi
          go_wp2_with fail
          go_loopw [7] (fun v7 wx => ∃ k : Nat, v7 = .int .i64 k ∧ k ≤ pn ∧ Hid (SpX W2 (some ⟨ga, 0, none⟩) c3 Q wx)) (fun v7 _ => pn - (intOf v7).toNat)
          case atStart => exact ⟨0, rfl, Nat.zero_le _, HS⟩
          case round =>
            clear HS c5
            obtain ⟨k, rfl, hk, HS⟩ := hrel
            obtain ⟨ga', hga, c5⟩ := HKi.out _ HS.out
            injection hga with hga
            injection hga with hga
            subst hga
            by_cases hkl : k < pn
            · have j1 : (k : Int) < (pn : Int) := by omega
              have j0 : (0 : Int) ≤ (k : Int) := by omega
              obtain ⟨g, u, rfl, c7, f7, hg, hS⟩ := HKk.out _ k HS.out hkl
              have HS2 := Lib.hid (hS (.string ⟨#[115, 112, 111, 105, 108, 116]⟩))
              clear hS HS
              go_wp2
              go_roundw
              case rel => exact ⟨k + 1, by go_num, by omega, HS2⟩
              case measure => simp only [intOf]; omega
            · have j1 : ¬ (k : Int) < (pn : Int) := by omega
              go_wp2
              go_roundw
              case rel => exact ⟨i + 1, by go_num, by omega, HS⟩
              case measure => simp only [intOf]; omega
        · have g1 : ¬ (i : Int) < (q : Int) := by omega
          have X4 := Lib.hid (X2.out.keep HS.out.bel)
          obtain ⟨d0, d1, d2, d3, d4, d5⟩ := X4.out.s6
          have C5 := Lib.hid (CM.out wr _ _ _ _ _ _ X4.out.tr)
          clear HS X2
          go_wp2_with fail
          refine C5.out.mono ?_
          rintro e w5 ⟨g5, m5, k5, A51, m51, k51, A52, m52, k52, A53, m53, k53, A54, m54, k54, rfl, hm5, hg5, q5, f5, b5⟩
          have hb6 := (Below.refl w5.heap.size w5).alloc (Nat.le_refl _) (.cells #[.slice (some ⟨g5, 0, none⟩) m5 k5, .slice A51 m51 k51, .slice A52 m52 k52, .slice A53 m53 k53, .slice A54 m54 k54] 43)
          have b6 := b5.trans (hb6.mono b5.size)
          have hN6 := nblk w5 43 #[.slice (some ⟨g5, 0, none⟩) m5 k5, .slice A51 m51 k51, .slice A52 m52 k52, .slice A53 m53 k53, .slice A54 m54 k54]
          have N6 := Lib.hid hN6
          have q6 := cell_lt q5 hb6
          have f6 : (w5.alloc (.cells #[.slice (some ⟨g5, 0, none⟩) m5 k5, .slice A51 m51 k51, .slice A52 m52 k52, .slice A53 m53 k53, .slice A54 m54 k54] 43)).frozen? ⟨g5, 0, none⟩ = false := (hb6.frozen (p := ⟨g5, 0, none⟩) (Lib.lt_of_cell q5)).trans f5
          have X7 := Lib.hid (X4.out.keep (b6.setCell (p := ⟨g5, 0, none⟩) hg5 (.int .i64 7)))
          have i5 : (0 : Int) < (m5 : Int) := by omega
          clear b5 hb6 b6 q5 f5 hN6 C5 X4 d0 d1 d2 d3 d4 d5
          go_upto_region 15 with fail
          generalize w5.alloc (.cells #[.slice (some ⟨g5, 0, none⟩) m5 k5, .slice A51 m51 k51, .slice A52 m52 k52, .slice A53 m53 k53, .slice A54 m54 k54] 43) = W6 at *
          generalize w5.heap.size = pb at *
          obtain ⟨c0, _, _, _, _⟩ := cells5 N6.out
          go_upto_region 16 with fail
          generalize W6.setCell ⟨g5, 0, none⟩ (.int .i64 7) = W7 at *
          clear c0 q6 f6 N6
          obtain ⟨d0, d1, d2, d3, d4, d5⟩ := X7.out.s6
          have C7 := Lib.hid (CM.out W7 _ _ _ _ _ _ X7.out.tr)
          go_wp2_with fail
          refine C7.out.mono ?_
          rintro e w7 ⟨g7, m7, k7, A71, m71, k71, A72, m72, k72, A73, m73, k73, A74, m74, k74, rfl, hm7, hg7, q7, f7, b7⟩
          have hb8 := (Below.refl w7.heap.size w7).alloc (Nat.le_refl _) (.cells #[.slice (some ⟨g7, 0, none⟩) m7 k7, .slice A71 m71 k71, .slice A72 m72 k72, .slice A73 m73 k73, .slice A74 m74 k74] 43)
          have N8 := Lib.hid (nblk w7 43 #[.slice (some ⟨g7, 0, none⟩) m7 k7, .slice A71 m71 k71, .slice A72 m72 k72, .slice A73 m73 k73, .slice A74 m74 k74])
          have Q8 := Lib.hid (cell_lt q7 hb8)
          have X8 := Lib.hid ((X7.out.keep b7).keep hb8)
          have i7 : (0 : Int) < (m7 : Int) := by omega
          clear b7 hb8 q7 f7 C7 X7 d0 d1 d2 d3 d4 d5
          go_upto_region 17 with fail
          generalize w7.alloc (.cells #[.slice (some ⟨g7, 0, none⟩) m7 k7, .slice A71 m71 k71, .slice A72 m72 k72, .slice A73 m73 k73, .slice A74 m74 k74] 43) = W8 at *
          generalize w7.heap.size = qb at *
          obtain ⟨d0, d1, d2, d3, d4, d5⟩ := X8.out.s6
          have C8 := Lib.hid (CWd.out W8 _ _ _ _ _ _ X8.out.tr)
          go_wp2_with fail
          refine C8.out.mono ?_
          rintro e w9 ⟨A9, c9, Q9, rfl, o9, m9, b9⟩
          have X9 := Lib.hid (X8.out.keep b9)
          have N9 := Lib.hid ((b9.block _ (Array.getElem?_eq_some_iff.1 N8.out).1).trans N8.out)
          have Q9' := Lib.hid (cell_lt Q8.out b9)
          have T9 := o9.evs rfl (by rw [← List.length_map, m9]; omega)
          rw [m9] at T9
          have hQn : Q9.length = n := by rw [HT.out.len, ← m9, List.length_map]
          have CSm := same_any l n A9 A c9 c w9 (by rw [← hQn]; exact T9) (HT.out.keep X9.out.bel)
          rw [hQn]
          have C9 := Lib.hid CSm
          clear CSm T9 o9 m9 b9 hQn X8 N8 Q8 C8 d0 d1 d2 d3 d4 d5
          go_wp2_with fail
          refine C9.out.mono ?_
          rintro e w10 ⟨rfl, b10⟩
          have X10 := Lib.hid (X9.out.keep b10)
          obtain ⟨c0, _, _, _, _⟩ := cells5 ((b10.block _ (Array.getElem?_eq_some_iff.1 N9.out).1).trans N9.out)
          have q10 := cell_lt Q9'.out b10
          clear b10 C9 X9 N9 Q9'
          go_wp2
          go_ret
          exact ⟨rfl, X10.out.bel⟩
    · have CO2 : Hid (Calls Try.prog 10 #[.slice A n c] w1 fun e w' => e = .returned (.tuple #[.agg #[.bool false, .string ⟨#[]⟩, .string ⟨#[]⟩, .string ⟨#[]⟩, .slice none 0 0, .slice none 0 0], .bool false]) ∧ Below w1.heap.size w1 w') := Lib.hid (CO.out.mono fun e w' h => ⟨h.2.1 hW, h.1⟩)
      clear hW CO
      go_wp2_with fail
      refine CO2.out.mono ?_
      rintro e w2 ⟨rfl, b2⟩
      have HB3 := Lib.hid ((HB1.out.trans (b2.mono HB1.out.size)).alloc (Nat.le_trans HB1.out.size b2.size) (.cells #[.bool false, .string ⟨#[]⟩, .string ⟨#[]⟩, .string ⟨#[]⟩, .slice none 0 0, .slice none 0 0] 30))
      clear b2 CO2
      go_wp2
      go_ret
      exact ⟨rfl, HB3.out⟩
end Go.Proofs.Ytaoggciebkaakaa.Ev

/- The nodes of a document's tree, by the places of its events, plain. -/
set_option linter.unusedSimpArgs false
set_option linter.unusedVariables false
namespace Go.Proofs.Ytaoggciebkaakaa.Ev
open Go.RowKit

/-- Node n of a row of trees is this one. -/
structure Nd (f : Fo) (s : Nat) (p : Int) (n : Nat) (t : Bool) (tx sp lo : ByteArray) (ats : List P3) (ks : Fo) : Prop where
  siz : f.sizL[n]? = some ((Fo.cons t tx sp lo ats ks .nil).cnt : Int)
  fst : (f.fstL s)[n]? = some (if (kidF t ks).len = 0 then -1 else ((s + n + 1 : Nat) : Int))
  tre : ∃ nx, f.treL.drop n = .cons t tx sp lo ats ks nx
  par : ∀ j, j < (kidF t ks).len → (f.parL s p)[n + 1 + ((kidF t ks).take j).cnt]? = some ((s + n : Nat) : Int)
  nxt : ∀ j, j < (kidF t ks).len → (f.nxtL s)[n + 1 + ((kidF t ks).take j).cnt]? = some (if j + 1 < (kidF t ks).len then ((s + n + 1 + ((kidF t ks).take (j + 1)).cnt : Nat) : Int) else -1)
theorem top_par : ∀ (f : Fo) (s : Nat) (p : Int) (j : Nat), j < f.len → (f.parL s p)[(f.take j).cnt]? = some p
  | .nil, s, p, j, h => absurd h (Nat.not_lt_zero j)
  | .cons t tx sp lo ats ks nx, s, p, 0, h => by
    rw [par_cons]
    rfl
  | .cons t tx sp lo ats ks nx, s, p, j + 1, h => by
    rw [Fo.len] at h
    rw [par_cons, Fo.take, cnt_cons]
    have e : 1 + (kidF t ks).cnt + (nx.take j).cnt = ((kidF t ks).cnt + (nx.take j).cnt) + 1 := by omega
    rw [e, List.getElem?_cons_succ, List.getElem?_append_right (by rw [par_len]; omega), par_len, Nat.add_sub_cancel_left]
    exact top_par nx _ p j (by omega)
theorem top_nxt : ∀ (f : Fo) (s : Nat) (j : Nat), j < f.len → (f.nxtL s)[(f.take j).cnt]? = some (if j + 1 < f.len then ((s + (f.take (j + 1)).cnt : Nat) : Int) else -1)
  | .nil, s, j, h => absurd h (Nat.not_lt_zero j)
  | .cons t tx sp lo ats ks nx, s, 0, h => by
    rw [nxt_cons]
    show some _ = _
    rw [Fo.len, Fo.take, cnt_cons]
    have h0 : (nx.take 0).cnt = 0 := by cases nx <;> rfl
    rw [h0]
    by_cases q : nx.len = 0
    · rw [if_pos q, if_neg (by omega)]
    · rw [if_neg q, if_pos (by omega)]
      congr 2
      omega
  | .cons t tx sp lo ats ks nx, s, j + 1, h => by
    rw [Fo.len] at h
    rw [nxt_cons, Fo.take, cnt_cons]
    have e : 1 + (kidF t ks).cnt + (nx.take j).cnt = ((kidF t ks).cnt + (nx.take j).cnt) + 1 := by omega
    rw [e, List.getElem?_cons_succ, List.getElem?_append_right (by rw [nxt_len]; omega), nxt_len, Nat.add_sub_cancel_left, top_nxt nx _ j (by omega), Fo.len, Fo.take, cnt_cons]
    by_cases q : j + 1 < nx.len
    · rw [if_pos q, if_pos (by omega)]
      congr 2
      omega
    · rw [if_neg q, if_neg (by omega)]
theorem drop_app_F : ∀ (n : Nat) (f g : Fo) {t : Bool} {tx sp lo : ByteArray} {ats : List P3} {ks nx : Fo}, f.drop n = .cons t tx sp lo ats ks nx → (f.app g).drop n = .cons t tx sp lo ats ks (nx.app g)
  | 0, f, g, t, tx, sp, lo, ats, ks, nx, h => by
    have h : f = .cons t tx sp lo ats ks nx := h
    rw [h]
    rfl
  | n + 1, .nil, g, t, tx, sp, lo, ats, ks, nx, h => by cases h
  | n + 1, .cons _ _ _ _ _ _ nx', g, t, tx, sp, lo, ats, ks, nx, h => drop_app_F n nx' g h
theorem drop_app_R : ∀ (f g : Fo) (n : Nat), (f.app g).drop (f.len + n) = g.drop n
  | .nil, g, n => by rw [Fo.app, Fo.len, Nat.zero_add]
  | .cons _ _ _ _ _ _ nx, g, n => by
    rw [Fo.app, Fo.len, show nx.len + 1 + n = (nx.len + n) + 1 by omega, Fo.drop, drop_app_R nx g n]
section
variable {t0 : Bool} {tx0 sp0 lo0 : ByteArray} {ats0 : List P3} {ks0 nx0 : Fo} {s n : Nat} {p : Int} {t : Bool} {tx sp lo : ByteArray} {ats : List P3} {ks : Fo}
theorem nd_here : Nd (.cons t tx sp lo ats ks nx0) s p 0 t tx sp lo ats ks := by
  refine ⟨?_, ?_, ?_, fun j hj => ?_, fun j hj => ?_⟩
  · rw [siz_cons, cnt_one]
    rfl
  · rw [fst_cons]
    rfl
  · exact ⟨_, tre_cons t tx sp lo ats ks nx0⟩
  · have hl : ((kidF t ks).take j).cnt < (kidF t ks).cnt := by
      have h := (List.getElem?_eq_some_iff.1 (top_par (kidF t ks) 0 0 j hj)).1
      rw [par_len] at h
      exact h
    rw [par_cons, show 0 + 1 + ((kidF t ks).take j).cnt = ((kidF t ks).take j).cnt + 1 by omega, List.getElem?_cons_succ, List.getElem?_append_left (by rw [par_len]; exact hl)]
    exact top_par (kidF t ks) _ _ j hj
  · have hl : ((kidF t ks).take j).cnt < (kidF t ks).cnt := by
      have h := (List.getElem?_eq_some_iff.1 (top_par (kidF t ks) 0 0 j hj)).1
      rw [par_len] at h
      exact h
    rw [nxt_cons, show 0 + 1 + ((kidF t ks).take j).cnt = ((kidF t ks).take j).cnt + 1 by omega, List.getElem?_cons_succ, List.getElem?_append_left (by rw [nxt_len]; exact hl), top_nxt (kidF t ks) _ j hj]
theorem get_in {α : Type} {h : α} {K N : List α} {n : Nat} {x : α} (e : K[n]? = some x) : (h :: (K ++ N))[1 + n]? = some x := by
  have hl := (List.getElem?_eq_some_iff.1 e).1
  rw [Nat.add_comm, List.getElem?_cons_succ, List.getElem?_append_left hl, e]
theorem nd_kid (h : Nd (kidF t0 ks0) (s + 1) (s : Int) n t tx sp lo ats ks) : Nd (.cons t0 tx0 sp0 lo0 ats0 ks0 nx0) s p (1 + n) t tx sp lo ats ks := by
  obtain ⟨h1, h2, ⟨nx, h3⟩, h4, h5⟩ := h
  refine ⟨?_, ?_, ⟨nx.app nx0.treL, ?_⟩, fun j hj => ?_, fun j hj => ?_⟩
  · rw [siz_cons]
    exact get_in h1
  · rw [fst_cons, get_in h2]
    rw [show s + 1 + n + 1 = s + (1 + n) + 1 by omega]
  · rw [tre_cons, Nat.add_comm, Fo.drop]
    exact drop_app_F n _ _ h3
  · rw [par_cons, show 1 + n + 1 + ((kidF t ks).take j).cnt = 1 + (n + 1 + ((kidF t ks).take j).cnt) by omega, get_in (h4 j hj)]
    rw [show s + 1 + n = s + (1 + n) by omega]
  · rw [nxt_cons, show 1 + n + 1 + ((kidF t ks).take j).cnt = 1 + (n + 1 + ((kidF t ks).take j).cnt) by omega, get_in (h5 j hj)]
    rw [show s + 1 + n + 1 + ((kidF t ks).take (j + 1)).cnt = s + (1 + n) + 1 + ((kidF t ks).take (j + 1)).cnt by omega]
theorem get_past {α : Type} {h : α} {K N : List α} {m n : Nat} (hm : K.length = m) : (h :: (K ++ N))[1 + m + n]? = N[n]? := by
  rw [show 1 + m + n = (m + n) + 1 by omega, List.getElem?_cons_succ, List.getElem?_append_right (by omega), hm, Nat.add_sub_cancel_left]
theorem nd_next (h : Nd nx0 (s + 1 + (kidF t0 ks0).cnt) p n t tx sp lo ats ks) : Nd (.cons t0 tx0 sp0 lo0 ats0 ks0 nx0) s p (1 + (kidF t0 ks0).cnt + n) t tx sp lo ats ks := by
  obtain ⟨h1, h2, ⟨nx, h3⟩, h4, h5⟩ := h
  refine ⟨?_, ?_, ⟨nx, ?_⟩, fun j hj => ?_, fun j hj => ?_⟩
  · rw [siz_cons, get_past (siz_len _), h1]
  · rw [fst_cons, get_past (fst_len _ _), h2]
    rw [show s + 1 + (kidF t0 ks0).cnt + n + 1 = s + (1 + (kidF t0 ks0).cnt + n) + 1 by omega]
  · rw [tre_cons, show 1 + (kidF t0 ks0).cnt + n = ((kidF t0 ks0).cnt + n) + 1 by omega, Fo.drop, ← tre_len (kidF t0 ks0), drop_app_R, h3]
  · rw [par_cons, show 1 + (kidF t0 ks0).cnt + n + 1 + ((kidF t ks).take j).cnt = 1 + (kidF t0 ks0).cnt + (n + 1 + ((kidF t ks).take j).cnt) by omega, get_past (par_len _ _ _), h4 j hj]
    rw [show s + 1 + (kidF t0 ks0).cnt + n = s + (1 + (kidF t0 ks0).cnt + n) by omega]
  · rw [nxt_cons, show 1 + (kidF t0 ks0).cnt + n + 1 + ((kidF t ks).take j).cnt = 1 + (kidF t0 ks0).cnt + (n + 1 + ((kidF t ks).take j).cnt) by omega, get_past (nxt_len _ _), h5 j hj]
    rw [show s + 1 + (kidF t0 ks0).cnt + n + 1 + ((kidF t ks).take (j + 1)).cnt = s + (1 + (kidF t0 ks0).cnt + n) + 1 + ((kidF t ks).take (j + 1)).cnt by omega]
end
theorem pln_one (t : Bool) (tx sp lo : ByteArray) (ats : List P3) (ks nx : Fo) (h : (Fo.cons t tx sp lo ats ks nx).pln = .cons t tx sp lo ats ks nx) : (Fo.cons t tx sp lo ats ks .nil).pln = .cons t tx sp lo ats ks .nil ∧ nx.pln = nx ∧ (kidF t ks).pln = kidF t ks := by
  rw [Fo.pln] at h ⊢
  unfold kidF
  cases t
  · rw [if_neg (by decide)] at h ⊢
    injection h with _ q1 q2 q3 q4 q5 q6
    rw [q5, ← q1]
    exact ⟨rfl, q6, by rw [if_neg (by decide)]; exact q5⟩
  · rw [if_pos rfl] at h ⊢
    injection h with _ q1 q2 q3 q4 q5 q6
    rw [← q2, ← q3, ← q4, ← q5]
    exact ⟨rfl, q6, by rw [if_pos rfl]; rfl⟩
/-- Where an event that is no Close stands, there is a node. -/
theorem node_at : ∀ (f : Fo) (s : Nat) (p : Int) (i : Nat) (x : RE), f.evs[i]? = some x → x.kind ≠ 3 → ∃ pre t tx sp lo ats ks post, f.evs = pre ++ (Fo.cons t tx sp lo ats ks .nil).evs ++ post ∧ pre.length = i ∧ Nd f s p (numG pre) t tx sp lo ats ks ∧ (f.pln = f → (Fo.cons t tx sp lo ats ks .nil).pln = .cons t tx sp lo ats ks .nil)
  | .nil, s, p, i, x, h, _ => by simp [Fo.evs] at h
  | .cons t tx sp lo ats ks nx, s, p, i, x, h, hk => by
    by_cases hi0 : i = 0
    · subst hi0
      exact ⟨[], t, tx, sp, lo, ats, ks, nx.evs, by rw [List.nil_append, evs_cons], rfl, nd_here, fun h => (pln_one t tx sp lo ats ks nx h).1⟩
    by_cases hin : i < (Fo.cons t tx sp lo ats ks .nil).evs.length
    · rw [evs_cons, List.getElem?_append_left hin] at h
      cases t with
      | true =>
        rw [Fo.evs, if_pos rfl] at hin
        simp [Fo.evs] at hin
        omega
      | false =>
        rw [evs_el] at h hin
        obtain ⟨i', rfl⟩ : ∃ i', i = i' + 1 := ⟨i - 1, by omega⟩
        by_cases hik : i' < ks.evs.length
        · have hx : ks.evs[i']? = some x := by
            rw [List.append_assoc, List.singleton_append, List.getElem?_cons_succ, List.getElem?_append_left hik] at h
            exact h
          obtain ⟨pre, t', tx', sp', lo', ats', ks', post, e1, e2, e3, e4⟩ := node_at ks (s + 1) (s : Int) i' x hx hk
          refine ⟨⟨1, sp, lo, ats, emB⟩ :: pre, t', tx', sp', lo', ats', ks', post ++ [clE] ++ nx.evs, ?_, by rw [List.length_cons, e2], ?_, fun h => e4 ?_⟩
          · rw [evs_cons, evs_el, e1]
            simp
          · have hq : numG ((⟨1, sp, lo, ats, emB⟩ : RE) :: pre) = 1 + numG pre := by rw [numG]; rfl
            rw [hq]
            have e3' : Nd (kidF false ks) (s + 1) (s : Int) (numG pre) t' tx' sp' lo' ats' ks' := e3
            exact nd_kid e3'
          · exact (pln_one false tx sp lo ats ks nx h).2.2
        · have h2 : i' = ks.evs.length := by
            simp at hin
            omega
          subst h2
          rw [List.append_assoc, List.singleton_append, List.getElem?_cons_succ, List.getElem?_append_right (Nat.le_refl _), Nat.sub_self] at h
          injection h with h
          exact absurd (by rw [← h]; rfl) hk
    · have hx : nx.evs[i - (Fo.cons t tx sp lo ats ks .nil).evs.length]? = some x := by
        rw [evs_cons, List.getElem?_append_right (by omega)] at h
        exact h
      obtain ⟨pre, t', tx', sp', lo', ats', ks', post, e1, e2, e3, e4⟩ := node_at nx (s + 1 + (kidF t ks).cnt) p _ x hx hk
      refine ⟨(Fo.cons t tx sp lo ats ks .nil).evs ++ pre, t', tx', sp', lo', ats', ks', post, ?_, by rw [List.length_append, e2]; omega, ?_, fun h => e4 (pln_one t tx sp lo ats ks nx h).2.1⟩
      · rw [evs_cons, e1]
        simp
      · rw [num_app, num_evs, cnt_one]
        exact nd_next e3
end Go.Proofs.Ytaoggciebkaakaa.Ev
