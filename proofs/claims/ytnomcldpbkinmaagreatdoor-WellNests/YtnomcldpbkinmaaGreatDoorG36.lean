/-
  Merged by program out of the texts WlSame, WlNs1 of one seat.
-/
import Derived.Test.YtnomcldpbkinmaaGreatDoorG21
import Derived.Test.YtnomcldpbkinmaaGreatDoorG35
import Derived.Test.YtnomcldpbkinmaaGreatDoorG34
import Derived.Deep.RegionHeld3

/- The walk of the document's Same (layer 8), at two lists that are the same, and at two single events of different kinds. -/
set_option linter.unusedSimpArgs false
set_option linter.unusedVariables false
namespace Go.Proofs.YtnomcldpbkinmaaGreatDoor.Wl
open Go.RowKit

/-- The slice at A reads as these events. -/
def RdE (w : World) (A : Option Addr) (l : List Ev) : Prop :=
  ∀ k x, l[k]? = some x → ∃ b off Aa n c, A = some ⟨b, off, none⟩ ∧ b < w.heap.size ∧ n = (atts x).length ∧ n ≤ maxLen ∧ Nz.Sc.RdT w Aa (atts x) ∧ w.cell? ⟨b, off + k * 5, none⟩ = some (.int .i64 (kd x)) ∧ w.cell? ⟨b, off + k * 5 + 1, none⟩ = some (.string (sp x)) ∧ w.cell? ⟨b, off + k * 5 + 2, none⟩ = some (.string (lo x)) ∧ w.cell? ⟨b, off + k * 5 + 3, none⟩ = some (.slice Aa n c) ∧ w.cell? ⟨b, off + k * 5 + 4, none⟩ = some (.string (tx x))
theorem RdE.keep {w w' : World} {A : Option Addr} {l : List Ev} (h : RdE w A l) (hb : Below w.heap.size w w') : RdE w' A l := fun k x hk => by
  obtain ⟨b, o, Aa, n, c, e, hlt, hn, hm, hr, c0, c1, c2, c3, c4⟩ := h k x hk
  exact ⟨b, o, Aa, n, c, e, Nat.lt_of_lt_of_le hlt hb.size, hn, hm, hr.keep hb, (hb.cell (p := ⟨b, o + k * 5, none⟩) hlt).trans c0, (hb.cell (p := ⟨b, o + k * 5 + 1, none⟩) hlt).trans c1, (hb.cell (p := ⟨b, o + k * 5 + 2, none⟩) hlt).trans c2, (hb.cell (p := ⟨b, o + k * 5 + 3, none⟩) hlt).trans c3, (hb.cell (p := ⟨b, o + k * 5 + 4, none⟩) hlt).trans c4⟩
theorem own_max {W : World} {B : Nat} {e : TypeId} {z n : Nat} {v : Value} {xs : List Value} (h : W.ownsRow B e z v n xs) : n ≤ maxLen := by
  rcases h.2 with ⟨_, h0⟩ | ⟨g, cap, cur, q, hB, hh, h4, h5, _⟩
  · omega
  · omega
theorem own_cap {W : World} {B : Nat} {e : TypeId} {z n c : Nat} {A : Option Addr} {xs : List Value} (h : W.ownsRow B e z (.slice A n c) n xs) : n ≤ c ∧ c ≤ maxLen := by
  rcases h.2 with ⟨q, h0⟩ | ⟨g, cap, cur, q, hB, hh, h4, h5, _⟩
  · injection q with _ _ q3
    omega
  · injection q with _ _ q3
    omega
theorem EvOwn.rde {W : World} {B : Nat} {v : Value} {l : List Ev} (h : EvOwn W B v l) : ∃ A c, v = .slice A l.length c ∧ RdE W A l ∧ l.length ≤ c ∧ c ≤ maxLen := by
  obtain ⟨es, h1, h2, h3⟩ := h
  have hl : es.length = l.length := by rw [← h1, List.length_map]
  obtain ⟨A, c, hv⟩ := Nz.Sc.own_slice h2
  subst hv
  refine ⟨A, c, by rw [hl], fun k x hk => ?_, by rw [← hl]; exact own_cap h2⟩
  rw [← h1, List.getElem?_map] at hk
  obtain ⟨y, hy, rfl⟩ := Option.map_eq_some_iff.1 hk
  have hlt := (List.getElem?_eq_some_iff.1 hy).1
  have hO := h3 y (List.mem_of_getElem? hy)
  obtain ⟨Aa, ca, ea, ra, _⟩ := Nz.Sc.own_rdT hO
  rcases h2.2 with ⟨q, h0⟩ | ⟨g, cap, cur, q, hB, hh, hr⟩
  · omega
  injection q with q1 q2 q3
  subst q1
  have cel : ∀ i, i < 5 → W.cell? ⟨g, k * 5 + i, none⟩ = (evC y)[i]? := fun i hi => (h2.cellAt (k * 5 + i) (by omega)).trans (evL_get es k i y hy hi)
  refine ⟨g, 0, Aa, _, ca, rfl, (Array.getElem?_eq_some_iff.1 hh).1, rfl, own_max hO, ra, ?_, ?_, ?_, ?_, ?_⟩
  all_goals rw [Nat.zero_add]
  · exact cel 0 (by omega)
  · exact cel 1 (by omega)
  · exact cel 2 (by omega)
  · refine (cel 3 (by omega)).trans ?_
    show some y.2 = _
    rw [ea]
  · exact cel 4 (by omega)
/-- One event's cells. -/
structure Ev1 (W : World) (b o : Nat) (kx : Int) (na nb tx : ByteArray) (Aa : Option Addr) (n c : Nat) : Prop where
  c0 : W.cell? ⟨b, o, none⟩ = some (.int .i64 kx)
  c1 : W.cell? ⟨b, o + 1, none⟩ = some (.string na)
  c2 : W.cell? ⟨b, o + 2, none⟩ = some (.string nb)
  c3 : W.cell? ⟨b, o + 3, none⟩ = some (.slice Aa n c)
  c4 : W.cell? ⟨b, o + 4, none⟩ = some (.string tx)
theorem Ev1.keep {W W' : World} {b o : Nat} {kx : Int} {na nb tx : ByteArray} {Aa : Option Addr} {n c : Nat} (h : Ev1 W b o kx na nb tx Aa n c) (hb : Below W.heap.size W W') (hlt : b < W.heap.size) : Ev1 W' b o kx na nb tx Aa n c :=
  ⟨(hb.cell (p := ⟨b, o, none⟩) hlt).trans h.c0, (hb.cell (p := ⟨b, o + 1, none⟩) hlt).trans h.c1, (hb.cell (p := ⟨b, o + 2, none⟩) hlt).trans h.c2, (hb.cell (p := ⟨b, o + 3, none⟩) hlt).trans h.c3, (hb.cell (p := ⟨b, o + 4, none⟩) hlt).trans h.c4⟩
def SmRel8 (n : Nat) (w : World) (i : Value) (wr : World) : Prop := ∃ k : Nat, i = .int .i64 k ∧ k ≤ n ∧ Hid (Below w.heap.size w wr)
set_option maxHeartbeats 4000000 in
set_option maxRecDepth 100000 in
theorem same_any (l : List Ev) (n : Nat) (A1 A2 : Option Addr) (k1 k2 : Nat) (w : World) (hn : n = l.length) (hl : n ≤ maxLen) (h1 : RdE w A1 l) (h2 : RdE w A2 l) :
    Calls Tryz.prog 12 #[.slice A1 n k1, .slice A2 n k2] w fun e w' => e = .returned (.bool true) ∧ Below w.heap.size w w' := by
  have H1 := Lib.hid h1
  have H2 := Lib.hid h2
  have HN := Lib.hid hn
  unfold maxLen at hl
  clear h1 h2 hn
  go_enter Tryz.func12, Tryz.ntmps12
  go_wp2_with fail
  go_loopw [5] (fun i wr => SmRel8 n w i wr) (fun i _ => n - (intOf i).toNat)
  case atStart => exact ⟨0, rfl, Nat.zero_le _, Lib.hid (Below.refl _ _)⟩
  case round =>
    obtain ⟨k, rfl, hk, hB⟩ := hrel
    by_cases hlt : k < n
    · have hkl : k < l.length := by rw [← HN.out]; exact hlt
      obtain ⟨b1, o1, Aa1, m1, d1, rfl, hb1, e1, hm1, r1, x0, x1, x2, x3, x4⟩ := (H1.out.keep hB.out) k _ (List.getElem?_eq_getElem hkl)
      obtain ⟨b2, o2, Aa2, m2, d2, rfl, hb2, e2, hm2, r2, y0, y1, y2, y3, y4⟩ := (H2.out.keep hB.out) k _ (List.getElem?_eq_getElem hkl)
      have g1 : (k : Int) < (n : Int) := by omega
      have g0 : (0 : Int) ≤ (k : Int) := by omega
      obtain rfl : m1 = m2 := by rw [e1, e2]
      generalize l[k] = x at *
      have CS : Hid (∀ W, Below wr.heap.size wr W → Calls Tryz.prog 24 #[.agg #[.int .i64 (kd x), .string (sp x), .string (lo x), .slice Aa1 m1 d1, .string (tx x)], .agg #[.int .i64 (kd x), .string (sp x), .string (lo x), .slice Aa2 m1 d2, .string (tx x)]] W fun e w' => e = .returned (.bool true) ∧ Below W.heap.size W w') := Lib.hid fun W hW => Nz.Sc.sev_any (kd x) (sp x) (lo x) (tx x) (atts x) m1 Aa1 Aa2 d1 d2 W e1 hm1 (r1.keep hW) (r2.keep hW)
      have HX := Lib.hid (⟨x0, x1, x2, x3, x4⟩ : Ev1 wr b1 (o1 + k * 5) (kd x) (sp x) (lo x) (tx x) Aa1 m1 d1)
      have HY := Lib.hid (⟨y0, y1, y2, y3, y4⟩ : Ev1 wr b2 (o2 + k * 5) (kd x) (sp x) (lo x) (tx x) Aa2 m1 d2)
      have HL1 := Lib.hid hb1
      have HL2 := Lib.hid hb2
      clear e1 e2 r1 r2 hm1 hm2 hkl hb1 hb2
      generalize kd x = xk at *
      generalize sp x = xs at *
      generalize lo x = xl at *
      generalize tx x = xt at *
      clear x
      have X1 := Lib.hid (HX.out.keep (Below.refl _ wr).drew HL1.out)
      have Y1 := Lib.hid (HY.out.keep (Below.refl _ wr).drew HL2.out)
      go_wp2_with fail
      go_region_held3 (fun W => (W.cell? ⟨b1, o1 + k * 5, none⟩ = some (.int .i64 xk) ∧ W.cell? ⟨b1, o1 + k * 5 + 1, none⟩ = some (.string xs) ∧ W.cell? ⟨b1, o1 + k * 5 + 2, none⟩ = some (.string xl) ∧ W.cell? ⟨b1, o1 + k * 5 + 3, none⟩ = some (.slice Aa1 m1 d1) ∧ W.cell? ⟨b1, o1 + k * 5 + 4, none⟩ = some (.string xt)) ∧ W.cell? ⟨b2, o2 + k * 5, none⟩ = some (.int .i64 xk) ∧ W.cell? ⟨b2, o2 + k * 5 + 1, none⟩ = some (.string xs) ∧ W.cell? ⟨b2, o2 + k * 5 + 2, none⟩ = some (.string xl) ∧ W.cell? ⟨b2, o2 + k * 5 + 3, none⟩ = some (.slice Aa2 m1 d2) ∧ W.cell? ⟨b2, o2 + k * 5 + 4, none⟩ = some (.string xt))
        (first | with_reducible exact ⟨⟨X1.out.c0, X1.out.c1, X1.out.c2, X1.out.c3, X1.out.c4⟩, Y1.out.c0, Y1.out.c1, Y1.out.c2, Y1.out.c3, Y1.out.c4⟩ | with_reducible exact ⟨⟨X2.out.c0, X2.out.c1, X2.out.c2, X2.out.c3, X2.out.c4⟩, Y2.out.c0, Y2.out.c1, Y2.out.c2, Y2.out.c3, Y2.out.c4⟩ | fail)
        (first | (go_at_call 24; refine (CS.out _ (Below.refl _ wr).drew).mono ?_; rintro e w2 ⟨rfl, hb⟩; have X2 := Lib.hid (HX.out.keep ((Below.refl _ wr).drew.trans hb) HL1.out); have Y2 := Lib.hid (HY.out.keep ((Below.refl _ wr).drew.trans hb) HL2.out); have B2 := Lib.hid (hB.out.trans (((Below.refl _ wr).drew.trans hb).mono hB.out.size)); clear hb) | fail)
      go_wp2
      go_roundw
      case rel => exact ⟨k + 1, by go_num, by omega, B2⟩
      case measure => simp only [intOf]; omega
    · have g1 : ¬ (k : Int) < (n : Int) := by omega
      go_wp2_with fail
      go_ret
      exact ⟨rfl, hB.out⟩
end Go.Proofs.YtnomcldpbkinmaaGreatDoor.Wl

/- The walks of the document's SameEvent and Same at two of different kinds, and of its Depth. -/
set_option linter.unusedSimpArgs false
set_option linter.unusedVariables false
namespace Go.Proofs.YtnomcldpbkinmaaGreatDoor.Wl
open Go.RowKit

set_option maxHeartbeats 4000000 in
set_option maxRecDepth 100000 in
theorem sev_no (kx ky : Int) (na nb tx ma mb ty : ByteArray) (n1 n2 : Nat) (A1 A2 : Option Addr) (k1 k2 : Nat) (w : World) (h : kx ≠ ky) :
    Calls Tryz.prog 24 #[.agg #[.int .i64 kx, .string na, .string nb, .slice A1 n1 k1, .string tx], .agg #[.int .i64 ky, .string ma, .string mb, .slice A2 n2 k2, .string ty]] w fun e w' => e = .returned (.bool false) ∧ Below w.heap.size w w' := by
  have B1 := (Below.refl w.heap.size w).alloc (Nat.le_refl _) (.cells #[.int .i64 kx, .string na, .string nb, .slice A1 n1 k1, .string tx] 50)
  have HB := Lib.hid (B1.alloc B1.size (.cells #[.int .i64 ky, .string ma, .string mb, .slice A2 n2 k2, .string ty] 50))
  have q1 : (kx != ky) = true := bne_iff_ne.2 h
  have q2 : (kx == ky) = false := beq_eq_false_iff_ne.2 h
  clear B1 h
  go_enter Tryz.func24, Tryz.ntmps24
  go_wp2_with fail
  try go_quiet (fail)
  try go_wp2
  go_ret
  first | exact ⟨rfl, HB.out⟩ | exact ⟨rfl, below_drewN HB.out _⟩
set_option maxHeartbeats 4000000 in
set_option maxRecDepth 100000 in
theorem same_no (x y : Ev) (A1 A2 : Option Addr) (k1 k2 : Nat) (w : World) (h : kd x ≠ kd y) (h1 : RdE w A1 [x]) (h2 : RdE w A2 [y]) :
    Calls Tryz.prog 12 #[.slice A1 1 k1, .slice A2 1 k2] w fun e w' => e = .returned (.bool false) ∧ Below w.heap.size w w' := by
  obtain ⟨b1, o1, Aa1, m1, d1, rfl, hb1, e1, hm1, r1, x0, x1, x2, x3, x4⟩ := h1 0 x rfl
  obtain ⟨b2, o2, Aa2, m2, d2, rfl, hb2, e2, hm2, r2, y0, y1, y2, y3, y4⟩ := h2 0 y rfl
  simp only [Nat.zero_mul, Nat.add_zero] at x0 x1 x2 x3 x4 y0 y1 y2 y3 y4
  have CS : Hid (∀ W, Calls Tryz.prog 24 #[.agg #[.int .i64 (kd x), .string (sp x), .string (lo x), .slice Aa1 m1 d1, .string (tx x)], .agg #[.int .i64 (kd y), .string (sp y), .string (lo y), .slice Aa2 m2 d2, .string (tx y)]] W fun e w' => e = .returned (.bool false) ∧ Below W.heap.size W w') := Lib.hid fun W => sev_no _ _ _ _ _ _ _ _ _ _ _ _ _ _ W h
  have X1 := Lib.hid ((⟨x0, x1, x2, x3, x4⟩ : Ev1 w b1 o1 (kd x) (sp x) (lo x) (tx x) Aa1 m1 d1).keep (Below.refl _ w).drew hb1)
  have Y1 := Lib.hid ((⟨y0, y1, y2, y3, y4⟩ : Ev1 w b2 o2 (kd y) (sp y) (lo y) (tx y) Aa2 m2 d2).keep (Below.refl _ w).drew hb2)
  have HX := Lib.hid (⟨x0, x1, x2, x3, x4⟩ : Ev1 w b1 o1 (kd x) (sp x) (lo x) (tx x) Aa1 m1 d1)
  have HY := Lib.hid (⟨y0, y1, y2, y3, y4⟩ : Ev1 w b2 o2 (kd y) (sp y) (lo y) (tx y) Aa2 m2 d2)
  have HL1 := Lib.hid hb1
  have HL2 := Lib.hid hb2
  clear h h1 h2 e1 e2 r1 r2 hm1 hm2 hb1 hb2
  generalize kd x = xk at *
  generalize sp x = xs at *
  generalize lo x = xl at *
  generalize tx x = xt at *
  generalize kd y = yk at *
  generalize sp y = ys at *
  generalize lo y = yl at *
  generalize tx y = yt at *
  clear x y
  go_enter Tryz.func12, Tryz.ntmps12
  go_wp2_with fail
  go_loopw [5] (fun i wr => i = .int .i64 0 ∧ wr = w) (fun _ _ => 0)
  case atStart => exact ⟨rfl, rfl⟩
  case round =>
    obtain ⟨rfl, rfl⟩ := hrel
    go_wp2_with fail
    go_region_held3 (fun W => (W.cell? ⟨b1, o1, none⟩ = some (.int .i64 xk) ∧ W.cell? ⟨b1, o1 + 1, none⟩ = some (.string xs) ∧ W.cell? ⟨b1, o1 + 2, none⟩ = some (.string xl) ∧ W.cell? ⟨b1, o1 + 3, none⟩ = some (.slice Aa1 m1 d1) ∧ W.cell? ⟨b1, o1 + 4, none⟩ = some (.string xt)) ∧ W.cell? ⟨b2, o2, none⟩ = some (.int .i64 yk) ∧ W.cell? ⟨b2, o2 + 1, none⟩ = some (.string ys) ∧ W.cell? ⟨b2, o2 + 2, none⟩ = some (.string yl) ∧ W.cell? ⟨b2, o2 + 3, none⟩ = some (.slice Aa2 m2 d2) ∧ W.cell? ⟨b2, o2 + 4, none⟩ = some (.string yt))
      (first | with_reducible exact ⟨⟨X1.out.c0, X1.out.c1, X1.out.c2, X1.out.c3, X1.out.c4⟩, Y1.out.c0, Y1.out.c1, Y1.out.c2, Y1.out.c3, Y1.out.c4⟩ | with_reducible exact ⟨⟨X2.out.c0, X2.out.c1, X2.out.c2, X2.out.c3, X2.out.c4⟩, Y2.out.c0, Y2.out.c1, Y2.out.c2, Y2.out.c3, Y2.out.c4⟩ | fail)
      (first | (go_at_call 24; refine (CS.out _).mono ?_; rintro e w2 ⟨rfl, hb⟩; have X2 := Lib.hid (HX.out.keep ((Below.refl _ _).drew.trans hb) HL1.out); have Y2 := Lib.hid (HY.out.keep ((Below.refl _ _).drew.trans hb) HL2.out); have B2 := Lib.hid ((Below.refl _ _).drew.trans hb); clear hb) | fail)
    go_wp2
    go_ret
    exact ⟨rfl, B2.out⟩
theorem RdE.one {w : World} {b o k : Nat} {l : List Ev} {x : Ev} (h : RdE w (some ⟨b, o, none⟩) l) (hx : l[k]? = some x) : RdE w (some ⟨b, o + k * 5, none⟩) [x] := fun j y hj => by
  have hj0 : j = 0 := by
    have := (List.getElem?_eq_some_iff.1 hj).1
    simp at this
    exact this
  subst hj0
  have : x = y := by simpa using hj
  subst this
  obtain ⟨b1, o1, Aa1, m1, d1, e, hb1, e1, hm1, r1, x0, x1, x2, x3, x4⟩ := h k x hx
  injection e with e
  injection e with e2 e3
  subst e2 e3
  exact ⟨b, o + k * 5, Aa1, m1, d1, rfl, hb1, e1, hm1, r1, by simpa using x0, by simpa using x1, by simpa using x2, by simpa using x3, by simpa using x4⟩
/-- How deep a part of the events leads. -/
def DpRel (n : Nat) (l : List Ev) (w : World) (dv iv : Value) (wr : World) : Prop :=
  wr = w ∧ ∃ (k d : Nat), dv = .int .i64 (d : Int) ∧ iv = .int .i64 (k : Int) ∧ k ≤ n ∧ d ≤ k ∧ Hid (∃ z p, runW (l.take k) = some (d, z, p))
set_option maxHeartbeats 4000000 in
set_option maxRecDepth 100000 in
theorem rdep_any (l : List Ev) (n : Nat) (A : Option Addr) (c : Nat) (w : World) (hn : n = l.length) (hl : n ≤ maxLen) (h1 : RdE w A l) (d0 : Nat) (z0 p0 : Bool) (hr : runW l = some (d0, z0, p0)) :
    Calls Tryz.prog 21 #[.slice A n c] w fun e w' => e = .returned (.int .i64 (d0 : Int)) ∧ w' = w := by
  have H1 := Lib.hid h1
  have HN := Lib.hid hn
  have HR := Lib.hid hr
  unfold maxLen at hl
  clear h1 hn hr
  go_enter Tryz.func21, Tryz.ntmps21
  go_wp2_with fail
  go_loopw [3, 4] (fun dv iv wr => DpRel n l w dv iv wr) (fun _ iv _ => n - (intOf iv).toNat)
  case atStart => exact ⟨rfl, 0, 0, rfl, rfl, Nat.zero_le _, Nat.le_refl _, Lib.hid ⟨true, false, rfl⟩⟩
  case round =>
    obtain ⟨rfl, k, d, rfl, rfl, hk, hd, hK⟩ := hrel
    by_cases hlt : k < n
    · have hkl : k < l.length := by rw [← HN.out]; exact hlt
      have hx := List.getElem?_eq_getElem hkl
      obtain ⟨z, p, hzp⟩ := hK.out
      have hs := run_snoc hx
      rw [hzp] at hs
      obtain ⟨t, ht⟩ := run_take HR.out (k + 1)
      rw [hs] at ht
      obtain ⟨b1, o1, _, _, _, rfl, hb1, _, _, _, x0, _⟩ := H1.out k _ hx
      have g1 : (k : Int) < (n : Int) := by omega
      have g0 : (0 : Int) ≤ (k : Int) := by omega
      generalize l[k] = x at *
      clear hkl hx hK hzp hb1
      cases x with
      | opn nm f =>
        have x0' : wr.cell? ⟨b1, o1 + k * 5, none⟩ = some (.int .i64 1) := x0
        have q1 : IntKind.i64.wrap ((d : Int) + 1) = (d : Int) + 1 := IntWalk.i64_in _ (by omega)
        have HK2 : Hid (∃ z p, runW (l.take (k + 1)) = some (d + 1, z, p)) := Lib.hid (by
          rw [hs]
          unfold stepW at ht ⊢
          dsimp only at ht ⊢
          split at ht
          · cases ht
          · rename_i c1
            rw [if_neg c1]
            split at ht
            · cases ht
            · rename_i c2
              rw [if_neg c2]
              exact ⟨_, _, rfl⟩)
        have q2 : ¬ ((d : Int) + 1 < 0) := by omega
        clear x0 hs ht
        go_wp2
        go_roundw
        case rel => exact ⟨rfl, k + 1, d + 1, by go_num, by go_num, by omega, by omega, HK2⟩
        case measure => simp only [intOf]; omega
      | txt u =>
        have x0' : wr.cell? ⟨b1, o1 + k * 5, none⟩ = some (.int .i64 2) := x0
        have HK2 : Hid (∃ z p, runW (l.take (k + 1)) = some (d, z, p)) := Lib.hid (by
          rw [hs]
          unfold stepW at ht ⊢
          dsimp only at ht ⊢
          split at ht
          · cases ht
          · rename_i c1
            rw [if_neg c1]
            split at ht
            · cases ht
            · rename_i c2
              rw [if_neg c2]
              exact ⟨_, _, rfl⟩)
        have q2 : ¬ ((d : Int) < 0) := by omega
        clear x0 hs ht
        go_wp2
        go_roundw
        case rel => exact ⟨rfl, k + 1, d, rfl, by go_num, by omega, by omega, HK2⟩
        case measure => simp only [intOf]; omega
      | cls =>
        have x0' : wr.cell? ⟨b1, o1 + k * 5, none⟩ = some (.int .i64 3) := x0
        have hd0 : d ≠ 0 := fun e => by
          unfold stepW at ht
          dsimp only at ht
          rw [if_pos e] at ht
          cases ht
        obtain ⟨d', rfl⟩ : ∃ d', d = d' + 1 := ⟨d - 1, by omega⟩
        have HK2 : Hid (∃ z p, runW (l.take (k + 1)) = some (d', z, p)) := Lib.hid (by
          rw [hs]
          unfold stepW
          dsimp only
          rw [if_neg hd0]
          exact ⟨_, _, rfl⟩)
        have q1 : IntKind.i64.wrap (((d' + 1 : Nat) : Int) - 1) = (d' : Int) := by rw [IntWalk.i64_in _ (by omega)]; omega
        have q2 : ¬ ((d' : Int) < 0) := by omega
        clear x0 hs ht hd0
        go_wp2
        go_roundw
        case rel => exact ⟨rfl, k + 1, d', rfl, by go_num, by omega, by omega, HK2⟩
        case measure => simp only [intOf]; omega
    · have g1 : ¬ (k : Int) < (n : Int) := by omega
      have hkn : k = l.length := by rw [← HN.out]; omega
      obtain ⟨z, p, hzp⟩ := hK.out
      rw [hkn, List.take_length, HR.out] at hzp
      injection hzp with hzp
      injection hzp with hzp _
      have HD := Lib.hid hzp
      clear hzp hkn hK
      go_wp2
      go_ret
      exact ⟨by rw [HD.out]; rfl, rfl⟩
end Go.Proofs.YtnomcldpbkinmaaGreatDoor.Wl
