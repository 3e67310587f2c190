/-
  Merged by program out of the texts TrSmR, TpL1, TpL2, TpOpen, TpL4, TrPlW of one seat.
-/
import Derived.Test.YtaoggciebkaakaaK03
import Derived.Test.YtaoggciebkaakaaK10
import Derived.Test.YtaoggciebkaakaaK04
import Derived.Test.YtaoggciebkaakaaK05
import Derived.Deep.RegionHeld3

/- Same of a tree and itself. -/
set_option linter.unusedSimpArgs false
set_option linter.unusedVariables false
namespace Go.Proofs.Ytaoggciebkaakaa.Ev
open Go.RowKit

theorem eqn_refl (a : ByteArray × ByteArray) : eqn a a = true := by simp [eqn]
theorem eq3_refl (a : P3) : eq3 a a = true := by simp [eq3, eqn]
theorem zip_self_all (l : List P3) : (l.zip l).all (fun p => eq3 p.1 p.2) = true := by
  induction l with
  | nil => rfl
  | cons x r ih => simp [eq3_refl, ih]
theorem smG_refl : ∀ f : Fo, smG f f = true
  | .nil => rfl
  | .cons t tx sp lo ats ks nx => by
    rw [smG, smG_refl ks, smG_refl nx, eqn_refl, zip_self_all]
    simp
end Go.Proofs.Ytaoggciebkaakaa.Ev

/- TreeOfs, over the contracts. -/
set_option linter.unusedSimpArgs false
set_option linter.unusedVariables false
namespace Go.Proofs.Ytaoggciebkaakaa.Ev
open Go.RowKit

/-- A tree in a box. -/
structure TbX (w : World) (u : Bool) (tx sp lo : ByteArray) (ats : List P3) (ks : Fo) (Aa : Option Addr) (na ca : Nat) (Ak : Option Addr) (nk ck tb : Nat) (W : World) : Prop where
  box : W.heap[tb]? = some (.cells #[.bool u, .string tx, .string sp, .string lo, .slice Aa na ca, .slice Ak nk ck] 30 (0, 0))
  tr : Tr1 (· < W.heap.size) W tx sp lo ats ks Aa na ca Ak nk ck
  bel : Below w.heap.size w W
section
variable {w W W' : World} {u : Bool} {tx sp lo : ByteArray} {ats : List P3} {ks : Fo} {Aa : Option Addr} {na ca : Nat} {Ak : Option Addr} {nk ck tb : Nat}
theorem TbX.keep (h : TbX w u tx sp lo ats ks Aa na ca Ak nk ck tb W) (hb : Below W.heap.size W W') : TbX w u tx sp lo ats ks Aa na ca Ak nk ck tb W' := ⟨(hb.block _ (Array.getElem?_eq_some_iff.1 h.box).1).trans h.box, (h.tr.keep hb).inb, h.bel.trans (hb.mono h.bel.size)⟩
theorem TbX.s6 (h : TbX w u tx sp lo ats ks Aa na ca Ak nk ck tb W) : W.cell? ⟨tb, 0, none⟩ = some (.bool u) ∧ W.cell? ⟨tb, 1, none⟩ = some (.string tx) ∧ W.cell? ⟨tb, 2, none⟩ = some (.string sp) ∧ W.cell? ⟨tb, 3, none⟩ = some (.string lo) ∧ W.cell? ⟨tb, 4, none⟩ = some (.slice Aa na ca) ∧ W.cell? ⟨tb, 5, none⟩ = some (.slice Ak nk ck) := cells6 h.box
theorem TbX.mk' {P : Nat → Prop} (hb : Below w.heap.size w W) (ht : Tr1 P W tx sp lo ats ks Aa na ca Ak nk ck) : TbX w u tx sp lo ats ks Aa na ca Ak nk ck W.heap.size (W.alloc (.cells #[.bool u, .string tx, .string sp, .string lo, .slice Aa na ca, .slice Ak nk ck] 30)) := by
  have h := (Below.refl W.heap.size W).alloc (Nat.le_refl _) (.cells #[.bool u, .string tx, .string sp, .string lo, .slice Aa na ca, .slice Ak nk ck] 30)
  exact ⟨nblk W 30 _, (ht.keep h).inb, hb.trans (h.mono hb.size)⟩
end
theorem same_refl (t : Bool) (tx sp lo : ByteArray) (ats : List P3) (ks : Fo) (Aa : Option Addr) (na ca : Nat) (Ak : Option Addr) (nk ck : Nat) (Aa' : Option Addr) (na' ca' : Nat) (Ak' : Option Addr) (nk' ck' : Nat) (P Q : Nat → Prop) (W : World) (h1 : Tr1 P W tx sp lo ats ks Aa na ca Ak nk ck) (h2 : Tr1 Q W tx sp lo ats ks Aa' na' ca' Ak' nk' ck') :
    Calls Try.prog 12 #[.agg #[.bool t, .string tx, .string sp, .string lo, .slice Aa na ca, .slice Ak nk ck], .agg #[.bool t, .string tx, .string sp, .string lo, .slice Aa' na' ca', .slice Ak' nk' ck']] W fun e w' => e = .returned (.bool true) ∧ Below W.heap.size W w' := by
  have h := same_all (ks.siz + 1) t tx sp lo ats ks Aa na ca Ak nk ck t tx sp lo ats ks Aa' na' ca' Ak' nk' ck' P Q W (Nat.lt_succ_self _) h1 h2
  rw [smG_refl] at h
  exact h
end Go.Proofs.Ytaoggciebkaakaa.Ev

/- TreeKeeps, over the contracts. -/
set_option linter.unusedSimpArgs false
set_option linter.unusedVariables false
namespace Go.Proofs.Ytaoggciebkaakaa.Ev
open Go.RowKit

/-- Events of the call's own, whose attributes are spoilt. -/
structure SpX (W1 : World) (A : Option Addr) (c : Nat) (Q : List PE) (wr : World) : Prop where
  own : wr.ownsRow W1.heap.size 38 5 (.slice A Q.length c) Q.length (peL Q)
  blk : ∀ p ∈ Q, ∃ xs, wr.ownsRow W1.heap.size 52 3 (.slice p.2.1 p.2.2.1 p.2.2.2) p.2.2.1 xs
  bel : Below W1.heap.size W1 wr
  sml : ∀ p ∈ Q, p.2.2.1 ≤ 100000
section
variable {W1 wr : World} {A : Option Addr} {c : Nat} {Q : List PE}
theorem SpX.at_ (h : SpX W1 A c Q wr) {i : Nat} {p : PE} (hp : Q[i]? = some p) : ∃ ga, A = some ⟨ga, 0, none⟩ ∧ wr.cell? ⟨ga, i * 5 + 3, none⟩ = some (.slice p.2.1 p.2.2.1 p.2.2.2) := by
  have hi := (List.getElem?_eq_some_iff.1 hp).1
  obtain ⟨ga, cap, e, _⟩ := h.own.form (by omega)
  injection e with e1 e2 e3
  refine ⟨ga, e1, ?_⟩
  have ho := h.own
  rw [e1] at ho
  have := World.ownsRow.cells ho (g := ga) rfl (i * 5 + 3) _ ((peL_get Q i 3 p hp (by decide)).trans rfl)
  rw [add_at] at this
  exact this
end
end Go.Proofs.Ytaoggciebkaakaa.Ev

/- A tree that is handed in, opened. -/
set_option linter.unusedSimpArgs false
set_option linter.unusedVariables false
namespace Go.Proofs.Ytaoggciebkaakaa.Ev
open Go.Joins Go.ChangeShapes Go.WideShapes Go.RowKit Go.Deep

theorem Try.cells30 : Try.prog.cellsOf 30 = 6 := by kernel_rfl
theorem Try.cells28 : Try.prog.cellsOf 28 = 1 := by kernel_rfl
theorem Try.cells4 : Try.prog.cellsOf 4 = 1 := by kernel_rfl
theorem Try.bytes30 : Try.prog.bytesOf 30 = 104 := by kernel_rfl
/-- All strings of these trees can be copied. -/
def Fo.szs : Fo → Prop
  | .nil => True
  | .cons t tx sp lo ats ks nx => (tx.size ≤ LimS ∧ sp.size ≤ LimS ∧ lo.size ≤ LimS ∧ LimA ats) ∧ ks.szs ∧ nx.szs
theorem lim_of {s : ByteArray} (h : s.data.toList.length ≤ reachBytes) : s.size ≤ LimS := by
  rw [← Lib.size_eq] at h
  exact h
set_option maxRecDepth 100000 in
theorem open_ats {H : Type} {enc : TypeId × Value → H} {w : World} {fuel : Nat} {v : Value} {y : DataW H × List MemPlace} (h : DataW.trod enc Try.prog w 0 (fun _ => true) true fuel 27 [v] = some y) (hw : ∀ m ∈ y.1.weights Try.prog 27, m ≤ reachBytes) :
    ∃ (A : Option Addr) (n c : Nat) (l : List P3), v = .slice A n c ∧ AttsIn w A n c l ∧ LimA l := by
  rcases open_slice Try.underlying27 h with ⟨hc, _⟩ | ⟨a, len, cap, m, n, D, Pl, hc, hb, hl, hm, hmm, hx, hall⟩
  · obtain rfl : v = .slice none 0 0 := by simpa using hc
    exact ⟨none, 0, 0, [], rfl, attsNil w, fun x hx => by cases hx⟩
  · obtain rfl : v = .slice (some a) len cap := by simpa using hc
    simp only [if_true] at hmm
    subst hmm
    rw [Try.cells52] at hall
    rw [hx] at hw
    obtain ⟨hz, hwi⟩ := slice_sizes Try.underlying27 Try.bytes52 hw
    unfold reachBytes at hz
    have st : ∀ i, i < len → ∃ x : P3, (w.cell? (a.add (i * 3)) = some (.string x.1.1) ∧ w.cell? (a.add (i * 3 + 1)) = some (.string x.1.2) ∧ w.cell? (a.add (i * 3 + 2)) = some (.string x.2)) ∧ x.1.1.size ≤ LimS ∧ x.1.2.size ≤ LimS ∧ x.2.size ≤ LimS := fun i hi => by
      obtain ⟨cs', h1, h2⟩ := hall i (by omega)
      obtain ⟨_, hlen, hcell⟩ := World.cells?_some h1
      obtain ⟨y0, y1, k, hD, _, g0, g1⟩ := trod_struct2 Try.underlying52 h2
      match cs', hlen, hcell, g0, g1 with
      | [v0, v1, v2], _, hcell, g0, g1 =>
        simp [Try.cells26, Try.cells9] at g0 g1
        obtain ⟨z0, z1, k2, hE, _, f0, f1⟩ := trod_struct2 Try.underlying26 g0
        simp [Try.cells9] at f0 f1
        obtain ⟨s0, e0, w0, _⟩ := DataW.trod_string Try.underlying9 f0
        obtain ⟨s1, e1, w1, _⟩ := DataW.trod_string Try.underlying9 f1
        obtain ⟨s2, e2, w2, _⟩ := DataW.trod_string Try.underlying9 g1
        simp only [List.cons.injEq, and_true] at e0 e1 e2
        subst e0 e1 e2
        have c0 := hcell 0 (by omega)
        have c1 := hcell 1 (by omega)
        have c2 := hcell 2 (by omega)
        rw [add_add] at c0 c1 c2
        have hd : D i = .agg [.agg [.lit (.string s0.data.toList), .lit (.string s1.data.toList)], .lit (.string s2.data.toList)] := by
          have := congrArg Prod.fst hD
          rw [hE, w0, w1, w2] at this
          exact this
        have hq := hwi i hi
        rw [hd] at hq
        have hwt : (DataW.agg [DataW.agg [.lit (.string s0.data.toList), .lit (.string s1.data.toList)], .lit (.string s2.data.toList)] : DataW H).weights Try.prog 52 = [s0.data.toList.length, s1.data.toList.length, s2.data.toList.length] := by
          simp [DataW.weights, Try.underlying52, Try.underlying26, DataW.weightsEach]
        rw [hwt] at hq
        exact ⟨((s0, s1), s2), ⟨by simpa using c0, by simpa using c1, by simpa using c2⟩, lim_of (hq _ (by simp)), lim_of (hq _ (by simp)), lim_of (hq _ (by simp))⟩
    obtain ⟨l, hll, hX⟩ := pick_list (n := len) (fun i hi => st i hi)
    have hL : LimA l := pick_mem hX (fun k x h => h.2)
    refine ⟨some a, len, m, l, rfl, ⟨hll.symm, by unfold maxLen; omega, by omega, fun x hx => by
      obtain ⟨a1, a2, a3⟩ := hL x hx
      unfold LimS at a1 a2 a3
      unfold maxLen
      omega, fun k x hk => ?_, fun h => by cases h⟩, hL⟩
    obtain ⟨⟨c0, c1, c2⟩, _⟩ := hX k x hk
    obtain ⟨b, off, spot⟩ := a
    have hspot : spot = none := by
      obtain ⟨_, h0⟩ := st 0 (by have := (List.getElem?_eq_some_iff.1 hk).1; omega)
      have := World.cell?_spot h0.1.1
      simpa [Addr.add] using this
    subst hspot
    rw [Addr.add_lit] at c0 c1 c2
    exact ⟨b, off, rfl, Lib.lt_of_cell c0, c0, by rw [Nat.add_assoc]; exact c1, by rw [Nat.add_assoc]; exact c2⟩
/-- A tree's parts. -/
structure TT where
  t : Bool
  tx : ByteArray
  sp : ByteArray
  lo : ByteArray
  ats : List P3
  ks : Fo
  Aa : Option Addr
  na : Nat
  ca : Nat
  Ak : Option Addr
  nk : Nat
  ck : Nat
instance : Nonempty TT := ⟨⟨false, emB, emB, emB, [], .nil, none, 0, 0, none, 0, 0⟩⟩
def foT : List TT → Fo
  | [] => .nil
  | x :: l => .cons x.t x.tx x.sp x.lo x.ats x.ks (foT l)
def TTok (w : World) (x : TT) : Prop := Tr1 (· < w.heap.size) w x.tx x.sp x.lo x.ats x.ks x.Aa x.na x.ca x.Ak x.nk x.ck ∧ (Fo.cons x.t x.tx x.sp x.lo x.ats x.ks .nil).szs
theorem foT_len : ∀ l : List TT, (foT l).len = l.length
  | [] => rfl
  | x :: l => by rw [foT, Fo.len, foT_len l, List.length_cons]
theorem foT_at {w : World} {b : Nat} : ∀ (l : List TT) (off : Nat), (∀ k x, l[k]? = some x → Tc6 w b (off + k * 6) x.t x.tx x.sp x.lo x.Aa x.na x.ca x.Ak x.nk x.ck ∧ TTok w x) → KsAt (· < w.heap.size) w (foT l) b off ∧ (foT l).szs
  | [], off, _ => ⟨trivial, trivial⟩
  | x :: l, off, h => by
    obtain ⟨h1, h2, h3⟩ := h 0 x rfl
    rw [Nat.zero_mul, Nat.add_zero] at h1
    obtain ⟨k1, k2⟩ := foT_at l (off + 6) fun k y hk => by
      have q := h (k + 1) y (by rw [List.getElem?_cons_succ]; exact hk)
      rw [show off + (k + 1) * 6 = off + 6 + k * 6 by omega] at q
      exact q
    exact ⟨KsAt.mk h1 h2 k1, h3.1, h3.2.1, k2⟩
theorem size_mem {H : Type} {D : DataW H} {l S : List (DataW H)} (h : D ∈ l) : SizeOf.sizeOf D < SizeOf.sizeOf (DataW.slice l S) := by
  have := List.sizeOf_lt_of_mem h
  simp
  omega
theorem size_five {H : Type} {a b c d e : DataW H} : SizeOf.sizeOf e < SizeOf.sizeOf (DataW.agg [a, b, c, d, e]) := by
  simp
  omega
set_option maxHeartbeats 1000000 in
set_option maxRecDepth 100000 in
theorem open_tr {H : Type} {enc : TypeId × Value → H} {w : World} : ∀ (N : Nat) {fuel : Nat} {cs : List Value} {y : DataW H × List MemPlace}, SizeOf.sizeOf y.1 < N → cs.length = 6 → DataW.trod enc Try.prog w 0 (fun _ => true) true fuel 30 cs = some y → (∀ m ∈ y.1.weights Try.prog 30, m ≤ reachBytes) →
    ∃ x : TT, cs = [.bool x.t, .string x.tx, .string x.sp, .string x.lo, .slice x.Aa x.na x.ca, .slice x.Ak x.nk x.ck] ∧ TTok w x
  | 0, _, _, _, h, _, _, _ => by omega
  | N + 1, fuel, cs, y, hN, hl, h, hw => by
    obtain ⟨xs, k, _, hx, _, hlen, hf⟩ := DataW.trod_struct Try.underlying30 h
    match xs, hlen with
    | [y0, y1, y2, y3, y4], _ =>
    have g0 := hf 0 _ rfl
    have g1 := hf 1 _ rfl
    have g2 := hf 2 _ rfl
    have g3 := hf 3 _ rfl
    have g4 := hf 4 _ rfl
    have hy : y.1 = .agg [y0.1, y1.1, y2.1, y3.1, y4.1] := by rw [hx]; rfl
    have hwt : (DataW.agg [y0.1, y1.1, y2.1, y3.1, y4.1]).weights Try.prog 30 = y0.1.weights Try.prog 4 ++ (y1.1.weights Try.prog 9 ++ (y2.1.weights Try.prog 26 ++ (y3.1.weights Try.prog 27 ++ (y4.1.weights Try.prog 28 ++ [])))) := by
      simp [DataW.weights, Try.underlying30, DataW.weightsEach]
    rw [hy, hwt] at hw
    have hw1 : ∀ m ∈ y1.1.weights Try.prog 9, m ≤ reachBytes := fun m hm => hw m (by simp [hm])
    have hw2 : ∀ m ∈ y2.1.weights Try.prog 26, m ≤ reachBytes := fun m hm => hw m (by simp [hm])
    have hw3 : ∀ m ∈ y3.1.weights Try.prog 27, m ≤ reachBytes := fun m hm => hw m (by simp [hm])
    have hw4 : ∀ m ∈ y4.1.weights Try.prog 28, m ≤ reachBytes := fun m hm => hw m (by simp [hm])
    match cs, hl, g0, g1, g2, g3, g4 with
    | [v0, v1, v2, v3, v4, v5], _, g0, g1, g2, g3, g4 =>
      simp [Try.cells4, Try.cells9, Try.cells26, Try.cells27, Try.cells28] at g0 g1 g2 g3 g4
      obtain ⟨b0, e0, _⟩ := DataW.trod_bool Try.underlying4 g0
      obtain ⟨s1, e1, w1, _⟩ := DataW.trod_string Try.underlying9 g1
      obtain ⟨z0, z1, k2, hE, _, f0, f1⟩ := trod_struct2 Try.underlying26 g2
      simp [Try.cells9] at f0 f1
      obtain ⟨s2, e2, w2, _⟩ := DataW.trod_string Try.underlying9 f0
      obtain ⟨s3, e3, w3, _⟩ := DataW.trod_string Try.underlying9 f1
      obtain ⟨Aa, na, ca, ats, rfl, TA, LA⟩ := open_ats g3 hw3
      simp only [List.cons.injEq, and_true] at e0 e1 e2 e3
      subst e0 e1 e2 e3
      have l1 : s1.size ≤ LimS := lim_of (hw1 _ (by rw [w1]; simp [DataW.weights]))
      have hd2 : y2.1 = .agg [.lit (.string s2.data.toList), .lit (.string s3.data.toList)] := by
        rw [hE, w2, w3]
      rw [hd2] at hw2
      have hwt2 : (DataW.agg [.lit (.string s2.data.toList), .lit (.string s3.data.toList)] : DataW H).weights Try.prog 26 = [s2.data.toList.length, s3.data.toList.length] := by
        simp [DataW.weights, Try.underlying26, DataW.weightsEach]
      rw [hwt2] at hw2
      have l2 : s2.size ≤ LimS := lim_of (hw2 _ (by simp))
      have l3 : s3.size ≤ LimS := lim_of (hw2 _ (by simp))
      rcases open_slice Try.underlying28 g4 with ⟨hc, _⟩ | ⟨a, len, cap, m, n, D, Pl, hc, hb, hlc, hm, hmm, hx4, hall⟩
      · obtain rfl : v5 = .slice none 0 0 := by simpa using hc
        exact ⟨⟨b0, s1, s2, s3, ats, .nil, Aa, na, ca, none, 0, 0⟩, rfl, ⟨⟨lim_maxLen l1, lim_maxLen l2, lim_maxLen l3⟩, TA, TA.low, ksNil _ _⟩, ⟨l1, l2, l3, LA⟩, trivial, trivial⟩
      · obtain rfl : v5 = .slice (some a) len cap := by simpa using hc
        simp only [if_true] at hmm
        subst hmm
        rw [Try.cells30] at hall
        rw [hx4] at hw4
        obtain ⟨hz, hwi⟩ := slice_sizes Try.underlying28 Try.bytes30 hw4
        unfold reachBytes at hz
        have hs4 : SizeOf.sizeOf y4.1 < N + 1 := by
          have := size_five (a := y0.1) (b := y1.1) (c := y2.1) (d := y3.1) (e := y4.1)
          rw [← hy] at this
          omega
        have st : ∀ i, i < len → ∃ x : TT, (w.cell? (a.add (i * 6)) = some (.bool x.t) ∧ w.cell? (a.add (i * 6 + 1)) = some (.string x.tx) ∧ w.cell? (a.add (i * 6 + 2)) = some (.string x.sp) ∧ w.cell? (a.add (i * 6 + 3)) = some (.string x.lo) ∧ w.cell? (a.add (i * 6 + 4)) = some (.slice x.Aa x.na x.ca) ∧ w.cell? (a.add (i * 6 + 5)) = some (.slice x.Ak x.nk x.ck)) ∧ TTok w x := fun i hi => by
          obtain ⟨cs', h1, h2⟩ := hall i (by omega)
          obtain ⟨_, hlen', hcell⟩ := World.cells?_some h1
          have hDi : SizeOf.sizeOf (D i) < SizeOf.sizeOf y4.1 := by
            rw [hx4]
            exact size_mem (List.mem_map.2 ⟨i, List.mem_range.2 hi, rfl⟩)
          obtain ⟨x, rfl, ok⟩ := open_tr N (y := (D i, Pl i)) (by show SizeOf.sizeOf (D i) < N; omega) hlen' h2 (hwi i hi)
          have c0 := hcell 0 (by omega)
          have c1 := hcell 1 (by omega)
          have c2 := hcell 2 (by omega)
          have c3 := hcell 3 (by omega)
          have c4 := hcell 4 (by omega)
          have c5 := hcell 5 (by omega)
          rw [add_add] at c0 c1 c2 c3 c4 c5
          exact ⟨x, ⟨by simpa using c0, by simpa using c1, by simpa using c2, by simpa using c3, by simpa using c4, by simpa using c5⟩, ok⟩
        obtain ⟨l, hll, hX⟩ := pick_list (n := len) (fun i hi => st i hi)
        have hat : ∃ b off, 0 < len → a = ⟨b, off, none⟩ ∧ b < w.heap.size := by
          by_cases h0 : 0 < len
          · obtain ⟨x, h1, _⟩ := st 0 h0
            obtain ⟨b, off, spot⟩ := a
            have hspot : spot = none := by
              have := World.cell?_spot h1.1
              simpa [Addr.add] using this
            subst hspot
            have h2 := h1.1
            rw [Addr.add_lit] at h2
            exact ⟨b, off, fun _ => ⟨rfl, Lib.lt_of_cell h2⟩⟩
          · exact ⟨0, 0, fun h => absurd h h0⟩
        obtain ⟨b, off, hao⟩ := hat
        have hks : 0 < len → KsAt (· < w.heap.size) w (foT l) b off ∧ (foT l).szs := fun h0 => by
          obtain ⟨ha, hblt⟩ := hao h0
          subst ha
          refine foT_at l off fun k x hk => ?_
          obtain ⟨⟨c0, c1, c2, c3, c4, c5⟩, ok⟩ := hX k x hk
          rw [Addr.add_lit] at c0 c1 c2 c3 c4 c5
          exact ⟨⟨c0, by rw [Nat.add_assoc]; exact c1, by rw [Nat.add_assoc]; exact c2, by rw [Nat.add_assoc]; exact c3, by rw [Nat.add_assoc]; exact c4, by rw [Nat.add_assoc]; exact c5⟩, ok⟩
        have hsz : (foT l).szs := by
          by_cases h0 : 0 < len
          · exact (hks h0).2
          · have : l = [] := List.eq_nil_of_length_eq_zero (by omega)
            rw [this]
            trivial
        exact ⟨⟨b0, s1, s2, s3, ats, foT l, Aa, na, ca, some a, len, m⟩, rfl, ⟨⟨lim_maxLen l1, lim_maxLen l2, lim_maxLen l3⟩, TA, TA.low, (show len = (foT l).len by rw [foT_len, hll]), (show len ≤ 4398046511104 by omega), hlc, hm, (fun h => by cases h), fun h0 => ⟨b, off, by rw [(hao h0).1], (hao h0).2, (hao h0).2, (hks h0).1⟩⟩, ⟨l1, l2, l3, LA⟩, hsz, trivial⟩
set_option maxRecDepth 100000 in
/-- A tree, by value. -/
theorem open_tree {H : Type} {enc : TypeId × Value → H} {w : World} {r : Reach} {b0 : Nat} {v : Value} {d : DataW H} {p : List MemPlace} (hv : Value.okWide Try.prog w r b0 30 v) (h : DataW.Trod enc Try.prog w 0 (fun _ => true) true 30 v d p) (hw : ∀ m ∈ d.weights Try.prog 30, m ≤ reachBytes) :
    ∃ x : TT, v = .agg #[.bool x.t, .string x.tx, .string x.sp, .string x.lo, .slice x.Aa x.na x.ca, .slice x.Ak x.nk x.ck] ∧ TTok w x := by
  obtain ⟨cs, rfl, hsz⟩ := okWide_struct Try.underlying30 hv
  obtain ⟨fuel, hf⟩ := h
  obtain ⟨l⟩ := cs
  have hf' : DataW.trod enc Try.prog w 0 (fun _ => true) true fuel 30 l = some (d, p) := hf
  obtain ⟨x, rfl, ok⟩ := open_tr (SizeOf.sizeOf d + 1) (y := (d, p)) (Nat.lt_succ_self _) (by have := hsz.trans Try.cells30; simpa using this) hf' hw
  exact ⟨x, rfl, ok⟩
/-- What may be copied of a tree's events. -/
theorem szs_evs : ∀ f : Fo, f.szs → ∀ x ∈ f.evs, x.tx.size ≤ LimS ∧ x.sp.size ≤ LimS ∧ x.lo.size ≤ LimS ∧ LimA x.ats
  | .nil, _, x, hx => by cases hx
  | .cons t tx sp lo ats ks nx, h, x, hx => by
    obtain ⟨⟨h1, h2, h3, h4⟩, h5, h6⟩ := h
    rw [Fo.evs, List.mem_append] at hx
    rcases hx with hx | hx
    · cases t
      · rw [if_neg (by decide)] at hx
        rcases List.mem_cons.1 hx with rfl | hx
        · exact ⟨em_lim', h2, h3, h4⟩
        · rcases List.mem_append.1 hx with hx | hx
          · exact szs_evs ks h5 x hx
          · rw [List.mem_singleton.1 hx]
            exact ⟨em_lim', em_lim', em_lim', fun y hy => by cases hy⟩
      · rw [if_pos rfl] at hx
        rw [List.mem_singleton.1 hx]
        exact ⟨h1, em_lim', em_lim', fun y hy => by cases hy⟩
    · exact szs_evs nx h6 x hx
end Go.Proofs.Ytaoggciebkaakaa.Ev

/- TreeWords, over the contracts. -/
set_option linter.unusedSimpArgs false
set_option linter.unusedVariables false
namespace Go.Proofs.Ytaoggciebkaakaa.Ev
open Go.RowKit

/-- What the document's Word answers. -/
theorem dword_any (t : Bool) (tx sp lo : ByteArray) (ats : List P3) (ks : Fo) (Aa : Option Addr) (na ca : Nat) (Ak : Option Addr) (nk ck : Nat) (W : World) (hs : ks.siz ≤ 1000) (T : Tr1 (· < W.heap.size) W tx sp lo ats ks Aa na ca Ak nk ck) : Calls Try.prog 15 #[.agg #[.bool t, .string tx, .string sp, .string lo, .slice Aa na ca, .slice Ak nk ck]] W fun e w' => ∃ A c, e = .returned (.slice A (Fo.cons t tx sp lo ats ks .nil).evs.length c) ∧ EvsIn w' A (Fo.cons t tx sp lo ats ks .nil).evs.length c (Fo.cons t tx sp lo ats ks .nil).evs ∧ Below W.heap.size W w' := by
  refine (word_all (ks.siz + 1) t tx sp lo ats ks Aa na ca Ak nk ck W.heap.size W (Nat.lt_succ_self _) hs (Nat.le_refl _) T).mono fun e w' h => ?_
  obtain ⟨v, ps, rfl, o, m, b⟩ := h
  obtain ⟨A, c, rfl⟩ := own_slice o.own
  have hl : ps.length = (Fo.cons t tx sp lo ats ks .nil).evs.length := by rw [← m, List.length_map]
  have hle := evs_len (Fo.cons t tx sp lo ats ks .nil)
  rw [Fo.siz, Fo.siz] at hle
  have h1 := own_evs o.own rfl o.atO (by omega)
  rw [m, hl] at h1
  exact ⟨A, c, by rw [hl], h1, b⟩
theorem few_spok {f : Fo} (hs : f.siz ≤ 1000) (hl : f.evs.length ≤ 400) (hf : ∀ (k : Nat) (x : RE), f.evs[k]? = some x → FewE x) (hz : f.szs) : SpOk f := ⟨hs, by omega, fun x hx => by
  obtain ⟨a, b, c, d⟩ := szs_evs f hz x hx
  obtain ⟨k, hk⟩ := List.getElem?_of_mem hx
  exact ⟨a, b, c, by have := (hf k x hk).ats; omega, d⟩⟩
/-- The tree's box, and the document's events of it. -/
structure WX (w : World) (u : Bool) (tx sp lo : ByteArray) (ats : List P3) (ks : Fo) (Aa : Option Addr) (na ca : Nat) (Ak : Option Addr) (nk ck tb : Nat) (A3 : Option Addr) (n3 c3 : Nat) (l : List RE) (W : World) : Prop where
  tb : TbX w u tx sp lo ats ks Aa na ca Ak nk ck tb W
  ev : EvsIn W A3 n3 c3 l
theorem WX.keep {w : World} {u : Bool} {tx sp lo : ByteArray} {ats : List P3} {ks : Fo} {Aa : Option Addr} {na ca : Nat} {Ak : Option Addr} {nk ck tb : Nat} {A3 : Option Addr} {n3 c3 : Nat} {l : List RE} {W W' : World} (h : WX w u tx sp lo ats ks Aa na ca Ak nk ck tb A3 n3 c3 l W) (hb : Below W.heap.size W W') : WX w u tx sp lo ats ks Aa na ca Ak nk ck tb A3 n3 c3 l W' := ⟨h.tb.keep hb, h.ev.keep hb⟩
end Go.Proofs.Ytaoggciebkaakaa.Ev

/- The law's plain (layer 10) of whatever tree. -/
set_option linter.unusedSimpArgs false
set_option linter.unusedVariables false
namespace Go.Proofs.Ytaoggciebkaakaa.Ev
open Go.RowKit

theorem Try.results25 : Try.f25.results = #[ResultVar.cell 2 30] := by kernel_rfl
def PlC (N : Nat) : Prop := ∀ (t : Bool) (tx sp lo : ByteArray) (ats : List P3) (ks : Fo) (Aa : Option Addr) (na ca : Nat) (Ak : Option Addr) (nk ck : Nat) (B : Nat) (W : World), ks.siz < N → ks.siz ≤ 1000 → B ≤ W.heap.size → Tr1 (· < B) W tx sp lo ats ks Aa na ca Ak nk ck →
    Calls Try.prog 25 #[.agg #[.bool t, .string tx, .string sp, .string lo, .slice Aa na ca, .slice Ak nk ck]] W (TPost B W (Fo.cons t tx sp lo ats ks .nil))
theorem len_siz : ∀ f : Fo, f.len ≤ f.siz
  | .nil => Nat.zero_le _
  | .cons t tx sp lo ats ks nx => by
    rw [Fo.len, Fo.siz]
    have := len_siz nx
    omega
set_option maxHeartbeats 8000000 in
set_option maxRecDepth 100000 in
theorem plain_step (N : Nat) (hIH : Hid (PlC N)) : PlC (N + 1) := by
  intro t tx sp lo ats ks Aa na ca Ak nk ck B w hN h1k hBw T
  obtain ⟨i0, hi, hz0, hz1, hz2⟩ := info_parts Try.info30
  have HT := Lib.hid T
  have hnk := T.ks.1
  subst hnk
  have hls := len_siz ks
  clear T
  cases t with
  | true =>
    have HB := Lib.hid (((Below.refl w.heap.size w).alloc (Nat.le_refl _) (.cells #[.bool true, .string tx, .string sp, .string lo, .slice Aa na ca, .slice Ak ks.len ck] 30)).alloc (by simp) (.cells #[.bool true, .string tx, .string ⟨#[]⟩, .string ⟨#[]⟩, .slice none 0 0, .slice none 0 0] 30))
    clear hIH
    go_enter Try.func25, Try.ntmps25
    go_wp2
    refine bodyPost_ret (v := .agg #[.bool true, .string tx, .string ⟨#[]⟩, .string ⟨#[]⟩, .slice none 0 0, .slice none 0 0]) (by simp [results, Try.results25, go_sem]) rfl ?_
    exact ⟨true, tx, emB, emB, [], .nil, none, 0, 0, none, 0, 0, by rw [Fo.pln, if_pos rfl]; rfl, rfl, ⟨⟨HT.out.sz.1, by show emB.size ≤ maxLen; decide, by show emB.size ≤ maxLen; decide⟩, attsNil _, fun h => absurd h (Nat.lt_irrefl 0), rfl, Nat.zero_le _, Nat.le_refl _, Nat.zero_le _, fun _ => ⟨rfl, rfl⟩, fun h => absurd h (Nat.lt_irrefl 0)⟩, HB.out⟩
  | false =>
    have HK0 := Lib.hid (nblk w 30 #[.bool false, .string tx, .string sp, .string lo, .slice Aa na ca, .slice Ak ks.len ck])
    have HBx := Lib.hid ((Below.refl w.heap.size w).alloc (Nat.le_refl _) (.cells #[.bool false, .string tx, .string sp, .string lo, .slice Aa na ca, .slice Ak ks.len ck] 30))
    have hs1 : (w.alloc (.cells #[.bool false, .string tx, .string sp, .string lo, .slice Aa na ca, .slice Ak ks.len ck] 30)).heap.size = w.heap.size + 1 := World.size_alloc _ _
    have hz1' : ((w.alloc (.cells #[.bool false, .string tx, .string sp, .string lo, .slice Aa na ca, .slice Ak ks.len ck] 30)).alloc (.cells #[.bool false, .string ⟨#[]⟩, .string ⟨#[]⟩, .string ⟨#[]⟩, .slice none 0 0, .slice none 0 0] 30)).heap.size = w.heap.size + 1 + 1 := by rw [World.size_alloc, hs1]
    have HT0 : Hid (TL B (w.heap.size + 1) (w.alloc (.cells #[.bool false, .string tx, .string sp, .string lo, .slice Aa na ca, .slice Ak ks.len ck] 30)) sp lo Aa na ca (.slice none 0 0) (plI []) (ks.take 0).pln 0 (.slice none 0 0) (((w.alloc (.cells #[.bool false, .string tx, .string sp, .string lo, .slice Aa na ca, .slice Ak ks.len ck] 30)).alloc (.cells #[.bool false, .string ⟨#[]⟩, .string ⟨#[]⟩, .string ⟨#[]⟩, .slice none 0 0, .slice none 0 0] 30)).alloc (.cells #[.bool false, .string ⟨#[]⟩, .string sp, .string lo, .slice Aa na ca, .slice none 0 0] 30))) := Lib.hid (by
      have h := nblk ((w.alloc (.cells #[.bool false, .string tx, .string sp, .string lo, .slice Aa na ca, .slice Ak ks.len ck] 30)).alloc (.cells #[.bool false, .string ⟨#[]⟩, .string ⟨#[]⟩, .string ⟨#[]⟩, .slice none 0 0, .slice none 0 0] 30)) 30 #[.bool false, .string ⟨#[]⟩, .string sp, .string lo, .slice Aa na ca, .slice none 0 0]
      rw [hz1'] at h
      have h0 : (ks.take 0).pln = .nil := by cases ks <;> rfl
      rw [h0]
      have hr := nblk (w.alloc (.cells #[.bool false, .string tx, .string sp, .string lo, .slice Aa na ca, .slice Ak ks.len ck] 30)) 30 #[.bool false, .string ⟨#[]⟩, .string ⟨#[]⟩, .string ⟨#[]⟩, .slice none 0 0, .slice none 0 0]
      rw [hs1] at hr
      exact ⟨⟨[], World.ownsRow_nil _ _ _ _, rfl⟩, h, (Below.heap_alloc _ _ _ (by rw [hz1']; omega)).trans hr, World.ownsRow_nil _ _ _ _, ((Below.refl _ (w.alloc (.cells #[.bool false, .string tx, .string sp, .string lo, .slice Aa na ca, .slice Ak ks.len ck] 30))).alloc (by rw [hs1]; exact Nat.le_refl _) _).alloc (by rw [hz1']; omega) _, by rw [World.size_alloc, hz1']; omega⟩)
    clear hz1'
    go_enter Try.func25, Try.ntmps25
    go_wp2_with fail
    generalize hW1 : ((w.alloc (.cells #[.bool false, .string tx, .string sp, .string lo, .slice Aa na ca, .slice Ak ks.len ck] 30)).alloc (.cells #[.bool false, .string ⟨#[]⟩, .string ⟨#[]⟩, .string ⟨#[]⟩, .slice none 0 0, .slice none 0 0] 30)).alloc (.cells #[.bool false, .string ⟨#[]⟩, .string sp, .string lo, .slice Aa na ca, .slice none 0 0] 30) = W1 at *
    clear hW1
    generalize w.alloc (.cells #[.bool false, .string tx, .string sp, .string lo, .slice Aa na ca, .slice Ak ks.len ck] 30) = wb at *
    go_loopw [4] (fun i wr => ∃ (k : Nat) (v : Value), i = .int .i64 k ∧ k ≤ ks.len ∧ Hid (TL B (w.heap.size + 1) wb sp lo Aa na ca (.slice none 0 0) (plI []) (ks.take k).pln k v wr)) (fun i _ => ks.len - (intOf i).toNat)
    case atStart => exact ⟨0, _, rfl, Nat.zero_le _, HT0⟩
    case round =>
      clear HT0
      obtain ⟨k, v, rfl, hk, HL⟩ := hrel
      have HB := Lib.hid (HBx.out.trans (HL.out.bel.mono (Nat.le_succ _)))
      obtain ⟨_, _, _, _, _, p5⟩ := cells6 ((HL.out.bel.block w.heap.size (Nat.lt_succ_self _)).trans HK0.out)
      by_cases hlt : k < ks.len
      · have HL := Lib.hid (HL.out.keep ((Below.refl _ wr).drew))
        have HB := Lib.hid (HB.out.drew)
        obtain ⟨vs, ho, hkv⟩ := HL.out.own
        obtain ⟨A3, c3, rfl⟩ := own_slice ho
        have Ho := Lib.hid ho
        have Hv := Lib.hid hkv
        clear ho hkv
        obtain ⟨_, _, _, _, _, y5⟩ := cells6 HL.out.box
        have g1 : (k : Int) < (ks.len : Int) := by omega
        have g0 : (0 : Int) ≤ (k : Int) := by omega
        obtain ⟨t, x', sp', lo', ats', ks', b1, o1, v1, v2, v3, v4, v5, v6, ed, rfl, hb1, x6, X⟩ := (HT.out.ks.keep HB.out).at_ (k := k) hlt
        have hsk := siz_kid ed
        have C := Lib.hid (hIH.out t x' sp' lo' ats' ks' v1 v2 v3 v4 v5 v6 B wr.drew (by omega) (by omega) (Nat.le_trans hBw HB.out.size) X)
        have Hp : Hid ((ks.take (k + 1)).pln = (ks.take k).pln.app (Fo.cons t x' sp' lo' ats' ks' .nil).pln) := Lib.hid (by
          obtain ⟨q0, q1, q2, q3, q4, q5, e1, e2⟩ := drop_cons (f := ks) (k := k) (hlt)
          rw [ed] at e1
          injection e1 with e1 e4 e5 e6 e7 e8 e9
          subst e1 e4 e5 e6 e7 e8
          rw [e2, pln_app])
        obtain ⟨x1, x2, x3, x4, x5, x7⟩ := x6
        have hl0 : w.heap.size + 1 + 2 ≤ wr.heap.size := HL.out.lt
        have hBs : B ≤ w.heap.size + 1 := by omega
        have p5' : wr.drew.cell? ⟨w.heap.size, 5, none⟩ = some (.slice (some ⟨b1, o1, none⟩) ks.len ck) := p5
        generalize hs : w.heap.size + 1 = s at *
        clear X ed hb1 hIH
        go_wp2_with fail
        go_region_law (first
            | (refine step_append_lies _ (by rfl) (.tmp 23) (.tmp 30) 28 (by rfl) (s + 2) 30 i0 (.agg #[.bool false, .string ⟨#[]⟩, .string ⟨#[]⟩, .string ⟨#[]⟩, .slice none 0 0, .slice none 0 0]) 6 104 Try.underlying28 hi hz0 hz1 hz2 rfl (by decide) (.slice A3 k c3) k vs (by simp [Act.eval, Act.put]) o6.out ⟨w5.heap.size, 0, none⟩ 1 1 [.bool u, .string ux, .string us, .string ul, .slice u1 u2 u3, .slice u4 u5 u6] (by simp [Act.eval, Act.put]) rfl N6.out (tree_one _ _ _ _ _ _ _ _ _ _) (by decide) (by unfold maxLen; omega) (by omega) z6.out _ rfl ?_
               intro g cap w7 n1 n2 n3 n4
               have T7 := Lib.hid (T6.out.put hBs o6.out k6.out r6.out n1 n2 n3 n4)
               have x7 := (n2.block (s + 1) (Nat.lt_of_succ_le z6.out) (fun e => by have := (World.ownsRow.lt o6.out _ e.symm).1; omega)).trans T6.out.box
               have e7 := (cells6 x7).2.2.2.2.2
               have f7 := froz_of x7 5
               clear n1 n2 n3 n4 x7)
            | (go_simp; go_at_call 25; refine C.out.mono ?_; rintro e w5 ⟨u, ux, us, ul, ua, uk, u1, u2, u3, u4, u5, u6, hq, rfl, tr, hb5⟩
               have l5 : s + 1 < w5.heap.size := Nat.lt_of_lt_of_le (Nat.lt_of_succ_le hl0) hb5.size
               have s0 : w5.cell? ⟨s + 1, 5, none⟩ = some (.slice A3 k c3) := (hb5.cell (p := ⟨s + 1, 5, none⟩) (Nat.lt_of_succ_le hl0)).trans y5
               have s1 : (w5.alloc (.cells #[.bool u, .string ux, .string us, .string ul, .slice u1 u2 u3, .slice u4 u5 u6] 30)).cell? ⟨s + 1, 5, none⟩ = some (.slice A3 k c3) := (World.cell?_alloc_lt _ _ _ l5).trans s0
               have B6 := Lib.hid ((Below.refl _ w5).alloc (Nat.le_refl _) (.cells #[.bool u, .string ux, .string us, .string ul, .slice u1 u2 u3, .slice u4 u5 u6] 30))
               have T6 := Lib.hid ((HL.out.keep hb5).keep B6.out)
               have o6 := Lib.hid (own_keep (own_keep Ho.out hb5) B6.out)
               have k6 := Lib.hid (Hv.out.map fun t => ((t.keep hb5).keep B6.out).mono fun b hp => hp.mono (Nat.le_trans hb5.size B6.out.size))
               have r6 := Lib.hid ((tr.keep B6.out).mono fun b hp => HL.out.child hBs Ho.out B6.out.size hp)
               have h6 := Lib.hid hq
               have N6 := Lib.hid (lit_cells w5 #[.bool u, .string ux, .string us, .string ul, .slice u1 u2 u3, .slice u4 u5 u6] 30)
               have z6 := Lib.hid T6.out.lt
               clear tr hq hb5)
            | fail)
        all_goals
          go_wp2_with fail
          go_roundw
        all_goals
          first
            | exact ⟨k + 1, _, by go_num, by omega, Lib.hid (by rw [Hp.out, h6.out]; exact T7.out)⟩
            | (simp only [intOf]; omega)
      · have hke : k = ks.len := by omega
        subst hke
        have g1 : ¬ (ks.len : Int) < (ks.len : Int) := by omega
        rw [take_all] at HL
        obtain ⟨vs, ho, hkv⟩ := HL.out.own
        have hl0 := HL.out.lt
        obtain ⟨A3, c3, rfl, hin⟩ := own_ks (P := fun b => (b < B ∨ w.heap.size ≤ b) ∧ b < wr.heap.size ∧ b ≠ w.heap.size + 1) ho (hkv.map fun t => t.mono fun b hp => ⟨hp.1.elim .inl (fun h => .inr (by omega)), hp.2.1, hp.2.2.1⟩) (len_pln ks).symm (by omega) (fun g hg => by have := World.ownsRow.lt ho g hg; omega)
        have HR : Hid (Tr1 (fun b => (b < B ∨ w.heap.size ≤ b) ∧ b < wr.heap.size ∧ b ≠ w.heap.size + 1) wr emB sp lo ats ks.pln Aa na ca A3 ks.len c3) := Lib.hid ⟨⟨by show emB.size ≤ maxLen; decide, HT.out.sz.2.1, HT.out.sz.2.2⟩, HT.out.at_.keep HB.out, fun h0 b e => by
          have h1 : b.block < B := HT.out.ap h0 b e
          exact ⟨.inl h1, by omega, by omega⟩, hin⟩
        obtain ⟨y0, y1, y2, y3, y4, y5⟩ := cells6 HL.out.box
        obtain ⟨r0, r1, r2, r3, r4, r5⟩ := cells6 HL.out.res
        have f0 := froz_of HL.out.res 0
        have f1 := froz_of HL.out.res 1
        have f2 := froz_of HL.out.res 2
        have f3 := froz_of HL.out.res 3
        have f4 := froz_of HL.out.res 4
        have f5 := froz_of HL.out.res 5
        obtain ⟨h6, g6⟩ := put6 (.bool false) (.string ⟨#[]⟩) (.string sp) (.string lo) (.slice Aa na ca) (.slice A3 ks.len c3) HL.out.res
        have HR6 : Hid (Tr1 (fun b => (b < B ∨ w.heap.size ≤ b) ∧ b < (put6W wr (w.heap.size + 1) (.bool false) (.string ⟨#[]⟩) (.string sp) (.string lo) (.slice Aa na ca) (.slice A3 ks.len c3)).heap.size) (put6W wr (w.heap.size + 1) (.bool false) (.string ⟨#[]⟩) (.string sp) (.string lo) (.slice Aa na ca) (.slice A3 ks.len c3)) emB sp lo ats ks.pln Aa na ca A3 ks.len c3) := Lib.hid ((HR.out.grown g6 (fun b hp e => hp.2.2 (by injection e))).mono fun b hp => ⟨hp.1, Nat.lt_of_lt_of_le hp.2.1 g6.size⟩)
        have HB6 : Hid (Below w.heap.size w (put6W wr (w.heap.size + 1) (.bool false) (.string ⟨#[]⟩) (.string sp) (.string lo) (.slice Aa na ca) (.slice A3 ks.len c3))) := Lib.hid (HB.out.grown g6 HB.out.size (fun j hj => by injection hj with hj; omega))
        have H6 := Lib.hid h6
        clear h6 g6 HR ho hkv hin hIH
        go_wp2
        change bodyPost _ _ _ _ _ (put6W wr (w.heap.size + 1) (.bool false) (.string ⟨#[]⟩) (.string sp) (.string lo) (.slice Aa na ca) (.slice A3 ks.len c3))
        generalize (put6W wr (w.heap.size + 1) (.bool false) (.string ⟨#[]⟩) (.string sp) (.string lo) (.slice Aa na ca) (.slice A3 ks.len c3)) = W6 at *
        obtain ⟨e0, e1, e2, e3, e4, e5⟩ := cells6 H6.out
        clear y0 y1 y2 y3 y4 y5 r0 r1 r2 r3 r4 r5 f0 f1 f2 f3 f4 f5
        refine bodyPost_ret (v := .agg #[.bool false, .string ⟨#[]⟩, .string sp, .string lo, .slice Aa na ca, .slice A3 ks.len c3]) (by simp [results, Try.results25, go_sem, e0, e1, e2, e3, e4, e5]) rfl ?_
        exact ⟨false, emB, sp, lo, ats, ks.pln, Aa, na, ca, A3, ks.len, c3, by rw [Fo.pln, if_neg (by decide)]; rfl, rfl, HR6.out, HB6.out⟩
theorem plain_all : ∀ N, PlC N
  | 0 => fun t tx sp lo ats ks Aa na ca Ak nk ck B W h => by omega
  | N + 1 => plain_step N (Lib.hid (plain_all N))
end Go.Proofs.Ytaoggciebkaakaa.Ev
