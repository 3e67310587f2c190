/-
  Merged by program out of the texts EvOpen, EvFew, EvRight, TpClo, EvRight2, EvRight3, EvDepth, EvMath of one seat.
-/
import Derived.Test.YtaoggciebkaakaaProg
import Derived.WalkKit
import Derived.Below
import Derived.Lib.Hide
import Derived.Lib.AtoiErrMem
import Derived.Lib.SmallJoins
import Derived.Deep.Slices
import Derived.Deep.SlicePairs
import Derived.Carry
import Derived.ProofKit
import Derived.OpenShut
import Derived.SizedLaws
import Derived.Handed
import Derived.Lib.Builder
import Derived.Lib.UnsafeStr
import Derived.Lib.AppendStr
import Derived.Lib.BufferWrite
import Derived.Deep.RegionWith
import Derived.Deep.RegionHeld3
import Derived.Laws.OwnMore
import Derived.OwnWalk
import Derived.Deep.QuietTactic
import Derived.BigQuiet

/- Events that are handed in, opened: one, or a slice of them. -/
set_option linter.unusedSimpArgs false
set_option linter.unusedVariables false
namespace Go.Proofs.Ytaoggciebkaakaa.Ev
open Go.Joins Go.ChangeShapes Go.WideShapes Go.RowKit Go.Deep

theorem Try.cells38 : Try.prog.cellsOf 38 = 5 := by kernel_rfl
theorem Try.cells52 : Try.prog.cellsOf 52 = 3 := by kernel_rfl
theorem Try.cells27 : Try.prog.cellsOf 27 = 1 := by kernel_rfl
theorem Try.cells26 : Try.prog.cellsOf 26 = 2 := by kernel_rfl
theorem Try.cells9 : Try.prog.cellsOf 9 = 1 := by kernel_rfl
theorem Try.cells3 : Try.prog.cellsOf 3 = 1 := by kernel_rfl
theorem Try.bytes52 : Try.prog.bytesOf 52 = 48 := by kernel_rfl
theorem Try.bytes38 : Try.prog.bytesOf 38 = 80 := by kernel_rfl
theorem weightsAll_mem {H : Type} {P : Program} {e : TypeId} : ∀ {l : List (DataW H)} {d : DataW H}, d ∈ l → ∀ m ∈ d.weights P e, m ∈ DataW.weightsAll P e l
  | [], d, h, m, _ => by simp at h
  | x :: l, d, h, m, hm => by
    unfold DataW.weightsAll
    rw [List.mem_append]
    rcases List.mem_cons.1 h with rfl | h
    · exact .inl hm
    · exact .inr (weightsAll_mem h m hm)
/-- What the sizes say of a slice: how many elements it may have; each element's own sizes. -/
theorem slice_sizes {H : Type} {P : Program} {t e : TypeId} {n b : Nat} {D : Nat → DataW H} {S : List (DataW H)} (ht : P.underlying t = some (.slice e)) (hb : P.bytesOf e = b) (hw : ∀ q ∈ (DataW.slice ((List.range n).map D) S).weights P t, q ≤ reachBytes) : n * b ≤ reachBytes ∧ ∀ i, i < n → ∀ q ∈ (D i).weights P e, q ≤ reachBytes := by
  have h1 : (DataW.slice ((List.range n).map D) S).weights P t = (((List.range n).map D).length + S.length) * P.bytesOf e :: (DataW.weightsAll P e ((List.range n).map D) ++ DataW.weightsAll P e S) := by
    unfold DataW.weights
    rw [ht]
  rw [h1] at hw
  constructor
  · have := hw _ List.mem_cons_self
    rw [List.length_map, List.length_range, hb] at this
    exact Nat.le_trans (Nat.mul_le_mul_right b (Nat.le_add_right _ _)) this
  · intro i hi q hq
    refine hw q (List.mem_cons_of_mem _ (List.mem_append.2 (.inl (weightsAll_mem (List.mem_map.2 ⟨i, List.mem_range.2 hi, rfl⟩) q hq))))
abbrev P2 := ByteArray × ByteArray
abbrev P3 := P2 × ByteArray
/-- The slice at A reads as these attributes. -/
def RdT (w : World) (A : Option Addr) (l : List P3) : Prop :=
  ∀ k x, l[k]? = some x → ∃ b off, A = some ⟨b, off, none⟩ ∧ b < w.heap.size ∧ w.cell? ⟨b, off + k * 3, none⟩ = some (.string x.1.1) ∧ w.cell? ⟨b, off + k * 3 + 1, none⟩ = some (.string x.1.2) ∧ w.cell? ⟨b, off + k * 3 + 2, none⟩ = some (.string x.2)
theorem RdT.keep {w w' : World} {A : Option Addr} {l : List P3} (h : RdT w A l) (hb : Below w.heap.size w w') : RdT w' A l := fun k t hk => by
  obtain ⟨b, o, e, hlt, c0, c1, c2⟩ := h k t hk
  exact ⟨b, o, e, Nat.lt_of_lt_of_le hlt hb.size, (hb.cell (p := ⟨b, o + k * 3, none⟩) hlt).trans c0, (hb.cell (p := ⟨b, o + k * 3 + 1, none⟩) hlt).trans c1, (hb.cell (p := ⟨b, o + k * 3 + 2, none⟩) hlt).trans c2⟩
/-- What is known of attributes that are handed in. -/
structure AttsIn (w : World) (A : Option Addr) (n c : Nat) (l : List P3) : Prop where
  len : n = l.length
  lsz : n ≤ maxLen
  cnt : n ≤ 4398046511104
  xsz : ∀ x ∈ l, x.1.1.size ≤ maxLen ∧ x.1.2.size ≤ maxLen ∧ x.2.size ≤ maxLen
  rd : RdT w A l
  nil : A = none → n = 0 ∧ c = 0
theorem AttsIn.keep {w w' : World} {A : Option Addr} {n c : Nat} {l : List P3} (h : AttsIn w A n c l) (hb : Below w.heap.size w w') : AttsIn w' A n c l := ⟨h.len, h.lsz, h.cnt, h.xsz, h.rd.keep hb, h.nil⟩
/-- An event, whatever it may be. -/
structure RE where
  kind : Int
  sp : ByteArray
  lo : ByteArray
  ats : List P3
  tx : ByteArray
/-- The bounds of an event that is handed in. -/
structure RSz (e : RE) : Prop where
  sp : e.sp.size ≤ maxLen
  lo : e.lo.size ≤ maxLen
  tx : e.tx.size ≤ maxLen
/-- The slice at A reads as these events. -/
def RdV (w : World) (A : Option Addr) (l : List RE) : Prop :=
  ∀ k x, l[k]? = some x → ∃ b off Aa n c, A = some ⟨b, off, none⟩ ∧ b < w.heap.size ∧ AttsIn w Aa n c x.ats ∧ w.cell? ⟨b, off + k * 5, none⟩ = some (.int .i64 x.kind) ∧ w.cell? ⟨b, off + k * 5 + 1, none⟩ = some (.string x.sp) ∧ w.cell? ⟨b, off + k * 5 + 2, none⟩ = some (.string x.lo) ∧ w.cell? ⟨b, off + k * 5 + 3, none⟩ = some (.slice Aa n c) ∧ w.cell? ⟨b, off + k * 5 + 4, none⟩ = some (.string x.tx)
theorem RdV.keep {w w' : World} {A : Option Addr} {l : List RE} (h : RdV w A l) (hb : Below w.heap.size w w') : RdV w' A l := fun k t hk => by
  obtain ⟨b, o, Aa, n, c, e, hlt, ha, c0, c1, c2, c3, c4⟩ := h k t hk
  exact ⟨b, o, Aa, n, c, e, Nat.lt_of_lt_of_le hlt hb.size, ha.keep hb, (hb.cell (p := ⟨b, o + k * 5, none⟩) hlt).trans c0, (hb.cell (p := ⟨b, o + k * 5 + 1, none⟩) hlt).trans c1, (hb.cell (p := ⟨b, o + k * 5 + 2, none⟩) hlt).trans c2, (hb.cell (p := ⟨b, o + k * 5 + 3, none⟩) hlt).trans c3, (hb.cell (p := ⟨b, o + k * 5 + 4, none⟩) hlt).trans c4⟩
/-- What is known of events that are handed in. -/
structure EvsIn (w : World) (A : Option Addr) (n c : Nat) (l : List RE) : Prop where
  len : n = l.length
  lsz : n ≤ maxLen
  cnt : n ≤ 4398046511104
  xsz : ∀ x ∈ l, RSz x
  rd : RdV w A l
  nil : A = none → n = 0 ∧ c = 0
  cap : n ≤ c ∧ c ≤ maxLen
theorem EvsIn.keep {w w' : World} {A : Option Addr} {n c : Nat} {l : List RE} (h : EvsIn w A n c l) (hb : Below w.heap.size w w') : EvsIn w' A n c l := ⟨h.len, h.lsz, h.cnt, h.xsz, h.rd.keep hb, h.nil, h.cap⟩
/-- From an element each to a list. -/
theorem pick_list {α : Type} [Nonempty α] {n : Nat} {R : Nat → α → Prop} (h : ∀ i, i < n → ∃ x, R i x) : ∃ l : List α, l.length = n ∧ ∀ (k : Nat) x, l[k]? = some x → R k x := by
  have h2 : ∀ i, ∃ x, i < n → R i x := fun i => by
    by_cases hi : i < n
    · obtain ⟨x, hx⟩ := h i hi
      exact ⟨x, fun _ => hx⟩
    · exact ⟨Classical.choice inferInstance, fun q => absurd q hi⟩
  refine ⟨(List.range n).map fun i => Classical.choose (h2 i), by simp, fun k x hk => ?_⟩
  rw [List.getElem?_map] at hk
  obtain ⟨j, hj, rfl⟩ := Option.map_eq_some_iff.1 hk
  have hlt := (List.getElem?_eq_some_iff.1 hj).1
  rw [List.length_range] at hlt
  rw [List.getElem?_range hlt] at hj
  injection hj with hj
  subst hj
  exact Classical.choose_spec (h2 k) hlt
theorem pick_mem {α : Type} {l : List α} {R : Nat → α → Prop} (h : ∀ (k : Nat) x, l[k]? = some x → R k x) {Q : α → Prop} (hq : ∀ k x, R k x → Q x) : ∀ x ∈ l, Q x := fun x hx => by
  obtain ⟨k, hk⟩ := List.getElem?_of_mem hx
  exact hq k x (h k x hk)
set_option maxRecDepth 100000 in
theorem open_attrs {H : Type} {enc : TypeId × Value → H} {w : World} {fuel : Nat} {v : Value} {y : DataW H × List MemPlace} (h : DataW.trod enc Try.prog w 0 (fun _ => true) true fuel 27 [v] = some y) (hw : ∀ m ∈ y.1.weights Try.prog 27, m ≤ reachBytes) :
    ∃ (A : Option Addr) (n c : Nat) (l : List P3), v = .slice A n c ∧ AttsIn w A n c l := by
  rcases open_slice Try.underlying27 h with ⟨hc, _⟩ | ⟨a, len, cap, m, n, D, Pl, hc, hb, hl, hm, hmm, hx, hall⟩
  · obtain rfl : v = .slice none 0 0 := by simpa using hc
    exact ⟨none, 0, 0, [], rfl, ⟨rfl, Nat.zero_le _, Nat.zero_le _, fun x hx => by simp at hx, fun j x hx => by simp at hx, fun _ => ⟨rfl, rfl⟩⟩⟩
  · obtain rfl : v = .slice (some a) len cap := by simpa using hc
    simp only [if_true] at hmm
    subst hmm
    rw [Try.cells52] at hall
    have st : ∀ i, i < m → ∃ x : P3, (w.cell? (a.add (i * 3)) = some (.string x.1.1) ∧ w.cell? (a.add (i * 3 + 1)) = some (.string x.1.2) ∧ w.cell? (a.add (i * 3 + 2)) = some (.string x.2)) ∧ x.1.1.size ≤ maxLen ∧ x.1.2.size ≤ maxLen ∧ x.2.size ≤ maxLen := fun i hi => by
      obtain ⟨cs', h1, h2⟩ := hall i hi
      obtain ⟨_, hlen, hcell⟩ := World.cells?_some h1
      obtain ⟨y0, y1, k, _, _, g0, g1⟩ := trod_struct2 Try.underlying52 h2
      match cs', hlen, hcell, g0, g1 with
      | [v0, v1, v2], _, hcell, g0, g1 =>
        simp [Try.cells26, Try.cells9] at g0 g1
        obtain ⟨z0, z1, k2, _, _, f0, f1⟩ := trod_struct2 Try.underlying26 g0
        simp [Try.cells9] at f0 f1
        obtain ⟨s0, e0, _, q0⟩ := DataW.trod_string Try.underlying9 f0
        obtain ⟨s1, e1, _, q1⟩ := DataW.trod_string Try.underlying9 f1
        obtain ⟨s2, e2, _, q2⟩ := DataW.trod_string Try.underlying9 g1
        simp only [List.cons.injEq, and_true] at e0 e1 e2
        subst e0 e1 e2
        have c0 := hcell 0 (by omega)
        have c1 := hcell 1 (by omega)
        have c2 := hcell 2 (by omega)
        rw [add_add] at c0 c1 c2
        exact ⟨((s0, s1), s2), ⟨by simpa using c0, by simpa using c1, by simpa using c2⟩, q0, q1, q2⟩
    obtain ⟨l, hll, hX⟩ := pick_list (n := len) (fun i hi => st i (by omega))
    rw [hx] at hw
    have hz := (slice_sizes Try.underlying27 Try.bytes52 hw).1
    unfold reachBytes at hz
    refine ⟨some a, len, m, l, rfl, ⟨hll.symm, by omega, by omega, pick_mem hX (fun k x h => h.2), fun k x hk => ?_, fun h => by cases h⟩⟩
    obtain ⟨⟨c0, c1, c2⟩, _⟩ := hX k x hk
    obtain ⟨b, off, spot⟩ := a
    have hspot : spot = none := by
      obtain ⟨_, h0⟩ := st 0 (by have := (List.getElem?_eq_some_iff.1 hk).1; omega)
      have := World.cell?_spot h0.1.1
      simpa [Addr.add] using this
    subst hspot
    rw [Addr.add_lit] at c0 c1 c2
    exact ⟨b, off, rfl, Lib.lt_of_cell c0, c0, by rw [Nat.add_assoc]; exact c1, by rw [Nat.add_assoc]; exact c2⟩
set_option maxRecDepth 100000 in
theorem open_ev_cells {H : Type} {enc : TypeId × Value → H} {w : World} {fuel : Nat} {cs : List Value} {y : DataW H × List MemPlace} (hl : cs.length = 5) (h : DataW.trod enc Try.prog w 0 (fun _ => true) true fuel 38 cs = some y) (hw : ∀ m ∈ y.1.weights Try.prog 38, m ≤ reachBytes) :
    ∃ (A : Option Addr) (n c : Nat) (x : RE), cs = [.int .i64 x.kind, .string x.sp, .string x.lo, .slice A n c, .string x.tx] ∧ AttsIn w A n c x.ats ∧ RSz x := by
  obtain ⟨y0, y1, y2, y3, k, hx, _, g0, g1, g2, g3⟩ := trod_struct4 Try.underlying38 h
  have hwt : (DataW.agg [y0.1, y1.1, y2.1, y3.1]).weights Try.prog 38 = y0.1.weights Try.prog 3 ++ (y1.1.weights Try.prog 26 ++ (y2.1.weights Try.prog 27 ++ (y3.1.weights Try.prog 9 ++ []))) := by
    simp [DataW.weights, Try.underlying38, DataW.weightsEach]
  rw [hx, hwt] at hw
  have hw2 : ∀ m ∈ y2.1.weights Try.prog 27, m ≤ reachBytes := fun m hm => hw m (by simp [hm])
  match cs, hl, g0, g1, g2, g3 with
  | [v0, v1, v2, v3, v4], _, g0, g1, g2, g3 =>
    simp [Try.cells3, Try.cells26, Try.cells27, Try.cells9] at g0 g1 g2 g3
    obtain ⟨n0, e0, _, _⟩ := DataW.trod_int Try.underlying3 g0
    obtain ⟨z0, z1, k2, _, _, f0, f1⟩ := trod_struct2 Try.underlying26 g1
    simp [Try.cells9] at f0 f1
    obtain ⟨s0, e1, _, q0⟩ := DataW.trod_string Try.underlying9 f0
    obtain ⟨s1, e2, _, q1⟩ := DataW.trod_string Try.underlying9 f1
    obtain ⟨A, n, c, l, rfl, T⟩ := open_attrs g2 hw2
    obtain ⟨s2, e3, _, q2⟩ := DataW.trod_string Try.underlying9 g3
    simp only [List.cons.injEq, and_true] at e0 e1 e2 e3
    subst e0 e1 e2 e3
    exact ⟨A, n, c, ⟨n0, s0, s1, l, s2⟩, rfl, T, ⟨q0, q1, q2⟩⟩
set_option maxRecDepth 100000 in
/-- A slice of events. -/
theorem open_evs {H : Type} {enc : TypeId × Value → H} {w : World} {r : Reach} {b0 : Nat} {v : Value} {d : DataW H} {p : List MemPlace} (hv : Value.okWide Try.prog w r b0 22 v) (h : DataW.Trod enc Try.prog w 0 (fun _ => true) true 22 v d p) (hw : ∀ m ∈ d.weights Try.prog 22, m ≤ reachBytes) :
    ∃ (A : Option Addr) (n c : Nat) (l : List RE), v = .slice A n c ∧ EvsIn w A n c l := by
  obtain ⟨a0, len0, cap0, rfl⟩ := okWide_slice Try.underlying22 hv
  obtain ⟨fuel, hf⟩ := h
  rcases open_slice Try.underlying22 hf with ⟨hc, _⟩ | ⟨a, len, cap, m, n, D, Pl, hc, hb, hl, hm, hmm, hx, hall⟩
  · obtain ⟨rfl, rfl, rfl⟩ : a0 = none ∧ len0 = 0 ∧ cap0 = 0 := by
      have hc' : [Value.slice a0 len0 cap0] = [.slice none 0 0] := hc
      simpa using hc'
    exact ⟨none, 0, 0, [], rfl, ⟨rfl, Nat.zero_le _, Nat.zero_le _, fun x hx => by simp at hx, fun j x hx => by simp at hx, fun _ => ⟨rfl, rfl⟩, ⟨Nat.le_refl _, Nat.zero_le _⟩⟩⟩
  · obtain ⟨rfl, rfl, rfl⟩ : a0 = some a ∧ len0 = len ∧ cap0 = cap := by
      have hc' : [Value.slice a0 len0 cap0] = [.slice (some a) len cap] := hc
      simpa using hc'
    simp only [if_true] at hmm
    subst hmm
    rw [Try.cells38] at hall
    simp only [Prod.mk.injEq] at hx
    rw [hx.1] at hw
    obtain ⟨hz, hwi⟩ := slice_sizes Try.underlying22 Try.bytes38 hw
    unfold reachBytes at hz
    have st : ∀ i, i < len0 → ∃ x : RE, (∃ Aa n c, AttsIn w Aa n c x.ats ∧ w.cell? (a.add (i * 5)) = some (.int .i64 x.kind) ∧ w.cell? (a.add (i * 5 + 1)) = some (.string x.sp) ∧ w.cell? (a.add (i * 5 + 2)) = some (.string x.lo) ∧ w.cell? (a.add (i * 5 + 3)) = some (.slice Aa n c) ∧ w.cell? (a.add (i * 5 + 4)) = some (.string x.tx)) ∧ RSz x := fun i hi => by
      obtain ⟨cs', h1, h2⟩ := hall i (by omega)
      obtain ⟨_, hlen, hcell⟩ := World.cells?_some h1
      obtain ⟨A, n, c, x, rfl, T, S⟩ := open_ev_cells hlen h2 (hwi i hi)
      have c0 := hcell 0 (by omega)
      have c1 := hcell 1 (by omega)
      have c2 := hcell 2 (by omega)
      have c3 := hcell 3 (by omega)
      have c4 := hcell 4 (by omega)
      rw [add_add] at c0 c1 c2 c3 c4
      exact ⟨x, ⟨A, n, c, T, by simpa using c0, by simpa using c1, by simpa using c2, by simpa using c3, by simpa using c4⟩, S⟩
    have : Nonempty RE := ⟨⟨0, ⟨#[]⟩, ⟨#[]⟩, [], ⟨#[]⟩⟩⟩
    obtain ⟨l, hll, hX⟩ := pick_list (n := len0) (fun i hi => st i hi)
    refine ⟨some a, len0, m, l, rfl, ⟨hll.symm, by omega, by omega, pick_mem hX (fun k x h => h.2), fun k x hk => ?_, (fun h => by cases h), ⟨hl, hm⟩⟩⟩
    obtain ⟨⟨Aa, n2, c2, T, k0, k1, k2, k3, k4⟩, _⟩ := hX k x hk
    obtain ⟨b, off, spot⟩ := a
    have hspot : spot = none := by
      obtain ⟨_, ⟨_, _, _, _, h0, _⟩, _⟩ := st 0 (by have := (List.getElem?_eq_some_iff.1 hk).1; omega)
      have := World.cell?_spot h0
      simpa [Addr.add] using this
    subst hspot
    rw [Addr.add_lit] at k0 k1 k2 k3 k4
    exact ⟨b, off, Aa, n2, c2, rfl, Lib.lt_of_cell k0, T, k0, by rw [Nat.add_assoc]; exact k1, by rw [Nat.add_assoc]; exact k2, by rw [Nat.add_assoc]; exact k3, by rw [Nat.add_assoc]; exact k4⟩
end Go.Proofs.Ytaoggciebkaakaa.Ev

/- The document's Few (layer 9): what it says of events. -/
set_option linter.unusedSimpArgs false
set_option linter.unusedVariables false
namespace Go.Proofs.Ytaoggciebkaakaa.Ev
open Go.RowKit

/-- Few events, few attributes, short texts. -/
structure FewE (x : RE) : Prop where
  ats : x.ats.length ≤ 400
  tx : x.tx.size ≤ 300
  lo : x.lo.size ≤ 100
  sp : x.sp.size ≤ 100
  at_ : ∀ (k : Nat) (y : P3), k < 100 → x.ats[k]? = some y → y.1.1.size ≤ 100 ∧ y.1.2.size ≤ 100 ∧ y.2.size ≤ 300
def FwPost (l : List RE) (w : World) (e : Ending) (w' : World) : Prop :=
  ∃ b, e = .returned (.bool b) ∧ (b = true → l.length ≤ 400 ∧ ∀ (k : Nat) (x : RE), l[k]? = some x → FewE x) ∧ w = w'
def FoRel (l : List RE) (n : Nat) (w : World) (vn i : Value) (wr : World) : Prop :=
  w = wr ∧ ∃ k m : Nat, i = .int .i64 k ∧ vn = .int .i64 m ∧ k ≤ n ∧ n ≤ m ∧ m ≤ n + k * 4398046511104 ∧ Hid (∀ (j : Nat) (x : RE), j < k → l[j]? = some x → x.ats.length + n ≤ m ∧ x.tx.size ≤ 300 ∧ x.lo.size ≤ 100 ∧ x.sp.size ≤ 100 ∧ ∀ (q : Nat) (y : P3), q < 100 → x.ats[q]? = some y → y.1.1.size ≤ 100 ∧ y.1.2.size ≤ 100 ∧ y.2.size ≤ 300)
def FiRel (t : RE) (n : Nat) (w : World) (i : Value) (wr : World) : Prop :=
  w = wr ∧ ∃ j : Nat, i = .int .i64 j ∧ j ≤ n ∧ j ≤ 100 ∧ Hid (∀ (q : Nat) (y : P3), q < j → t.ats[q]? = some y → y.1.1.size ≤ 100 ∧ y.1.2.size ≤ 100 ∧ y.2.size ≤ 300)
set_option maxHeartbeats 4000000 in
set_option maxRecDepth 100000 in
theorem few_any (A : Option Addr) (n c : Nat) (l : List RE) (w : World) (T : EvsIn w A n c l) : Calls Try.prog 9 #[.slice A n c] w (FwPost l w) := by
  have hn := T.cnt
  have HT := Lib.hid T
  clear T
  go_enter Try.func9, Try.ntmps9
  go_wp2_with fail
  go_loopw [3, 4, 5] (fun vn i _ wr => FoRel l n w vn i wr) (fun _ i _ _ => n - (intOf i).toNat)
  case atStart => exact ⟨rfl, 0, n, rfl, rfl, Nat.zero_le _, Nat.le_refl _, by omega, Lib.hid (fun j x h => by omega)⟩
  case round =>
    obtain ⟨rfl, k, m, rfl, rfl, hk, hm, hm2, hP⟩ := hrel
    by_cases hlt : k < n
    · by_cases h400 : m ≤ 400
      · have k1 : (k : Int) < (n : Int) := by omega
        have k2 : (m : Int) ≤ 400 := by omega
        have k3 : (0 : Int) ≤ (k : Int) := by omega
        have hkl : k < l.length := by rw [← HT.out.len]; exact hlt
        have hx := List.getElem?_eq_getElem hkl
        obtain ⟨b, off, Aa, q, ca, hA, hbl, TA, c0, c1, c2, c3, c4⟩ := HT.out.rd k _ hx
        have hbq := TA.cnt
        have HX := Lib.hid hx
        have HTA := Lib.hid TA
        generalize l[k] = x at *
        subst hA
        clear hx hkl hbl TA c0
        have q2 : IntKind.i64.wrap ((m : Int) + (q : Int)) = ((m + q : Nat) : Int) := by rw [IntWalk.i64_in _ (by omega)]; omega
        by_cases ht : x.tx.size ≤ 300
        · by_cases hlo : x.lo.size ≤ 100
          · by_cases hsp : x.sp.size ≤ 100
            · have t1 : decide ((300 : Int) < (x.tx.size : Int)) = false := by rw [decide_eq_false_iff_not]; omega
              have t2 : decide ((100 : Int) < (x.lo.size : Int)) = false := by rw [decide_eq_false_iff_not]; omega
              have t3 : decide ((100 : Int) < (x.sp.size : Int)) = false := by rw [decide_eq_false_iff_not]; omega
              go_wp2_with fail
              go_loopw [5] (fun i wr => FiRel x q w i wr) (fun i _ => q - (intOf i).toNat)
              case atStart => exact ⟨rfl, 0, rfl, Nat.zero_le _, by omega, Lib.hid (fun j y h => by omega)⟩
              case round =>
                obtain ⟨rfl, j, rfl, hj, hj2, hQ⟩ := hrel
                by_cases hjq : j < q
                · by_cases hj1 : j < 100
                  · have j1 : (j : Int) < (q : Int) := by omega
                    have j2 : (j : Int) < 100 := by omega
                    have j3 : (0 : Int) ≤ (j : Int) := by omega
                    have hjl : j < x.ats.length := by rw [← HTA.out.len]; exact hjq
                    have hy := List.getElem?_eq_getElem hjl
                    obtain ⟨b2, o2, hA2, _, d0, d1, d2⟩ := HTA.out.rd j _ hy
                    have HY := Lib.hid hy
                    generalize x.ats[j] = y at *
                    subst hA2
                    clear hy hjl
                    by_cases hv : y.2.size ≤ 300
                    · by_cases hyl : y.1.2.size ≤ 100
                      · by_cases hys : y.1.1.size ≤ 100
                        · have u1 : decide ((300 : Int) < (y.2.size : Int)) = false := by rw [decide_eq_false_iff_not]; omega
                          have u2 : decide ((100 : Int) < (y.1.2.size : Int)) = false := by rw [decide_eq_false_iff_not]; omega
                          have u3 : decide ((100 : Int) < (y.1.1.size : Int)) = false := by rw [decide_eq_false_iff_not]; omega
                          have hQ2 : Hid (∀ (i : Nat) (z : P3), i < j + 1 → x.ats[i]? = some z → z.1.1.size ≤ 100 ∧ z.1.2.size ≤ 100 ∧ z.2.size ≤ 300) := Lib.hid fun i z hi hz => by
                            rcases Nat.lt_or_ge i j with g | g
                            · exact hQ.out i z g hz
                            · obtain rfl : i = j := by omega
                              rw [HY.out] at hz
                              injection hz with hz
                              rw [← hz]
                              exact ⟨hys, hyl, hv⟩
                          clear hQ HY hv hyl hys
                          go_wp2
                          go_roundw
                          case rel => exact ⟨rfl, j + 1, by go_num, by omega, by omega, hQ2⟩
                          case measure => simp only [intOf]; omega
                        · have u1 : decide ((300 : Int) < (y.2.size : Int)) = false := by rw [decide_eq_false_iff_not]; omega
                          have u2 : decide ((100 : Int) < (y.1.2.size : Int)) = false := by rw [decide_eq_false_iff_not]; omega
                          have u3 : decide ((100 : Int) < (y.1.1.size : Int)) = true := by rw [decide_eq_true_eq]; omega
                          clear hQ HY hv hyl hys
                          go_wp2
                          go_ret
                          exact ⟨false, rfl, (fun e => by cases e), rfl⟩
                      · have u1 : decide ((300 : Int) < (y.2.size : Int)) = false := by rw [decide_eq_false_iff_not]; omega
                        have u2 : decide ((100 : Int) < (y.1.2.size : Int)) = true := by rw [decide_eq_true_eq]; omega
                        clear hQ HY hv hyl
                        go_wp2
                        go_ret
                        exact ⟨false, rfl, (fun e => by cases e), rfl⟩
                    · have u1 : decide ((300 : Int) < (y.2.size : Int)) = true := by rw [decide_eq_true_eq]; omega
                      clear hQ HY hv
                      go_wp2
                      go_ret
                      exact ⟨false, rfl, (fun e => by cases e), rfl⟩
                  · have j1 : (j : Int) < (q : Int) := by omega
                    have j2 : ¬ (j : Int) < 100 := by omega
                    have hP2 : Hid (∀ (i : Nat) (z : RE), i < k + 1 → l[i]? = some z → z.ats.length + n ≤ m + q ∧ z.tx.size ≤ 300 ∧ z.lo.size ≤ 100 ∧ z.sp.size ≤ 100 ∧ ∀ (q : Nat) (y : P3), q < 100 → z.ats[q]? = some y → y.1.1.size ≤ 100 ∧ y.1.2.size ≤ 100 ∧ y.2.size ≤ 300) := Lib.hid fun i z hi hz => by
                      rcases Nat.lt_or_ge i k with g | g
                      · obtain ⟨z1, z2⟩ := hP.out i z g hz
                        exact ⟨by omega, z2⟩
                      · obtain rfl : i = k := by omega
                        rw [HX.out] at hz
                        injection hz with hz
                        rw [← hz]
                        exact ⟨by rw [← HTA.out.len]; omega, ht, hlo, hsp, fun q y hq hy => hQ.out q y (by omega) hy⟩
                    clear hP HX hQ
                    go_wp2
                    go_roundw
                    case rel => exact ⟨rfl, k + 1, m + q, by go_num, by first | rfl | go_num, by omega, by omega, by omega, hP2⟩
                    case measure => simp only [intOf]; omega
                · have j1 : ¬ (j : Int) < (q : Int) := by omega
                  have hP2 : Hid (∀ (i : Nat) (z : RE), i < k + 1 → l[i]? = some z → z.ats.length + n ≤ m + q ∧ z.tx.size ≤ 300 ∧ z.lo.size ≤ 100 ∧ z.sp.size ≤ 100 ∧ ∀ (q : Nat) (y : P3), q < 100 → z.ats[q]? = some y → y.1.1.size ≤ 100 ∧ y.1.2.size ≤ 100 ∧ y.2.size ≤ 300) := Lib.hid fun i z hi hz => by
                    rcases Nat.lt_or_ge i k with g | g
                    · obtain ⟨z1, z2⟩ := hP.out i z g hz
                      exact ⟨by omega, z2⟩
                    · obtain rfl : i = k := by omega
                      rw [HX.out] at hz
                      injection hz with hz
                      rw [← hz]
                      exact ⟨by rw [← HTA.out.len]; omega, ht, hlo, hsp, fun q' y hq hy => hQ.out q' y (by have := (List.getElem?_eq_some_iff.1 hy).1; rw [← HTA.out.len] at this; omega) hy⟩
                  clear hP HX hQ
                  go_wp2
                  go_roundw
                  case rel => exact ⟨rfl, k + 1, m + q, by go_num, by first | rfl | go_num, by omega, by omega, by omega, hP2⟩
                  case measure => simp only [intOf]; omega
            · have t1 : decide ((300 : Int) < (x.tx.size : Int)) = false := by rw [decide_eq_false_iff_not]; omega
              have t2 : decide ((100 : Int) < (x.lo.size : Int)) = false := by rw [decide_eq_false_iff_not]; omega
              have t3 : decide ((100 : Int) < (x.sp.size : Int)) = true := by rw [decide_eq_true_eq]; omega
              clear hP HX
              go_wp2
              go_ret
              exact ⟨false, rfl, (fun e => by cases e), rfl⟩
          · have t1 : decide ((300 : Int) < (x.tx.size : Int)) = false := by rw [decide_eq_false_iff_not]; omega
            have t2 : decide ((100 : Int) < (x.lo.size : Int)) = true := by rw [decide_eq_true_eq]; omega
            clear hP HX
            go_wp2
            go_ret
            exact ⟨false, rfl, (fun e => by cases e), rfl⟩
        · have t1 : decide ((300 : Int) < (x.tx.size : Int)) = true := by rw [decide_eq_true_eq]; omega
          clear hP HX
          go_wp2
          go_ret
          exact ⟨false, rfl, (fun e => by cases e), rfl⟩
      · have k1 : (k : Int) < (n : Int) := by omega
        have k2 : ¬ (m : Int) ≤ 400 := by omega
        clear hP
        go_wp2
        go_ret
        exact ⟨false, rfl, (fun e => by cases e), rfl⟩
    · have k1 : ¬ (k : Int) < (n : Int) := by omega
      by_cases h400 : m ≤ 400
      · have k2 : (m : Int) ≤ 400 := by omega
        have hP2 : Hid (l.length ≤ 400 ∧ ∀ (k : Nat) (x : RE), l[k]? = some x → FewE x) := Lib.hid ⟨by rw [← HT.out.len]; omega, fun j x hx => by
          have hj := (List.getElem?_eq_some_iff.1 hx).1
          rw [← HT.out.len] at hj
          obtain ⟨a1, a2, a3, a4, a5⟩ := hP.out j x (by omega) hx
          exact ⟨by omega, a2, a3, a4, a5⟩⟩
        clear hP
        go_wp2
        go_ret
        exact ⟨true, rfl, (fun _ => hP2.out), rfl⟩
      · have k2 : ¬ (m : Int) ≤ 400 := by omega
        clear hP
        go_wp2
        go_ret
        exact ⟨false, rfl, (fun e => by cases e), rfl⟩
end Go.Proofs.Ytaoggciebkaakaa.Ev

/- The document's named and Right (layer 9), over contracts of what they call. -/
set_option linter.unusedSimpArgs false
set_option linter.unusedVariables false
namespace Go.Proofs.Ytaoggciebkaakaa.Ev
open Go.RowKit

theorem nblk (w : World) (T : TypeId) (cs : Array Value) : (w.alloc (.cells cs T)).heap[w.heap.size]? = some (.cells cs T (0, 0)) := heap_alloc_new w _
theorem cells_of {W : World} {b : Nat} {cs : Array Value} {T : TypeId} {fz : Nat × Nat} (h : W.heap[b]? = some (.cells cs T fz)) (j : Nat) {u : Value} (hu : cs[j]? = some u) : W.cell? ⟨b, j, none⟩ = some u := (Lib.cell_of_heap h j).trans hu
theorem cells2 {W : World} {b : Nat} {a0 a1 : Value} {T : TypeId} {fz : Nat × Nat} (h : W.heap[b]? = some (.cells #[a0, a1] T fz)) : W.cell? ⟨b, 0, none⟩ = some a0 ∧ W.cell? ⟨b, 1, none⟩ = some a1 := ⟨cells_of h 0 rfl, cells_of h 1 rfl⟩
theorem cells5 {W : World} {b : Nat} {a0 a1 a2 a3 a4 : Value} {T : TypeId} {fz : Nat × Nat} (h : W.heap[b]? = some (.cells #[a0, a1, a2, a3, a4] T fz)) : W.cell? ⟨b, 0, none⟩ = some a0 ∧ W.cell? ⟨b, 1, none⟩ = some a1 ∧ W.cell? ⟨b, 2, none⟩ = some a2 ∧ W.cell? ⟨b, 3, none⟩ = some a3 ∧ W.cell? ⟨b, 4, none⟩ = some a4 := ⟨cells_of h 0 rfl, cells_of h 1 rfl, cells_of h 2 rfl, cells_of h 3 rfl, cells_of h 4 rfl⟩
/-- A name may be: its local part is plain, both parts may stand in a text, the space is not that of xmlns. -/
def nmF (pL tR : ByteArray → Bool) (x : P2) : Bool := pL x.2 && tR x.2 && tR x.1 && (x.1.toList != [104, 116, 116, 112, 58, 47, 47, 119, 119, 119, 46, 119, 51, 46, 111, 114, 103, 47, 50, 48, 48, 48, 47, 120, 109, 108, 110, 115, 47])
def StrC (f : Nat) (g : ByteArray → Bool) : Prop := ∀ (s : ByteArray) (W : World), s.size ≤ 10000 → Calls Try.prog f #[.string s] W fun e w' => e = .returned (.bool (g s)) ∧ Below W.heap.size W w'
end Go.Proofs.Ytaoggciebkaakaa.Ev

/- strings.Clone; tree.named. -/
set_option linter.unusedSimpArgs false
set_option linter.unusedVariables false
namespace Go.Proofs.Ytaoggciebkaakaa.Ev
open Go.RowKit

theorem Try.info5 : (Try.prog.info? 5).map (fun i => (i.zero, i.size, i.bytes)) = some (some (.int .u8 0), 1, 1) := by kernel_rfl
/-- How long a string that is copied may be. -/
def LimS : Nat := 140737488351232
set_option maxHeartbeats 2000000 in
set_option maxRecDepth 100000 in
theorem clone0_any (s : ByteArray) (w : World) (hlim : s.size ≤ 140737488351232) :
    Calls Try.prog 42 #[.string s] w fun e w' => e = .returned (.string s) ∧ Below w.heap.size w w' := by
  by_cases h0 : s.size = 0
  · have hs : s = ⟨#[]⟩ := by
      apply ByteArray.ext
      exact Array.eq_empty_of_size_eq_zero h0
    subst hs
    go_enter Try.func42, Try.ntmps42
    go_wp2
    go_ret
    exact ⟨rfl, Below.refl _ _⟩
  · obtain ⟨i0, hi, hz0, hz1, hz2⟩ := info_parts Try.info5
    have hinfo : (Try.prog.info? 5).map (·.size) = some 1 := by rw [hi]; simp [hz1]
    have hco : Try.prog.cellsOf 5 = 1 := by kernel_rfl
    obtain ⟨M, hM⟩ : ∃ M, M = madeCells (Value.int .u8 0).cells (((s.size : Nat) : Int).toNat * i0.size) := ⟨_, rfl⟩
    have hMs : M.size = s.size := by rw [hM, size_madeCells, hz1]; simp
    have hmk : ∀ W : World, (Instr.makeSlice 72 (.int .i64 (s.size : Int)) (.int .i64 (s.size : Int))).run Try.prog W = .ok (.slice (some ⟨W.heap.size, 0, none⟩) s.size s.size) (W.alloc (.cells M 5)) := fun W => by
      have h := run_make (P := Try.prog) W 72 5 i0 (.int .u8 0) Try.underlying72 hi hz0 .i64 .i64 (s.size : Int) (s.size : Int) (by omega) (by omega) (by rw [hz2]; omega) (by omega)
      rw [← hM] at h
      simpa using h
    clear hM
    have hcp := Lib.run_copy_row_string (P := Try.prog) (w.alloc (.cells M 5)) 72 9 3 5 w.heap.size 0 s.size s.size s M 5 Try.underlying72 hinfo (heap_alloc_new w _) (Nat.le_refl _) (by omega)
    obtain ⟨Y, hY⟩ : ∃ Y, Y = (M.toList.take 0 ++ Lib.byteCells s.data.toList ++ M.toList.drop (0 + s.size)).toArray := ⟨_, rfl⟩
    rw [← hY] at hcp
    have hYl : Y.toList = Lib.byteCells s.data.toList := by
      rw [hY, List.toList_toArray, List.take_zero, List.nil_append, List.drop_of_length_le (by rw [Array.length_toList]; omega), List.append_nil]
    have hYs : Y.size = s.size := by rw [← Array.length_toList, hYl, Lib.byteCells_length, ← Lib.size_eq]
    have hgY : ((w.alloc (.cells M 5)).setRow w.heap.size Y).heap[w.heap.size]? = some (.cells Y 5 (0, 0)) := setRow_heap _ _ M _ 5 (0, 0) (heap_alloc_new w _)
    have hne : s.data.toList ≠ [] := fun e => h0 (by rw [Lib.size_eq, e]; rfl)
    have hUS := Lib.run_unsafeString_row (P := Try.prog) ((w.alloc (.cells M 5)).setRow w.heap.size Y) 73 3 9 5 Try.underlying73 hco w.heap.size Y.size (by unfold World.shape?; rw [hgY]) s.data.toList hne (by rw [← Lib.size_eq]; omega) (by rw [← Lib.size_eq]; omega)
      (fun j x hx => Lib.cells_of_row hgY Y.size j _ (by rw [List.take_of_length_le (by rw [Array.length_toList]; exact Nat.le_refl _), hYl]; simp [Lib.byteCells, hx]))
    rw [← Lib.size_eq] at hUS
    clear hY
    go_enter Try.func42, Try.ntmps42
    go_wp2
    go_ret
    have hb1 : Below w.heap.size w (w.alloc (.cells M 5)) := (Below.refl _ w).alloc (Nat.le_refl _) _
    have hb2 : Below w.heap.size (w.alloc (.cells M 5)) ((w.alloc (.cells M 5)).setRow w.heap.size Y) := ⟨rfl, rfl, rfl, by simp, fun k hk => setRow_other _ _ _ _ (by omega)⟩
    exact ⟨rfl, Lib.below_freeze (hb1.trans hb2) (p := ⟨w.heap.size, 0, none⟩) (Nat.le_refl _) _⟩
set_option maxRecDepth 100000 in
theorem clone_any (s : ByteArray) (w : World) (hlim : s.size ≤ LimS) :
    Calls Try.prog 36 #[.string s] w fun e w' => e = .returned (.string s) ∧ Below w.heap.size w w' := by
  have C := Lib.hid (clone0_any s w hlim)
  clear hlim
  go_enter Try.func36, Try.ntmps36
  go_wp2_with (go_at_call 42; refine C.out.mono ?_; rintro e w' ⟨rfl, hb⟩)
  go_ret
  exact ⟨rfl, hb⟩
theorem Try.results37 : Try.f37.results = #[ResultVar.cell 2 26] := by kernel_rfl
theorem set2_0 {W : World} {b : Nat} {u : Value} (x y : Value) (h0 : W.cell? ⟨b, 0, none⟩ = some u) : ((W.setCell ⟨b, 0, none⟩ x).setCell ⟨b, 1, none⟩ y).cell? ⟨b, 0, none⟩ = some x := by
  have h1 : (⟨b, 1, none⟩ : Addr) ≠ ⟨b, 0, none⟩ := by simp
  have h2 := World.cell?_setCell_same' W ⟨b, 0, none⟩ x (by rw [h0]; rfl)
  rw [← h2]
  exact World.cell?_setCell_other (h := h1) ..
theorem set2_1 {W : World} {b : Nat} {v : Value} (x y : Value) (h1 : W.cell? ⟨b, 1, none⟩ = some v) : ((W.setCell ⟨b, 0, none⟩ x).setCell ⟨b, 1, none⟩ y).cell? ⟨b, 1, none⟩ = some y := by
  have h0 : (⟨b, 0, none⟩ : Addr) ≠ ⟨b, 1, none⟩ := by simp
  refine World.cell?_setCell_same' _ _ _ ?_
  have h2 : (W.setCell ⟨b, 0, none⟩ x).cell? ⟨b, 1, none⟩ = W.cell? ⟨b, 1, none⟩ := World.cell?_setCell_other (h := h0) ..
  rw [h2, h1]
  rfl
theorem frz_of {W : World} {b : Nat} {cs : Array Value} {T : TypeId} (h : W.heap[b]? = some (.cells cs T (0, 0))) (j : Nat) : W.frozen? ⟨b, j, none⟩ = false := by
  unfold World.frozen?
  rw [h]
  simp
def CpS (w : World) (W : World) : Prop := (∃ a b, W.heap[w.heap.size + 1]? = some (.cells #[a, b] 26 (0, 0))) ∧ Below w.heap.size w W
theorem CpS.lt {w W : World} (h : CpS w W) : w.heap.size + 1 < W.heap.size := by
  obtain ⟨⟨a, b, h⟩, _⟩ := h
  exact (Array.getElem?_eq_some_iff.1 h).1
theorem CpS.keep {w W W' : World} (h : CpS w W) (hb : Below W.heap.size W W') : CpS w W' := by
  have hl := h.lt
  obtain ⟨⟨a, b, h⟩, h2⟩ := h
  exact ⟨⟨a, b, (hb.block _ hl).trans h⟩, h2.trans (hb.mono h2.size)⟩
theorem cps_start (w : World) (p s : ByteArray) : CpS w ((w.alloc (.cells #[.string p, .string s] 26)).alloc (.cells #[.string ⟨#[]⟩, .string ⟨#[]⟩] 26)).drew := by
  refine ⟨⟨.string ⟨#[]⟩, .string ⟨#[]⟩, ?_⟩, (((Below.refl _ w).alloc (Nat.le_refl _) _).alloc (by simp) _).drew⟩
  have := heap_alloc_new (w.alloc (.cells #[.string p, .string s] 26)) (.cells #[.string ⟨#[]⟩, .string ⟨#[]⟩] 26)
  rw [World.size_alloc] at this
  exact this
def CpA (w : World) (p s : Value) (W : World) : Prop := W.cell? ⟨w.heap.size, 0, none⟩ = some p ∧ W.cell? ⟨w.heap.size, 1, none⟩ = some s ∧ Hid (CpS w W)
theorem cps_next {w W w2 : World} {p s : Value} (hb : Below W.heap.size W w2) (h : CpA w p s W) : CpA w p s w2 := by
  have hl := h.2.2.out.lt
  exact ⟨(hb.cell (p := ⟨w.heap.size, 0, none⟩) (show w.heap.size < _ by omega)).trans h.1, (hb.cell (p := ⟨w.heap.size, 1, none⟩) (show w.heap.size < _ by omega)).trans h.2.1, Lib.hid (h.2.2.out.keep hb)⟩
theorem cps_put {w W : World} {p s : Value} (h : CpA w p s W) (x y : Value) : CpA w p s ((W.setCell ⟨w.heap.size + 1, 0, none⟩ x).setCell ⟨w.heap.size + 1, 1, none⟩ y) := by
  obtain ⟨h1, h2, h3⟩ := h
  obtain ⟨⟨a, b, h4⟩, h5⟩ := h3.out
  refine ⟨by rw [World.cell?_setCell_far _ _ _ _ (by simp), World.cell?_setCell_far _ _ _ _ (by simp)]; exact h1, by rw [World.cell?_setCell_far _ _ _ _ (by simp), World.cell?_setCell_far _ _ _ _ (by simp)]; exact h2, Lib.hid ⟨⟨x, y, by simp [World.setCell, Array.getElem?_modify, h4]⟩, (h5.setCell (p := ⟨w.heap.size + 1, 0, none⟩) (by simp) _).setCell (p := ⟨w.heap.size + 1, 1, none⟩) (by simp) _⟩⟩
set_option maxHeartbeats 4000000 in
set_option maxRecDepth 100000 in
theorem tnamed_any (p s : ByteArray) (w : World) (hp : p.size ≤ LimS) (hs : s.size ≤ LimS) :
    Calls Try.prog 37 #[.agg #[.string p, .string s]] w fun e w' => e = .returned (.agg #[.string p, .string s]) ∧ Below w.heap.size w w' := by
  have CP := Lib.hid (fun W => clone_any p W hp)
  have CS := Lib.hid (fun W => clone_any s W hs)
  have H0 := Lib.hid (cps_start w p s)
  clear hp hs
  go_enter Try.func37, Try.ntmps37
  go_wp2_with fail
  go_region_held3 (fun W => W.cell? ⟨w.heap.size, 0, none⟩ = some (.string p) ∧ W.cell? ⟨w.heap.size, 1, none⟩ = some (.string s) ∧ Hid (CpS w W))
    (first
      | exact ⟨by simp, by simp, H0⟩
      | (go_split_ands; exact ⟨by assumption, by assumption, by assumption⟩)
      | exact cps_put ⟨by assumption, by assumption, by assumption⟩ _ _)
    (first
      | (go_at_call_of 36 (Value.string p); refine (CP.out _).mono ?_; rintro e w2 ⟨rfl, hb⟩; obtain ⟨q0, q1, q2⟩ : CpA w (.string p) (.string s) w2 := cps_next hb ⟨by first | assumption | simp, by first | assumption | simp, by assumption⟩; obtain ⟨⟨ya, yb, yh⟩, yB⟩ := q2.out; have z0 : w2.cell? ⟨w.heap.size + 1, 0, none⟩ = some ya := cells_of yh 0 rfl; have z1 : w2.cell? ⟨w.heap.size + 1, 1, none⟩ = some yb := cells_of yh 1 rfl; have f0 := frz_of yh 0; have f1 := frz_of yh 1; have HY := Lib.hid yB; clear yh yB)
      | (go_at_call_of 36 (Value.string s); refine (CS.out _).mono ?_; rintro e w2 ⟨rfl, hb⟩; obtain ⟨q0, q1, q2⟩ : CpA w (.string p) (.string s) w2 := cps_next hb ⟨by first | assumption | simp, by first | assumption | simp, by assumption⟩; obtain ⟨⟨ya, yb, yh⟩, yB⟩ := q2.out; have z0 : w2.cell? ⟨w.heap.size + 1, 0, none⟩ = some ya := cells_of yh 0 rfl; have z1 : w2.cell? ⟨w.heap.size + 1, 1, none⟩ = some yb := cells_of yh 1 rfl; have f0 := frz_of yh 0; have f1 := frz_of yh 1; have HY := Lib.hid yB; clear yh yB))
  all_goals
    go_wp2
    have c0 : ((w2.setCell ⟨w.heap.size + 1, 0, none⟩ (.string p)).setCell ⟨w.heap.size + 1, 1, none⟩ (.string s)).cell? ⟨w.heap.size + 1, 0, none⟩ = some (.string p) := set2_0 _ _ z0
    have c1 : ((w2.setCell ⟨w.heap.size + 1, 0, none⟩ (.string p)).setCell ⟨w.heap.size + 1, 1, none⟩ (.string s)).cell? ⟨w.heap.size + 1, 1, none⟩ = some (.string s) := set2_1 _ _ z1
    exact bodyPost_ret (v := .agg #[.string p, .string s]) (by simp [results, Try.results37, go_sem, c0, c1]) rfl ⟨rfl, (HY.out.setCell (p := ⟨w.heap.size + 1, 0, none⟩) (by simp) _).setCell (p := ⟨w.heap.size + 1, 1, none⟩) (by simp) _⟩
end Go.Proofs.Ytaoggciebkaakaa.Ev

/- The document's Right (layer 9), over contracts of what it calls. -/
set_option linter.unusedSimpArgs false
set_option linter.unusedVariables false
namespace Go.Proofs.Ytaoggciebkaakaa.Ev
open Go.RowKit

theorem below_drewN {B : Nat} {w w' : World} (h : Below B w w') (n : Nat) : Below B w (w'.drewN n) := ⟨h.os, h.tape, h.output, h.size, h.block⟩
/-- Two names are the same. -/
def eqn (x y : P2) : Bool := (x.1.toList == y.1.toList) && (x.2.toList == y.2.toList)
/-- The attributes from here on are right, those ahead bear these names. -/
def goA (nm : P2 → Bool) (tR : ByteArray → Bool) : List P2 → List P3 → Bool
  | _, [] => true
  | seen, x :: r => nm x.1 && tR x.2 && !(seen.any fun y => eqn y x.1) && goA nm tR (seen ++ [x.1]) r
def emp (s : ByteArray) : Bool := s.toList.isEmpty
theorem emp3 (a b : ByteArray) : (a.toList.isEmpty = true ∧ b.toList.isEmpty = true) ∨ (a.toList.isEmpty = true ∧ b.toList.isEmpty = false) ∨ a.toList.isEmpty = false := by
  cases a.toList.isEmpty <;> cases b.toList.isEmpty <;> simp
def noneF (x : RE) : Bool := emp x.sp && emp x.lo && (x.ats.length == 0)
/-- An event is right. -/
def rightF (pL tR : ByteArray → Bool) (x : RE) : Bool :=
  if x.kind = 2 then noneF x && !emp x.tx && tR x.tx
  else if x.kind = 3 then noneF x && emp x.tx
  else if x.kind ≠ 1 ∨ emp x.tx = false ∨ nmF pL tR (x.sp, x.lo) = false ∨ 32 < x.ats.length then false
  else goA (nmF pL tR) tR [] x.ats
theorem go_step {nm : P2 → Bool} {tR : ByteArray → Bool} {l : List P3} {i : Nat} {x : P3} (hx : l[i]? = some x) : goA nm tR ((l.take i).map (·.1)) (l.drop i) = (nm x.1 && tR x.2 && !(((l.take i).map (·.1)).any fun y => eqn y x.1) && goA nm tR ((l.take (i + 1)).map (·.1)) (l.drop (i + 1))) := by
  have hlt := (List.getElem?_eq_some_iff.1 hx).1
  have hd : l.drop i = x :: l.drop (i + 1) := by
    rw [List.drop_eq_getElem_cons hlt]
    have := (List.getElem?_eq_some_iff.1 hx).2
    rw [this]
  have ht : (l.take (i + 1)).map (·.1) = (l.take i).map (·.1) ++ [x.1] := by rw [List.take_add_one, hx]; simp
  rw [hd, ht]
  rfl
/-- The bounds that Right asks. -/
structure RgB (x : RE) : Prop where
  sp : x.sp.size ≤ 10000
  lo : x.lo.size ≤ 10000
  tx : x.tx.size ≤ 10000
  at_ : x.ats.length ≤ 32 → ∀ y ∈ x.ats, y.1.1.size ≤ 10000 ∧ y.1.2.size ≤ 10000 ∧ y.2.size ≤ 10000
end Go.Proofs.Ytaoggciebkaakaa.Ev

/- The document's Right (layer 9) of whatever event. -/
set_option linter.unusedSimpArgs false
set_option linter.unusedVariables false
namespace Go.Proofs.Ytaoggciebkaakaa.Ev
open Go.RowKit

end Go.Proofs.Ytaoggciebkaakaa.Ev

/- The document's Depth (layer 9) of whatever events. -/
set_option linter.unusedSimpArgs false
set_option linter.unusedVariables false
namespace Go.Proofs.Ytaoggciebkaakaa.Ev
open Go.RowKit

/-- How many are open behind these events, if so many were, the last one of this kind; -1: that can't be. -/
def depR (R : RE → Bool) : Bool → Int → Int → List RE → Int
  | _, _, n, [] => n
  | first, pk, n, x :: r =>
    if R x = false ∨ (n == 0) ≠ first ∨ (first = true ∧ x.kind ≠ 1) then -1
    else if x.kind = 2 ∧ pk = 2 then -1
    else
      let m := if x.kind = 1 then n + 1 else if x.kind = 3 then n - 1 else n
      if 64 < m then -1 else depR R false x.kind m r
/-- The document's Depth. -/
def depF (pL tR : ByteArray → Bool) (l : List RE) : Int := depR (rightF pL tR) true 0 0 l
theorem few_rgb {x : RE} (h : FewE x) : RgB x := ⟨by have := h.sp; omega, by have := h.lo; omega, by have := h.tx; omega, fun hn y hy => by
  obtain ⟨k, hk⟩ := List.getElem?_of_mem hy
  have hlt := (List.getElem?_eq_some_iff.1 hk).1
  obtain ⟨a, b, c⟩ := h.at_ k y (by omega) hk
  exact ⟨by omega, by omega, by omega⟩⟩
theorem right_kind {pL tR : ByteArray → Bool} {x : RE} (h : rightF pL tR x = true) : x.kind = 1 ∨ x.kind = 2 ∨ x.kind = 3 := by
  by_cases h2 : x.kind = 2
  · exact .inr (.inl h2)
  by_cases h3 : x.kind = 3
  · exact .inr (.inr h3)
  by_cases h1 : x.kind = 1
  · exact .inl h1
  unfold rightF at h
  rw [if_neg h2, if_neg h3, if_pos (.inl h1)] at h
  cases h
def prevK (l : List RE) (k : Nat) : Int := ((l[k - 1]?).map (·.kind)).getD 0
def DpRel (F : Int) (R : RE → Bool) (l : List RE) (n : Nat) (w : World) (vn i : Value) (wr : World) : Prop :=
  ∃ k m : Nat, i = .int .i64 k ∧ vn = .int .i64 m ∧ k ≤ n ∧ m ≤ 64 ∧ (k = 0 → m = 0) ∧ Hid (Below w.heap.size w wr) ∧ Hid (F = depR R (decide (k = 0)) (prevK l k) m (l.drop k))
theorem dep_step {R : RE → Bool} {l : List RE} {k : Nat} {x : RE} (hx : l[k]? = some x) (b : Bool) (p m : Int) : depR R b p m (l.drop k) = if R x = false ∨ (m == 0) ≠ b ∨ (b = true ∧ x.kind ≠ 1) then -1 else if x.kind = 2 ∧ p = 2 then -1 else if 64 < (if x.kind = 1 then m + 1 else if x.kind = 3 then m - 1 else m) then -1 else depR R (decide (k + 1 = 0)) (prevK l (k + 1)) (if x.kind = 1 then m + 1 else if x.kind = 3 then m - 1 else m) (l.drop (k + 1)) := by
  have hlt := (List.getElem?_eq_some_iff.1 hx).1
  have hd : l.drop k = x :: l.drop (k + 1) := by
    rw [List.drop_eq_getElem_cons hlt]
    have := (List.getElem?_eq_some_iff.1 hx).2
    rw [this]
  have hp : prevK l (k + 1) = x.kind := by unfold prevK; rw [Nat.add_sub_cancel, hx]; rfl
  have hf : decide (k + 1 = 0) = false := by simp
  rw [hd, hp, hf]
  rfl
end Go.Proofs.Ytaoggciebkaakaa.Ev

/- Beginnings of documents (layer 9), plain: what is ahead of a beginning is one; with its closers it is a document. -/
set_option linter.unusedSimpArgs false
set_option linter.unusedVariables false
namespace Go.Proofs.Ytaoggciebkaakaa.Ev

def lastK (p : Int) : List RE → Int
  | [] => p
  | x :: r => lastK x.kind r
theorem dep_next {R : RE → Bool} {b : Bool} {p n : Int} {x : RE} {r : List RE} (hn : 0 ≤ n) (hb : b = true → n = 0) :
    depR R b p n (x :: r) = -1 ∨ (R x = true ∧ ((n == 0) = b) ∧ ∃ m, 0 ≤ m ∧ m ≤ 64 ∧ (m = if x.kind = 1 then n + 1 else if x.kind = 3 then n - 1 else n) ∧ ∀ s, depR R b p n (x :: s) = depR R false x.kind m s) := by
  by_cases q : R x = false ∨ (n == 0) ≠ b ∨ (b = true ∧ x.kind ≠ 1)
  · left
    show (if _ then _ else _) = _
    rw [if_pos q]
  by_cases q2 : x.kind = 2 ∧ p = 2
  · left
    show (if _ then _ else _) = _
    rw [if_neg q, if_pos q2]
  by_cases q3 : 64 < (if x.kind = 1 then n + 1 else if x.kind = 3 then n - 1 else n)
  · left
    show (if _ then _ else if _ then _ else if 64 < (if x.kind = 1 then n + 1 else if x.kind = 3 then n - 1 else n) then _ else _) = _
    rw [if_neg q, if_neg q2, if_pos q3]
  right
  have h1 : R x = true := by
    cases h : R x
    · exact absurd (.inl h) q
    · rfl
  have h2 : (n == 0) = b := Decidable.not_not.1 fun h => q (.inr (.inl h))
  refine ⟨h1, h2, _, ?_, by omega, rfl, fun s => ?_⟩
  · split
    · omega
    · split
      · rename_i k1 k3
        have hb0 : b = false := by
          cases b
          · rfl
          · exact absurd (.inr (.inr ⟨rfl, k1⟩)) q
        rw [hb0] at h2
        have : n ≠ 0 := by simpa using h2
        omega
      · exact hn
  · show (if _ then _ else if _ then _ else if 64 < (if x.kind = 1 then n + 1 else if x.kind = 3 then n - 1 else n) then _ else _) = _
    rw [if_neg q, if_neg q2, if_neg q3]
theorem dep_range {R : RE → Bool} : ∀ (l : List RE) {b : Bool} {p n : Int}, 0 ≤ n → n ≤ 64 → (b = true → n = 0) → depR R b p n l = -1 ∨ (0 ≤ depR R b p n l ∧ depR R b p n l ≤ 64)
  | [], b, p, n, h0, h64, _ => .inr ⟨h0, h64⟩
  | x :: r, b, p, n, h0, h64, hb => by
    rcases dep_next (R := R) (b := b) (p := p) (x := x) (r := r) h0 hb with h | ⟨_, _, m, h1, h2, _, h3⟩
    · exact .inl h
    · rw [h3 r]
      exact dep_range r h1 h2 (fun h => by cases h)
theorem dep_app {R : RE → Bool} : ∀ (u v : List RE) {b : Bool} {p n : Int}, 0 ≤ n → (b = true → n = 0) → depR R b p n (u ++ v) = if depR R b p n u < 0 then -1 else depR R (b && u.isEmpty) (lastK p u) (depR R b p n u) v
  | [], v, b, p, n, h0, _ => by
    have h : depR R b p n [] = n := rfl
    rw [h, if_neg (by omega)]
    simp [lastK]
  | x :: r, v, b, p, n, h0, hb => by
    rcases dep_next (R := R) (b := b) (p := p) (x := x) (r := r) h0 hb with h | ⟨_, _, m, h1, h2, _, h3⟩
    · have h' : depR R b p n (x :: (r ++ v)) = -1 := by
        revert h
        show (if _ then _ else if _ then _ else if _ then _ else _) = _ → (if _ then _ else if _ then _ else if _ then _ else _) = _
        rcases dep_next (R := R) (b := b) (p := p) (x := x) (r := r ++ v) h0 hb with g | ⟨g1, g2, m, g3, g4, g5, g6⟩
        · exact fun _ => g
        · intro h
          have e : depR R b p n (x :: r) = -1 := h
          rw [g6 r] at e
          have e2 := g6 (r ++ v)
          rw [dep_app r v g3 (fun h => by cases h), e, if_pos (by omega)] at e2
          exact e2
      rw [List.cons_append, h', h, if_pos (by omega)]
    · rw [List.cons_append, h3 (r ++ v), h3 r, dep_app r v h1 (fun h => by cases h)]
      simp [lastK]
theorem dep_close {R : RE → Bool} {cl : RE} (h1 : R cl = true) (h3 : cl.kind = 3) : ∀ (d : Nat) (p : Int), 1 ≤ d → d ≤ 65 → depR R false p d (List.replicate d cl) = 0
  | 0, p, h, _ => by omega
  | 1, p, _, _ => by
    show (if _ then _ else if _ then _ else if _ then _ else _) = _
    rw [if_neg (by rw [h1]; simp), if_neg (by rw [h3]; rintro ⟨h, _⟩; cases h), if_neg (by rw [h3]; decide)]
    rw [h3]
    rfl
  | d + 2, p, _, h65 => by
    have e : depR R false p ((d + 2 : Nat) : Int) (List.replicate (d + 2) cl) = depR R false 3 ((d + 1 : Nat) : Int) (List.replicate (d + 1) cl) := by
      show (if _ then _ else if _ then _ else if _ then _ else _) = _
      rw [if_neg (by rw [h1]; simp; omega), if_neg (by rw [h3]; rintro ⟨h, _⟩; cases h), if_neg (by rw [h3]; simp; omega)]
      rw [h3]
      simp
      congr 1
      omega
    rw [e]
    exact dep_close h1 h3 (d + 1) 3 (by omega) (by omega)
/-- With its closers a beginning that is not empty is a document. -/
theorem dep_whole {R : RE → Bool} {cl : RE} (h1 : R cl = true) (h3 : cl.kind = 3) {u : List RE} (hu : u ≠ []) {d : Nat} (hd : depR R true 0 0 u = d) : depR R true 0 0 (u ++ List.replicate d cl) = 0 := by
  rw [dep_app u _ (by omega) (fun _ => rfl), hd, if_neg (by omega)]
  have hr := dep_range (R := R) u (b := true) (p := 0) (n := 0) (by omega) (by omega) (fun _ => rfl)
  rw [hd] at hr
  have he : (true && u.isEmpty) = false := by
    cases u
    · exact absurd rfl hu
    · rfl
  rw [he]
  cases d with
  | zero => rfl
  | succ d => exact dep_close h1 h3 (d + 1) _ (by omega) (by omega)
end Go.Proofs.Ytaoggciebkaakaa.Ev
