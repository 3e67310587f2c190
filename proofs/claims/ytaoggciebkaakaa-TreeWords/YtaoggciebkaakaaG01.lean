/-
  Merged by program out of the texts EvOpen, EvFew, EvRight, TpClo, EvRight2 of one seat.
-/
import Derived.Test.YtaoggciebkaakaaProg
import Derived.WalkKit
import Derived.Below
import Derived.Lib.Hide
import Derived.Lib.AtoiErrMem
import Derived.Lib.SmallJoins
import Derived.Deep.Slices
import Derived.Deep.SlicePairs
import Derived.Carry
import Derived.ProofKit
import Derived.OpenShut
import Derived.SizedLaws
import Derived.Handed
import Derived.Lib.Builder
import Derived.Lib.UnsafeStr
import Derived.Lib.AppendStr
import Derived.Lib.BufferWrite
import Derived.Deep.RegionWith
import Derived.Deep.RegionHeld3
import Derived.Laws.OwnMore
import Derived.OwnWalk
import Derived.Deep.QuietTactic
import Derived.BigQuiet

/- Events that are handed in, opened: one, or a slice of them. -/
set_option linter.unusedSimpArgs false
set_option linter.unusedVariables false
namespace Go.Proofs.Ytaoggciebkaakaa.Ev
open Go.Joins Go.ChangeShapes Go.WideShapes Go.RowKit Go.Deep

theorem Try.cells38 : Try.prog.cellsOf 38 = 5 := by kernel_rfl
theorem Try.cells52 : Try.prog.cellsOf 52 = 3 := by kernel_rfl
theorem Try.cells27 : Try.prog.cellsOf 27 = 1 := by kernel_rfl
theorem Try.cells26 : Try.prog.cellsOf 26 = 2 := by kernel_rfl
theorem Try.cells9 : Try.prog.cellsOf 9 = 1 := by kernel_rfl
theorem Try.cells3 : Try.prog.cellsOf 3 = 1 := by kernel_rfl
theorem Try.bytes52 : Try.prog.bytesOf 52 = 48 := by kernel_rfl
theorem Try.bytes38 : Try.prog.bytesOf 38 = 80 := by kernel_rfl
theorem weightsAll_mem {H : Type} {P : Program} {e : TypeId} : ∀ {l : List (DataW H)} {d : DataW H}, d ∈ l → ∀ m ∈ d.weights P e, m ∈ DataW.weightsAll P e l
  | [], d, h, m, _ => by simp at h
  | x :: l, d, h, m, hm => by
    unfold DataW.weightsAll
    rw [List.mem_append]
    rcases List.mem_cons.1 h with rfl | h
    · exact .inl hm
    · exact .inr (weightsAll_mem h m hm)
/-- What the sizes say of a slice: how many elements it may have; each element's own sizes. -/
theorem slice_sizes {H : Type} {P : Program} {t e : TypeId} {n b : Nat} {D : Nat → DataW H} {S : List (DataW H)} (ht : P.underlying t = some (.slice e)) (hb : P.bytesOf e = b) (hw : ∀ q ∈ (DataW.slice ((List.range n).map D) S).weights P t, q ≤ reachBytes) : n * b ≤ reachBytes ∧ ∀ i, i < n → ∀ q ∈ (D i).weights P e, q ≤ reachBytes := by
  have h1 : (DataW.slice ((List.range n).map D) S).weights P t = (((List.range n).map D).length + S.length) * P.bytesOf e :: (DataW.weightsAll P e ((List.range n).map D) ++ DataW.weightsAll P e S) := by
    unfold DataW.weights
    rw [ht]
  rw [h1] at hw
  constructor
  · have := hw _ List.mem_cons_self
    rw [List.length_map, List.length_range, hb] at this
    exact Nat.le_trans (Nat.mul_le_mul_right b (Nat.le_add_right _ _)) this
  · intro i hi q hq
    refine hw q (List.mem_cons_of_mem _ (List.mem_append.2 (.inl (weightsAll_mem (List.mem_map.2 ⟨i, List.mem_range.2 hi, rfl⟩) q hq))))
abbrev P2 := ByteArray × ByteArray
abbrev P3 := P2 × ByteArray
/-- The slice at A reads as these attributes. -/
def RdT (w : World) (A : Option Addr) (l : List P3) : Prop :=
  ∀ k x, l[k]? = some x → ∃ b off, A = some ⟨b, off, none⟩ ∧ b < w.heap.size ∧ w.cell? ⟨b, off + k * 3, none⟩ = some (.string x.1.1) ∧ w.cell? ⟨b, off + k * 3 + 1, none⟩ = some (.string x.1.2) ∧ w.cell? ⟨b, off + k * 3 + 2, none⟩ = some (.string x.2)
theorem RdT.keep {w w' : World} {A : Option Addr} {l : List P3} (h : RdT w A l) (hb : Below w.heap.size w w') : RdT w' A l := fun k t hk => by
  obtain ⟨b, o, e, hlt, c0, c1, c2⟩ := h k t hk
  exact ⟨b, o, e, Nat.lt_of_lt_of_le hlt hb.size, (hb.cell (p := ⟨b, o + k * 3, none⟩) hlt).trans c0, (hb.cell (p := ⟨b, o + k * 3 + 1, none⟩) hlt).trans c1, (hb.cell (p := ⟨b, o + k * 3 + 2, none⟩) hlt).trans c2⟩
/-- What is known of attributes that are handed in. -/
structure AttsIn (w : World) (A : Option Addr) (n c : Nat) (l : List P3) : Prop where
  len : n = l.length
  lsz : n ≤ maxLen
  cnt : n ≤ 4398046511104
  xsz : ∀ x ∈ l, x.1.1.size ≤ maxLen ∧ x.1.2.size ≤ maxLen ∧ x.2.size ≤ maxLen
  rd : RdT w A l
  nil : A = none → n = 0 ∧ c = 0
theorem AttsIn.keep {w w' : World} {A : Option Addr} {n c : Nat} {l : List P3} (h : AttsIn w A n c l) (hb : Below w.heap.size w w') : AttsIn w' A n c l := ⟨h.len, h.lsz, h.cnt, h.xsz, h.rd.keep hb, h.nil⟩
/-- An event, whatever it may be. -/
structure RE where
  kind : Int
  sp : ByteArray
  lo : ByteArray
  ats : List P3
  tx : ByteArray
/-- The bounds of an event that is handed in. -/
structure RSz (e : RE) : Prop where
  sp : e.sp.size ≤ maxLen
  lo : e.lo.size ≤ maxLen
  tx : e.tx.size ≤ maxLen
/-- The slice at A reads as these events. -/
def RdV (w : World) (A : Option Addr) (l : List RE) : Prop :=
  ∀ k x, l[k]? = some x → ∃ b off Aa n c, A = some ⟨b, off, none⟩ ∧ b < w.heap.size ∧ AttsIn w Aa n c x.ats ∧ w.cell? ⟨b, off + k * 5, none⟩ = some (.int .i64 x.kind) ∧ w.cell? ⟨b, off + k * 5 + 1, none⟩ = some (.string x.sp) ∧ w.cell? ⟨b, off + k * 5 + 2, none⟩ = some (.string x.lo) ∧ w.cell? ⟨b, off + k * 5 + 3, none⟩ = some (.slice Aa n c) ∧ w.cell? ⟨b, off + k * 5 + 4, none⟩ = some (.string x.tx)
theorem RdV.keep {w w' : World} {A : Option Addr} {l : List RE} (h : RdV w A l) (hb : Below w.heap.size w w') : RdV w' A l := fun k t hk => by
  obtain ⟨b, o, Aa, n, c, e, hlt, ha, c0, c1, c2, c3, c4⟩ := h k t hk
  exact ⟨b, o, Aa, n, c, e, Nat.lt_of_lt_of_le hlt hb.size, ha.keep hb, (hb.cell (p := ⟨b, o + k * 5, none⟩) hlt).trans c0, (hb.cell (p := ⟨b, o + k * 5 + 1, none⟩) hlt).trans c1, (hb.cell (p := ⟨b, o + k * 5 + 2, none⟩) hlt).trans c2, (hb.cell (p := ⟨b, o + k * 5 + 3, none⟩) hlt).trans c3, (hb.cell (p := ⟨b, o + k * 5 + 4, none⟩) hlt).trans c4⟩
/-- What is known of events that are handed in. -/
structure EvsIn (w : World) (A : Option Addr) (n c : Nat) (l : List RE) : Prop where
  len : n = l.length
  lsz : n ≤ maxLen
  cnt : n ≤ 4398046511104
  xsz : ∀ x ∈ l, RSz x
  rd : RdV w A l
  nil : A = none → n = 0 ∧ c = 0
  cap : n ≤ c ∧ c ≤ maxLen
theorem EvsIn.keep {w w' : World} {A : Option Addr} {n c : Nat} {l : List RE} (h : EvsIn w A n c l) (hb : Below w.heap.size w w') : EvsIn w' A n c l := ⟨h.len, h.lsz, h.cnt, h.xsz, h.rd.keep hb, h.nil, h.cap⟩
/-- From an element each to a list. -/
theorem pick_list {α : Type} [Nonempty α] {n : Nat} {R : Nat → α → Prop} (h : ∀ i, i < n → ∃ x, R i x) : ∃ l : List α, l.length = n ∧ ∀ (k : Nat) x, l[k]? = some x → R k x := by
  have h2 : ∀ i, ∃ x, i < n → R i x := fun i => by
    by_cases hi : i < n
    · obtain ⟨x, hx⟩ := h i hi
      exact ⟨x, fun _ => hx⟩
    · exact ⟨Classical.choice inferInstance, fun q => absurd q hi⟩
  refine ⟨(List.range n).map fun i => Classical.choose (h2 i), by simp, fun k x hk => ?_⟩
  rw [List.getElem?_map] at hk
  obtain ⟨j, hj, rfl⟩ := Option.map_eq_some_iff.1 hk
  have hlt := (List.getElem?_eq_some_iff.1 hj).1
  rw [List.length_range] at hlt
  rw [List.getElem?_range hlt] at hj
  injection hj with hj
  subst hj
  exact Classical.choose_spec (h2 k) hlt
theorem pick_mem {α : Type} {l : List α} {R : Nat → α → Prop} (h : ∀ (k : Nat) x, l[k]? = some x → R k x) {Q : α → Prop} (hq : ∀ k x, R k x → Q x) : ∀ x ∈ l, Q x := fun x hx => by
  obtain ⟨k, hk⟩ := List.getElem?_of_mem hx
  exact hq k x (h k x hk)
set_option maxRecDepth 100000 in
theorem open_attrs {H : Type} {enc : TypeId × Value → H} {w : World} {fuel : Nat} {v : Value} {y : DataW H × List MemPlace} (h : DataW.trod enc Try.prog w 0 (fun _ => true) true fuel 27 [v] = some y) (hw : ∀ m ∈ y.1.weights Try.prog 27, m ≤ reachBytes) :
    ∃ (A : Option Addr) (n c : Nat) (l : List P3), v = .slice A n c ∧ AttsIn w A n c l := by
  rcases open_slice Try.underlying27 h with ⟨hc, _⟩ | ⟨a, len, cap, m, n, D, Pl, hc, hb, hl, hm, hmm, hx, hall⟩
  · obtain rfl : v = .slice none 0 0 := by simpa using hc
    exact ⟨none, 0, 0, [], rfl, ⟨rfl, Nat.zero_le _, Nat.zero_le _, fun x hx => by simp at hx, fun j x hx => by simp at hx, fun _ => ⟨rfl, rfl⟩⟩⟩
  · obtain rfl : v = .slice (some a) len cap := by simpa using hc
    simp only [if_true] at hmm
    subst hmm
    rw [Try.cells52] at hall
    have st : ∀ i, i < m → ∃ x : P3, (w.cell? (a.add (i * 3)) = some (.string x.1.1) ∧ w.cell? (a.add (i * 3 + 1)) = some (.string x.1.2) ∧ w.cell? (a.add (i * 3 + 2)) = some (.string x.2)) ∧ x.1.1.size ≤ maxLen ∧ x.1.2.size ≤ maxLen ∧ x.2.size ≤ maxLen := fun i hi => by
      obtain ⟨cs', h1, h2⟩ := hall i hi
      obtain ⟨_, hlen, hcell⟩ := World.cells?_some h1
      obtain ⟨y0, y1, k, _, _, g0, g1⟩ := trod_struct2 Try.underlying52 h2
      match cs', hlen, hcell, g0, g1 with
      | [v0, v1, v2], _, hcell, g0, g1 =>
        simp [Try.cells26, Try.cells9] at g0 g1
        obtain ⟨z0, z1, k2, _, _, f0, f1⟩ := trod_struct2 Try.underlying26 g0
        simp [Try.cells9] at f0 f1
        obtain ⟨s0, e0, _, q0⟩ := DataW.trod_string Try.underlying9 f0
        obtain ⟨s1, e1, _, q1⟩ := DataW.trod_string Try.underlying9 f1
        obtain ⟨s2, e2, _, q2⟩ := DataW.trod_string Try.underlying9 g1
        simp only [List.cons.injEq, and_true] at e0 e1 e2
        subst e0 e1 e2
        have c0 := hcell 0 (by omega)
        have c1 := hcell 1 (by omega)
        have c2 := hcell 2 (by omega)
        rw [add_add] at c0 c1 c2
        exact ⟨((s0, s1), s2), ⟨by simpa using c0, by simpa using c1, by simpa using c2⟩, q0, q1, q2⟩
    obtain ⟨l, hll, hX⟩ := pick_list (n := len) (fun i hi => st i (by omega))
    rw [hx] at hw
    have hz := (slice_sizes Try.underlying27 Try.bytes52 hw).1
    unfold reachBytes at hz
    refine ⟨some a, len, m, l, rfl, ⟨hll.symm, by omega, by omega, pick_mem hX (fun k x h => h.2), fun k x hk => ?_, fun h => by cases h⟩⟩
    obtain ⟨⟨c0, c1, c2⟩, _⟩ := hX k x hk
    obtain ⟨b, off, spot⟩ := a
    have hspot : spot = none := by
      obtain ⟨_, h0⟩ := st 0 (by have := (List.getElem?_eq_some_iff.1 hk).1; omega)
      have := World.cell?_spot h0.1.1
      simpa [Addr.add] using this
    subst hspot
    rw [Addr.add_lit] at c0 c1 c2
    exact ⟨b, off, rfl, Lib.lt_of_cell c0, c0, by rw [Nat.add_assoc]; exact c1, by rw [Nat.add_assoc]; exact c2⟩
set_option maxRecDepth 100000 in
theorem open_ev_cells {H : Type} {enc : TypeId × Value → H} {w : World} {fuel : Nat} {cs : List Value} {y : DataW H × List MemPlace} (hl : cs.length = 5) (h : DataW.trod enc Try.prog w 0 (fun _ => true) true fuel 38 cs = some y) (hw : ∀ m ∈ y.1.weights Try.prog 38, m ≤ reachBytes) :
    ∃ (A : Option Addr) (n c : Nat) (x : RE), cs = [.int .i64 x.kind, .string x.sp, .string x.lo, .slice A n c, .string x.tx] ∧ AttsIn w A n c x.ats ∧ RSz x := by
  obtain ⟨y0, y1, y2, y3, k, hx, _, g0, g1, g2, g3⟩ := trod_struct4 Try.underlying38 h
  have hwt : (DataW.agg [y0.1, y1.1, y2.1, y3.1]).weights Try.prog 38 = y0.1.weights Try.prog 3 ++ (y1.1.weights Try.prog 26 ++ (y2.1.weights Try.prog 27 ++ (y3.1.weights Try.prog 9 ++ []))) := by
    simp [DataW.weights, Try.underlying38, DataW.weightsEach]
  rw [hx, hwt] at hw
  have hw2 : ∀ m ∈ y2.1.weights Try.prog 27, m ≤ reachBytes := fun m hm => hw m (by simp [hm])
  match cs, hl, g0, g1, g2, g3 with
  | [v0, v1, v2, v3, v4], _, g0, g1, g2, g3 =>
    simp [Try.cells3, Try.cells26, Try.cells27, Try.cells9] at g0 g1 g2 g3
    obtain ⟨n0, e0, _, _⟩ := DataW.trod_int Try.underlying3 g0
    obtain ⟨z0, z1, k2, _, _, f0, f1⟩ := trod_struct2 Try.underlying26 g1
    simp [Try.cells9] at f0 f1
    obtain ⟨s0, e1, _, q0⟩ := DataW.trod_string Try.underlying9 f0
    obtain ⟨s1, e2, _, q1⟩ := DataW.trod_string Try.underlying9 f1
    obtain ⟨A, n, c, l, rfl, T⟩ := open_attrs g2 hw2
    obtain ⟨s2, e3, _, q2⟩ := DataW.trod_string Try.underlying9 g3
    simp only [List.cons.injEq, and_true] at e0 e1 e2 e3
    subst e0 e1 e2 e3
    exact ⟨A, n, c, ⟨n0, s0, s1, l, s2⟩, rfl, T, ⟨q0, q1, q2⟩⟩
set_option maxRecDepth 100000 in
/-- A slice of events. -/
theorem open_evs {H : Type} {enc : TypeId × Value → H} {w : World} {r : Reach} {b0 : Nat} {v : Value} {d : DataW H} {p : List MemPlace} (hv : Value.okWide Try.prog w r b0 22 v) (h : DataW.Trod enc Try.prog w 0 (fun _ => true) true 22 v d p) (hw : ∀ m ∈ d.weights Try.prog 22, m ≤ reachBytes) :
    ∃ (A : Option Addr) (n c : Nat) (l : List RE), v = .slice A n c ∧ EvsIn w A n c l := by
  obtain ⟨a0, len0, cap0, rfl⟩ := okWide_slice Try.underlying22 hv
  obtain ⟨fuel, hf⟩ := h
  rcases open_slice Try.underlying22 hf with ⟨hc, _⟩ | ⟨a, len, cap, m, n, D, Pl, hc, hb, hl, hm, hmm, hx, hall⟩
  · obtain ⟨rfl, rfl, rfl⟩ : a0 = none ∧ len0 = 0 ∧ cap0 = 0 := by
      have hc' : [Value.slice a0 len0 cap0] = [.slice none 0 0] := hc
      simpa using hc'
    exact ⟨none, 0, 0, [], rfl, ⟨rfl, Nat.zero_le _, Nat.zero_le _, fun x hx => by simp at hx, fun j x hx => by simp at hx, fun _ => ⟨rfl, rfl⟩, ⟨Nat.le_refl _, Nat.zero_le _⟩⟩⟩
  · obtain ⟨rfl, rfl, rfl⟩ : a0 = some a ∧ len0 = len ∧ cap0 = cap := by
      have hc' : [Value.slice a0 len0 cap0] = [.slice (some a) len cap] := hc
      simpa using hc'
    simp only [if_true] at hmm
    subst hmm
    rw [Try.cells38] at hall
    simp only [Prod.mk.injEq] at hx
    rw [hx.1] at hw
    obtain ⟨hz, hwi⟩ := slice_sizes Try.underlying22 Try.bytes38 hw
    unfold reachBytes at hz
    have st : ∀ i, i < len0 → ∃ x : RE, (∃ Aa n c, AttsIn w Aa n c x.ats ∧ w.cell? (a.add (i * 5)) = some (.int .i64 x.kind) ∧ w.cell? (a.add (i * 5 + 1)) = some (.string x.sp) ∧ w.cell? (a.add (i * 5 + 2)) = some (.string x.lo) ∧ w.cell? (a.add (i * 5 + 3)) = some (.slice Aa n c) ∧ w.cell? (a.add (i * 5 + 4)) = some (.string x.tx)) ∧ RSz x := fun i hi => by
      obtain ⟨cs', h1, h2⟩ := hall i (by omega)
      obtain ⟨_, hlen, hcell⟩ := World.cells?_some h1
      obtain ⟨A, n, c, x, rfl, T, S⟩ := open_ev_cells hlen h2 (hwi i hi)
      have c0 := hcell 0 (by omega)
      have c1 := hcell 1 (by omega)
      have c2 := hcell 2 (by omega)
      have c3 := hcell 3 (by omega)
      have c4 := hcell 4 (by omega)
      rw [add_add] at c0 c1 c2 c3 c4
      exact ⟨x, ⟨A, n, c, T, by simpa using c0, by simpa using c1, by simpa using c2, by simpa using c3, by simpa using c4⟩, S⟩
    have : Nonempty RE := ⟨⟨0, ⟨#[]⟩, ⟨#[]⟩, [], ⟨#[]⟩⟩⟩
    obtain ⟨l, hll, hX⟩ := pick_list (n := len0) (fun i hi => st i hi)
    refine ⟨some a, len0, m, l, rfl, ⟨hll.symm, by omega, by omega, pick_mem hX (fun k x h => h.2), fun k x hk => ?_, (fun h => by cases h), ⟨hl, hm⟩⟩⟩
    obtain ⟨⟨Aa, n2, c2, T, k0, k1, k2, k3, k4⟩, _⟩ := hX k x hk
    obtain ⟨b, off, spot⟩ := a
    have hspot : spot = none := by
      obtain ⟨_, ⟨_, _, _, _, h0, _⟩, _⟩ := st 0 (by have := (List.getElem?_eq_some_iff.1 hk).1; omega)
      have := World.cell?_spot h0
      simpa [Addr.add] using this
    subst hspot
    rw [Addr.add_lit] at k0 k1 k2 k3 k4
    exact ⟨b, off, Aa, n2, c2, rfl, Lib.lt_of_cell k0, T, k0, by rw [Nat.add_assoc]; exact k1, by rw [Nat.add_assoc]; exact k2, by rw [Nat.add_assoc]; exact k3, by rw [Nat.add_assoc]; exact k4⟩
end Go.Proofs.Ytaoggciebkaakaa.Ev

/- The document's Few (layer 9): what it says of events. -/
set_option linter.unusedSimpArgs false
set_option linter.unusedVariables false
namespace Go.Proofs.Ytaoggciebkaakaa.Ev
open Go.RowKit

/-- Few events, few attributes, short texts. -/
structure FewE (x : RE) : Prop where
  ats : x.ats.length ≤ 400
  tx : x.tx.size ≤ 300
  lo : x.lo.size ≤ 100
  sp : x.sp.size ≤ 100
  at_ : ∀ (k : Nat) (y : P3), k < 100 → x.ats[k]? = some y → y.1.1.size ≤ 100 ∧ y.1.2.size ≤ 100 ∧ y.2.size ≤ 300
def FwPost (l : List RE) (w : World) (e : Ending) (w' : World) : Prop :=
  ∃ b, e = .returned (.bool b) ∧ (b = true → l.length ≤ 400 ∧ ∀ (k : Nat) (x : RE), l[k]? = some x → FewE x) ∧ w = w'
def FoRel (l : List RE) (n : Nat) (w : World) (vn i : Value) (wr : World) : Prop :=
  w = wr ∧ ∃ k m : Nat, i = .int .i64 k ∧ vn = .int .i64 m ∧ k ≤ n ∧ n ≤ m ∧ m ≤ n + k * 4398046511104 ∧ Hid (∀ (j : Nat) (x : RE), j < k → l[j]? = some x → x.ats.length + n ≤ m ∧ x.tx.size ≤ 300 ∧ x.lo.size ≤ 100 ∧ x.sp.size ≤ 100 ∧ ∀ (q : Nat) (y : P3), q < 100 → x.ats[q]? = some y → y.1.1.size ≤ 100 ∧ y.1.2.size ≤ 100 ∧ y.2.size ≤ 300)
def FiRel (t : RE) (n : Nat) (w : World) (i : Value) (wr : World) : Prop :=
  w = wr ∧ ∃ j : Nat, i = .int .i64 j ∧ j ≤ n ∧ j ≤ 100 ∧ Hid (∀ (q : Nat) (y : P3), q < j → t.ats[q]? = some y → y.1.1.size ≤ 100 ∧ y.1.2.size ≤ 100 ∧ y.2.size ≤ 300)
set_option maxHeartbeats 4000000 in
set_option maxRecDepth 100000 in
theorem few_any (A : Option Addr) (n c : Nat) (l : List RE) (w : World) (T : EvsIn w A n c l) : Calls Try.prog 9 #[.slice A n c] w (FwPost l w) := by
  have hn := T.cnt
  have HT := Lib.hid T
  clear T
  go_enter Try.func9, Try.ntmps9
  go_wp2_with fail
  go_loopw [3, 4, 5] (fun vn i _ wr => FoRel l n w vn i wr) (fun _ i _ _ => n - (intOf i).toNat)
  case atStart => exact ⟨rfl, 0, n, rfl, rfl, Nat.zero_le _, Nat.le_refl _, by omega, Lib.hid (fun j x h => by omega)⟩
  case round =>
    obtain ⟨rfl, k, m, rfl, rfl, hk, hm, hm2, hP⟩ := hrel
    by_cases hlt : k < n
    · by_cases h400 : m ≤ 400
      · have k1 : (k : Int) < (n : Int) := by omega
        have k2 : (m : Int) ≤ 400 := by omega
        have k3 : (0 : Int) ≤ (k : Int) := by omega
        have hkl : k < l.length := by rw [← HT.out.len]; exact hlt
        have hx := List.getElem?_eq_getElem hkl
        obtain ⟨b, off, Aa, q, ca, hA, hbl, TA, c0, c1, c2, c3, c4⟩ := HT.out.rd k _ hx
        have hbq := TA.cnt
        have HX := Lib.hid hx
        have HTA := Lib.hid TA
        generalize l[k] = x at *
        subst hA
        clear hx hkl hbl TA c0
        have q2 : IntKind.i64.wrap ((m : Int) + (q : Int)) = ((m + q : Nat) : Int) := by rw [IntWalk.i64_in _ (by omega)]; omega
        by_cases ht : x.tx.size ≤ 300
        · by_cases hlo : x.lo.size ≤ 100
          · by_cases hsp : x.sp.size ≤ 100
            · have t1 : decide ((300 : Int) < (x.tx.size : Int)) = false := by rw [decide_eq_false_iff_not]; omega
              have t2 : decide ((100 : Int) < (x.lo.size : Int)) = false := by rw [decide_eq_false_iff_not]; omega
              have t3 : decide ((100 : Int) < (x.sp.size : Int)) = false := by rw [decide_eq_false_iff_not]; omega
              go_wp2_with fail
              go_loopw [5] (fun i wr => FiRel x q w i wr) (fun i _ => q - (intOf i).toNat)
              case atStart => exact ⟨rfl, 0, rfl, Nat.zero_le _, by omega, Lib.hid (fun j y h => by omega)⟩
              case round =>
                obtain ⟨rfl, j, rfl, hj, hj2, hQ⟩ := hrel
                by_cases hjq : j < q
                · by_cases hj1 : j < 100
                  · have j1 : (j : Int) < (q : Int) := by omega
                    have j2 : (j : Int) < 100 := by omega
                    have j3 : (0 : Int) ≤ (j : Int) := by omega
                    have hjl : j < x.ats.length := by rw [← HTA.out.len]; exact hjq
                    have hy := List.getElem?_eq_getElem hjl
                    obtain ⟨b2, o2, hA2, _, d0, d1, d2⟩ := HTA.out.rd j _ hy
                    have HY := Lib.hid hy
                    generalize x.ats[j] = y at *
                    subst hA2
                    clear hy hjl
                    by_cases hv : y.2.size ≤ 300
                    · by_cases hyl : y.1.2.size ≤ 100
                      · by_cases hys : y.1.1.size ≤ 100
                        · have u1 : decide ((300 : Int) < (y.2.size : Int)) = false := by rw [decide_eq_false_iff_not]; omega
                          have u2 : decide ((100 : Int) < (y.1.2.size : Int)) = false := by rw [decide_eq_false_iff_not]; omega
                          have u3 : decide ((100 : Int) < (y.1.1.size : Int)) = false := by rw [decide_eq_false_iff_not]; omega
                          have hQ2 : Hid (∀ (i : Nat) (z : P3), i < j + 1 → x.ats[i]? = some z → z.1.1.size ≤ 100 ∧ z.1.2.size ≤ 100 ∧ z.2.size ≤ 300) := Lib.hid fun i z hi hz => by
                            rcases Nat.lt_or_ge i j with g | g
                            · exact hQ.out i z g hz
                            · obtain rfl : i = j := by omega
                              rw [HY.out] at hz
                              injection hz with hz
                              rw [← hz]
                              exact ⟨hys, hyl, hv⟩
                          clear hQ HY hv hyl hys
                          go_wp2
                          go_roundw
                          case rel => exact ⟨rfl, j + 1, by go_num, by omega, by omega, hQ2⟩
                          case measure => simp only [intOf]; omega
                        · have u1 : decide ((300 : Int) < (y.2.size : Int)) = false := by rw [decide_eq_false_iff_not]; omega
                          have u2 : decide ((100 : Int) < (y.1.2.size : Int)) = false := by rw [decide_eq_false_iff_not]; omega
                          have u3 : decide ((100 : Int) < (y.1.1.size : Int)) = true := by rw [decide_eq_true_eq]; omega
                          clear hQ HY hv hyl hys
                          go_wp2
                          go_ret
                          exact ⟨false, rfl, (fun e => by cases e), rfl⟩
                      · have u1 : decide ((300 : Int) < (y.2.size : Int)) = false := by rw [decide_eq_false_iff_not]; omega
                        have u2 : decide ((100 : Int) < (y.1.2.size : Int)) = true := by rw [decide_eq_true_eq]; omega
                        clear hQ HY hv hyl
                        go_wp2
                        go_ret
                        exact ⟨false, rfl, (fun e => by cases e), rfl⟩
                    · have u1 : decide ((300 : Int) < (y.2.size : Int)) = true := by rw [decide_eq_true_eq]; omega
                      clear hQ HY hv
                      go_wp2
                      go_ret
                      exact ⟨false, rfl, (fun e => by cases e), rfl⟩
                  · have j1 : (j : Int) < (q : Int) := by omega
                    have j2 : ¬ (j : Int) < 100 := by omega
                    have hP2 : Hid (∀ (i : Nat) (z : RE), i < k + 1 → l[i]? = some z → z.ats.length + n ≤ m + q ∧ z.tx.size ≤ 300 ∧ z.lo.size ≤ 100 ∧ z.sp.size ≤ 100 ∧ ∀ (q : Nat) (y : P3), q < 100 → z.ats[q]? = some y → y.1.1.size ≤ 100 ∧ y.1.2.size ≤ 100 ∧ y.2.size ≤ 300) := Lib.hid fun i z hi hz => by
                      rcases Nat.lt_or_ge i k with g | g
                      · obtain ⟨z1, z2⟩ := hP.out i z g hz
                        exact ⟨by omega, z2⟩
                      · obtain rfl : i = k := by omega
                        rw [HX.out] at hz
                        injection hz with hz
                        rw [← hz]
                        exact ⟨by rw [← HTA.out.len]; omega, ht, hlo, hsp, fun q y hq hy => hQ.out q y (by omega) hy⟩
                    clear hP HX hQ
                    go_wp2
                    go_roundw
                    case rel => exact ⟨rfl, k + 1, m + q, by go_num, by first | rfl | go_num, by omega, by omega, by omega, hP2⟩
                    case measure => simp only [intOf]; omega
                · have j1 : ¬ (j : Int) < (q : Int) := by omega
                  have hP2 : Hid (∀ (i : Nat) (z : RE), i < k + 1 → l[i]? = some z → z.ats.length + n ≤ m + q ∧ z.tx.size ≤ 300 ∧ z.lo.size ≤ 100 ∧ z.sp.size ≤ 100 ∧ ∀ (q : Nat) (y : P3), q < 100 → z.ats[q]? = some y → y.1.1.size ≤ 100 ∧ y.1.2.size ≤ 100 ∧ y.2.size ≤ 300) := Lib.hid fun i z hi hz => by
                    rcases Nat.lt_or_ge i k with g | g
                    · obtain ⟨z1, z2⟩ := hP.out i z g hz
                      exact ⟨by omega, z2⟩
                    · obtain rfl : i = k := by omega
                      rw [HX.out] at hz
                      injection hz with hz
                      rw [← hz]
                      exact ⟨by rw [← HTA.out.len]; omega, ht, hlo, hsp, fun q' y hq hy => hQ.out q' y (by have := (List.getElem?_eq_some_iff.1 hy).1; rw [← HTA.out.len] at this; omega) hy⟩
                  clear hP HX hQ
                  go_wp2
                  go_roundw
                  case rel => exact ⟨rfl, k + 1, m + q, by go_num, by first | rfl | go_num, by omega, by omega, by omega, hP2⟩
                  case measure => simp only [intOf]; omega
            · have t1 : decide ((300 : Int) < (x.tx.size : Int)) = false := by rw [decide_eq_false_iff_not]; omega
              have t2 : decide ((100 : Int) < (x.lo.size : Int)) = false := by rw [decide_eq_false_iff_not]; omega
              have t3 : decide ((100 : Int) < (x.sp.size : Int)) = true := by rw [decide_eq_true_eq]; omega
              clear hP HX
              go_wp2
              go_ret
              exact ⟨false, rfl, (fun e => by cases e), rfl⟩
          · have t1 : decide ((300 : Int) < (x.tx.size : Int)) = false := by rw [decide_eq_false_iff_not]; omega
            have t2 : decide ((100 : Int) < (x.lo.size : Int)) = true := by rw [decide_eq_true_eq]; omega
            clear hP HX
            go_wp2
            go_ret
            exact ⟨false, rfl, (fun e => by cases e), rfl⟩
        · have t1 : decide ((300 : Int) < (x.tx.size : Int)) = true := by rw [decide_eq_true_eq]; omega
          clear hP HX
          go_wp2
          go_ret
          exact ⟨false, rfl, (fun e => by cases e), rfl⟩
      · have k1 : (k : Int) < (n : Int) := by omega
        have k2 : ¬ (m : Int) ≤ 400 := by omega
        clear hP
        go_wp2
        go_ret
        exact ⟨false, rfl, (fun e => by cases e), rfl⟩
    · have k1 : ¬ (k : Int) < (n : Int) := by omega
      by_cases h400 : m ≤ 400
      · have k2 : (m : Int) ≤ 400 := by omega
        have hP2 : Hid (l.length ≤ 400 ∧ ∀ (k : Nat) (x : RE), l[k]? = some x → FewE x) := Lib.hid ⟨by rw [← HT.out.len]; omega, fun j x hx => by
          have hj := (List.getElem?_eq_some_iff.1 hx).1
          rw [← HT.out.len] at hj
          obtain ⟨a1, a2, a3, a4, a5⟩ := hP.out j x (by omega) hx
          exact ⟨by omega, a2, a3, a4, a5⟩⟩
        clear hP
        go_wp2
        go_ret
        exact ⟨true, rfl, (fun _ => hP2.out), rfl⟩
      · have k2 : ¬ (m : Int) ≤ 400 := by omega
        clear hP
        go_wp2
        go_ret
        exact ⟨false, rfl, (fun e => by cases e), rfl⟩
end Go.Proofs.Ytaoggciebkaakaa.Ev

/- The document's named and Right (layer 9), over contracts of what they call. -/
set_option linter.unusedSimpArgs false
set_option linter.unusedVariables false
namespace Go.Proofs.Ytaoggciebkaakaa.Ev
open Go.RowKit

theorem nblk (w : World) (T : TypeId) (cs : Array Value) : (w.alloc (.cells cs T)).heap[w.heap.size]? = some (.cells cs T (0, 0)) := heap_alloc_new w _
theorem cells_of {W : World} {b : Nat} {cs : Array Value} {T : TypeId} {fz : Nat × Nat} (h : W.heap[b]? = some (.cells cs T fz)) (j : Nat) {u : Value} (hu : cs[j]? = some u) : W.cell? ⟨b, j, none⟩ = some u := (Lib.cell_of_heap h j).trans hu
theorem cells2 {W : World} {b : Nat} {a0 a1 : Value} {T : TypeId} {fz : Nat × Nat} (h : W.heap[b]? = some (.cells #[a0, a1] T fz)) : W.cell? ⟨b, 0, none⟩ = some a0 ∧ W.cell? ⟨b, 1, none⟩ = some a1 := ⟨cells_of h 0 rfl, cells_of h 1 rfl⟩
theorem cells5 {W : World} {b : Nat} {a0 a1 a2 a3 a4 : Value} {T : TypeId} {fz : Nat × Nat} (h : W.heap[b]? = some (.cells #[a0, a1, a2, a3, a4] T fz)) : W.cell? ⟨b, 0, none⟩ = some a0 ∧ W.cell? ⟨b, 1, none⟩ = some a1 ∧ W.cell? ⟨b, 2, none⟩ = some a2 ∧ W.cell? ⟨b, 3, none⟩ = some a3 ∧ W.cell? ⟨b, 4, none⟩ = some a4 := ⟨cells_of h 0 rfl, cells_of h 1 rfl, cells_of h 2 rfl, cells_of h 3 rfl, cells_of h 4 rfl⟩
/-- A name may be: its local part is plain, both parts may stand in a text, the space is not that of xmlns. -/
def nmF (pL tR : ByteArray → Bool) (x : P2) : Bool := pL x.2 && tR x.2 && tR x.1 && (x.1.toList != [104, 116, 116, 112, 58, 47, 47, 119, 119, 119, 46, 119, 51, 46, 111, 114, 103, 47, 50, 48, 48, 48, 47, 120, 109, 108, 110, 115, 47])
def StrC (f : Nat) (g : ByteArray → Bool) : Prop := ∀ (s : ByteArray) (W : World), s.size ≤ 10000 → Calls Try.prog f #[.string s] W fun e w' => e = .returned (.bool (g s)) ∧ Below W.heap.size W w'
set_option maxHeartbeats 2000000 in
set_option maxRecDepth 100000 in
theorem named_any (pL tR : ByteArray → Bool) (C1 : Hid (StrC 51 pL)) (C2 : Hid (StrC 43 tR)) (sp lo : ByteArray) (w : World) (h1 : sp.size ≤ 10000) (h2 : lo.size ≤ 10000) : Calls Try.prog 44 #[.agg #[.string sp, .string lo]] w fun e w' => e = .returned (.bool (nmF pL tR (sp, lo))) ∧ Below w.heap.size w w' := by
  have HK := Lib.hid (nblk w 26 #[.string sp, .string lo])
  have HB := Lib.hid ((Below.refl w.heap.size w).alloc (Nat.le_refl _) (.cells #[.string sp, .string lo] 26))
  have HZ := Lib.hid (show w.heap.size < (w.alloc (.cells #[.string sp, .string lo] 26)).heap.size by simp)
  go_enter Try.func44, Try.ntmps44
  go_wp2_with fail
  refine (C1.out lo _ h2).mono ?_
  rintro e w1 ⟨rfl, b1⟩
  have HK1 := Lib.hid ((b1.block _ HZ.out).trans HK.out)
  have HB1 := Lib.hid (HB.out.trans (b1.mono (Nat.le_of_lt HZ.out)))
  have HZ1 := Lib.hid (Nat.lt_of_lt_of_le HZ.out b1.size)
  obtain ⟨c0, c1⟩ := cells2 HK1.out
  clear b1 HK HB HZ
  cases g1 : pL lo with
  | false =>
    have HA : Hid (nmF pL tR (sp, lo) = false) := Lib.hid (by unfold nmF; dsimp only; rw [g1]; rfl)
    clear g1
    go_wp2
    go_ret
    exact ⟨by rw [HA.out]; rfl, HB1.out⟩
  | true =>
    have HG1 := Lib.hid g1
    clear g1
    go_wp2_with fail
    refine (C2.out lo _ h2).mono ?_
    rintro e w2 ⟨rfl, b2⟩
    have HK2 := Lib.hid ((b2.block _ HZ1.out).trans HK1.out)
    have HB2 := Lib.hid (HB1.out.trans (b2.mono (Nat.le_of_lt HZ1.out)))
    have HZ2 := Lib.hid (Nat.lt_of_lt_of_le HZ1.out b2.size)
    obtain ⟨d0, d1⟩ := cells2 HK2.out
    clear b2 HK1 HB1 HZ1 c0 c1
    cases g2 : tR lo with
    | false =>
      have HA : Hid (nmF pL tR (sp, lo) = false) := Lib.hid (by unfold nmF; dsimp only; rw [HG1.out, g2]; rfl)
      clear g2
      go_wp2
      go_ret
      exact ⟨by rw [HA.out]; rfl, HB2.out⟩
    | true =>
      have HG2 := Lib.hid g2
      clear g2
      go_wp2_with fail
      refine (C2.out sp _ h1).mono ?_
      rintro e w3 ⟨rfl, b3⟩
      have HK3 := Lib.hid ((b3.block _ HZ2.out).trans HK2.out)
      have HB3 := Lib.hid (HB2.out.trans (b3.mono (Nat.le_of_lt HZ2.out)))
      obtain ⟨e0, e1⟩ := cells2 HK3.out
      clear b3 HK2 HB2 HZ2 d0 d1
      cases g3 : tR sp with
      | false =>
        have HA : Hid (nmF pL tR (sp, lo) = false) := Lib.hid (by unfold nmF; dsimp only; rw [HG1.out, HG2.out, g3]; rfl)
        clear g3
        go_wp2
        go_ret
        exact ⟨by rw [HA.out]; rfl, HB3.out⟩
      | true =>
        have HG3 := Lib.hid g3
        clear g3
        have HA : Hid (nmF pL tR (sp, lo) = (sp.toList != [104, 116, 116, 112, 58, 47, 47, 119, 119, 119, 46, 119, 51, 46, 111, 114, 103, 47, 50, 48, 48, 48, 47, 120, 109, 108, 110, 115, 47])) := Lib.hid (by unfold nmF; dsimp only; rw [HG1.out, HG2.out, HG3.out]; rfl)
        go_wp2
        go_ret
        exact ⟨by rw [HA.out]; rfl, HB3.out⟩
end Go.Proofs.Ytaoggciebkaakaa.Ev

/- strings.Clone; tree.named. -/
set_option linter.unusedSimpArgs false
set_option linter.unusedVariables false
namespace Go.Proofs.Ytaoggciebkaakaa.Ev
open Go.RowKit

theorem Try.info5 : (Try.prog.info? 5).map (fun i => (i.zero, i.size, i.bytes)) = some (some (.int .u8 0), 1, 1) := by kernel_rfl
/-- How long a string that is copied may be. -/
def LimS : Nat := 140737488351232
set_option maxHeartbeats 2000000 in
set_option maxRecDepth 100000 in
theorem clone0_any (s : ByteArray) (w : World) (hlim : s.size ≤ 140737488351232) :
    Calls Try.prog 42 #[.string s] w fun e w' => e = .returned (.string s) ∧ Below w.heap.size w w' := by
  by_cases h0 : s.size = 0
  · have hs : s = ⟨#[]⟩ := by
      apply ByteArray.ext
      exact Array.eq_empty_of_size_eq_zero h0
    subst hs
    go_enter Try.func42, Try.ntmps42
    go_wp2
    go_ret
    exact ⟨rfl, Below.refl _ _⟩
  · obtain ⟨i0, hi, hz0, hz1, hz2⟩ := info_parts Try.info5
    have hinfo : (Try.prog.info? 5).map (·.size) = some 1 := by rw [hi]; simp [hz1]
    have hco : Try.prog.cellsOf 5 = 1 := by kernel_rfl
    obtain ⟨M, hM⟩ : ∃ M, M = madeCells (Value.int .u8 0).cells (((s.size : Nat) : Int).toNat * i0.size) := ⟨_, rfl⟩
    have hMs : M.size = s.size := by rw [hM, size_madeCells, hz1]; simp
    have hmk : ∀ W : World, (Instr.makeSlice 72 (.int .i64 (s.size : Int)) (.int .i64 (s.size : Int))).run Try.prog W = .ok (.slice (some ⟨W.heap.size, 0, none⟩) s.size s.size) (W.alloc (.cells M 5)) := fun W => by
      have h := run_make (P := Try.prog) W 72 5 i0 (.int .u8 0) Try.underlying72 hi hz0 .i64 .i64 (s.size : Int) (s.size : Int) (by omega) (by omega) (by rw [hz2]; omega) (by omega)
      rw [← hM] at h
      simpa using h
    clear hM
    have hcp := Lib.run_copy_row_string (P := Try.prog) (w.alloc (.cells M 5)) 72 9 3 5 w.heap.size 0 s.size s.size s M 5 Try.underlying72 hinfo (heap_alloc_new w _) (Nat.le_refl _) (by omega)
    obtain ⟨Y, hY⟩ : ∃ Y, Y = (M.toList.take 0 ++ Lib.byteCells s.data.toList ++ M.toList.drop (0 + s.size)).toArray := ⟨_, rfl⟩
    rw [← hY] at hcp
    have hYl : Y.toList = Lib.byteCells s.data.toList := by
      rw [hY, List.toList_toArray, List.take_zero, List.nil_append, List.drop_of_length_le (by rw [Array.length_toList]; omega), List.append_nil]
    have hYs : Y.size = s.size := by rw [← Array.length_toList, hYl, Lib.byteCells_length, ← Lib.size_eq]
    have hgY : ((w.alloc (.cells M 5)).setRow w.heap.size Y).heap[w.heap.size]? = some (.cells Y 5 (0, 0)) := setRow_heap _ _ M _ 5 (0, 0) (heap_alloc_new w _)
    have hne : s.data.toList ≠ [] := fun e => h0 (by rw [Lib.size_eq, e]; rfl)
    have hUS := Lib.run_unsafeString_row (P := Try.prog) ((w.alloc (.cells M 5)).setRow w.heap.size Y) 73 3 9 5 Try.underlying73 hco w.heap.size Y.size (by unfold World.shape?; rw [hgY]) s.data.toList hne (by rw [← Lib.size_eq]; omega) (by rw [← Lib.size_eq]; omega)
      (fun j x hx => Lib.cells_of_row hgY Y.size j _ (by rw [List.take_of_length_le (by rw [Array.length_toList]; exact Nat.le_refl _), hYl]; simp [Lib.byteCells, hx]))
    rw [← Lib.size_eq] at hUS
    clear hY
    go_enter Try.func42, Try.ntmps42
    go_wp2
    go_ret
    have hb1 : Below w.heap.size w (w.alloc (.cells M 5)) := (Below.refl _ w).alloc (Nat.le_refl _) _
    have hb2 : Below w.heap.size (w.alloc (.cells M 5)) ((w.alloc (.cells M 5)).setRow w.heap.size Y) := ⟨rfl, rfl, rfl, by simp, fun k hk => setRow_other _ _ _ _ (by omega)⟩
    exact ⟨rfl, Lib.below_freeze (hb1.trans hb2) (p := ⟨w.heap.size, 0, none⟩) (Nat.le_refl _) _⟩
set_option maxRecDepth 100000 in
theorem clone_any (s : ByteArray) (w : World) (hlim : s.size ≤ LimS) :
    Calls Try.prog 36 #[.string s] w fun e w' => e = .returned (.string s) ∧ Below w.heap.size w w' := by
  have C := Lib.hid (clone0_any s w hlim)
  clear hlim
  go_enter Try.func36, Try.ntmps36
  go_wp2_with (go_at_call 42; refine C.out.mono ?_; rintro e w' ⟨rfl, hb⟩)
  go_ret
  exact ⟨rfl, hb⟩
theorem Try.results37 : Try.f37.results = #[ResultVar.cell 2 26] := by kernel_rfl
theorem set2_0 {W : World} {b : Nat} {u : Value} (x y : Value) (h0 : W.cell? ⟨b, 0, none⟩ = some u) : ((W.setCell ⟨b, 0, none⟩ x).setCell ⟨b, 1, none⟩ y).cell? ⟨b, 0, none⟩ = some x := by
  have h1 : (⟨b, 1, none⟩ : Addr) ≠ ⟨b, 0, none⟩ := by simp
  have h2 := World.cell?_setCell_same' W ⟨b, 0, none⟩ x (by rw [h0]; rfl)
  rw [← h2]
  exact World.cell?_setCell_other (h := h1) ..
theorem set2_1 {W : World} {b : Nat} {v : Value} (x y : Value) (h1 : W.cell? ⟨b, 1, none⟩ = some v) : ((W.setCell ⟨b, 0, none⟩ x).setCell ⟨b, 1, none⟩ y).cell? ⟨b, 1, none⟩ = some y := by
  have h0 : (⟨b, 0, none⟩ : Addr) ≠ ⟨b, 1, none⟩ := by simp
  refine World.cell?_setCell_same' _ _ _ ?_
  have h2 : (W.setCell ⟨b, 0, none⟩ x).cell? ⟨b, 1, none⟩ = W.cell? ⟨b, 1, none⟩ := World.cell?_setCell_other (h := h0) ..
  rw [h2, h1]
  rfl
theorem frz_of {W : World} {b : Nat} {cs : Array Value} {T : TypeId} (h : W.heap[b]? = some (.cells cs T (0, 0))) (j : Nat) : W.frozen? ⟨b, j, none⟩ = false := by
  unfold World.frozen?
  rw [h]
  simp
def CpS (w : World) (W : World) : Prop := (∃ a b, W.heap[w.heap.size + 1]? = some (.cells #[a, b] 26 (0, 0))) ∧ Below w.heap.size w W
theorem CpS.lt {w W : World} (h : CpS w W) : w.heap.size + 1 < W.heap.size := by
  obtain ⟨⟨a, b, h⟩, _⟩ := h
  exact (Array.getElem?_eq_some_iff.1 h).1
theorem CpS.keep {w W W' : World} (h : CpS w W) (hb : Below W.heap.size W W') : CpS w W' := by
  have hl := h.lt
  obtain ⟨⟨a, b, h⟩, h2⟩ := h
  exact ⟨⟨a, b, (hb.block _ hl).trans h⟩, h2.trans (hb.mono h2.size)⟩
theorem cps_start (w : World) (p s : ByteArray) : CpS w ((w.alloc (.cells #[.string p, .string s] 26)).alloc (.cells #[.string ⟨#[]⟩, .string ⟨#[]⟩] 26)).drew := by
  refine ⟨⟨.string ⟨#[]⟩, .string ⟨#[]⟩, ?_⟩, (((Below.refl _ w).alloc (Nat.le_refl _) _).alloc (by simp) _).drew⟩
  have := heap_alloc_new (w.alloc (.cells #[.string p, .string s] 26)) (.cells #[.string ⟨#[]⟩, .string ⟨#[]⟩] 26)
  rw [World.size_alloc] at this
  exact this
def CpA (w : World) (p s : Value) (W : World) : Prop := W.cell? ⟨w.heap.size, 0, none⟩ = some p ∧ W.cell? ⟨w.heap.size, 1, none⟩ = some s ∧ Hid (CpS w W)
theorem cps_next {w W w2 : World} {p s : Value} (hb : Below W.heap.size W w2) (h : CpA w p s W) : CpA w p s w2 := by
  have hl := h.2.2.out.lt
  exact ⟨(hb.cell (p := ⟨w.heap.size, 0, none⟩) (show w.heap.size < _ by omega)).trans h.1, (hb.cell (p := ⟨w.heap.size, 1, none⟩) (show w.heap.size < _ by omega)).trans h.2.1, Lib.hid (h.2.2.out.keep hb)⟩
theorem cps_put {w W : World} {p s : Value} (h : CpA w p s W) (x y : Value) : CpA w p s ((W.setCell ⟨w.heap.size + 1, 0, none⟩ x).setCell ⟨w.heap.size + 1, 1, none⟩ y) := by
  obtain ⟨h1, h2, h3⟩ := h
  obtain ⟨⟨a, b, h4⟩, h5⟩ := h3.out
  refine ⟨by rw [World.cell?_setCell_far _ _ _ _ (by simp), World.cell?_setCell_far _ _ _ _ (by simp)]; exact h1, by rw [World.cell?_setCell_far _ _ _ _ (by simp), World.cell?_setCell_far _ _ _ _ (by simp)]; exact h2, Lib.hid ⟨⟨x, y, by simp [World.setCell, Array.getElem?_modify, h4]⟩, (h5.setCell (p := ⟨w.heap.size + 1, 0, none⟩) (by simp) _).setCell (p := ⟨w.heap.size + 1, 1, none⟩) (by simp) _⟩⟩
set_option maxHeartbeats 4000000 in
set_option maxRecDepth 100000 in
theorem tnamed_any (p s : ByteArray) (w : World) (hp : p.size ≤ LimS) (hs : s.size ≤ LimS) :
    Calls Try.prog 37 #[.agg #[.string p, .string s]] w fun e w' => e = .returned (.agg #[.string p, .string s]) ∧ Below w.heap.size w w' := by
  have CP := Lib.hid (fun W => clone_any p W hp)
  have CS := Lib.hid (fun W => clone_any s W hs)
  have H0 := Lib.hid (cps_start w p s)
  clear hp hs
  go_enter Try.func37, Try.ntmps37
  go_wp2_with fail
  go_region_held3 (fun W => W.cell? ⟨w.heap.size, 0, none⟩ = some (.string p) ∧ W.cell? ⟨w.heap.size, 1, none⟩ = some (.string s) ∧ Hid (CpS w W))
    (first
      | exact ⟨by simp, by simp, H0⟩
      | (go_split_ands; exact ⟨by assumption, by assumption, by assumption⟩)
      | exact cps_put ⟨by assumption, by assumption, by assumption⟩ _ _)
    (first
      | (go_at_call_of 36 (Value.string p); refine (CP.out _).mono ?_; rintro e w2 ⟨rfl, hb⟩; obtain ⟨q0, q1, q2⟩ : CpA w (.string p) (.string s) w2 := cps_next hb ⟨by first | assumption | simp, by first | assumption | simp, by assumption⟩; obtain ⟨⟨ya, yb, yh⟩, yB⟩ := q2.out; have z0 : w2.cell? ⟨w.heap.size + 1, 0, none⟩ = some ya := cells_of yh 0 rfl; have z1 : w2.cell? ⟨w.heap.size + 1, 1, none⟩ = some yb := cells_of yh 1 rfl; have f0 := frz_of yh 0; have f1 := frz_of yh 1; have HY := Lib.hid yB; clear yh yB)
      | (go_at_call_of 36 (Value.string s); refine (CS.out _).mono ?_; rintro e w2 ⟨rfl, hb⟩; obtain ⟨q0, q1, q2⟩ : CpA w (.string p) (.string s) w2 := cps_next hb ⟨by first | assumption | simp, by first | assumption | simp, by assumption⟩; obtain ⟨⟨ya, yb, yh⟩, yB⟩ := q2.out; have z0 : w2.cell? ⟨w.heap.size + 1, 0, none⟩ = some ya := cells_of yh 0 rfl; have z1 : w2.cell? ⟨w.heap.size + 1, 1, none⟩ = some yb := cells_of yh 1 rfl; have f0 := frz_of yh 0; have f1 := frz_of yh 1; have HY := Lib.hid yB; clear yh yB))
  all_goals
    go_wp2
    have c0 : ((w2.setCell ⟨w.heap.size + 1, 0, none⟩ (.string p)).setCell ⟨w.heap.size + 1, 1, none⟩ (.string s)).cell? ⟨w.heap.size + 1, 0, none⟩ = some (.string p) := set2_0 _ _ z0
    have c1 : ((w2.setCell ⟨w.heap.size + 1, 0, none⟩ (.string p)).setCell ⟨w.heap.size + 1, 1, none⟩ (.string s)).cell? ⟨w.heap.size + 1, 1, none⟩ = some (.string s) := set2_1 _ _ z1
    exact bodyPost_ret (v := .agg #[.string p, .string s]) (by simp [results, Try.results37, go_sem, c0, c1]) rfl ⟨rfl, (HY.out.setCell (p := ⟨w.heap.size + 1, 0, none⟩) (by simp) _).setCell (p := ⟨w.heap.size + 1, 1, none⟩) (by simp) _⟩
end Go.Proofs.Ytaoggciebkaakaa.Ev

/- The document's Right (layer 9), over contracts of what it calls. -/
set_option linter.unusedSimpArgs false
set_option linter.unusedVariables false
namespace Go.Proofs.Ytaoggciebkaakaa.Ev
open Go.RowKit

theorem below_drewN {B : Nat} {w w' : World} (h : Below B w w') (n : Nat) : Below B w (w'.drewN n) := ⟨h.os, h.tape, h.output, h.size, h.block⟩
/-- Two names are the same. -/
def eqn (x y : P2) : Bool := (x.1.toList == y.1.toList) && (x.2.toList == y.2.toList)
/-- The attributes from here on are right, those ahead bear these names. -/
def goA (nm : P2 → Bool) (tR : ByteArray → Bool) : List P2 → List P3 → Bool
  | _, [] => true
  | seen, x :: r => nm x.1 && tR x.2 && !(seen.any fun y => eqn y x.1) && goA nm tR (seen ++ [x.1]) r
def emp (s : ByteArray) : Bool := s.toList.isEmpty
theorem emp3 (a b : ByteArray) : (a.toList.isEmpty = true ∧ b.toList.isEmpty = true) ∨ (a.toList.isEmpty = true ∧ b.toList.isEmpty = false) ∨ a.toList.isEmpty = false := by
  cases a.toList.isEmpty <;> cases b.toList.isEmpty <;> simp
def noneF (x : RE) : Bool := emp x.sp && emp x.lo && (x.ats.length == 0)
/-- An event is right. -/
def rightF (pL tR : ByteArray → Bool) (x : RE) : Bool :=
  if x.kind = 2 then noneF x && !emp x.tx && tR x.tx
  else if x.kind = 3 then noneF x && emp x.tx
  else if x.kind ≠ 1 ∨ emp x.tx = false ∨ nmF pL tR (x.sp, x.lo) = false ∨ 32 < x.ats.length then false
  else goA (nmF pL tR) tR [] x.ats
theorem go_step {nm : P2 → Bool} {tR : ByteArray → Bool} {l : List P3} {i : Nat} {x : P3} (hx : l[i]? = some x) : goA nm tR ((l.take i).map (·.1)) (l.drop i) = (nm x.1 && tR x.2 && !(((l.take i).map (·.1)).any fun y => eqn y x.1) && goA nm tR ((l.take (i + 1)).map (·.1)) (l.drop (i + 1))) := by
  have hlt := (List.getElem?_eq_some_iff.1 hx).1
  have hd : l.drop i = x :: l.drop (i + 1) := by
    rw [List.drop_eq_getElem_cons hlt]
    have := (List.getElem?_eq_some_iff.1 hx).2
    rw [this]
  have ht : (l.take (i + 1)).map (·.1) = (l.take i).map (·.1) ++ [x.1] := by rw [List.take_add_one, hx]; simp
  rw [hd, ht]
  rfl
theorem any_no {l : List P3} {i : Nat} {x : P2} (h : ∀ (t : Nat) (y : P3), t < i → l[t]? = some y → eqn y.1 x = false) : (((l.take i).map (·.1)).any fun y => eqn y x) = false := by
  rw [List.any_eq_false]
  intro y hy
  obtain ⟨z, hz, rfl⟩ := List.mem_map.1 hy
  obtain ⟨t, ht⟩ := List.getElem?_of_mem hz
  rw [List.getElem?_take] at ht
  by_cases hti : t < i
  · rw [if_pos hti] at ht
    rw [h t z hti ht]
    decide
  · rw [if_neg hti] at ht
    cases ht
theorem any_yes {l : List P3} {i t : Nat} {x : P2} {y : P3} (hti : t < i) (hy : l[t]? = some y) (h : eqn y.1 x = true) : (((l.take i).map (·.1)).any fun y => eqn y x) = true := by
  rw [List.any_eq_true]
  refine ⟨y.1, List.mem_map.2 ⟨y, List.mem_of_getElem? (i := t) ?_, rfl⟩, h⟩
  rw [List.getElem?_take, if_pos hti, hy]
/-- The bounds that Right asks. -/
structure RgB (x : RE) : Prop where
  sp : x.sp.size ≤ 10000
  lo : x.lo.size ≤ 10000
  tx : x.tx.size ≤ 10000
  at_ : x.ats.length ≤ 32 → ∀ y ∈ x.ats, y.1.1.size ≤ 10000 ∧ y.1.2.size ≤ 10000 ∧ y.2.size ≤ 10000
def RgRel (F : Bool) (nm : P2 → Bool) (tR : ByteArray → Bool) (l : List P3) (n : Nat) (W0 : World) (i : Value) (wr : World) : Prop :=
  ∃ k : Nat, i = .int .i64 k ∧ k ≤ n ∧ Hid (Below W0.heap.size W0 wr) ∧ Hid (F = goA nm tR ((l.take k).map (·.1)) (l.drop k))
def RiRel (l : List P3) (x : P2) (k : Nat) (W0 : World) (i : Value) (wr : World) : Prop :=
  ∃ j : Nat, i = .int .i64 j ∧ j ≤ k ∧ Hid (Below W0.heap.size W0 wr) ∧ Hid (∀ (t : Nat) (y : P3), t < j → l[t]? = some y → eqn y.1 x = false)
def RgC (pL tR : ByteArray → Bool) : Prop := ∀ (sp lo : ByteArray) (W : World), sp.size ≤ 10000 → lo.size ≤ 10000 → Calls Try.prog 44 #[.agg #[.string sp, .string lo]] W fun e w' => e = .returned (.bool (nmF pL tR (sp, lo))) ∧ Below W.heap.size W w'
set_option maxHeartbeats 4000000 in
set_option maxRecDepth 100000 in
/-- Right of an Open whose head is right. -/
theorem right_loop (pL tR : ByteArray → Bool) (C1 : Hid (RgC pL tR)) (C2 : Hid (StrC 43 tR)) (A : Option Addr) (n c : Nat) (x : RE) (w : World) (T : AttsIn w A n c x.ats) (hB : RgB x) (hk : x.kind = 1) (ht : emp x.tx = true) (hn : nmF pL tR (x.sp, x.lo) = true) (h32 : n ≤ 32) :
    Calls Try.prog 39 #[.agg #[.int .i64 x.kind, .string x.sp, .string x.lo, .slice A n c, .string x.tx]] w fun e w' => e = .returned (.bool (rightF pL tR x)) ∧ Below w.heap.size w w' := by
  have HF : Hid (rightF pL tR x = goA (nmF pL tR) tR [] x.ats) := Lib.hid (by
    unfold rightF
    rw [hk, if_neg (by decide), if_neg (by decide), if_neg (by rw [ht, hn, ← T.len]; rintro (h | h | h | h); exact h rfl; cases h; cases h; omega)])
  have HX := Lib.hid (hB.at_ (by rw [← T.len]; exact h32))
  have HC := Lib.hid (C1.out x.sp x.lo (w.alloc (.cells #[.int .i64 1, .string x.sp, .string x.lo, .slice A n c, .string x.tx] 38)) hB.sp hB.lo)
  rw [hn] at HC
  have HT := Lib.hid T
  have HK := Lib.hid (nblk w 38 #[.int .i64 1, .string x.sp, .string x.lo, .slice A n c, .string x.tx])
  have HB0 := Lib.hid ((Below.refl w.heap.size w).alloc (Nat.le_refl _) (.cells #[.int .i64 1, .string x.sp, .string x.lo, .slice A n c, .string x.tx] 38))
  have HZ := Lib.hid (show w.heap.size < (w.alloc (.cells #[.int .i64 1, .string x.sp, .string x.lo, .slice A n c, .string x.tx] 38)).heap.size by simp)
  have ht' : x.tx.toList.isEmpty = true := ht
  rw [HF.out]
  have hkk := hk
  obtain ⟨kind, sp, lo, ats, tx⟩ := x
  dsimp only at *
  subst hkk
  clear T hB ht hn hk
  obtain ⟨F, hF⟩ : ∃ F, F = goA (nmF pL tR) tR [] ats := ⟨_, rfl⟩
  rw [← hF]
  have HFF := Lib.hid hF
  clear hF HF
  rcases emp3 sp lo with ⟨s1, s2⟩ | ⟨s1, s2⟩ | s1
  all_goals
    go_enter Try.func39, Try.ntmps39
    go_wp2_with fail
    refine HC.out.mono ?_
    rintro e w1 ⟨rfl, b1⟩
    have HB1 := Lib.hid b1
    clear b1 HC
    generalize hW0 : w.alloc (.cells #[.int .i64 1, .string sp, .string lo, .slice A n c, .string tx] 38) = W0 at *
    clear hW0
    obtain ⟨c0, c1, c2, c3, c4⟩ := cells5 ((HB1.out.block _ HZ.out).trans HK.out)
    have k32 : ¬ (32 : Int) < (n : Int) := by omega
    go_wp2_with fail
    clear c0 c1 c2 c3 c4
    go_loopw [4, 5] (fun i _ wr => RgRel F (nmF pL tR) tR ats n W0 i wr) (fun i _ _ => n - (intOf i).toNat)
    case atStart => exact ⟨0, rfl, Nat.zero_le _, HB1, HFF⟩
    case round =>
      clear HB1 HFF
      obtain ⟨k, rfl, hk, HR, HA⟩ := hrel
      obtain ⟨c0, c1, c2, c3, c4⟩ := cells5 ((HR.out.block _ HZ.out).trans HK.out)
      clear c0 c1 c2 c4
      by_cases hlt : k < n
      · have k1 : (k : Int) < (n : Int) := by omega
        have k2 : (0 : Int) ≤ (k : Int) := by omega
        have hkl : k < ats.length := by rw [← HT.out.len]; exact hlt
        have hx := List.getElem?_eq_getElem hkl
        have hsz := HX.out _ (List.getElem_mem hkl)
        have HRd : Hid (∀ W, Below W0.heap.size W0 W → RdT W A ats) := Lib.hid fun W hb => HT.out.rd.keep (HB0.out.trans (hb.mono (Nat.le_of_lt HZ.out)))
        obtain ⟨b, off, hA, hbl, d0, d1, d2⟩ := (HRd.out wr HR.out) k _ hx
        have HY := Lib.hid hx
        generalize ats[k] = y at *
        subst hA
        obtain ⟨⟨ysp, ylo⟩, yv⟩ := y
        dsimp only at d0 d1 d2 hsz
        have CN := Lib.hid (C1.out ysp ylo wr hsz.1 hsz.2.1)
        have hv := hsz.2.2
        clear hx hkl hsz hbl
        have HS := Lib.hid (go_step (nm := nmF pL tR) (tR := tR) HY.out)
        cases g1 : nmF pL tR (ysp, ylo) with
        | false =>
          have HE : Hid (F = false) := Lib.hid (by rw [HA.out, HS.out, g1]; rfl)
          rw [g1] at CN
          clear g1 HA HS
          go_wp2_with fail
          refine CN.out.mono ?_
          rintro e w2 ⟨rfl, b2⟩
          have HB2 := Lib.hid (HB0.out.trans ((HR.out.trans (b2.mono HR.out.size)).mono (Nat.le_of_lt HZ.out)))
          clear CN b2 HR
          go_wp2
          go_ret
          exact ⟨by rw [HE.out]; rfl, HB2.out⟩
        | true =>
          rw [g1] at CN HS
          clear g1
          go_wp2_with fail
          refine CN.out.mono ?_
          rintro e w2 ⟨rfl, b2⟩
          have HR2 := Lib.hid (HR.out.trans (b2.mono HR.out.size))
          clear CN b2 HR d0 d1 d2 c3
          obtain ⟨c0, c1, c2, c3, c4⟩ := cells5 ((HR2.out.block _ HZ.out).trans HK.out)
          obtain ⟨b', off', e', hbl, d0, d1, d2⟩ := (HRd.out w2 HR2.out) k _ HY.out
          injection e' with e'
          injection e' with e1 e2 _
          subst e1 e2
          clear c0 c1 c2 c4 d0 d1 hbl
          have CV := Lib.hid (C2.out yv w2 hv)
          dsimp only at d2 HS
          cases g2 : tR yv with
          | false =>
            have HE : Hid (F = false) := Lib.hid (by rw [HA.out, HS.out, g2]; rfl)
            rw [g2] at CV
            clear g2 HA HS
            go_wp2_with fail
            refine CV.out.mono ?_
            rintro e w3 ⟨rfl, b3⟩
            have HB3 := Lib.hid (HB0.out.trans ((HR2.out.trans (b3.mono HR2.out.size)).mono (Nat.le_of_lt HZ.out)))
            clear CV b3 HR2
            go_wp2
            go_ret
            exact ⟨by rw [HE.out]; rfl, HB3.out⟩
          | true =>
            rw [g2] at CV HS
            clear g2
            go_wp2_with fail
            refine CV.out.mono ?_
            rintro e w3 ⟨rfl, b3⟩
            have HR3 := Lib.hid (HR2.out.trans (b3.mono HR2.out.size))
            clear CV b3 HR2 d2 c3
            go_wp2_with fail
            go_loopw [5] (fun i wr => RiRel ats (ysp, ylo) k W0 i wr) (fun i _ => k - (intOf i).toNat)
            case atStart => exact ⟨0, rfl, Nat.zero_le _, HR3, Lib.hid (fun t y h => by omega)⟩
            case round =>
              clear HR3
              obtain ⟨j, rfl, hj, HQ, HN⟩ := hrel
              by_cases hjk : j < k
              · have j1 : (j : Int) < (k : Int) := by omega
                have j2 : (0 : Int) ≤ (j : Int) := by omega
                have j3 : (j : Int) < (n : Int) := by omega
                obtain ⟨c0, c1, c2, c3, c4⟩ := cells5 ((HQ.out.block _ HZ.out).trans HK.out)
                obtain ⟨b', off', e', hbl, d0, d1, d2⟩ := (HRd.out wr HQ.out) k _ HY.out
                injection e' with e'
                injection e' with e1 e2 _
                subst e1 e2
                have hjl : j < ats.length := by rw [← HT.out.len]; omega
                have hz := List.getElem?_eq_getElem hjl
                obtain ⟨b', off', e', hbl', f0, f1, f2⟩ := (HRd.out wr HQ.out) j _ hz
                injection e' with e'
                injection e' with e1 e2 _
                subst e1 e2
                have HZj := Lib.hid hz
                generalize ats[j] = z at *
                obtain ⟨⟨zsp, zlo⟩, zv⟩ := z
                dsimp only at d0 d1 f0 f1
                clear c0 c1 c2 c4 d2 f2 hbl hbl' hz hjl
                by_cases hq : eqn (zsp, zlo) (ysp, ylo) = true
                · have HE : Hid (F = false) := Lib.hid (by rw [HA.out, HS.out, any_yes hjk HZj.out hq]; rfl)
                  have qa : (zsp.toList == ysp.toList) = true := by unfold eqn at hq; simp only [Bool.and_eq_true] at hq; exact hq.1
                  have qb : (zlo.toList == ylo.toList) = true := by unfold eqn at hq; simp only [Bool.and_eq_true] at hq; exact hq.2
                  have HB4 := Lib.hid (HB0.out.trans (HQ.out.mono (Nat.le_of_lt HZ.out)))
                  clear hq HA HS HN
                  go_wp2_with fail
                  go_quiet (fail)
                  go_wp2
                  go_ret
                  exact ⟨by rw [HE.out]; rfl, below_drewN HB4.out _⟩
                · have hq' : eqn (zsp, zlo) (ysp, ylo) = false := by simpa using hq
                  have HN2 : Hid (∀ (t : Nat) (y : P3), t < j + 1 → ats[t]? = some y → eqn y.1 (ysp, ylo) = false) := Lib.hid fun t y ht hy => by
                    rcases Nat.lt_or_ge t j with g | g
                    · exact HN.out t y g hy
                    · obtain rfl : t = j := by omega
                      rw [HZj.out] at hy
                      injection hy with hy
                      rw [← hy]
                      exact hq'
                  clear hq HN
                  cases qa : (zsp.toList == ysp.toList) with
                  | false =>
                    clear hq'
                    go_wp2_with fail
                    go_quiet (fail)
                    go_wp2
                    go_roundw
                    case rel => exact ⟨j + 1, by go_num, by omega, Lib.hid (below_drewN HQ.out _), HN2⟩
                    case measure => simp only [intOf]; omega
                  | true =>
                    have qb : (zlo.toList == ylo.toList) = false := by unfold eqn at hq'; dsimp only at hq'; rw [qa] at hq'; simpa using hq'
                    clear hq'
                    go_wp2_with fail
                    go_quiet (fail)
                    go_wp2
                    go_roundw
                    case rel => exact ⟨j + 1, by go_num, by omega, Lib.hid (below_drewN HQ.out _), HN2⟩
                    case measure => simp only [intOf]; omega
              · have j1 : ¬ (j : Int) < (k : Int) := by omega
                have HA2 : Hid (F = goA (nmF pL tR) tR ((ats.take (k + 1)).map (·.1)) (ats.drop (k + 1))) := Lib.hid (by
                  rw [HA.out, HS.out, any_no (fun t y h hy => HN.out t y (by omega) hy)]
                  rfl)
                clear HA HS HN
                go_wp2
                go_roundw
                case rel => exact ⟨k + 1, by go_num, by omega, HQ, HA2⟩
                case measure => simp only [intOf]; omega
      · have k1 : ¬ (k : Int) < (n : Int) := by omega
        have HE : Hid (F = true) := Lib.hid (by rw [HA.out, List.drop_of_length_le (by rw [← HT.out.len]; omega)]; rfl)
        have HB4 := Lib.hid (HB0.out.trans (HR.out.mono (Nat.le_of_lt HZ.out)))
        clear HA HR
        go_wp2
        go_ret
        exact ⟨by rw [HE.out]; rfl, HB4.out⟩
end Go.Proofs.Ytaoggciebkaakaa.Ev
