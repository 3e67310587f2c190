/-
  A scope and a tag that are handed in, opened.
-/
import Derived.Test.YtepmleieekpdiaaScTop
import Derived.Lib.SmallJoins
import Derived.Deep.SlicePairs
import Derived.Carry
import Derived.ProofKit
import Derived.SizedLaws
set_option linter.unusedSimpArgs false
set_option linter.unusedVariables false
namespace Go.Proofs.Ytepmleieekpdiaa
open Go.Joins Go.ChangeShapes Go.WideShapes Go.RowKit Go.Deep

theorem lt_of_cell {w : World} {b o : Nat} {v : Value} (h : w.cell? ⟨b, o, none⟩ = some v) : b < w.heap.size := by
  rcases Nat.lt_or_ge b w.heap.size with hlt | hge
  · exact hlt
  · simp [World.cell?, Array.getElem?_eq_none hge] at h
theorem Try.cells50 : Try.prog.cellsOf 50 = 2 := by kernel_rfl
theorem Try.cells57 : Try.prog.cellsOf 57 = 2 := by kernel_rfl
theorem weightsAll_mem {H : Type} {P : Program} {e : TypeId} : ∀ {l : List (DataW H)} {d : DataW H}, d ∈ l → ∀ m ∈ d.weights P e, m ∈ DataW.weightsAll P e l
  | [], d, h, m, _ => by simp at h
  | x :: l, d, h, m, hm => by
    unfold DataW.weightsAll
    rw [List.mem_append]
    rcases List.mem_cons.1 h with rfl | h
    · exact .inl hm
    · exact .inr (weightsAll_mem h m hm)
/-- What is known of a slice of pairs that is handed in. -/
structure SlIn (w : World) (A : Option Addr) (n c : Nat) (l : List P2) : Prop where
  len : n = l.length
  lsz : n ≤ maxLen
  rd : RdR w A l
  lim : LimL l
  nil : A = none → n = 0 ∧ c = 0
  cap : n ≤ c ∧ c ≤ maxLen
theorem SlIn.keep {w w' : World} {A : Option Addr} {n c : Nat} {l : List P2} (h : SlIn w A n c l) (hb : Below w.heap.size w w') : SlIn w' A n c l := ⟨h.len, h.lsz, h.rd.keep hb, h.lim, h.nil, h.cap⟩
set_option maxRecDepth 100000 in
theorem open_pairs {H : Type} {enc : TypeId × Value → H} {w : World} {t e : TypeId} {f0 f1 : Field} {fuel : Nat} {v : Value} {x : DataW H × List MemPlace} (ht : Try.prog.underlying t = some (.slice e)) (he : Try.prog.underlying e = some (.struct #[f0, f1]))
    (ce : Try.prog.cellsOf e = 2) (o0 : f0.offset = 0) (o1 : f1.offset = 1) (g0 : f0.type = 9) (g1 : f1.type = 9) (h : DataW.trod enc Try.prog w 0 (fun _ => true) true fuel t [v] = some x) (hw : ∀ m ∈ x.1.weights Try.prog t, m ≤ reachBytes) :
    ∃ (A : Option Addr) (n c : Nat) (l : List P2), v = .slice A n c ∧ SlIn w A n c l := by
  rcases open_slice_pairs ht he ce o0 o1 (by rw [g0]; exact Try.cells9) (by rw [g1]; exact Try.cells9) h with ⟨hc, _⟩ | ⟨a, len, cap, m, k2, V0, V1, D0, D1, P0, P1, hc, _, hl, hm, hmm, hx, hall⟩
  · simp only [List.cons.injEq, and_true] at hc
    subst hc
    exact ⟨none, 0, 0, [], rfl, ⟨rfl, Nat.zero_le _, fun j x hx => by simp at hx, fun x hx => by simp at hx, fun _ => ⟨rfl, rfl⟩, ⟨Nat.le_refl _, Nat.zero_le _⟩⟩⟩
  · simp only [List.cons.injEq, and_true] at hc
    subst hc
    simp only [if_true] at hmm
    subst hmm
    rw [g0, g1] at hall
    have st : ∀ i, i < m → ∃ s0 s1 : ByteArray, V0 i = .string s0 ∧ V1 i = .string s1 ∧ D0 i = .lit (.string s0.data.toList) ∧ D1 i = .lit (.string s1.data.toList) := fun i hi => by
      obtain ⟨_, _, u0, u1⟩ := hall i hi
      obtain ⟨s0, e0, y0, z0⟩ := DataW.trod_string Try.underlying9 u0
      obtain ⟨s1, e1, y1, z1⟩ := DataW.trod_string Try.underlying9 u1
      simp only [List.cons.injEq, and_true] at e0 e1
      simp only [Prod.mk.injEq] at y0 y1
      exact ⟨s0, s1, e0, e1, y0.1, y1.1⟩
    have st1 : ∀ i, i < len → ∀ s0 s1 : ByteArray, D0 i = .lit (.string s0.data.toList) → D1 i = .lit (.string s1.data.toList) → s0.size ≤ Lim ∧ s1.size ≤ Lim := fun i hi s0 s1 y0 y1 => by
      have hmem : (DataW.agg [D0 i, D1 i]) ∈ (List.range len).map (fun i => DataW.agg [D0 i, D1 i]) := List.mem_map.2 ⟨i, List.mem_range.2 hi, rfl⟩
      have hin : ∀ q, q ∈ (DataW.agg [D0 i, D1 i]).weights Try.prog e → q ≤ reachBytes := fun q hq => by
        refine hw q ?_
        rw [hx]
        unfold DataW.weights
        rw [ht]
        exact List.mem_cons_of_mem _ (List.mem_append.2 (.inl (weightsAll_mem hmem q hq)))
      have hwt : (DataW.agg [D0 i, D1 i]).weights Try.prog e = [s0.data.toList.length, s1.data.toList.length] := by
        rw [y0, y1]
        simp [DataW.weights, he, DataW.weightsEach]
      rw [hwt] at hin
      have r0 := hin _ List.mem_cons_self
      have r1 := hin _ (List.mem_cons_of_mem _ List.mem_cons_self)
      rw [← Lib.size_eq] at r0 r1
      exact ⟨r0, r1⟩
    have st2 : ∀ i, ∃ x : P2, i < len → V0 i = .string x.1 ∧ V1 i = .string x.2 ∧ x.1.size ≤ Lim ∧ x.2.size ≤ Lim := fun i => by
      by_cases hi : i < len
      · obtain ⟨s0, s1, h1, h2, h3, h4⟩ := st i (by omega)
        exact ⟨(s0, s1), fun _ => ⟨h1, h2, st1 i hi s0 s1 h3 h4⟩⟩
      · exact ⟨(em, em), fun h => absurd h hi⟩
    let X := fun i => Classical.choose (st2 i)
    have hX : ∀ i, i < len → V0 i = .string (X i).1 ∧ V1 i = .string (X i).2 ∧ (X i).1.size ≤ Lim ∧ (X i).2.size ≤ Lim := fun i => Classical.choose_spec (st2 i)
    have hget : ∀ (k : Nat) x, ((List.range len).map X)[k]? = some x → k < len ∧ x = X k := fun k x hk => by
      rw [List.getElem?_map] at hk
      obtain ⟨j, hj, rfl⟩ := Option.map_eq_some_iff.1 hk
      have hlt := (List.getElem?_eq_some_iff.1 hj).1
      rw [List.length_range] at hlt
      rw [List.getElem?_range hlt] at hj
      injection hj with hj
      exact ⟨hlt, by rw [hj]⟩
    refine ⟨some a, len, m, (List.range len).map X, rfl, ⟨by simp, by omega, fun k x hk => ?_, fun x hx => ?_, (fun h => by cases h), ⟨hl, hm⟩⟩⟩
    · obtain ⟨hk1, rfl⟩ := hget k x hk
      obtain ⟨b, off, spot⟩ := a
      have c0 := (hall k (by omega)).1
      have c1 := (hall k (by omega)).2.1
      rw [(hX k (by omega)).1] at c0
      rw [(hX k (by omega)).2.1] at c1
      have hspot : spot = none := by
        have := World.cell?_spot (hall 0 (by omega)).1
        simpa [Addr.add] using this
      subst hspot
      rw [Addr.add_lit] at c0 c1
      exact ⟨b, off, rfl, lt_of_cell c0, c0, by rw [Nat.add_assoc]; exact c1⟩
    · obtain ⟨i, hi, rfl⟩ := List.mem_map.1 hx
      have := List.mem_range.1 hi
      exact (hX i (by omega)).2.2
theorem all_le {l : List Nat} (h : l.all (· ≤ reachBytes) = true) : ∀ m ∈ l, m ≤ reachBytes := fun m hm => by
  have := List.all_eq_true.1 h m hm
  simpa using this
set_option maxRecDepth 100000 in
theorem open_scope {H : Type} {enc : TypeId × Value → H} {w : World} {r : Reach} {b0 : Nat} {v : Value} {d : DataW H} {p : List MemPlace} (hv : Value.okWide Try.prog w r b0 22 v) (h : DataW.Trod enc Try.prog w 0 (fun _ => true) true 22 v d p) (hw : ∀ m ∈ d.weights Try.prog 22, m ≤ reachBytes) :
    ∃ (A : Option Addr) (n c : Nat) (l : List P2), v = .slice A n c ∧ SlIn w A n c l := by
  obtain ⟨a, len, cap, rfl⟩ := okWide_slice Try.underlying22 hv
  obtain ⟨fuel, hf⟩ := h
  exact open_pairs (x := (d, p)) Try.underlying22 Try.underlying50 Try.cells50 rfl rfl rfl rfl hf hw
/-- What is known of a tag that is handed in. -/
structure TagIn (w : World) (nm : ByteArray) (A : Option Addr) (n c : Nat) (l : List P2) : Prop where
  nsz : nm.size ≤ Lim
  sl : SlIn w A n c l
set_option maxRecDepth 100000 in
theorem open_tag {H : Type} {enc : TypeId × Value → H} {w : World} {r : Reach} {b0 : Nat} {v : Value} {d : DataW H} {p : List MemPlace} (hv : Value.okWide Try.prog w r b0 25 v) (h : DataW.Trod enc Try.prog w 0 (fun _ => true) true 25 v d p) (hw : ∀ m ∈ d.weights Try.prog 25, m ≤ reachBytes) :
    ∃ (nm : ByteArray) (A : Option Addr) (n c : Nat) (l : List P2), v = .agg #[.string nm, .slice A n c] ∧ TagIn w nm A n c l := by
  obtain ⟨v0, v1, y0, y1, k, rfl, rfl, _, t0, t1⟩ := open_agg2 Try.underlying25 (by kernel_rfl) (by kernel_rfl) hv h
  obtain ⟨nm, e0, e1, hs⟩ := DataW.trod_string Try.underlying9 t0
  simp only [List.cons.injEq, and_true] at e0
  subst e0
  have hwt : (DataW.agg [y0.1, y1.1]).weights Try.prog 25 = y0.1.weights Try.prog 9 ++ (y1.1.weights Try.prog 23 ++ []) := by
    simp [DataW.weights, Try.underlying25, DataW.weightsEach]
  rw [hwt] at hw
  obtain ⟨A, n, c, l, rfl, hl⟩ := open_pairs Try.underlying23 Try.underlying57 Try.cells57 rfl rfl rfl rfl t1 (fun m hm => hw m (by simp [hm]))
  refine ⟨nm, A, n, c, l, rfl, ⟨?_, hl⟩⟩
  have : nm.data.toList.length ≤ reachBytes := hw _ (by rw [e1]; simp [DataW.weights])
  rw [← Lib.size_eq] at this
  exact this
end Go.Proofs.Ytepmleieekpdiaa
