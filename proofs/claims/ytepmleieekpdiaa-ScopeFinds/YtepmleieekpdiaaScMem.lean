/-
  Memory: slices of pairs and of triples of texts, read and owned.
-/
import Derived.Test.YtepmleieekpdiaaScMath
import Derived.Laws.OwnMore
import Derived.Deep.RegionLaw
import Derived.OwnWalk
import Derived.Deep.RegionHeld3
import Derived.Lib.Hide
set_option linter.unusedSimpArgs false
set_option linter.unusedVariables false
namespace Go.Proofs.Ytepmleieekpdiaa
open Go.RowKit

section
variable {α : Type} {f : α → List Value} {z : Nat}
theorem cel_len (hz : ∀ x, (f x).length = z) (l : List α) : (l.flatMap f).length = l.length * z := by
  induction l with
  | nil => simp
  | cons x l ih => rw [List.flatMap_cons, List.length_append, hz, ih, List.length_cons, Nat.add_mul, Nat.one_mul, Nat.add_comm]
theorem cel_get (hz : ∀ x, (f x).length = z) : ∀ (l : List α) (k i : Nat) (t : α), l[k]? = some t → i < z → (l.flatMap f)[k * z + i]? = (f t)[i]?
  | [], k, i, t, h, _ => by simp at h
  | x :: l, 0, i, t, h, hi => by
    have : x = t := by simpa using h
    subst this
    rw [List.flatMap_cons, Nat.zero_mul, Nat.zero_add, List.getElem?_append_left (by rw [hz]; exact hi)]
  | x :: l, k + 1, i, t, h, hi => by
    have h' : l[k]? = some t := by simpa using h
    have e : (k + 1) * z + i - z = k * z + i := by rw [Nat.add_mul, Nat.one_mul]; omega
    rw [List.flatMap_cons, List.getElem?_append_right (by rw [hz, Nat.add_mul, Nat.one_mul]; omega), hz, e]
    exact cel_get hz l k i t h' hi
end

def rwC (x : P2) : List Value := [.string x.1, .string x.2]
def rwL (l : List P2) : List Value := l.flatMap rwC
theorem rwC_len (x : P2) : (rwC x).length = 2 := rfl
theorem rwL_len (l : List P2) : (rwL l).length = l.length * 2 := cel_len rwC_len l
theorem rwL_get (l : List P2) (k i : Nat) (t : P2) (h : l[k]? = some t) (hi : i < 2) : (rwL l)[k * 2 + i]? = (rwC t)[i]? := cel_get rwC_len l k i t h hi
theorem rwL_app (l : List P2) (t : P2) : rwL (l ++ [t]) = rwL l ++ rwC t := by unfold rwL; simp
theorem rw_one (x : P2) : ∀ u ∈ rwC x, u.oneCell' = true := by
  intro u hu
  unfold rwC at hu
  simp only [List.mem_cons, List.not_mem_nil, or_false] at hu
  rcases hu with rfl | rfl <;> rfl
theorem rwL_one (l : List P2) : ∀ u ∈ rwL l, u.oneCell' = true := by
  intro u hu
  obtain ⟨x, _, hx⟩ := List.mem_flatMap.1 hu
  exact rw_one x u hx
/-- The slice at A reads as these pairs. -/
def RdR (w : World) (A : Option Addr) (l : List P2) : Prop :=
  ∀ k x, l[k]? = some x → ∃ b off, A = some ⟨b, off, none⟩ ∧ b < w.heap.size ∧ w.cell? ⟨b, off + k * 2, none⟩ = some (.string x.1) ∧ w.cell? ⟨b, off + k * 2 + 1, none⟩ = some (.string x.2)
/-- A row of the call's own that holds these pairs (of type e). -/
def OwnP (e : TypeId) (w : World) (B : Nat) (v : Value) (l : List P2) : Prop := w.ownsRow B e 2 v l.length (rwL l)
theorem own_rdR {e : TypeId} {w : World} {B : Nat} {v : Value} {l : List P2} (h : OwnP e w B v l) : ∃ A c, v = .slice A l.length c ∧ RdR w A l ∧ (A = none → l.length = 0 ∧ c = 0) ∧ ∀ b off, A = some ⟨b, off, none⟩ → B ≤ b := by
  have h' : w.ownsRow B e 2 v l.length (rwL l) := h
  rcases h'.2 with ⟨rfl, h0⟩ | ⟨g, cap, cur, rfl, hB, _⟩
  · refine ⟨none, 0, by rw [h0], fun k x hk => ?_, fun _ => ⟨h0, rfl⟩, fun b off hh => by cases hh⟩
    rw [List.eq_nil_of_length_eq_zero h0] at hk
    simp at hk
  · refine ⟨_, cap, rfl, fun k x hk => ⟨g, 0, rfl, (h'.lt g rfl).2, ?_⟩, (fun hh => by cases hh), (fun b off hh => by cases hh; exact hB)⟩
    have hlt : k < l.length := (List.getElem?_eq_some_iff.1 hk).1
    exact ⟨by rw [Nat.zero_add]; exact (h'.cellAt (k * 2) (by omega)).trans (rwL_get l k 0 x hk (by omega)), by rw [Nat.zero_add]; exact (h'.cellAt (k * 2 + 1) (by omega)).trans (rwL_get l k 1 x hk (by omega))⟩
theorem RdR.keep {w w' : World} {A : Option Addr} {l : List P2} (h : RdR w A l) (hb : Below w.heap.size w w') : RdR w' A l := fun k t hk => by
  obtain ⟨b, o, e, hlt, c0, c1⟩ := h k t hk
  exact ⟨b, o, e, Nat.lt_of_lt_of_le hlt hb.size, (hb.cell (p := ⟨b, o + k * 2, none⟩) hlt).trans c0, (hb.cell (p := ⟨b, o + k * 2 + 1, none⟩) hlt).trans c1⟩
theorem RdR.keepG {w w' : World} {A : Option Addr} {l : List P2} {row : Option Nat} (h : RdR w A l) (hg : w.grownBy w' row) (hne : ∀ b off, A = some ⟨b, off, none⟩ → some b ≠ row) : RdR w' A l := fun k x hk => by
  obtain ⟨b, o, e, hlt, c0, c1⟩ := h k x hk
  have hn := hne b o e
  exact ⟨b, o, e, Nat.lt_of_lt_of_le hlt hg.size, hg.cell c0 hn, hg.cell c1 hn⟩
theorem RdR.cells {w : World} {ad : Addr} {l : List P2} (h : RdR w (some ad) l) : ∀ j u, (rwL l)[j]? = some u → w.cell? (ad.add j) = some u := by
  intro j u hu
  have hj := (List.getElem?_eq_some_iff.1 hu).1
  rw [rwL_len] at hj
  have hk : j / 2 < l.length := by omega
  obtain ⟨b, off, e, _, c0, c1⟩ := h (j / 2) _ (List.getElem?_eq_getElem hk)
  injection e with e
  subst e
  rw [Addr.add_lit]
  rcases Nat.mod_two_eq_zero_or_one j with hm | hm
  · have g := rwL_get l (j / 2) 0 _ (List.getElem?_eq_getElem hk) (by omega)
    rw [show j / 2 * 2 + 0 = j by omega, hu] at g
    rw [g, show off + j = off + j / 2 * 2 by omega, c0]
    rfl
  · have g := rwL_get l (j / 2) 1 _ (List.getElem?_eq_getElem hk) (by omega)
    rw [show j / 2 * 2 + 1 = j by omega, hu] at g
    rw [g, show off + j = off + j / 2 * 2 + 1 by omega, c1]
    rfl
def tC (x : P3) : List Value := [.string x.1.1, .string x.1.2, .string x.2]
def tL (l : List P3) : List Value := l.flatMap tC
theorem tC_len (x : P3) : (tC x).length = 3 := rfl
theorem tL_get (l : List P3) (k i : Nat) (t : P3) (h : l[k]? = some t) (hi : i < 3) : (tL l)[k * 3 + i]? = (tC t)[i]? := cel_get tC_len l k i t h hi
theorem tL_app (l : List P3) (t : P3) : tL (l ++ [t]) = tL l ++ tC t := by unfold tL; simp
theorem t_one (x : P3) : ∀ u ∈ tC x, u.oneCell' = true := by
  intro u hu
  unfold tC at hu
  simp only [List.mem_cons, List.not_mem_nil, or_false] at hu
  rcases hu with rfl | rfl | rfl <;> rfl
/-- The slice at A reads as these attributes. -/
def RdT (w : World) (A : Option Addr) (l : List P3) : Prop :=
  ∀ k x, l[k]? = some x → ∃ b off, A = some ⟨b, off, none⟩ ∧ b < w.heap.size ∧ w.cell? ⟨b, off + k * 3, none⟩ = some (.string x.1.1) ∧ w.cell? ⟨b, off + k * 3 + 1, none⟩ = some (.string x.1.2) ∧ w.cell? ⟨b, off + k * 3 + 2, none⟩ = some (.string x.2)
def OwnT (w : World) (B : Nat) (v : Value) (l : List P3) : Prop := w.ownsRow B 53 3 v l.length (tL l)
theorem own_rdT {w : World} {B : Nat} {v : Value} {l : List P3} (h : OwnT w B v l) : ∃ A c, v = .slice A l.length c ∧ RdT w A l ∧ (A = none → l.length = 0 ∧ c = 0) ∧ ∀ b off, A = some ⟨b, off, none⟩ → B ≤ b := by
  have h' : w.ownsRow B 53 3 v l.length (tL l) := h
  rcases h'.2 with ⟨rfl, h0⟩ | ⟨g, cap, cur, rfl, hB, _⟩
  · refine ⟨none, 0, by rw [h0], fun k x hk => ?_, fun _ => ⟨h0, rfl⟩, fun b off hh => by cases hh⟩
    rw [List.eq_nil_of_length_eq_zero h0] at hk
    simp at hk
  · refine ⟨_, cap, rfl, fun k x hk => ⟨g, 0, rfl, (h'.lt g rfl).2, ?_⟩, (fun hh => by cases hh), (fun b off hh => by cases hh; exact hB)⟩
    have hlt : k < l.length := (List.getElem?_eq_some_iff.1 hk).1
    exact ⟨by rw [Nat.zero_add]; exact (h'.cellAt (k * 3) (by omega)).trans (tL_get l k 0 x hk (by omega)), by rw [Nat.zero_add]; exact (h'.cellAt (k * 3 + 1) (by omega)).trans (tL_get l k 1 x hk (by omega)), by rw [Nat.zero_add]; exact (h'.cellAt (k * 3 + 2) (by omega)).trans (tL_get l k 2 x hk (by omega))⟩
theorem RdT.keep {w w' : World} {A : Option Addr} {l : List P3} (h : RdT w A l) (hb : Below w.heap.size w w') : RdT w' A l := fun k t hk => by
  obtain ⟨b, o, e, hlt, c0, c1, c2⟩ := h k t hk
  exact ⟨b, o, e, Nat.lt_of_lt_of_le hlt hb.size, (hb.cell (p := ⟨b, o + k * 3, none⟩) hlt).trans c0, (hb.cell (p := ⟨b, o + k * 3 + 1, none⟩) hlt).trans c1, (hb.cell (p := ⟨b, o + k * 3 + 2, none⟩) hlt).trans c2⟩
/-- A slice of texts. -/
def RdS (w : World) (A : Option Addr) (l : List ByteArray) : Prop :=
  ∀ k x, l[k]? = some x → ∃ b off, A = some ⟨b, off, none⟩ ∧ b < w.heap.size ∧ w.cell? ⟨b, off + k, none⟩ = some (.string x)
theorem RdS.keep {w w' : World} {A : Option Addr} {l : List ByteArray} (h : RdS w A l) (hb : Below w.heap.size w w') : RdS w' A l := fun k t hk => by
  obtain ⟨b, o, e, hlt, c0⟩ := h k t hk
  exact ⟨b, o, e, Nat.lt_of_lt_of_le hlt hb.size, (hb.cell (p := ⟨b, o + k, none⟩) hlt).trans c0⟩
theorem own_keep {e : TypeId} {z n : Nat} {w w' : World} {B : Nat} {v : Value} {xs : List Value} (h : w.ownsRow B e z v n xs) (hb : Below w.heap.size w w') : w'.ownsRow B e z v n xs :=
  h.kept (row := none) ⟨hb.os, hb.tape, hb.output, hb.size, fun k hk _ => hb.block k hk⟩ (by
    rcases h.2 with ⟨rfl, _⟩ | ⟨g, cap, cur, rfl, _⟩
    · exact .inl rfl
    · exact .inr (by simp [Value.ownBlock]))
theorem own_ne {w : World} {B : Nat} {e T : TypeId} {z : Nat} {v : Value} {n : Nat} {xs : List Value} {b : Nat} {cs : Array Value} {fr : Nat × Nat} (hown : w.ownsRow B e z v n xs) (hb : w.heap[b]? = some (.cells cs T fr)) (hTe : T ≠ e) : v.ownBlock ≠ some b := by
  rcases hown.2 with ⟨rfl, _⟩ | ⟨g, cap, cur, rfl, _, hg, _⟩
  · simp [Value.ownBlock]
  · intro h
    simp only [Value.ownBlock, Option.some.injEq] at h
    subst h
    rw [hg] at hb
    injection hb with hb
    injection hb with _ h2 _
    exact hTe h2.symm
theorem own_shape {w : World} {B : Nat} {e : TypeId} {z n : Nat} {v : Value} {xs : List Value} (h : w.ownsRow B e z v (n + 1) xs) : ∃ g cap, v = .slice (some ⟨g, 0, none⟩) (n + 1) cap := by
  rcases h.2 with ⟨_, h0⟩ | ⟨g, cap, cur, rfl, _⟩
  · omega
  · exact ⟨g, cap, rfl⟩
theorem own_slice {w : World} {B : Nat} {e : TypeId} {z n : Nat} {v : Value} {xs : List Value} (h : w.ownsRow B e z v n xs) : ∃ A cap, v = .slice A n cap := by
  rcases h.2 with ⟨rfl, h0⟩ | ⟨g, cap, cur, rfl, _⟩
  · exact ⟨none, 0, by rw [h0]⟩
  · exact ⟨_, cap, rfl⟩
/-- An append to a row of the call's own, as one step of a region that draws its order. -/
theorem step_append_own {P : Program} {ops : Array Oper} {o : Oper} {a : Act} {w : World} {K : Act → World → Prop} {Q : Exit → Act → World → Prop} {E : Prop}
    (hg : o.guard = none) (s x : Operand) (t : TypeId) (hop : o.op = Op.call { callee := Callee.builtin Builtin.append, args := #[s, x], argTypes := #[t, t] })
    (base : Nat) (e : TypeId) (i : TypeInfo) (z : Value) (size bytes : Nat) (h1 : P.underlying t = some (.slice e)) (h2 : P.info? e = some i) (h3 : i.zero = some z) (h4 : i.size = size) (h5 : i.bytes = bytes) (h6 : z.cells.size = size) (h7 : 0 < size)
    (v : Value) (n : Nat) (xs : List Value) (hs : a.eval s = v) (hown : w.ownsRow base e size v n xs)
    (ad : Addr) (m c : Nat) (news : List Value) (hx : a.eval x = .slice (some ad) m c) (hn : news.length = m * size) (hc : ∀ j u, news[j]? = some u → w.cell? (ad.add j) = some u) (h1c : ∀ u ∈ news, u.oneCell' = true)
    (b1 : n + m ≤ maxLen) (b2 : (n + m) * bytes ≤ 140737488355328) (hb : base ≤ w.heap.size)
    (hK : ∀ v' w', w'.ownsRow base e size v' (n + m) (xs ++ news) → w.grownBy w' v.ownBlock → K (a.put o.dst v') w') :
    if Region.wanted o (yielded ops a.tmps) = true then Oper.wp P o a w K Q else E := by
  have hw : Region.wanted o (yielded ops a.tmps) = true := by simp [Region.wanted, hg]
  rw [if_pos hw]
  obtain ⟨v', w', hrun, r1, r2, _⟩ := run_append_own (P := P) w base t o.type e i z size bytes h1 h2 h3 h4 h5 h6 h7 v n xs hown ad m c news hn hc h1c b1 b2 hb
  unfold Oper.wp
  simp [execOp, hop, resolve, invoke, builtin, hs, hx, hrun, Result.andThen]
  exact hK v' w' r1 r2
theorem Try.info50 : (Try.prog.info? 50).map (fun i => (i.zero, i.size, i.bytes)) = some (some (.agg #[.string ⟨#[]⟩, .string ⟨#[]⟩]), 2, 32) := by kernel_rfl
theorem Try.info29 : (Try.prog.info? 29).map (fun i => (i.zero, i.size, i.bytes)) = some (some (.agg #[.string ⟨#[]⟩, .string ⟨#[]⟩]), 2, 32) := by kernel_rfl
theorem Try.info57 : (Try.prog.info? 57).map (fun i => (i.zero, i.size, i.bytes)) = some (some (.agg #[.string ⟨#[]⟩, .string ⟨#[]⟩]), 2, 32) := by kernel_rfl
theorem Try.info53 : (Try.prog.info? 53).map (fun i => (i.zero, i.size, i.bytes)) = some (some (.agg #[.string ⟨#[]⟩, .string ⟨#[]⟩, .string ⟨#[]⟩]), 3, 48) := by kernel_rfl
theorem cells_of {W : World} {b : Nat} {cs : Array Value} {T : TypeId} {fz : Nat × Nat} (h : W.heap[b]? = some (.cells cs T fz)) (j : Nat) {u : Value} (hu : cs[j]? = some u) : W.cell? ⟨b, j, none⟩ = some u := (Lib.cell_of_heap h j).trans hu
theorem froz_of {W : World} {b : Nat} {cs : Array Value} {T : TypeId} (h : W.heap[b]? = some (.cells cs T (0, 0))) (j : Nat) : W.frozen? ⟨b, j, none⟩ = false := by
  unfold World.frozen?
  rw [h]
  simp
theorem set2_0 {W : World} {b : Nat} {u : Value} (x y : Value) (h0 : W.cell? ⟨b, 0, none⟩ = some u) : ((W.setCell ⟨b, 0, none⟩ x).setCell ⟨b, 1, none⟩ y).cell? ⟨b, 0, none⟩ = some x := by
  have h1 : (⟨b, 1, none⟩ : Addr) ≠ ⟨b, 0, none⟩ := by simp
  have h2 := World.cell?_setCell_same' W ⟨b, 0, none⟩ x (by rw [h0]; rfl)
  rw [← h2]
  exact World.cell?_setCell_other (h := h1) ..
theorem set2_1 {W : World} {b : Nat} {v : Value} (x y : Value) (h1 : W.cell? ⟨b, 1, none⟩ = some v) : ((W.setCell ⟨b, 0, none⟩ x).setCell ⟨b, 1, none⟩ y).cell? ⟨b, 1, none⟩ = some y := by
  have h0 : (⟨b, 0, none⟩ : Addr) ≠ ⟨b, 1, none⟩ := by simp
  refine World.cell?_setCell_same' _ _ _ ?_
  have h2 : (W.setCell ⟨b, 0, none⟩ x).cell? ⟨b, 1, none⟩ = W.cell? ⟨b, 1, none⟩ := World.cell?_setCell_other (h := h0) ..
  rw [h2, h1]
  rfl
/-- The new block's cells. -/
theorem new_cells (W : World) (cs : Array Value) (T : TypeId) : ∀ j u, cs.toList[j]? = some u → (W.alloc (.cells cs T)).cell? ((⟨W.heap.size, 0, none⟩ : Addr).add j) = some u := fun j u hu => by
  rw [Addr.add_lit, Nat.zero_add, Lib.cell_of_heap (heap_alloc_new W (.cells cs T))]
  simpa using hu
/-- Behind an append of one pair. -/
theorem own_put {e : TypeId} {w w' : World} {B : Nat} {v : Value} {l : List P2} {x : P2} (h : w'.ownsRow B e 2 v (l.length + 1) (rwL l ++ rwC x)) : OwnP e w' B v (l ++ [x]) := by
  unfold OwnP
  rw [rwL_app, List.length_append]
  exact h
theorem own_putT {w' : World} {B : Nat} {v : Value} {l : List P3} {x : P3} (h : w'.ownsRow B 53 3 v (l.length + 1) (tL l ++ tC x)) : OwnT w' B v (l ++ [x]) := by
  unfold OwnT
  rw [tL_app, List.length_append]
  exact h
end Go.Proofs.Ytepmleieekpdiaa
