/-
  What ScopeKeeps' walk needs of memory.
-/
import Derived.Test.YtepmleieekpdiaaScFnLaw
set_option linter.unusedSimpArgs false
set_option linter.unusedVariables false
namespace Go.Proofs.Ytepmleieekpdiaa
open Go.RowKit

/-- An append of a slice that is nil or not to a row of the call's own, as one step of a region that draws its order. -/
theorem step_append_any {P : Program} {ops : Array Oper} {o : Oper} {a : Act} {w : World} {K : Act → World → Prop} {Q : Exit → Act → World → Prop} {E : Prop}
    (hg : o.guard = none) (s x : Operand) (t : TypeId) (hop : o.op = Op.call { callee := Callee.builtin Builtin.append, args := #[s, x], argTypes := #[t, t] })
    (base : Nat) (e : TypeId) (i : TypeInfo) (z : Value) (size bytes : Nat) (h1 : P.underlying t = some (.slice e)) (h2 : P.info? e = some i) (h3 : i.zero = some z) (h4 : i.size = size) (h5 : i.bytes = bytes) (h6 : z.cells.size = size) (h7 : 0 < size)
    (v : Value) (n : Nat) (xs : List Value) (hs : a.eval s = v) (hown : w.ownsRow base e size v n xs)
    (A : Option Addr) (m c : Nat) (news : List Value) (hx : a.eval x = .slice A m c) (hnil : A = none → m = 0 ∧ c = 0) (hn : news.length = m * size) (hc : ∀ ad, A = some ad → ∀ j u, news[j]? = some u → w.cell? (ad.add j) = some u) (h1c : ∀ u ∈ news, u.oneCell' = true)
    (b1 : n + m ≤ maxLen) (b2 : (n + m) * bytes ≤ 140737488355328) (hb : base ≤ w.heap.size)
    (hK : ∀ v' w', w'.ownsRow base e size v' (n + m) (xs ++ news) → w.grownBy w' v.ownBlock → K (a.put o.dst v') w') :
    if Region.wanted o (yielded ops a.tmps) = true then Oper.wp P o a w K Q else E := by
  cases A with
  | some ad => exact step_append_own hg s x t hop base e i z size bytes h1 h2 h3 h4 h5 h6 h7 v n xs hs hown ad m c news hx hn (hc ad rfl) h1c b1 b2 hb hK
  | none =>
    obtain ⟨rfl, rfl⟩ := hnil rfl
    have hnw : news = [] := List.eq_nil_of_length_eq_zero (by rw [hn, Nat.zero_mul])
    subst hnw
    have hw : Region.wanted o (yielded ops a.tmps) = true := by simp [Region.wanted, hg]
    rw [if_pos hw]
    have hrun := run_append_owned_none (P := P) (w := w) base t o.type e i size h1 h2 v n xs hown
    unfold Oper.wp
    simp [execOp, hop, resolve, invoke, builtin, hs, hx, hrun, Result.andThen]
    exact hK v w (by rw [List.append_nil]; exact hown) ⟨rfl, rfl, rfl, Nat.le_refl _, fun _ _ _ => rfl⟩
theorem cell_keep {w w' : World} {b j : Nat} {v : Value} (h : w.cell? ⟨b, j, none⟩ = some v) (hl : b < w.heap.size) (hb : Below w.heap.size w w') : w'.cell? ⟨b, j, none⟩ = some v := (hb.cell (p := ⟨b, j, none⟩) hl).trans h
/-- A copy of a tag, made in a world that grew out of w2: its box, its row. -/
structure K4 (w2 : World) (nm : ByteArray) (l : List P2) (box : Nat) (A3 : Option Addr) (n c3 : Nat) (W : World) : Prop where
  bel : Below w2.heap.size w2 W
  lt : box < W.heap.size
  lo : w2.heap.size ≤ box
  c0 : W.cell? ⟨box, 0, none⟩ = some (.string nm)
  c1 : W.cell? ⟨box, 1, none⟩ = some (.slice A3 n c3)
  rd : RdR W A3 l
/-- Behind the append: what is known of the new slice, and of the world. -/
structure K3 (w2 : World) (l : List P2) (A3 : Option Addr) (n c3 : Nat) (w3 : World) : Prop where
  bel : Below w2.heap.size w2 w3
  rd : RdR w3 A3 l
  own : OwnP 57 w3 w2.heap.size (.slice A3 n c3) l
theorem k3_of {w2 W w3 : World} {l : List P2} {n h : Nat} {v' : Value} (hn : n = l.length) (hW : Below w2.heap.size w2 W) (hh : w2.heap.size ≤ h) (z : w3.ownsRow w2.heap.size 57 2 v' (0 + n) ([] ++ rwL l)) (g : W.grownBy w3 (Value.slice (some ⟨h, 0, none⟩) 0 0).ownBlock) : ∃ A3 c3, v' = .slice A3 n c3 ∧ K3 w2 l A3 n c3 w3 := by
  rw [Nat.zero_add, List.nil_append, hn] at z
  obtain ⟨A', c', h1, h2, _⟩ := own_rdR (l := l) z
  refine ⟨A', c', by rw [h1, hn], ?_, h2, by rw [hn, ← h1]; exact z⟩
  refine hW.grown g hW.size (fun k hk => ?_)
  have : some h = some k := hk
  injection this with this
  omega
theorem k4_alloc {w2 w3 : World} {nm : ByteArray} {l : List P2} {A3 : Option Addr} {n c3 : Nat} (h : K3 w2 l A3 n c3 w3) : K4 w2 nm l w3.heap.size A3 n c3 (w3.alloc (.cells #[.string nm, .slice A3 n c3] 25)) :=
  ⟨h.bel.alloc h.bel.size _, by simp, h.bel.size, cells_of (nblk w3 25 _) 0 rfl, cells_of (nblk w3 25 _) 1 rfl, h.rd.keep ((Below.refl _ w3).alloc (Nat.le_refl _) _)⟩
theorem own_set {e : TypeId} {w : World} {B g : Nat} {T : TypeId} {v : Value} {l : List P2} {cs : Array Value} {fr : Nat × Nat} (h : OwnP e w B v l) (hb : w.heap[g]? = some (.cells cs T fr)) (hT : T ≠ e) (j : Nat) (x : Value) : OwnP e (w.setCell ⟨g, j, none⟩ x) B v l :=
  World.ownsRow.kept (row := some g) h ⟨rfl, rfl, rfl, by simp [World.setCell], fun k _ hk => Below.heap_setCell _ _ _ _ (fun e => hk (by simp [e]))⟩ (Or.inr (own_ne h hb hT))
theorem k4_set {w2 w3 : World} {nm : ByteArray} {l : List P2} {A3 : Option Addr} {n c3 box : Nat} {cs : Array Value} (h : K3 w2 l A3 n c3 w3) (hb : w3.heap[box]? = some (.cells cs 25 (0, 0))) (hcs : cs.size = 2) (hlo : w2.heap.size ≤ box) : K4 w2 nm l box A3 n c3 ((w3.setCell ⟨box, 0, none⟩ (.string nm)).setCell ⟨box, 1, none⟩ (.slice A3 n c3)) := by
  have hlt : box < w3.heap.size := (Array.getElem?_eq_some_iff.1 hb).1
  have hb2 : ((w3.setCell ⟨box, 0, none⟩ (.string nm)).setCell ⟨box, 1, none⟩ (.slice A3 n c3)).heap[box]? = some (.cells ((cs.setIfInBounds 0 (.string nm)).setIfInBounds 1 (.slice A3 n c3)) 25 (0, 0)) := by
    simp [World.setCell, Array.getElem?_modify, hb]
  have ho : OwnP 57 ((w3.setCell ⟨box, 0, none⟩ (.string nm)).setCell ⟨box, 1, none⟩ (.slice A3 n c3)) w2.heap.size (.slice A3 n c3) l :=
    own_set (T := 25) (cs := cs.setIfInBounds 0 (.string nm)) (fr := (0, 0)) (own_set h.own hb (by decide) 0 _) (by simp [World.setCell, Array.getElem?_modify, hb]) (by decide) 1 _
  refine ⟨(h.bel.setCell (p := ⟨box, 0, none⟩) hlo _).setCell (p := ⟨box, 1, none⟩) hlo _, ?_, hlo, ?_, ?_, ?_⟩
  · simpa [World.setCell] using hlt
  · rw [Lib.cell_of_heap hb2]
    simp [hcs]
  · rw [Lib.cell_of_heap hb2]
    simp [hcs]
  · obtain ⟨A', c', h1, h2, _⟩ := own_rdR ho
    injection h1 with e1 e2 e3
    rw [← e1] at h2
    exact h2
/-- A row that may be written. -/
def Row (e z : Nat) (A : Option Addr) (n S : Nat) (W : World) : Prop := 0 < n → ∃ g cur, A = some ⟨g, 0, none⟩ ∧ S ≤ g ∧ W.heap[g]? = some (.cells cur e (0, 0)) ∧ n * z ≤ cur.size
theorem row_of {e z : Nat} {A : Option Addr} {n c S : Nat} {W : World} {xs : List Value} (h : W.ownsRow S e z (.slice A n c) n xs) : Row e z A n S W := fun hn => by
  rcases h.2 with ⟨_, h0⟩ | ⟨g, cap, cur, h1, h2, h3, h4, _, h5, _⟩
  · omega
  · injection h1 with h1
    refine ⟨g, cur, h1, h2, h3, ?_⟩
    rw [h5]
    exact Nat.mul_le_mul_right z h4
theorem Row.keep {e z : Nat} {A : Option Addr} {n S : Nat} {W W' : World} (h : Row e z A n S W) (hb : Below W.heap.size W W') : Row e z A n S W' := fun hn => by
  obtain ⟨g, cur, h1, h2, h3, h4⟩ := h hn
  exact ⟨g, cur, h1, h2, (hb.block g (Array.getElem?_eq_some_iff.1 h3).1).trans h3, h4⟩
theorem Row.set {e z : Nat} {A : Option Addr} {n S : Nat} {W : World} (h : Row e z A n S W) (b j : Nat) (x : Value) : Row e z A n S (W.setCell ⟨b, j, none⟩ x) := fun hn => by
  obtain ⟨g, cur, h1, h2, h3, h4⟩ := h hn
  by_cases hbg : b = g
  · subst hbg
    exact ⟨b, cur.setIfInBounds j x, h1, h2, by simp [World.setCell, Array.getElem?_modify, h3], by simpa using h4⟩
  · exact ⟨g, cur, h1, h2, (Below.heap_setCell _ _ _ _ (fun e => hbg e.symm)).trans h3, h4⟩
/-- What Enter leaves, in one shape. -/
theorem en_shape {W w' : World} {o : Except Int (List P2 × P2 × List P3)} {e : Ending} (h : EnPost W o e w') (hl : ∀ Ws n f, o = .ok (Ws, n, f) → Ws.length ≤ 2000 ∧ f.length ≤ 1000) :
    ∃ (A' : Option Addr) (NW c' : Nat) (kd : Int) (na nb : ByteArray) (Aa : Option Addr) (NF ca : Nat) (er : Int), e = .returned (.tuple #[.slice A' NW c', .agg #[.int .i64 kd, .string na, .string nb, .slice Aa NF ca, .string ⟨#[]⟩], .int .i64 er]) ∧
      Row 50 2 A' NW W.heap.size w' ∧ Row 53 3 Aa NF W.heap.size w' ∧ NW ≤ 2000 ∧ NF ≤ 1000 ∧ Below W.heap.size W w' := by
  obtain ⟨h1, h2, h3⟩ := h
  cases o with
  | error c => exact ⟨none, 0, 0, 0, em, em, none, 0, 0, c, h1 c rfl, (fun hn => by omega), (fun hn => by omega), by omega, by omega, h3⟩
  | ok x =>
    obtain ⟨Ws, n, f⟩ := x
    obtain ⟨v, va, he, hv, hva⟩ := h2 Ws n f rfl
    obtain ⟨A', c', rfl⟩ := own_slice hv
    obtain ⟨Aa, ca, rfl⟩ := own_slice hva
    obtain ⟨l1, l2⟩ := hl Ws n f rfl
    exact ⟨A', Ws.length, c', 1, n.1, n.2, Aa, f.length, ca, 0, he, row_of hv, row_of hva, l1, l2, h3⟩
/-- The event's block. -/
def EvB (be : Nat) (kd : Int) (na nb : ByteArray) (va : Value) (W : World) : Prop := W.heap[be]? = some (.cells #[.int .i64 kd, .string na, .string nb, va, .string ⟨#[]⟩] 32 (0, 0))
theorem EvB.set {be : Nat} {kd : Int} {na nb : ByteArray} {va : Value} {W : World} (h : EvB be kd na nb va W) {g : Nat} {cur : Array Value} {T : TypeId} (hg : W.heap[g]? = some (.cells cur T (0, 0))) (hT : T ≠ 32) (j : Nat) (x : Value) : EvB be kd na nb va (W.setCell ⟨g, j, none⟩ x) := by
  have hne : be ≠ g := fun e => by
    subst e
    unfold EvB at h
    rw [hg] at h
    injection h with h
    injection h with _ h2 _
    exact hT h2
  exact (Below.heap_setCell _ _ _ _ hne).trans h
end Go.Proofs.Ytepmleieekpdiaa
