/-
  What TagKeeps' walk needs of memory: an append of what was handed in; rows that stay while another one is written.
-/
import Derived.Test.YtaoklhalkfcpfaaGreatDoorLTgPrLaw2
import Derived.Laws.OwnMore
set_option linter.unusedSimpArgs false
set_option linter.unusedVariables false
namespace Go.Proofs.YtaoklhalkfcpfaaGreatDoor
open Go.RowKit

/-- An append of a slice that is nil or not to a row of the call's own, as one step of a region that draws its order. -/
theorem step_append_any {P : Program} {ops : Array Oper} {o : Oper} {a : Act} {w : World} {K : Act → World → Prop} {Q : Exit → Act → World → Prop} {E : Prop}
    (hg : o.guard = none) (s x : Operand) (t : TypeId) (hop : o.op = Op.call { callee := Callee.builtin Builtin.append, args := #[s, x], argTypes := #[t, t] })
    (base : Nat) (e : TypeId) (i : TypeInfo) (z : Value) (size bytes : Nat) (h1 : P.underlying t = some (.slice e)) (h2 : P.info? e = some i) (h3 : i.zero = some z) (h4 : i.size = size) (h5 : i.bytes = bytes) (h6 : z.cells.size = size) (h7 : 0 < size)
    (v : Value) (n : Nat) (xs : List Value) (hs : a.eval s = v) (hown : w.ownsRow base e size v n xs)
    (A : Option Addr) (m c : Nat) (news : List Value) (hx : a.eval x = .slice A m c) (hnil : A = none → m = 0 ∧ c = 0) (hn : news.length = m * size) (hc : ∀ ad, A = some ad → ∀ j u, news[j]? = some u → w.cell? (ad.add j) = some u) (h1c : ∀ u ∈ news, u.oneCell' = true)
    (b1 : n + m ≤ maxLen) (b2 : (n + m) * bytes ≤ 140737488355328) (hb : base ≤ w.heap.size)
    (hK : ∀ v' w', w'.ownsRow base e size v' (n + m) (xs ++ news) → w.grownBy w' v.ownBlock → K (a.put o.dst v') w') :
    if Region.wanted o (yielded ops a.tmps) = true then Oper.wp P o a w K Q else E := by
  cases A with
  | some ad => exact step_append_own hg s x t hop base e i z size bytes h1 h2 h3 h4 h5 h6 h7 v n xs hs hown ad m c news hx hn (hc ad rfl) h1c b1 b2 hb hK
  | none =>
    obtain ⟨rfl, rfl⟩ := hnil rfl
    have hnw : news = [] := List.eq_nil_of_length_eq_zero (by rw [hn, Nat.zero_mul])
    subst hnw
    have hw : Region.wanted o (yielded ops a.tmps) = true := by simp [Region.wanted, hg]
    rw [if_pos hw]
    have hrun := run_append_owned_none (P := P) (w := w) base t o.type e i size h1 h2 v n xs hown
    unfold Oper.wp
    simp [execOp, hop, resolve, invoke, builtin, hs, hx, hrun, Result.andThen]
    exact hK v w (by rw [List.append_nil]; exact hown) ⟨rfl, rfl, rfl, Nat.le_refl _, fun _ _ _ => rfl⟩
theorem rwL_len (l : List (ByteArray × ByteArray)) : (rwL l).length = l.length * 2 := by
  induction l with
  | nil => rfl
  | cons x l ih =>
    have e : rwL (x :: l) = rwC x ++ rwL l := rfl
    have e2 : (rwC x).length = 2 := rfl
    rw [e, List.length_append, ih, List.length_cons, e2]
    omega
theorem RdR.cells {w : World} {ad : Addr} {l : List (ByteArray × ByteArray)} (h : RdR w (some ad) l) : ∀ j u, (rwL l)[j]? = some u → w.cell? (ad.add j) = some u := by
  intro j u hu
  have hj := (List.getElem?_eq_some_iff.1 hu).1
  rw [rwL_len] at hj
  have hk : j / 2 < l.length := by omega
  obtain ⟨b, off, e, _, c0, c1⟩ := h (j / 2) _ (List.getElem?_eq_getElem hk)
  injection e with e
  subst e
  rw [Addr.add_lit]
  rcases Nat.mod_two_eq_zero_or_one j with hm | hm
  · have g := rwL_get l (j / 2) 0 _ (List.getElem?_eq_getElem hk) (by omega)
    rw [show j / 2 * 2 + 0 = j by omega, hu] at g
    rw [g, show off + j = off + j / 2 * 2 by omega, c0]
    rfl
  · have g := rwL_get l (j / 2) 1 _ (List.getElem?_eq_getElem hk) (by omega)
    rw [show j / 2 * 2 + 1 = j by omega, hu] at g
    rw [g, show off + j = off + j / 2 * 2 + 1 by omega, c1]
    rfl
theorem rwL_one (l : List (ByteArray × ByteArray)) : ∀ u ∈ rwL l, u.oneCell' = true := by
  intro u hu
  unfold rwL at hu
  obtain ⟨x, _, hx⟩ := List.mem_flatMap.1 hu
  exact rw_one x u hx
/-- Rows that stay while one is written. -/
theorem RdR.keepG {w w' : World} {A : Option Addr} {l : List (ByteArray × ByteArray)} {row : Option Nat} (h : RdR w A l) (hg : w.grownBy w' row) (hne : ∀ b off, A = some ⟨b, off, none⟩ → some b ≠ row) : RdR w' A l := fun k x hk => by
  obtain ⟨b, o, e, hlt, c0, c1⟩ := h k x hk
  have hn := hne b o e
  exact ⟨b, o, e, Nat.lt_of_lt_of_le hlt hg.size, hg.cell c0 hn, hg.cell c1 hn⟩
/-- A copy of a tag, made in a world that grew out of w2: its box, its row. -/
structure K4 (w2 : World) (nm : ByteArray) (l : List (ByteArray × ByteArray)) (box : Nat) (A3 : Option Addr) (n c3 : Nat) (W : World) : Prop where
  bel : Below w2.heap.size w2 W
  lt : box < W.heap.size
  lo : w2.heap.size ≤ box
  c0 : W.cell? ⟨box, 0, none⟩ = some (.string nm)
  c1 : W.cell? ⟨box, 1, none⟩ = some (.slice A3 n c3)
  rd : RdR W A3 l
/-- Behind the append: what is known of the new slice, and of the world. -/
structure K3 (w2 : World) (l : List (ByteArray × ByteArray)) (A3 : Option Addr) (n c3 : Nat) (w3 : World) : Prop where
  bel : Below w2.heap.size w2 w3
  rd : RdR w3 A3 l
  own : OwnR w3 w2.heap.size (.slice A3 n c3) l
theorem k3_of {w2 W w3 : World} {l : List (ByteArray × ByteArray)} {n h : Nat} {v' : Value} (hn : n = l.length) (hW : Below w2.heap.size w2 W) (hh : w2.heap.size ≤ h) (z : w3.ownsRow w2.heap.size 37 2 v' (0 + n) ([] ++ rwL l)) (g : W.grownBy w3 (Value.slice (some ⟨h, 0, none⟩) 0 0).ownBlock) : ∃ A3 c3, v' = .slice A3 n c3 ∧ K3 w2 l A3 n c3 w3 := by
  rw [Nat.zero_add, List.nil_append, hn] at z
  obtain ⟨A', c', h1, h2⟩ := own_rdR (l := l) z
  refine ⟨A', c', by rw [h1, hn], ?_, h2, by rw [hn, ← h1]; exact z⟩
  refine hW.grown g hW.size (fun k hk => ?_)
  have : some h = some k := hk
  injection this with this
  omega
theorem own_emp {W : World} {B h : Nat} (hb : W.heap[h]? = some (.cells #[] 37 (0, 0))) (hB : B ≤ h) : W.ownsRow B 37 2 (.slice (some ⟨h, 0, none⟩) 0 0) 0 [] :=
  ⟨by simp, .inr ⟨h, 0, #[], rfl, hB, hb, Nat.le_refl _, Nat.zero_le _, rfl, rfl⟩⟩
theorem k4_alloc {w2 w3 : World} {nm : ByteArray} {l : List (ByteArray × ByteArray)} {A3 : Option Addr} {n c3 : Nat} (h : K3 w2 l A3 n c3 w3) : K4 w2 nm l w3.heap.size A3 n c3 (w3.alloc (.cells #[.string nm, .slice A3 n c3] 25)) :=
  ⟨h.bel.alloc h.bel.size _, by simp, h.bel.size, Blk0 w3 25 _ 0, Blk0 w3 25 _ 1, h.rd.keep ((Below.refl _ w3).alloc (Nat.le_refl _) _)⟩
theorem k4_set {w2 w3 : World} {nm : ByteArray} {l : List (ByteArray × ByteArray)} {A3 : Option Addr} {n c3 box : Nat} {cs : Array Value} (h : K3 w2 l A3 n c3 w3) (hb : w3.heap[box]? = some (.cells cs 25 (0, 0))) (hcs : cs.size = 2) (hlo : w2.heap.size ≤ box) : K4 w2 nm l box A3 n c3 ((w3.setCell ⟨box, 0, none⟩ (.string nm)).setCell ⟨box, 1, none⟩ (.slice A3 n c3)) := by
  have hlt : box < w3.heap.size := (Array.getElem?_eq_some_iff.1 hb).1
  have hb2 : ((w3.setCell ⟨box, 0, none⟩ (.string nm)).setCell ⟨box, 1, none⟩ (.slice A3 n c3)).heap[box]? = some (.cells ((cs.setIfInBounds 0 (.string nm)).setIfInBounds 1 (.slice A3 n c3)) 25 (0, 0)) := by
    simp [World.setCell, Array.getElem?_modify, hb]
  have ho : OwnR ((w3.setCell ⟨box, 0, none⟩ (.string nm)).setCell ⟨box, 1, none⟩ (.slice A3 n c3)) w2.heap.size (.slice A3 n c3) l :=
    own_set (T := 25) (cs := cs.setIfInBounds 0 (.string nm)) (fr := (0, 0)) (own_set h.own hb (by decide) 0 _) (by simp [World.setCell, Array.getElem?_modify, hb]) (by decide) 1 _
  refine ⟨(h.bel.setCell (p := ⟨box, 0, none⟩) hlo _).setCell (p := ⟨box, 1, none⟩) hlo _, ?_, hlo, ?_, ?_, ?_⟩
  · simpa [World.setCell] using hlt
  · rw [Lib.cell_of_heap hb2]
    simp [hcs]
  · rw [Lib.cell_of_heap hb2]
    simp [hcs]
  · obtain ⟨A', c', h1, h2⟩ := own_rdR ho
    injection h1 with e1 e2 e3
    rw [← e1] at h2
    exact h2
/-- While the first answer's row is written. -/
def KLRel (W7 : World) (row : Option Nat) (abox m : Nat) (va : Value) (i : Value) (wr : World) : Prop :=
  ∃ k : Nat, i = .int .i64 k ∧ k ≤ m ∧ Hid (W7.grownBy wr row) ∧ Hid (∀ g, row = some g → ∃ cur, wr.heap[g]? = some (.cells cur 37 (0, 0)) ∧ m * 2 ≤ cur.size) ∧ wr.cell? ⟨abox, 1, none⟩ = some va
theorem kl_start (W7 : World) (row : Option Nat) : W7.grownBy W7 row := ⟨rfl, rfl, rfl, Nat.le_refl _, fun _ _ _ => rfl⟩
theorem own_blk {w : World} {B m : Nat} {v : Value} {l : List (ByteArray × ByteArray)} (h : OwnR w B v l) (hm : m = l.length) : ∀ g, v.ownBlock = some g → ∃ cur, w.heap[g]? = some (.cells cur 37 (0, 0)) ∧ m * 2 ≤ cur.size := by
  intro g hg
  have h' : w.ownsRow B 37 2 v l.length (rwL l) := h
  rcases h'.2 with ⟨rfl, h0⟩ | ⟨g', cap, cur, rfl, hB, hb, hc, _, hs, _⟩
  · simp [Value.ownBlock] at hg
  · simp [Value.ownBlock] at hg
    subst hg
    exact ⟨cur, hb, by rw [hs, hm]; omega⟩
theorem own_some {w : World} {B m c : Nat} {A : Option Addr} {l : List (ByteArray × ByteArray)} (h : OwnR w B (.slice A m c) l) (hm : 0 < l.length) : ∃ g, A = some ⟨g, 0, none⟩ := by
  have h' : w.ownsRow B 37 2 (.slice A m c) l.length (rwL l) := h
  rcases h'.2 with ⟨_, h0⟩ | ⟨g', cap, cur, e, _⟩
  · omega
  · injection e with e1 e2 e3
    exact ⟨g', e1⟩
theorem row_keep {w w' : World} {m : Nat} {row : Option Nat} (h : ∀ g, row = some g → ∃ cur, w.heap[g]? = some (.cells cur 37 (0, 0)) ∧ m * 2 ≤ cur.size) (hb : Below w.heap.size w w') : ∀ g, row = some g → ∃ cur, w'.heap[g]? = some (.cells cur 37 (0, 0)) ∧ m * 2 ≤ cur.size := by
  intro g hg
  obtain ⟨cur, h1, h2⟩ := h g hg
  exact ⟨cur, (hb.block g (Array.getElem?_eq_some_iff.1 h1).1).trans h1, h2⟩
theorem kl_cell {wr : World} {g j m : Nat} {cur : Array Value} (h : wr.heap[g]? = some (.cells cur 37 (0, 0))) (hj : j < cur.size) : ∃ u, wr.cell? ⟨g, j, none⟩ = some u := ⟨cur[j], by rw [Lib.cell_of_heap h]; exact Array.getElem?_eq_getElem hj⟩
theorem kl_set {W7 wr : World} {g j m : Nat} {cur : Array Value} (hb : wr.heap[g]? = some (.cells cur 37 (0, 0))) (hs : m * 2 ≤ cur.size) (hg : W7.grownBy wr (some g)) (x : Value) :
    W7.grownBy (wr.setCell ⟨g, j, none⟩ x) (some g) ∧ ∀ g', some g = some g' → ∃ cur', (wr.setCell ⟨g, j, none⟩ x).heap[g']? = some (.cells cur' 37 (0, 0)) ∧ m * 2 ≤ cur'.size := by
  refine ⟨gn_set hg j x, fun g' e => ?_⟩
  injection e with e
  subst e
  exact ⟨cur.setIfInBounds j x, by simp [World.setCell, Array.getElem?_modify, hb], by simpa using hs⟩
theorem cell_far {W w' : World} {b j : Nat} {v : Value} {row : Option Nat} (h : W.cell? ⟨b, j, none⟩ = some v) (hg : W.grownBy w' row) (hne : some b ≠ row) : w'.cell? ⟨b, j, none⟩ = some v := hg.cell h hne
end Go.Proofs.YtaoklhalkfcpfaaGreatDoor
