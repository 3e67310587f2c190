/-
  The walk of utf.add: a rune's bytes behind a slice of the call's own.
-/
import Derived.Test.YtkaimohkdkdbmaaDoorLeaf
import Derived.Test.YtkaimohkdkdbmaaDoorEnc
import Derived.Lib.Hide
set_option linter.unusedSimpArgs false
set_option linter.unusedVariables false
namespace Go.Proofs.YtkaimohkdkdbmaaDoor
open Go.RowKit

theorem Tryd.info5 : (Tryd.prog.info? 5).map (fun i => (i.zero, i.size, i.bytes)) = some (some (.int .u8 0), 1, 1) := by kernel_rfl
/-- A slice of bytes of the call's own: from block B on. -/
def OwnB (w : World) (B : Nat) (v : Value) (l : List Int) : Prop := w.ownsRow B 5 1 v l.length (l.map (Value.int .u8))
def AddPost (w : World) (B : Nat) (l : List Int) (e : Ending) (w' : World) : Prop := ∃ v, e = .returned v ∧ OwnB w' B v l ∧ Below B w w'

theorem add_post {w w' : World} {B : Nat} {v v' : Value} {xs ys : List Int} {o : Obj} (hB : B ≤ w.heap.size) (hown : OwnB w B v xs)
    (h : w'.ownsRow B 5 1 v' (xs.length + ys.length) (xs.map (Value.int .u8) ++ ys.map (Value.int .u8))) (hg : (w.alloc o).grownBy w' v.ownBlock) : OwnB w' B v' (xs ++ ys) ∧ Below B w w' := by
  refine ⟨?_, ?_⟩
  · unfold OwnB; rw [List.map_append, List.length_append]; exact h
  · exact ((Below.refl B w).alloc hB o).grown hg (by simp; omega) (fun g hg => (World.ownsRow.lt hown g hg).1)

theorem Blk0 (w : World) (t : TypeId) (cs : Array Value) (i : Nat) : (w.alloc (.cells cs t)).cell? ⟨w.heap.size, i, none⟩ = cs[i]? := cell_of_row _ _ i cs t (0, 0) (heap_alloc_new w _)
theorem lit_cells (w : World) (cs : Array Value) (e : TypeId) : ∀ (j : Nat) (u : Value), cs.toList[j]? = some u → (w.alloc (.cells cs e)).cell? ((⟨w.heap.size, 0, none⟩ : Addr).add j) = some u := by
  intro j u h
  have hc := (Blk0 w e cs) j
  unfold Addr.add
  by_cases h0 : j = 0
  · subst h0
    simpa [hc] using h
  · simpa [h0, hc] using h
end Go.Proofs.YtkaimohkdkdbmaaDoor
