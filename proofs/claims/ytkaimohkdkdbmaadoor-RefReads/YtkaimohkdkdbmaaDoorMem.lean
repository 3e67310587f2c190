/-
  Slices of numbers in memory: what a slice reads as; what a slice of the call's own reads as; bytes as a string.
-/
import Derived.Test.YtkaimohkdkdbmaaDoorProg
import Derived.WalkKit
import Derived.WalkSpells
import Derived.WalkLawsBesides
import Derived.Laws.BytesArg
import Derived.Laws.OwnMore
import Derived.Lib.Hide
set_option linter.unusedSimpArgs false
set_option linter.unusedVariables false
namespace Go.Proofs.YtkaimohkdkdbmaaDoor
open Go.RowKit

/-- The slice at A reads as the numbers l, and lies below block B. -/
def Rd (k : IntKind) (w : World) (B : Nat) (A : Option Addr) (l : List Int) : Prop :=
  l = [] ∨ ∃ b off, A = some ⟨b, off, none⟩ ∧ b < B ∧ ∀ j, j < l.length → w.cell? ⟨b, off + j, none⟩ = some (.int k (l.getD j 0))

theorem Rd.below {k : IntKind} {w w' : World} {B : Nat} {A : Option Addr} {l : List Int} (h : Rd k w B A l) (hb : Below B w w') : Rd k w' B A l := by
  rcases h with h | ⟨b, off, rfl, hlt, hc⟩
  · exact .inl h
  · exact .inr ⟨b, off, rfl, hlt, fun j hj => (hb.cell (p := ⟨b, off + j, none⟩) hlt).trans (hc j hj)⟩
theorem Rd.more {k : IntKind} {w : World} {B B' : Nat} {A : Option Addr} {l : List Int} (h : Rd k w B A l) (hB : B ≤ B') : Rd k w B' A l := by
  rcases h with h | ⟨b, off, rfl, hlt, hc⟩
  · exact .inl h
  · exact .inr ⟨b, off, rfl, by omega, hc⟩
theorem Rd.at_ {k : IntKind} {w : World} {B : Nat} {A : Option Addr} {l : List Int} (h : Rd k w B A l) {j : Nat} (hj : j < l.length) :
    ∃ b off, A = some ⟨b, off, none⟩ ∧ b < B ∧ w.cell? ⟨b, off + j, none⟩ = some (.int k (l.getD j 0)) := by
  rcases h with h | ⟨b, off, rfl, hlt, hc⟩
  · subst h; simp at hj
  · exact ⟨b, off, rfl, hlt, hc j hj⟩
/-- A slice of the call's own is a slice value, and reads as what it owns. -/
theorem own_rd {k : IntKind} {w : World} {B : Nat} {e : TypeId} {v : Value} {l : List Int} (h : w.ownsRow B e 1 v l.length (l.map (Value.int k))) :
    ∃ A c, v = .slice A l.length c ∧ Rd k w w.heap.size A l := by
  rcases h.2 with ⟨rfl, h0⟩ | ⟨g, cap, cur, rfl, _, hh, _, _, _, _⟩
  · have : l = [] := List.eq_nil_of_length_eq_zero h0
    subst this
    exact ⟨none, 0, rfl, .inl rfl⟩
  · refine ⟨_, cap, rfl, .inr ⟨g, 0, rfl, ?_, fun j hj => ?_⟩⟩
    · exact (h.lt g rfl).2
    · have := h.cellAt (g := g) j (by omega)
      rw [Nat.zero_add, this]
      simp [List.getElem?_eq_getElem hj]
/-- 'string(b)'. -/
theorem conv_rd {w : World} {B : Nat} {A : Option Addr} {l : List Int} {c : Nat} (h : Rd .u8 w B A l) :
    (convert 33 9 (.slice A l.length c)).run Tryd.prog w = .ok (.string (strOfNums l)) w := by
  rcases h with rfl | ⟨b, off, rfl, hlt, hc⟩
  · cases A with
    | none => exact run_convert_bytes_nil w 33 5 Tryd.underlying33 Tryd.underlying5 _ _ 9 Tryd.underlying9
    | some a =>
      rw [run_convert_bytes_string w 33 9 5 _ _ c Tryd.underlying33 Tryd.underlying5 Tryd.underlying9, run_bytesToString w a _ c [] (by simp [loadCells, loadCellsFrom])]
      rfl
  · exact run_convert_bytes_arg w 33 5 Tryd.underlying33 Tryd.underlying5 b off l.length c l rfl hc 9 Tryd.underlying9
end Go.Proofs.YtkaimohkdkdbmaaDoor
