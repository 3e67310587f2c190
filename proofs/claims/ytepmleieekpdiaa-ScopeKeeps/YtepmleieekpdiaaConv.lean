/-
  []rune(s) in memory: a slice that reads as the text's runes.
-/
import Derived.Test.YtepmleieekpdiaaLeaf
import Derived.Laws.RangeAny
import Derived.Laws.Cover4
import Derived.Lib.Hide
set_option linter.unusedSimpArgs false
set_option linter.unusedVariables false
namespace Go.Proofs.Ytepmleieekpdiaa
open Go.RowKit

/-- A text's runes from a place on. -/
def rgo (s : ByteArray) : Nat → Nat → List Int
  | 0, _ => []
  | f + 1, i => if i < s.size then ((Utf8.decode s i).1 : Int) :: rgo s f (i + (Utf8.decode s i).2) else []
def runes (s : ByteArray) : List Int := rgo s s.size 0

theorem width_pos (s : ByteArray) (pos : Nat) (h : pos < s.size) : 1 ≤ (Utf8.decode s pos).2 := by
  by_cases ha : (s[pos]'h).toNat < 128
  · rw [decode_ascii s pos h ha]
    exact Nat.le_refl _
  · exact (decode_high s pos h (by omega)).2
theorem rgo_end (s : ByteArray) (b pos : Nat) (h : ¬ pos < s.size) : rgo s b pos = [] := by
  cases b with
  | zero => rfl
  | succ b => simp [rgo, h]
theorem Blk0 (w : World) (t : TypeId) (cs : Array Value) (i : Nat) : (w.alloc (.cells cs t)).cell? ⟨w.heap.size, i, none⟩ = cs[i]? := World.cell?_alloc_mark w cs t (0, 0) i
theorem runesFrom_eq (s : ByteArray) : ∀ (b i : Nat) (acc : Array Value), Conv.runesFrom s b i acc = acc ++ ((rgo s b i).map (Value.int .i32)).toArray
  | 0, i, acc => by simp [Conv.runesFrom, rgo]
  | b + 1, i, acc => by
    unfold Conv.runesFrom rgo
    by_cases h : i < s.size
    · simp only [h, if_true]
      rw [runesFrom_eq s b]
      simp
    · simp [h]
theorem runesFrom_runes (s : ByteArray) : Conv.runesFrom s s.size 0 #[] = ((runes s).map (Value.int .i32)).toArray := by
  rw [runesFrom_eq]
  simp [runes]
theorem rgo_len (s : ByteArray) : ∀ (b i : Nat), (rgo s b i).length ≤ b
  | 0, i => by simp [rgo]
  | b + 1, i => by
    unfold rgo
    split
    · have := rgo_len s b (i + (Utf8.decode s i).2)
      simp only [List.length_cons]
      omega
    · simp
theorem runes_len (s : ByteArray) : (runes s).length ≤ s.size := rgo_len s s.size 0

/-- What '[]rune(s)' leaves. -/
def ConvPost (w : World) (s : ByteArray) (c : Nat) (w1 : World) : Prop :=
  (convert 9 85 (.string s)).run Try.prog w = .ok (.slice (some ⟨w.heap.size, 0, none⟩) (runes s).length c) w1 ∧ Below w.heap.size w w1 ∧ w1.heap.size = w.heap.size + 1 ∧
    ∀ j, j < (runes s).length → w1.cell? ⟨w.heap.size, j, none⟩ = some (.int .i32 ((runes s).getD j 0))
theorem conv_runes (w : World) (s : ByteArray) (hs : s.size ≤ 1000) : ∃ c w1, ConvPost w s c w1 := by
  have hl := runes_len s
  have hrun := run_runes_of_string (P := Try.prog) w 9 85 21 s Try.underlying9 Try.underlying85 Try.underlying21 (by rw [runesFrom_runes]; simp; omega)
  rw [runesFrom_runes] at hrun
  have hz : ((runes s).map (Value.int .i32)).toArray.size = (runes s).length := by simp
  rw [hz] at hrun
  refine ⟨_, _, hrun, ((Below.refl _ w).drew).alloc (Nat.le_refl _) _, by simp, fun j hj => ?_⟩
  have hb := Blk0 w.drew 21 (((runes s).map (Value.int .i32)).toArray ++ Array.replicate (grownCap w (runes s).length 0 21 - (runes s).length) (.int .i32 0)) j
  refine hb.trans ?_
  rw [Array.getElem?_append_left (by simpa using hj)]
  simp [List.getElem?_eq_getElem hj]
end Go.Proofs.Ytepmleieekpdiaa
