/-
  The walk of the document's Put.
-/
import Derived.Test.YtkaimohkdkdbmaaDoorAdd
import Derived.Test.YtkaimohkdkdbmaaDoorMem
set_option linter.unusedSimpArgs false
set_option linter.unusedVariables false
namespace Go.Proofs.YtkaimohkdkdbmaaDoor
open Go.RowKit

def RefPutPost (w : World) (l : List Int) (e : Ending) (w' : World) : Prop := ∃ v, e = .returned v ∧ OwnB w' w.heap.size v l ∧ Below w.heap.size w w'

theorem refput_post (w : World) (ys : List Int) (cs : Array Value) (h : cs.toList = ys.map (Value.int .u8)) (hl : ys.length ≤ 1000) :
    RefPutPost w ys (.returned (.slice (some ⟨w.heap.size, 0, none⟩) ys.length ys.length)) (w.alloc (.cells cs 5)) := by
  refine ⟨_, rfl, ?_, (Below.refl _ w).alloc (Nat.le_refl _) _⟩
  unfold OwnB
  have := World.ownsRow_lit (base := w.heap.size) (e := 5) (size := 1) w cs ys.length (Nat.le_refl _) (by unfold maxLen; omega) (by rw [← Array.length_toList, h]; simp)
  rw [h] at this
  exact this

set_option maxHeartbeats 1000000 in
set_option maxRecDepth 100000 in
theorem refput1 (r : Int) (w : World) (h0 : 0 ≤ r) (h1 : r < 128) : Calls Tryd.prog 18 #[.int .i64 r] w (RefPutPost w [r]) := by
  go_enter Tryd.func18, Tryd.ntmps18
  go_wp2
  go_ret
  exact refput_post w [r] #[.int .u8 (r)] rfl (by simp)

set_option maxHeartbeats 1000000 in
set_option maxRecDepth 100000 in
theorem refput2 (r : Int) (w : World) (h0 : 128 ≤ r) (h1 : r < 2048) : Calls Tryd.prog 18 #[.int .i64 r] w (RefPutPost w [192 + r / 64, 128 + r % 64]) := by
  go_enter Tryd.func18, Tryd.ntmps18
  go_wp2
  go_ret
  exact refput_post w [192 + r / 64, 128 + r % 64] #[.int .u8 (192 + r / 64), .int .u8 (128 + r % 64)] rfl (by simp)

set_option maxHeartbeats 1000000 in
set_option maxRecDepth 100000 in
theorem refput3a (r : Int) (w : World) (h0 : 2048 ≤ r) (h1 : r < 55296) : Calls Tryd.prog 18 #[.int .i64 r] w (RefPutPost w [224 + r / 4096, 128 + r / 64 % 64, 128 + r % 64]) := by
  go_enter Tryd.func18, Tryd.ntmps18
  go_wp2
  go_ret
  exact refput_post w [224 + r / 4096, 128 + r / 64 % 64, 128 + r % 64] #[.int .u8 (224 + r / 4096), .int .u8 (128 + r / 64 % 64), .int .u8 (128 + r % 64)] rfl (by simp)

set_option maxHeartbeats 1000000 in
set_option maxRecDepth 100000 in
theorem refput3b (r : Int) (w : World) (h0 : 57343 < r) (h1 : r < 65536) : Calls Tryd.prog 18 #[.int .i64 r] w (RefPutPost w [224 + r / 4096, 128 + r / 64 % 64, 128 + r % 64]) := by
  go_enter Tryd.func18, Tryd.ntmps18
  go_wp2
  go_ret
  exact refput_post w [224 + r / 4096, 128 + r / 64 % 64, 128 + r % 64] #[.int .u8 (224 + r / 4096), .int .u8 (128 + r / 64 % 64), .int .u8 (128 + r % 64)] rfl (by simp)

set_option maxHeartbeats 1000000 in
set_option maxRecDepth 100000 in
theorem refput4 (r : Int) (w : World) (h0 : 65536 ≤ r) (h1 : r ≤ 1114111) : Calls Tryd.prog 18 #[.int .i64 r] w (RefPutPost w [240 + r / 262144, 128 + r / 4096 % 64, 128 + r / 64 % 64, 128 + r % 64]) := by
  go_enter Tryd.func18, Tryd.ntmps18
  go_wp2
  go_ret
  exact refput_post w [240 + r / 262144, 128 + r / 4096 % 64, 128 + r / 64 % 64, 128 + r % 64] #[.int .u8 (240 + r / 262144), .int .u8 (128 + r / 4096 % 64), .int .u8 (128 + r / 64 % 64), .int .u8 (128 + r % 64)] rfl (by simp)

set_option maxHeartbeats 1000000 in
set_option maxRecDepth 100000 in
theorem refputbad1 (r : Int) (w : World) (h0 : r < 0) : Calls Tryd.prog 18 #[.int .i64 r] w (RefPutPost w []) := by
  go_enter Tryd.func18, Tryd.ntmps18
  go_wp2
  go_ret
  exact ⟨_, rfl, World.ownsRow_nil _ _ _ _, Below.refl _ _⟩

set_option maxHeartbeats 1000000 in
set_option maxRecDepth 100000 in
theorem refputbad2 (r : Int) (w : World) (h0 : 1114111 < r) : Calls Tryd.prog 18 #[.int .i64 r] w (RefPutPost w []) := by
  go_enter Tryd.func18, Tryd.ntmps18
  go_wp2
  go_ret
  exact ⟨_, rfl, World.ownsRow_nil _ _ _ _, Below.refl _ _⟩

set_option maxHeartbeats 1000000 in
set_option maxRecDepth 100000 in
theorem refputbad3 (r : Int) (w : World) (h0 : 55296 ≤ r) (h1 : r ≤ 57343) : Calls Tryd.prog 18 #[.int .i64 r] w (RefPutPost w []) := by
  go_enter Tryd.func18, Tryd.ntmps18
  go_wp2
  go_ret
  exact ⟨_, rfl, World.ownsRow_nil _ _ _ _, Below.refl _ _⟩

theorem refput_any (r : Int) (w : World) : Calls Tryd.prog 18 #[.int .i64 r] w (RefPutPost w (refPut r)) := by
  by_cases hb : Bad r
  · rw [refPut, if_pos hb]
    rcases hb with h | h | ⟨h, h2⟩
    · exact refputbad1 r w h
    · exact refputbad2 r w h
    · exact refputbad3 r w h h2
  · rw [refPut, if_neg hb]
    unfold Bad at hb
    by_cases h1 : r < 128
    · rw [enc1 h1]; exact refput1 r w (by omega) h1
    by_cases h2 : r < 2048
    · rw [enc2 (by omega) h2]; exact refput2 r w (by omega) h2
    by_cases h3 : r < 55296
    · rw [enc3 (by omega) (by omega)]; exact refput3a r w (by omega) h3
    by_cases h4 : r < 65536
    · rw [enc3 (by omega) (by omega)]; exact refput3b r w (by omega) h4
    · rw [enc4 (by omega)]; exact refput4 r w (by omega) (by omega)
end Go.Proofs.YtkaimohkdkdbmaaDoor
