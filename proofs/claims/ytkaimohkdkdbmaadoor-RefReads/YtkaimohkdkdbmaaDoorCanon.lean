/-
  The decoder's loop comes to what the table of first bytes says.
-/
import Derived.Test.YtkaimohkdkdbmaaDoorMath
set_option linter.unusedSimpArgs false
set_option linter.unusedVariables false
namespace Go.Proofs.YtkaimohkdkdbmaaDoor
set_option maxHeartbeats 2000000 in
theorem rgo_canon (b : Nat → Int) (left : Nat) (hl : 1 ≤ left) (h0 : ∀ k, 0 ≤ b k) (h1 : ∀ k, b k < 256) :
    rgo b left (leadN (b 0)) 4 1 (leadR (b 0)) = canon b left := by
  have a0 := h0 0; have a1 := h1 0
  have b0 := h0 1; have b1 := h1 1
  have c0 := h0 2; have c1 := h1 2
  have d0 := h0 3; have d1 := h1 3
  unfold leadN leadR canon
  generalize e0 : b 0 = x0 at *
  by_cases q1 : x0 < 128
  · simp only [q1, if_true, rgo_step, possB_false, p64, most, least]
    simp
    omega
  by_cases q2 : x0 < 192
  · have : x0 < 194 := by omega
    simp only [q1, q2, this, if_true, if_false, rgo0]
  by_cases q3 : x0 < 224
  · simp only [q1, q2, q3, if_true, if_false, rgo_step, possB_false, p64_0, p64_1, p64_2, p64_3, least2, least3, least4, most2, most3, most4, Nat.reduceSub, Nat.reduceEqDiff, Nat.reduceAdd, false_or, e0]
    repeat' split
    all_goals (first | rfl | (exfalso; omega) | (refine tri ?_ ?_ ?_ <;> omega))
  by_cases q4 : x0 < 240
  · simp only [q1, q2, q3, q4, if_true, if_false, rgo_step, possB_false, p64_0, p64_1, p64_2, p64_3, least2, least3, least4, most2, most3, most4, Nat.reduceSub, Nat.reduceEqDiff, Nat.reduceAdd, false_or, e0]
    repeat' split
    all_goals (first | rfl | (exfalso; omega) | (refine tri ?_ ?_ ?_ <;> omega))
  by_cases q5 : x0 < 248
  · simp only [q1, q2, q3, q4, q5, if_true, if_false, rgo_step, possB_false, p64_0, p64_1, p64_2, p64_3, least2, least3, least4, most2, most3, most4, Nat.reduceSub, Nat.reduceEqDiff, Nat.reduceAdd, false_or, e0]
    repeat' split
    all_goals (first | rfl | (exfalso; omega) | (refine tri ?_ ?_ ?_ <;> omega))
  · have q6 : ¬ x0 < 245 := by omega
    simp only [q1, q2, q3, q4, q5, q6, if_false, rgo0]
    split
    · rfl
    · rfl
end Go.Proofs.YtkaimohkdkdbmaaDoor
