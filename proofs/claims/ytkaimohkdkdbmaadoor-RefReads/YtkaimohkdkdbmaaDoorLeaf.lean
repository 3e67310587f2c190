/-
  Walks: what utf's small functions return (lead, span, follow, possible), whatever the world.
-/
import Derived.Test.YtkaimohkdkdbmaaDoorProg
import Derived.Test.YtkaimohkdkdbmaaDoorMath
import Derived.WalkKit
import Derived.WalkSpells
import Derived.WalkLawsBesides
namespace Go.Proofs.YtkaimohkdkdbmaaDoor
open Go.RowKit

theorem i32_or0 (x : Int) (h0 : 0 ≤ x) (h1 : x < 2147483648) : bits .or .i32 x 0 = x := by
  have := bits_join .i32 31 (by decide) wraps_i32 0 x 0 h0 (by omega) h1 (by omega) (by omega) (by omega)
  simpa using this
theorem ret_two {k1 k2 : IntKind} {a b a1 b1 : Int} (h : a = a1) (h1 : b = b1) : Ending.returned (.tuple #[.int k1 a, .int k2 b]) = .returned (.tuple #[.int k1 a1, .int k2 b1]) := by rw [h, h1]
theorem ret_int {k : IntKind} {a b : Int} (h : a = b) : Ending.returned (.int k a) = .returned (.int k b) := by rw [h]
theorem ret_bool {a b : Bool} (h : a = b) : Ending.returned (.bool a) = .returned (.bool b) := by rw [h]

set_option maxHeartbeats 400000 in
theorem span_any (n : Nat) (w : World) (h0 : 1 ≤ n) (h1 : n ≤ 4) : Calls Tryd.prog 59 #[.int .i64 n] w fun e w' => e = .returned (.tuple #[.int .i32 (least n), .int .i32 (most n)]) ∧ w = w' := by
  have h : n = 1 ∨ n = 2 ∨ n = 3 ∨ n = 4 := by omega
  rcases h with rfl | rfl | rfl | rfl
  all_goals
    go_enter Tryd.func59, Tryd.ntmps59
    go_wp2
    go_ret2
    exact ⟨rfl, rfl⟩

set_option maxHeartbeats 400000 in
theorem lead_any (b : Int) (w : World) (h0 : 0 ≤ b) (h1 : b < 256) : Calls Tryd.prog 49 #[.int .u8 b] w fun e w' => e = .returned (.tuple #[.int .i32 (leadR b), .int .i64 (leadN b)]) ∧ w = w' := by
  go_enter Tryd.func49, Tryd.ntmps49
  go_wp2
  all_goals
    go_ret2
    refine ⟨?_, rfl⟩
    simp only [beq_iff_eq, beq_eq_false_iff_ne] at *
    unfold leadR leadN
    refine ret_two ?_ ?_
    · repeat' split
      all_goals omega
    · repeat' split
      all_goals omega

set_option maxHeartbeats 4000000 in
theorem poss_any (r : Int) (k n : Nat) (w : World) (h0 : 0 ≤ r) (h1 : r * p64 (n - k) < 2097152) (hk : 1 ≤ k) (hn : k ≤ n) (h4 : n ≤ 4) :
    Calls Tryd.prog 50 #[.int .i32 r, .int .i64 k, .int .i64 n] w fun e w' => e = .returned (.bool (possB r k n)) ∧ w = w' := by
  have h : (k = 1 ∧ n = 1) ∨ (k = 1 ∧ n = 2) ∨ (k = 2 ∧ n = 2) ∨ (k = 1 ∧ n = 3) ∨ (k = 2 ∧ n = 3) ∨ (k = 3 ∧ n = 3) ∨ (k = 1 ∧ n = 4) ∨ (k = 2 ∧ n = 4) ∨ (k = 3 ∧ n = 4) ∨ (k = 4 ∧ n = 4) := by omega
  rcases h with ⟨rfl, rfl⟩ | ⟨rfl, rfl⟩ | ⟨rfl, rfl⟩ | ⟨rfl, rfl⟩ | ⟨rfl, rfl⟩ | ⟨rfl, rfl⟩ | ⟨rfl, rfl⟩ | ⟨rfl, rfl⟩ | ⟨rfl, rfl⟩ | ⟨rfl, rfl⟩
  all_goals
    simp only [Nat.reduceSub, p64_0, p64_1, p64_2, p64_3] at h1
    have h00 := i32_or0 r h0 (by omega)
    go_enter Tryd.func50, Tryd.ntmps50
    go_wp2
    all_goals
      go_ret
      refine ⟨ret_bool (possB_eq _ _ _ _ ?_).symm, rfl⟩
      simp only [Nat.reduceSub, p64_0, p64_1, p64_2, p64_3, least1, least2, least3, least4, most1, most2, most3, most4, decide_eq_true_eq, Bool.false_eq_true, iff_false]
      first
        | omega
        | (simp only [iff_true]; omega)
        | (simp; omega)

set_option maxHeartbeats 400000 in
theorem poss_zero (r : Int) (k : Int) (w : World) :
    Calls Tryd.prog 50 #[.int .i32 r, .int .i64 k, .int .i64 0] w fun e w' => e = .returned (.bool false) ∧ w = w' := by
  go_enter Tryd.func50, Tryd.ntmps50
  go_wp2
  go_ret
  exact ⟨rfl, rfl⟩
end Go.Proofs.YtkaimohkdkdbmaaDoor
