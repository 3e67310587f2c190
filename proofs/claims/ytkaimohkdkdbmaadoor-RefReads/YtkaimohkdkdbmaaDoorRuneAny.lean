/-
  utf.Rune, of whatever bytes, at whatever place.
-/
import Derived.Test.YtkaimohkdkdbmaaDoorRune
import Derived.Test.YtkaimohkdkdbmaaDoorCanon
set_option linter.unusedSimpArgs false
set_option linter.unusedVariables false
namespace Go.Proofs.YtkaimohkdkdbmaaDoor
open Go.RowKit

set_option maxHeartbeats 400000 in
theorem rune_out (s : ByteArray) (a : Int) (w : World) (hs : s.size ≤ maxLen) (ha : a < 0 ∨ (s.size : Int) ≤ a) :
    Calls Tryd.prog 42 #[.string s, .int .i64 a] w fun e w' => e = .returned (R3 (0, 0, 7)) ∧ w = w' := by
  unfold maxLen at hs
  by_cases h : a < 0
  · clear ha
    go_enter Tryd.func42, Tryd.ntmps42
    go_wp2
    go_ret3
    exact ⟨rfl, rfl⟩
  · have h2 : (s.size : Int) ≤ a := by omega
    clear ha
    go_enter Tryd.func42, Tryd.ntmps42
    go_wp2
    go_ret3
    exact ⟨rfl, rfl⟩

theorem rune_any (s : ByteArray) (a : Int) (w : World) (hs : s.size ≤ maxLen) :
    Calls Tryd.prog 42 #[.string s, .int .i64 a] w fun e w' => e = .returned (R3 (runeF s a)) ∧ w = w' := by
  unfold runeF
  by_cases h : a < 0 ∨ (s.size : Int) ≤ a
  · rw [if_pos h]
    exact rune_out s a w hs h
  · rw [if_neg h]
    obtain ⟨n, rfl⟩ := Int.eq_ofNat_of_zero_le (show 0 ≤ a by omega)
    rw [Int.toNat_natCast, ← rgo_canon _ _ (by omega) (fun k => bt_lo s _) (fun k => bt_hi s _)]
    exact rune_in s n w hs (by omega)
theorem rune_at (s : ByteArray) (a : Nat) (w : World) (hs : s.size ≤ maxLen) :
    Calls Tryd.prog 42 #[.string s, .int .i64 a] w fun e w' => e = .returned (.tuple #[.int .i32 (runeF s a).1, .int .i64 (runeF s a).2.1, .int .i64 (runeF s a).2.2]) ∧ w = w' := rune_any s a w hs
end Go.Proofs.YtkaimohkdkdbmaaDoor
