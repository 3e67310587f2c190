/-
  The walk of the law UtfRunes.
-/
import Derived.Test.YtjpmffgjlfjgaaaAwake
import Derived.Test.YtjpmffgjlfjgaaaRefRune
set_option linter.unusedSimpArgs false
set_option linter.unusedVariables false
namespace Go.Proofs.Ytjpmffgjlfjgaaa
open Go.RowKit

theorem runeF_bd (s : ByteArray) (a : Int) : 0 ≤ (runeF s a).1 ∧ (runeF s a).1 ≤ 1114111 := by
  by_cases h : a < 0 ∨ (s.size : Int) ≤ a
  · have : runeF s a = (0, 0, 7) := by unfold runeF; rw [if_pos h]
    rw [this]
    simp
  · obtain ⟨n, rfl⟩ := Int.eq_ofNat_of_zero_le (show 0 ≤ a by omega)
    have := runeF_okay s n (by omega)
    unfold Okay at this
    omega
set_option maxHeartbeats 1000000 in
set_option maxRecDepth 100000 in
theorem runes_law (s : ByteArray) (a : Int) (w : World) (hs : s.size ≤ 200) :
    Calls Try.prog 3 #[.string s, .int .i64 a] w fun e w' => e = .returned (.bool true) ∧ Below w.heap.size w w' := by
  have t1 : decide ((200 : Int) < (s.size : Int)) = false := by simp; omega
  have C1 := Lib.hid (fun W => rune_any s a W (by unfold maxLen; omega))
  have C2 := Lib.hid (fun W => ref_rune_any s a W (by omega))
  have hb := runeF_bd s a
  obtain ⟨r, n, e0, hx⟩ : ∃ r n e, runeF s a = (r, n, e) := ⟨_, _, _, rfl⟩
  rw [hx] at C1 C2 hb
  clear hx
  unfold R3 at C1
  unfold RefPost R3i at C2
  dsimp only at C1 C2 hb
  go_enter Try.func3, Try.ntmps3
  go_wp2_with (go_at_call 8; refine (awake_any _).mono ?_; rintro e w1 ⟨rfl, hb1⟩)
  refine (C1.out _).mono ?_
  rintro e w2 ⟨rfl, rfl⟩
  go_wp2_with fail
  refine (C2.out _).mono ?_
  rintro e w3 ⟨rfl, hb3⟩
  go_wp2
  go_ret
  exact ⟨rfl, hb1.trans (hb3.mono hb1.size)⟩
set_option maxHeartbeats 400000 in
theorem runes_long (s : ByteArray) (a : Int) (w : World) (h : 200 < s.size) (hs : s.size ≤ maxLen) :
    Calls Try.prog 3 #[.string s, .int .i64 a] w fun e w' => e = .returned (.bool true) ∧ Below w.heap.size w w' := by
  unfold maxLen at hs
  have t1 : decide ((200 : Int) < (s.size : Int)) = true := by simp; omega
  go_enter Try.func3, Try.ntmps3
  go_wp2_with fail
  refine (awake_any _).mono ?_
  rintro e w1 ⟨rfl, hb1⟩
  go_wp2_with fail
  refine (awake_any _).mono ?_
  rintro e w2 ⟨rfl, hb2⟩
  go_wp2
  go_ret
  exact ⟨rfl, hb1.trans (hb2.mono hb1.size)⟩
end Go.Proofs.Ytjpmffgjlfjgaaa
