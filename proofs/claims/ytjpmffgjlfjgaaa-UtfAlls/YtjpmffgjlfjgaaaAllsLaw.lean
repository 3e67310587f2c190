/-
  The walk of the law UtfAlls.
-/
import Derived.Test.YtjpmffgjlfjgaaaRefAll
import Derived.Test.YtjpmffgjlfjgaaaCutsMath
set_option linter.unusedSimpArgs false
set_option linter.unusedVariables false
namespace Go.Proofs.Ytjpmffgjlfjgaaa
open Go.RowKit

set_option maxHeartbeats 1000000 in
set_option maxRecDepth 100000 in
theorem alls_law (s : ByteArray) (w : World) (hs : s.size ≤ 200) :
    Calls Try.prog 4 #[.string s] w fun e w' => e = .returned (.bool true) ∧ Below w.heap.size w w' := by
  have t1 : decide ((200 : Int) < (s.size : Int)) = false := by simp; omega
  have C1 := Lib.hid (fun W => all_any s W (by omega))
  have C2 := Lib.hid (fun W => ref_all_any s W (by omega))
  have C3 := Lib.hid (fun W => whole_any s W (by unfold maxLen; omega))
  have C4 := Lib.hid (fun W => ref_whole_any s W (by omega))
  have b0 := allF_len s
  obtain ⟨l, at', e0, hx⟩ : ∃ l a e, allF s = (l, a, e) := ⟨_, _, _, rfl⟩
  rw [hx] at C1 C2 b0
  clear hx
  dsimp only at b0
  generalize wholeF s = wh at C3 C4
  go_enter Try.func4, Try.ntmps4
  go_wp2_with (go_at_call 8; refine (awake_any _).mono ?_; rintro e w1 ⟨rfl, hb1⟩)
  refine (C1.out _).mono ?_
  rintro e w2 ⟨v2, rfl, hown2, hb2⟩
  go_wp2_with fail
  refine (C2.out _).mono ?_
  rintro e w3 ⟨v3, rfl, hown3, hb3⟩
  dsimp only at hown2 hown3
  have s1 := hb1.size
  have s2 := hb2.size
  have s3 := hb3.size
  obtain ⟨A3, c3, rfl, rd3⟩ := own_rd hown3
  obtain ⟨A2, c2, rfl, rd2⟩ := own_rd (own_later hown2 hb3)
  have CS := same_any A2 A3 c2 c3 l l w3 rd2 rd3 (by omega) (by omega)
  rw [same_yes rfl] at CS
  have HS := Lib.hid CS
  have hb : Below w.heap.size w w3 := (hb1.trans (hb2.mono s1)).trans (hb3.mono (by omega))
  clear CS rd2 rd3 hown2 hown3 C1 C2
  go_wp2_with fail
  refine HS.out.mono ?_
  rintro e w4 ⟨rfl, hb4⟩
  go_wp2_with fail
  refine (C3.out _).mono ?_
  rintro e w5 ⟨rfl, rfl⟩
  go_wp2_with fail
  refine (C4.out _).mono ?_
  rintro e w6 ⟨rfl, hb6⟩
  go_wp2
  go_ret
  exact ⟨rfl, (hb.trans (hb4.mono hb.size)).trans (hb6.mono (by have := hb.size; have := hb4.size; omega))⟩
set_option maxHeartbeats 400000 in
theorem alls_long (s : ByteArray) (w : World) (h : 200 < s.size) (hs : s.size ≤ maxLen) :
    Calls Try.prog 4 #[.string s] w fun e w' => e = .returned (.bool true) ∧ Below w.heap.size w w' := by
  unfold maxLen at hs
  have t1 : decide ((200 : Int) < (s.size : Int)) = true := by simp; omega
  go_enter Try.func4, Try.ntmps4
  go_wp2_with fail
  refine (awake_any _).mono ?_
  rintro e w1 ⟨rfl, hb1⟩
  go_wp2_with fail
  refine (awake_any _).mono ?_
  rintro e w2 ⟨rfl, hb2⟩
  go_wp2
  go_ret
  exact ⟨rfl, hb1.trans (hb2.mono hb1.size)⟩
end Go.Proofs.Ytjpmffgjlfjgaaa
