/-
  The walk of awake: the answers that the document fixes.
-/
import Derived.Test.YtjpmffgjlfjgaaaPut
import Derived.Test.YtjpmffgjlfjgaaaWhole
set_option linter.unusedSimpArgs false
set_option linter.unusedVariables false
namespace Go.Proofs.Ytjpmffgjlfjgaaa
open Go.RowKit

theorem aw_rune (w : World) : Calls Try.prog 9 #[.string ⟨#[195, 169]⟩, .int .i64 0] w fun e w' => e = .returned (.tuple #[.int .i32 233, .int .i64 2, .int .i64 0]) ∧ w = w' := by
  have h := rune_any ⟨#[195, 169]⟩ 0 w (by decide)
  rw [show runeF ⟨#[195, 169]⟩ 0 = (233, 2, 0) by decide +kernel] at h
  exact h
def AwAll (w : World) (a er : Int) (e : Ending) (w' : World) : Prop := ∃ v, e = .returned (.tuple #[v, .int .i64 a, .int .i64 er]) ∧ Below w.heap.size w w'
theorem aw_all1 (w : World) : Calls Try.prog 11 #[.string ⟨#[226, 130]⟩] w (AwAll w 0 7) := by
  have h := all_any ⟨#[226, 130]⟩ w (by decide)
  rw [show allF ⟨#[226, 130]⟩ = ([], 0, 7) by decide +kernel] at h
  exact h.mono fun e w' ⟨v, h1, _, h2⟩ => ⟨v, h1, h2⟩
theorem aw_all2 (w : World) : Calls Try.prog 11 #[.string ⟨#[192, 128]⟩] w (AwAll w 0 2) := by
  have h := all_any ⟨#[192, 128]⟩ w (by decide)
  rw [show allF ⟨#[192, 128]⟩ = ([], 0, 2) by decide +kernel] at h
  exact h.mono fun e w' ⟨v, h1, _, h2⟩ => ⟨v, h1, h2⟩
theorem aw_put (w : World) : Calls Try.prog 17 #[.slice (some ⟨w.heap.size, 0, none⟩) 2 2] (w.alloc (.cells #[.int .i32 233, .int .i32 97] 21)) fun e w' => e = .returned (.string ⟨#[195, 169, 97]⟩) ∧ Below w.heap.size w w' := by
  have h := put_any (some ⟨w.heap.size, 0, none⟩) 2 [233, 97] (w.alloc (.cells #[.int .i32 233, .int .i32 97] 21)) (.inr ⟨w.heap.size, 0, rfl, by simp, fun j hj => by
    rw [Nat.zero_add, Blk0]
    match j, hj with
    | 0, _ => rfl
    | 1, _ => rfl⟩) (by decide)
  refine h.mono fun e w' ⟨h1, h2⟩ => ⟨?_, ?_⟩
  · rw [h1]
    rw [show strOfNums (putL [233, 97]) = ⟨#[195, 169, 97]⟩ by decide +kernel]
  · exact ((Below.refl _ w).alloc (Nat.le_refl _) _).trans (h2.mono (by simp))
theorem aw_whole (w : World) : Calls Try.prog 14 #[.string ⟨#[97, 226, 130]⟩] w fun e w' => e = .returned (.int .i64 1) ∧ w = w' := by
  have h := whole_any ⟨#[97, 226, 130]⟩ w (by decide)
  rw [show wholeF ⟨#[97, 226, 130]⟩ = 1 by decide +kernel] at h
  exact h

set_option maxHeartbeats 1000000 in
set_option maxRecDepth 100000 in
theorem awake_any (w : World) : Calls Try.prog 8 #[] w fun e w' => e = .returned (.bool true) ∧ Below w.heap.size w w' := by
  go_enter Try.func8, Try.ntmps8
  go_wp2_with fail
  refine (aw_rune _).mono ?_
  rintro e w1 ⟨rfl, rfl⟩
  go_wp2_with fail
  refine (aw_all1 _).mono ?_
  rintro e w1 ⟨v1, rfl, hb1⟩
  go_wp2_with fail
  refine (aw_all2 _).mono ?_
  rintro e w2 ⟨v2, rfl, hb2⟩
  go_wp2_with fail
  refine (aw_put _).mono ?_
  rintro e w3 ⟨rfl, hb3⟩
  go_wp2_with fail
  refine (aw_whole _).mono ?_
  rintro e w4 ⟨rfl, rfl⟩
  go_wp2
  go_ret
  have s1 := hb1.size
  have s2 := hb2.size
  exact ⟨rfl, (hb1.trans (hb2.mono s1)).trans (hb3.mono (by omega))⟩
end Go.Proofs.Ytjpmffgjlfjgaaa
