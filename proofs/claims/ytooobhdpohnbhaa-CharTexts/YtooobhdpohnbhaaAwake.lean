/-
  The walk of awake: the answers that the document fixes.
-/
import Derived.Test.YtooobhdpohnbhaaAll
import Derived.Laws.IdiomStrings
set_option linter.unusedSimpArgs false
set_option linter.unusedVariables false
namespace Go.Proofs.Ytooobhdpohnbhaa
open Go.RowKit

theorem Blk0 (w : World) (t : TypeId) (cs : Array Value) (i : Nat) : (w.alloc (.cells cs t)).cell? ⟨w.heap.size, i, none⟩ = cs[i]? := World.cell?_alloc_mark w cs t (0, 0) i
theorem rdf_lit1 (w : World) (k : Nat) (hk : Known k) : RdF (w.alloc (.cells #[.func (.func k) #[] #[]] 23)) (some ⟨w.heap.size, 0, none⟩) [k] := by
  refine ⟨fun x hx => by simp at hx; rw [hx]; exact hk, .inr ⟨w.heap.size, 0, rfl, by simp, fun j hj => ?_⟩⟩
  rw [Nat.zero_add, Blk0]
  match j, hj with
  | 0, _ => rfl
theorem rdf_lit2 (w : World) (k l : Nat) (hk : Known k) (hl : Known l) : RdF (w.alloc (.cells #[.func (.func k) #[] #[], .func (.func l) #[] #[]] 23)) (some ⟨w.heap.size, 0, none⟩) [k, l] := by
  refine ⟨fun x hx => by simp at hx; rcases hx with rfl | rfl <;> assumption, .inr ⟨w.heap.size, 0, rfl, by simp, fun j hj => ?_⟩⟩
  rw [Nat.zero_add, Blk0]
  match j, hj with
  | 0, _ => rfl
  | 1, _ => rfl
theorem all1 (s : ByteArray) (k : Nat) (hk : Known k) (w : World) : Calls Try.prog 17 #[.string s, .slice (some ⟨w.heap.size, 0, none⟩) 1 1] (w.alloc (.cells #[.func (.func k) #[] #[]] 23)) fun e w' => e = .returned (.bool (allP [k] s)) ∧ Below w.heap.size w w' :=
  (all_any s (some ⟨w.heap.size, 0, none⟩) 1 1 [k] _ (rdf_lit1 w k hk) rfl (by simp)).mono fun e w' ⟨h1, h2⟩ => ⟨h1, ((Below.refl _ w).alloc (Nat.le_refl _) _).trans (h2.mono (by simp))⟩
theorem all2 (s : ByteArray) (k l : Nat) (hk : Known k) (hl : Known l) (w : World) : Calls Try.prog 17 #[.string s, .slice (some ⟨w.heap.size, 0, none⟩) 2 2] (w.alloc (.cells #[.func (.func k) #[] #[], .func (.func l) #[] #[]] 23)) fun e w' => e = .returned (.bool (allP [k, l] s)) ∧ Below w.heap.size w w' :=
  (all_any s (some ⟨w.heap.size, 0, none⟩) 2 2 [k, l] _ (rdf_lit2 w k l hk hl) rfl (by simp)).mono fun e w' ⟨h1, h2⟩ => ⟨h1, ((Below.refl _ w).alloc (Nat.le_refl _) _).trans (h2.mono (by simp))⟩
theorem all0 (s : ByteArray) (w : World) : Calls Try.prog 17 #[.string s, .slice none 0 0] w fun e w' => e = .returned (.bool (allP [] s)) ∧ Below w.heap.size w w' :=
  all_any s none 0 0 [] w ⟨(fun x hx => by simp at hx), .inl rfl⟩ rfl (by simp)

theorem aw_ab (w : World) : Calls Try.prog 17 #[.string ⟨#[97, 98]⟩, .slice (some ⟨w.heap.size, 0, none⟩) 1 1] (w.alloc (.cells #[.func (.func 13) #[] #[]] 23)) fun e w' => e = .returned (.bool true) ∧ Below w.heap.size w w' := by
  have h := all1 ⟨#[97, 98]⟩ 13 (.inr (.inr (.inl rfl))) w
  rw [show allP [13] ⟨#[97, 98]⟩ = true by decide +kernel] at h
  exact h
theorem aw_a1 (w : World) : Calls Try.prog 17 #[.string ⟨#[97, 49]⟩, .slice (some ⟨w.heap.size, 0, none⟩) 1 1] (w.alloc (.cells #[.func (.func 13) #[] #[]] 23)) fun e w' => e = .returned (.bool false) ∧ Below w.heap.size w w' := by
  have h := all1 ⟨#[97, 49]⟩ 13 (.inr (.inr (.inl rfl))) w
  rw [show allP [13] ⟨#[97, 49]⟩ = false by decide +kernel] at h
  exact h
theorem st_t {r : Int} (h : Start r) (w : World) : Calls Try.prog 13 #[.int .i32 r] w fun e w' => e = .returned (.bool true) ∧ w = w' := (start_any r w).mono fun e w' ⟨h1, h2⟩ => ⟨by rw [h1, decide_eq_true h], h2⟩
theorem st_f {r : Int} (h : ¬ Start r) (w : World) : Calls Try.prog 13 #[.int .i32 r] w fun e w' => e = .returned (.bool false) ∧ w = w' := (start_any r w).mono fun e w' ⟨h1, h2⟩ => ⟨by rw [h1, decide_eq_false h], h2⟩
theorem pt_t {r : Int} (h : Part r) (w : World) : Calls Try.prog 15 #[.int .i32 r] w fun e w' => e = .returned (.bool true) ∧ w = w' := (part_any r w).mono fun e w' ⟨h1, h2⟩ => ⟨by rw [h1, decide_eq_true h], h2⟩
theorem ch_t {r : Int} (h : Chr r) (w : World) : Calls Try.prog 9 #[.int .i32 r] w fun e w' => e = .returned (.bool true) ∧ w = w' := (chr_any r w).mono fun e w' ⟨h1, h2⟩ => ⟨by rw [h1, decide_eq_true h], h2⟩
theorem ch_f {r : Int} (h : ¬ Chr r) (w : World) : Calls Try.prog 9 #[.int .i32 r] w fun e w' => e = .returned (.bool false) ∧ w = w' := (chr_any r w).mono fun e w' ⟨h1, h2⟩ => ⟨by rw [h1, decide_eq_false h], h2⟩
theorem bl_t {r : Int} (h : Blank r) (w : World) : Calls Try.prog 11 #[.int .i32 r] w fun e w' => e = .returned (.bool true) ∧ w = w' := (blank_any r w).mono fun e w' ⟨h1, h2⟩ => ⟨by rw [h1, decide_eq_true h], h2⟩

set_option maxHeartbeats 1000000 in
set_option maxRecDepth 100000 in
theorem awake_any (w : World) : Calls Try.prog 8 #[] w fun e w' => e = .returned (.bool true) ∧ Below w.heap.size w w' := by
  go_enter Try.func8, Try.ntmps8
  go_wp2_with fail
  refine (st_t (by decide) _).mono ?_
  rintro e w1 ⟨rfl, rfl⟩
  go_wp2_with fail
  refine (st_f (by decide) _).mono ?_
  rintro e w1 ⟨rfl, rfl⟩
  go_wp2_with fail
  refine (pt_t (by decide) _).mono ?_
  rintro e w1 ⟨rfl, rfl⟩
  go_wp2_with fail
  refine (ch_t (by decide) _).mono ?_
  rintro e w1 ⟨rfl, rfl⟩
  go_wp2_with fail
  refine (ch_f (by decide) _).mono ?_
  rintro e w1 ⟨rfl, rfl⟩
  go_wp2_with fail
  refine (bl_t (by decide) _).mono ?_
  rintro e w1 ⟨rfl, rfl⟩
  go_wp2_with fail
  refine (aw_ab _).mono ?_
  rintro e w1 ⟨rfl, hb1⟩
  go_wp2_with fail
  refine (aw_a1 _).mono ?_
  rintro e w2 ⟨rfl, hb2⟩
  go_wp2_with fail
  refine (st_f (by decide) _).mono ?_
  rintro e w3 ⟨rfl, rfl⟩
  go_wp2
  go_ret
  exact ⟨rfl, hb1.trans (hb2.mono hb1.size)⟩
end Go.Proofs.Ytooobhdpohnbhaa
