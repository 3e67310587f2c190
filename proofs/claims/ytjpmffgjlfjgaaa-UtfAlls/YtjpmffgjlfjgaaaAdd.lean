/-
  The walk of utf.add: a rune's bytes behind a slice of the call's own.
-/
import Derived.Test.YtjpmffgjlfjgaaaLeaf
import Derived.Test.YtjpmffgjlfjgaaaEnc
import Derived.Lib.Hide
set_option linter.unusedSimpArgs false
set_option linter.unusedVariables false
namespace Go.Proofs.Ytjpmffgjlfjgaaa
open Go.RowKit

theorem Try.info5 : (Try.prog.info? 5).map (fun i => (i.zero, i.size, i.bytes)) = some (some (.int .u8 0), 1, 1) := by kernel_rfl
/-- A slice of bytes of the call's own: from block B on. -/
def OwnB (w : World) (B : Nat) (v : Value) (l : List Int) : Prop := w.ownsRow B 5 1 v l.length (l.map (Value.int .u8))
def AddPost (w : World) (B : Nat) (l : List Int) (e : Ending) (w' : World) : Prop := ∃ v, e = .returned v ∧ OwnB w' B v l ∧ Below B w w'

theorem add_post {w w' : World} {B : Nat} {v v' : Value} {xs ys : List Int} {o : Obj} (hB : B ≤ w.heap.size) (hown : OwnB w B v xs)
    (h : w'.ownsRow B 5 1 v' (xs.length + ys.length) (xs.map (Value.int .u8) ++ ys.map (Value.int .u8))) (hg : (w.alloc o).grownBy w' v.ownBlock) : OwnB w' B v' (xs ++ ys) ∧ Below B w w' := by
  refine ⟨?_, ?_⟩
  · unfold OwnB; rw [List.map_append, List.length_append]; exact h
  · exact ((Below.refl B w).alloc hB o).grown hg (by simp; omega) (fun g hg => (World.ownsRow.lt hown g hg).1)

theorem Blk0 (w : World) (t : TypeId) (cs : Array Value) (i : Nat) : (w.alloc (.cells cs t)).cell? ⟨w.heap.size, i, none⟩ = cs[i]? := cell_of_row _ _ i cs t (0, 0) (heap_alloc_new w _)
theorem lit_cells (w : World) (cs : Array Value) (e : TypeId) : ∀ (j : Nat) (u : Value), cs.toList[j]? = some u → (w.alloc (.cells cs e)).cell? ((⟨w.heap.size, 0, none⟩ : Addr).add j) = some u := by
  intro j u h
  have hc := (Blk0 w e cs) j
  unfold Addr.add
  by_cases h0 : j = 0
  · subst h0
    simpa [hc] using h
  · simpa [h0, hc] using h

set_option maxHeartbeats 1000000 in
set_option maxRecDepth 100000 in
theorem add1 (v : Value) (xs : List Int) (r : Int) (B : Nat) (w : World) (hB : B ≤ w.heap.size) (hown : OwnB w B v xs) (hl : xs.length ≤ 1000000) (h0 : 0 ≤ r) (h1 : r < 128) :
    Calls Try.prog 23 #[v, .int .i32 r] w (AddPost w B (xs ++ [r])) := by
  obtain ⟨i0, hi, hz0, hz1, hz2⟩ := info_parts Try.info5
  have hown' := World.ownsRow.alloc hown (.cells #[.int .u8 (r)] 5)
  go_enter Try.func23, Try.ntmps23
  go_wp2_with (first | (at_builtin; refine wpList_append_own _ rfl _ _ 37 rfl B 5 i0 (.int .u8 0) 1 1 Try.underlying37 hi hz0 hz1 hz2 rfl (by decide) _ _ _ rfl hown' ⟨w.heap.size, 0, none⟩ 1 1 [.int .u8 (r)] rfl rfl (lit_cells w #[.int .u8 (r)] 5) (ints_oneCell .u8 [r]) (by unfold maxLen; omega) (by omega) (by simp; omega) ?_) | go_in)
  intro v' w1 hown2 hgrow _
  have R := add_post (ys := [r]) hB hown hown2 hgrow
  clear hown2 hgrow hown'
  go_wp2
  go_ret
  exact ⟨_, rfl, R⟩

set_option maxHeartbeats 1000000 in
set_option maxRecDepth 100000 in
theorem add2 (v : Value) (xs : List Int) (r : Int) (B : Nat) (w : World) (hB : B ≤ w.heap.size) (hown : OwnB w B v xs) (hl : xs.length ≤ 1000000) (h0 : 128 ≤ r) (h1 : r < 2048) :
    Calls Try.prog 23 #[v, .int .i32 r] w (AddPost w B (xs ++ [192 + r / 64, 128 + r % 64])) := by
  obtain ⟨i0, hi, hz0, hz1, hz2⟩ := info_parts Try.info5
  have hown' := World.ownsRow.alloc hown (.cells #[.int .u8 (192 + r / 64), .int .u8 (128 + r % 64)] 5)
  go_enter Try.func23, Try.ntmps23
  go_wp2_with (first | (at_builtin; refine wpList_append_own _ rfl _ _ 37 rfl B 5 i0 (.int .u8 0) 1 1 Try.underlying37 hi hz0 hz1 hz2 rfl (by decide) _ _ _ rfl hown' ⟨w.heap.size, 0, none⟩ 2 2 [.int .u8 (192 + r / 64), .int .u8 (128 + r % 64)] rfl rfl (lit_cells w #[.int .u8 (192 + r / 64), .int .u8 (128 + r % 64)] 5) (ints_oneCell .u8 [192 + r / 64, 128 + r % 64]) (by unfold maxLen; omega) (by omega) (by simp; omega) ?_) | go_in)
  intro v' w1 hown2 hgrow _
  have R := add_post (ys := [192 + r / 64, 128 + r % 64]) hB hown hown2 hgrow
  clear hown2 hgrow hown'
  go_wp2
  go_ret
  exact ⟨_, rfl, R⟩

set_option maxHeartbeats 1000000 in
set_option maxRecDepth 100000 in
theorem add3a (v : Value) (xs : List Int) (r : Int) (B : Nat) (w : World) (hB : B ≤ w.heap.size) (hown : OwnB w B v xs) (hl : xs.length ≤ 1000000) (h0 : 2048 ≤ r) (h1 : r < 55296) :
    Calls Try.prog 23 #[v, .int .i32 r] w (AddPost w B (xs ++ [224 + r / 4096, 128 + r / 64 % 64, 128 + r % 64])) := by
  obtain ⟨i0, hi, hz0, hz1, hz2⟩ := info_parts Try.info5
  have hown' := World.ownsRow.alloc hown (.cells #[.int .u8 (224 + r / 4096), .int .u8 (128 + r / 64 % 64), .int .u8 (128 + r % 64)] 5)
  go_enter Try.func23, Try.ntmps23
  go_wp2_with (first | (at_builtin; refine wpList_append_own _ rfl _ _ 37 rfl B 5 i0 (.int .u8 0) 1 1 Try.underlying37 hi hz0 hz1 hz2 rfl (by decide) _ _ _ rfl hown' ⟨w.heap.size, 0, none⟩ 3 3 [.int .u8 (224 + r / 4096), .int .u8 (128 + r / 64 % 64), .int .u8 (128 + r % 64)] rfl rfl (lit_cells w #[.int .u8 (224 + r / 4096), .int .u8 (128 + r / 64 % 64), .int .u8 (128 + r % 64)] 5) (ints_oneCell .u8 [224 + r / 4096, 128 + r / 64 % 64, 128 + r % 64]) (by unfold maxLen; omega) (by omega) (by simp; omega) ?_) | go_in)
  intro v' w1 hown2 hgrow _
  have R := add_post (ys := [224 + r / 4096, 128 + r / 64 % 64, 128 + r % 64]) hB hown hown2 hgrow
  clear hown2 hgrow hown'
  go_wp2
  go_ret
  exact ⟨_, rfl, R⟩

set_option maxHeartbeats 1000000 in
set_option maxRecDepth 100000 in
theorem add3b (v : Value) (xs : List Int) (r : Int) (B : Nat) (w : World) (hB : B ≤ w.heap.size) (hown : OwnB w B v xs) (hl : xs.length ≤ 1000000) (h0 : 57343 < r) (h1 : r < 65536) :
    Calls Try.prog 23 #[v, .int .i32 r] w (AddPost w B (xs ++ [224 + r / 4096, 128 + r / 64 % 64, 128 + r % 64])) := by
  obtain ⟨i0, hi, hz0, hz1, hz2⟩ := info_parts Try.info5
  have hown' := World.ownsRow.alloc hown (.cells #[.int .u8 (224 + r / 4096), .int .u8 (128 + r / 64 % 64), .int .u8 (128 + r % 64)] 5)
  go_enter Try.func23, Try.ntmps23
  go_wp2_with (first | (at_builtin; refine wpList_append_own _ rfl _ _ 37 rfl B 5 i0 (.int .u8 0) 1 1 Try.underlying37 hi hz0 hz1 hz2 rfl (by decide) _ _ _ rfl hown' ⟨w.heap.size, 0, none⟩ 3 3 [.int .u8 (224 + r / 4096), .int .u8 (128 + r / 64 % 64), .int .u8 (128 + r % 64)] rfl rfl (lit_cells w #[.int .u8 (224 + r / 4096), .int .u8 (128 + r / 64 % 64), .int .u8 (128 + r % 64)] 5) (ints_oneCell .u8 [224 + r / 4096, 128 + r / 64 % 64, 128 + r % 64]) (by unfold maxLen; omega) (by omega) (by simp; omega) ?_) | go_in)
  intro v' w1 hown2 hgrow _
  have R := add_post (ys := [224 + r / 4096, 128 + r / 64 % 64, 128 + r % 64]) hB hown hown2 hgrow
  clear hown2 hgrow hown'
  go_wp2
  go_ret
  exact ⟨_, rfl, R⟩

set_option maxHeartbeats 1000000 in
set_option maxRecDepth 100000 in
theorem add4 (v : Value) (xs : List Int) (r : Int) (B : Nat) (w : World) (hB : B ≤ w.heap.size) (hown : OwnB w B v xs) (hl : xs.length ≤ 1000000) (h0 : 65536 ≤ r) (h1 : r ≤ 1114111) :
    Calls Try.prog 23 #[v, .int .i32 r] w (AddPost w B (xs ++ [240 + r / 262144, 128 + r / 4096 % 64, 128 + r / 64 % 64, 128 + r % 64])) := by
  obtain ⟨i0, hi, hz0, hz1, hz2⟩ := info_parts Try.info5
  have hown' := World.ownsRow.alloc hown (.cells #[.int .u8 (240 + r / 262144), .int .u8 (128 + r / 4096 % 64), .int .u8 (128 + r / 64 % 64), .int .u8 (128 + r % 64)] 5)
  go_enter Try.func23, Try.ntmps23
  go_wp2_with (first | (at_builtin; refine wpList_append_own _ rfl _ _ 37 rfl B 5 i0 (.int .u8 0) 1 1 Try.underlying37 hi hz0 hz1 hz2 rfl (by decide) _ _ _ rfl hown' ⟨w.heap.size, 0, none⟩ 4 4 [.int .u8 (240 + r / 262144), .int .u8 (128 + r / 4096 % 64), .int .u8 (128 + r / 64 % 64), .int .u8 (128 + r % 64)] rfl rfl (lit_cells w #[.int .u8 (240 + r / 262144), .int .u8 (128 + r / 4096 % 64), .int .u8 (128 + r / 64 % 64), .int .u8 (128 + r % 64)] 5) (ints_oneCell .u8 [240 + r / 262144, 128 + r / 4096 % 64, 128 + r / 64 % 64, 128 + r % 64]) (by unfold maxLen; omega) (by omega) (by simp; omega) ?_) | go_in)
  intro v' w1 hown2 hgrow _
  have R := add_post (ys := [240 + r / 262144, 128 + r / 4096 % 64, 128 + r / 64 % 64, 128 + r % 64]) hB hown hown2 hgrow
  clear hown2 hgrow hown'
  go_wp2
  go_ret
  exact ⟨_, rfl, R⟩

set_option maxHeartbeats 1000000 in
set_option maxRecDepth 100000 in
theorem addbad1 (v : Value) (xs : List Int) (r : Int) (B : Nat) (w : World) (hB : B ≤ w.heap.size) (hown : OwnB w B v xs) (hl : xs.length ≤ 1000000) (h0 : r < 0) :
    Calls Try.prog 23 #[v, .int .i32 r] w (AddPost w B (xs ++ [239, 191, 189])) := by
  obtain ⟨i0, hi, hz0, hz1, hz2⟩ := info_parts Try.info5
  have hown' := World.ownsRow.alloc hown (.cells #[.int .u8 (239), .int .u8 (191), .int .u8 (189)] 5)
  go_enter Try.func23, Try.ntmps23
  go_wp2_with (first | (at_builtin; refine wpList_append_own _ rfl _ _ 37 rfl B 5 i0 (.int .u8 0) 1 1 Try.underlying37 hi hz0 hz1 hz2 rfl (by decide) _ _ _ rfl hown' ⟨w.heap.size, 0, none⟩ 3 3 [.int .u8 (239), .int .u8 (191), .int .u8 (189)] rfl rfl (lit_cells w #[.int .u8 (239), .int .u8 (191), .int .u8 (189)] 5) (ints_oneCell .u8 [239, 191, 189]) (by unfold maxLen; omega) (by omega) (by simp; omega) ?_) | go_in)
  intro v' w1 hown2 hgrow _
  have R := add_post (ys := [239, 191, 189]) hB hown hown2 hgrow
  clear hown2 hgrow hown'
  go_wp2
  go_ret
  exact ⟨_, rfl, R⟩

set_option maxHeartbeats 1000000 in
set_option maxRecDepth 100000 in
theorem addbad2 (v : Value) (xs : List Int) (r : Int) (B : Nat) (w : World) (hB : B ≤ w.heap.size) (hown : OwnB w B v xs) (hl : xs.length ≤ 1000000) (h0 : 1114111 < r) :
    Calls Try.prog 23 #[v, .int .i32 r] w (AddPost w B (xs ++ [239, 191, 189])) := by
  obtain ⟨i0, hi, hz0, hz1, hz2⟩ := info_parts Try.info5
  have hown' := World.ownsRow.alloc hown (.cells #[.int .u8 (239), .int .u8 (191), .int .u8 (189)] 5)
  go_enter Try.func23, Try.ntmps23
  go_wp2_with (first | (at_builtin; refine wpList_append_own _ rfl _ _ 37 rfl B 5 i0 (.int .u8 0) 1 1 Try.underlying37 hi hz0 hz1 hz2 rfl (by decide) _ _ _ rfl hown' ⟨w.heap.size, 0, none⟩ 3 3 [.int .u8 (239), .int .u8 (191), .int .u8 (189)] rfl rfl (lit_cells w #[.int .u8 (239), .int .u8 (191), .int .u8 (189)] 5) (ints_oneCell .u8 [239, 191, 189]) (by unfold maxLen; omega) (by omega) (by simp; omega) ?_) | go_in)
  intro v' w1 hown2 hgrow _
  have R := add_post (ys := [239, 191, 189]) hB hown hown2 hgrow
  clear hown2 hgrow hown'
  go_wp2
  go_ret
  exact ⟨_, rfl, R⟩

set_option maxHeartbeats 1000000 in
set_option maxRecDepth 100000 in
theorem addbad3 (v : Value) (xs : List Int) (r : Int) (B : Nat) (w : World) (hB : B ≤ w.heap.size) (hown : OwnB w B v xs) (hl : xs.length ≤ 1000000) (h0 : 55296 ≤ r) (h1 : r ≤ 57343) :
    Calls Try.prog 23 #[v, .int .i32 r] w (AddPost w B (xs ++ [239, 191, 189])) := by
  obtain ⟨i0, hi, hz0, hz1, hz2⟩ := info_parts Try.info5
  have hown' := World.ownsRow.alloc hown (.cells #[.int .u8 (239), .int .u8 (191), .int .u8 (189)] 5)
  go_enter Try.func23, Try.ntmps23
  go_wp2_with (first | (at_builtin; refine wpList_append_own _ rfl _ _ 37 rfl B 5 i0 (.int .u8 0) 1 1 Try.underlying37 hi hz0 hz1 hz2 rfl (by decide) _ _ _ rfl hown' ⟨w.heap.size, 0, none⟩ 3 3 [.int .u8 (239), .int .u8 (191), .int .u8 (189)] rfl rfl (lit_cells w #[.int .u8 (239), .int .u8 (191), .int .u8 (189)] 5) (ints_oneCell .u8 [239, 191, 189]) (by unfold maxLen; omega) (by omega) (by simp; omega) ?_) | go_in)
  intro v' w1 hown2 hgrow _
  have R := add_post (ys := [239, 191, 189]) hB hown hown2 hgrow
  clear hown2 hgrow hown'
  go_wp2
  go_ret
  exact ⟨_, rfl, R⟩

theorem add_any (v : Value) (xs : List Int) (r : Int) (B : Nat) (w : World) (hB : B ≤ w.heap.size) (hown : OwnB w B v xs) (hl : xs.length ≤ 1000000) :
    Calls Try.prog 23 #[v, .int .i32 r] w (AddPost w B (xs ++ putI r)) := by
  by_cases hb : Bad r
  · rw [putI_bad hb]
    rcases hb with h | h | ⟨h, h2⟩
    · exact addbad1 v xs r B w hB hown hl h
    · exact addbad2 v xs r B w hB hown hl h
    · exact addbad3 v xs r B w hB hown hl h h2
  · rw [putI_ok hb]
    unfold Bad at hb
    by_cases h1 : r < 128
    · rw [enc1 h1]; exact add1 v xs r B w hB hown hl (by omega) h1
    by_cases h2 : r < 2048
    · rw [enc2 (by omega) h2]; exact add2 v xs r B w hB hown hl (by omega) h2
    by_cases h3 : r < 55296
    · rw [enc3 (by omega) (by omega)]; exact add3a v xs r B w hB hown hl (by omega) h3
    by_cases h4 : r < 65536
    · rw [enc3 (by omega) (by omega)]; exact add3b v xs r B w hB hown hl (by omega) h4
    · rw [enc4 (by omega)]; exact add4 v xs r B w hB hown hl (by omega) (by omega)
end Go.Proofs.Ytjpmffgjlfjgaaa
