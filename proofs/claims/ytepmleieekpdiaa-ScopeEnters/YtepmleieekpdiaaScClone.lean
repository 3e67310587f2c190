/-
  The walks of strings.Clone, scope.copied and scope.New.
-/
import Derived.Test.YtepmleieekpdiaaScMem
import Derived.Lib.UnsafeStr
import Derived.Lib.AppendStr
import Derived.Lib.BufferWrite
import Derived.Deep.RegionWith
set_option linter.unusedSimpArgs false
set_option linter.unusedVariables false
namespace Go.Proofs.Ytepmleieekpdiaa
open Go.RowKit

theorem info5 : (Try.prog.info? 5).map (fun i => (i.zero, i.size, i.bytes)) = some (some (.int .u8 0), 1, 1) := by kernel_rfl
set_option maxHeartbeats 2000000 in
set_option maxRecDepth 100000 in
theorem clone0_any (s : ByteArray) (w : World) (hlim : s.size ≤ 140737488351232) :
    Calls Try.prog 35 #[.string s] w fun e w' => e = .returned (.string s) ∧ Below w.heap.size w w' := by
  by_cases h0 : s.size = 0
  · have hs : s = ⟨#[]⟩ := by
      apply ByteArray.ext
      exact Array.eq_empty_of_size_eq_zero h0
    subst hs
    go_enter Try.func35, Try.ntmps35
    go_wp2
    go_ret
    exact ⟨rfl, Below.refl _ _⟩
  · obtain ⟨i0, hi, hz0, hz1, hz2⟩ := info_parts info5
    have hinfo : (Try.prog.info? 5).map (·.size) = some 1 := by rw [hi]; simp [hz1]
    have hco : Try.prog.cellsOf 5 = 1 := by kernel_rfl
    obtain ⟨M, hM⟩ : ∃ M, M = madeCells (Value.int .u8 0).cells (((s.size : Nat) : Int).toNat * i0.size) := ⟨_, rfl⟩
    have hMs : M.size = s.size := by rw [hM, size_madeCells, hz1]; simp
    have hmk : ∀ W : World, (Instr.makeSlice 82 (.int .i64 (s.size : Int)) (.int .i64 (s.size : Int))).run Try.prog W = .ok (.slice (some ⟨W.heap.size, 0, none⟩) s.size s.size) (W.alloc (.cells M 5)) := fun W => by
      have h := run_make (P := Try.prog) W 82 5 i0 (.int .u8 0) Try.underlying82 hi hz0 .i64 .i64 (s.size : Int) (s.size : Int) (by omega) (by omega) (by rw [hz2]; omega) (by omega)
      rw [← hM] at h
      simpa using h
    clear hM
    have hcp := Lib.run_copy_row_string (P := Try.prog) (w.alloc (.cells M 5)) 82 9 3 5 w.heap.size 0 s.size s.size s M 5 Try.underlying82 hinfo (heap_alloc_new w _) (Nat.le_refl _) (by omega)
    obtain ⟨Y, hY⟩ : ∃ Y, Y = (M.toList.take 0 ++ Lib.byteCells s.data.toList ++ M.toList.drop (0 + s.size)).toArray := ⟨_, rfl⟩
    rw [← hY] at hcp
    have hYl : Y.toList = Lib.byteCells s.data.toList := by
      rw [hY, List.toList_toArray, List.take_zero, List.nil_append, List.drop_of_length_le (by rw [Array.length_toList]; omega), List.append_nil]
    have hYs : Y.size = s.size := by rw [← Array.length_toList, hYl, Lib.byteCells_length, ← Lib.size_eq]
    have hgY : ((w.alloc (.cells M 5)).setRow w.heap.size Y).heap[w.heap.size]? = some (.cells Y 5 (0, 0)) := setRow_heap _ _ M _ 5 (0, 0) (heap_alloc_new w _)
    have hne : s.data.toList ≠ [] := fun e => h0 (by rw [Lib.size_eq, e]; rfl)
    have hUS := Lib.run_unsafeString_row (P := Try.prog) ((w.alloc (.cells M 5)).setRow w.heap.size Y) 83 3 9 5 Try.underlying83 hco w.heap.size Y.size (by unfold World.shape?; rw [hgY]) s.data.toList hne (by rw [← Lib.size_eq]; omega) (by rw [← Lib.size_eq]; omega)
      (fun j x hx => Lib.cells_of_row hgY Y.size j _ (by rw [List.take_of_length_le (by rw [Array.length_toList]; exact Nat.le_refl _), hYl]; simp [Lib.byteCells, hx]))
    rw [← Lib.size_eq] at hUS
    clear hY
    go_enter Try.func35, Try.ntmps35
    go_wp2
    go_ret
    have hb1 : Below w.heap.size w (w.alloc (.cells M 5)) := (Below.refl _ w).alloc (Nat.le_refl _) _
    have hb2 : Below w.heap.size (w.alloc (.cells M 5)) ((w.alloc (.cells M 5)).setRow w.heap.size Y) := ⟨rfl, rfl, rfl, by simp, fun k hk => setRow_other _ _ _ _ (by omega)⟩
    exact ⟨rfl, Lib.below_freeze (hb1.trans hb2) (p := ⟨w.heap.size, 0, none⟩) (Nat.le_refl _) _⟩
set_option maxRecDepth 100000 in
theorem clone_any (s : ByteArray) (w : World) (hlim : s.size ≤ Lim) :
    Calls Try.prog 26 #[.string s] w fun e w' => e = .returned (.string s) ∧ Below w.heap.size w w' := by
  have C := Lib.hid (clone0_any s w hlim)
  clear hlim
  go_enter Try.func26, Try.ntmps26
  go_wp2_with (go_at_call 35; refine C.out.mono ?_; rintro e w' ⟨rfl, hb⟩)
  go_ret
  exact ⟨rfl, hb⟩
theorem Try.results30 : Try.f30.results = #[ResultVar.cell 2 50] := by kernel_rfl
def CpS (w : World) (W : World) : Prop := (∃ a b, W.heap[w.heap.size + 1]? = some (.cells #[a, b] 50 (0, 0))) ∧ Below w.heap.size w W
theorem CpS.lt {w W : World} (h : CpS w W) : w.heap.size + 1 < W.heap.size := by
  obtain ⟨⟨a, b, h⟩, _⟩ := h
  exact (Array.getElem?_eq_some_iff.1 h).1
theorem CpS.keep {w W W' : World} (h : CpS w W) (hb : Below W.heap.size W W') : CpS w W' := by
  have hl := h.lt
  obtain ⟨⟨a, b, h⟩, h2⟩ := h
  exact ⟨⟨a, b, (hb.block _ hl).trans h⟩, h2.trans (hb.mono h2.size)⟩
theorem cps_start (w : World) (p s : ByteArray) : CpS w ((w.alloc (.cells #[.string p, .string s] 50)).alloc (.cells #[.string ⟨#[]⟩, .string ⟨#[]⟩] 50)).drew := by
  refine ⟨⟨.string ⟨#[]⟩, .string ⟨#[]⟩, ?_⟩, (((Below.refl _ w).alloc (Nat.le_refl _) _).alloc (by simp) _).drew⟩
  have := heap_alloc_new (w.alloc (.cells #[.string p, .string s] 50)) (.cells #[.string ⟨#[]⟩, .string ⟨#[]⟩] 50)
  rw [World.size_alloc] at this
  exact this
def CpA (w : World) (p s : Value) (W : World) : Prop := W.cell? ⟨w.heap.size, 0, none⟩ = some p ∧ W.cell? ⟨w.heap.size, 1, none⟩ = some s ∧ Hid (CpS w W)
theorem cps_next {w W w2 : World} {p s : Value} (hb : Below W.heap.size W w2) (h : CpA w p s W) : CpA w p s w2 := by
  have hl := h.2.2.out.lt
  exact ⟨(hb.cell (p := ⟨w.heap.size, 0, none⟩) (show w.heap.size < _ by omega)).trans h.1, (hb.cell (p := ⟨w.heap.size, 1, none⟩) (show w.heap.size < _ by omega)).trans h.2.1, Lib.hid (h.2.2.out.keep hb)⟩
theorem cps_put {w W : World} {p s : Value} (h : CpA w p s W) (x y : Value) : CpA w p s ((W.setCell ⟨w.heap.size + 1, 0, none⟩ x).setCell ⟨w.heap.size + 1, 1, none⟩ y) := by
  obtain ⟨h1, h2, h3⟩ := h
  obtain ⟨⟨a, b, h4⟩, h5⟩ := h3.out
  refine ⟨by rw [World.cell?_setCell_far _ _ _ _ (by simp), World.cell?_setCell_far _ _ _ _ (by simp)]; exact h1, by rw [World.cell?_setCell_far _ _ _ _ (by simp), World.cell?_setCell_far _ _ _ _ (by simp)]; exact h2, Lib.hid ⟨⟨x, y, by simp [World.setCell, Array.getElem?_modify, h4]⟩, (h5.setCell (p := ⟨w.heap.size + 1, 0, none⟩) (by simp) _).setCell (p := ⟨w.heap.size + 1, 1, none⟩) (by simp) _⟩⟩
set_option maxHeartbeats 4000000 in
set_option maxRecDepth 100000 in
theorem copied_any (p s : ByteArray) (w : World) (hp : p.size ≤ Lim) (hs : s.size ≤ Lim) :
    Calls Try.prog 30 #[.agg #[.string p, .string s]] w fun e w' => e = .returned (.agg #[.string p, .string s]) ∧ Below w.heap.size w w' := by
  have CP := Lib.hid (fun W => clone_any p W hp)
  have CS := Lib.hid (fun W => clone_any s W hs)
  have H0 := Lib.hid (cps_start w p s)
  clear hp hs
  go_enter Try.func30, Try.ntmps30
  go_wp2_with fail
  go_region_held3 (fun W => W.cell? ⟨w.heap.size, 0, none⟩ = some (.string p) ∧ W.cell? ⟨w.heap.size, 1, none⟩ = some (.string s) ∧ Hid (CpS w W))
    (first
      | exact ⟨by simp, by simp, H0⟩
      | (go_split_ands; exact ⟨by assumption, by assumption, by assumption⟩)
      | exact cps_put ⟨by assumption, by assumption, by assumption⟩ _ _)
    (first
      | (go_at_call_of 26 (Value.string p); refine (CP.out _).mono ?_; rintro e w2 ⟨rfl, hb⟩; obtain ⟨q0, q1, q2⟩ : CpA w (.string p) (.string s) w2 := cps_next hb ⟨by first | assumption | simp, by first | assumption | simp, by assumption⟩; obtain ⟨⟨ya, yb, yh⟩, yB⟩ := q2.out; have z0 : w2.cell? ⟨w.heap.size + 1, 0, none⟩ = some ya := cells_of yh 0 rfl; have z1 : w2.cell? ⟨w.heap.size + 1, 1, none⟩ = some yb := cells_of yh 1 rfl; have f0 := froz_of yh 0; have f1 := froz_of yh 1; have HY := Lib.hid yB; clear yh yB)
      | (go_at_call_of 26 (Value.string s); refine (CS.out _).mono ?_; rintro e w2 ⟨rfl, hb⟩; obtain ⟨q0, q1, q2⟩ : CpA w (.string p) (.string s) w2 := cps_next hb ⟨by first | assumption | simp, by first | assumption | simp, by assumption⟩; obtain ⟨⟨ya, yb, yh⟩, yB⟩ := q2.out; have z0 : w2.cell? ⟨w.heap.size + 1, 0, none⟩ = some ya := cells_of yh 0 rfl; have z1 : w2.cell? ⟨w.heap.size + 1, 1, none⟩ = some yb := cells_of yh 1 rfl; have f0 := froz_of yh 0; have f1 := froz_of yh 1; have HY := Lib.hid yB; clear yh yB))
  all_goals
    go_wp2
    have c0 : ((w2.setCell ⟨w.heap.size + 1, 0, none⟩ (.string p)).setCell ⟨w.heap.size + 1, 1, none⟩ (.string s)).cell? ⟨w.heap.size + 1, 0, none⟩ = some (.string p) := set2_0 _ _ z0
    have c1 : ((w2.setCell ⟨w.heap.size + 1, 0, none⟩ (.string p)).setCell ⟨w.heap.size + 1, 1, none⟩ (.string s)).cell? ⟨w.heap.size + 1, 1, none⟩ = some (.string s) := set2_1 _ _ z1
    exact bodyPost_ret (v := .agg #[.string p, .string s]) (by simp [results, Try.results30, go_sem, c0, c1]) rfl ⟨rfl, (HY.out.setCell (p := ⟨w.heap.size + 1, 0, none⟩) (by simp) _).setCell (p := ⟨w.heap.size + 1, 1, none⟩) (by simp) _⟩
set_option maxRecDepth 100000 in
theorem new_any (w : World) :
    Calls Try.prog 18 #[] w fun e w' => e = .returned (.slice (some ⟨w.heap.size, 0, none⟩) 1 1) ∧ w' = w.alloc (.cells #[.string xm, .string XS] 50) := by
  go_enter Try.func18, Try.ntmps18
  go_wp2
  go_ret
  exact ⟨rfl, rfl⟩
end Go.Proofs.Ytepmleieekpdiaa
