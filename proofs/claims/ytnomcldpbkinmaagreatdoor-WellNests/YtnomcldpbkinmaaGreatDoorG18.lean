/-
  Merged by program out of the texts ScClone, ScFind of one seat.
-/
import Derived.Test.YtnomcldpbkinmaaGreatDoorG17
import Derived.Lib.UnsafeStr
import Derived.Lib.AppendStr
import Derived.Lib.BufferWrite
import Derived.Deep.RegionWith
import Derived.RangeFuncNested
import Derived.RangeFuncBox
import Derived.RangeFuncBound
import Derived.RangeFuncCalls
import Derived.RangeFuncLeaves
import Derived.Shelf.Abstract
import Derived.Shelf.RegionOpen
import Derived.WalkKit
import Derived.OwnWalkIn
import Derived.TacticsInMore
import Derived.LoopNIn
import Derived.LoopIn

/- The walks of strings.Clone, scope.copied and scope.New. -/
set_option linter.unusedSimpArgs false
set_option linter.unusedVariables false
namespace Go.Proofs.YtnomcldpbkinmaaGreatDoor.Nz.Sc
open Go.RowKit

theorem info5 : (Tryz.prog.info? 5).map (fun i => (i.zero, i.size, i.bytes)) = some (some (.int .u8 0), 1, 1) := by kernel_rfl
set_option maxHeartbeats 2000000 in
set_option maxRecDepth 100000 in
theorem clone0_any (s : ByteArray) (w : World) (hlim : s.size ≤ 140737488351232) :
    Calls Tryz.prog 127 #[.string s] w fun e w' => e = .returned (.string s) ∧ Below w.heap.size w w' := by
  by_cases h0 : s.size = 0
  · have hs : s = ⟨#[]⟩ := by
      apply ByteArray.ext
      exact Array.eq_empty_of_size_eq_zero h0
    subst hs
    go_enter Tryz.func127, Tryz.ntmps127
    go_wp2
    go_ret
    exact ⟨rfl, Below.refl _ _⟩
  · obtain ⟨i0, hi, hz0, hz1, hz2⟩ := info_parts info5
    have hinfo : (Tryz.prog.info? 5).map (·.size) = some 1 := by rw [hi]; simp [hz1]
    have hco : Tryz.prog.cellsOf 5 = 1 := by kernel_rfl
    obtain ⟨M, hM⟩ : ∃ M, M = madeCells (Value.int .u8 0).cells (((s.size : Nat) : Int).toNat * i0.size) := ⟨_, rfl⟩
    have hMs : M.size = s.size := by rw [hM, size_madeCells, hz1]; simp
    have hmk : ∀ W : World, (Instr.makeSlice 65 (.int .i64 (s.size : Int)) (.int .i64 (s.size : Int))).run Tryz.prog W = .ok (.slice (some ⟨W.heap.size, 0, none⟩) s.size s.size) (W.alloc (.cells M 5)) := fun W => by
      have h := run_make (P := Tryz.prog) W 65 5 i0 (.int .u8 0) Tryz.underlying65 hi hz0 .i64 .i64 (s.size : Int) (s.size : Int) (by omega) (by omega) (by rw [hz2]; omega) (by omega)
      rw [← hM] at h
      simpa using h
    clear hM
    have hcp := Lib.run_copy_row_string (P := Tryz.prog) (w.alloc (.cells M 5)) 65 9 3 5 w.heap.size 0 s.size s.size s M 5 Tryz.underlying65 hinfo (heap_alloc_new w _) (Nat.le_refl _) (by omega)
    obtain ⟨Y, hY⟩ : ∃ Y, Y = (M.toList.take 0 ++ Lib.byteCells s.data.toList ++ M.toList.drop (0 + s.size)).toArray := ⟨_, rfl⟩
    rw [← hY] at hcp
    have hYl : Y.toList = Lib.byteCells s.data.toList := by
      rw [hY, List.toList_toArray, List.take_zero, List.nil_append, List.drop_of_length_le (by rw [Array.length_toList]; omega), List.append_nil]
    have hYs : Y.size = s.size := by rw [← Array.length_toList, hYl, Lib.byteCells_length, ← Lib.size_eq]
    have hgY : ((w.alloc (.cells M 5)).setRow w.heap.size Y).heap[w.heap.size]? = some (.cells Y 5 (0, 0)) := setRow_heap _ _ M _ 5 (0, 0) (heap_alloc_new w _)
    have hne : s.data.toList ≠ [] := fun e => h0 (by rw [Lib.size_eq, e]; rfl)
    have hUS := Lib.run_unsafeString_row (P := Tryz.prog) ((w.alloc (.cells M 5)).setRow w.heap.size Y) 208 3 9 5 Tryz.underlying208 hco w.heap.size Y.size (by unfold World.shape?; rw [hgY]) s.data.toList hne (by rw [← Lib.size_eq]; omega) (by rw [← Lib.size_eq]; omega)
      (fun j x hx => Lib.cells_of_row hgY Y.size j _ (by rw [List.take_of_length_le (by rw [Array.length_toList]; exact Nat.le_refl _), hYl]; simp [Lib.byteCells, hx]))
    rw [← Lib.size_eq] at hUS
    clear hY
    go_enter Tryz.func127, Tryz.ntmps127
    go_wp2
    go_ret
    have hb1 : Below w.heap.size w (w.alloc (.cells M 5)) := (Below.refl _ w).alloc (Nat.le_refl _) _
    have hb2 : Below w.heap.size (w.alloc (.cells M 5)) ((w.alloc (.cells M 5)).setRow w.heap.size Y) := ⟨rfl, rfl, rfl, by simp, fun k hk => setRow_other _ _ _ _ (by omega)⟩
    exact ⟨rfl, Lib.below_freeze (hb1.trans hb2) (p := ⟨w.heap.size, 0, none⟩) (Nat.le_refl _) _⟩
set_option maxRecDepth 100000 in
theorem clone_any (s : ByteArray) (w : World) (hlim : s.size ≤ Lim) :
    Calls Tryz.prog 102 #[.string s] w fun e w' => e = .returned (.string s) ∧ Below w.heap.size w w' := by
  have C := Lib.hid (clone0_any s w hlim)
  clear hlim
  go_enter Tryz.func102, Tryz.ntmps102
  go_wp2_with (go_at_call 127; refine C.out.mono ?_; rintro e w' ⟨rfl, hb⟩)
  go_ret
  exact ⟨rfl, hb⟩
theorem Tryz.results96 : Tryz.f96.results = #[ResultVar.cell 2 75] := by kernel_rfl
def CpS (w : World) (W : World) : Prop := (∃ a b, W.heap[w.heap.size + 1]? = some (.cells #[a, b] 75 (0, 0))) ∧ Below w.heap.size w W
theorem CpS.lt {w W : World} (h : CpS w W) : w.heap.size + 1 < W.heap.size := by
  obtain ⟨⟨a, b, h⟩, _⟩ := h
  exact (Array.getElem?_eq_some_iff.1 h).1
theorem CpS.keep {w W W' : World} (h : CpS w W) (hb : Below W.heap.size W W') : CpS w W' := by
  have hl := h.lt
  obtain ⟨⟨a, b, h⟩, h2⟩ := h
  exact ⟨⟨a, b, (hb.block _ hl).trans h⟩, h2.trans (hb.mono h2.size)⟩
theorem cps_start (w : World) (p s : ByteArray) : CpS w ((w.alloc (.cells #[.string p, .string s] 75)).alloc (.cells #[.string ⟨#[]⟩, .string ⟨#[]⟩] 75)).drew := by
  refine ⟨⟨.string ⟨#[]⟩, .string ⟨#[]⟩, ?_⟩, (((Below.refl _ w).alloc (Nat.le_refl _) _).alloc (by simp) _).drew⟩
  have := heap_alloc_new (w.alloc (.cells #[.string p, .string s] 75)) (.cells #[.string ⟨#[]⟩, .string ⟨#[]⟩] 75)
  rw [World.size_alloc] at this
  exact this
def CpA (w : World) (p s : Value) (W : World) : Prop := W.cell? ⟨w.heap.size, 0, none⟩ = some p ∧ W.cell? ⟨w.heap.size, 1, none⟩ = some s ∧ Hid (CpS w W)
theorem cps_next {w W w2 : World} {p s : Value} (hb : Below W.heap.size W w2) (h : CpA w p s W) : CpA w p s w2 := by
  have hl := h.2.2.out.lt
  exact ⟨(hb.cell (p := ⟨w.heap.size, 0, none⟩) (show w.heap.size < _ by omega)).trans h.1, (hb.cell (p := ⟨w.heap.size, 1, none⟩) (show w.heap.size < _ by omega)).trans h.2.1, Lib.hid (h.2.2.out.keep hb)⟩
theorem cps_put {w W : World} {p s : Value} (h : CpA w p s W) (x y : Value) : CpA w p s ((W.setCell ⟨w.heap.size + 1, 0, none⟩ x).setCell ⟨w.heap.size + 1, 1, none⟩ y) := by
  obtain ⟨h1, h2, h3⟩ := h
  obtain ⟨⟨a, b, h4⟩, h5⟩ := h3.out
  refine ⟨by rw [World.cell?_setCell_far _ _ _ _ (by simp), World.cell?_setCell_far _ _ _ _ (by simp)]; exact h1, by rw [World.cell?_setCell_far _ _ _ _ (by simp), World.cell?_setCell_far _ _ _ _ (by simp)]; exact h2, Lib.hid ⟨⟨x, y, by simp [World.setCell, Array.getElem?_modify, h4]⟩, (h5.setCell (p := ⟨w.heap.size + 1, 0, none⟩) (by simp) _).setCell (p := ⟨w.heap.size + 1, 1, none⟩) (by simp) _⟩⟩
set_option maxHeartbeats 4000000 in
set_option maxRecDepth 100000 in
theorem copied_any (p s : ByteArray) (w : World) (hp : p.size ≤ Lim) (hs : s.size ≤ Lim) :
    Calls Tryz.prog 96 #[.agg #[.string p, .string s]] w fun e w' => e = .returned (.agg #[.string p, .string s]) ∧ Below w.heap.size w w' := by
  have CP := Lib.hid (fun W => clone_any p W hp)
  have CS := Lib.hid (fun W => clone_any s W hs)
  have H0 := Lib.hid (cps_start w p s)
  clear hp hs
  go_enter Tryz.func96, Tryz.ntmps96
  go_wp2_with fail
  go_region_held3 (fun W => W.cell? ⟨w.heap.size, 0, none⟩ = some (.string p) ∧ W.cell? ⟨w.heap.size, 1, none⟩ = some (.string s) ∧ Hid (CpS w W))
    (first
      | exact ⟨by simp, by simp, H0⟩
      | (go_split_ands; exact ⟨by assumption, by assumption, by assumption⟩)
      | exact cps_put ⟨by assumption, by assumption, by assumption⟩ _ _)
    (first
      | (go_at_call_of 102 (Value.string p); refine (CP.out _).mono ?_; rintro e w2 ⟨rfl, hb⟩; obtain ⟨q0, q1, q2⟩ : CpA w (.string p) (.string s) w2 := cps_next hb ⟨by first | assumption | simp, by first | assumption | simp, by assumption⟩; obtain ⟨⟨ya, yb, yh⟩, yB⟩ := q2.out; have z0 : w2.cell? ⟨w.heap.size + 1, 0, none⟩ = some ya := cells_of yh 0 rfl; have z1 : w2.cell? ⟨w.heap.size + 1, 1, none⟩ = some yb := cells_of yh 1 rfl; have f0 := froz_of yh 0; have f1 := froz_of yh 1; have HY := Lib.hid yB; clear yh yB)
      | (go_at_call_of 102 (Value.string s); refine (CS.out _).mono ?_; rintro e w2 ⟨rfl, hb⟩; obtain ⟨q0, q1, q2⟩ : CpA w (.string p) (.string s) w2 := cps_next hb ⟨by first | assumption | simp, by first | assumption | simp, by assumption⟩; obtain ⟨⟨ya, yb, yh⟩, yB⟩ := q2.out; have z0 : w2.cell? ⟨w.heap.size + 1, 0, none⟩ = some ya := cells_of yh 0 rfl; have z1 : w2.cell? ⟨w.heap.size + 1, 1, none⟩ = some yb := cells_of yh 1 rfl; have f0 := froz_of yh 0; have f1 := froz_of yh 1; have HY := Lib.hid yB; clear yh yB))
  all_goals
    go_wp2
    have c0 : ((w2.setCell ⟨w.heap.size + 1, 0, none⟩ (.string p)).setCell ⟨w.heap.size + 1, 1, none⟩ (.string s)).cell? ⟨w.heap.size + 1, 0, none⟩ = some (.string p) := set2_0 _ _ z0
    have c1 : ((w2.setCell ⟨w.heap.size + 1, 0, none⟩ (.string p)).setCell ⟨w.heap.size + 1, 1, none⟩ (.string s)).cell? ⟨w.heap.size + 1, 1, none⟩ = some (.string s) := set2_1 _ _ z1
    exact bodyPost_ret (v := .agg #[.string p, .string s]) (by simp [results, Tryz.results96, go_sem, c0, c1]) rfl ⟨rfl, (HY.out.setCell (p := ⟨w.heap.size + 1, 0, none⟩) (by simp) _).setCell (p := ⟨w.heap.size + 1, 1, none⟩) (by simp) _⟩
set_option maxRecDepth 100000 in
theorem new_any (w : World) :
    Calls Tryz.prog 81 #[] w fun e w' => e = .returned (.slice (some ⟨w.heap.size, 0, none⟩) 1 1) ∧ w' = w.alloc (.cells #[.string xm, .string XS] 75) := by
  go_enter Tryz.func81, Tryz.ntmps81
  go_wp2
  go_ret
  exact ⟨rfl, rfl⟩
end Go.Proofs.YtnomcldpbkinmaaGreatDoor.Nz.Sc

/- The walks of slices.Backward over bindings and of scope.Find. -/
set_option linter.unusedSimpArgs false
set_option linter.unusedVariables false
namespace Go.Proofs.YtnomcldpbkinmaaGreatDoor.Nz.Sc
open Go.RowKit Go.Shelf

attribute [local go_sem] Oper.semAt_some

/-- What has come when k rounds are over. -/
def upto {α : Type} (f : Nat → α) (k : Nat) : List α := (List.range k).map f
theorem upto_succ {α : Type} (f : Nat → α) (k : Nat) : upto f (k + 1) = upto f k ++ [f k] := by simp [upto, List.range_succ]
theorem upto_length {α : Type} (f : Nat → α) (k : Nat) : (upto f k).length = k := by simp [upto]
theorem upto_mem {α : Type} (f : Nat → α) (k j : Nat) (h : j < k) : f j ∈ upto f k := by
  simp only [upto, List.mem_map, List.mem_range]
  exact ⟨j, h, rfl⟩

/-- A binding whose space may be copied. -/
abbrev LB := { b : P2 // b.2.size ≤ Lim }
def lat (l : List P2) (h : LimL l) (k : Nat) : LB := ⟨l.getD k (em, em), by
  rw [List.getD_eq_getElem?_getD]
  cases hk : l[k]? with
  | none => exact Nat.zero_le _
  | some x => exact (h x (List.mem_of_getElem? hk)).2⟩
theorem lat_get {l : List P2} (h : LimL l) {k : Nat} {x : P2} (hk : l[k]? = some x) : (lat l h k).1 = x := by
  show l.getD k (em, em) = x
  rw [List.getD_eq_getElem?_getD, hk]
  rfl
/-- The pair that comes in round k. -/
def bk (l : List P2) (h : LimL l) (k : Nat) : Nat × LB := (l.length - 1 - k, lat l h (l.length - 1 - k))
def encB (x : Nat × LB) : Array Value := #[.int .i64 (x.1 : Int), .agg #[.string x.2.1.1, .string x.2.1.2]]
/-- The slice at A reads as these pairs, in a block below n. -/
def RdN (n : Nat) (w : World) (A : Option Addr) (l : List P2) : Prop :=
  ∀ k x, l[k]? = some x → ∃ b off, A = some ⟨b, off, none⟩ ∧ b < n ∧ w.cell? ⟨b, off + k * 2, none⟩ = some (.string x.1) ∧ w.cell? ⟨b, off + k * 2 + 1, none⟩ = some (.string x.2)
theorem RdN.below {n : Nat} {w w' : World} {A : Option Addr} {l : List P2} (h : RdN n w A l) (hb : Below n w w') : RdN n w' A l := fun k x hk => by
  obtain ⟨b, o, e, hlt, c0, c1⟩ := h k x hk
  exact ⟨b, o, e, hlt, (hb.cell (p := ⟨b, o + k * 2, none⟩) hlt).trans c0, (hb.cell (p := ⟨b, o + k * 2 + 1, none⟩) hlt).trans c1⟩
set_option maxRecDepth 100000 in
set_option maxHeartbeats 2000000 in
theorem bw1_in (n : Nat) (hn : 1 ≤ n) (l : Nat) (Bs n₀ cap : Nat) (A : Option Addr) (L : List P2) (N : Nat) (hN : N = L.length) (hlim : LimL L) (hreach : N ≤ 1000000) (J Jx : List (Nat × LB) → World → Prop)
    (hY : ∀ pre x W, J pre W → pre.length < N → YieldAt Fence.wide (n - 1) Tryz.prog l (encB x) W fun e W' =>
      (e = .returned (.bool true) ∧ J (pre ++ [x]) W' ∧ Below n₀ W W') ∨ (e = .returned (.bool false) ∧ Jx (pre ++ [x]) W'))
    (W : World) (hBs : W.cell? ⟨Bs, 0, none⟩ = some (.slice A N cap)) (hlt : Bs < n₀) (hR : RdN n₀ W A L) (h0 : J [] W) :
    CallsIn Fence.wide n Tryz.prog 177 #[.func (.yield l) #[] #[], .pointer (some ⟨Bs, 0, none⟩)] W fun e W' => (∃ v, e = .returned v) ∧
      ((∃ ys, ys = upto (bk L hlim) N ∧ J ys W') ∨ (∃ pre, (∃ k, k ≤ N ∧ pre = upto (bk L hlim) k) ∧ Jx pre W')) := by
  have HR := Lib.hid hR
  have HN := Lib.hid hN
  clear hR hN
  refine callsIn_of_wp Tryz.func177 rfl trivial ?_ rfl
  simp only [Tryz.ntmps177, List.size_toArray, List.length_cons, List.length_nil, Nat.reduceAdd, Nat.reduceSub, Array.replicate_succ, Array.replicate_zero, List.push_toArray, List.append_toArray, List.nil_append, List.cons_append]
  gi_wp2
  gi_loopw [3] (fun i wr => ∃ m : Nat, m ≤ N ∧ i = .int .i64 ((m : Int) - 1) ∧ J (upto (bk L hlim) (N - m)) wr ∧ Hid (Below n₀ W wr))
    (fun i _ => (intOf i + 1).toNat)
  case atStart => exact ⟨N, Nat.le_refl _, by simp, by rw [Nat.sub_self]; exact h0, Lib.hid (Below.refl _ _)⟩
  case round =>
    obtain ⟨m, hm, rfl, hJs, hnx⟩ := hrel
    have hBs' : wr.cell? ⟨Bs, 0, none⟩ = some (.slice A N cap) := (hnx.out.cell (p := ⟨Bs, 0, none⟩) hlt).trans hBs
    clear hBs
    cases m with
    | zero =>
      have e0 : (((0 : Nat) : Int) - 1) = -1 := by omega
      rw [e0]
      rw [Nat.sub_zero] at hJs
      gi_wp2
      go_end0
      exact ⟨⟨_, rfl⟩, .inl ⟨_, rfl, hJs⟩⟩
    | succ m =>
      have e1 : (((m + 1 : Nat) : Int) - 1) = (m : Int) := by omega
      rw [e1]
      have hml : m < L.length := by rw [← HN.out]; omega
      obtain ⟨b, off, rfl, hb, x0, x1⟩ := (HR.out.below hnx.out) m _ (List.getElem?_eq_getElem hml)
      have ebk : bk L hlim (N - (m + 1)) = (m, lat L hlim m) := by
        unfold bk
        have : L.length - 1 - (N - (m + 1)) = m := by rw [← HN.out]; omega
        rw [this]
      have elat : (lat L hlim m).1 = L[m] := lat_get hlim (List.getElem?_eq_getElem hml)
      obtain ⟨fn, tmps, assign, body, hy, hR'⟩ := hY _ (m, lat L hlim m) wr hJs (by rw [upto_length]; omega)
      unfold encB at hy
      dsimp only at hy
      rw [← elat] at x0 x1
      have hnext : N - m = N - (m + 1) + 1 := by omega
      have d1 : (m : Int) < (N : Int) := by omega
      have d0 : (0 : Int) ≤ (m : Int) := by omega
      have HE := Lib.hid ebk
      have HX := Lib.hid hnext
      clear e1 ebk elat hnext HR HN
      generalize lat L hlim m = lm at *
      gi_wp2
      refine hR'.mono ?_
      rintro e W3 (⟨rfl, hJ3, hk3⟩ | ⟨rfl, hJx3⟩)
      · gi_wp2
        go_roundw
        case rel => exact ⟨m, by omega, by go_num, by rw [HX.out, upto_succ, HE.out]; exact hJ3, Lib.hid (hnx.out.trans hk3)⟩
        case measure => simp [intOf]
      · gi_wp2
        refine bodyPost_ret (results_none rfl _ _ _) rfl ?_
        exact ⟨⟨_, rfl⟩, .inr ⟨_, ⟨N - (m + 1) + 1, by omega, by rw [upto_succ, HE.out]⟩, hJx3⟩⟩
set_option maxHeartbeats 1000000 in
set_option maxRecDepth 100000 in
theorem bw_any (a : Option Addr) (len cap : Nat) (w : World) :
    Calls Tryz.prog 156 #[.slice a len cap] w fun e w' => e = .returned (.func (.func 177) #[] #[.pointer (some ⟨w.heap.size, 0, none⟩)]) ∧ w' = w.alloc (.cells #[.slice a len cap] 76) := by
  go_enter Tryz.func156, Tryz.ntmps156
  go_wp2
  go_ret
  exact ⟨rfl, rfl⟩
theorem bw_stops (n : Nat) (hn : 1 ≤ n) (Bs n₀ cap : Nat) (A : Option Addr) (L : List P2) (N : Nat) (hN : N = L.length) (hlim : LimL L) (hreach : N ≤ 1000000) (w : World) (hlt : Bs < w.heap.size) (hn₀ : n₀ ≤ w.heap.size)
    (hBs : w.cell? ⟨Bs, 0, none⟩ = some (.slice A N cap)) (hB0 : Bs < n₀) (hR : RdN n₀ w A L) :
    SeqStopsK Fence.wide n Tryz.prog 177 #[.pointer (some ⟨Bs, 0, none⟩)] encB (Below n₀) (fun ys => ys = upto (bk L hlim) N) (fun pre => ∃ k, k ≤ N ∧ pre = upto (bk L hlim) k) N w := fun l J Jx W hW _ _ hY h0 => by
  have hc' := (hW.cell (p := ⟨Bs, 0, none⟩) hlt).trans hBs
  exact bw1_in n hn l Bs n₀ cap A L N hN hlim hreach J Jx hY W hc' hB0 (hR.below (hW.mono hn₀)) h0
theorem blk_own {β : Type} (B : Nat) (t : TypeId) (f : β → Array Value) : Go.Own (fun s W => W.heap[B]? = some (.cells (f s) t (0, 0))) := fun s X Y row hs hg hrow =>
  (hg.block B (Array.getElem?_eq_some_iff.1 hs).1 (fun e' => by obtain ⟨o, ho, hc⟩ := hrow B e'.symm; rw [hs] at ho; cases ho; cases hc)).trans hs
theorem keeps_below {W W' : World} (h : Below W.heap.size W W') : KeepsOthers W W' := KeepsOthers.of_grownBy (row := none) ⟨h.os, h.tape, h.output, h.size, fun k hk _ => h.block k hk⟩ (fun j o e => by cases e)
theorem boxed_low {W W' : World} {B : Nat} {t : TypeId} {v : Value} (h : Boxed W B t v) (hb : Below W.heap.size W W') : Boxed W' B t v := (hb.block B h.lt).trans h
theorem fnd_stop {L : List P2} (hlim : LimL L) (p : ByteArray) (k : Nat) (hk : k < L.length) (h1 : ∀ j, j < k → eqb (bk L hlim j).2.1.1 p = false) (h2 : eqb (bk L hlim k).2.1.1 p = true) : fndF L p = ((bk L hlim k).2.1.2, true) := by
  have hx := List.getElem?_eq_getElem (show L.length - 1 - k < L.length by omega)
  have e : (bk L hlim k).2.1 = L[L.length - 1 - k]'(by omega) := lat_get hlim hx
  rw [e] at h2 ⊢
  refine fnd_hit L p _ _ hx h2 (fun j x hj hxj => ?_)
  have hjl : j < L.length := (List.getElem?_eq_some_iff.1 hxj).1
  have := h1 (L.length - 1 - j) (by omega)
  have ej : L.length - 1 - (L.length - 1 - j) = j := by omega
  have e2 : (bk L hlim (L.length - 1 - j)).2.1 = x := by
    unfold bk
    dsimp only
    rw [ej]
    exact lat_get hlim hxj
  rw [e2] at this
  exact this
theorem fnd_done {L : List P2} (hlim : LimL L) (p : ByteArray) (h1 : ∀ j, j < L.length → eqb (bk L hlim j).2.1.1 p = false) : fndF L p = (em, eqb p em) := by
  refine fnd_none L p (fun j x hxj => ?_)
  have hjl : j < L.length := (List.getElem?_eq_some_iff.1 hxj).1
  have := h1 (L.length - 1 - j) (by omega)
  have ej : L.length - 1 - (L.length - 1 - j) = j := by omega
  have e2 : (bk L hlim (L.length - 1 - j)).2.1 = x := by
    unfold bk
    dsimp only
    rw [ej]
    exact lat_get hlim hxj
  rw [e2] at this
  exact this
theorem eqb_em (p : ByteArray) : eqb p em = p.toList.isEmpty := by
  have e : em.toList = [] := by rw [Lib.toList_data]; rfl
  unfold eqb
  rw [e]
  cases p.toList <;> rfl
theorem Tryz.results126 : Tryz.f126.results = #[ResultVar.cell 4 9, ResultVar.cell 5 4] := by kernel_rfl
set_option maxHeartbeats 4000000 in
set_option maxRecDepth 100000 in
theorem find_any (A : Option Addr) (N cap : Nat) (p : ByteArray) (L : List P2) (w : World) (hN : N = L.length) (hlim : LimL L) (hreach : N ≤ 1000000) (hR : RdR w A L) :
    Calls Tryz.prog 126 #[.slice A N cap, .string p] w fun e w' => e = .returned (.tuple #[.string (fndF L p).1, .bool (fndF L p).2]) ∧ Below w.heap.size w w' := by
  have HN := Lib.hid hN
  clear hN
  refine (callsIn_wide (n := 3)).1 ?_
  refine callsIn_of_wp_marks Tryz.func126 rfl trivial ?_ rfl
  simp only [Tryz.ntmps126, List.size_toArray, List.length_cons, List.length_nil, Nat.reduceAdd, Nat.reduceSub, Array.replicate_succ, Array.replicate_zero, List.push_toArray, List.append_toArray, List.nil_append, List.cons_append]
  gi_wp2_with (refine ⟨trivial, ?_⟩; gi_at_call 156; refine (callsIn_wide.2 (bw_any _ _ _ _)).mono ?_; rintro e w' ⟨rfl, rfl⟩)
  have bP := ((Boxed.new w 9 (.string p)).alloc (.cells #[.string ⟨#[]⟩] 9)).alloc (.cells #[.bool false] 4) |>.alloc (.cells #[.slice A N cap] 76)
  have bR := ((Boxed.new (w.alloc (.cells #[.string p] 9)) 9 (.string ⟨#[]⟩)).alloc (.cells #[.bool false] 4)).alloc (.cells #[.slice A N cap] 76)
  have bO := (Boxed.new ((w.alloc (.cells #[.string p] 9)).alloc (.cells #[.string ⟨#[]⟩] 9)) 4 (.bool false)).alloc (.cells #[.slice A N cap] 76)
  have bS := Boxed.new (((w.alloc (.cells #[.string p] 9)).alloc (.cells #[.string ⟨#[]⟩] 9)).alloc (.cells #[.bool false] 4)) 76 (.slice A N cap)
  simp only [World.size_alloc] at bR bO bS
  have hB0 : Below w.heap.size w ((((w.alloc (.cells #[.string p] 9)).alloc (.cells #[.string ⟨#[]⟩] 9)).alloc (.cells #[.bool false] 4)).alloc (.cells #[.slice A N cap] 76)) := ((((Below.refl _ w).alloc (Nat.le_refl _) _).alloc (by simp) _).alloc (by simp; omega) _).alloc (by simp; omega) _
  have hsz : ((((w.alloc (.cells #[.string p] 9)).alloc (.cells #[.string ⟨#[]⟩] 9)).alloc (.cells #[.bool false] 4)).alloc (.cells #[.slice A N cap] 76)).heap.size = w.heap.size + 4 := by simp
  obtain ⟨W0, hW0⟩ : ∃ W0, ((((w.alloc (.cells #[.string p] 9)).alloc (.cells #[.string ⟨#[]⟩] 9)).alloc (.cells #[.bool false] 4)).alloc (.cells #[.slice A N cap] 76)) = W0 := ⟨_, rfl⟩
  rw [hW0] at bP bR bO bS hB0 hsz ⊢
  clear hW0
  have hRN : RdN W0.heap.size W0 A L := fun k x hk => by
    obtain ⟨b, o, e, hlt, c⟩ := (hR.keep hB0) k x hk
    exact ⟨b, o, e, hlt, c⟩
  refine wpIn_rangeFunc_ownH rfl (by omega) (gf := 177) (lb := #[.pointer (some ⟨w.heap.size + 1 + 1 + 1, 0, none⟩)]) rfl trivial (enters_of Tryz.func177 (by kernel_rfl) rfl)
    (bw_stops (3 - 1) (by omega) (w.heap.size + 1 + 1 + 1) W0.heap.size cap A L N HN.out hlim hreach W0 (by omega) (Nat.le_refl _) bS.cell (by omega) hRN) belowK_t (belowK_b (Nat.le_refl _)) (Below.refl _ _) (fun _ => rfl)
    (fun pre W => ((∀ q ∈ pre, eqb q.2.1.1 p = false) ∧ Boxed W w.heap.size 9 (.string p) ∧ Boxed W (w.heap.size + 1) 9 (.string ⟨#[]⟩) ∧ Boxed W (w.heap.size + 1 + 1) 4 (.bool false)) ∧ Below W0.heap.size W0 W)
    (fun c pre W => ((c = .ret ∧ ∃ ini last, pre = ini ++ [last] ∧ (∀ q ∈ ini, eqb q.2.1.1 p = false) ∧ eqb last.2.1.1 p = true ∧ Boxed W (w.heap.size + 1) 9 (.string last.2.1.2) ∧ Boxed W (w.heap.size + 1 + 1) 4 (.bool true)) ∧ Below w.heap.size w W))
    (OwnFrom.and (OwnFrom.and (ownFrom_pure _ _) (OwnFrom.and (Own.from (boxed_own _ _ (fun _ => _)) _) (OwnFrom.and (Own.from (boxed_own _ _ (fun _ => _)) _) (Own.from (boxed_own _ _ (fun _ => _)) _)))) (ownFrom_below (Nat.le_refl _) (Nat.le_refl _)))
    (fun c => OwnFrom.and (fun s X Y row hs hg hr => by
      obtain ⟨hc, ini, last, e1, e2, e3, e4, e5⟩ := hs
      exact ⟨hc, ini, last, e1, e2, e3, boxed_own _ 9 (fun (_ : Unit) => Value.string last.2.1.2) () X Y row e4 hg (fun r e => (hr r e).2), boxed_own _ 4 (fun (_ : Unit) => Value.bool true) () X Y row e5 hg (fun r e => (hr r e).2)⟩) (ownFrom_below (Nat.le_refl _) (by omega)))
    ⟨⟨by simp, bP, bR, bO⟩, Below.refl _ _⟩
    (fun x a' W => ∃ Bx, W0.heap.size ≤ Bx ∧ W.heap[Bx]? = some (.cells #[.string x.2.1.1, .string x.2.1.2] 75 (0, 0)) ∧ a' = { tmps := #[.slice A N cap, .string p, undef, .pointer (some ⟨w.heap.size, 0, none⟩), .pointer (some ⟨w.heap.size + 1, 0, none⟩), .pointer (some ⟨w.heap.size + 1 + 1, 0, none⟩), undef, .pointer (some ⟨Bx, 0, none⟩), .slice A N cap, .func (.func 177) #[] #[.pointer (some ⟨w.heap.size + 1 + 1 + 1, 0, none⟩)], .int .i64 (x.1 : Int), .agg #[.string x.2.1.1, .string x.2.1.2], undef, undef, undef, undef, undef, undef, undef, undef, undef], defers := [] })
    (fun x a' _ X Y row hs hg hr => by obtain ⟨Bx, h1, h2, h3⟩ := hs; exact ⟨Bx, h1, blk_own Bx 75 (fun (_ : Unit) => #[.string x.2.1.1, .string x.2.1.2]) () X Y row h2 hg (fun r e => (hr r e).2), h3⟩)
    ?assign ?body ?done ?stop
  case assign =>
    rintro l pre ⟨xi, ⟨⟨xp, xs⟩, hxs⟩⟩ W K ⟨⟨hp, bP1, bR1, bO1⟩, hB1⟩ hK
    simp only [encB]
    gi_wp2
    exact hK _ _ ((KeepsOthers.alloc _ _).from _) ((Below.refl _ W).alloc hB1.size _) ⟨⟨hp, bP1.alloc _, bR1.alloc _, bO1.alloc _⟩, hB1.alloc hB1.size _⟩ ⟨W.heap.size, hB1.size, World.alloc_heap_new W _, rfl⟩
  case body =>
    rintro l pre ⟨xi, ⟨⟨xp, xs⟩, hxs⟩⟩ a' W hl ⟨r, hr⟩ ⟨⟨hp, bP1, bR1, bO1⟩, hB1⟩ ⟨Bx, hBx, bX, rfl⟩ hlt
    dsimp only at bX hxs ⊢
    have c0 := cells_of bX 0 (u := .string xp) rfl
    have c1 := cells_of bX 1 (u := .string xs) rfl
    have cP := bP1.cell
    by_cases he : eqb xp p = true
    · have hq : (xp.toList == p.toList) = true := he
      have C := Lib.hid (fun W => clone_any xs W hxs)
      gi_wp2_with (refine ⟨trivial, ?_⟩; gi_at_call 102; refine (CallsIn.inRound l (callsIn_wide.2 (C.out _))).mono ?_; rintro e w' ⟨rfl, hb⟩; have bR2 := boxed_low bR1 hb; have bO2 := boxed_low bO1 hb; have cR2 := bR2.cell; have fR2 := bR2.frozen; have cO2 := bO2.cell; have fO2 := bO2.frozen)
      have hBw : Below w.heap.size w w' := (hB0.trans (hB1.mono hB0.size)).trans (hb.mono (Nat.le_trans hB0.size hB1.size))
      exact ⟨((keeps_below hb).trans ((KeepsOthers.setCell _ _ _).trans (KeepsOthers.setCell _ _ _))).from _, ⟨rfl, pre, _, rfl, hp, he, (bR2.set _).other (by omega) _, (bO2.other (by omega) _).set _⟩, (hBw.setCell (p := ⟨w.heap.size + 1, 0, none⟩) (by simp) _).setCell (p := ⟨w.heap.size + 1 + 1, 0, none⟩) (by simp; omega) _⟩
    · have hq : (xp.toList == p.toList) = false := by rw [Bool.not_eq_true] at he; exact he
      gi_wp2
      exact ⟨KeepsFrom.refl _ _, Below.refl _ _, ⟨fun q hq' => (List.mem_append.1 hq').elim (hp q) (fun e => by rw [List.mem_singleton] at e; subst e; exact hq), bP1, bR1, bO1⟩, hB1⟩
  case done =>
    rintro D zs W hD rfl ⟨⟨hp, bP1, bR1, bO1⟩, hB1⟩ hK
    have cP := bP1.cell
    have cR := bR1.cell
    have fR := bR1.frozen
    have cO := bO1.cell
    have fO := bO1.frozen
    gi_wp2
    gi_region
    gi_wp2
    have hK' : ((W.setCell ⟨w.heap.size + 1, 0, none⟩ (.string ⟨#[]⟩)).setCell ⟨w.heap.size + 1 + 1, 0, none⟩ (.bool p.toList.isEmpty)).drew.heap[D]? = some (.deferred (some [])) := (KeepsOthers.setCell (W.setCell ⟨w.heap.size + 1, 0, none⟩ (.string ⟨#[]⟩)) ⟨w.heap.size + 1 + 1, 0, none⟩ (.bool p.toList.isEmpty)).same D _ ((KeepsOthers.setCell W ⟨w.heap.size + 1, 0, none⟩ (.string ⟨#[]⟩)).same D _ hK rfl) rfl
    rw [fnd_done hlim p (fun j hj => hp _ (upto_mem _ _ _ (by rw [HN.out]; exact hj))), eqb_em]
    refine ⟨by simp, .inl ⟨_, _, rfl, run_takeDeferred hK', ?_⟩⟩
    have b5 : Boxed ((W.setCell ⟨w.heap.size + 1, 0, none⟩ (.string ⟨#[]⟩)).setCell ⟨w.heap.size + 1 + 1, 0, none⟩ (.bool p.toList.isEmpty)).drew (w.heap.size + 1) 9 (.string ⟨#[]⟩) := (bR1.set _).other (by omega) _
    have b6 : Boxed ((W.setCell ⟨w.heap.size + 1, 0, none⟩ (.string ⟨#[]⟩)).setCell ⟨w.heap.size + 1 + 1, 0, none⟩ (.bool p.toList.isEmpty)).drew (w.heap.size + 1 + 1) 4 (.bool p.toList.isEmpty) := (bO1.other (by omega) _).set _
    have c5 := cell_kept b5.cell (grownBy_putObj' _ D (.deferred none)) (fun r e => by cases e; exact ⟨_, hK', rfl⟩)
    have c6 := cell_kept b6.cell (grownBy_putObj' _ D (.deferred none)) (fun r e => by cases e; exact ⟨_, hK', rfl⟩)
    have hBw : Below w.heap.size w ((W.setCell ⟨w.heap.size + 1, 0, none⟩ (.string ⟨#[]⟩)).setCell ⟨w.heap.size + 1 + 1, 0, none⟩ (.bool p.toList.isEmpty)).drew := (((hB0.trans (hB1.mono hB0.size)).setCell (p := ⟨w.heap.size + 1, 0, none⟩) (by simp) _).setCell (p := ⟨w.heap.size + 1 + 1, 0, none⟩) (by simp; omega) _).drew
    refine ⟨.tuple #[.string em, .bool p.toList.isEmpty], ?_, rfl, hBw.trans (belowK_b (w := w) (Nat.le_refl _) _ D _ _ (by omega) hK' rfl rfl)⟩
    simp [results, Tryz.results126, go_sem, c5, c6, em]
  case stop =>
    rintro D c pre W hD ⟨k, hk, rfl⟩ ⟨⟨rfl, ini, last, e1, e2, e3, bR1, bO1⟩, hB1⟩ hK
    gi_wp2
    obtain ⟨k', rfl⟩ : ∃ k', k = k' + 1 := by
      cases k with
      | zero => simp [upto] at e1
      | succ k' => exact ⟨k', rfl⟩
    rw [upto_succ] at e1
    obtain ⟨rfl, e5⟩ := List.append_inj' e1 rfl
    obtain rfl : bk L hlim k' = last := by simpa using e5
    rw [fnd_stop hlim p k' (by have := HN.out; omega) (fun j hj => e2 _ (upto_mem _ _ _ hj)) e3]
    refine ⟨by simp, .inl ⟨_, _, rfl, run_takeDeferred hK, ?_⟩⟩
    have c5 := cell_kept bR1.cell (grownBy_putObj' _ D (.deferred none)) (fun r e => by cases e; exact ⟨_, hK, rfl⟩)
    have c6 := cell_kept bO1.cell (grownBy_putObj' _ D (.deferred none)) (fun r e => by cases e; exact ⟨_, hK, rfl⟩)
    refine ⟨.tuple #[.string (bk L hlim k').2.1.2, .bool true], ?_, rfl, hB1.trans (belowK_b (w := w) (Nat.le_refl _) W D _ _ (by omega) hK rfl rfl)⟩
    simp [results, Tryz.results126, go_sem, c5, c6]
end Go.Proofs.YtnomcldpbkinmaaGreatDoor.Nz.Sc
