/-
  Merged by program out of the texts Err, Add of one seat.
-/
import Derived.Test.YtnomcldpbkinmaaGreatDoorG03
import Derived.Test.YtnomcldpbkinmaaGreatDoorG02
import Derived.Test.YtnomcldpbkinmaaGreatDoorG01
import Derived.Lib.Hide

/- The walks of strconv's errors (Clone, syntaxError, rangeError, toError) and of strconv.ParseUint. -/
set_option linter.unusedSimpArgs false
set_option linter.unusedVariables false
namespace Go.Proofs.YtnomcldpbkinmaaGreatDoor
open Go.RowKit

theorem info5 : (Tryz.prog.info? 5).map (fun i => (i.zero, i.size, i.bytes)) = some (some (.int .u8 0), 1, 1) := by kernel_rfl

/-- The library's two variables hold errors. -/
def Vars (w : World) : Prop := 8 ≤ w.heap.size ∧ (∃ t p, w.cell? ⟨6, 0, none⟩ = some (.iface t p)) ∧ (∃ t p, w.cell? ⟨7, 0, none⟩ = some (.iface t p))
theorem Vars.keep {w w' : World} {B : Nat} (h : Vars w) (hb : Below B w w') (hB : 8 ≤ B) : Vars w' := by
  obtain ⟨h1, ⟨t, p, h2⟩, t', p', h3⟩ := h
  exact ⟨Nat.le_trans h1 hb.size, ⟨t, p, (hb.cell (p := ⟨6, 0, none⟩) (show 6 < B by omega)).trans h2⟩, t', p', (hb.cell (p := ⟨7, 0, none⟩) (show 7 < B by omega)).trans h3⟩

set_option maxHeartbeats 2000000 in
set_option maxRecDepth 100000 in
theorem clone_any (s : ByteArray) (w : World) (hlim : s.size ≤ 1000000) :
    Calls Tryz.prog 127 #[.string s] w fun e w' => e = .returned (.string s) ∧ Below w.heap.size w w' := by
  by_cases h0 : s.size = 0
  · have hs : s = ⟨#[]⟩ := by
      apply ByteArray.ext
      exact Array.eq_empty_of_size_eq_zero h0
    subst hs
    go_enter Tryz.func127, Tryz.ntmps127
    go_wp2
    go_ret
    exact ⟨rfl, Below.refl _ _⟩
  · obtain ⟨i0, hi, hz0, hz1, hz2⟩ := info_parts info5
    have hinfo : (Tryz.prog.info? 5).map (·.size) = some 1 := by rw [hi]; simp [hz1]
    have hco : Tryz.prog.cellsOf 5 = 1 := by kernel_rfl
    obtain ⟨M, hM⟩ : ∃ M, M = madeCells (Value.int .u8 0).cells (((s.size : Nat) : Int).toNat * i0.size) := ⟨_, rfl⟩
    have hMs : M.size = s.size := by rw [hM, size_madeCells, hz1]; simp
    have hmk : ∀ W : World, (Instr.makeSlice 65 (.int .i64 (s.size : Int)) (.int .i64 (s.size : Int))).run Tryz.prog W = .ok (.slice (some ⟨W.heap.size, 0, none⟩) s.size s.size) (W.alloc (.cells M 5)) := fun W => by
      have h := run_make (P := Tryz.prog) W 65 5 i0 (.int .u8 0) Tryz.underlying65 hi hz0 .i64 .i64 (s.size : Int) (s.size : Int) (by omega) (by omega) (by rw [hz2]; omega) (by omega)
      rw [← hM] at h
      simpa using h
    clear hM
    have hcp := Lib.run_copy_row_string (P := Tryz.prog) (w.alloc (.cells M 5)) 65 9 3 5 w.heap.size 0 s.size s.size s M 5 Tryz.underlying65 hinfo (heap_alloc_new w _) (Nat.le_refl _) (by omega)
    obtain ⟨Y, hY⟩ : ∃ Y, Y = (M.toList.take 0 ++ Lib.byteCells s.data.toList ++ M.toList.drop (0 + s.size)).toArray := ⟨_, rfl⟩
    rw [← hY] at hcp
    have hYl : Y.toList = Lib.byteCells s.data.toList := by
      rw [hY, List.toList_toArray, List.take_zero, List.nil_append, List.drop_of_length_le (by rw [Array.length_toList]; omega), List.append_nil]
    have hYs : Y.size = s.size := by rw [← Array.length_toList, hYl, Lib.byteCells_length, ← Lib.size_eq]
    have hgY : ((w.alloc (.cells M 5)).setRow w.heap.size Y).heap[w.heap.size]? = some (.cells Y 5 (0, 0)) := setRow_heap _ _ M _ 5 (0, 0) (heap_alloc_new w _)
    have hne : s.data.toList ≠ [] := fun e => h0 (by rw [Lib.size_eq, e]; rfl)
    have hUS := Lib.run_unsafeString_row (P := Tryz.prog) ((w.alloc (.cells M 5)).setRow w.heap.size Y) 208 3 9 5 Tryz.underlying208 hco w.heap.size Y.size (by unfold World.shape?; rw [hgY]) s.data.toList hne (by rw [← Lib.size_eq]; omega) (by rw [← Lib.size_eq]; omega)
      (fun j x hx => Lib.cells_of_row hgY Y.size j _ (by rw [List.take_of_length_le (by rw [Array.length_toList]; exact Nat.le_refl _), hYl]; simp [Lib.byteCells, hx]))
    rw [← Lib.size_eq] at hUS
    clear hY
    go_enter Tryz.func127, Tryz.ntmps127
    go_wp2
    go_ret
    have hb1 : Below w.heap.size w (w.alloc (.cells M 5)) := (Below.refl _ w).alloc (Nat.le_refl _) _
    have hb2 : Below w.heap.size (w.alloc (.cells M 5)) ((w.alloc (.cells M 5)).setRow w.heap.size Y) := ⟨rfl, rfl, rfl, by simp, fun k hk => setRow_other _ _ _ _ (by omega)⟩
    exact ⟨rfl, Lib.below_freeze (hb1.trans hb2) (p := ⟨w.heap.size, 0, none⟩) (Nat.le_refl _) _⟩

set_option maxHeartbeats 4000000 in
set_option maxRecDepth 100000 in
theorem syn_any (fn s : ByteArray) (te : TypeId) (pe : Value) (w : World) (hlim : s.size ≤ 1000000) (hv : w.cell? ⟨6, 0, none⟩ = some (.iface te pe)) :
    Calls Tryz.prog 208 #[.string fn, .string s] w fun e w' => ∃ n, e = .returned (.pointer (some ⟨n, 0, none⟩)) ∧ Below w.heap.size w w' := by
  have hG : 6 < w.heap.size := Lib.lt_of_cell hv
  have hvd : w.drew.cell? ⟨6, 0, none⟩ = some (.iface te pe) := hv
  go_enter Tryz.func208, Tryz.ntmps208
  go_wp2
  go_region_with (
      go_at_call 127
      refine (clone_any s _ hlim).mono ?_
      rintro e w2 ⟨rfl, hbel⟩
      have hv2 : w2.cell? ⟨6, 0, none⟩ = some (.iface te pe) := (hbel.cell (show (⟨6, 0, none⟩ : Addr).block < w.drew.heap.size from hG)).trans hvd)
  all_goals (
    go_wp2
    go_ret
    have hs2 : w.heap.size ≤ w2.heap.size := hbel.size
    exact ⟨_, rfl, ((Below.drew (Below.refl _ w)).trans hbel).alloc hs2 _⟩)

set_option maxHeartbeats 4000000 in
set_option maxRecDepth 100000 in
theorem rng_any (fn s : ByteArray) (te : TypeId) (pe : Value) (w : World) (hlim : s.size ≤ 1000000) (hv : w.cell? ⟨7, 0, none⟩ = some (.iface te pe)) :
    Calls Tryz.prog 209 #[.string fn, .string s] w fun e w' => ∃ n, e = .returned (.pointer (some ⟨n, 0, none⟩)) ∧ Below w.heap.size w w' := by
  have hG : 7 < w.heap.size := Lib.lt_of_cell hv
  have hvd : w.drew.cell? ⟨7, 0, none⟩ = some (.iface te pe) := hv
  go_enter Tryz.func209, Tryz.ntmps209
  go_wp2
  go_region_with (
      go_at_call 127
      refine (clone_any s _ hlim).mono ?_
      rintro e w2 ⟨rfl, hbel⟩
      have hv2 : w2.cell? ⟨7, 0, none⟩ = some (.iface te pe) := (hbel.cell (show (⟨7, 0, none⟩ : Addr).block < w.drew.heap.size from hG)).trans hvd)
  all_goals (
    go_wp2
    go_ret
    have hs2 : w.heap.size ≤ w2.heap.size := hbel.size
    exact ⟨_, rfl, ((Below.drew (Below.refl _ w)).trans hbel).alloc hs2 _⟩)

theorem c91 : (Tryz.prog.info? 261).map (·.comparable) = some true := by kernel_rfl
set_option maxHeartbeats 2000000 in
set_option maxRecDepth 100000 in
theorem toerr_syn (fn s : ByteArray) (base bits : Int) (w : World) (hlim : s.size ≤ 1000000) (hV : Vars w) :
    Calls Tryz.prog 204 #[.string fn, .string s, .int .i64 base, .int .i64 bits, .iface 261 (.int .i64 2)] w fun e w' => ∃ n, e = .returned (.iface 263 (.pointer (some ⟨n, 0, none⟩))) ∧ Below w.heap.size w w' := by
  have heq : ∀ W, (binOp .eql 227 (.iface 261 (.int .i64 2)) (.iface 261 (.int .i64 2))).run Tryz.prog W = .ok (.bool true) W := fun W => Lib.run_eql_iface_int W 2 2 Tryz.underlying227 c91 Tryz.underlying261
  obtain ⟨_, ⟨te, pe, hv⟩, _⟩ := hV
  go_enter Tryz.func204, Tryz.ntmps204
  go_wp2_with (go_at_call 208; refine (syn_any fn s te pe _ hlim hv).mono ?_)
  rintro e w2 ⟨n, rfl, h3⟩
  go_wp2
  go_ret
  exact ⟨n, rfl, h3⟩
set_option maxHeartbeats 2000000 in
set_option maxRecDepth 100000 in
theorem toerr_rng (fn s : ByteArray) (base bits : Int) (w : World) (hlim : s.size ≤ 1000000) (hV : Vars w) :
    Calls Tryz.prog 204 #[.string fn, .string s, .int .i64 base, .int .i64 bits, .iface 261 (.int .i64 1)] w fun e w' => ∃ n, e = .returned (.iface 263 (.pointer (some ⟨n, 0, none⟩))) ∧ Below w.heap.size w w' := by
  have heq : ∀ W, (binOp .eql 227 (.iface 261 (.int .i64 1)) (.iface 261 (.int .i64 1))).run Tryz.prog W = .ok (.bool true) W := fun W => Lib.run_eql_iface_int W 1 1 Tryz.underlying227 c91 Tryz.underlying261
  have heq2 : ∀ W, (binOp .eql 227 (.iface 261 (.int .i64 1)) (.iface 261 (.int .i64 2))).run Tryz.prog W = .ok (.bool false) W := fun W => Lib.run_eql_iface_int W 1 2 Tryz.underlying227 c91 Tryz.underlying261
  obtain ⟨_, _, te, pe, hv⟩ := hV
  go_enter Tryz.func204, Tryz.ntmps204
  go_wp2_with (go_at_call 209; refine (rng_any fn s te pe _ hlim hv).mono ?_)
  rintro e w2 ⟨n, rfl, h3⟩
  go_wp2
  go_ret
  exact ⟨n, rfl, h3⟩

/-- What ParseUint answers. -/
def PPost (x : Int) (w : World) (e : Ending) (w' : World) : Prop :=
  ((0 ≤ x ∧ e = .returned (.tuple #[.int .u64 x, .nilIface])) ∨ (x = -1 ∧ ∃ (y : Int) (n : Nat), e = .returned (.tuple #[.int .u64 y, .iface 263 (.pointer (some ⟨n, 0, none⟩))]))) ∧ Below w.heap.size w w'
set_option maxHeartbeats 2000000 in
set_option maxRecDepth 100000 in
theorem parse_of (t : ByteArray) (b x : Int) (w : World) (hlim : t.size ≤ 1000000) (hV : Vars w) (C : Hid (Calls Tryz.prog 203 #[.string t, .int .i64 b, .int .i64 31] w (PuPost x w))) :
    Calls Tryz.prog 197 #[.string t, .int .i64 b, .int .i64 31] w (PPost x w) := by
  go_enter Tryz.func197, Tryz.ntmps197
  go_wp2_with (go_at_call 203; refine C.out.mono ?_)
  rintro e w1 ⟨h, hb⟩
  have hV1 := hV.keep hb hV.1
  clear C hV
  rcases h with ⟨h0, rfl⟩ | ⟨h0, y, rfl⟩ | ⟨h0, y, rfl⟩
  · have HX := Lib.hid h0
    clear h0
    go_wp2
    go_ret2
    exact ⟨.inl ⟨HX.out, rfl⟩, hb⟩
  · have HX := Lib.hid h0
    clear h0
    go_wp2_with (go_at_call 204; refine (toerr_rng _ _ _ _ _ hlim hV1).mono ?_)
    rintro e w2 ⟨n, rfl, hb2⟩
    go_wp2
    go_ret2
    exact ⟨.inr ⟨HX.out, y, n, rfl⟩, hb.trans (hb2.mono hb.size)⟩
  · have HX := Lib.hid h0
    clear h0
    go_wp2_with (go_at_call 204; refine (toerr_syn _ _ _ _ _ hlim hV1).mono ?_)
    rintro e w2 ⟨n, rfl, hb2⟩
    go_wp2
    go_ret2
    exact ⟨.inr ⟨HX.out, y, n, rfl⟩, hb.trans (hb2.mono hb.size)⟩
theorem pu_any (t : ByteArray) (b : Int) (hb : b = 10 ∨ b = 16) (hs : t.size ≤ 1000000) (w : World) :
    Calls Tryz.prog 203 #[.string t, .int .i64 b, .int .i64 31] w (PuPost (if t.size = 0 then -1 else puGo b (byts t) 0) w) := by
  by_cases h0 : t.size = 0
  · rw [if_pos h0]
    have hs : t = ⟨#[]⟩ := by
      apply ByteArray.ext
      exact Array.eq_empty_of_size_eq_zero h0
    subst hs
    exact pu_empty b w
  · rw [if_neg h0]
    rcases hb with rfl | rfl
    · exact pu_10 t h0 hs w
    · exact pu_16 t h0 hs w
theorem parse_any (t : ByteArray) (b : Int) (hb : b = 10 ∨ b = 16) (w : World) (hs : t.size ≤ 1000000) (hV : Vars w) :
    Calls Tryz.prog 197 #[.string t, .int .i64 b, .int .i64 31] w (PPost (if t.size = 0 then -1 else puGo b (byts t) 0) w) :=
  parse_of t b _ w hs hV (Lib.hid (pu_any t b hb hs w))
end Go.Proofs.YtnomcldpbkinmaaGreatDoor

/- The walk of utf.add: a rune's bytes behind a slice of the call's own. -/
set_option linter.unusedSimpArgs false
set_option linter.unusedVariables false
namespace Go.Proofs.YtnomcldpbkinmaaGreatDoor
open Go.RowKit

theorem Tryz.info5 : (Tryz.prog.info? 5).map (fun i => (i.zero, i.size, i.bytes)) = some (some (.int .u8 0), 1, 1) := by kernel_rfl
/-- A slice of bytes of the call's own: from block B on. -/
def OwnB (w : World) (B : Nat) (v : Value) (l : List Int) : Prop := w.ownsRow B 5 1 v l.length (l.map (Value.int .u8))
theorem add_post {w w' : World} {B : Nat} {v v' : Value} {xs ys : List Int} {o : Obj} (hB : B ≤ w.heap.size) (hown : OwnB w B v xs)
    (h : w'.ownsRow B 5 1 v' (xs.length + ys.length) (xs.map (Value.int .u8) ++ ys.map (Value.int .u8))) (hg : (w.alloc o).grownBy w' v.ownBlock) : OwnB w' B v' (xs ++ ys) ∧ Below B w w' := by
  refine ⟨?_, ?_⟩
  · unfold OwnB; rw [List.map_append, List.length_append]; exact h
  · exact ((Below.refl B w).alloc hB o).grown hg (by simp; omega) (fun g hg => (World.ownsRow.lt hown g hg).1)

theorem Blk0 (w : World) (t : TypeId) (cs : Array Value) (i : Nat) : (w.alloc (.cells cs t)).cell? ⟨w.heap.size, i, none⟩ = cs[i]? := cell_of_row _ _ i cs t (0, 0) (heap_alloc_new w _)
theorem lit_cells (w : World) (cs : Array Value) (e : TypeId) : ∀ (j : Nat) (u : Value), cs.toList[j]? = some u → (w.alloc (.cells cs e)).cell? ((⟨w.heap.size, 0, none⟩ : Addr).add j) = some u := by
  intro j u h
  have hc := (Blk0 w e cs) j
  unfold Addr.add
  by_cases h0 : j = 0
  · subst h0
    simpa [hc] using h
  · simpa [h0, hc] using h
end Go.Proofs.YtnomcldpbkinmaaGreatDoor
