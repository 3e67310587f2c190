/-
  Merged by program out of the texts Bld, Rune, Canon, RuneAny, Numd of one seat.
-/
import Derived.Test.YtkeilgompipfjaaGreatDoorG02
import Derived.Test.YtkeilgompipfjaaGreatDoorG01
import Derived.Lib.Builder
import Derived.Lib.AppendStr
import Derived.Lib.UnsafeStr
import Derived.Laws.Externs
import Derived.Lib.Hide

/- The walks of strings.Builder's methods, at a builder that lies within a gatherer of the call's own. -/
set_option linter.unusedSimpArgs false
set_option linter.unusedVariables false
namespace Go.Proofs.YtkeilgompipfjaaGreatDoor
open Go.RowKit

theorem sizeBld : (Tryz.prog.info? 160).map (·.size) = some 2 := by kernel_rfl
theorem liesBld : liesAt Tryz.prog Tryz.prog.depth 162 (3 / Tryz.prog.cellsOf 162) 0 160 1 = true := by kernel_rfl
theorem cellsByte : Tryz.prog.cellsOf 5 = 1 := by kernel_rfl

def Byt (l : List Int) : Prop := ∀ x ∈ l, 0 ≤ x ∧ x ≤ 255
theorem Byt.nil : Byt [] := fun x h => by simp at h
theorem Byt.app {l m : List Int} (h : Byt l) (h2 : Byt m) : Byt (l ++ m) := fun x hx => by
  rcases List.mem_append.1 hx with h1 | h1
  · exact h x h1
  · exact h2 x h1
theorem Byt.byts (s : ByteArray) : Byt (byts s) := fun x hx => by
  obtain ⟨b, _, rfl⟩ := List.mem_map.1 hx
  have := b.toNat_lt
  omega
theorem Byt.enc {r : Int} (h : ¬ Bad r) : Byt (encB r) := fun x hx => ⟨(encB_nn r h).1 x hx, (encB_nn r h).2 x hx⟩
theorem Byt.one {x : Int} (h : 0 ≤ x) (h2 : x ≤ 255) : Byt [x] := fun y hy => by
  have : y = x := by simpa using hy
  omega

/-- A gatherer in block b (one of the call's own: from B on) that holds the bytes bs; 'p': what its builder's own address is. -/
def GatP (p : Value) (B b : Nat) (v : Bool) (bs : List Int) (w : World) : Prop :=
  B ≤ b ∧ Byt bs ∧ ∃ x, w.heap[b]? = some (.cells #[p, x, .bool v] 162 (0, 0)) ∧ OwnB w B x bs ∧ (bs = [] → x = .slice none 0 0)
def Gat (B b : Nat) (v : Bool) (bs : List Int) (w : World) : Prop := GatP (.pointer none) B b v bs w ∨ GatP (.pointer (some ⟨b, 0, none⟩)) B b v bs w
theorem Gat.one {B b : Nat} {v : Bool} {bs : List Int} {w : World} (h : Gat B b v bs w) : ∃ p, GatP p B b v bs w := by
  rcases h with h | h
  · exact ⟨_, h⟩
  · exact ⟨_, h⟩
theorem GatP.lt {p : Value} {B b : Nat} {v : Bool} {bs : List Int} {w : World} (h : GatP p B b v bs w) : b < w.heap.size := by
  obtain ⟨_, _, x, hb, _⟩ := h
  rcases Nat.lt_or_ge b w.heap.size with h' | h'
  · exact h'
  · simp [Array.getElem?_eq_none h'] at hb
theorem Gat.lt {B b : Nat} {v : Bool} {bs : List Int} {w : World} (h : Gat B b v bs w) : b < w.heap.size := by
  obtain ⟨p, hp⟩ := h.one
  exact hp.lt
theorem own_keep {w w' : World} {B : Nat} {e : TypeId} {size : Nat} {v : Value} {n : Nat} {xs : List Value} (h : w.ownsRow B e size v n xs) (hb : Below w.heap.size w w') : w'.ownsRow B e size v n xs := by
  refine ⟨h.1, ?_⟩
  rcases h.2 with hn | ⟨g, cap, cur, rfl, hb1, hgg, rest⟩
  · exact .inl hn
  · refine .inr ⟨g, cap, cur, rfl, hb1, ?_, rest⟩
    rw [hb.block g (Array.getElem?_eq_some_iff.1 hgg).1]
    exact hgg
theorem GatP.keep {p : Value} {B b : Nat} {v : Bool} {bs : List Int} {w w' : World} (h : GatP p B b v bs w) (hb : Below w.heap.size w w') : GatP p B b v bs w' := by
  have hlt := h.lt
  obtain ⟨h1, h2, x, h3, h4, h5⟩ := h
  exact ⟨h1, h2, x, (hb.block b hlt).trans h3, own_keep h4 hb, h5⟩
theorem Gat.keep {B b : Nat} {v : Bool} {bs : List Int} {w w' : World} (h : Gat B b v bs w) (hb : Below w.heap.size w w') : Gat B b v bs w' := by
  rcases h with h | h
  · exact .inl (h.keep hb)
  · exact .inr (h.keep hb)
/-- What g := gatherer{value: v} leaves. -/
theorem gat_new (w : World) (v : Bool) : Gat w.heap.size w.heap.size v [] (w.alloc (.cells #[.pointer none, .slice none 0 0, .bool v] 162)) :=
  .inl ⟨Nat.le_refl _, Byt.nil, .slice none 0 0, heap_alloc_new w _, World.ownsRow_nil _ _ _ _, fun _ => rfl⟩
theorem GatP.value {p : Value} {B b : Nat} {v : Bool} {bs : List Int} {w : World} (h : GatP p B b v bs w) : w.cell? ⟨b, 2, none⟩ = some (.bool v) := by
  obtain ⟨_, _, x, hb, _⟩ := h
  rw [Lib.cell_of_heap hb]; rfl
theorem Gat.value {B b : Nat} {v : Bool} {bs : List Int} {w : World} (h : Gat B b v bs w) : w.cell? ⟨b, 2, none⟩ = some (.bool v) := by
  obtain ⟨p, hp⟩ := h.one
  exact hp.value

set_option maxHeartbeats 1000000 in
set_option maxRecDepth 100000 in
theorem chk_used (b : Nat) (w : World) (h0 : w.cell? ⟨b, 0, none⟩ = some (.pointer (some ⟨b, 0, none⟩))) :
    Calls Tryz.prog 159 #[.pointer (some ⟨b, 0, none⟩)] w fun e w' => e = .returned (.tuple #[]) ∧ w' = w := by
  obtain ⟨j, hj, _⟩ := Option.map_eq_some_iff.1 sizeBld
  go_enter Tryz.func159, Tryz.ntmps159
  go_wp2
  rw [Lib.run_neq_ptr_same w _ Tryz.underlying158 hj]
  go_wp2
  go_end0
  exact ⟨rfl, rfl⟩

set_option maxHeartbeats 1000000 in
set_option maxRecDepth 100000 in
theorem chk_fresh (b : Nat) (w : World) (h0 : w.cell? ⟨b, 0, none⟩ = some (.pointer none)) (hsh : w.shape? b = some (162, 3)) (hfz : w.frozen? ⟨b, 0, none⟩ = false) :
    Calls Tryz.prog 159 #[.pointer (some ⟨b, 0, none⟩)] w fun e w' => e = .returned (.tuple #[]) ∧ w' = w.setCell ⟨b, 0, none⟩ (.pointer (some ⟨b, 0, none⟩)) := by
  obtain ⟨j, hj, hjs⟩ := Option.map_eq_some_iff.1 sizeBld
  go_enter Tryz.func159, Tryz.ntmps159
  go_wp2
  rw [Lib.run_to_unsafe w ⟨b, 0, none⟩ Tryz.underlying158 Tryz.underlying231 hj (by rw [hjs]; decide) hsh (Nat.zero_lt_succ 2)]
  simp only [Result.andThen]
  rw [Oper.upon_value]
  go_wp2
  rw [run_callFunc_extern Tryz.func165 (by kernel_rfl) (by kernel_rfl) (by kernel_rfl) (e := Extern.AbiNoEscape.same) (by kernel_rfl)]
  rw [Lib.run_noEscape]
  simp only [Result.andThen]
  rw [Oper.upon_value]
  go_wp2
  rw [Lib.run_from_unsafe w ⟨b, 0, none⟩ Tryz.underlying231 Tryz.underlying158 hj hsh liesBld]
  simp only [Result.andThen]
  rw [Oper.upon_value]
  go_wp2
  go_end0
  exact ⟨rfl, rfl⟩

theorem chk_any (B b : Nat) (v : Bool) (bs : List Int) (w : World) (h : Gat B b v bs w) :
    Calls Tryz.prog 159 #[.pointer (some ⟨b, 0, none⟩)] w fun e w' => e = .returned (.tuple #[]) ∧ GatP (.pointer (some ⟨b, 0, none⟩)) B b v bs w' ∧ Below B w w' := by
  rcases h with h | h
  · have hlt := h.lt
    obtain ⟨hB, hby, x, hb, hown, h0⟩ := h
    refine (chk_fresh b w (by rw [Lib.cell_of_heap hb]; rfl) (by simp [World.shape?, hb]) (Lib.frozen_of_heap hb 0)).mono ?_
    rintro e w' ⟨rfl, rfl⟩
    refine ⟨rfl, ⟨hB, hby, x, ?_, ?_, h0⟩, (Below.refl B w).setCell (p := ⟨b, 0, none⟩) hB _⟩
    · simp [World.setCell, Array.getElem?_modify, hb]
    · exact World.ownsRow.kept (row := some b) hown ⟨rfl, rfl, rfl, by simp [World.setCell], fun k _ hk => Below.heap_setCell _ _ _ _ (fun e => hk (by simp [e]))⟩ (Or.inr (Lib.ownBlock_ne hown hb (by decide)))
  · refine (chk_used b w ?_).mono ?_
    · obtain ⟨_, _, x, hb, _⟩ := h
      rw [Lib.cell_of_heap hb]; rfl
    · rintro e w' ⟨rfl, rfl⟩
      exact ⟨rfl, h, Below.refl B _⟩

/-- A new buffer laid into the builder. -/
theorem GatP.put {p x x' : Value} {B b : Nat} {v : Bool} {bs : List Int} {w : World} (hB : B ≤ b) (hby : Byt bs) (hb : w.heap[b]? = some (.cells #[p, x, .bool v] 162 (0, 0))) (hown : OwnB w B x' bs) (hne : bs ≠ []) :
    GatP p B b v bs (w.setCell ⟨b, 1, none⟩ x') := by
  refine ⟨hB, hby, x', ?_, ?_, fun h => absurd h hne⟩
  · simp [World.setCell, Array.getElem?_modify, hb]
  · exact World.ownsRow.kept (row := some b) hown ⟨rfl, rfl, rfl, by simp [World.setCell], fun k _ hk => Below.heap_setCell _ _ _ _ (fun e => hk (by simp [e]))⟩ (Or.inr (Lib.ownBlock_ne hown hb (by decide)))

set_option maxHeartbeats 2000000 in
set_option maxRecDepth 100000 in
/-- WriteByte. -/
theorem wbyte_any (B b : Nat) (v : Bool) (bs : List Int) (c : Int) (w : World) (h : Gat B b v bs w) (hB0 : B ≤ w.heap.size) (hl : bs.length ≤ 1000000) (hc0 : 0 ≤ c) (hc1 : c ≤ 255) :
    Calls Tryz.prog 153 #[.pointer (some ⟨b, 0, none⟩), .int .u8 c] w fun e w' => e = .returned .nilIface ∧ Gat B b v (bs ++ [c]) w' ∧ Below B w w' := by
  obtain ⟨i0, hi, hz0, hz1, hz2⟩ := info_parts Tryz.info5
  go_enter Tryz.func153, Tryz.ntmps153
  go_wp2_with (go_at_call 159; refine (chk_any B b v bs _ h).mono ?_)
  rintro e w1 ⟨rfl, h1, hb1⟩
  have hlt := h1.lt
  obtain ⟨hB, hby, x, hbk, hown, hx0⟩ := h1
  have hne := Lib.ownBlock_ne hown hbk (by decide)
  have c0 : w1.cell? ⟨b, 0, none⟩ = some (.pointer (some ⟨b, 0, none⟩)) := by rw [Lib.cell_of_heap hbk]; rfl
  have c1 : w1.cell? ⟨b, 1, none⟩ = some x := by rw [Lib.cell_of_heap hbk]; rfl
  have hs1 := hb1.size
  clear hx0 h
  go_wp2_with (at_builtin; refine wpList_append_own _ rfl _ _ 49 rfl B 5 i0 (.int .u8 0) 1 1 Tryz.underlying49 hi hz0 hz1 hz2 rfl (by decide) _ _ _ rfl (World.ownsRow.alloc hown _) ⟨w1.heap.size, 0, none⟩ 1 1 [.int .u8 c] rfl rfl (lit_cells w1 #[.int .u8 c] 5) (ints_oneCell .u8 [c]) (by unfold maxLen; omega) (by omega) (by simp; omega) ?_)
  intro v' w2 hown' hgrow _
  have hb2 : w2.heap[b]? = some (.cells #[.pointer (some ⟨b, 0, none⟩), x, .bool v] 162 (0, 0)) := by
    rw [hgrow.block b (by simp; omega) (fun e => hne e.symm), Lib.alloc_old w1 _ b hlt]
    exact hbk
  have d0 : w2.cell? ⟨b, 0, none⟩ = some (.pointer (some ⟨b, 0, none⟩)) := by rw [Lib.cell_of_heap hb2]; rfl
  have d1 : w2.cell? ⟨b, 1, none⟩ = some x := by rw [Lib.cell_of_heap hb2]; rfl
  have f1 : w2.frozen? ⟨b, 1, none⟩ = false := Lib.frozen_of_heap hb2 1
  obtain ⟨g, cap, rfl⟩ : ∃ g cap, v' = .slice (some ⟨g, 0, none⟩) (bs.length + 1) cap := by
    rcases hown'.2 with ⟨_, h0⟩ | ⟨g, cap, cur, hv, _⟩
    · omega
    · exact ⟨g, cap, hv⟩
  have R : OwnB w2 B (.slice (some ⟨g, 0, none⟩) (bs.length + 1) cap) (bs ++ [c]) := by
    unfold OwnB; rw [List.map_append, List.length_append]; exact hown'
  have FG := Lib.hid (GatP.put (v := v) hB (hby.app (Byt.one hc0 hc1)) hb2 R (by simp))
  have FB := Lib.hid (((hb1.alloc (by omega) (.cells #[.int .u8 c] 5)).grown hgrow (by simp; omega) (fun k hk => (World.ownsRow.lt hown k hk).1)).setCell (p := ⟨b, 1, none⟩) hB (.slice (some ⟨g, 0, none⟩) (bs.length + 1) cap))
  clear R hown' hgrow hown hb1
  go_wp2
  go_ret
  exact ⟨rfl, .inr FG.out, FB.out⟩

set_option maxHeartbeats 2000000 in
set_option maxRecDepth 100000 in
/-- WriteString, of a text that is not empty. -/
theorem wstr_any (B b : Nat) (v : Bool) (bs : List Int) (s : ByteArray) (w : World) (h : Gat B b v bs w) (hB0 : B ≤ w.heap.size) (hl : bs.length ≤ 1000000) (hs : s.size ≤ 1000000) (hs0 : 1 ≤ s.size) :
    Calls Tryz.prog 144 #[.pointer (some ⟨b, 0, none⟩), .string s] w fun e w' => e = .returned (.tuple #[.int .i64 s.size, .nilIface]) ∧ Gat B b v (bs ++ byts s) w' ∧ Below B w w' := by
  obtain ⟨i0, hi, hz0, hz1, hz2⟩ := info_parts Tryz.info5
  go_enter Tryz.func144, Tryz.ntmps144
  go_wp2_with (go_at_call 159; refine (chk_any B b v bs _ h).mono ?_)
  rintro e w1 ⟨rfl, h1, hb1⟩
  have hlt := h1.lt
  obtain ⟨hB, hby, x, hbk, hown, hx0⟩ := h1
  have hne := Lib.ownBlock_ne hown hbk (by decide)
  have c0 : w1.cell? ⟨b, 0, none⟩ = some (.pointer (some ⟨b, 0, none⟩)) := by rw [Lib.cell_of_heap hbk]; rfl
  have c1 : w1.cell? ⟨b, 1, none⟩ = some x := by rw [Lib.cell_of_heap hbk]; rfl
  have hs1 := hb1.size
  clear hx0 h
  go_wp2_with (at_builtin; refine Lib.wpList_append_own_string _ rfl _ _ 49 9 rfl B 5 i0 Tryz.underlying49 Tryz.underlying9 hi hz0 hz1 hz2 _ _ _ rfl hown s rfl (by unfold maxLen; omega) (by omega) (by omega) ?_)
  intro v' w2 hown' hgrow _
  have hb2 : w2.heap[b]? = some (.cells #[.pointer (some ⟨b, 0, none⟩), x, .bool v] 162 (0, 0)) := by
    rw [hgrow.block b hlt (fun e => hne e.symm)]
    exact hbk
  have d0 : w2.cell? ⟨b, 0, none⟩ = some (.pointer (some ⟨b, 0, none⟩)) := by rw [Lib.cell_of_heap hb2]; rfl
  have d1 : w2.cell? ⟨b, 1, none⟩ = some x := by rw [Lib.cell_of_heap hb2]; rfl
  have f1 : w2.frozen? ⟨b, 1, none⟩ = false := Lib.frozen_of_heap hb2 1
  obtain ⟨g, cap, rfl⟩ : ∃ g cap, v' = .slice (some ⟨g, 0, none⟩) (bs.length + s.size) cap := by
    rcases hown'.2 with ⟨_, h0⟩ | ⟨g, cap, cur, hv, _⟩
    · omega
    · exact ⟨g, cap, hv⟩
  have R : OwnB w2 B (.slice (some ⟨g, 0, none⟩) (bs.length + s.size) cap) (bs ++ byts s) := by
    unfold OwnB
    rw [List.map_append, List.length_append, byts_len]
    have e : (byts s).map (Value.int .u8) = Lib.strCells s := by unfold byts; rw [List.map_map]; rfl
    rw [e]; exact hown'
  have FG := Lib.hid (GatP.put (v := v) hB (hby.app (Byt.byts s)) hb2 R (fun e => by
    have := congrArg List.length e
    rw [List.length_append, byts_len, List.length_nil] at this
    omega))
  have FB := Lib.hid ((hb1.grown hgrow (by omega) (fun k hk => (World.ownsRow.lt hown k hk).1)).setCell (p := ⟨b, 1, none⟩) hB (.slice (some ⟨g, 0, none⟩) (bs.length + s.size) cap))
  clear R hown' hgrow hown hb1
  go_wp2
  go_ret2
  exact ⟨rfl, .inr FG.out, FB.out⟩

/-- What AppendRune leaves: the bytes behind those that were; only the old row and what is new may differ. -/
def AppPost (w : World) (B : Nat) (x : Value) (l : List Int) (e : Ending) (w' : World) : Prop := ∃ v, e = .returned v ∧ OwnB w' B v l ∧ ∃ o, (w.alloc o).grownBy w' x.ownBlock

set_option maxHeartbeats 2000000 in
set_option maxRecDepth 100000 in
theorem apr1 (x : Value) (xs : List Int) (r : Int) (B : Nat) (w : World) (hB : B ≤ w.heap.size) (hown : OwnB w B x xs) (hl : xs.length ≤ 1000000) (h0 : 0 ≤ r) (h1 : r < 128) :
    Calls Tryz.prog 163 #[x, .int .i32 r] w (AppPost w B x (xs ++ [r])) := by
  obtain ⟨i0, hi, hz0, hz1, hz2⟩ := info_parts Tryz.info5
  have hown' := World.ownsRow.alloc hown (.cells #[.int .u8 (r)] 5)
  go_enter Tryz.func163, Tryz.ntmps163
  go_wp2_with (at_builtin; refine wpList_append_own _ rfl _ _ 49 rfl B 5 i0 (.int .u8 0) 1 1 Tryz.underlying49 hi hz0 hz1 hz2 rfl (by decide) _ _ _ rfl hown' ⟨w.heap.size, 0, none⟩ 1 1 [.int .u8 (r)] rfl rfl (lit_cells w #[.int .u8 (r)] 5) (ints_oneCell .u8 [r]) (by unfold maxLen; omega) (by omega) (by simp; omega) ?_)
  intro v' w1 hown2 hgrow _
  have R := Lib.hid (add_post (ys := [r]) hB hown hown2 hgrow).1
  have G := Lib.hid hgrow
  clear hown2 hgrow hown'
  go_wp2
  go_ret
  exact ⟨_, rfl, R.out, _, G.out⟩

set_option maxHeartbeats 2000000 in
set_option maxRecDepth 100000 in
theorem apn2 (x : Value) (xs : List Int) (r : Int) (B : Nat) (w : World) (hB : B ≤ w.heap.size) (hown : OwnB w B x xs) (hl : xs.length ≤ 1000000) (h0 : 128 ≤ r) (h1 : r < 2048) :
    Calls Tryz.prog 169 #[x, .int .i32 r] w (AppPost w B x (xs ++ [192 + r / 64, 128 + r % 64])) := by
  obtain ⟨i0, hi, hz0, hz1, hz2⟩ := info_parts Tryz.info5
  have hown' := World.ownsRow.alloc hown (.cells #[.int .u8 (192 + r / 64), .int .u8 (128 + r % 64)] 5)
  go_enter Tryz.func169, Tryz.ntmps169
  go_wp2_with (at_builtin; refine wpList_append_own _ rfl _ _ 49 rfl B 5 i0 (.int .u8 0) 1 1 Tryz.underlying49 hi hz0 hz1 hz2 rfl (by decide) _ _ _ rfl hown' ⟨w.heap.size, 0, none⟩ 2 2 [.int .u8 (192 + r / 64), .int .u8 (128 + r % 64)] rfl rfl (lit_cells w #[.int .u8 (192 + r / 64), .int .u8 (128 + r % 64)] 5) (ints_oneCell .u8 [192 + r / 64, 128 + r % 64]) (by unfold maxLen; omega) (by omega) (by simp; omega) ?_)
  intro v' w1 hown2 hgrow _
  have R := Lib.hid (add_post (ys := [192 + r / 64, 128 + r % 64]) hB hown hown2 hgrow).1
  have G := Lib.hid hgrow
  clear hown2 hgrow hown'
  go_wp2
  go_ret
  exact ⟨_, rfl, R.out, _, G.out⟩

set_option maxHeartbeats 2000000 in
set_option maxRecDepth 100000 in
theorem apn3a (x : Value) (xs : List Int) (r : Int) (B : Nat) (w : World) (hB : B ≤ w.heap.size) (hown : OwnB w B x xs) (hl : xs.length ≤ 1000000) (h0 : 2048 ≤ r) (h1 : r < 55296) :
    Calls Tryz.prog 169 #[x, .int .i32 r] w (AppPost w B x (xs ++ [224 + r / 4096, 128 + r / 64 % 64, 128 + r % 64])) := by
  obtain ⟨i0, hi, hz0, hz1, hz2⟩ := info_parts Tryz.info5
  have hown' := World.ownsRow.alloc hown (.cells #[.int .u8 (224 + r / 4096), .int .u8 (128 + r / 64 % 64), .int .u8 (128 + r % 64)] 5)
  go_enter Tryz.func169, Tryz.ntmps169
  go_wp2_with (at_builtin; refine wpList_append_own _ rfl _ _ 49 rfl B 5 i0 (.int .u8 0) 1 1 Tryz.underlying49 hi hz0 hz1 hz2 rfl (by decide) _ _ _ rfl hown' ⟨w.heap.size, 0, none⟩ 3 3 [.int .u8 (224 + r / 4096), .int .u8 (128 + r / 64 % 64), .int .u8 (128 + r % 64)] rfl rfl (lit_cells w #[.int .u8 (224 + r / 4096), .int .u8 (128 + r / 64 % 64), .int .u8 (128 + r % 64)] 5) (ints_oneCell .u8 [224 + r / 4096, 128 + r / 64 % 64, 128 + r % 64]) (by unfold maxLen; omega) (by omega) (by simp; omega) ?_)
  intro v' w1 hown2 hgrow _
  have R := Lib.hid (add_post (ys := [224 + r / 4096, 128 + r / 64 % 64, 128 + r % 64]) hB hown hown2 hgrow).1
  have G := Lib.hid hgrow
  clear hown2 hgrow hown'
  go_wp2
  go_ret
  exact ⟨_, rfl, R.out, _, G.out⟩

set_option maxHeartbeats 2000000 in
set_option maxRecDepth 100000 in
theorem apn3b (x : Value) (xs : List Int) (r : Int) (B : Nat) (w : World) (hB : B ≤ w.heap.size) (hown : OwnB w B x xs) (hl : xs.length ≤ 1000000) (h0 : 57343 < r) (h1 : r < 65536) :
    Calls Tryz.prog 169 #[x, .int .i32 r] w (AppPost w B x (xs ++ [224 + r / 4096, 128 + r / 64 % 64, 128 + r % 64])) := by
  obtain ⟨i0, hi, hz0, hz1, hz2⟩ := info_parts Tryz.info5
  have hown' := World.ownsRow.alloc hown (.cells #[.int .u8 (224 + r / 4096), .int .u8 (128 + r / 64 % 64), .int .u8 (128 + r % 64)] 5)
  go_enter Tryz.func169, Tryz.ntmps169
  go_wp2_with (at_builtin; refine wpList_append_own _ rfl _ _ 49 rfl B 5 i0 (.int .u8 0) 1 1 Tryz.underlying49 hi hz0 hz1 hz2 rfl (by decide) _ _ _ rfl hown' ⟨w.heap.size, 0, none⟩ 3 3 [.int .u8 (224 + r / 4096), .int .u8 (128 + r / 64 % 64), .int .u8 (128 + r % 64)] rfl rfl (lit_cells w #[.int .u8 (224 + r / 4096), .int .u8 (128 + r / 64 % 64), .int .u8 (128 + r % 64)] 5) (ints_oneCell .u8 [224 + r / 4096, 128 + r / 64 % 64, 128 + r % 64]) (by unfold maxLen; omega) (by omega) (by simp; omega) ?_)
  intro v' w1 hown2 hgrow _
  have R := Lib.hid (add_post (ys := [224 + r / 4096, 128 + r / 64 % 64, 128 + r % 64]) hB hown hown2 hgrow).1
  have G := Lib.hid hgrow
  clear hown2 hgrow hown'
  go_wp2
  go_ret
  exact ⟨_, rfl, R.out, _, G.out⟩

set_option maxHeartbeats 2000000 in
set_option maxRecDepth 100000 in
theorem apn4 (x : Value) (xs : List Int) (r : Int) (B : Nat) (w : World) (hB : B ≤ w.heap.size) (hown : OwnB w B x xs) (hl : xs.length ≤ 1000000) (h0 : 65536 ≤ r) (h1 : r ≤ 1114111) :
    Calls Tryz.prog 169 #[x, .int .i32 r] w (AppPost w B x (xs ++ [240 + r / 262144, 128 + r / 4096 % 64, 128 + r / 64 % 64, 128 + r % 64])) := by
  obtain ⟨i0, hi, hz0, hz1, hz2⟩ := info_parts Tryz.info5
  have hown' := World.ownsRow.alloc hown (.cells #[.int .u8 (240 + r / 262144), .int .u8 (128 + r / 4096 % 64), .int .u8 (128 + r / 64 % 64), .int .u8 (128 + r % 64)] 5)
  go_enter Tryz.func169, Tryz.ntmps169
  go_wp2_with (at_builtin; refine wpList_append_own _ rfl _ _ 49 rfl B 5 i0 (.int .u8 0) 1 1 Tryz.underlying49 hi hz0 hz1 hz2 rfl (by decide) _ _ _ rfl hown' ⟨w.heap.size, 0, none⟩ 4 4 [.int .u8 (240 + r / 262144), .int .u8 (128 + r / 4096 % 64), .int .u8 (128 + r / 64 % 64), .int .u8 (128 + r % 64)] rfl rfl (lit_cells w #[.int .u8 (240 + r / 262144), .int .u8 (128 + r / 4096 % 64), .int .u8 (128 + r / 64 % 64), .int .u8 (128 + r % 64)] 5) (ints_oneCell .u8 [240 + r / 262144, 128 + r / 4096 % 64, 128 + r / 64 % 64, 128 + r % 64]) (by unfold maxLen; omega) (by omega) (by simp; omega) ?_)
  intro v' w1 hown2 hgrow _
  have R := Lib.hid (add_post (ys := [240 + r / 262144, 128 + r / 4096 % 64, 128 + r / 64 % 64, 128 + r % 64]) hB hown hown2 hgrow).1
  have G := Lib.hid hgrow
  clear hown2 hgrow hown'
  go_wp2
  go_ret
  exact ⟨_, rfl, R.out, _, G.out⟩

theorem apn_any (x : Value) (xs : List Int) (r : Int) (B : Nat) (w : World) (hB : B ≤ w.heap.size) (hown : OwnB w B x xs) (hl : xs.length ≤ 1000000) (hb : ¬ Bad r) (h1 : 128 ≤ r) :
    Calls Tryz.prog 169 #[x, .int .i32 r] w (AppPost w B x (xs ++ encB r)) := by
  unfold Bad at hb
  by_cases h2 : r < 2048
  · rw [enc2 (by omega) h2]; exact apn2 x xs r B w hB hown hl (by omega) h2
  by_cases h3 : r < 55296
  · rw [enc3 (by omega) (by omega)]; exact apn3a x xs r B w hB hown hl (by omega) h3
  by_cases h4 : r < 65536
  · rw [enc3 (by omega) (by omega)]; exact apn3b x xs r B w hB hown hl (by omega) h4
  · rw [enc4 (by omega)]; exact apn4 x xs r B w hB hown hl (by omega) (by omega)

set_option maxHeartbeats 2000000 in
set_option maxRecDepth 100000 in
theorem apr_hi (x : Value) (l : List Int) (r : Int) (B : Nat) (w : World) (h1 : 128 ≤ r) (h2 : r ≤ 1114111) (C : Hid (∀ w1, w1 = w → Calls Tryz.prog 169 #[x, .int .i32 r] w1 (AppPost w B x l))) :
    Calls Tryz.prog 163 #[x, .int .i32 r] w (AppPost w B x l) := by
  go_enter Tryz.func163, Tryz.ntmps163
  go_wp2_with (go_at_call 169; refine (C.out _ rfl).mono ?_)
  rintro e w1 ⟨v, rfl, h3⟩
  have H := Lib.hid h3
  clear h3
  go_wp2
  go_ret
  exact ⟨v, rfl, H.out⟩
theorem apr_any (x : Value) (xs : List Int) (r : Int) (B : Nat) (w : World) (hB : B ≤ w.heap.size) (hown : OwnB w B x xs) (hl : xs.length ≤ 1000000) (hb : ¬ Bad r) :
    Calls Tryz.prog 163 #[x, .int .i32 r] w (AppPost w B x (xs ++ encB r)) := by
  by_cases h1 : r < 128
  · rw [enc1 h1]; unfold Bad at hb; exact apr1 x xs r B w hB hown hl (by omega) h1
  · exact apr_hi x _ r B w (by omega) (by unfold Bad at hb; omega) (Lib.hid fun w1 hw => by subst hw; exact apn_any x xs r B _ hB hown hl hb (by omega))

set_option maxHeartbeats 2000000 in
set_option maxRecDepth 100000 in
/-- WriteRune, of a rune. -/
theorem wrune_any (B b : Nat) (v : Bool) (bs : List Int) (r : Int) (w : World) (h : Gat B b v bs w) (hB0 : B ≤ w.heap.size) (hl : bs.length ≤ 1000000) (hr : ¬ Bad r) :
    Calls Tryz.prog 152 #[.pointer (some ⟨b, 0, none⟩), .int .i32 r] w fun e w' => (∃ n : Int, e = .returned (.tuple #[.int .i64 n, .nilIface])) ∧ Gat B b v (bs ++ encB r) w' ∧ Below B w w' := by
  have hne0 : bs ++ encB r ≠ [] := by
    intro e
    have := congrArg List.length e
    rw [List.length_append, List.length_nil] at this
    have := (encB_len r).1
    omega
  obtain ⟨m, hm, hm4⟩ : ∃ m, (bs ++ encB r).length = m ∧ m ≤ 1000010 := ⟨_, rfl, by have := (encB_len r).2; rw [List.length_append]; omega⟩
  obtain ⟨n0, hn0, hn1⟩ : ∃ m, bs.length = m ∧ m ≤ 1000010 := ⟨_, rfl, by omega⟩
  go_enter Tryz.func152, Tryz.ntmps152
  go_wp2_with (go_at_call 159; refine (chk_any B b v bs _ h).mono ?_)
  rintro e w1 ⟨rfl, h1, hb1⟩
  have hlt := h1.lt
  obtain ⟨hB, hby, x, hbk, hown, hx0⟩ := h1
  have hne := Lib.ownBlock_ne hown hbk (by decide)
  have hs1 := hb1.size
  have C := Lib.hid (apr_any x bs r B w1 (by omega) hown hl hr)
  obtain ⟨xa, xc, rfl⟩ : ∃ a c, x = .slice a n0 c := by
    rw [← hn0]
    rcases hown.2 with ⟨h1, h2⟩ | ⟨g, cap, cur, hv, _⟩
    · exact ⟨_, _, by rw [h1, h2]⟩
    · exact ⟨_, _, hv⟩
  have c0 : w1.cell? ⟨b, 0, none⟩ = some (.pointer (some ⟨b, 0, none⟩)) := by rw [Lib.cell_of_heap hbk]; rfl
  have c1 : w1.cell? ⟨b, 1, none⟩ = some (.slice xa n0 xc) := by rw [Lib.cell_of_heap hbk]; rfl
  clear hx0 h
  go_wp2_with (go_at_call 163; refine C.out.mono ?_)
  rintro e w2 ⟨v', rfl, R, o, hgrow⟩
  have hb2 : w2.heap[b]? = some (.cells #[.pointer (some ⟨b, 0, none⟩), .slice xa n0 xc, .bool v] 162 (0, 0)) := by
    rw [hgrow.block b (by simp; omega) (fun e => hne e.symm), Lib.alloc_old w1 _ b hlt]
    exact hbk
  have d0 : w2.cell? ⟨b, 0, none⟩ = some (.pointer (some ⟨b, 0, none⟩)) := by rw [Lib.cell_of_heap hb2]; rfl
  have d1 : w2.cell? ⟨b, 1, none⟩ = some (.slice xa n0 xc) := by rw [Lib.cell_of_heap hb2]; rfl
  have f1 : w2.frozen? ⟨b, 1, none⟩ = false := Lib.frozen_of_heap hb2 1
  obtain ⟨ya, yc, rfl⟩ : ∃ a c, v' = .slice a m c := by
    rw [← hm]
    rcases R.2 with ⟨h1, h2⟩ | ⟨g, cap, cur, hv, _⟩
    · exact ⟨_, _, by rw [h1, h2]⟩
    · exact ⟨_, _, hv⟩
  have FG := Lib.hid (GatP.put (v := v) hB (hby.app (Byt.enc hr)) hb2 R hne0)
  have FB := Lib.hid (((hb1.alloc (by omega) o).grown hgrow (by simp; omega) (fun k hk => (World.ownsRow.lt hown k hk).1)).setCell (p := ⟨b, 1, none⟩) hB (.slice ya m yc))
  have e1 : (w2.setCell ⟨b, 1, none⟩ (.slice ya m yc)).cell? ⟨b, 1, none⟩ = some (.slice ya m yc) := by
    simp [World.cell?, World.setCell, Array.getElem?_modify, hb2]
  clear R hgrow hown hb1 C hm hn0 hne0
  go_wp2
  go_ret2
  exact ⟨⟨_, rfl⟩, .inr FG.out, FB.out⟩

theorem strOf_cells {l : List Int} (h : Byt l) : l.map (Value.int .u8) = Lib.byteCells (l.map fun x => UInt8.ofNat x.toNat) := by
  unfold Lib.byteCells
  rw [List.map_map]
  refine List.map_congr_left fun x hx => ?_
  have := h x hx
  simp only [Function.comp]
  rw [ofNat_toNat x this.1 this.2]
theorem strOf_eq (l : List Int) : strOfNums l = ⟨(l.map fun x => UInt8.ofNat x.toNat).toArray⟩ := by
  have := strOfNums_data l
  cases h : strOfNums l with
  | mk d =>
    rw [h] at this
    simp only at this
    rw [← this]

set_option maxHeartbeats 2000000 in
set_option maxRecDepth 100000 in
theorem str_some (B b : Nat) (p : Value) (v : Bool) (bs : List Int) (w : World) (h : GatP p B b v bs w) (h0 : bs ≠ []) :
    Calls Tryz.prog 106 #[.pointer (some ⟨b, 0, none⟩)] w fun e w' => e = .returned (.string (strOfNums bs)) ∧ Below B w w' := by
  obtain ⟨hB, hby, x, hbk, hown, hx0⟩ := h
  clear hx0
  unfold OwnB at hown
  rw [strOf_eq]
  have hl : (bs.map fun x => UInt8.ofNat x.toNat).length = bs.length := by simp
  rw [strOf_cells hby, ← hl] at hown
  have hl0 : (bs.map fun x => UInt8.ofNat x.toNat) ≠ [] := by simpa using h0
  generalize (bs.map fun x => UInt8.ofNat x.toNat) = l at *
  clear hl h0 hby bs
  have hz0 : l.length ≠ 0 := by simpa using hl0
  obtain ⟨g, cap, cur, rfl, hbg, hg, hnc, hcm, hcs, htake⟩ : ∃ g cap cur, x = .slice (some ⟨g, 0, none⟩) l.length cap ∧ B ≤ g ∧ w.heap[g]? = some (.cells cur 5 (0, 0)) ∧ l.length ≤ cap ∧ cap ≤ maxLen ∧ cur.size = cap * 1 ∧ cur.toList.take (l.length * 1) = Lib.byteCells l := by
    rcases hown.2 with ⟨_, hz⟩ | ⟨g, cap, cur, hv, r⟩
    · exact absurd hz hz0
    · exact ⟨g, cap, cur, hv, r⟩
  have c1 : w.drew.cell? ⟨b, 1, none⟩ = some (.slice (some ⟨g, 0, none⟩) l.length cap) := by
    have : w.drew.heap[b]? = some (.cells #[p, .slice (some ⟨g, 0, none⟩) l.length cap, .bool v] 162 (0, 0)) := hbk
    rw [Lib.cell_of_heap this]; rfl
  have hSD : (Builtin.unsafeSliceData_ #[49] 185 #[.slice (some ⟨g, 0, none⟩) l.length cap]).run Tryz.prog w.drew = .ok (.pointer (some ⟨g, 0, none⟩)) w.drew :=
    Lib.run_unsafeSliceData_row _ _ _ _ _ _ (by omega)
  have hUS : (Builtin.unsafeString_ #[185, 3] 9 #[.pointer (some ⟨g, 0, none⟩), .int .i64 l.length]).run Tryz.prog w.drew = .ok (.string ⟨l.toArray⟩) (w.drew.freeze ⟨g, 0, none⟩ l.length) := by
    refine Lib.run_unsafeString_row w.drew 185 3 9 5 Tryz.underlying185 cellsByte g cur.size (by have hg' : w.drew.heap[g]? = some (.cells cur 5 (0, 0)) := hg; simp [World.shape?, hg']) l hl0 (by omega) (by unfold maxLen at hcm; omega) ?_
    intro j y hy
    have := hown.cells (g := g) rfl j (.int .u8 y.toNat) (by simp [Lib.byteCells, hy])
    exact this
  go_enter Tryz.func106, Tryz.ntmps106
  go_wp2
  go_region
  all_goals (go_wp2; go_ret; exact ⟨rfl, Lib.below_freeze (Below.drew (Below.refl B w)) (p := ⟨g, 0, none⟩) hbg _⟩)

set_option maxHeartbeats 2000000 in
set_option maxRecDepth 100000 in
theorem str_nil (B b : Nat) (p : Value) (v : Bool) (w : World) (h : GatP p B b v [] w) :
    Calls Tryz.prog 106 #[.pointer (some ⟨b, 0, none⟩)] w fun e w' => e = .returned (.string ⟨#[]⟩) ∧ Below B w w' := by
  obtain ⟨hB, hby, x, hbk, hown, hx⟩ := h
  have hx := hx rfl
  subst hx
  have hUS : ∀ (W : World) (q : Option Addr), (Builtin.unsafeString_ #[185, 3] 9 #[.pointer q, .int .i64 0]).run Tryz.prog W = .ok (.string .empty) W := fun W q => Lib.run_unsafeString_none W _ _ _ q
  have c1 : w.drew.cell? ⟨b, 1, none⟩ = some (.slice none 0 0) := by
    have : w.drew.heap[b]? = some (.cells #[p, .slice none 0 0, .bool v] 162 (0, 0)) := hbk
    rw [Lib.cell_of_heap this]; rfl
  have hSD : (Builtin.unsafeSliceData_ #[49] 185 #[.slice none 0 0]).run Tryz.prog w.drew = .ok (.pointer none) w.drew := rfl
  clear hown hby
  go_enter Tryz.func106, Tryz.ntmps106
  go_wp2
  go_region
  all_goals (go_wp2; go_ret; exact ⟨rfl, Below.drew (Below.refl B w)⟩)

theorem str_any (B b : Nat) (v : Bool) (bs : List Int) (w : World) (h : Gat B b v bs w) :
    Calls Tryz.prog 106 #[.pointer (some ⟨b, 0, none⟩)] w fun e w' => e = .returned (.string (strOfNums bs)) ∧ Below B w w' := by
  obtain ⟨p, hp⟩ := h.one
  by_cases h0 : bs = []
  · subst h0
    have : strOfNums [] = ⟨#[]⟩ := by rw [strOf_eq]; rfl
    rw [this]
    exact str_nil B b p v w hp
  · exact str_some B b p v bs w hp h0
end Go.Proofs.YtkeilgompipfjaaGreatDoor

/- The walk of utf.Rune. -/
namespace Go.Proofs.YtkeilgompipfjaaGreatDoor
open Go.RowKit

def R3 (x : Int × Int × Int) : Value := .tuple #[.int .i32 x.1, .int .i64 x.2.1, .int .i64 x.2.2]

theorem poss_true (r : Int) (k n : Nat) (w : World) (h0 : 0 ≤ r) (h1 : r * p64 (n - k) < 2097152) (hk : 1 ≤ k) (hn : k ≤ n) (h4 : n ≤ 4) (h : possB r k n = true) :
    Calls Tryz.prog 64 #[.int .i32 r, .int .i64 k, .int .i64 n] w fun e w' => e = .returned (.bool true) ∧ w = w' := by
  rw [← h]; exact poss_any r k n w h0 h1 hk hn h4
theorem poss_false (r : Int) (k n : Nat) (w : World) (h0 : 0 ≤ r) (h1 : r * p64 (n - k) < 2097152) (hk : 1 ≤ k) (hn : k ≤ n) (h4 : n ≤ 4) (h : possB r k n = false) :
    Calls Tryz.prog 64 #[.int .i32 r, .int .i64 k, .int .i64 n] w fun e w' => e = .returned (.bool false) ∧ w = w' := by
  rw [← h]; exact poss_any r k n w h0 h1 hk hn h4

theorem leadR_bd (b : Int) (h0 : 0 ≤ b) (h1 : b < 256) (h : leadN b ≠ 0) : 1 ≤ leadN b ∧ leadN b ≤ 4 ∧ 0 ≤ leadR b ∧ leadR b * p64 (leadN b - 1) < 2097152 := by
  unfold leadN leadR at *
  by_cases q1 : b < 128
  · simp only [q1, if_true, Nat.reduceSub, p64_0]; omega
  by_cases q2 : b < 192
  · simp [q1, q2] at h
  by_cases q3 : b < 224
  · simp only [q1, q2, q3, if_true, if_false, Nat.reduceSub, p64_1]; omega
  by_cases q4 : b < 240
  · simp only [q1, q2, q3, q4, if_true, if_false, Nat.reduceSub, p64_2]; omega
  by_cases q5 : b < 248
  · simp only [q1, q2, q3, q4, q5, if_true, if_false, Nat.reduceSub, p64_3]; omega
  · simp [q1, q2, q3, q4, q5] at h

theorem next_bd (r b : Int) (n k : Nat) (h : k < n) (h4 : n ≤ 4) (h1 : 1 ≤ k) (hr : 0 ≤ r) (hb : r * p64 (n - k) < 2097152) :
    0 ≤ r * 64 + b % 64 ∧ (r * 64 + b % 64) * p64 (n - (k + 1)) < 2097152 := by
  have h : (k = 1 ∧ n = 2) ∨ (k = 1 ∧ n = 3) ∨ (k = 2 ∧ n = 3) ∨ (k = 1 ∧ n = 4) ∨ (k = 2 ∧ n = 4) ∨ (k = 3 ∧ n = 4) := by omega
  rcases h with ⟨rfl, rfl⟩ | ⟨rfl, rfl⟩ | ⟨rfl, rfl⟩ | ⟨rfl, rfl⟩ | ⟨rfl, rfl⟩ | ⟨rfl, rfl⟩
  all_goals
    simp only [Nat.reduceSub, Nat.reduceAdd, p64_0, p64_1, p64_2, p64_3] at hb ⊢
    omega

theorem r_small (r : Int) (n k : Nat) (h : k < n) (h4 : n ≤ 4) (h1 : 1 ≤ k) (hr : 0 ≤ r) (hb : r * p64 (n - k) < 2097152) : r < 32768 := by
  have h : (k = 1 ∧ n = 2) ∨ (k = 1 ∧ n = 3) ∨ (k = 2 ∧ n = 3) ∨ (k = 1 ∧ n = 4) ∨ (k = 2 ∧ n = 4) ∨ (k = 3 ∧ n = 4) := by omega
  rcases h with ⟨rfl, rfl⟩ | ⟨rfl, rfl⟩ | ⟨rfl, rfl⟩ | ⟨rfl, rfl⟩ | ⟨rfl, rfl⟩ | ⟨rfl, rfl⟩
  all_goals
    simp only [Nat.reduceSub, p64_1, p64_2, p64_3] at hb
    omega

set_option maxHeartbeats 1000000 in
set_option maxRecDepth 100000 in
theorem rune_in (s : ByteArray) (a : Nat) (w : World) (hs : s.size ≤ maxLen) (ha : a < s.size) :
    Calls Tryz.prog 44 #[.string s, .int .i64 a] w fun e w' => e = .returned (R3 (rgo (fun k => bt s (a + k)) (s.size - a) (leadN (bt s a)) 4 1 (leadR (bt s a)))) ∧ w = w' := by
  unfold maxLen at hs
  have b0 := bt_lo s a
  have b1 := bt_hi s a
  have t1 : decide ((a : Int) < 0) = false := by simp
  have t2 : decide (s.size ≤ a) = false := by simp; omega
  have HR := leadR_bd (bt s a) b0 b1
  have HB := Lib.hid (bt_eq s a ha)
  generalize hR : rgo (fun k => bt s (a + k)) (s.size - a) (leadN (bt s a)) 4 1 (leadR (bt s a)) = R
  have HR2 := Lib.hid hR
  clear hR
  by_cases hn : leadN (bt s a) = 0
  · have hR2 := HR2.out
    rw [hn, rgo0] at hR2
    subst hR2
    clear HR HR2
    have hn' : ((leadN (bt s a) : Nat) : Int) = 0 := by omega
    clear hn
    go_enter Tryz.func44, Tryz.ntmps44
    go_wp2_with fail
    rw [HB.out]
    refine (lead_any _ _ b0 b1).mono ?_
    rintro e w' ⟨rfl, rfl⟩
    rw [hn']
    clear hn'
    generalize leadR (bt s a) = r at *
    go_wp2_with fail
    refine wp_loop_rounds 1 ?_
    rw [rounds_succ]
    go_wp2_with (go_at_call 64; refine (poss_zero _ _ _).mono ?_; rintro e w' ⟨rfl, rfl⟩)
    go_ret3
    exact ⟨rfl, rfl⟩
  obtain ⟨n1, n4, r0, r1⟩ := HR hn
  clear hn HR
  go_enter Tryz.func44, Tryz.ntmps44
  go_wp2_with fail
  rw [HB.out]
  refine (lead_any _ _ b0 b1).mono ?_
  rintro e w' ⟨rfl, rfl⟩
  generalize leadN (bt s a) = n at *
  generalize leadR (bt s a) = r at *
  go_wp2_with fail
  go_loop [7, 9, 10] (fun q i _ => ∃ (k : Nat) (r' : Int), 1 ≤ k ∧ k ≤ n ∧ 0 ≤ r' ∧ r' * p64 (n - k) < 2097152 ∧ a + k ≤ s.size ∧ i = .int .i64 k ∧ q = .int .i32 r' ∧ rgo (fun k => bt s (a + k)) (s.size - a) n (5 - k) k r' = R) (fun _ i _ => 5 - (intOf i).toNat)
  case atStart => exact ⟨1, r, by omega, n1, r0, r1, by omega, rfl, rfl, HR2.out⟩
  case round =>
    obtain ⟨k, r', k1, kn, q0, q1, ka, rfl, rfl, hrel⟩ := hrel
    have e5 : 5 - k = (4 - k) + 1 := by omega
    rw [e5, rgo_step] at hrel
    clear e5 HR2 r0 r1 b0 b1 HB t1 t2
    have c0 := bt_lo s (a + k)
    have c1 := bt_hi s (a + k)
    by_cases hp : possB r' k n = false
    · rw [if_pos hp] at hrel
      have HR := Lib.hid hrel
      clear hrel
      go_wp2_with (go_at_call 64; refine (poss_false _ _ _ _ q0 q1 k1 kn n4 hp).mono ?_; rintro e w' ⟨rfl, rfl⟩)
      go_ret3
      exact ⟨by rw [← HR.out]; rfl, rfl⟩
    rw [if_neg hp] at hrel
    have hp' : possB r' k n = true := by simpa using hp
    clear hp
    by_cases hk : k = n
    · subst hk
      rw [if_pos rfl] at hrel
      have HR := Lib.hid hrel
      clear hrel
      go_wp2_with (go_at_call 64; refine (poss_true _ _ _ _ q0 q1 k1 kn n4 hp').mono ?_; rintro e w' ⟨rfl, rfl⟩)
      go_ret3
      exact ⟨by rw [← HR.out]; rfl, rfl⟩
    rw [if_neg hk] at hrel
    have tk : ((k : Int) == (n : Int)) = false := by simp; omega
    by_cases hl : k = s.size - a
    · rw [if_pos hl] at hrel
      have HR := Lib.hid hrel
      clear hrel hk
      have tl : ((a : Int) + (k : Int) == (s.size : Int)) = true := by simp; omega
      clear hl
      go_wp2_with (go_at_call 64; refine (poss_true _ _ _ _ q0 q1 k1 kn n4 hp').mono ?_; rintro e w' ⟨rfl, rfl⟩)
      go_ret3
      exact ⟨by rw [← HR.out]; rfl, rfl⟩
    rw [if_neg hl] at hrel
    have hlt : a + k < s.size := by omega
    have tl : ((a : Int) + (k : Int) == (s.size : Int)) = false := by simp; omega
    have HB := Lib.hid (bt_eq s (a + k) hlt)
    have hkn : k < n := by omega
    have hsm := r_small r' n k hkn n4 k1 q0 q1
    have hby : (s[a + k].toNat : Int) < 256 := by have := s[a + k].toNat_lt; omega
    by_cases hc : bt s (a + k) / 64 = 2
    · rw [if_pos hc] at hrel
      have HR := Lib.hid hrel
      have hc' : ((s[a + k].toNat : Int) / 64 != 2) = false := by rw [HB.out, hc]; rfl
      have NB := Lib.hid (next_bd r' (bt s (a + k)) n k hkn n4 k1 q0 q1)
      clear hl hk hrel hc c0 c1
      go_wp2_with (go_at_call 64; refine (poss_true _ _ _ _ q0 q1 k1 kn n4 hp').mono ?_; rintro e w' ⟨rfl, rfl⟩)
      go_round
      case rel => exact ⟨k + 1, r' * 64 + bt s (a + k) % 64, by omega, by omega, NB.out.1, NB.out.2, by omega, by go_num, by rw [HB.out], by rw [← HR.out]; congr 1; omega⟩
      case measure => simp [intOf]; omega
    · rw [if_neg hc] at hrel
      have HR := Lib.hid hrel
      have hc' : ((s[a + k].toNat : Int) / 64 != 2) = true := by rw [HB.out]; simpa using hc
      clear hl hk hrel hc c0 c1
      go_wp2_with (go_at_call 64; refine (poss_true _ _ _ _ q0 q1 k1 kn n4 hp').mono ?_; rintro e w' ⟨rfl, rfl⟩)
      go_ret3
      exact ⟨by rw [← HR.out]; rfl, rfl⟩
end Go.Proofs.YtkeilgompipfjaaGreatDoor

/- The decoder's loop comes to what the table of first bytes says. -/
set_option linter.unusedSimpArgs false
set_option linter.unusedVariables false
namespace Go.Proofs.YtkeilgompipfjaaGreatDoor
set_option maxHeartbeats 2000000 in
theorem rgo_canon (b : Nat → Int) (left : Nat) (hl : 1 ≤ left) (h0 : ∀ k, 0 ≤ b k) (h1 : ∀ k, b k < 256) :
    rgo b left (leadN (b 0)) 4 1 (leadR (b 0)) = canon b left := by
  have a0 := h0 0; have a1 := h1 0
  have b0 := h0 1; have b1 := h1 1
  have c0 := h0 2; have c1 := h1 2
  have d0 := h0 3; have d1 := h1 3
  unfold leadN leadR canon
  generalize e0 : b 0 = x0 at *
  by_cases q1 : x0 < 128
  · simp only [q1, if_true, rgo_step, possB_false, p64, most, least]
    simp
    omega
  by_cases q2 : x0 < 192
  · have : x0 < 194 := by omega
    simp only [q1, q2, this, if_true, if_false, rgo0]
  by_cases q3 : x0 < 224
  · simp only [q1, q2, q3, if_true, if_false, rgo_step, possB_false, p64_0, p64_1, p64_2, p64_3, least2, least3, least4, most2, most3, most4, Nat.reduceSub, Nat.reduceEqDiff, Nat.reduceAdd, false_or, e0]
    repeat' split
    all_goals (first | rfl | (exfalso; omega) | (refine tri ?_ ?_ ?_ <;> omega))
  by_cases q4 : x0 < 240
  · simp only [q1, q2, q3, q4, if_true, if_false, rgo_step, possB_false, p64_0, p64_1, p64_2, p64_3, least2, least3, least4, most2, most3, most4, Nat.reduceSub, Nat.reduceEqDiff, Nat.reduceAdd, false_or, e0]
    repeat' split
    all_goals (first | rfl | (exfalso; omega) | (refine tri ?_ ?_ ?_ <;> omega))
  by_cases q5 : x0 < 248
  · simp only [q1, q2, q3, q4, q5, if_true, if_false, rgo_step, possB_false, p64_0, p64_1, p64_2, p64_3, least2, least3, least4, most2, most3, most4, Nat.reduceSub, Nat.reduceEqDiff, Nat.reduceAdd, false_or, e0]
    repeat' split
    all_goals (first | rfl | (exfalso; omega) | (refine tri ?_ ?_ ?_ <;> omega))
  · have q6 : ¬ x0 < 245 := by omega
    simp only [q1, q2, q3, q4, q5, q6, if_false, rgo0]
    split
    · rfl
    · rfl
end Go.Proofs.YtkeilgompipfjaaGreatDoor

/- utf.Rune, of whatever bytes, at whatever place. -/
set_option linter.unusedSimpArgs false
set_option linter.unusedVariables false
namespace Go.Proofs.YtkeilgompipfjaaGreatDoor
open Go.RowKit

set_option maxHeartbeats 400000 in
theorem rune_out (s : ByteArray) (a : Int) (w : World) (hs : s.size ≤ maxLen) (ha : a < 0 ∨ (s.size : Int) ≤ a) :
    Calls Tryz.prog 44 #[.string s, .int .i64 a] w fun e w' => e = .returned (R3 (0, 0, 7)) ∧ w = w' := by
  unfold maxLen at hs
  by_cases h : a < 0
  · clear ha
    go_enter Tryz.func44, Tryz.ntmps44
    go_wp2
    go_ret3
    exact ⟨rfl, rfl⟩
  · have h2 : (s.size : Int) ≤ a := by omega
    clear ha
    go_enter Tryz.func44, Tryz.ntmps44
    go_wp2
    go_ret3
    exact ⟨rfl, rfl⟩

theorem rune_any (s : ByteArray) (a : Int) (w : World) (hs : s.size ≤ maxLen) :
    Calls Tryz.prog 44 #[.string s, .int .i64 a] w fun e w' => e = .returned (R3 (runeF s a)) ∧ w = w' := by
  unfold runeF
  by_cases h : a < 0 ∨ (s.size : Int) ≤ a
  · rw [if_pos h]
    exact rune_out s a w hs h
  · rw [if_neg h]
    obtain ⟨n, rfl⟩ := Int.eq_ofNat_of_zero_le (show 0 ≤ a by omega)
    rw [Int.toNat_natCast, ← rgo_canon _ _ (by omega) (fun k => bt_lo s _) (fun k => bt_hi s _)]
    exact rune_in s n w hs (by omega)
theorem rune_at (s : ByteArray) (a : Nat) (w : World) (hs : s.size ≤ maxLen) :
    Calls Tryz.prog 44 #[.string s, .int .i64 a] w fun e w' => e = .returned (.tuple #[.int .i32 (runeF s a).1, .int .i64 (runeF s a).2.1, .int .i64 (runeF s a).2.2]) ∧ w = w' := rune_any s a w hs
end Go.Proofs.YtkeilgompipfjaaGreatDoor

/- The walks of ref.numbered and of the gatherer's methods. -/
set_option linter.unusedSimpArgs false
set_option linter.unusedVariables false
namespace Go.Proofs.YtkeilgompipfjaaGreatDoor
open Go.RowKit

theorem byts_from (t : ByteArray) (k : Nat) : byts (t.extract k t.size) = (byts t).drop k := by
  rw [byts_extract, List.take_of_length_le (by rw [byts_len]; omega)]
theorem byts_to (t : ByteArray) (k : Nat) : byts (t.extract 0 k) = (byts t).take k := by
  rw [byts_extract, List.drop_zero]
theorem size_from (t : ByteArray) (k : Nat) : (t.extract k t.size).size = t.size - k := by
  rw [← byts_len, byts_from, List.length_drop, byts_len]

/-- What a function answers that looks for a rune. -/
def NmPost (r : Int) (w : World) (e : Ending) (w' : World) : Prop :=
  ((0 ≤ r ∧ e = .returned (.tuple #[.int .i32 r, .bool true])) ∨ (r < 0 ∧ e = .returned (.tuple #[.int .i32 0, .bool false]))) ∧ Below w.heap.size w w'

set_option maxHeartbeats 2000000 in
set_option maxRecDepth 100000 in
theorem num_no (t d2 : ByteArray) (is : Bool) (w : World)
    (C1 : Hid (∀ w, Calls Tryz.prog 47 #[.string t, .string ⟨#[35]⟩] w fun e w' => e = .returned (.tuple #[.string t, .bool false]) ∧ w = w'))
    (C2 : Hid (∀ w, Calls Tryz.prog 47 #[.string t, .string ⟨#[120]⟩] w fun e w' => e = .returned (.tuple #[.string d2, .bool is]) ∧ w = w')) :
    Calls Tryz.prog 151 #[.string t] w fun e w' => e = .returned (.tuple #[.int .i32 0, .bool false]) ∧ Below w.heap.size w w' := by
  cases is
  all_goals
    go_enter Tryz.func151, Tryz.ntmps151
    go_wp2_with fail
    refine (C1.out _).mono ?_
    rintro e w' ⟨rfl, rfl⟩
    go_wp2_with fail
    refine (C2.out _).mono ?_
    rintro e w' ⟨rfl, rfl⟩
    go_wp2
    go_ret2
    exact ⟨rfl, Below.refl _ _⟩

set_option maxHeartbeats 2000000 in
set_option maxRecDepth 100000 in
theorem num_dec_long (t d d2 : ByteArray) (w : World)
    (C1 : Hid (∀ w, Calls Tryz.prog 47 #[.string t, .string ⟨#[35]⟩] w fun e w' => e = .returned (.tuple #[.string d, .bool true]) ∧ w = w'))
    (C2 : Hid (∀ w, Calls Tryz.prog 47 #[.string d, .string ⟨#[120]⟩] w fun e w' => e = .returned (.tuple #[.string d2, .bool false]) ∧ w = w')) (h8 : 8 < d.size) :
    Calls Tryz.prog 151 #[.string t] w fun e w' => e = .returned (.tuple #[.int .i32 0, .bool false]) ∧ Below w.heap.size w w' := by
  have i8 : decide ((8 : Int) < (d.size : Int)) = true := by rw [decide_eq_true_eq]; omega
  have j8 : decide (8 < d.size) = true := by rw [decide_eq_true_eq]; omega
  clear h8
  go_enter Tryz.func151, Tryz.ntmps151
  go_wp2_with fail
  refine (C1.out _).mono ?_
  rintro e w' ⟨rfl, rfl⟩
  go_wp2_with fail
  refine (C2.out _).mono ?_
  rintro e w' ⟨rfl, rfl⟩
  go_wp2
  go_ret2
  exact ⟨rfl, Below.refl _ _⟩

set_option maxHeartbeats 2000000 in
set_option maxRecDepth 100000 in
theorem num_dec (t d d2 : ByteArray) (w : World)
    (C1 : Hid (∀ w, Calls Tryz.prog 47 #[.string t, .string ⟨#[35]⟩] w fun e w' => e = .returned (.tuple #[.string d, .bool true]) ∧ w = w'))
    (C2 : Hid (∀ w, Calls Tryz.prog 47 #[.string d, .string ⟨#[120]⟩] w fun e w' => e = .returned (.tuple #[.string d2, .bool false]) ∧ w = w')) (h8 : d.size ≤ 8) (x : Int) (hx0 : x ≤ 2147483647) (CP : Hid (Calls Tryz.prog 162 #[.string d, .int .i64 10, .int .i64 31] w (PPost x w))) :
    Calls Tryz.prog 151 #[.string t] w (NmPost (chrOr x) w) := by
  have i8 : decide ((8 : Int) < (d.size : Int)) = false := by rw [decide_eq_false_iff_not]; omega
  have j8 : decide (8 < d.size) = false := by rw [decide_eq_false_iff_not]; omega
  clear h8
  go_enter Tryz.func151, Tryz.ntmps151
  go_wp2_with fail
  refine (C1.out _).mono ?_
  rintro e w' ⟨rfl, rfl⟩
  go_wp2_with fail
  refine (C2.out _).mono ?_
  rintro e w' ⟨rfl, rfl⟩
  go_wp2_with fail
  refine CP.out.mono ?_
  rintro e w1 ⟨h, hb⟩
  clear CP C1 C2
  rcases h with ⟨h0, rfl⟩ | ⟨h0, y, n, rfl⟩
  · by_cases hc : Chr x
    · have CC : Hid (∀ w, Calls Tryz.prog 45 #[.int .i32 x] w fun e w' => e = .returned (.bool true) ∧ w = w') := Lib.hid fun w => by
        have := chr_any x w
        rw [decide_eq_true hc] at this
        exact this
      have HC : Hid (chrOr x = x) := Lib.hid (if_pos hc)
      have q : IntKind.i32.wrap x = x := by
        rw [IntKind.wrap_i32]; omega
      clear hc
      go_wp2_with (go_at_call 45; refine (CC.out _).mono ?_; rintro e w' ⟨rfl, rfl⟩)
      go_ret2
      exact ⟨.inl ⟨by rw [HC.out]; exact h0, by rw [HC.out]; rfl⟩, hb⟩
    · have CC : Hid (∀ w, Calls Tryz.prog 45 #[.int .i32 x] w fun e w' => e = .returned (.bool false) ∧ w = w') := Lib.hid fun w => by
        have := chr_any x w
        rw [decide_eq_false hc] at this
        exact this
      have HC : Hid (chrOr x = -1) := Lib.hid (if_neg hc)
      have q : IntKind.i32.wrap x = x := by
        rw [IntKind.wrap_i32]; omega
      clear hc
      go_wp2_with (go_at_call 45; refine (CC.out _).mono ?_; rintro e w' ⟨rfl, rfl⟩)
      go_ret2
      exact ⟨.inr ⟨by rw [HC.out]; omega, rfl⟩, hb⟩
  · have HC : Hid (chrOr x = -1) := Lib.hid (by rw [h0]; exact chrOr_neg)
    clear h0 hx0
    go_wp2
    go_ret2
    exact ⟨.inr ⟨by rw [HC.out]; omega, rfl⟩, hb⟩

set_option maxHeartbeats 2000000 in
set_option maxRecDepth 100000 in
theorem num_hex_long (t d d2 : ByteArray) (w : World)
    (C1 : Hid (∀ w, Calls Tryz.prog 47 #[.string t, .string ⟨#[35]⟩] w fun e w' => e = .returned (.tuple #[.string d, .bool true]) ∧ w = w'))
    (C2 : Hid (∀ w, Calls Tryz.prog 47 #[.string d, .string ⟨#[120]⟩] w fun e w' => e = .returned (.tuple #[.string d2, .bool true]) ∧ w = w')) (h8 : 8 < d2.size) :
    Calls Tryz.prog 151 #[.string t] w fun e w' => e = .returned (.tuple #[.int .i32 0, .bool false]) ∧ Below w.heap.size w w' := by
  have i8 : decide ((8 : Int) < (d2.size : Int)) = true := by rw [decide_eq_true_eq]; omega
  have j8 : decide (8 < d2.size) = true := by rw [decide_eq_true_eq]; omega
  clear h8
  go_enter Tryz.func151, Tryz.ntmps151
  go_wp2_with fail
  refine (C1.out _).mono ?_
  rintro e w' ⟨rfl, rfl⟩
  go_wp2_with fail
  refine (C2.out _).mono ?_
  rintro e w' ⟨rfl, rfl⟩
  go_wp2
  go_ret2
  exact ⟨rfl, Below.refl _ _⟩

set_option maxHeartbeats 2000000 in
set_option maxRecDepth 100000 in
theorem num_hex (t d d2 : ByteArray) (w : World)
    (C1 : Hid (∀ w, Calls Tryz.prog 47 #[.string t, .string ⟨#[35]⟩] w fun e w' => e = .returned (.tuple #[.string d, .bool true]) ∧ w = w'))
    (C2 : Hid (∀ w, Calls Tryz.prog 47 #[.string d, .string ⟨#[120]⟩] w fun e w' => e = .returned (.tuple #[.string d2, .bool true]) ∧ w = w')) (h8 : d2.size ≤ 8) (x : Int) (hx0 : x ≤ 2147483647) (CP : Hid (Calls Tryz.prog 162 #[.string d2, .int .i64 16, .int .i64 31] w (PPost x w))) :
    Calls Tryz.prog 151 #[.string t] w (NmPost (chrOr x) w) := by
  have i8 : decide ((8 : Int) < (d2.size : Int)) = false := by rw [decide_eq_false_iff_not]; omega
  have j8 : decide (8 < d2.size) = false := by rw [decide_eq_false_iff_not]; omega
  clear h8
  go_enter Tryz.func151, Tryz.ntmps151
  go_wp2_with fail
  refine (C1.out _).mono ?_
  rintro e w' ⟨rfl, rfl⟩
  go_wp2_with fail
  refine (C2.out _).mono ?_
  rintro e w' ⟨rfl, rfl⟩
  go_wp2_with fail
  refine CP.out.mono ?_
  rintro e w1 ⟨h, hb⟩
  clear CP C1 C2
  rcases h with ⟨h0, rfl⟩ | ⟨h0, y, n, rfl⟩
  · by_cases hc : Chr x
    · have CC : Hid (∀ w, Calls Tryz.prog 45 #[.int .i32 x] w fun e w' => e = .returned (.bool true) ∧ w = w') := Lib.hid fun w => by
        have := chr_any x w
        rw [decide_eq_true hc] at this
        exact this
      have HC : Hid (chrOr x = x) := Lib.hid (if_pos hc)
      have q : IntKind.i32.wrap x = x := by
        rw [IntKind.wrap_i32]; omega
      clear hc
      go_wp2_with (go_at_call 45; refine (CC.out _).mono ?_; rintro e w' ⟨rfl, rfl⟩)
      go_ret2
      exact ⟨.inl ⟨by rw [HC.out]; exact h0, by rw [HC.out]; rfl⟩, hb⟩
    · have CC : Hid (∀ w, Calls Tryz.prog 45 #[.int .i32 x] w fun e w' => e = .returned (.bool false) ∧ w = w') := Lib.hid fun w => by
        have := chr_any x w
        rw [decide_eq_false hc] at this
        exact this
      have HC : Hid (chrOr x = -1) := Lib.hid (if_neg hc)
      have q : IntKind.i32.wrap x = x := by
        rw [IntKind.wrap_i32]; omega
      clear hc
      go_wp2_with (go_at_call 45; refine (CC.out _).mono ?_; rintro e w' ⟨rfl, rfl⟩)
      go_ret2
      exact ⟨.inr ⟨by rw [HC.out]; omega, rfl⟩, hb⟩
  · have HC : Hid (chrOr x = -1) := Lib.hid (by rw [h0]; exact chrOr_neg)
    clear h0 hx0
    go_wp2
    go_ret2
    exact ⟨.inr ⟨by rw [HC.out]; omega, rfl⟩, hb⟩

theorem numV_eq (b : Int) (hb : 1 ≤ b) (t : ByteArray) (h8 : t.size ≤ 8) : numV b (byts t) = chrOr (if t.size = 0 then -1 else puGo b (byts t) 0) := by
  unfold numV
  by_cases h0 : t.size = 0
  · rw [if_pos h0, chrOr_neg, if_pos (.inl (List.eq_nil_of_length_eq_zero (by rw [byts_len]; exact h0)))]
  · rw [if_neg h0, if_neg, pu_num b hb]
    rintro (h | h)
    · have := congrArg List.length h
      rw [byts_len, List.length_nil] at this
      exact h0 this
    · rw [byts_len] at h; omega
theorem pu_le (b : Int) (hb : 1 ≤ b) (t : ByteArray) : (if t.size = 0 then -1 else puGo b (byts t) 0) ≤ 2147483647 := by
  split
  · omega
  · rcases puGo_bd b hb (byts t) 0 (by omega) (by omega) with h | h <;> omega
theorem numbered_any (t : ByteArray) (w : World) (hs : t.size ≤ 1000000) (hV : Vars w) : Calls Tryz.prog 151 #[.string t] w (NmPost (nrV (byts t)) w) := by
  unfold nrV
  by_cases h1 : (byts t).getD 0 0 = 35
  · rw [if_neg (by simpa using h1)]
    have C1 := Lib.hid (cp_yes t 35 (by decide) h1)
    have hd : (byts (t.extract 1 t.size)).getD 0 0 = (byts t).getD 1 0 := by
      rw [byts_from]; simp [List.getD_eq_getElem?_getD, List.getElem?_drop]
    have hz : (t.extract 1 t.size).size ≤ 1000000 := by rw [size_from]; omega
    by_cases h2 : (byts t).getD 1 0 = 120
    · rw [if_pos h2]
      have C2 := Lib.hid (cp_yes (t.extract 1 t.size) 120 (by decide) (by rw [hd]; exact h2))
      have e : (byts t).drop 2 = byts ((t.extract 1 t.size).extract 1 (t.extract 1 t.size).size) := by rw [byts_from, byts_from, List.drop_drop]
      have hz2 : ((t.extract 1 t.size).extract 1 (t.extract 1 t.size).size).size ≤ 1000000 := by rw [size_from]; omega
      rw [e]
      by_cases h8 : 8 < ((t.extract 1 t.size).extract 1 (t.extract 1 t.size).size).size
      · refine (num_hex_long t _ _ w C1 C2 h8).mono ?_
        rintro e w' ⟨rfl, hb⟩
        refine ⟨.inr ⟨?_, rfl⟩, hb⟩
        unfold numV
        rw [if_pos (.inr (by rw [byts_len]; exact h8))]
        omega
      · rw [numV_eq 16 (by omega) _ (by omega)]
        exact num_hex t _ _ w C1 C2 (by omega) _ (pu_le 16 (by omega) _) (Lib.hid (parse_any _ 16 (.inr rfl) w hz2 hV))
    · rw [if_neg h2]
      have C2 := Lib.hid (cp_no (t.extract 1 t.size) 120 (by rw [hd]; exact h2))
      rw [← byts_from]
      by_cases h8 : 8 < (t.extract 1 t.size).size
      · refine (num_dec_long t _ _ w C1 C2 h8).mono ?_
        rintro e w' ⟨rfl, hb⟩
        refine ⟨.inr ⟨?_, rfl⟩, hb⟩
        unfold numV
        rw [if_pos (.inr (by rw [byts_len]; exact h8))]
        omega
      · rw [numV_eq 10 (by omega) _ (by omega)]
        exact num_dec t _ _ w C1 C2 (by omega) _ (pu_le 10 (by omega) _) (Lib.hid (parse_any _ 10 (.inl rfl) w hz hV))
  · rw [if_pos h1]
    have C1 := Lib.hid (cp_no t 35 h1)
    have fin : ∀ (d2 : ByteArray) (is : Bool), Hid (∀ w, Calls Tryz.prog 47 #[.string t, .string ⟨#[120]⟩] w fun e w' => e = .returned (.tuple #[.string d2, .bool is]) ∧ w = w') → Calls Tryz.prog 151 #[.string t] w (NmPost (-1) w) := fun d2 is C2 => by
      refine (num_no t d2 is w C1 C2).mono ?_
      rintro e w' ⟨rfl, hb⟩
      exact ⟨.inr ⟨by omega, rfl⟩, hb⟩
    by_cases h2 : (byts t).getD 0 0 = 120
    · exact fin _ _ (Lib.hid (cp_yes t 120 (by decide) h2))
    · exact fin _ _ (Lib.hid (cp_no t 120 h2))
end Go.Proofs.YtkeilgompipfjaaGreatDoor
