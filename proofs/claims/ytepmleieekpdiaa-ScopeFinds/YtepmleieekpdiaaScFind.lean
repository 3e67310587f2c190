/-
  The walks of slices.Backward over bindings and of scope.Find.
-/
import Derived.Test.YtepmleieekpdiaaScClone
import Derived.RangeFuncNested
import Derived.RangeFuncBox
import Derived.RangeFuncBound
import Derived.RangeFuncCalls
import Derived.RangeFuncLeaves
import Derived.Shelf.Abstract
import Derived.Shelf.RegionOpen
import Derived.WalkKit
import Derived.OwnWalkIn
import Derived.TacticsInMore
import Derived.LoopNIn
import Derived.LoopIn
set_option linter.unusedSimpArgs false
set_option linter.unusedVariables false
namespace Go.Proofs.Ytepmleieekpdiaa
open Go.RowKit Go.Shelf

attribute [local go_sem] Oper.semAt_some

/-- What has come when k rounds are over. -/
def upto {α : Type} (f : Nat → α) (k : Nat) : List α := (List.range k).map f
theorem upto_succ {α : Type} (f : Nat → α) (k : Nat) : upto f (k + 1) = upto f k ++ [f k] := by simp [upto, List.range_succ]
theorem upto_length {α : Type} (f : Nat → α) (k : Nat) : (upto f k).length = k := by simp [upto]
theorem upto_mem {α : Type} (f : Nat → α) (k j : Nat) (h : j < k) : f j ∈ upto f k := by
  simp only [upto, List.mem_map, List.mem_range]
  exact ⟨j, h, rfl⟩

/-- A binding whose space may be copied. -/
abbrev LB := { b : P2 // b.2.size ≤ Lim }
def lat (l : List P2) (h : LimL l) (k : Nat) : LB := ⟨l.getD k (em, em), by
  rw [List.getD_eq_getElem?_getD]
  cases hk : l[k]? with
  | none => exact Nat.zero_le _
  | some x => exact (h x (List.mem_of_getElem? hk)).2⟩
theorem lat_get {l : List P2} (h : LimL l) {k : Nat} {x : P2} (hk : l[k]? = some x) : (lat l h k).1 = x := by
  show l.getD k (em, em) = x
  rw [List.getD_eq_getElem?_getD, hk]
  rfl
/-- The pair that comes in round k. -/
def bk (l : List P2) (h : LimL l) (k : Nat) : Nat × LB := (l.length - 1 - k, lat l h (l.length - 1 - k))
def encB (x : Nat × LB) : Array Value := #[.int .i64 (x.1 : Int), .agg #[.string x.2.1.1, .string x.2.1.2]]
/-- The slice at A reads as these pairs, in a block below n. -/
def RdN (n : Nat) (w : World) (A : Option Addr) (l : List P2) : Prop :=
  ∀ k x, l[k]? = some x → ∃ b off, A = some ⟨b, off, none⟩ ∧ b < n ∧ w.cell? ⟨b, off + k * 2, none⟩ = some (.string x.1) ∧ w.cell? ⟨b, off + k * 2 + 1, none⟩ = some (.string x.2)
theorem RdN.below {n : Nat} {w w' : World} {A : Option Addr} {l : List P2} (h : RdN n w A l) (hb : Below n w w') : RdN n w' A l := fun k x hk => by
  obtain ⟨b, o, e, hlt, c0, c1⟩ := h k x hk
  exact ⟨b, o, e, hlt, (hb.cell (p := ⟨b, o + k * 2, none⟩) hlt).trans c0, (hb.cell (p := ⟨b, o + k * 2 + 1, none⟩) hlt).trans c1⟩
set_option maxRecDepth 100000 in
set_option maxHeartbeats 2000000 in
theorem bw1_in (n : Nat) (hn : 1 ≤ n) (l : Nat) (Bs n₀ cap : Nat) (A : Option Addr) (L : List P2) (N : Nat) (hN : N = L.length) (hlim : LimL L) (hreach : N ≤ 1000000) (J Jx : List (Nat × LB) → World → Prop)
    (hY : ∀ pre x W, J pre W → pre.length < N → YieldAt Fence.wide (n - 1) Try.prog l (encB x) W fun e W' =>
      (e = .returned (.bool true) ∧ J (pre ++ [x]) W' ∧ Below n₀ W W') ∨ (e = .returned (.bool false) ∧ Jx (pre ++ [x]) W'))
    (W : World) (hBs : W.cell? ⟨Bs, 0, none⟩ = some (.slice A N cap)) (hlt : Bs < n₀) (hR : RdN n₀ W A L) (h0 : J [] W) :
    CallsIn Fence.wide n Try.prog 34 #[.func (.yield l) #[] #[], .pointer (some ⟨Bs, 0, none⟩)] W fun e W' => (∃ v, e = .returned v) ∧
      ((∃ ys, ys = upto (bk L hlim) N ∧ J ys W') ∨ (∃ pre, (∃ k, k ≤ N ∧ pre = upto (bk L hlim) k) ∧ Jx pre W')) := by
  have HR := Lib.hid hR
  have HN := Lib.hid hN
  clear hR hN
  refine callsIn_of_wp Try.func34 rfl trivial ?_ rfl
  simp only [Try.ntmps34, List.size_toArray, List.length_cons, List.length_nil, Nat.reduceAdd, Nat.reduceSub, Array.replicate_succ, Array.replicate_zero, List.push_toArray, List.append_toArray, List.nil_append, List.cons_append]
  gi_wp2
  gi_loopw [3] (fun i wr => ∃ m : Nat, m ≤ N ∧ i = .int .i64 ((m : Int) - 1) ∧ J (upto (bk L hlim) (N - m)) wr ∧ Hid (Below n₀ W wr))
    (fun i _ => (intOf i + 1).toNat)
  case atStart => exact ⟨N, Nat.le_refl _, by simp, by rw [Nat.sub_self]; exact h0, Lib.hid (Below.refl _ _)⟩
  case round =>
    obtain ⟨m, hm, rfl, hJs, hnx⟩ := hrel
    have hBs' : wr.cell? ⟨Bs, 0, none⟩ = some (.slice A N cap) := (hnx.out.cell (p := ⟨Bs, 0, none⟩) hlt).trans hBs
    clear hBs
    cases m with
    | zero =>
      have e0 : (((0 : Nat) : Int) - 1) = -1 := by omega
      rw [e0]
      rw [Nat.sub_zero] at hJs
      gi_wp2
      go_end0
      exact ⟨⟨_, rfl⟩, .inl ⟨_, rfl, hJs⟩⟩
    | succ m =>
      have e1 : (((m + 1 : Nat) : Int) - 1) = (m : Int) := by omega
      rw [e1]
      have hml : m < L.length := by rw [← HN.out]; omega
      obtain ⟨b, off, rfl, hb, x0, x1⟩ := (HR.out.below hnx.out) m _ (List.getElem?_eq_getElem hml)
      have ebk : bk L hlim (N - (m + 1)) = (m, lat L hlim m) := by
        unfold bk
        have : L.length - 1 - (N - (m + 1)) = m := by rw [← HN.out]; omega
        rw [this]
      have elat : (lat L hlim m).1 = L[m] := lat_get hlim (List.getElem?_eq_getElem hml)
      obtain ⟨fn, tmps, assign, body, hy, hR'⟩ := hY _ (m, lat L hlim m) wr hJs (by rw [upto_length]; omega)
      unfold encB at hy
      dsimp only at hy
      rw [← elat] at x0 x1
      have hnext : N - m = N - (m + 1) + 1 := by omega
      have d1 : (m : Int) < (N : Int) := by omega
      have d0 : (0 : Int) ≤ (m : Int) := by omega
      have HE := Lib.hid ebk
      have HX := Lib.hid hnext
      clear e1 ebk elat hnext HR HN
      generalize lat L hlim m = lm at *
      gi_wp2
      refine hR'.mono ?_
      rintro e W3 (⟨rfl, hJ3, hk3⟩ | ⟨rfl, hJx3⟩)
      · gi_wp2
        go_roundw
        case rel => exact ⟨m, by omega, by go_num, by rw [HX.out, upto_succ, HE.out]; exact hJ3, Lib.hid (hnx.out.trans hk3)⟩
        case measure => simp [intOf]
      · gi_wp2
        refine bodyPost_ret (results_none rfl _ _ _) rfl ?_
        exact ⟨⟨_, rfl⟩, .inr ⟨_, ⟨N - (m + 1) + 1, by omega, by rw [upto_succ, HE.out]⟩, hJx3⟩⟩
set_option maxHeartbeats 1000000 in
set_option maxRecDepth 100000 in
theorem bw_any (a : Option Addr) (len cap : Nat) (w : World) :
    Calls Try.prog 25 #[.slice a len cap] w fun e w' => e = .returned (.func (.func 34) #[] #[.pointer (some ⟨w.heap.size, 0, none⟩)]) ∧ w' = w.alloc (.cells #[.slice a len cap] 22) := by
  go_enter Try.func25, Try.ntmps25
  go_wp2
  go_ret
  exact ⟨rfl, rfl⟩
theorem bw_stops (n : Nat) (hn : 1 ≤ n) (Bs n₀ cap : Nat) (A : Option Addr) (L : List P2) (N : Nat) (hN : N = L.length) (hlim : LimL L) (hreach : N ≤ 1000000) (w : World) (hlt : Bs < w.heap.size) (hn₀ : n₀ ≤ w.heap.size)
    (hBs : w.cell? ⟨Bs, 0, none⟩ = some (.slice A N cap)) (hB0 : Bs < n₀) (hR : RdN n₀ w A L) :
    SeqStopsK Fence.wide n Try.prog 34 #[.pointer (some ⟨Bs, 0, none⟩)] encB (Below n₀) (fun ys => ys = upto (bk L hlim) N) (fun pre => ∃ k, k ≤ N ∧ pre = upto (bk L hlim) k) N w := fun l J Jx W hW _ _ hY h0 => by
  have hc' := (hW.cell (p := ⟨Bs, 0, none⟩) hlt).trans hBs
  exact bw1_in n hn l Bs n₀ cap A L N hN hlim hreach J Jx hY W hc' hB0 (hR.below (hW.mono hn₀)) h0
theorem blk_own {β : Type} (B : Nat) (t : TypeId) (f : β → Array Value) : Own (fun s W => W.heap[B]? = some (.cells (f s) t (0, 0))) := fun s X Y row hs hg hrow =>
  (hg.block B (Array.getElem?_eq_some_iff.1 hs).1 (fun e' => by obtain ⟨o, ho, hc⟩ := hrow B e'.symm; rw [hs] at ho; cases ho; cases hc)).trans hs
theorem keeps_below {W W' : World} (h : Below W.heap.size W W') : KeepsOthers W W' := KeepsOthers.of_grownBy (row := none) ⟨h.os, h.tape, h.output, h.size, fun k hk _ => h.block k hk⟩ (fun j o e => by cases e)
theorem boxed_low {W W' : World} {B : Nat} {t : TypeId} {v : Value} (h : Boxed W B t v) (hb : Below W.heap.size W W') : Boxed W' B t v := (hb.block B h.lt).trans h
theorem fnd_stop {L : List P2} (hlim : LimL L) (p : ByteArray) (k : Nat) (hk : k < L.length) (h1 : ∀ j, j < k → eqb (bk L hlim j).2.1.1 p = false) (h2 : eqb (bk L hlim k).2.1.1 p = true) : fndF L p = ((bk L hlim k).2.1.2, true) := by
  have hx := List.getElem?_eq_getElem (show L.length - 1 - k < L.length by omega)
  have e : (bk L hlim k).2.1 = L[L.length - 1 - k]'(by omega) := lat_get hlim hx
  rw [e] at h2 ⊢
  refine fnd_hit L p _ _ hx h2 (fun j x hj hxj => ?_)
  have hjl : j < L.length := (List.getElem?_eq_some_iff.1 hxj).1
  have := h1 (L.length - 1 - j) (by omega)
  have ej : L.length - 1 - (L.length - 1 - j) = j := by omega
  have e2 : (bk L hlim (L.length - 1 - j)).2.1 = x := by
    unfold bk
    dsimp only
    rw [ej]
    exact lat_get hlim hxj
  rw [e2] at this
  exact this
theorem fnd_done {L : List P2} (hlim : LimL L) (p : ByteArray) (h1 : ∀ j, j < L.length → eqb (bk L hlim j).2.1.1 p = false) : fndF L p = (em, eqb p em) := by
  refine fnd_none L p (fun j x hxj => ?_)
  have hjl : j < L.length := (List.getElem?_eq_some_iff.1 hxj).1
  have := h1 (L.length - 1 - j) (by omega)
  have ej : L.length - 1 - (L.length - 1 - j) = j := by omega
  have e2 : (bk L hlim (L.length - 1 - j)).2.1 = x := by
    unfold bk
    dsimp only
    rw [ej]
    exact lat_get hlim hxj
  rw [e2] at this
  exact this
theorem eqb_em (p : ByteArray) : eqb p em = p.toList.isEmpty := by
  have e : em.toList = [] := by rw [Lib.toList_data]; rfl
  unfold eqb
  rw [e]
  cases p.toList <;> rfl
theorem Try.results12 : Try.f12.results = #[ResultVar.cell 4 9, ResultVar.cell 5 4] := by kernel_rfl
set_option maxHeartbeats 4000000 in
set_option maxRecDepth 100000 in
theorem find_any (A : Option Addr) (N cap : Nat) (p : ByteArray) (L : List P2) (w : World) (hN : N = L.length) (hlim : LimL L) (hreach : N ≤ 1000000) (hR : RdR w A L) :
    Calls Try.prog 12 #[.slice A N cap, .string p] w fun e w' => e = .returned (.tuple #[.string (fndF L p).1, .bool (fndF L p).2]) ∧ Below w.heap.size w w' := by
  have HN := Lib.hid hN
  clear hN
  refine (callsIn_wide (n := 3)).1 ?_
  refine callsIn_of_wp_marks Try.func12 rfl trivial ?_ rfl
  simp only [Try.ntmps12, List.size_toArray, List.length_cons, List.length_nil, Nat.reduceAdd, Nat.reduceSub, Array.replicate_succ, Array.replicate_zero, List.push_toArray, List.append_toArray, List.nil_append, List.cons_append]
  gi_wp2_with (refine ⟨trivial, ?_⟩; gi_at_call 25; refine (callsIn_wide.2 (bw_any _ _ _ _)).mono ?_; rintro e w' ⟨rfl, rfl⟩)
  have bP := ((Boxed.new w 9 (.string p)).alloc (.cells #[.string ⟨#[]⟩] 9)).alloc (.cells #[.bool false] 4) |>.alloc (.cells #[.slice A N cap] 22)
  have bR := ((Boxed.new (w.alloc (.cells #[.string p] 9)) 9 (.string ⟨#[]⟩)).alloc (.cells #[.bool false] 4)).alloc (.cells #[.slice A N cap] 22)
  have bO := (Boxed.new ((w.alloc (.cells #[.string p] 9)).alloc (.cells #[.string ⟨#[]⟩] 9)) 4 (.bool false)).alloc (.cells #[.slice A N cap] 22)
  have bS := Boxed.new (((w.alloc (.cells #[.string p] 9)).alloc (.cells #[.string ⟨#[]⟩] 9)).alloc (.cells #[.bool false] 4)) 22 (.slice A N cap)
  simp only [World.size_alloc] at bR bO bS
  have hB0 : Below w.heap.size w ((((w.alloc (.cells #[.string p] 9)).alloc (.cells #[.string ⟨#[]⟩] 9)).alloc (.cells #[.bool false] 4)).alloc (.cells #[.slice A N cap] 22)) := ((((Below.refl _ w).alloc (Nat.le_refl _) _).alloc (by simp) _).alloc (by simp; omega) _).alloc (by simp; omega) _
  have hsz : ((((w.alloc (.cells #[.string p] 9)).alloc (.cells #[.string ⟨#[]⟩] 9)).alloc (.cells #[.bool false] 4)).alloc (.cells #[.slice A N cap] 22)).heap.size = w.heap.size + 4 := by simp
  obtain ⟨W0, hW0⟩ : ∃ W0, ((((w.alloc (.cells #[.string p] 9)).alloc (.cells #[.string ⟨#[]⟩] 9)).alloc (.cells #[.bool false] 4)).alloc (.cells #[.slice A N cap] 22)) = W0 := ⟨_, rfl⟩
  rw [hW0] at bP bR bO bS hB0 hsz ⊢
  clear hW0
  have hRN : RdN W0.heap.size W0 A L := fun k x hk => by
    obtain ⟨b, o, e, hlt, c⟩ := (hR.keep hB0) k x hk
    exact ⟨b, o, e, hlt, c⟩
  refine wpIn_rangeFunc_ownH rfl (by omega) (gf := 34) (lb := #[.pointer (some ⟨w.heap.size + 1 + 1 + 1, 0, none⟩)]) rfl trivial (enters_of Try.func34 (by kernel_rfl) rfl)
    (bw_stops (3 - 1) (by omega) (w.heap.size + 1 + 1 + 1) W0.heap.size cap A L N HN.out hlim hreach W0 (by omega) (Nat.le_refl _) bS.cell (by omega) hRN) belowK_t (belowK_b (Nat.le_refl _)) (Below.refl _ _) (fun _ => rfl)
    (fun pre W => ((∀ q ∈ pre, eqb q.2.1.1 p = false) ∧ Boxed W w.heap.size 9 (.string p) ∧ Boxed W (w.heap.size + 1) 9 (.string ⟨#[]⟩) ∧ Boxed W (w.heap.size + 1 + 1) 4 (.bool false)) ∧ Below W0.heap.size W0 W)
    (fun c pre W => ((c = .ret ∧ ∃ ini last, pre = ini ++ [last] ∧ (∀ q ∈ ini, eqb q.2.1.1 p = false) ∧ eqb last.2.1.1 p = true ∧ Boxed W (w.heap.size + 1) 9 (.string last.2.1.2) ∧ Boxed W (w.heap.size + 1 + 1) 4 (.bool true)) ∧ Below w.heap.size w W))
    (OwnFrom.and (OwnFrom.and (ownFrom_pure _ _) (OwnFrom.and (Own.from (boxed_own _ _ (fun _ => _)) _) (OwnFrom.and (Own.from (boxed_own _ _ (fun _ => _)) _) (Own.from (boxed_own _ _ (fun _ => _)) _)))) (ownFrom_below (Nat.le_refl _) (Nat.le_refl _)))
    (fun c => OwnFrom.and (fun s X Y row hs hg hr => by
      obtain ⟨hc, ini, last, e1, e2, e3, e4, e5⟩ := hs
      exact ⟨hc, ini, last, e1, e2, e3, boxed_own _ 9 (fun (_ : Unit) => Value.string last.2.1.2) () X Y row e4 hg (fun r e => (hr r e).2), boxed_own _ 4 (fun (_ : Unit) => Value.bool true) () X Y row e5 hg (fun r e => (hr r e).2)⟩) (ownFrom_below (Nat.le_refl _) (by omega)))
    ⟨⟨by simp, bP, bR, bO⟩, Below.refl _ _⟩
    (fun x a' W => ∃ Bx, W0.heap.size ≤ Bx ∧ W.heap[Bx]? = some (.cells #[.string x.2.1.1, .string x.2.1.2] 50 (0, 0)) ∧ a' = { tmps := #[.slice A N cap, .string p, undef, .pointer (some ⟨w.heap.size, 0, none⟩), .pointer (some ⟨w.heap.size + 1, 0, none⟩), .pointer (some ⟨w.heap.size + 1 + 1, 0, none⟩), undef, .pointer (some ⟨Bx, 0, none⟩), .slice A N cap, .func (.func 34) #[] #[.pointer (some ⟨w.heap.size + 1 + 1 + 1, 0, none⟩)], .int .i64 (x.1 : Int), .agg #[.string x.2.1.1, .string x.2.1.2], undef, undef, undef, undef, undef, undef, undef, undef, undef], defers := [] })
    (fun x a' _ X Y row hs hg hr => by obtain ⟨Bx, h1, h2, h3⟩ := hs; exact ⟨Bx, h1, blk_own Bx 50 (fun (_ : Unit) => #[.string x.2.1.1, .string x.2.1.2]) () X Y row h2 hg (fun r e => (hr r e).2), h3⟩)
    ?assign ?body ?done ?stop
  case assign =>
    rintro l pre ⟨xi, ⟨⟨xp, xs⟩, hxs⟩⟩ W K ⟨⟨hp, bP1, bR1, bO1⟩, hB1⟩ hK
    simp only [encB]
    gi_wp2
    exact hK _ _ ((KeepsOthers.alloc _ _).from _) ((Below.refl _ W).alloc hB1.size _) ⟨⟨hp, bP1.alloc _, bR1.alloc _, bO1.alloc _⟩, hB1.alloc hB1.size _⟩ ⟨W.heap.size, hB1.size, World.alloc_heap_new W _, rfl⟩
  case body =>
    rintro l pre ⟨xi, ⟨⟨xp, xs⟩, hxs⟩⟩ a' W hl ⟨r, hr⟩ ⟨⟨hp, bP1, bR1, bO1⟩, hB1⟩ ⟨Bx, hBx, bX, rfl⟩ hlt
    dsimp only at bX hxs ⊢
    have c0 := cells_of bX 0 (u := .string xp) rfl
    have c1 := cells_of bX 1 (u := .string xs) rfl
    have cP := bP1.cell
    by_cases he : eqb xp p = true
    · have hq : (xp.toList == p.toList) = true := he
      have C := Lib.hid (fun W => clone_any xs W hxs)
      gi_wp2_with (refine ⟨trivial, ?_⟩; gi_at_call 26; refine (CallsIn.inRound l (callsIn_wide.2 (C.out _))).mono ?_; rintro e w' ⟨rfl, hb⟩; have bR2 := boxed_low bR1 hb; have bO2 := boxed_low bO1 hb; have cR2 := bR2.cell; have fR2 := bR2.frozen; have cO2 := bO2.cell; have fO2 := bO2.frozen)
      have hBw : Below w.heap.size w w' := (hB0.trans (hB1.mono hB0.size)).trans (hb.mono (Nat.le_trans hB0.size hB1.size))
      exact ⟨((keeps_below hb).trans ((KeepsOthers.setCell _ _ _).trans (KeepsOthers.setCell _ _ _))).from _, ⟨rfl, pre, _, rfl, hp, he, (bR2.set _).other (by omega) _, (bO2.other (by omega) _).set _⟩, (hBw.setCell (p := ⟨w.heap.size + 1, 0, none⟩) (by simp) _).setCell (p := ⟨w.heap.size + 1 + 1, 0, none⟩) (by simp; omega) _⟩
    · have hq : (xp.toList == p.toList) = false := by rw [Bool.not_eq_true] at he; exact he
      gi_wp2
      exact ⟨KeepsFrom.refl _ _, Below.refl _ _, ⟨fun q hq' => (List.mem_append.1 hq').elim (hp q) (fun e => by rw [List.mem_singleton] at e; subst e; exact hq), bP1, bR1, bO1⟩, hB1⟩
  case done =>
    rintro D zs W hD rfl ⟨⟨hp, bP1, bR1, bO1⟩, hB1⟩ hK
    have cP := bP1.cell
    have cR := bR1.cell
    have fR := bR1.frozen
    have cO := bO1.cell
    have fO := bO1.frozen
    gi_wp2
    gi_region
    gi_wp2
    have hK' : ((W.setCell ⟨w.heap.size + 1, 0, none⟩ (.string ⟨#[]⟩)).setCell ⟨w.heap.size + 1 + 1, 0, none⟩ (.bool p.toList.isEmpty)).drew.heap[D]? = some (.deferred (some [])) := (KeepsOthers.setCell (W.setCell ⟨w.heap.size + 1, 0, none⟩ (.string ⟨#[]⟩)) ⟨w.heap.size + 1 + 1, 0, none⟩ (.bool p.toList.isEmpty)).same D _ ((KeepsOthers.setCell W ⟨w.heap.size + 1, 0, none⟩ (.string ⟨#[]⟩)).same D _ hK rfl) rfl
    rw [fnd_done hlim p (fun j hj => hp _ (upto_mem _ _ _ (by rw [HN.out]; exact hj))), eqb_em]
    refine ⟨by simp, .inl ⟨_, _, rfl, run_takeDeferred hK', ?_⟩⟩
    have b5 : Boxed ((W.setCell ⟨w.heap.size + 1, 0, none⟩ (.string ⟨#[]⟩)).setCell ⟨w.heap.size + 1 + 1, 0, none⟩ (.bool p.toList.isEmpty)).drew (w.heap.size + 1) 9 (.string ⟨#[]⟩) := (bR1.set _).other (by omega) _
    have b6 : Boxed ((W.setCell ⟨w.heap.size + 1, 0, none⟩ (.string ⟨#[]⟩)).setCell ⟨w.heap.size + 1 + 1, 0, none⟩ (.bool p.toList.isEmpty)).drew (w.heap.size + 1 + 1) 4 (.bool p.toList.isEmpty) := (bO1.other (by omega) _).set _
    have c5 := cell_kept b5.cell (grownBy_putObj' _ D (.deferred none)) (fun r e => by cases e; exact ⟨_, hK', rfl⟩)
    have c6 := cell_kept b6.cell (grownBy_putObj' _ D (.deferred none)) (fun r e => by cases e; exact ⟨_, hK', rfl⟩)
    have hBw : Below w.heap.size w ((W.setCell ⟨w.heap.size + 1, 0, none⟩ (.string ⟨#[]⟩)).setCell ⟨w.heap.size + 1 + 1, 0, none⟩ (.bool p.toList.isEmpty)).drew := (((hB0.trans (hB1.mono hB0.size)).setCell (p := ⟨w.heap.size + 1, 0, none⟩) (by simp) _).setCell (p := ⟨w.heap.size + 1 + 1, 0, none⟩) (by simp; omega) _).drew
    refine ⟨.tuple #[.string em, .bool p.toList.isEmpty], ?_, rfl, hBw.trans (belowK_b (w := w) (Nat.le_refl _) _ D _ _ (by omega) hK' rfl rfl)⟩
    simp [results, Try.results12, go_sem, c5, c6, em]
  case stop =>
    rintro D c pre W hD ⟨k, hk, rfl⟩ ⟨⟨rfl, ini, last, e1, e2, e3, bR1, bO1⟩, hB1⟩ hK
    gi_wp2
    obtain ⟨k', rfl⟩ : ∃ k', k = k' + 1 := by
      cases k with
      | zero => simp [upto] at e1
      | succ k' => exact ⟨k', rfl⟩
    rw [upto_succ] at e1
    obtain ⟨rfl, e5⟩ := List.append_inj' e1 rfl
    obtain rfl : bk L hlim k' = last := by simpa using e5
    rw [fnd_stop hlim p k' (by have := HN.out; omega) (fun j hj => e2 _ (upto_mem _ _ _ hj)) e3]
    refine ⟨by simp, .inl ⟨_, _, rfl, run_takeDeferred hK, ?_⟩⟩
    have c5 := cell_kept bR1.cell (grownBy_putObj' _ D (.deferred none)) (fun r e => by cases e; exact ⟨_, hK, rfl⟩)
    have c6 := cell_kept bO1.cell (grownBy_putObj' _ D (.deferred none)) (fun r e => by cases e; exact ⟨_, hK, rfl⟩)
    refine ⟨.tuple #[.string (bk L hlim k').2.1.2, .bool true], ?_, rfl, hB1.trans (belowK_b (w := w) (Nat.le_refl _) W D _ _ (by omega) hK rfl rfl)⟩
    simp [results, Try.results12, go_sem, c5, c6]
end Go.Proofs.Ytepmleieekpdiaa
