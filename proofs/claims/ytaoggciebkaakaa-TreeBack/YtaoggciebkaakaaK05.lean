/-
  Merged by program out of the texts TpFsM, TpFsT, TpFsL, TpPlM, TrTrW of one seat.
-/
import Derived.Test.YtaoggciebkaakaaK04
import Derived.Test.YtaoggciebkaakaaK02
import Derived.Deep.AppendLies
import Derived.Deep.RegionHeld3
import Derived.Deep.RegionLaw

/- Events behind the first; what stands in memory in the loop of tree.first. -/
set_option linter.unusedSimpArgs false
set_option linter.unusedVariables false
namespace Go.Proofs.Ytaoggciebkaakaa.Ev
open Go.RowKit

theorem EvsIn.tail {W : World} {b off n c : Nat} {x : RE} {l : List RE} (h : EvsIn W (some ⟨b, off, none⟩) n c (x :: l)) : EvsIn W (some ⟨b, off + 5, none⟩) (n - 1) (c - 1) l := by
  have hl := h.len
  rw [List.length_cons] at hl
  refine ⟨by omega, by have := h.lsz; omega, by have := h.cnt; omega, fun y hy => h.xsz y (List.mem_cons_of_mem _ hy), fun k y hk => ?_, (fun e => by cases e), ⟨by have := h.cap.1; omega, by have := h.cap.2; omega⟩⟩
  obtain ⟨b', o', Aa, n', c', e, hlt, ta, c0, c1, c2, c3, c4⟩ := h.rd (k + 1) y (by rw [List.getElem?_cons_succ]; exact hk)
  injection e with e
  injection e with e1 e2
  subst e1 e2
  have q : off + 5 + k * 5 = off + (k + 1) * 5 := by omega
  refine ⟨b, off + 5, Aa, n', c', rfl, hlt, ta, ?_⟩
  rw [q]
  exact ⟨c0, c1, c2, c3, c4⟩
theorem EvsIn.tail1 {W : World} {a : Addr} {n c : Nat} {x : RE} {l : List RE} (h : EvsIn W (some a) n c (x :: l)) (hc : c = 1) : EvsIn W (some a) (n - 1) (c - 1) l := by
  have hl := h.len
  rw [List.length_cons] at hl
  have h1 := h.cap.1
  have h2 : l = [] := List.eq_nil_of_length_eq_zero (by omega)
  subst h2
  exact ⟨by rw [List.length_nil]; omega, by unfold maxLen; omega, by omega, (fun y hy => by cases hy), (fun k y hk => by simp at hk), (fun e => by cases e), ⟨by omega, by unfold maxLen; omega⟩⟩
/-- What stands first. -/
theorem EvsIn.head {W : World} {A : Option Addr} {n c : Nat} {x : RE} {l : List RE} (h : EvsIn W A n c (x :: l)) : ∃ b off Aa na ca, A = some ⟨b, off, none⟩ ∧ b < W.heap.size ∧ AttsIn W Aa na ca x.ats ∧ W.cell? ⟨b, off, none⟩ = some (.int .i64 x.kind) ∧ W.cell? ⟨b, off + 1, none⟩ = some (.string x.sp) ∧ W.cell? ⟨b, off + 2, none⟩ = some (.string x.lo) ∧ W.cell? ⟨b, off + 3, none⟩ = some (.slice Aa na ca) ∧ W.cell? ⟨b, off + 4, none⟩ = some (.string x.tx) := by
  obtain ⟨b, o, Aa, n', c', e, hlt, ta, c0, c1, c2, c3, c4⟩ := h.rd 0 x rfl
  rw [Nat.zero_mul, Nat.add_zero] at c0 c1 c2 c3 c4
  exact ⟨b, o, Aa, n', c', e, hlt, ta, c0, c1, c2, c3, c4⟩
/-- A tree in blocks from s on. -/
def Lo (s : Nat) (W : World) (b : Nat) : Prop := s ≤ b ∧ b < W.heap.size
def FPost (w0 W : World) (f : Fo) (post : List RE) (e : Ending) (w' : World) : Prop := ∃ t tx sp lo ats ks Aa na ca Ak nk ck A' n' c', f.pln = .cons t tx sp lo ats ks .nil ∧ e = .returned (.tuple #[.agg #[.bool t, .string tx, .string sp, .string lo, .slice Aa na ca, .slice Ak nk ck], .slice A' n' c']) ∧ Tr1 (Lo W.heap.size w') w' tx sp lo ats ks Aa na ca Ak nk ck ∧ EvsIn w0 A' n' c' post ∧ Below W.heap.size W w'
end Go.Proofs.Ytaoggciebkaakaa.Ev

/- tree.first of a text. -/
set_option linter.unusedSimpArgs false
set_option linter.unusedVariables false
namespace Go.Proofs.Ytaoggciebkaakaa.Ev
open Go.RowKit

theorem Try.results27 : Try.f27.results = #[ResultVar.cell 2 30, ResultVar.tmp 3] := by kernel_rfl
theorem lim_maxLen {s : ByteArray} (h : s.size ≤ LimS) : s.size ≤ maxLen := by unfold LimS at h; unfold maxLen; omega
theorem em_lim' : emB.size ≤ LimS := by decide
set_option maxHeartbeats 4000000 in
set_option maxRecDepth 100000 in
theorem first_text (A : Option Addr) (n c : Nat) (tx sp lo : ByteArray) (ats : List P3) (ks : Fo) (post : List RE) (w0 w : World) (hw : Below w0.heap.size w0 w) (T0 : EvsIn w0 A n c (⟨2, emB, emB, [], tx⟩ :: post)) (ht : tx.size ≤ LimS) (hn : n ≤ 100000) :
    Calls Try.prog 27 #[.slice A n c] w (FPost w0 w (Fo.cons true tx sp lo ats ks .nil) post) := by
  have T := T0.keep hw
  obtain ⟨b, off, Aa, na, ca, rfl, hb, _, c0, c1, c2, c3, c4⟩ := T.head
  have hl := T.len
  rw [List.length_cons] at hl
  have hcap := T.cap.1
  have CV : Hid (∀ W, Calls Try.prog 36 #[.string tx] W fun e w' => e = .returned (.string tx) ∧ Below W.heap.size W w') := Lib.hid fun W => clone_any tx W ht
  have HT := Lib.hid T0
  have g1 : (1 : Int) ≤ (n : Int) := by omega
  have g0 : (0 : Int) < (n : Int) := by omega
  dsimp only at c0 c1 c2 c3 c4
  clear T hl T0
  obtain ⟨A1, hA1, HT1⟩ : ∃ A1 : Addr, A1 = (if c = 1 then ⟨b, off, none⟩ else ⟨b, off + 5, none⟩) ∧ Hid (EvsIn w0 (some A1) (n - 1) (c - 1) post) := by
    by_cases hc : c = 1
    · exact ⟨⟨b, off, none⟩, by rw [if_pos hc], Lib.hid (HT.out.tail1 hc)⟩
    · exact ⟨⟨b, off + 5, none⟩, by rw [if_neg hc], Lib.hid HT.out.tail⟩
  obtain ⟨W1, hW1⟩ : ∃ W1, W1 = ((w.alloc (.cells #[.bool false, .string ⟨#[]⟩, .string ⟨#[]⟩, .string ⟨#[]⟩, .slice none 0 0, .slice none 0 0] 30)).alloc (.cells #[.int .i64 2, .string emB, .string emB, .slice Aa na ca, .string tx] 38)).drew := ⟨_, rfl⟩
  have HB1 : Hid (Below w.heap.size w W1) := Lib.hid (by rw [hW1]; exact (((Below.refl _ w).alloc (Nat.le_refl _) _).alloc (by simp) _).drew)
  have HR1 : Hid (W1.heap[w.heap.size]? = some (.cells #[.bool false, .string ⟨#[]⟩, .string ⟨#[]⟩, .string ⟨#[]⟩, .slice none 0 0, .slice none 0 0] 30 (0, 0))) := Lib.hid (by rw [hW1]; exact (Below.heap_alloc (w.alloc _) _ _ (by simp)).trans (nblk w 30 _))
  have CW : Hid (Calls Try.prog 36 #[.string tx] W1 fun e w6 => e = .returned (.string tx) ∧ Hid (w6.heap[w.heap.size]? = some (.cells #[.bool false, .string ⟨#[]⟩, .string ⟨#[]⟩, .string ⟨#[]⟩, .slice none 0 0, .slice none 0 0] 30 (0, 0))) ∧ Hid (Below w.heap.size w w6)) := Lib.hid ((CV.out W1).mono fun e w' h => ⟨h.1, Lib.hid ((h.2.block _ (Array.getElem?_eq_some_iff.1 HR1.out).1).trans HR1.out), Lib.hid (HB1.out.trans (h.2.mono HB1.out.size))⟩)
  clear CV HR1 HB1 HT
  by_cases hc : c = 1
  · rw [if_pos hc] at hA1
    subst hA1
    go_enter Try.func27, Try.ntmps27
    go_wp2_with fail
    go_region
    go_wp2_with fail
    generalize ((w.alloc (.cells #[.bool false, .string ⟨#[]⟩, .string ⟨#[]⟩, .string ⟨#[]⟩, .slice none 0 0, .slice none 0 0] 30)).alloc (.cells #[.int .i64 2, .string emB, .string emB, .slice Aa na ca, .string tx] 38)).drew = V at *
    subst hW1
    refine CW.out.mono ?_
    rintro e w6 ⟨rfl, HR6, HB6⟩
    clear CW c0 c1 c2 c3 c4
    obtain ⟨h6, g6⟩ := put6 (.bool true) (.string tx) (.string ⟨#[]⟩) (.string ⟨#[]⟩) (.slice none 0 0) (.slice none 0 0) HR6.out
    obtain ⟨r0, r1, r2, r3, r4, r5⟩ := cells6 HR6.out
    have f0 := froz_of HR6.out 0
    have f1 := froz_of HR6.out 1
    have f2 := froz_of HR6.out 2
    have f3 := froz_of HR6.out 3
    have f4 := froz_of HR6.out 4
    have f5 := froz_of HR6.out 5
    have HB7 := Lib.hid (HB6.out.grown g6 HB6.out.size (fun j hj => by injection hj with hj; omega))
    have H6 := Lib.hid h6
    clear h6 g6
    go_wp2
    change bodyPost _ _ _ _ _ (put6W w6 w.heap.size (.bool true) (.string tx) (.string ⟨#[]⟩) (.string ⟨#[]⟩) (.slice none 0 0) (.slice none 0 0))
    generalize put6W w6 w.heap.size (.bool true) (.string tx) (.string ⟨#[]⟩) (.string ⟨#[]⟩) (.slice none 0 0) (.slice none 0 0) = W7 at *
    obtain ⟨e0, e1, e2, e3, e4, e5⟩ := cells6 H6.out
    clear r0 r1 r2 r3 r4 r5 f0 f1 f2 f3 f4 f5
    refine bodyPost_ret (v := .tuple #[.agg #[.bool true, .string tx, .string ⟨#[]⟩, .string ⟨#[]⟩, .slice none 0 0, .slice none 0 0], .slice (some ⟨b, off, none⟩) (n - 1) 0]) (by simp [results, Try.results27, go_sem, e0, e1, e2, e3, e4, e5]) rfl ?_
    exact ⟨true, tx, emB, emB, [], .nil, none, 0, 0, none, 0, 0, _, _, _, by rw [Fo.pln, if_pos rfl]; rfl, rfl, ⟨⟨lim_maxLen ht, lim_maxLen em_lim', lim_maxLen em_lim'⟩, attsNil _, fun h => absurd h (Nat.lt_irrefl 0), ksNil _ _⟩, (by have h := HT1.out; rw [hc] at h; exact h), HB7.out⟩
  · rw [if_neg hc] at hA1
    subst hA1
    go_enter Try.func27, Try.ntmps27
    go_wp2_with fail
    go_region
    go_wp2_with fail
    generalize ((w.alloc (.cells #[.bool false, .string ⟨#[]⟩, .string ⟨#[]⟩, .string ⟨#[]⟩, .slice none 0 0, .slice none 0 0] 30)).alloc (.cells #[.int .i64 2, .string emB, .string emB, .slice Aa na ca, .string tx] 38)).drew = V at *
    subst hW1
    refine CW.out.mono ?_
    rintro e w6 ⟨rfl, HR6, HB6⟩
    clear CW c0 c1 c2 c3 c4
    obtain ⟨h6, g6⟩ := put6 (.bool true) (.string tx) (.string ⟨#[]⟩) (.string ⟨#[]⟩) (.slice none 0 0) (.slice none 0 0) HR6.out
    obtain ⟨r0, r1, r2, r3, r4, r5⟩ := cells6 HR6.out
    have f0 := froz_of HR6.out 0
    have f1 := froz_of HR6.out 1
    have f2 := froz_of HR6.out 2
    have f3 := froz_of HR6.out 3
    have f4 := froz_of HR6.out 4
    have f5 := froz_of HR6.out 5
    have HB7 := Lib.hid (HB6.out.grown g6 HB6.out.size (fun j hj => by injection hj with hj; omega))
    have H6 := Lib.hid h6
    clear h6 g6
    go_wp2
    change bodyPost _ _ _ _ _ (put6W w6 w.heap.size (.bool true) (.string tx) (.string ⟨#[]⟩) (.string ⟨#[]⟩) (.slice none 0 0) (.slice none 0 0))
    generalize put6W w6 w.heap.size (.bool true) (.string tx) (.string ⟨#[]⟩) (.string ⟨#[]⟩) (.slice none 0 0) (.slice none 0 0) = W7 at *
    obtain ⟨e0, e1, e2, e3, e4, e5⟩ := cells6 H6.out
    clear r0 r1 r2 r3 r4 r5 f0 f1 f2 f3 f4 f5
    refine bodyPost_ret (v := .tuple #[.agg #[.bool true, .string tx, .string ⟨#[]⟩, .string ⟨#[]⟩, .slice none 0 0, .slice none 0 0], .slice (some ⟨b, off + 5, none⟩) (n - 1) (c - 1)]) (by simp [results, Try.results27, go_sem, e0, e1, e2, e3, e4, e5]) rfl ?_
    exact ⟨true, tx, emB, emB, [], .nil, none, 0, 0, none, 0, 0, _, _, _, by rw [Fo.pln, if_pos rfl]; rfl, rfl, ⟨⟨lim_maxLen ht, lim_maxLen em_lim', lim_maxLen em_lim'⟩, attsNil _, fun h => absurd h (Nat.lt_irrefl 0), ksNil _ _⟩, HT1.out, HB7.out⟩
end Go.Proofs.Ytaoggciebkaakaa.Ev

/- tree.first of an element: what stands in memory. -/
set_option linter.unusedSimpArgs false
set_option linter.unusedVariables false
namespace Go.Proofs.Ytaoggciebkaakaa.Ev
open Go.RowKit

/-- Before the tree is made. -/
structure FE (w : World) (sp lo : ByteArray) (Aa : Option Addr) (na ca : Nat) (W : World) : Prop where
  ebx : W.heap[w.heap.size + 1]? = some (.cells #[.int .i64 1, .string sp, .string lo, .slice Aa na ca, .string emB] 38 (0, 0))
  res : W.heap[w.heap.size]? = some (.cells #[.bool false, .string ⟨#[]⟩, .string ⟨#[]⟩, .string ⟨#[]⟩, .slice none 0 0, .slice none 0 0] 30 (0, 0))
  bel : Below w.heap.size w W
section
variable {w W W' : World} {sp lo : ByteArray} {Aa : Option Addr} {na ca : Nat}
theorem FE.lt (h : FE w sp lo Aa na ca W) : w.heap.size + 2 ≤ W.heap.size := (Array.getElem?_eq_some_iff.1 h.ebx).1
theorem FE.keep (h : FE w sp lo Aa na ca W) (hb : Below W.heap.size W W') : FE w sp lo Aa na ca W' :=
  ⟨(hb.block _ (Array.getElem?_eq_some_iff.1 h.ebx).1).trans h.ebx, (hb.block _ (Array.getElem?_eq_some_iff.1 h.res).1).trans h.res, h.bel.trans (hb.mono h.bel.size)⟩
theorem FE.s3 (h : FE w sp lo Aa na ca W) : W.cell? ⟨w.heap.size + 1, 1, none⟩ = some (.string sp) ∧ W.cell? ⟨w.heap.size + 1, 2, none⟩ = some (.string lo) ∧ W.cell? ⟨w.heap.size + 1, 3, none⟩ = some (.slice Aa na ca) := ⟨cells_of h.ebx 1 rfl, cells_of h.ebx 2 rfl, cells_of h.ebx 3 rfl⟩
theorem FE.grown {row : Option Nat} (h : FE w sp lo Aa na ca W) (hg : W.grownBy W' row) (h0 : ∀ g, row = some g → w.heap.size + 2 ≤ g) : FE w sp lo Aa na ca W' :=
  ⟨(hg.block _ (Array.getElem?_eq_some_iff.1 h.ebx).1 (fun e => by have := h0 _ e.symm; omega)).trans h.ebx, (hg.block _ (Array.getElem?_eq_some_iff.1 h.res).1 (fun e => by have := h0 _ e.symm; omega)).trans h.res, h.bel.grown hg h.bel.size (fun j hj => by have := h0 _ hj; omega)⟩
end
/-- The tree without children stands in block tb. -/
structure FY (w : World) (tb : Nat) (sp lo : ByteArray) (ats : List P3) (A6 : Option Addr) (na c6 : Nat) (W : World) : Prop where
  box : W.heap[tb]? = some (.cells #[.bool false, .string ⟨#[]⟩, .string sp, .string lo, .slice A6 na c6, .slice none 0 0] 30 (0, 0))
  lt : w.heap.size + 2 ≤ tb
  res : W.heap[w.heap.size]? = some (.cells #[.bool false, .string ⟨#[]⟩, .string ⟨#[]⟩, .string ⟨#[]⟩, .slice none 0 0, .slice none 0 0] 30 (0, 0))
  own : W.ownsRow (w.heap.size + 2) 52 3 (.slice A6 na c6) na (atL ats)
  bel : Below w.heap.size w W
section
variable {w W : World} {sp lo : ByteArray} {ats : List P3} {Aa A6 : Option Addr} {na ca c6 : Nat}
theorem own_blk {B z n g : Nat} {e e' : TypeId} {v : Value} {xs : List Value} {cs : Array Value} {f : Nat × Nat} (h : W.ownsRow B e z v n xs) (hg : W.heap[g]? = some (.cells cs e' f)) (hne : e ≠ e') : v.ownBlock = none ∨ v.ownBlock ≠ some g := by
  rcases h.2 with ⟨rfl, _⟩ | ⟨g', cap, cur, rfl, _, hg', _⟩
  · exact .inl rfl
  · right
    intro e1
    simp only [Value.ownBlock, Option.some.injEq] at e1
    subst e1
    rw [hg] at hg'
    injection hg' with hg'
    injection hg' with _ h2 _
    exact hne h2.symm
theorem FE.y1 (h : FE w sp lo Aa na ca W) (ho : W.ownsRow (w.heap.size + 2) 52 3 (.slice A6 na c6) na (atL ats)) : FY w W.heap.size sp lo ats A6 na c6 (W.alloc (.cells #[.bool false, .string ⟨#[]⟩, .string sp, .string lo, .slice A6 na c6, .slice none 0 0] 30)) := by
  have hb := (Below.refl W.heap.size W).alloc (Nat.le_refl _) (.cells #[.bool false, .string ⟨#[]⟩, .string sp, .string lo, .slice A6 na c6, .slice none 0 0] 30)
  exact ⟨nblk W 30 _, h.lt, (h.keep hb).res, own_keep ho hb, (h.keep hb).bel⟩
theorem FE.y2 {tb : Nat} (h : FE w sp lo Aa na ca W) (ho : W.ownsRow (w.heap.size + 2) 52 3 (.slice A6 na c6) na (atL ats)) (hn : W.heap[tb]? = some (.cells #[.bool false, .string ⟨#[]⟩, .string ⟨#[]⟩, .string ⟨#[]⟩, .slice none 0 0, .slice none 0 0] 30 (0, 0))) (ht : w.heap.size + 2 ≤ tb) : FY w tb sp lo ats A6 na c6 (put6W W tb (.bool false) (.string ⟨#[]⟩) (.string sp) (.string lo) (.slice A6 na c6) (.slice none 0 0)) := by
  obtain ⟨h6, g6⟩ := put6 (.bool false) (.string ⟨#[]⟩) (.string sp) (.string lo) (.slice A6 na c6) (.slice none 0 0) hn
  have hf := h.grown g6 (fun g hg => by injection hg with hg; omega)
  exact ⟨h6, ht, hf.res, World.ownsRow.kept ho g6 (own_blk ho hn (by decide)), hf.bel⟩
theorem FE.s3b {tb : Nat} (h : FE w sp lo Aa na ca W) (hn : W.heap[tb]? = some (.cells #[.bool false, .string ⟨#[]⟩, .string ⟨#[]⟩, .string ⟨#[]⟩, .slice none 0 0, .slice none 0 0] 30 (0, 0))) (ht : w.heap.size + 2 ≤ tb) (x0 x1 x2 x3 x4 x5 : Value) : (put6W W tb x0 x1 x2 x3 x4 x5).cell? ⟨w.heap.size + 1, 1, none⟩ = some (.string sp) ∧ (put6W W tb x0 x1 x2 x3 x4 x5).cell? ⟨w.heap.size + 1, 2, none⟩ = some (.string lo) ∧ (put6W W tb x0 x1 x2 x3 x4 x5).cell? ⟨w.heap.size + 1, 3, none⟩ = some (.slice Aa na ca) :=
  (h.grown (put6 x0 x1 x2 x3 x4 x5 hn).2 (fun g hg => by injection hg with hg; omega)).s3
end
/-- Blocks that the loop does not write. -/
def Pq (s tb : Nat) (v : Value) (W : World) (b : Nat) : Prop := s ≤ b ∧ b < W.heap.size ∧ b ≠ s ∧ b ≠ tb ∧ v.ownBlock ≠ some b
/-- In the loop: k children laid. -/
structure FL (w : World) (tb : Nat) (sp lo : ByteArray) (ats : List P3) (A6 : Option Addr) (na c6 : Nat) (f : Fo) (k : Nat) (v : Value) (wr : World) : Prop where
  own : ∃ vs, wr.ownsRow (tb + 1) 30 6 v k vs ∧ KsV (Pq w.heap.size tb v wr) wr f vs
  box : wr.heap[tb]? = some (.cells #[.bool false, .string ⟨#[]⟩, .string sp, .string lo, .slice A6 na c6, v] 30 (0, 0))
  res : wr.heap[w.heap.size]? = some (.cells #[.bool false, .string ⟨#[]⟩, .string ⟨#[]⟩, .string ⟨#[]⟩, .slice none 0 0, .slice none 0 0] 30 (0, 0))
  ats : wr.ownsRow (w.heap.size + 2) 52 3 (.slice A6 na c6) na (atL ats)
  bel : Below w.heap.size w wr
  lt : w.heap.size + 2 ≤ tb ∧ tb < wr.heap.size
section
variable {w wr w' : World} {tb na c6 k : Nat} {sp lo : ByteArray} {ats : List P3} {A6 : Option Addr} {f : Fo} {v : Value}
theorem FY.fl (h : FY w tb sp lo ats A6 na c6 wr) : FL w tb sp lo ats A6 na c6 .nil 0 (.slice none 0 0) wr :=
  ⟨⟨[], World.ownsRow_nil _ _ _ _, rfl⟩, h.box, h.res, h.own, h.bel, h.lt, (Array.getElem?_eq_some_iff.1 h.box).1⟩
theorem Pq.mono {s : Nat} (h : wr.heap.size ≤ w'.heap.size) {b : Nat} (hp : Pq s tb v wr b) : Pq s tb v w' b := ⟨hp.1, Nat.lt_of_lt_of_le hp.2.1 h, hp.2.2⟩
theorem FL.keep (h : FL w tb sp lo ats A6 na c6 f k v wr) (hb : Below wr.heap.size wr w') : FL w tb sp lo ats A6 na c6 f k v w' := by
  obtain ⟨l1, l2⟩ := h.lt
  obtain ⟨vs, h1, h2⟩ := h.own
  exact ⟨⟨vs, own_keep h1 hb, h2.map fun t => (t.keep hb).mono fun b hp => hp.mono hb.size⟩, (hb.block _ (by omega)).trans h.box, (hb.block _ (by omega)).trans h.res, own_keep h.ats hb, h.bel.trans (hb.mono h.bel.size), l1, Nat.lt_of_lt_of_le l2 hb.size⟩
/-- A child's tree: its blocks are not among those that the loop writes. -/
theorem FL.child {n : Nat} {vs : List Value} (ho : wr.ownsRow (tb + 1) 30 6 v n vs) (hl : tb < wr.heap.size) (hs : w.heap.size ≤ tb) {w5 w6 : World} (h5 : wr.heap.size ≤ w5.heap.size) {b : Nat} (hp : Lo w5.heap.size w6 b) : Pq w.heap.size tb v w6 b := by
  obtain ⟨p1, p2⟩ := hp
  refine ⟨by omega, p2, by omega, by omega, fun e => ?_⟩
  have := World.ownsRow.lt ho b e
  omega
/-- Another block of trees, whole, changes. -/
theorem FL.grown {cb : Nat} (h : FL w tb sp lo ats A6 na c6 f k v wr) (hg : wr.grownBy w' (some cb)) (hc : wr.heap[cb]? = some (.cells #[.bool false, .string ⟨#[]⟩, .string ⟨#[]⟩, .string ⟨#[]⟩, .slice none 0 0, .slice none 0 0] 30 (0, 0))) (hcb : tb < cb) (hv : v.ownBlock ≠ some cb) (hP : ∀ {vs : List Value}, wr.ownsRow (tb + 1) 30 6 v k vs → KsV (Pq w.heap.size tb v wr) wr f vs → KsV (fun b => Pq w.heap.size tb v wr b ∧ b ≠ cb) wr f vs) : FL w tb sp lo ats A6 na c6 f k v w' := by
  obtain ⟨l1, l2⟩ := h.lt
  obtain ⟨vs, h1, h2⟩ := h.own
  have h3 := hP h1 h2
  refine ⟨⟨vs, World.ownsRow.kept h1 hg (.inr hv), h3.map fun t => (t.grown hg (fun b hp e => hp.2 (by injection e))).mono fun b hp => hp.1.mono hg.size⟩, (hg.block _ (by omega) (fun e => by injection e with e; omega)).trans h.box, (hg.block _ (by omega) (fun e => by injection e with e; omega)).trans h.res, World.ownsRow.kept h.ats hg (own_blk h.ats hc (by decide)), h.bel.grown hg h.bel.size (fun j hj => by injection hj with hj; omega), l1, Nat.lt_of_lt_of_le l2 hg.size⟩
/-- Behind the append and the store. -/
theorem FL.put {w4 : World} {g cap : Nat} {u : Bool} {ux us ul : ByteArray} {ua : List P3} {uk : Fo} {u1 : Option Addr} {u2 u3 : Nat} {u4 : Option Addr} {u5 u6 : Nat} {vs : List Value}
    (h : FL w tb sp lo ats A6 na c6 f k v wr) (ho : wr.ownsRow (tb + 1) 30 6 v k vs) (hk : KsV (Pq w.heap.size tb v wr) wr f vs) (hc : Tr1 (Pq w.heap.size tb v wr) wr ux us ul ua uk u1 u2 u3 u4 u5 u6)
    (n1 : w4.ownsRow (tb + 1) 30 6 (.slice (some ⟨g, 0, none⟩) (k + 1) cap) (k + 1) (vs ++ [.bool u, .string ux, .string us, .string ul, .slice u1 u2 u3, .slice u4 u5 u6])) (n2 : wr.grownBy w4 v.ownBlock) (n3 : v.ownBlock = some g ∨ g = wr.heap.size) (n4 : g < w4.heap.size) :
    FL w tb sp lo ats A6 na c6 (f.app (.cons u ux us ul ua uk .nil)) (k + 1) (.slice (some ⟨g, 0, none⟩) (k + 1) cap) (w4.setCell ⟨tb, 5, none⟩ (.slice (some ⟨g, 0, none⟩) (k + 1) cap)) := by
  obtain ⟨l1, l2⟩ := h.lt
  have hv : ∀ j, v.ownBlock = some j → tb + 1 ≤ j ∧ j < wr.heap.size := fun j hj => World.ownsRow.lt ho j hj
  have hg : tb + 1 ≤ g := by
    rcases n3 with n3 | n3
    · exact (hv g n3).1
    · omega
  have G2 : w4.grownBy (w4.setCell ⟨tb, 5, none⟩ (.slice (some ⟨g, 0, none⟩) (k + 1) cap)) (some tb) := grown_setCell w4 ⟨tb, 5, none⟩ (.slice (some ⟨g, 0, none⟩) (k + 1) cap)
  have hsz := n2.size
  have hsz2 := G2.size
  have hP : ∀ b, Pq w.heap.size tb v wr b → Pq w.heap.size tb (.slice (some ⟨g, 0, none⟩) (k + 1) cap) (w4.setCell ⟨tb, 5, none⟩ (.slice (some ⟨g, 0, none⟩) (k + 1) cap)) b := fun b ⟨p1, p2, p3, p4, p5⟩ => ⟨p1, by omega, p3, p4, fun e => by
    have e : some g = some b := e
    injection e with e
    rcases n3 with n3 | n3
    · exact p5 (by rw [n3, e])
    · omega⟩
  have ht : ∀ {tx sp lo : ByteArray} {ats : List P3} {ks : Fo} {Aa : Option Addr} {na ca : Nat} {Ak : Option Addr} {nk ck : Nat}, Tr1 (Pq w.heap.size tb v wr) wr tx sp lo ats ks Aa na ca Ak nk ck → Tr1 (Pq w.heap.size tb (.slice (some ⟨g, 0, none⟩) (k + 1) cap) (w4.setCell ⟨tb, 5, none⟩ (.slice (some ⟨g, 0, none⟩) (k + 1) cap))) (w4.setCell ⟨tb, 5, none⟩ (.slice (some ⟨g, 0, none⟩) (k + 1) cap)) tx sp lo ats ks Aa na ca Ak nk ck := fun t =>
    ((t.grown n2 (fun b hp e => hp.2.2.2.2 e.symm)).grown G2 (fun b hp e => hp.2.2.2.1 (by injection e))).mono hP
  have hb4 : w4.heap[tb]? = some (.cells #[.bool false, .string ⟨#[]⟩, .string sp, .string lo, .slice A6 na c6, v] 30 (0, 0)) := (n2.block _ (by omega) (fun e => by have := hv _ e.symm; omega)).trans h.box
  have ha4 := World.ownsRow.kept h.ats n2 (own_ne2 h.ats ho (by decide))
  refine ⟨⟨_, World.ownsRow.kept (row := some tb) n1 G2 (.inr fun e => ?_), (hk.map ht).app ⟨u1, u2, u3, u4, u5, u6, [], by simp, ht hc, rfl⟩⟩, ?_, ?_, World.ownsRow.kept (row := some tb) ha4 G2 (own_blk ha4 hb4 (by decide)), ?_, l1, by omega⟩
  · have e : some g = some tb := e
    injection e with e
    omega
  · simp [World.setCell, Array.getElem?_modify, hb4]
  · exact (G2.block _ (by omega) (fun e => by injection e with e; omega)).trans ((n2.block _ (by omega) (fun e => by have := hv _ e.symm; omega)).trans h.res)
  · exact (h.bel.grown n2 h.bel.size (fun j hj => by have := hv j hj; omega)).grown G2 (by have := h.bel.size; omega) (fun j hj => by injection hj with hj; omega)
end
theorem tr_end {W W' : World} {s : Nat} {tx sp lo : ByteArray} {ats : List P3} {ks : Fo} {Aa : Option Addr} {na ca : Nat} {Ak : Option Addr} {nk ck : Nat} (h : Tr1 (fun b => s ≤ b ∧ b < W.heap.size ∧ b ≠ s) W tx sp lo ats ks Aa na ca Ak nk ck) (g : W.grownBy W' (some s)) : Tr1 (Lo s W'.drew) W'.drew tx sp lo ats ks Aa na ca Ak nk ck :=
  ((h.grown g (fun b hp e => hp.2.2 (by injection e))).keep (Below.refl _ _).drew).mono fun b hp => ⟨hp.1, Nat.lt_of_lt_of_le hp.2.1 g.size⟩
theorem bel_end {w W W' : World} {s : Nat} (h : Below s w W) (g : W.grownBy W' (some s)) (hs : s ≤ w.heap.size) : Below s w W'.drew := (h.grown g (Nat.le_trans hs h.size) (fun j hj => by injection hj with hj; omega)).drew
theorem blk_end {W : World} {s : Nat} {o : Obj} (h : W.heap[s]? = some o) : W.drew.heap[s]? = some o := h
end Go.Proofs.Ytaoggciebkaakaa.Ev

/- A plan that is being made, in memory. -/
set_option linter.unusedSimpArgs false
set_option linter.unusedVariables false
namespace Go.Proofs.Ytaoggciebkaakaa.Ev
open Go.RowKit

def upd {α : Type} (f : Nat → α) (i : Nat) (x : α) : Nat → α := fun k => if k = i then x else f k
theorem upd_same {α : Type} (f : Nat → α) (i : Nat) (x : α) : upd f i x i = x := by unfold upd; rw [if_pos rfl]
theorem upd_ne {α : Type} (f : Nat → α) {i k : Nat} (x : α) (h : k ≠ i) : upd f i x k = f k := by unfold upd; rw [if_neg h]
/-- The cell of the function that numbers. -/
def nuV (pb nb : Nat) : Value := .func (.func 33) #[] #[.pointer (some ⟨pb, 0, none⟩), .pointer (some ⟨nb, 0, none⟩)]
structure PlS (B pb nb : Nat) (v : Nat → Value) (v4 : Value) (L : Nat → List Int) (f : Fo) (W : World) : Prop where
  box : W.heap[pb]? = some (.cells #[v 0, v 1, v 2, v 3, v4] 43 (0, 0))
  own : ∀ i, i < 4 → W.ownsRow B 3 1 (v i) (L i).length ((L i).map (Value.int .i64))
  dis : ∀ i j, i < 4 → j < 4 → i ≠ j → (v i).ownBlock = none ∨ (v i).ownBlock ≠ (v j).ownBlock
  tr : ∃ vs, W.ownsRow B 30 6 v4 f.len vs ∧ KsV (· < B) W f vs
  nbx : W.heap[nb]? = some (.cells #[nuV pb nb] 60 (0, 0))
  lo : B ≤ pb ∧ B ≤ nb
section
variable {B pb nb : Nat} {v : Nat → Value} {v4 : Value} {L : Nat → List Int} {f : Fo} {W W' W2 : World}
theorem PlS.keep (h : PlS B pb nb v v4 L f W) (hb : Below W.heap.size W W') : PlS B pb nb v v4 L f W' := by
  obtain ⟨vs, h1, h2⟩ := h.tr
  exact ⟨(hb.block _ (Array.getElem?_eq_some_iff.1 h.box).1).trans h.box, fun i hi => own_keep (h.own i hi) hb, h.dis, ⟨vs, own_keep h1 hb, h2.map fun t => t.keep hb⟩, (hb.block _ (Array.getElem?_eq_some_iff.1 h.nbx).1).trans h.nbx, h.lo⟩
theorem PlS.lt (h : PlS B pb nb v v4 L f W) : B ≤ W.heap.size := by
  have := (Array.getElem?_eq_some_iff.1 h.box).1
  have := h.lo.1
  omega
theorem own_box {T T' : TypeId} {z n g : Nat} {x : Value} {xs : List Value} {cs : Array Value} (h : W.ownsRow B T z x n xs) (hg : W.heap[g]? = some (.cells cs T' (0, 0))) (hne : T ≠ T') : some g ≠ x.ownBlock := by
  rcases own_blk h hg hne with e | e
  · rw [e]; intro e'; cases e'
  · exact fun e' => e e'.symm
/-- A number behind one of the four rows, stored back. -/
theorem PlS.push {g cap i n : Nat} {x : Int} (h : PlS B pb nb v v4 L f W) (hi : i < 4) (hn : (L i).length = n)
    (n1 : W2.ownsRow B 3 1 (.slice (some ⟨g, 0, none⟩) (n + 1) cap) (n + 1) ((L i).map (Value.int .i64) ++ [.int .i64 x])) (n2 : W.grownBy W2 (v i).ownBlock) (n3 : (v i).ownBlock = some g ∨ g = W.heap.size) (n4 : g < W2.heap.size) :
    PlS B pb nb (upd v i (.slice (some ⟨g, 0, none⟩) (n + 1) cap)) v4 (upd L i (L i ++ [x])) f (W2.setCell ⟨pb, i, none⟩ (.slice (some ⟨g, 0, none⟩) (n + 1) cap)) := by
  subst hn
  obtain ⟨vs, k1, k2⟩ := h.tr
  have hv : ∀ j, (v i).ownBlock = some j → B ≤ j ∧ j < W.heap.size := fun j hj => World.ownsRow.lt (h.own i hi) j hj
  have pbl := (Array.getElem?_eq_some_iff.1 h.box).1
  have G2 : W2.grownBy (W2.setCell ⟨pb, i, none⟩ (.slice (some ⟨g, 0, none⟩) ((L i).length + 1) cap)) (some pb) := grown_setCell W2 ⟨pb, i, none⟩ (.slice (some ⟨g, 0, none⟩) ((L i).length + 1) cap)
  have hb2 : W2.heap[pb]? = some (.cells #[v 0, v 1, v 2, v 3, v4] 43 (0, 0)) := (n2.block _ pbl (own_box (h.own i hi) h.box (by decide))).trans h.box
  have hnb2 : W2.heap[nb]? = some (.cells #[nuV pb nb] 60 (0, 0)) := (n2.block _ (Array.getElem?_eq_some_iff.1 h.nbx).1 (own_box (h.own i hi) h.nbx (by decide))).trans h.nbx
  have hgl : ∀ k, k < 4 → k ≠ i → (v k).ownBlock ≠ some g := fun k hk hki e => by
    rcases n3 with n3 | n3
    · rcases h.dis k i hk hi hki with q | q
      · rw [q] at e; cases e
      · exact q (by rw [e, n3])
    · have := (World.ownsRow.lt (h.own k hk) g e).2
      omega
  refine ⟨?_, fun k hk => ?_, fun k j hk hj hkj => ?_, ⟨vs, World.ownsRow.kept (World.ownsRow.kept k1 n2 (own_ne2 k1 (h.own i hi) (by decide))) G2 (own_blk (World.ownsRow.kept k1 n2 (own_ne2 k1 (h.own i hi) (by decide))) hb2 (by decide)), k2.map fun t => (t.grown n2 (fun b hb e => by have := hv b e.symm; omega)).grown G2 (fun b hb e => by injection e with e; have := h.lo.1; omega)⟩, ?_, h.lo⟩
  · have hi4 : i = 0 ∨ i = 1 ∨ i = 2 ∨ i = 3 := by omega
    rcases hi4 with rfl | rfl | rfl | rfl <;> simp [World.setCell, Array.getElem?_modify, hb2, upd]
  · by_cases hki : k = i
    · subst hki
      rw [upd_same, upd_same, List.length_append, List.map_append]
      exact World.ownsRow.kept n1 G2 (own_blk n1 hb2 (by decide))
    · rw [upd_ne _ _ hki, upd_ne _ _ hki]
      have q := World.ownsRow.kept (h.own k hk) n2 (h.dis k i hk hi hki)
      exact World.ownsRow.kept q G2 (own_blk q hb2 (by decide))
  · by_cases hki : k = i
    · subst hki
      rw [upd_same, upd_ne _ _ (Ne.symm hkj)]
      exact .inr fun e => hgl j hj (Ne.symm hkj) e.symm
    · by_cases hji : j = i
      · subst hji
        rw [upd_same, upd_ne _ _ hki]
        exact .inr (hgl k hk hki)
      · rw [upd_ne _ _ hki, upd_ne _ _ hji]
        exact h.dis k j hk hj hkj
  · exact (G2.block _ (Array.getElem?_eq_some_iff.1 hnb2).1 (fun e => by
      injection e with e
      rw [e, hb2] at hnb2
      injection hnb2 with q
      injection q with _ q2 _
      cases q2)).trans hnb2
/-- A number of one of the four rows changes. -/
theorem PlS.set {g cap i n j : Nat} {x : Int} (h : PlS B pb nb v v4 L f W) (hi : i < 4) (hv : v i = .slice (some ⟨g, 0, none⟩) n cap) :
    PlS B pb nb v v4 (upd L i ((L i).set j x)) f (W.setCell ⟨g, j, none⟩ (.int .i64 x)) := by
  have ho := h.own i hi
  rw [hv] at ho
  have hn : n = (L i).length := by
    rcases ho.2 with ⟨q, _⟩ | ⟨g', cap', cur, q, _⟩
    · cases q
    · injection q with _ q2 _
  obtain ⟨k1, k2⟩ := World.ownsRow.stored (w := W) (show W.ownsRow B 3 1 (.slice (some ⟨g, 0, none⟩) n cap) n ((L i).map (Value.int .i64)) by rw [← hn] at ho; exact ho) j (.int .i64 x)
  have hgb : (v i).ownBlock = some g := by rw [hv]; rfl
  obtain ⟨vs, t1, t2⟩ := h.tr
  have hgB : B ≤ g := (World.ownsRow.lt (h.own i hi) g hgb).1
  refine ⟨(k2.block _ (Array.getElem?_eq_some_iff.1 h.box).1 (by rw [← hgb]; exact own_box (h.own i hi) h.box (by decide))).trans h.box, fun k hk => ?_, h.dis, ⟨vs, World.ownsRow.kept t1 k2 (by rw [← hgb]; exact own_ne2 t1 (h.own i hi) (by decide)), t2.map fun t => t.grown k2 (fun b hb e => by injection e with e; omega)⟩, (k2.block _ (Array.getElem?_eq_some_iff.1 h.nbx).1 (by rw [← hgb]; exact own_box (h.own i hi) h.nbx (by decide))).trans h.nbx, h.lo⟩
  by_cases hki : k = i
  · subst hki
    rw [upd_same, List.length_set, List.map_set, hv, ← hn]
    exact k1
  · rw [upd_ne _ _ hki]
    exact World.ownsRow.kept (h.own k hk) k2 (by rw [← hgb]; exact h.dis k i hk hi hki)
/-- A tree behind the trees, stored back. -/
theorem PlS.pushT {g cap : Nat} {vs : List Value} {u : Bool} {ux us ul : ByteArray} {ua : List P3} {uk : Fo} {u1 : Option Addr} {u2 u3 : Nat} {u4 : Option Addr} {u5 u6 : Nat} (h : PlS B pb nb v v4 L f W) (ho : W.ownsRow B 30 6 v4 f.len vs) (hk : KsV (· < B) W f vs) (hc : Tr1 (· < B) W ux us ul ua uk u1 u2 u3 u4 u5 u6)
    (n1 : W2.ownsRow B 30 6 (.slice (some ⟨g, 0, none⟩) (f.len + 1) cap) (f.len + 1) (vs ++ [.bool u, .string ux, .string us, .string ul, .slice u1 u2 u3, .slice u4 u5 u6])) (n2 : W.grownBy W2 v4.ownBlock) (n4 : g < W2.heap.size) :
    PlS B pb nb v (.slice (some ⟨g, 0, none⟩) (f.len + 1) cap) L (f.app (.cons u ux us ul ua uk .nil)) (W2.setCell ⟨pb, 4, none⟩ (.slice (some ⟨g, 0, none⟩) (f.len + 1) cap)) := by
  have hv : ∀ j, v4.ownBlock = some j → B ≤ j ∧ j < W.heap.size := fun j hj => World.ownsRow.lt ho j hj
  have G2 : W2.grownBy (W2.setCell ⟨pb, 4, none⟩ (.slice (some ⟨g, 0, none⟩) (f.len + 1) cap)) (some pb) := grown_setCell W2 ⟨pb, 4, none⟩ (.slice (some ⟨g, 0, none⟩) (f.len + 1) cap)
  have hb2 : W2.heap[pb]? = some (.cells #[v 0, v 1, v 2, v 3, v4] 43 (0, 0)) := (n2.block _ (Array.getElem?_eq_some_iff.1 h.box).1 (own_box ho h.box (by decide))).trans h.box
  have hnb2 : W2.heap[nb]? = some (.cells #[nuV pb nb] 60 (0, 0)) := (n2.block _ (Array.getElem?_eq_some_iff.1 h.nbx).1 (own_box ho h.nbx (by decide))).trans h.nbx
  have ht : ∀ {tx sp lo : ByteArray} {ats : List P3} {ks : Fo} {Aa : Option Addr} {na ca : Nat} {Ak : Option Addr} {nk ck : Nat}, Tr1 (· < B) W tx sp lo ats ks Aa na ca Ak nk ck → Tr1 (· < B) (W2.setCell ⟨pb, 4, none⟩ (.slice (some ⟨g, 0, none⟩) (f.len + 1) cap)) tx sp lo ats ks Aa na ca Ak nk ck := fun t =>
    (t.grown n2 (fun b hb e => by have := hv b e.symm; omega)).grown G2 (fun b hb e => by injection e with e; have := h.lo.1; omega)
  refine ⟨by simp [World.setCell, Array.getElem?_modify, hb2], fun k hk => ?_, h.dis, ⟨vs ++ [.bool u, .string ux, .string us, .string ul, .slice u1 u2 u3, .slice u4 u5 u6], ?_, (hk.map ht).app ⟨u1, u2, u3, u4, u5, u6, [], by simp, ht hc, rfl⟩⟩, ?_, h.lo⟩
  · have q := World.ownsRow.kept (h.own k hk) n2 (own_ne2 (h.own k hk) ho (by decide))
    exact World.ownsRow.kept q G2 (own_blk q hb2 (by decide))
  · rw [len_app]
    exact World.ownsRow.kept n1 G2 (own_blk n1 hb2 (by decide))
  · exact (G2.block _ (Array.getElem?_eq_some_iff.1 hnb2).1 (fun e => by
      injection e with e
      rw [e, hb2] at hnb2
      injection hnb2 with q
      injection q with _ q2 _
      cases q2)).trans hnb2
end
end Go.Proofs.Ytaoggciebkaakaa.Ev

/- The document's Tree (layer 10). -/
set_option linter.unusedSimpArgs false
set_option linter.unusedVariables false
namespace Go.Proofs.Ytaoggciebkaakaa.Ev
open Go.RowKit

theorem Try.info30 : (Try.prog.info? 30).map (fun i => (i.zero, i.size, i.bytes)) = some (some (.agg #[.bool false, .string ⟨#[]⟩, .string ⟨#[]⟩, .string ⟨#[]⟩, .slice none 0 0, .slice none 0 0]), 6, 104) := by kernel_rfl
theorem Try.underlying28 : Try.prog.underlying 28 = some (.slice 30) := by kernel_rfl
def TPost (B : Nat) (W : World) (f : Fo) (e : Ending) (w' : World) : Prop := ∃ t tx sp lo ats ks Aa na ca Ak nk ck, f.pln = .cons t tx sp lo ats ks .nil ∧ e = .returned (.agg #[.bool t, .string tx, .string sp, .string lo, .slice Aa na ca, .slice Ak nk ck]) ∧ Tr1 (fun b => (b < B ∨ W.heap.size ≤ b) ∧ b < w'.heap.size) w' tx sp lo ats ks Aa na ca Ak nk ck ∧ Below W.heap.size W w'
end Go.Proofs.Ytaoggciebkaakaa.Ev
