/-
  Merged by program out of the texts TgDoc2, TgDoc3, TgRight, TgNMath of one seat.
-/
import Derived.Test.YtnomcldpbkinmaaGreatDoorG15
import Derived.Test.YtnomcldpbkinmaaGreatDoorG12
import Derived.Test.YtnomcldpbkinmaaGreatDoorG13
import Derived.Deep.QuietTactic
import Derived.BigQuiet

/- The document's Parse: positions, and its state. -/
set_option linter.unusedSimpArgs false
set_option linter.unusedVariables false
namespace Go.Proofs.YtnomcldpbkinmaaGreatDoor.Tg
open Go.RowKit

theorem bl_frz (s : ByteArray) (k : Nat) : Nz.bl (Nz.fr s k) = (Nz.bl s).drop k := Nz.bl_fr s k
theorem sn_fr (s : ByteArray) (k : Nat) : Nz.sn (Nz.fr s k) 0 = Nz.sn s k := by unfold Nz.sn; rw [bl_frz, List.drop_zero]
theorem sx_fr (s : ByteArray) (k : Nat) : Nz.sx (Nz.fr s k) 0 = Nz.sx s k := by
  rw [sx_zero, sn_fr]
  rfl
theorem sk_fr (s : ByteArray) (k : Nat) : sk (Nz.fr s k) = Nz.fr s (pk s k) := by unfold sk pk; rw [fr_fr]
/-- Where the mark, and the quote, of an attribute stand that begins at f. -/
def p1 (s : ByteArray) (f : Nat) : Nat := pk s (f + Nz.sn s f)
def p2 (s : ByteArray) (f : Nat) : Nat := pk s (p1 s f + 1)
theorem fr_p1 (s : ByteArray) (f : Nat) : sk (Nz.fr (Nz.fr s f) (Nz.sn (Nz.fr s f) 0)) = Nz.fr s (p1 s f) := by rw [sn_fr, fr_fr, sk_fr]; rfl
theorem fr_p2 (s : ByteArray) (f : Nat) : sk (Nz.fr (sk (Nz.fr (Nz.fr s f) (Nz.sn (Nz.fr s f) 0))) 1) = Nz.fr s (p2 s f) := by rw [fr_p1, fr_fr, sk_fr]; rfl
theorem pf_quo (s : ByteArray) (f : Nat) (q : UInt8) (hq : q = 34 ∨ q = 39) (h : isN (Nz.sx s f) = true) (h2 : hd (Nz.fr s (p1 s f)) = 61) (h3 : hd (Nz.fr s (p2 s f)) = (q.toNat : Int)) : pairF (Nz.fr s f) = quoF q (Nz.sx s f) (Nz.fr s (p2 s f + 1)) := by
  unfold pairF
  rw [sx_fr, if_neg (by rw [h]; decide), fr_p2, fr_p1, if_neg (Decidable.not_not.2 h2), fr_fr]
  rcases hq with rfl | rfl
  · rw [if_pos (h3.trans u34)]
  · rw [if_neg (by rw [h3, u39]; decide), if_pos (h3.trans u39)]
theorem pf_open (s : ByteArray) (f : Nat) (q : UInt8) (hq : q = 34 ∨ q = 39) (h : isN (Nz.sx s f) = true) (h2 : hd (Nz.fr s (p1 s f)) = 61) (h3 : hd (Nz.fr s (p2 s f)) = (q.toNat : Int)) (h4 : qi q (Nz.fr s (p2 s f + 1)) = -1) : pairF (Nz.fr s f) = (6, Nz.em, Nz.em, Nz.em) := by
  rw [pf_quo s f q hq h h2 h3]
  unfold quoF
  rw [if_pos h4]
theorem ext_fr (s : ByteArray) (b j : Nat) (hb : b ≤ j) : (Nz.fr s b).extract 0 (j - b) = s.extract b j := byts_inj (by
  rw [byts_to, byts_fr, byts_extract, List.take_drop]
  have e : b + (j - b) = j := by omega
  first
    | rw [e]
    | rw [Nat.add_comm, e])
theorem fr_fr1 (s : ByteArray) (b j : Nat) (hb : b ≤ j) : Nz.fr (Nz.fr s b) (j - b + 1) = Nz.fr s (j + 1) := by
  rw [fr_fr]
  have e : b + (j - b + 1) = j + 1 := by omega
  rw [e]
theorem pf_val (s : ByteArray) (f j : Nat) (q : UInt8) (hq : q = 34 ∨ q = 39) (h : isN (Nz.sx s f) = true) (h2 : hd (Nz.fr s (p1 s f)) = 61) (h3 : hd (Nz.fr s (p2 s f)) = (q.toNat : Int)) (hj : p2 s f + 1 ≤ j) (h4 : qi q (Nz.fr s (p2 s f + 1)) = ((j - (p2 s f + 1) : Nat) : Int)) :
    pairF (Nz.fr s f) = vlF (Nz.sx s f) (s.extract (p2 s f + 1) j) (Nz.fr s (j + 1)) := by
  rw [pf_quo s f q hq h h2 h3]
  unfold quoF vlF
  have e1 : (qi q (Nz.fr s (p2 s f + 1))).toNat = j - (p2 s f + 1) := by rw [h4]; exact Int.toNat_natCast _
  have e2 := ext_fr s (p2 s f + 1) j hj
  have e3 := fr_fr1 s (p2 s f + 1) j hj
  rw [if_neg (by rw [h4]; omega), e1, e2, e3]
theorem pair_at (s : ByteArray) (j b : Nat) (hb : b ≤ j) : (byts (Nz.fr s b)).getD (j - b) 0 = (byts s).getD j 0 := by
  rw [byts_fr, List.getD_eq_getElem?_getD, List.getElem?_drop, ← List.getD_eq_getElem?_getD]
  congr 1
  omega
/-- The state of the document's Parse: the block that it answers in, the tag's own block, the attributes. -/
structure DS (w0 : World) (R T : Nat) (nm : ByteArray) (v : Value) (l : List (ByteArray × ByteArray)) (w : World) : Prop where
  ne : R ≠ T
  rlo : w0.heap.size ≤ R
  tlo : w0.heap.size ≤ T
  rblk : w.heap[R]? = some (.cells #[.string ⟨#[]⟩, .slice none 0 0] 53 (0, 0))
  tblk : w.heap[T]? = some (.cells #[.string nm, v] 53 (0, 0))
  own : OwnR w w0.heap.size v l
  bel : Below w0.heap.size w0 w
theorem DS.rlt {w0 w : World} {R T : Nat} {nm : ByteArray} {v : Value} {l : List (ByteArray × ByteArray)} (h : DS w0 R T nm v l w) : R < w.heap.size := (Array.getElem?_eq_some_iff.1 h.rblk).1
theorem DS.tlt {w0 w : World} {R T : Nat} {nm : ByteArray} {v : Value} {l : List (ByteArray × ByteArray)} (h : DS w0 R T nm v l w) : T < w.heap.size := (Array.getElem?_eq_some_iff.1 h.tblk).1
theorem DS.after {w0 w w' : World} {R T : Nat} {nm : ByteArray} {v : Value} {l : List (ByteArray × ByteArray)} (h : DS w0 R T nm v l w) (hb : Below w.heap.size w w') : DS w0 R T nm v l w' :=
  ⟨h.ne, h.rlo, h.tlo, (hb.block R h.rlt).trans h.rblk, (hb.block T h.tlt).trans h.tblk, own_keep h.own hb, h.bel.trans (hb.mono h.bel.size)⟩
theorem DS.r0 {w0 w : World} {R T : Nat} {nm : ByteArray} {v : Value} {l : List (ByteArray × ByteArray)} (h : DS w0 R T nm v l w) : w.cell? ⟨R, 0, none⟩ = some (.string ⟨#[]⟩) := by rw [Lib.cell_of_heap h.rblk]; rfl
theorem DS.r1 {w0 w : World} {R T : Nat} {nm : ByteArray} {v : Value} {l : List (ByteArray × ByteArray)} (h : DS w0 R T nm v l w) : w.cell? ⟨R, 1, none⟩ = some (.slice none 0 0) := by rw [Lib.cell_of_heap h.rblk]; rfl
theorem DS.t0 {w0 w : World} {R T : Nat} {nm : ByteArray} {v : Value} {l : List (ByteArray × ByteArray)} (h : DS w0 R T nm v l w) : w.cell? ⟨T, 0, none⟩ = some (.string nm) := by rw [Lib.cell_of_heap h.tblk]; rfl
theorem DS.t1 {w0 w : World} {R T : Nat} {nm : ByteArray} {v : Value} {l : List (ByteArray × ByteArray)} (h : DS w0 R T nm v l w) : w.cell? ⟨T, 1, none⟩ = some v := by rw [Lib.cell_of_heap h.tblk]; rfl
/-- What is left where Parse answers. -/
theorem DS.res {w0 w : World} {R T : Nat} {nm : ByteArray} {v : Value} {l : List (ByteArray × ByteArray)} (h : DS w0 R T nm v l w) (x y : Value) : OwnR ((w.setCell ⟨R, 0, none⟩ x).setCell ⟨R, 1, none⟩ y) w0.heap.size v l ∧ Below w0.heap.size w0 ((w.setCell ⟨R, 0, none⟩ x).setCell ⟨R, 1, none⟩ y) := by
  refine ⟨own_set (T := 53) (cs := #[x, .slice none 0 0]) (fr := (0, 0)) (own_set h.own h.rblk (by decide) 0 x) ?_ (by decide) 1 y, (h.bel.setCell (p := ⟨R, 0, none⟩) h.rlo _).setCell (p := ⟨R, 1, none⟩) h.rlo _⟩
  simp [World.setCell, Array.getElem?_modify, h.rblk]
theorem DS.bad {w0 w : World} {R T : Nat} {nm : ByteArray} {v : Value} {l : List (ByteArray × ByteArray)} (h : DS w0 R T nm v l w) (x y : Value) (er : Int) : PsPost (er, Nz.em, []) w0 (.returned (.tuple #[.agg #[.string ⟨#[]⟩, .slice none 0 0], .int .i64 er])) ((w.setCell ⟨R, 0, none⟩ x).setCell ⟨R, 1, none⟩ y) :=
  ⟨_, rfl, World.ownsRow_nil _ _ _ _, (h.res x y).2⟩
theorem DS.put {w0 w w2 : World} {R T : Nat} {nm : ByteArray} {v v' : Value} {l : List (ByteArray × ByteArray)} {x : ByteArray × ByteArray} (h : DS w0 R T nm v l w) (hown : w2.ownsRow w0.heap.size 81 2 v' (l.length + 1) (rwL l ++ rwC x)) (hg : w.grownBy w2 v.ownBlock) :
    w2.heap[T]? = some (.cells #[.string nm, v] 53 (0, 0)) ∧ DS w0 R T nm v' (l ++ [x]) (w2.setCell ⟨T, 1, none⟩ v') := by
  have hne := own_ne h.own h.tblk (by decide)
  have hne2 := own_ne h.own h.rblk (by decide)
  have hb2 : w2.heap[T]? = some (.cells #[.string nm, v] 53 (0, 0)) := (hg.block T h.tlt (fun e => hne e.symm)).trans h.tblk
  have hr2 : w2.heap[R]? = some (.cells #[.string ⟨#[]⟩, .slice none 0 0] 53 (0, 0)) := (hg.block R h.rlt (fun e => hne2 e.symm)).trans h.rblk
  have ho : OwnR w2 w0.heap.size v' (l ++ [x]) := by
    unfold OwnR
    rw [rwL_app, List.length_append]
    exact hown
  refine ⟨hb2, h.ne, h.rlo, h.tlo, (Below.heap_setCell _ _ _ _ h.ne).trans hr2, by simp [World.setCell, Array.getElem?_modify, hb2], own_set ho hb2 (by decide) 1 _, ?_⟩
  exact (h.bel.grown hg h.bel.size (fun k hk => (World.ownsRow.lt h.own k hk).1)).setCell (p := ⟨T, 1, none⟩) h.tlo _
end Go.Proofs.YtnomcldpbkinmaaGreatDoor.Tg

/- The walk of the document's Parse. -/
set_option linter.unusedSimpArgs false
set_option linter.unusedVariables false
namespace Go.Proofs.YtnomcldpbkinmaaGreatDoor.Tg
open Go.RowKit

theorem split3 (s : ByteArray) (hs : s.size ≤ 10000) (b : Bool) (h : isN s = b) (w : World) : Calls Tryz.prog 30 #[.string s] w fun e w' => (∃ x y, e = .returned (.tuple #[.string x, .string y, .bool b])) ∧ Below w.heap.size w w' :=
  (Nz.rsplit_any s hs w).mono fun e w' ⟨h1, h2⟩ => ⟨⟨(Nz.splitA s).1, (Nz.splitA s).2.1, by rw [h1]; unfold isN at h; rw [h]⟩, h2⟩
theorem qi_at_none (s : ByteArray) (b : Nat) (q : UInt8) (h : ∀ k, b ≤ k → k < s.size → (byts s).getD k 0 ≠ ((q.toNat : Nat) : Int)) : qi q (Nz.fr s b) = -1 := by
  apply qi_none
  intro i hi
  rw [Nz.fr_size] at hi
  have := pair_at s (b + i) b (by omega)
  rw [show b + i - b = i by omega] at this
  rw [this]
  exact h (b + i) (by omega) (by omega)
theorem qi_at_some (s : ByteArray) (b j : Nat) (q : UInt8) (hb : b ≤ j) (hj : j < s.size) (he : (byts s).getD j 0 = ((q.toNat : Nat) : Int)) (h : ∀ k, b ≤ k → k < j → (byts s).getD k 0 ≠ ((q.toNat : Nat) : Int)) : qi q (Nz.fr s b) = ((j - b : Nat) : Int) := by
  apply qi_some
  · rw [Nz.fr_size]; omega
  · rw [pair_at s j b hb]; exact he
  · intro i hi
    have := pair_at s (b + i) b (by omega)
    rw [show b + i - b = i by omega] at this
    rw [this]
    exact h (b + i) (by omega) (by omega)
theorem quo_facts (s : ByteArray) (f : Nat) (h3 : isN (Nz.sx s f) = true) (h6 : hd (Nz.fr s (p1 s f)) = 61) (h8 : p2 s f < s.size) (h9 : hd (Nz.fr s (p2 s f)) = 34 ∨ hd (Nz.fr s (p2 s f)) = 39) :
    ((∀ k, p2 s f + 1 ≤ k → k < s.size → (byts s).getD k 0 ≠ hd (Nz.fr s (p2 s f))) → pairF (Nz.fr s f) = (6, Nz.em, Nz.em, Nz.em)) ∧
    (∀ j, p2 s f + 1 ≤ j → j < s.size → (byts s).getD j 0 = hd (Nz.fr s (p2 s f)) → (∀ k, p2 s f + 1 ≤ k → k < j → (byts s).getD k 0 ≠ hd (Nz.fr s (p2 s f))) → pairF (Nz.fr s f) = vlF (Nz.sx s f) (s.extract (p2 s f + 1) j) (Nz.fr s (j + 1))) := by
  obtain ⟨q, hq, hq0⟩ : ∃ q : UInt8, (q = 34 ∨ q = 39) ∧ hd (Nz.fr s (p2 s f)) = ((q.toNat : Nat) : Int) := by
    rcases h9 with h | h
    · exact ⟨34, .inl rfl, h⟩
    · exact ⟨39, .inr rfl, h⟩
  rw [hq0]
  exact ⟨fun h => pf_open s f q hq h3 h6 hq0 (qi_at_none s _ _ h), fun j hj1 hj2 he h => pf_val s f j q hq h3 h6 hq0 hj1 (qi_at_some s _ j _ hj1 hj2 he h)⟩
theorem DS.drewN {w0 w : World} {R T : Nat} {nm : ByteArray} {v : Value} {l : List (ByteArray × ByteArray)} (h : DS w0 R T nm v l w) (n : Nat) : DS w0 R T nm v l (w.drewN n) := h.after (below_drewN (Below.refl _ w) n)
end Go.Proofs.YtnomcldpbkinmaaGreatDoor.Tg

/- The walk of the document's Right of a tag. -/
set_option linter.unusedSimpArgs false
set_option linter.unusedVariables false
namespace Go.Proofs.YtnomcldpbkinmaaGreatDoor.Tg
open Go.RowKit

/-- An attribute that may be, behind those ahead of it; a tag that may be. -/
def Rg1 (l : List (ByteArray × ByteArray)) (k : Nat) (x : ByteArray × ByteArray) : Prop := isN x.1 = true ∧ Rt (byts x.2) ∧ ∀ j y, j < k → l[j]? = some y → byts y.1 ≠ byts x.1
theorem cell_keep {w w' : World} {b j : Nat} {v : Value} (h : w.cell? ⟨b, j, none⟩ = some v) (hlt : b < w.heap.size) (hb : Below w.heap.size w w') : w'.cell? ⟨b, j, none⟩ = some v := (hb.cell (p := ⟨b, j, none⟩) hlt).trans h
def Fit (l : List (ByteArray × ByteArray)) : Prop := ∀ x ∈ l, x.1.size ≤ 10000 ∧ x.2.size ≤ 10000
def RgP (nm : ByteArray) (l : List (ByteArray × ByteArray)) : Prop := isN nm = true ∧ l.length ≤ 32 ∧ ∀ k x, l[k]? = some x → Rg1 l k x
def RgRel (n : Nat) (l : List (ByteArray × ByteArray)) (A : Option Addr) (c : Nat) (w : World) (i : Value) (wr : World) : Prop :=
  ∃ k : Nat, i = .int .i64 k ∧ k ≤ n ∧ Hid (RdR wr A l) ∧ Hid (Below w.heap.size w wr) ∧ w.heap.size < wr.heap.size ∧ wr.cell? ⟨w.heap.size, 1, none⟩ = some (.slice A n c) ∧ Hid (∀ j x, j < k → l[j]? = some x → Rg1 l j x)
def RgRel2 (k n : Nat) (l : List (ByteArray × ByteArray)) (tn : ByteArray) (A : Option Addr) (c : Nat) (w : World) (i : Value) (wr : World) : Prop :=
  ∃ j : Nat, i = .int .i64 j ∧ j ≤ k ∧ Hid (RdR wr A l) ∧ Hid (Below w.heap.size w wr) ∧ w.heap.size < wr.heap.size ∧ wr.cell? ⟨w.heap.size, 1, none⟩ = some (.slice A n c) ∧ Hid (∀ i y, i < j → l[i]? = some y → byts y.1 ≠ byts tn)
set_option maxHeartbeats 3000000 in
set_option maxRecDepth 100000 in
theorem rgt_any (nm : ByteArray) (l : List (ByteArray × ByteArray)) (n c : Nat) (A : Option Addr) (w : World) (hn : n = l.length) (hl : n ≤ 10000) (hnm : nm.size ≤ 10000) (hf : Fit l) (hR : RdR w A l) :
    Calls Tryz.prog 20 #[.agg #[.string nm, .slice A n c]] w (FwPost (RgP nm l) w) := by
  have HN := Lib.hid hn
  have HF := Lib.hid hf
  have B1 := (Below.refl w.heap.size w).alloc (Nat.le_refl _) (.cells #[.string nm, .slice A n c] 53)
  have HR := Lib.hid (hR.keep B1)
  have HB := Lib.hid B1
  clear hn hf hR B1
  cases hi : isN nm
  · have HX : Hid (¬ RgP nm l) := Lib.hid (fun h => by have := h.1; rw [hi] at this; cases this)
    have CS := Lib.hid (split3 nm hnm false hi)
    clear hi HR
    go_enter Tryz.func20, Tryz.ntmps20
    go_wp2_with fail
    refine (CS.out _).mono ?_
    rintro e w1 ⟨⟨y1, y2, rfl⟩, b1⟩
    have HB1 := Lib.hid (HB.out.trans (b1.mono HB.out.size))
    clear b1 CS
    go_wp2
    go_ret
    exact fw_no HX.out HB1.out
  have CS := Lib.hid (split3 nm hnm true hi)
  by_cases h32 : 32 < n
  · have HX : Hid (¬ RgP nm l) := Lib.hid (fun h => by have := h.2.1; have := HN.out; omega)
    have i2 : decide ((32 : Int) < (n : Int)) = true := by rw [decide_eq_true_eq]; omega
    have j2 : decide (32 < n) = true := by rw [decide_eq_true_eq]; omega
    have hg : (w.alloc (.cells #[.string nm, .slice A n c] 53)).cell? ⟨w.heap.size, 1, none⟩ = some (.slice A n c) := Blk0 w 53 _ 1
    clear hi HR
    go_enter Tryz.func20, Tryz.ntmps20
    go_wp2_with fail
    refine (CS.out _).mono ?_
    rintro e w1 ⟨⟨y1, y2, rfl⟩, b1⟩
    have HB1 := Lib.hid (HB.out.trans (b1.mono HB.out.size))
    have g1 := cell_keep hg (by simp) b1
    clear b1 CS hg
    go_wp2
    go_ret
    exact fw_no HX.out HB1.out
  have i2 : decide ((32 : Int) < (n : Int)) = false := by rw [decide_eq_false_iff_not]; omega
  have j2 : decide (32 < n) = false := by rw [decide_eq_false_iff_not]; omega
  have HA : Hid (isN nm = true ∧ l.length ≤ 32) := Lib.hid ⟨hi, by have := HN.out; omega⟩
  have hg : (w.alloc (.cells #[.string nm, .slice A n c] 53)).cell? ⟨w.heap.size, 1, none⟩ = some (.slice A n c) := Blk0 w 53 _ 1
  clear hi
  go_enter Tryz.func20, Tryz.ntmps20
  go_wp2_with fail
  refine (CS.out _).mono ?_
  rintro e w1 ⟨⟨y1, y2, rfl⟩, b1⟩
  have HB1 := Lib.hid (HB.out.trans (b1.mono HB.out.size))
  have g1 := cell_keep hg (by simp) b1
  have HR1 := Lib.hid (HR.out.keep b1)
  have hz1 : w.heap.size < w1.heap.size := Nat.lt_of_lt_of_le (by simp) b1.size
  clear b1 CS hg HR HB
  go_wp2_with fail
  go_loopw [6] (fun i wr => RgRel n l A c w i wr) (fun i _ => n - (intOf i).toNat)
  case atStart => exact ⟨0, rfl, Nat.zero_le _, HR1, HB1, hz1, g1, Lib.hid (fun j x hj => absurd hj (Nat.not_lt_zero _))⟩
  case round =>
    clear HR1 HB1 hz1 g1
    obtain ⟨k, rfl, hk, hR, hB, hz, g1, hM⟩ := hrel
    by_cases hlt : k < n
    · have hkl : k < l.length := by rw [← HN.out]; exact hlt
      obtain ⟨b1, o1, rfl, hb1, x0, x1⟩ := hR.out k _ (List.getElem?_eq_getElem hkl)
      have HK := Lib.hid (List.getElem?_eq_getElem hkl)
      have hfit := HF.out l[k] (List.getElem_mem _)
      have d1 : (k : Int) < (n : Int) := by omega
      have d0 : (0 : Int) ≤ (k : Int) := by omega
      generalize l[k] = t at *
      obtain ⟨tn, tv⟩ := t
      dsimp only at x0 x1 hfit
      cases ht : isN tn
      · have HX : Hid (¬ RgP nm l) := Lib.hid (fun h => by have := (h.2.2 k _ HK.out).1; dsimp only at this; rw [ht] at this; cases this)
        have CS := Lib.hid (split3 tn hfit.1 false ht)
        clear ht hM
        go_wp2_with fail
        refine (CS.out _).mono ?_
        rintro e w2 ⟨⟨y3, y4, rfl⟩, b2⟩
        have HB2 := Lib.hid (hB.out.trans (b2.mono hB.out.size))
        clear b2 CS
        go_wp2
        go_ret
        exact fw_no HX.out HB2.out
      have CS := Lib.hid (split3 tn hfit.1 true ht)
      by_cases hv : Rt (byts tv)
      · have CV := Lib.hid (right_yes tv hfit.2 hv)
        have HT : Hid (isN tn = true ∧ Rt (byts tv)) := Lib.hid ⟨ht, hv⟩
        clear ht hv
        go_wp2_with fail
        refine (CS.out _).mono ?_
        rintro e w2 ⟨⟨y3, y4, rfl⟩, b2⟩
        have HB2 := Lib.hid (hB.out.trans (b2.mono hB.out.size))
        have HR2 := Lib.hid (hR.out.keep b2)
        have g2 := cell_keep g1 hz b2
        have v2 := cell_keep x1 hb1 b2
        have hz2 : w.heap.size < w2.heap.size := Nat.lt_of_lt_of_le hz b2.size
        have hb2 : b1 < w2.heap.size := Nat.lt_of_lt_of_le hb1 b2.size
        clear b2 CS
        go_wp2_with fail
        refine (CV.out _).mono ?_
        rintro e w3 ⟨rfl, b3⟩
        have HB3 := Lib.hid (HB2.out.trans (b3.mono HB2.out.size))
        have HR3 := Lib.hid (HR2.out.keep b3)
        have g3 := cell_keep g2 hz2 b3
        have hz3 : w.heap.size < w3.heap.size := Nat.lt_of_lt_of_le hz2 b3.size
        clear b3 CV HB2 HR2 g2 v2 hb2 hz2
        go_wp2_with fail
        go_loopw [10] (fun i wr => RgRel2 k n l tn (some ⟨b1, o1, none⟩) c w i wr) (fun i _ => k - (intOf i).toNat)
        case atStart => exact ⟨0, rfl, Nat.zero_le _, HR3, HB3, hz3, g3, Lib.hid (fun j x hj => absurd hj (Nat.not_lt_zero _))⟩
        case round =>
          clear HR3 HB3 hz3 g3 hR hB g1 hz x0 x1 hb1
          obtain ⟨j, rfl, hj, hR, hB, hz, g1, hM2⟩ := hrel
          by_cases hjk : j < k
          · have hjl : j < l.length := by rw [← HN.out]; omega
            obtain ⟨b4, o4, e4, hb4, y0, y1⟩ := hR.out j _ (List.getElem?_eq_getElem hjl)
            obtain ⟨b5, o5, e5, hb5, z0, z1⟩ := hR.out k _ HK.out
            have HJ := Lib.hid (List.getElem?_eq_getElem hjl)
            have d2 : (j : Int) < (k : Int) := by omega
            have d3 : (j : Int) < (n : Int) := by omega
            have d4 : (0 : Int) ≤ (j : Int) := by omega
            generalize l[j] = tt at *
            obtain ⟨sn, sv⟩ := tt
            injection e4 with e4
            injection e4 with e4 e4'
            injection e5 with e5
            injection e5 with e5 e5'
            subst e4 e4' e5 e5'
            dsimp only at y0 y1 z0 z1
            by_cases heq : byts sn = byts tn
            · have HX : Hid (¬ RgP nm l) := Lib.hid (fun h => (h.2.2 k _ HK.out).2.2 j _ hjk HJ.out heq)
              have tq : (sn.toList == tn.toList) = true := (eqS sn tn).trans (decide_eq_true heq)
              clear heq hM hM2
              go_wp2_with fail
              go_quiet (fail)
              go_wp2
              go_ret
              exact fw_no HX.out (below_drewN hB.out _)
            · have HM3 : Hid (∀ i y, i < j + 1 → l[i]? = some y → byts y.1 ≠ byts tn) := Lib.hid fun i y hi hy => by
                rcases Nat.lt_or_ge i j with g | g
                · exact hM2.out i y g hy
                · obtain rfl : i = j := by omega
                  have := HJ.out
                  rw [hy] at this
                  injection this with this
                  rw [this]
                  exact heq
              have tq : (sn.toList == tn.toList) = false := (eqS sn tn).trans (decide_eq_false heq)
              clear heq hM2
              go_wp2_with fail
              go_quiet (fail)
              go_wp2
              go_roundw
              case rel => exact ⟨j + 1, by go_num, by omega, Lib.hid (fun k t h => hR.out k t h), Lib.hid (below_drewN hB.out _), hz, g1, HM3⟩
              case measure => simp only [intOf]; omega
          · have d2 : ¬ (j : Int) < (k : Int) := by omega
            have hjk' : j = k := by omega
            have HM3 : Hid (∀ j x, j < k + 1 → l[j]? = some x → Rg1 l j x) := Lib.hid fun i x hi hx => by
              rcases Nat.lt_or_ge i k with g | g
              · exact hM.out i x g hx
              · obtain rfl : i = k := by omega
                have := HK.out
                rw [hx] at this
                injection this with this
                rw [this]
                exact ⟨HT.out.1, HT.out.2, fun i' y hi' hy => hM2.out i' y (by omega) hy⟩
            clear hM hM2 hjk'
            go_wp2_with fail
            go_roundw
            case rel => exact ⟨k + 1, by go_num, by omega, hR, hB, hz, g1, HM3⟩
            case measure => simp only [intOf]; omega
      · have CV := Lib.hid (right_no tv hfit.2 hv)
        have HX : Hid (¬ RgP nm l) := Lib.hid (fun h => hv (h.2.2 k _ HK.out).2.1)
        clear ht hv hM
        go_wp2_with fail
        refine (CS.out _).mono ?_
        rintro e w2 ⟨⟨y3, y4, rfl⟩, b2⟩
        have HB2 := Lib.hid (hB.out.trans (b2.mono hB.out.size))
        have g2 := cell_keep g1 hz b2
        have v2 := cell_keep x1 hb1 b2
        clear b2 CS
        go_wp2_with fail
        refine (CV.out _).mono ?_
        rintro e w3 ⟨rfl, b3⟩
        have HB3 := Lib.hid (HB2.out.trans (b3.mono HB2.out.size))
        clear b3 CV HB2
        go_wp2
        go_ret
        exact fw_no HX.out HB3.out
    · have d1 : ¬ (k : Int) < (n : Int) := by omega
      have hke : k = n := by omega
      have HX : Hid (RgP nm l) := Lib.hid ⟨HA.out.1, HA.out.2, fun j x hx => hM.out j x (by rw [hke, HN.out]; exact (List.getElem?_eq_some_iff.1 hx).1) hx⟩
      clear hM hke hR
      go_wp2_with fail
      go_ret
      exact fw_yes HX.out hB.out
theorem rgt_yes (nm : ByteArray) (l : List (ByteArray × ByteArray)) (n c : Nat) (A : Option Addr) (w : World) (hn : n = l.length) (hl : n ≤ 10000) (hnm : nm.size ≤ 10000) (hf : Fit l) (hR : RdR w A l) (h : RgP nm l) :
    Calls Tryz.prog 20 #[.agg #[.string nm, .slice A n c]] w fun e w' => e = .returned (.bool true) ∧ Below w.heap.size w w' :=
  (rgt_any nm l n c A w hn hl hnm hf hR).mono fun e w' ⟨b, h2, h3, h4⟩ => ⟨by rw [h2, h3.2 h], h4⟩
theorem rgt_no (nm : ByteArray) (l : List (ByteArray × ByteArray)) (n c : Nat) (A : Option Addr) (w : World) (hn : n = l.length) (hl : n ≤ 10000) (hnm : nm.size ≤ 10000) (hf : Fit l) (hR : RdR w A l) (h : ¬ RgP nm l) :
    Calls Tryz.prog 20 #[.agg #[.string nm, .slice A n c]] w fun e w' => e = .returned (.bool false) ∧ Below w.heap.size w w' :=
  (rgt_any nm l n c A w hn hl hnm hf hR).mono fun e w' ⟨b, h2, h3, h4⟩ => ⟨by
    have : b = false := by
      cases hb : b
      · rfl
      · exact absurd (h3.1 hb) h
    rw [h2, this], h4⟩
end Go.Proofs.YtnomcldpbkinmaaGreatDoor.Tg

/- Plain mathematics: a tag that is read may be. -/
set_option linter.unusedSimpArgs false
set_option linter.unusedVariables false
namespace Go.Proofs.YtnomcldpbkinmaaGreatDoor.Tg
open Go.RowKit

theorem enc_low (r : Int) (h0 : 0 ≤ r) (h : r < 128) : encB r = [r] := by unfold encB; rw [if_pos h]
theorem step_chr (v : Bool) (l : List Int) (hl : l ≠ []) (hn : NN l) (h : (stepF v l).1 = 0) : ∃ r, (stepF v l).2.1 = encB r ∧ Chr r ∧ (encB r).length ≤ 2 * (stepF v l).2.2 := by
  unfold stepF at h ⊢
  by_cases c1 : l.getD 0 0 = 38
  · rw [if_pos c1] at h ⊢
    by_cases c2 : 59 ∈ l.tail ∧ 0 ≤ refV (bodyOf l.tail)
    · rw [if_pos c2]
      refine ⟨_, rfl, refV_chr _ c2.2, ?_⟩
      have := (encB_len (refV (bodyOf l.tail))).2
      show _ ≤ 2 * ((bodyOf l.tail).length + 2)
      omega
    · rw [if_neg c2] at h
      exact absurd h (by decide)
  rw [if_neg c1] at h ⊢
  by_cases c2 : l.getD 0 0 = 13
  · rw [if_pos c2]
    refine ⟨blk v 10, ?_, ?_, ?_⟩
    · cases v <;> rfl
    · cases v <;> decide
    · have : (encB (blk v 10)).length = 1 := by cases v <;> rfl
      show _ ≤ 2 * (if l.getD 1 0 = 10 then 2 else 1)
      split <;> omega
  rw [if_neg c2] at h ⊢
  by_cases c3 : l.getD 0 0 = 9 ∨ l.getD 0 0 = 10
  · rw [if_pos c3]
    refine ⟨blk v (l.getD 0 0), ?_, ?_, ?_⟩
    · rcases c3 with c | c <;> rw [c] <;> cases v <;> rfl
    · rcases c3 with c | c <;> rw [c] <;> cases v <;> decide
    · have : (encB (blk v (l.getD 0 0))).length = 1 := by rcases c3 with c | c <;> rw [c] <;> cases v <;> rfl
      show _ ≤ 2 * 1
      omega
  rw [if_neg c3] at h ⊢
  by_cases c4 : (dec1 l).2.2 ≠ 0
  · rw [if_pos c4] at h
    exact absurd h c4
  rw [if_neg c4] at h ⊢
  by_cases c5 : Chr (dec1 l).1
  · rw [if_pos c5]
    have hi := dec_inv l hl (fun k => hn.getD k) (Decidable.not_not.1 c4)
    refine ⟨_, rfl, c5, ?_⟩
    have h2 := hi.2.1
    show _ ≤ 2 * (dec1 l).2.1.toNat
    omega
  · rw [if_neg c5] at h
    exact absurd h (by decide)
theorem read_rt (v : Bool) : ∀ (n : Nat) (L : List Int), L.length ≤ n → NN L → (readF v L).2.2 = 0 → Rt (readF v L).1 ∧ NN (readF v L).1 ∧ (∀ x ∈ (readF v L).1, x ≤ 255) ∧ (readF v L).1.length ≤ 2 * L.length
  | n, L, h, hn, h0 => by
    by_cases hl : L = []
    · subst hl
      rw [readF_nil]
      exact ⟨⟨rfl, fun r hr => by simp [decF_nil] at hr⟩, fun x hx => by simp at hx, fun x hx => by simp at hx, by simp⟩
    match n with
    | 0 => exact absurd (List.eq_nil_of_length_eq_zero (by omega)) hl
    | n + 1 =>
      by_cases he : (stepF v L).1 = 0
      · have hb := step_bd v L hl hn he
        obtain ⟨r, e1, e2, e3⟩ := step_chr v L hl hn he
        rw [readF_ok v L hl hn he] at h0 ⊢
        obtain ⟨i1, i2, i3, i4⟩ := read_rt v n (L.drop (stepF v L).2.2) (by rw [List.length_drop]; omega) (hn.drop _) h0
        rw [List.length_drop] at i4
        dsimp only
        rw [e1]
        have hg := chr_good e2
        have hq := encB_nn r hg
        refine ⟨?_, ?_, ?_, ?_⟩
        · unfold Rt at i1 ⊢
          rw [decF_enc r _ hg i2]
          refine ⟨i1.1, fun x hx => ?_⟩
          rcases List.mem_cons.1 hx with hx | hx
          · rw [hx]; exact e2
          · exact i1.2 x hx
        · intro x hx
          rcases List.mem_append.1 hx with hx | hx
          · exact hq.1 x hx
          · exact i2 x hx
        · intro x hx
          rcases List.mem_append.1 hx with hx | hx
          · exact hq.2 x hx
          · exact i3 x hx
        · rw [List.length_append]
          omega
      · rw [readF_err v L hl he] at h0
        exact absurd h0 he
theorem ans_rt (a : ByteArray) (h : (ansF true (byts a)).2.2 = 0) : Rt (byts (strOfNums (ansF true (byts a)).1)) ∧ (strOfNums (ansF true (byts a)).1).size ≤ 2 * a.size := by
  have h0 : (readF true (byts a)).2.2 = 0 := by
    unfold ansF at h
    split at h
    · assumption
    · exact h
  have hz : (ansF true (byts a)).1 = (readF true (byts a)).1 := by unfold ansF; rw [if_pos h0]
  obtain ⟨i1, i2, i3, i4⟩ := read_rt true _ (byts a) (Nat.le_refl _) (byts_nn a) h0
  rw [hz]
  have e := byts_str _ i2 i3
  refine ⟨by rw [e]; exact i1, ?_⟩
  rw [← byts_len, e, ← byts_len a]
  exact i4
/-- What is known of an attribute that is read. -/
def PrI (m : Nat) (x : Int × ByteArray × ByteArray × ByteArray) : Prop := x.1 = 0 → isN x.2.1 = true ∧ Rt (byts x.2.2.1) ∧ x.2.1.size ≤ m ∧ x.2.2.1.size ≤ 2 * m
theorem quo_I (q : UInt8) (nm u : ByteArray) (m : Nat) (hn : isN nm = true) (h1 : nm.size ≤ m) (h2 : u.size ≤ m) : PrI m (quoF q nm u) := by
  unfold quoF
  split
  · intro h; exact absurd h (by decide)
  split
  · rename_i h; intro h'; exact absurd h' h
  · rename_i h
    intro _
    have := ans_rt (u.extract 0 (qi q u).toNat) (Decidable.not_not.1 h)
    have hz : (u.extract 0 (qi q u).toNat).size ≤ u.size := by
      rw [← byts_len, byts_to, List.length_take, byts_len]
      omega
    exact ⟨hn, this.1, h1, Nat.le_trans this.2 (by omega)⟩
theorem pair_I (u : ByteArray) : PrI u.size (pairF u) := by
  unfold pairF
  have z0 := sx_le u
  have z1 := Nz.fr_size u (Nz.sn u 0)
  have z2 := sk_size (Nz.fr u (Nz.sn u 0))
  have z3 := Nz.fr_size (sk (Nz.fr u (Nz.sn u 0))) 1
  have z4 := sk_size (Nz.fr (sk (Nz.fr u (Nz.sn u 0))) 1)
  have z5 := Nz.fr_size (sk (Nz.fr (sk (Nz.fr u (Nz.sn u 0))) 1)) 1
  by_cases c1 : isN (Nz.sx u 0) = false
  · rw [if_pos c1]; intro h; exact absurd h (by decide)
  rw [if_neg c1]
  have c1' : isN (Nz.sx u 0) = true := by simpa using c1
  by_cases c2 : hd (sk (Nz.fr u (Nz.sn u 0))) ≠ 61
  · rw [if_pos c2]; intro h; exact absurd h (by decide)
  rw [if_neg c2]
  by_cases c3 : hd (sk (Nz.fr (sk (Nz.fr u (Nz.sn u 0))) 1)) = 34
  · rw [if_pos c3]
    exact quo_I _ _ _ _ c1' z0 (by omega)
  rw [if_neg c3]
  by_cases c4 : hd (sk (Nz.fr (sk (Nz.fr u (Nz.sn u 0))) 1)) = 39
  · rw [if_pos c4]
    exact quo_I _ _ _ _ c1' z0 (by omega)
  rw [if_neg c4]
  intro h; exact absurd h (by decide)
/-- What is known of the attributes read so far. -/
def LsI (m : Nat) (l : List (ByteArray × ByteArray)) : Prop := l.length ≤ 32 ∧ (∀ k x, l[k]? = some x → Rg1 l k x) ∧ ∀ x ∈ l, x.1.size ≤ m ∧ x.2.size ≤ 2 * m
theorem ls_put {m : Nat} {l : List (ByteArray × ByteArray)} {x : ByteArray × ByteArray} (h : LsI m l) (hl : ¬ 32 ≤ l.length) (hn : isN x.1 = true) (hr : Rt (byts x.2)) (hh : hasN x.1 l = false) (h1 : x.1.size ≤ m) (h2 : x.2.size ≤ 2 * m) : LsI m (l ++ [x]) := by
  refine ⟨by rw [List.length_append, List.length_singleton]; omega, fun k y hy => ?_, fun y hy => ?_⟩
  · have hk : k < l.length + 1 := by
      have := (List.getElem?_eq_some_iff.1 hy).1
      rw [List.length_append, List.length_singleton] at this
      exact this
    have key : ∀ j z, j < l.length → (l ++ [x])[j]? = some z → l[j]? = some z := fun j z hj hz => by rw [List.getElem?_append_left hj] at hz; exact hz
    rcases Nat.lt_or_ge k l.length with g | g
    · have := h.2.1 k y (key k y g hy)
      exact ⟨this.1, this.2.1, fun j z hj hz => this.2.2 j z hj (key j z (by omega) hz)⟩
    · obtain rfl : k = l.length := by omega
      have : y = x := by
        rw [List.getElem?_append_right (Nat.le_refl _)] at hy
        simpa using hy.symm
      subst this
      refine ⟨hn, hr, fun j z hj hz => ?_⟩
      have hz' := key j z hj hz
      unfold hasN at hh
      rw [List.any_eq_false] at hh
      have := hh z (List.mem_of_getElem? hz')
      simpa using this
  · rcases List.mem_append.1 hy with hy | hy
    · exact h.2.2 y hy
    · have : y = x := by simpa using hy
      subst this
      exact ⟨h1, h2⟩
theorem goF_I (m : Nat) : ∀ (f : Nat) (nm : ByteArray) (l : List (ByteArray × ByteArray)) (u : ByteArray), u.size ≤ m → LsI m l → (goF f nm l u).1 = 0 → (goF f nm l u).2.1 = nm ∧ LsI m (goF f nm l u).2.2
  | 0, nm, l, u, _, hI, _ => ⟨rfl, hI⟩
  | f + 1, nm, l, u, hu, hI, h => by
    have hpi := pair_I (sk u)
    have hpl := @pair_lt (sk u)
    have hs := sk_size u
    unfold goF at h ⊢
    generalize pairF (sk u) = P at *
    by_cases c1 : (sk u).size = 0
    · rw [if_pos c1]; exact ⟨rfl, hI⟩
    rw [if_neg c1] at h ⊢
    by_cases c2 : bk u = 0
    · rw [if_pos c2] at h; exact absurd (show (6 : Int) = 0 from h) (by decide)
    rw [if_neg c2] at h ⊢
    by_cases c3 : P.1 ≠ 0
    · rw [if_pos c3] at h; exact absurd (show P.1 = 0 from h) c3
    rw [if_neg c3] at h ⊢
    by_cases c4 : hasN P.2.1 l = true
    · rw [if_pos c4] at h; exact absurd (show (8 : Int) = 0 from h) (by decide)
    rw [if_neg c4] at h ⊢
    by_cases c5 : 32 ≤ l.length
    · rw [if_pos c5] at h; exact absurd (show (13 : Int) = 0 from h) (by decide)
    rw [if_neg c5] at h ⊢
    have c3' := Decidable.not_not.1 c3
    obtain ⟨p1, p2, p3, p4⟩ := hpi c3'
    have hlt := hpl c3'
    exact goF_I m f _ _ _ (by omega) (ls_put hI c5 p1 p2 (by simpa using c4) (Nat.le_trans p3 (by omega)) (Nat.le_trans p4 (by omega))) h
theorem par_I (s : ByteArray) (h : (parF s).1 = 0) : RgP (parF s).2.1 (parF s).2.2 ∧ (parF s).2.1.size ≤ s.size ∧ ∀ x ∈ (parF s).2.2, x.1.size ≤ s.size ∧ x.2.size ≤ 2 * s.size := by
  unfold parF at h ⊢
  by_cases c : isN (Nz.sx s 0) = false
  · rw [if_pos c] at h
    exact absurd h (by decide)
  rw [if_neg c] at h ⊢
  unfold GoF at h ⊢
  have hz := Nz.fr_size s (Nz.sn s 0)
  obtain ⟨g1, g2⟩ := goF_I s.size _ _ [] _ (by omega) ⟨by simp, fun k x hx => by simp at hx, fun x hx => by simp at hx⟩ h
  rw [g1]
  exact ⟨⟨by simpa using c, g2.1, g2.2.1⟩, sx_le s, g2.2.2⟩
end Go.Proofs.YtnomcldpbkinmaaGreatDoor.Tg
