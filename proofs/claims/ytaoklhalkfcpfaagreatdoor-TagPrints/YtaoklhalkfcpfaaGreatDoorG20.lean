/-
  Merged by program out of the texts TgDoc2 of one seat.
-/
import Derived.Test.YtaoklhalkfcpfaaGreatDoorG16
import Derived.Test.YtaoklhalkfcpfaaGreatDoorG12
import Derived.Test.YtaoklhalkfcpfaaGreatDoorG17
import Derived.Test.YtaoklhalkfcpfaaGreatDoorG19

/- The document's Parse: positions, and its state. -/
set_option linter.unusedSimpArgs false
set_option linter.unusedVariables false
namespace Go.Proofs.YtaoklhalkfcpfaaGreatDoor
open Go.RowKit

theorem bl_frz (s : ByteArray) (k : Nat) : Nz.bl (Nz.fr s k) = (Nz.bl s).drop k := Nz.bl_fr s k
theorem sn_fr (s : ByteArray) (k : Nat) : Nz.sn (Nz.fr s k) 0 = Nz.sn s k := by unfold Nz.sn; rw [bl_frz, List.drop_zero]
theorem sx_fr (s : ByteArray) (k : Nat) : Nz.sx (Nz.fr s k) 0 = Nz.sx s k := by
  rw [sx_zero, sn_fr]
  rfl
theorem sk_fr (s : ByteArray) (k : Nat) : sk (Nz.fr s k) = Nz.fr s (pk s k) := by unfold sk pk; rw [fr_fr]
theorem hd_at (s : ByteArray) (k : Nat) (h : k < s.size) : hd (Nz.fr s k) = ((s[k].toNat : Nat) : Int) := by
  unfold hd
  rw [byts_fr, List.getD_eq_getElem?_getD, List.getElem?_drop, Nat.add_zero, ← List.getD_eq_getElem?_getD, ← at_byt s k h]
theorem hd_end (s : ByteArray) (k : Nat) (h : s.size ≤ k) : hd (Nz.fr s k) = 0 := by
  unfold hd
  rw [byts_fr, List.drop_of_length_le (by rw [byts_len]; exact h)]
  rfl
/-- Where the mark, and the quote, of an attribute stand that begins at f. -/
def p1 (s : ByteArray) (f : Nat) : Nat := pk s (f + Nz.sn s f)
def p2 (s : ByteArray) (f : Nat) : Nat := pk s (p1 s f + 1)
theorem pf_name (s : ByteArray) (f : Nat) (h : isN (Nz.sx s f) = false) : pairF (Nz.fr s f) = (4, Nz.em, Nz.em, Nz.em) := by
  unfold pairF
  rw [sx_fr, if_pos h]
theorem fr_p1 (s : ByteArray) (f : Nat) : sk (Nz.fr (Nz.fr s f) (Nz.sn (Nz.fr s f) 0)) = Nz.fr s (p1 s f) := by rw [sn_fr, fr_fr, sk_fr]; rfl
theorem fr_p2 (s : ByteArray) (f : Nat) : sk (Nz.fr (sk (Nz.fr (Nz.fr s f) (Nz.sn (Nz.fr s f) 0))) 1) = Nz.fr s (p2 s f) := by rw [fr_p1, fr_fr, sk_fr]; rfl
theorem pf_mark (s : ByteArray) (f : Nat) (h : isN (Nz.sx s f) = true) (h2 : hd (Nz.fr s (p1 s f)) ≠ 61) : pairF (Nz.fr s f) = (6, Nz.em, Nz.em, Nz.em) := by
  unfold pairF
  rw [sx_fr, if_neg (by rw [h]; decide), fr_p1, if_pos h2]
theorem pf_quote (s : ByteArray) (f : Nat) (h : isN (Nz.sx s f) = true) (h2 : hd (Nz.fr s (p1 s f)) = 61) (h3 : hd (Nz.fr s (p2 s f)) ≠ 34) (h4 : hd (Nz.fr s (p2 s f)) ≠ 39) : pairF (Nz.fr s f) = (6, Nz.em, Nz.em, Nz.em) := by
  unfold pairF
  rw [sx_fr, if_neg (by rw [h]; decide), fr_p2, fr_p1, if_neg (Decidable.not_not.2 h2), if_neg h3, if_neg h4]
theorem pf_quo (s : ByteArray) (f : Nat) (q : UInt8) (hq : q = 34 ∨ q = 39) (h : isN (Nz.sx s f) = true) (h2 : hd (Nz.fr s (p1 s f)) = 61) (h3 : hd (Nz.fr s (p2 s f)) = (q.toNat : Int)) : pairF (Nz.fr s f) = quoF q (Nz.sx s f) (Nz.fr s (p2 s f + 1)) := by
  unfold pairF
  rw [sx_fr, if_neg (by rw [h]; decide), fr_p2, fr_p1, if_neg (Decidable.not_not.2 h2), fr_fr]
  rcases hq with rfl | rfl
  · rw [if_pos (h3.trans u34)]
  · rw [if_neg (by rw [h3, u39]; decide), if_pos (h3.trans u39)]
theorem pf_open (s : ByteArray) (f : Nat) (q : UInt8) (hq : q = 34 ∨ q = 39) (h : isN (Nz.sx s f) = true) (h2 : hd (Nz.fr s (p1 s f)) = 61) (h3 : hd (Nz.fr s (p2 s f)) = (q.toNat : Int)) (h4 : qi q (Nz.fr s (p2 s f + 1)) = -1) : pairF (Nz.fr s f) = (6, Nz.em, Nz.em, Nz.em) := by
  rw [pf_quo s f q hq h h2 h3]
  unfold quoF
  rw [if_pos h4]
theorem ext_fr (s : ByteArray) (b j : Nat) (hb : b ≤ j) : (Nz.fr s b).extract 0 (j - b) = s.extract b j := byts_inj (by
  rw [byts_to, byts_fr, byts_extract, List.take_drop]
  have e : b + (j - b) = j := by omega
  first
    | rw [e]
    | rw [Nat.add_comm, e])
theorem fr_fr1 (s : ByteArray) (b j : Nat) (hb : b ≤ j) : Nz.fr (Nz.fr s b) (j - b + 1) = Nz.fr s (j + 1) := by
  rw [fr_fr]
  have e : b + (j - b + 1) = j + 1 := by omega
  rw [e]
theorem pf_val (s : ByteArray) (f j : Nat) (q : UInt8) (hq : q = 34 ∨ q = 39) (h : isN (Nz.sx s f) = true) (h2 : hd (Nz.fr s (p1 s f)) = 61) (h3 : hd (Nz.fr s (p2 s f)) = (q.toNat : Int)) (hj : p2 s f + 1 ≤ j) (h4 : qi q (Nz.fr s (p2 s f + 1)) = ((j - (p2 s f + 1) : Nat) : Int)) :
    pairF (Nz.fr s f) = vlF (Nz.sx s f) (s.extract (p2 s f + 1) j) (Nz.fr s (j + 1)) := by
  rw [pf_quo s f q hq h h2 h3]
  unfold quoF vlF
  have e1 : (qi q (Nz.fr s (p2 s f + 1))).toNat = j - (p2 s f + 1) := by rw [h4]; exact Int.toNat_natCast _
  have e2 := ext_fr s (p2 s f + 1) j hj
  have e3 := fr_fr1 s (p2 s f + 1) j hj
  rw [if_neg (by rw [h4]; omega), e1, e2, e3]
theorem pair_at (s : ByteArray) (j b : Nat) (hb : b ≤ j) : (byts (Nz.fr s b)).getD (j - b) 0 = (byts s).getD j 0 := by
  rw [byts_fr, List.getD_eq_getElem?_getD, List.getElem?_drop, ← List.getD_eq_getElem?_getD]
  congr 1
  omega
theorem p1_le (s : ByteArray) (f : Nat) (h : f ≤ s.size) : p1 s f ≤ s.size := by
  have := Nz.sn_le s f
  exact pk_le s _ (by omega)
theorem p2_le (s : ByteArray) (f : Nat) (h : p1 s f < s.size) : p2 s f ≤ s.size := pk_le s _ h
theorem pk_ge (s : ByteArray) (k : Nat) : k ≤ pk s k := by unfold pk; omega

/-- The state of the document's Parse: the block that it answers in, the tag's own block, the attributes. -/
structure DS (w0 : World) (R T : Nat) (nm : ByteArray) (v : Value) (l : List (ByteArray × ByteArray)) (w : World) : Prop where
  ne : R ≠ T
  rlo : w0.heap.size ≤ R
  tlo : w0.heap.size ≤ T
  rblk : w.heap[R]? = some (.cells #[.string ⟨#[]⟩, .slice none 0 0] 25 (0, 0))
  tblk : w.heap[T]? = some (.cells #[.string nm, v] 25 (0, 0))
  own : OwnR w w0.heap.size v l
  bel : Below w0.heap.size w0 w
theorem DS.rlt {w0 w : World} {R T : Nat} {nm : ByteArray} {v : Value} {l : List (ByteArray × ByteArray)} (h : DS w0 R T nm v l w) : R < w.heap.size := (Array.getElem?_eq_some_iff.1 h.rblk).1
theorem DS.tlt {w0 w : World} {R T : Nat} {nm : ByteArray} {v : Value} {l : List (ByteArray × ByteArray)} (h : DS w0 R T nm v l w) : T < w.heap.size := (Array.getElem?_eq_some_iff.1 h.tblk).1
theorem DS.after {w0 w w' : World} {R T : Nat} {nm : ByteArray} {v : Value} {l : List (ByteArray × ByteArray)} (h : DS w0 R T nm v l w) (hb : Below w.heap.size w w') : DS w0 R T nm v l w' :=
  ⟨h.ne, h.rlo, h.tlo, (hb.block R h.rlt).trans h.rblk, (hb.block T h.tlt).trans h.tblk, own_keep h.own hb, h.bel.trans (hb.mono h.bel.size)⟩
theorem DS.r0 {w0 w : World} {R T : Nat} {nm : ByteArray} {v : Value} {l : List (ByteArray × ByteArray)} (h : DS w0 R T nm v l w) : w.cell? ⟨R, 0, none⟩ = some (.string ⟨#[]⟩) := by rw [Lib.cell_of_heap h.rblk]; rfl
theorem DS.r1 {w0 w : World} {R T : Nat} {nm : ByteArray} {v : Value} {l : List (ByteArray × ByteArray)} (h : DS w0 R T nm v l w) : w.cell? ⟨R, 1, none⟩ = some (.slice none 0 0) := by rw [Lib.cell_of_heap h.rblk]; rfl
theorem DS.t0 {w0 w : World} {R T : Nat} {nm : ByteArray} {v : Value} {l : List (ByteArray × ByteArray)} (h : DS w0 R T nm v l w) : w.cell? ⟨T, 0, none⟩ = some (.string nm) := by rw [Lib.cell_of_heap h.tblk]; rfl
theorem DS.t1 {w0 w : World} {R T : Nat} {nm : ByteArray} {v : Value} {l : List (ByteArray × ByteArray)} (h : DS w0 R T nm v l w) : w.cell? ⟨T, 1, none⟩ = some v := by rw [Lib.cell_of_heap h.tblk]; rfl
theorem DS.rf {w0 w : World} {R T : Nat} {nm : ByteArray} {v : Value} {l : List (ByteArray × ByteArray)} (h : DS w0 R T nm v l w) (j : Nat) : w.frozen? ⟨R, j, none⟩ = false := Lib.frozen_of_heap h.rblk j
theorem DS.tf {w0 w : World} {R T : Nat} {nm : ByteArray} {v : Value} {l : List (ByteArray × ByteArray)} (h : DS w0 R T nm v l w) (j : Nat) : w.frozen? ⟨T, j, none⟩ = false := Lib.frozen_of_heap h.tblk j
/-- What is left where Parse answers. -/
theorem DS.res {w0 w : World} {R T : Nat} {nm : ByteArray} {v : Value} {l : List (ByteArray × ByteArray)} (h : DS w0 R T nm v l w) (x y : Value) : OwnR ((w.setCell ⟨R, 0, none⟩ x).setCell ⟨R, 1, none⟩ y) w0.heap.size v l ∧ Below w0.heap.size w0 ((w.setCell ⟨R, 0, none⟩ x).setCell ⟨R, 1, none⟩ y) := by
  refine ⟨own_set (T := 25) (cs := #[x, .slice none 0 0]) (fr := (0, 0)) (own_set h.own h.rblk (by decide) 0 x) ?_ (by decide) 1 y, (h.bel.setCell (p := ⟨R, 0, none⟩) h.rlo _).setCell (p := ⟨R, 1, none⟩) h.rlo _⟩
  simp [World.setCell, Array.getElem?_modify, h.rblk]
theorem DS.bad {w0 w : World} {R T : Nat} {nm : ByteArray} {v : Value} {l : List (ByteArray × ByteArray)} (h : DS w0 R T nm v l w) (x y : Value) (er : Int) : PsPost (er, Nz.em, []) w0 (.returned (.tuple #[.agg #[.string ⟨#[]⟩, .slice none 0 0], .int .i64 er])) ((w.setCell ⟨R, 0, none⟩ x).setCell ⟨R, 1, none⟩ y) :=
  ⟨_, rfl, World.ownsRow_nil _ _ _ _, (h.res x y).2⟩
theorem DS.good {w0 w : World} {R T : Nat} {nm : ByteArray} {v : Value} {l : List (ByteArray × ByteArray)} (h : DS w0 R T nm v l w) (x y : Value) : PsPost (0, nm, l) w0 (.returned (.tuple #[.agg #[.string nm, v], .int .i64 0])) ((w.setCell ⟨R, 0, none⟩ x).setCell ⟨R, 1, none⟩ y) :=
  ⟨_, rfl, (h.res x y).1, (h.res x y).2⟩
theorem DS.put {w0 w w2 : World} {R T : Nat} {nm : ByteArray} {v v' : Value} {l : List (ByteArray × ByteArray)} {x : ByteArray × ByteArray} (h : DS w0 R T nm v l w) (hown : w2.ownsRow w0.heap.size 37 2 v' (l.length + 1) (rwL l ++ rwC x)) (hg : w.grownBy w2 v.ownBlock) :
    w2.heap[T]? = some (.cells #[.string nm, v] 25 (0, 0)) ∧ DS w0 R T nm v' (l ++ [x]) (w2.setCell ⟨T, 1, none⟩ v') := by
  have hne := own_ne h.own h.tblk (by decide)
  have hne2 := own_ne h.own h.rblk (by decide)
  have hb2 : w2.heap[T]? = some (.cells #[.string nm, v] 25 (0, 0)) := (hg.block T h.tlt (fun e => hne e.symm)).trans h.tblk
  have hr2 : w2.heap[R]? = some (.cells #[.string ⟨#[]⟩, .slice none 0 0] 25 (0, 0)) := (hg.block R h.rlt (fun e => hne2 e.symm)).trans h.rblk
  have ho : OwnR w2 w0.heap.size v' (l ++ [x]) := by
    unfold OwnR
    rw [rwL_app, List.length_append]
    exact hown
  refine ⟨hb2, h.ne, h.rlo, h.tlo, (Below.heap_setCell _ _ _ _ h.ne).trans hr2, by simp [World.setCell, Array.getElem?_modify, hb2], own_set ho hb2 (by decide) 1 _, ?_⟩
  exact (h.bel.grown hg h.bel.size (fun k hk => (World.ownsRow.lt h.own k hk).1)).setCell (p := ⟨T, 1, none⟩) h.tlo _
end Go.Proofs.YtaoklhalkfcpfaaGreatDoor
