/-
  Merged by program out of the texts TgMath, TgShelf, TgRst, TgCut of one seat.
-/
import Derived.Test.YtkeilgompipfjaaGreatDoorG04
import Derived.Test.YtkeilgompipfjaaGreatDoorG05
import Derived.Test.YtkeilgompipfjaaGreatDoorProg
import Derived.Below
import Derived.Shelf.Strings.SlTrimAscii
import Derived.Deep.QuietTactic
import Derived.BigQuiet

/- Plain mathematics: what a tag's text is read as. -/
set_option linter.unusedSimpArgs false
set_option linter.unusedVariables false
namespace Go.Proofs.YtkeilgompipfjaaGreatDoor.Tg
open Go.RowKit

def blk? (c : Int) : Bool := decide (Blank c)
/-- How many blanks stand first; what stands behind them; the first byte (0: none); whether a text is a name; where a byte stands. -/
def bk (u : ByteArray) : Nat := ((byts u).takeWhile blk?).length
def sk (u : ByteArray) : ByteArray := Nz.fr u (bk u)
def hd (u : ByteArray) : Int := (byts u).getD 0 0
def isN (s : ByteArray) : Bool := (Nz.splitA s).2.2
def qi (q : UInt8) (u : ByteArray) : Int := Lib.indexByte u.data.toList q
def hasN (nm : ByteArray) (l : List (ByteArray × ByteArray)) : Bool := l.any fun x => decide (byts x.1 = byts nm)

/-- The value between quotes, of which the first stands just ahead of u; the name of the attribute is nm. -/
def quoF (q : UInt8) (nm u : ByteArray) : Int × ByteArray × ByteArray × ByteArray :=
  if qi q u = -1 then (6, Nz.em, Nz.em, Nz.em)
  else if (ansF true (byts (u.extract 0 (qi q u).toNat))).2.2 ≠ 0 then ((ansF true (byts (u.extract 0 (qi q u).toNat))).2.2, Nz.em, Nz.em, Nz.em)
  else (0, nm, strOfNums (ansF true (byts (u.extract 0 (qi q u).toNat))).1, Nz.fr u ((qi q u).toNat + 1))
/-- An attribute: the error, the name, the value, what is left. -/
def pairF (u : ByteArray) : Int × ByteArray × ByteArray × ByteArray :=
  if isN (Nz.sx u 0) = false then (4, Nz.em, Nz.em, Nz.em)
  else if hd (sk (Nz.fr u (Nz.sn u 0))) ≠ 61 then (6, Nz.em, Nz.em, Nz.em)
  else if hd (sk (Nz.fr (sk (Nz.fr u (Nz.sn u 0))) 1)) = 34 then quoF 34 (Nz.sx u 0) (Nz.fr (sk (Nz.fr (sk (Nz.fr u (Nz.sn u 0))) 1)) 1)
  else if hd (sk (Nz.fr (sk (Nz.fr u (Nz.sn u 0))) 1)) = 39 then quoF 39 (Nz.sx u 0) (Nz.fr (sk (Nz.fr (sk (Nz.fr u (Nz.sn u 0))) 1)) 1)
  else (6, Nz.em, Nz.em, Nz.em)
def goF : Nat → ByteArray → List (ByteArray × ByteArray) → ByteArray → Int × ByteArray × List (ByteArray × ByteArray)
  | 0, nm, l, u => (0, nm, l)
  | f + 1, nm, l, u =>
    if (sk u).size = 0 then (0, nm, l)
    else if bk u = 0 then (6, Nz.em, [])
    else if (pairF (sk u)).1 ≠ 0 then ((pairF (sk u)).1, Nz.em, [])
    else if hasN (pairF (sk u)).2.1 l = true then (8, Nz.em, [])
    else if 32 ≤ l.length then (13, Nz.em, [])
    else goF f nm (l ++ [((pairF (sk u)).2.1, (pairF (sk u)).2.2.1)]) (pairF (sk u)).2.2.2
def GoF (nm : ByteArray) (l : List (ByteArray × ByteArray)) (u : ByteArray) : Int × ByteArray × List (ByteArray × ByteArray) := goF (u.size + 1) nm l u
/-- A tag: the error, the name, the attributes. -/
def parF (u : ByteArray) : Int × ByteArray × List (ByteArray × ByteArray) :=
  if isN (Nz.sx u 0) = false then (4, Nz.em, []) else GoF (Nz.sx u 0) [] (Nz.fr u (Nz.sn u 0))

theorem sk_size (u : ByteArray) : (sk u).size = u.size - bk u := by unfold sk; rw [Nz.fr_size]
theorem bk_le (u : ByteArray) : bk u ≤ u.size := by
  have := (List.takeWhile_prefix blk? (l := byts u)).length_le
  rw [byts_len] at this
  exact this
theorem hd_pos {u : ByteArray} (h : hd u ≠ 0) : 1 ≤ u.size := by
  rcases Nat.eq_zero_or_pos u.size with h0 | h0
  · exfalso
    apply h
    unfold hd
    have e : byts u = [] := List.eq_nil_of_length_eq_zero (by rw [byts_len]; exact h0)
    rw [e]
    rfl
  · exact h0
theorem quo_lt (q : UInt8) (nm u : ByteArray) : (quoF q nm u).1 = 0 → (quoF q nm u).2.2.2.size ≤ u.size := by
  unfold quoF
  split
  · intro h; exact absurd h (by decide)
  split
  · intro h
    rename_i h2
    exact absurd h h2
  · intro _
    show (Nz.fr u _).size ≤ _
    rw [Nz.fr_size]
    omega
theorem pair_lt {u : ByteArray} (h : (pairF u).1 = 0) : (pairF u).2.2.2.size < u.size := by
  unfold pairF at h ⊢
  split at h
  · exact absurd h (by decide)
  rename_i h1
  rw [if_neg h1]
  split at h
  · exact absurd h (by decide)
  rename_i h2
  rw [if_neg h2]
  have s1 := sk_size (Nz.fr u (Nz.sn u 0))
  rw [Nz.fr_size] at s1
  have s2 := sk_size (Nz.fr (sk (Nz.fr u (Nz.sn u 0))) 1)
  rw [Nz.fr_size] at s2
  split at h
  · rename_i h3
    rw [if_pos h3]
    have := quo_lt _ _ _ h
    rw [Nz.fr_size] at this
    have h4 := hd_pos (u := sk (Nz.fr (sk (Nz.fr u (Nz.sn u 0))) 1)) (by rw [h3]; decide)
    omega
  rename_i h3
  rw [if_neg h3]
  split at h
  · rename_i h5
    rw [if_pos h5]
    have := quo_lt _ _ _ h
    rw [Nz.fr_size] at this
    have h4 := hd_pos (u := sk (Nz.fr (sk (Nz.fr u (Nz.sn u 0))) 1)) (by rw [h5]; decide)
    omega
  · exact absurd h (by decide)

theorem go_fuel : ∀ (f g : Nat) (nm : ByteArray) (l : List (ByteArray × ByteArray)) (u : ByteArray), u.size < f → u.size < g → goF f nm l u = goF g nm l u
  | 0, _, _, _, u, h, _ => absurd h (Nat.not_lt_zero _)
  | _ + 1, 0, _, _, u, _, h => absurd h (Nat.not_lt_zero _)
  | f + 1, g + 1, nm, l, u, hf, hg => by
    unfold goF
    by_cases c1 : (sk u).size = 0
    · rw [if_pos c1, if_pos c1]
    rw [if_neg c1, if_neg c1]
    by_cases c2 : bk u = 0
    · rw [if_pos c2, if_pos c2]
    rw [if_neg c2, if_neg c2]
    by_cases c3 : (pairF (sk u)).1 ≠ 0
    · rw [if_pos c3, if_pos c3]
    rw [if_neg c3, if_neg c3]
    by_cases c4 : hasN (pairF (sk u)).2.1 l = true
    · rw [if_pos c4, if_pos c4]
    rw [if_neg c4, if_neg c4]
    by_cases c5 : 32 ≤ l.length
    · rw [if_pos c5, if_pos c5]
    rw [if_neg c5, if_neg c5]
    have hlt := pair_lt (Decidable.not_not.1 c3)
    have hs := sk_size u
    exact go_fuel f g _ _ _ (by omega) (by omega)
theorem go_done (nm : ByteArray) (l : List (ByteArray × ByteArray)) (u : ByteArray) (c1 : (sk u).size = 0) : GoF nm l u = (0, nm, l) := by
  unfold GoF goF; rw [if_pos c1]
theorem go_mark (nm : ByteArray) (l : List (ByteArray × ByteArray)) (u : ByteArray) (c1 : (sk u).size ≠ 0) (c2 : bk u = 0) : GoF nm l u = (6, Nz.em, []) := by
  unfold GoF goF; rw [if_neg c1, if_pos c2]
theorem go_err (nm : ByteArray) (l : List (ByteArray × ByteArray)) (u : ByteArray) (c1 : (sk u).size ≠ 0) (c2 : bk u ≠ 0) (c3 : (pairF (sk u)).1 ≠ 0) : GoF nm l u = ((pairF (sk u)).1, Nz.em, []) := by
  unfold GoF goF; rw [if_neg c1, if_neg c2, if_pos c3]
theorem go_twice (nm : ByteArray) (l : List (ByteArray × ByteArray)) (u : ByteArray) (c1 : (sk u).size ≠ 0) (c2 : bk u ≠ 0) (c3 : (pairF (sk u)).1 = 0) (c4 : hasN (pairF (sk u)).2.1 l = true) : GoF nm l u = (8, Nz.em, []) := by
  unfold GoF goF; rw [if_neg c1, if_neg c2, if_neg (Decidable.not_not.2 c3), if_pos c4]
theorem go_large (nm : ByteArray) (l : List (ByteArray × ByteArray)) (u : ByteArray) (c1 : (sk u).size ≠ 0) (c2 : bk u ≠ 0) (c3 : (pairF (sk u)).1 = 0) (c4 : hasN (pairF (sk u)).2.1 l = false) (c5 : 32 ≤ l.length) : GoF nm l u = (13, Nz.em, []) := by
  unfold GoF goF; rw [if_neg c1, if_neg c2, if_neg (Decidable.not_not.2 c3), if_neg (by rw [c4]; decide), if_pos c5]
theorem go_ok (nm : ByteArray) (l : List (ByteArray × ByteArray)) (u : ByteArray) (c1 : (sk u).size ≠ 0) (c2 : bk u ≠ 0) (c3 : (pairF (sk u)).1 = 0) (c4 : hasN (pairF (sk u)).2.1 l = false) (c5 : ¬ 32 ≤ l.length) :
    GoF nm l u = GoF nm (l ++ [((pairF (sk u)).2.1, (pairF (sk u)).2.2.1)]) (pairF (sk u)).2.2.2 := by
  have hlt := pair_lt c3
  have hs := sk_size u
  unfold GoF
  rw [goF, if_neg c1, if_neg c2, if_neg (Decidable.not_not.2 c3), if_neg (by rw [c4]; decide), if_neg c5]
  exact go_fuel _ _ _ _ _ (by omega) (by omega)

/-- Texts by their bytes. -/
theorem eqS (a b : ByteArray) : (a.toList == b.toList) = decide (byts a = byts b) := by
  rw [Lib.toList_data, Lib.toList_data]
  by_cases h : byts a = byts b
  · have := byts_inj h
    subst this
    rw [decide_eq_true h]
    exact beq_self_eq_true _
  · rw [decide_eq_false h]
    rw [beq_eq_false_iff_ne]
    intro e
    apply h
    unfold byts
    rw [e]
theorem byts_fr (u : ByteArray) (k : Nat) : byts (Nz.fr u k) = (byts u).drop k := byts_from u k
theorem fr_fr (u : ByteArray) (a b : Nat) : Nz.fr (Nz.fr u a) b = Nz.fr u (a + b) := byts_inj (by rw [byts_fr, byts_fr, byts_fr, List.drop_drop])
theorem fr_zero (u : ByteArray) : Nz.fr u 0 = u := byts_inj (by rw [byts_fr, List.drop_zero])
theorem sx_zero (u : ByteArray) : Nz.sx u 0 = u.extract 0 (Nz.sn u 0) := by unfold Nz.sx; rw [fr_zero]
theorem sx_le (u : ByteArray) : (Nz.sx u 0).size ≤ u.size := by
  rw [sx_zero, ← byts_len, byts_to, List.length_take, byts_len]
  omega
end Go.Proofs.YtkeilgompipfjaaGreatDoor.Tg

/- The library's contracts of package strings, laid at this program (by the kit's own two commands, lay-shelf and lay-plain, and by hand after them; no walk of ours). -/
namespace Go.Proofs
open Go.Shelf
open Go.RowKit
def Tryz.lays161_ren : Go.Shelf.Ren := ⟨fun | 161 => 108 | 231 => 132 | 227 => 133 | 233 => 134 | 235 => 135 | 228 => 154 | 197 => 119 | 151 => 155 | 260 => 145 | 152 => 164 | 137 => 170 | 119 => 171 | 224 => 103 | 225 => 102 | 217 => 101 | 266 => 127 | n => n, fun | 9 => 9 | 4 => 4 | 3 => 3 | 5 => 5 | 117 => 189 | 116 => 188 | 0 => 0 | 124 => 192 | 105 => 120 | 21 => 21 | 119 => 219 | 46 => 58 | 139 => 222 | 138 => 221 | n => n, fun | 3 => 4 | 4 => 5 | n => n⟩
theorem Tryz.lays161 : Go.Proofs.Lays.n161 Tryz.prog Tryz.lays161_ren := {
  mixed := by kernel_rfl
  f119 := Tryz.func171.trans (congrArg some (by kernel_rfl))
  f137 := Tryz.func170.trans (congrArg some (by kernel_rfl))
  f151 := Tryz.func155.trans (congrArg some (by kernel_rfl))
  f152 := Tryz.func164.trans (congrArg some (by kernel_rfl))
  f161 := Tryz.func108.trans (congrArg some (by kernel_rfl))
  f197 := Tryz.func119.trans (congrArg some (by kernel_rfl))
  f217 := Tryz.func101.trans (congrArg some (by kernel_rfl))
  f224 := Tryz.func103.trans (congrArg some (by kernel_rfl))
  f225 := Tryz.func102.trans (congrArg some (by kernel_rfl))
  f227 := Tryz.func133.trans (congrArg some (by kernel_rfl))
  f228 := Tryz.func154.trans (congrArg some (by kernel_rfl))
  f231 := Tryz.func132.trans (congrArg some (by kernel_rfl))
  f233 := Tryz.func134.trans (congrArg some (by kernel_rfl))
  f235 := Tryz.func135.trans (congrArg some (by kernel_rfl))
  f260 := Tryz.func145.trans (congrArg some (by kernel_rfl))
  f266 := Tryz.func127.trans (congrArg some (by kernel_rfl))
  t0 := Tryz.underlying0
  a0 := Tryz.isAgg0
  z0 := Tryz.sizeOf0
  v0 := Tryz.zeroValue0
  t3 := Tryz.underlying3
  a3 := Tryz.isAgg3
  z3 := Tryz.sizeOf3
  v3 := Tryz.zeroValue3
  t4 := Tryz.underlying4
  a4 := Tryz.isAgg4
  z4 := Tryz.sizeOf4
  v4 := Tryz.zeroValue4
  t5 := Tryz.underlying5
  a5 := Tryz.isAgg5
  z5 := Tryz.sizeOf5
  v5 := Tryz.zeroValue5
  t9 := Tryz.underlying9
  a9 := Tryz.isAgg9
  z9 := Tryz.sizeOf9
  v9 := Tryz.zeroValue9
  t21 := Tryz.underlying21
  a21 := Tryz.isAgg21
  z21 := Tryz.sizeOf21
  v21 := Tryz.zeroValue21
  t46 := Tryz.underlying58
  a46 := Tryz.isAgg58
  z46 := Tryz.sizeOf58
  v46 := Tryz.zeroValue58
  t105 := Tryz.underlying120
  a105 := Tryz.isAgg120
  z105 := Tryz.sizeOf120
  v105 := Tryz.zeroValue120
  t116 := Tryz.underlying188
  a116 := Tryz.isAgg188
  z116 := Tryz.sizeOf188
  t117 := Tryz.underlying189
  a117 := Tryz.isAgg189
  z117 := Tryz.sizeOf189
  v117 := Tryz.zeroValue189
  t119 := Tryz.underlying219
  a119 := Tryz.isAgg219
  z119 := Tryz.sizeOf219
  t124 := Tryz.underlying192
  a124 := Tryz.isAgg192
  z124 := Tryz.sizeOf192
  v124 := Tryz.zeroValue192
  t138 := Tryz.underlying221
  a138 := Tryz.isAgg221
  z138 := Tryz.sizeOf221
  v138 := Tryz.zeroValue221
  t139 := Tryz.underlying222
  a139 := Tryz.isAgg222
  z139 := Tryz.sizeOf222
  v139 := Tryz.zeroValue222
  g3 := by kernel_rfl
  g4 := by kernel_rfl }
theorem Tryz.strings_TrimLeft_laid (s cutset : ByteArray) (w : World) (hcs : cutset.size < 4294967281) (hascii : ∀ (j : Nat) b, cutset.data.toList[j]? = some b → b.toNat < 128) :
    Calls Tryz.prog 108 #[.string s, .string cutset] w fun e w' => e = .returned (.string ⟨(Lib.trimLeftS s.data.toList cutset.data.toList).toArray⟩) ∧ Below w.heap.size w w' := Any.strings_TrimLeft_laid Tryz.lays161 (by kernel_rfl) s cutset w hcs hascii
end Go.Proofs

/- The walks of the reader's rest of a text: done, skip, mark, name, quoted. -/
set_option linter.unusedSimpArgs false
set_option linter.unusedVariables false
namespace Go.Proofs.YtkeilgompipfjaaGreatDoor.Tg
open Go.RowKit

/-- An attribute's cells; a slice of attributes of the call's own. -/
def rwC (x : ByteArray × ByteArray) : List Value := [.string x.1, .string x.2]
def rwL (l : List (ByteArray × ByteArray)) : List Value := l.flatMap rwC
def OwnR (w : World) (B : Nat) (v : Value) (l : List (ByteArray × ByteArray)) : Prop := w.ownsRow B 141 2 v l.length (rwL l)
theorem rwL_app (l : List (ByteArray × ByteArray)) (t : ByteArray × ByteArray) : rwL (l ++ [t]) = rwL l ++ rwC t := by unfold rwL; simp
theorem own_ne {w : World} {B : Nat} {e T : TypeId} {z : Nat} {v : Value} {n : Nat} {xs : List Value} {b : Nat} {cs : Array Value} {fr : Nat × Nat} (hown : w.ownsRow B e z v n xs) (hb : w.heap[b]? = some (.cells cs T fr)) (hTe : T ≠ e) : v.ownBlock ≠ some b := by
  rcases hown.2 with ⟨rfl, _⟩ | ⟨g, cap, cur, rfl, _, hg, _⟩
  · simp [Value.ownBlock]
  · intro h
    simp only [Value.ownBlock, Option.some.injEq] at h
    subst h
    rw [hg] at hb
    injection hb with hb
    injection hb with _ h2 _
    exact hTe h2.symm
/-- A reader in block g (of the call's own: w0 is the world ahead of it): what is left, the name, the attributes. -/
structure RS (w0 : World) (g : Nat) (u nm : ByteArray) (v : Value) (l : List (ByteArray × ByteArray)) (w : World) : Prop where
  lo : w0.heap.size ≤ g
  blk : w.heap[g]? = some (.cells #[.string u, .string nm, v] 111 (0, 0))
  own : OwnR w w0.heap.size v l
  bel : Below w0.heap.size w0 w
  vr0 : Vars w0
theorem RS.lt {w0 w : World} {g : Nat} {u nm : ByteArray} {v : Value} {l : List (ByteArray × ByteArray)} (h : RS w0 g u nm v l w) : g < w.heap.size := (Array.getElem?_eq_some_iff.1 h.blk).1
theorem RS.vr {w0 w : World} {g : Nat} {u nm : ByteArray} {v : Value} {l : List (ByteArray × ByteArray)} (h : RS w0 g u nm v l w) : Vars w := h.vr0.keep h.bel h.vr0.1
theorem RS.after {w0 w w' : World} {g : Nat} {u nm : ByteArray} {v : Value} {l : List (ByteArray × ByteArray)} (h : RS w0 g u nm v l w) (hb : Below w.heap.size w w') : RS w0 g u nm v l w' :=
  ⟨h.lo, (hb.block g h.lt).trans h.blk, own_keep h.own hb, h.bel.trans (hb.mono h.bel.size), h.vr0⟩
theorem RS.c0 {w0 w : World} {g : Nat} {u nm : ByteArray} {v : Value} {l : List (ByteArray × ByteArray)} (h : RS w0 g u nm v l w) : w.cell? ⟨g, 0, none⟩ = some (.string u) := by rw [Lib.cell_of_heap h.blk]; rfl
theorem RS.c1 {w0 w : World} {g : Nat} {u nm : ByteArray} {v : Value} {l : List (ByteArray × ByteArray)} (h : RS w0 g u nm v l w) : w.cell? ⟨g, 1, none⟩ = some (.string nm) := by rw [Lib.cell_of_heap h.blk]; rfl
theorem RS.c2 {w0 w : World} {g : Nat} {u nm : ByteArray} {v : Value} {l : List (ByteArray × ByteArray)} (h : RS w0 g u nm v l w) : w.cell? ⟨g, 2, none⟩ = some v := by rw [Lib.cell_of_heap h.blk]; rfl
theorem RS.fz {w0 w : World} {g : Nat} {u nm : ByteArray} {v : Value} {l : List (ByteArray × ByteArray)} (h : RS w0 g u nm v l w) (j : Nat) : w.frozen? ⟨g, j, none⟩ = false := Lib.frozen_of_heap h.blk j
theorem own_set {w : World} {B g : Nat} {T : TypeId} {v : Value} {l : List (ByteArray × ByteArray)} {cs : Array Value} {fr : Nat × Nat} (h : OwnR w B v l) (hb : w.heap[g]? = some (.cells cs T fr)) (hT : T ≠ 141) (j : Nat) (x : Value) : OwnR (w.setCell ⟨g, j, none⟩ x) B v l :=
  World.ownsRow.kept (row := some g) h ⟨rfl, rfl, rfl, by simp [World.setCell], fun k _ hk => Below.heap_setCell _ _ _ _ (fun e => hk (by simp [e]))⟩ (Or.inr (own_ne h hb hT))
theorem RS.left {w0 w : World} {g : Nat} {u nm : ByteArray} {v : Value} {l : List (ByteArray × ByteArray)} (h : RS w0 g u nm v l w) (u' : ByteArray) : RS w0 g u' nm v l (w.setCell ⟨g, 0, none⟩ (.string u')) :=
  ⟨h.lo, by simp [World.setCell, Array.getElem?_modify, h.blk], own_set h.own h.blk (by decide) 0 _, h.bel.setCell (p := ⟨g, 0, none⟩) h.lo _, h.vr0⟩
theorem RS.name {w0 w : World} {g : Nat} {u nm : ByteArray} {v : Value} {l : List (ByteArray × ByteArray)} (h : RS w0 g u nm v l w) (n' : ByteArray) : RS w0 g u n' v l (w.setCell ⟨g, 1, none⟩ (.string n')) :=
  ⟨h.lo, by simp [World.setCell, Array.getElem?_modify, h.blk], own_set h.own h.blk (by decide) 1 _, h.bel.setCell (p := ⟨g, 1, none⟩) h.lo _, h.vr0⟩

/-- What the methods leave: an answer, and a reader that goes on. -/
def RPost (a : Value) (w : World) (w0 : World) (g : Nat) (u nm : ByteArray) (v : Value) (l : List (ByteArray × ByteArray)) (e : Ending) (w' : World) : Prop := e = .returned a ∧ RS w0 g u nm v l w' ∧ w.grownBy w' (some g)
theorem gn_refl (w : World) (g : Nat) : w.grownBy w (some g) := ⟨rfl, rfl, rfl, Nat.le_refl _, fun _ _ _ => rfl⟩
theorem gn_trans {a b c : World} {g : Nat} (h : a.grownBy b (some g)) (k : b.grownBy c (some g)) : a.grownBy c (some g) :=
  ⟨k.os.trans h.os, k.tape.trans h.tape, k.output.trans h.output, Nat.le_trans h.size k.size, fun i hi hne => (k.block i (Nat.lt_of_lt_of_le hi h.size) hne).trans (h.block i hi hne)⟩
theorem gn_below {w w' : World} (g : Nat) (h : Below w.heap.size w w') : w.grownBy w' (some g) := ⟨h.os, h.tape, h.output, h.size, fun k hk _ => h.block k hk⟩
theorem gn_set {w w' : World} {g : Nat} (h : w.grownBy w' (some g)) (j : Nat) (x : Value) : w.grownBy (w'.setCell ⟨g, j, none⟩ x) (some g) :=
  ⟨h.os, h.tape, h.output, by simpa [World.setCell] using h.size, fun k hk hne => (Below.heap_setCell _ _ _ _ (fun e => hne (by rw [e]))).trans (h.block k hk hne)⟩

set_option maxHeartbeats 1000000 in
set_option maxRecDepth 100000 in
theorem done_any (w0 : World) (g : Nat) (u nm : ByteArray) (v : Value) (l : List (ByteArray × ByteArray)) (w : World) (h : RS w0 g u nm v l w) (b : Bool) (hb : decide (u.size = 0) = b) :
    Calls Tryz.prog 82 #[.pointer (some ⟨g, 0, none⟩)] w (RPost (.bool b) w w0 g u nm v l) := by
  have HS := Lib.hid h
  have c0 := h.c0
  have hq : u.toList.isEmpty = b := (Nz.isE u).trans hb
  clear h hb
  go_enter Tryz.func82, Tryz.ntmps82
  go_wp2
  go_ret
  exact ⟨rfl, HS.out, gn_refl _ _⟩

/-- strings.TrimLeft of blanks. -/
theorem blk_of (b : UInt8) : ([9, 10, 13, 32] : List UInt8).contains b = blk? (b.toNat : Int) := by
  unfold blk?
  have e : ∀ n : Nat, n < 256 → ([9, 10, 13, 32] : List UInt8).contains (UInt8.ofNat n) = decide (Blank (n : Int)) := by decide +kernel
  have := e b.toNat b.toNat_lt
  rwa [UInt8.ofNat_toNat] at this
theorem trim_bytes : ∀ (l : List UInt8), ((l.dropWhile ([9, 10, 13, 32] : List UInt8).contains).map fun b => (b.toNat : Int)) = (l.map fun b => (b.toNat : Int)).drop ((l.map fun b => (b.toNat : Int)).takeWhile blk?).length
  | [] => rfl
  | b :: l => by
    by_cases h : blk? (b.toNat : Int) = true
    · rw [List.dropWhile_cons_of_pos (by rw [blk_of]; exact h), trim_bytes l, List.map_cons, List.takeWhile_cons_of_pos h, List.length_cons, List.drop_succ_cons]
    · rw [List.dropWhile_cons_of_neg (by rw [blk_of]; exact h), List.map_cons, List.takeWhile_cons_of_neg h, List.length_nil, List.drop_zero]
theorem trim_is (u : ByteArray) : (⟨(Lib.trimLeftS u.data.toList (⟨#[9, 10, 13, 32]⟩ : ByteArray).data.toList).toArray⟩ : ByteArray) = sk u := by
  apply byts_inj
  unfold sk
  rw [byts_fr]
  exact trim_bytes u.data.toList
theorem trim_any (u : ByteArray) (w : World) : Calls Tryz.prog 108 #[.string u, .string ⟨#[9, 10, 13, 32]⟩] w fun e w' => e = .returned (.string (sk u)) ∧ Below w.heap.size w w' := by
  rw [← trim_is u]
  exact Tryz.strings_TrimLeft_laid u ⟨#[9, 10, 13, 32]⟩ w (by decide) (ascii_of_all (by decide))

set_option maxHeartbeats 1000000 in
set_option maxRecDepth 100000 in
theorem skip_any (w0 : World) (g : Nat) (u nm : ByteArray) (v : Value) (l : List (ByteArray × ByteArray)) (w : World) (h : RS w0 g u nm v l w) (hs : u.size ≤ 1000000) (b : Bool) (hb : decide (bk u ≠ 0) = b) :
    Calls Tryz.prog 81 #[.pointer (some ⟨g, 0, none⟩)] w (RPost (.bool b) w w0 g (sk u) nm v l) := by
  have HS := Lib.hid h
  have c0 := h.c0
  have CT := Lib.hid (trim_any u)
  have hq : decide ((sk u).size < u.size) = b := by
    rw [← hb, sk_size]
    have := bk_le u
    rw [decide_eq_decide]
    omega
  have hle : (sk u).size ≤ u.size := by rw [sk_size]; omega
  generalize sk u = u' at *
  clear h hb
  go_enter Tryz.func81, Tryz.ntmps81
  go_wp2_with fail
  refine (CT.out _).mono ?_
  rintro e w1 ⟨rfl, hb1⟩
  have HS1 := Lib.hid (HS.out.after hb1)
  have d0 := HS1.out.c0
  have f0 := HS1.out.fz 0
  have G1 := Lib.hid (gn_below g hb1)
  clear hb1 HS CT c0
  go_wp2
  go_ret
  exact ⟨rfl, HS1.out.left u', gn_set G1.out _ _⟩

set_option maxHeartbeats 1000000 in
set_option maxRecDepth 100000 in
theorem mark_of (w0 : World) (g : Nat) (u u' nm m : ByteArray) (b : Bool) (v : Value) (l : List (ByteArray × ByteArray)) (w : World) (h : RS w0 g u nm v l w)
    (C : Hid (∀ w, Calls Tryz.prog 47 #[.string u, .string m] w fun e w' => e = .returned (.tuple #[.string u', .bool b]) ∧ w = w')) :
    Calls Tryz.prog 136 #[.pointer (some ⟨g, 0, none⟩), .string m] w (RPost (.bool b) w w0 g u' nm v l) := by
  have HS := Lib.hid h
  have c0 := h.c0
  have f0 := h.fz 0
  clear h
  go_enter Tryz.func136, Tryz.ntmps136
  go_wp2_with fail
  refine (C.out _).mono ?_
  rintro e w1 ⟨rfl, rfl⟩
  clear C
  go_wp2
  go_ret
  exact ⟨rfl, HS.out.left u', gn_set (gn_refl _ _) _ _⟩
theorem mark_yes (w0 : World) (g : Nat) (u nm : ByteArray) (c : UInt8) (v : Value) (l : List (ByteArray × ByteArray)) (w : World) (h : RS w0 g u nm v l w) (hc : c.toNat ≠ 0) (hh : hd u = (c.toNat : Int)) :
    Calls Tryz.prog 136 #[.pointer (some ⟨g, 0, none⟩), .string ⟨#[c]⟩] w (RPost (.bool true) w w0 g (Nz.fr u 1) nm v l) :=
  mark_of w0 g u (Nz.fr u 1) nm _ true v l w h (Lib.hid fun w => cp_yes u c hc hh w)
theorem mark_no (w0 : World) (g : Nat) (u nm : ByteArray) (c : UInt8) (v : Value) (l : List (ByteArray × ByteArray)) (w : World) (h : RS w0 g u nm v l w) (hh : hd u ≠ (c.toNat : Int)) :
    Calls Tryz.prog 136 #[.pointer (some ⟨g, 0, none⟩), .string ⟨#[c]⟩] w (RPost (.bool false) w w0 g u nm v l) :=
  mark_of w0 g u u nm _ false v l w h (Lib.hid fun w => cp_no u c hh w)

set_option maxHeartbeats 1000000 in
set_option maxRecDepth 100000 in
theorem sclone_any (s : ByteArray) (w : World) (hs : s.size ≤ 1000000) : Calls Tryz.prog 90 #[.string s] w fun e w' => e = .returned (.string s) ∧ Below w.heap.size w w' := by
  have C := Lib.hid (fun w => clone_any s w hs)
  go_enter Tryz.func90, Tryz.ntmps90
  go_wp2_with fail
  refine (C.out _).mono ?_
  rintro e w1 ⟨rfl, hb⟩
  go_wp2
  go_ret
  exact ⟨rfl, hb⟩

set_option maxHeartbeats 1000000 in
set_option maxRecDepth 100000 in
theorem name_no (w0 : World) (g : Nat) (u nm : ByteArray) (v : Value) (l : List (ByteArray × ByteArray)) (w : World) (h : RS w0 g u nm v l w) (hs : u.size ≤ 1000000) (hn : isN (Nz.sx u 0) = false) :
    Calls Tryz.prog 80 #[.pointer (some ⟨g, 0, none⟩)] w (RPost (.tuple #[.string ⟨#[]⟩, .int .i64 4]) w w0 g u nm v l) := by
  have HS := Lib.hid h
  have c0 := h.c0
  have CC := Lib.hid (fun w => Nz.cut_any u 0 hs (Nat.zero_le _) w)
  have hz := sx_le u
  have CS := Lib.hid (fun w => Nz.split_any (Nz.sx u 0) (by omega) w)
  unfold isN at hn
  rw [hn] at CS
  generalize Nz.sn u 0 = n at *
  generalize Nz.sx u 0 = x at *
  generalize (Nz.splitA x).1 = p at *
  generalize (Nz.splitA x).2.1 = q at *
  clear h hn hz
  go_enter Tryz.func80, Tryz.ntmps80
  go_wp2_with fail
  refine (CC.out _).mono ?_
  rintro e w1 ⟨rfl, hb1⟩
  have HS1 := Lib.hid (HS.out.after hb1)
  have G1 := Lib.hid (gn_below g hb1)
  clear hb1 HS CC c0
  go_wp2_with fail
  refine (CS.out _).mono ?_
  rintro e w2 ⟨rfl, hb2⟩
  have HS2 := Lib.hid (HS1.out.after hb2)
  have G2 := Lib.hid (gn_trans G1.out (gn_below g hb2))
  clear hb2 HS1 CS
  go_wp2
  go_ret2
  exact ⟨rfl, HS2.out, G2.out⟩
set_option maxHeartbeats 1000000 in
set_option maxRecDepth 100000 in
theorem name_yes (w0 : World) (g : Nat) (u nm : ByteArray) (v : Value) (l : List (ByteArray × ByteArray)) (w : World) (h : RS w0 g u nm v l w) (hs : u.size ≤ 1000000) (hn : isN (Nz.sx u 0) = true) :
    Calls Tryz.prog 80 #[.pointer (some ⟨g, 0, none⟩)] w (RPost (.tuple #[.string (Nz.sx u 0), .int .i64 0]) w w0 g (Nz.fr u (Nz.sn u 0)) nm v l) := by
  have HS := Lib.hid h
  have c0 := h.c0
  have CC := Lib.hid (fun w => Nz.cut_any u 0 hs (Nat.zero_le _) w)
  have hz := sx_le u
  have CS := Lib.hid (fun w => Nz.split_any (Nz.sx u 0) (by omega) w)
  have CL := Lib.hid (fun w => sclone_any (Nz.sx u 0) w (by omega))
  have hle := Nz.sn_le u 0
  have HF : Hid (Nz.fr u (Nz.sn u 0) = u.extract (Nz.sn u 0) u.size) := Lib.hid rfl
  unfold isN at hn
  rw [hn] at CS
  generalize Nz.fr u (Nz.sn u 0) = t at *
  generalize Nz.sn u 0 = n at *
  generalize Nz.sx u 0 = x at *
  generalize (Nz.splitA x).1 = p at *
  generalize (Nz.splitA x).2.1 = q at *
  have i1 : (0 : Int) ≤ (n : Int) := by omega
  have i2 : (n : Int) ≤ (u.size : Int) := by omega
  clear h hn hz
  go_enter Tryz.func80, Tryz.ntmps80
  go_wp2_with fail
  refine (CC.out _).mono ?_
  rintro e w1 ⟨rfl, hb1⟩
  have HS1 := Lib.hid (HS.out.after hb1)
  have G1 := Lib.hid (gn_below g hb1)
  clear hb1 HS CC c0
  go_wp2_with fail
  refine (CS.out _).mono ?_
  rintro e w2 ⟨rfl, hb2⟩
  have HS2 := Lib.hid (HS1.out.after hb2)
  have c2 := HS2.out.c0
  have f2 := HS2.out.fz 0
  have G2 := Lib.hid (gn_trans G1.out (gn_below g hb2))
  clear hb2 HS1 CS
  go_wp2_with fail
  refine (CL.out _).mono ?_
  rintro e w3 ⟨rfl, hb3⟩
  have HS3 := Lib.hid ((HS2.out.left (u.extract n u.size)).after hb3)
  have G3 := Lib.hid (gn_trans (gn_set G2.out 0 (.string (u.extract n u.size))) (gn_below g hb3))
  clear hb3 HS2 CL c2 f2
  go_wp2
  go_ret2
  rw [HF.out]
  exact ⟨rfl, HS3.out, G3.out⟩
end Go.Proofs.YtkeilgompipfjaaGreatDoor.Tg

/- Where a quote stands; strings.Cut at a quote. -/
set_option linter.unusedSimpArgs false
set_option linter.unusedVariables false
namespace Go.Proofs.YtkeilgompipfjaaGreatDoor.Tg
open Go.RowKit

theorem ibq (q : UInt8) : ∀ (l : List UInt8), (Lib.indexByte l q = -1 ∧ q ∉ l) ∨ ∃ i : Nat, Lib.indexByte l q = i ∧ i < l.length ∧ l[i]? = some q ∧ ∀ j, j < i → l[j]? ≠ some q
  | [] => .inl ⟨rfl, by simp⟩
  | b :: l => by
    unfold Lib.indexByte
    by_cases hb : b = q
    · subst hb
      exact .inr ⟨0, by simp, by simp, by simp, by simp⟩
    · have hb1 : (b == q) = false := by simpa using hb
      rw [hb1]
      rcases ibq q l with ⟨h1, h2⟩ | ⟨i, h1, h2, h3, h4⟩
      · refine .inl ⟨by rw [h1]; rfl, ?_⟩
        rw [List.mem_cons]
        rintro (h | h)
        · exact hb h.symm
        · exact h2 h
      · refine .inr ⟨i + 1, ?_, by simp; omega, by simpa using h3, ?_⟩
        · rw [h1]
          have : (((i : Int)) == -1) = false := by rw [beq_eq_false_iff_ne]; omega
          simp [this]
        · intro j hj
          cases j with
          | zero => simpa using hb
          | succ j => simpa using h4 j (by omega)
theorem byt_q (u : ByteArray) (q : UInt8) (j : Nat) (hj : j < u.size) : (byts u).getD j 0 = (q.toNat : Int) ↔ u.data.toList[j]? = some q := by
  have hl : j < u.data.toList.length := by rw [← Lib.size_eq]; exact hj
  unfold byts
  rw [List.getD_eq_getElem?_getD, List.getElem?_map, List.getElem?_eq_getElem hl]
  simp only [Option.map_some, Option.getD_some, Option.some.injEq]
  constructor
  · intro h
    exact UInt8.toNat_inj.1 (by omega)
  · intro h
    rw [h]
theorem qi_cases (q : UInt8) (u : ByteArray) : (qi q u = -1 ∧ ∀ j, j < u.size → (byts u).getD j 0 ≠ (q.toNat : Int)) ∨ ∃ i : Nat, qi q u = i ∧ i < u.size ∧ (byts u).getD i 0 = (q.toNat : Int) ∧ ∀ j, j < i → (byts u).getD j 0 ≠ (q.toNat : Int) := by
  rcases ibq q u.data.toList with ⟨h1, h2⟩ | ⟨i, h1, h2, h3, h4⟩
  · refine .inl ⟨h1, fun j hj e => h2 ?_⟩
    exact List.mem_of_getElem? ((byt_q u q j hj).1 e)
  · have hi : i < u.size := by rw [Lib.size_eq]; exact h2
    exact .inr ⟨i, h1, hi, (byt_q u q i hi).2 h3, fun j hj e => h4 j hj ((byt_q u q j (by omega)).1 e)⟩
theorem qi_none (q : UInt8) (u : ByteArray) (h : ∀ j, j < u.size → (byts u).getD j 0 ≠ (q.toNat : Int)) : qi q u = -1 := by
  rcases qi_cases q u with ⟨h1, _⟩ | ⟨i, _, h2, h3, _⟩
  · exact h1
  · exact absurd h3 (h i h2)
theorem qi_some (q : UInt8) (u : ByteArray) (i : Nat) (hi : i < u.size) (he : (byts u).getD i 0 = (q.toNat : Int)) (h : ∀ j, j < i → (byts u).getD j 0 ≠ (q.toNat : Int)) : qi q u = i := by
  rcases qi_cases q u with ⟨h1, h2⟩ | ⟨k, h1, h2, h3, h4⟩
  · exact absurd he (h2 i hi)
  · have : k = i := by
      rcases Nat.lt_trichotomy k i with hlt | heq | hgt
      · exact absurd h3 (h k hlt)
      · exact heq
      · exact absurd he (h4 i hgt)
    rw [h1, this]
set_option maxHeartbeats 1000000 in
set_option maxRecDepth 100000 in
theorem idx_any34 (s : ByteArray) (w : World) :
    Calls Tryz.prog 76 #[.string s, .string ⟨#[34]⟩] w fun e w' => e = .returned (.int .i64 (qi 34 s)) ∧ w = w' := by
  go_enter Tryz.func76, Tryz.ntmps76
  go_wp2_with (go_at_call 101; refine (idxb_any _ _ _).mono ?_; rintro e w' ⟨rfl, rfl⟩)
  · have h : ([34] == s.toList) = true := by assumption
    go_ret
    refine ⟨?_, rfl⟩
    have e : s.data.toList = [34] := by rw [← Lib.toList_data]; exact (beq_iff_eq.1 h).symm
    unfold qi
    rw [e]
    rfl
  · go_ret
    exact ⟨rfl, rfl⟩

set_option maxHeartbeats 1000000 in
set_option maxRecDepth 100000 in
theorem lcut_hit34 (s : ByteArray) (i : Nat) (h : qi 34 s = i) (hi : i < s.size) (hs : s.size ≤ 1000000) (w : World) :
    Calls Tryz.prog 140 #[.string s, .string ⟨#[34]⟩] w fun e w' => e = .returned (.tuple #[.string (s.extract 0 i), .string (s.extract (i + 1) s.size), .bool true]) ∧ Below w.heap.size w w' := by
  have CI := Lib.hid (idx_any34 s)
  rw [h] at CI
  clear h
  have c1 : (0 : Int) ≤ (i : Int) := by omega
  have c2 : (i : Int) ≤ (s.size : Int) := by omega
  have c3 : (0 : Int) ≤ (i : Int) + 1 := by omega
  have c4 : (i : Int) + 1 ≤ (s.size : Int) := by omega
  have c5 : decide ((0 : Int) ≤ (i : Int)) = true := by simp
  have q3 : ((i : Int) + 1).toNat = i + 1 := by omega
  have q2 : IntKind.i64.wrap ((i : Int) + 1) = (i : Int) + 1 := IntWalk.i64_in _ (by omega)
  go_enter Tryz.func140, Tryz.ntmps140
  go_wp2_with (go_at_call 76; refine (CI.out _).mono ?_; rintro e w' ⟨rfl, rfl⟩)
  go_quiet (fail)
  go_wp2
  go_ret3
  exact ⟨rfl, below_drewN (Below.refl _ _) _⟩

set_option maxHeartbeats 1000000 in
set_option maxRecDepth 100000 in
theorem lcut_miss34 (s : ByteArray) (h : qi 34 s = -1) (w : World) :
    Calls Tryz.prog 140 #[.string s, .string ⟨#[34]⟩] w fun e w' => e = .returned (.tuple #[.string s, .string ⟨#[]⟩, .bool false]) ∧ Below w.heap.size w w' := by
  have CI := Lib.hid (idx_any34 s)
  rw [h] at CI
  clear h
  go_enter Tryz.func140, Tryz.ntmps140
  go_wp2_with (go_at_call 76; refine (CI.out _).mono ?_; rintro e w' ⟨rfl, rfl⟩)
  go_ret3
  exact ⟨rfl, Below.refl _ _⟩

set_option maxHeartbeats 1000000 in
set_option maxRecDepth 100000 in
theorem scut_hit34 (s : ByteArray) (i : Nat) (h : qi 34 s = i) (hi : i < s.size) (hs : s.size ≤ 1000000) (w : World) :
    Calls Tryz.prog 112 #[.string s, .string ⟨#[34]⟩] w fun e w' => e = .returned (.tuple #[.string (s.extract 0 i), .string (s.extract (i + 1) s.size), .bool true]) ∧ Below w.heap.size w w' := by
  have CL := Lib.hid (lcut_hit34 s i h hi hs)
  clear h hi hs
  go_enter Tryz.func112, Tryz.ntmps112
  go_wp2_with (go_at_call 140; refine (CL.out _).mono ?_; rintro e w' ⟨rfl, hb⟩)
  go_ret3
  exact ⟨rfl, hb⟩
set_option maxHeartbeats 1000000 in
set_option maxRecDepth 100000 in
theorem scut_miss34 (s : ByteArray) (h : qi 34 s = -1) (w : World) :
    Calls Tryz.prog 112 #[.string s, .string ⟨#[34]⟩] w fun e w' => e = .returned (.tuple #[.string s, .string ⟨#[]⟩, .bool false]) ∧ Below w.heap.size w w' := by
  have CL := Lib.hid (lcut_miss34 s h)
  clear h
  go_enter Tryz.func112, Tryz.ntmps112
  go_wp2_with (go_at_call 140; refine (CL.out _).mono ?_; rintro e w' ⟨rfl, hb⟩)
  go_ret3
  exact ⟨rfl, hb⟩
set_option maxHeartbeats 1000000 in
set_option maxRecDepth 100000 in
theorem idx_any39 (s : ByteArray) (w : World) :
    Calls Tryz.prog 76 #[.string s, .string ⟨#[39]⟩] w fun e w' => e = .returned (.int .i64 (qi 39 s)) ∧ w = w' := by
  go_enter Tryz.func76, Tryz.ntmps76
  go_wp2_with (go_at_call 101; refine (idxb_any _ _ _).mono ?_; rintro e w' ⟨rfl, rfl⟩)
  · have h : ([39] == s.toList) = true := by assumption
    go_ret
    refine ⟨?_, rfl⟩
    have e : s.data.toList = [39] := by rw [← Lib.toList_data]; exact (beq_iff_eq.1 h).symm
    unfold qi
    rw [e]
    rfl
  · go_ret
    exact ⟨rfl, rfl⟩

set_option maxHeartbeats 1000000 in
set_option maxRecDepth 100000 in
theorem lcut_hit39 (s : ByteArray) (i : Nat) (h : qi 39 s = i) (hi : i < s.size) (hs : s.size ≤ 1000000) (w : World) :
    Calls Tryz.prog 140 #[.string s, .string ⟨#[39]⟩] w fun e w' => e = .returned (.tuple #[.string (s.extract 0 i), .string (s.extract (i + 1) s.size), .bool true]) ∧ Below w.heap.size w w' := by
  have CI := Lib.hid (idx_any39 s)
  rw [h] at CI
  clear h
  have c1 : (0 : Int) ≤ (i : Int) := by omega
  have c2 : (i : Int) ≤ (s.size : Int) := by omega
  have c3 : (0 : Int) ≤ (i : Int) + 1 := by omega
  have c4 : (i : Int) + 1 ≤ (s.size : Int) := by omega
  have c5 : decide ((0 : Int) ≤ (i : Int)) = true := by simp
  have q3 : ((i : Int) + 1).toNat = i + 1 := by omega
  have q2 : IntKind.i64.wrap ((i : Int) + 1) = (i : Int) + 1 := IntWalk.i64_in _ (by omega)
  go_enter Tryz.func140, Tryz.ntmps140
  go_wp2_with (go_at_call 76; refine (CI.out _).mono ?_; rintro e w' ⟨rfl, rfl⟩)
  go_quiet (fail)
  go_wp2
  go_ret3
  exact ⟨rfl, below_drewN (Below.refl _ _) _⟩

set_option maxHeartbeats 1000000 in
set_option maxRecDepth 100000 in
theorem lcut_miss39 (s : ByteArray) (h : qi 39 s = -1) (w : World) :
    Calls Tryz.prog 140 #[.string s, .string ⟨#[39]⟩] w fun e w' => e = .returned (.tuple #[.string s, .string ⟨#[]⟩, .bool false]) ∧ Below w.heap.size w w' := by
  have CI := Lib.hid (idx_any39 s)
  rw [h] at CI
  clear h
  go_enter Tryz.func140, Tryz.ntmps140
  go_wp2_with (go_at_call 76; refine (CI.out _).mono ?_; rintro e w' ⟨rfl, rfl⟩)
  go_ret3
  exact ⟨rfl, Below.refl _ _⟩

set_option maxHeartbeats 1000000 in
set_option maxRecDepth 100000 in
theorem scut_hit39 (s : ByteArray) (i : Nat) (h : qi 39 s = i) (hi : i < s.size) (hs : s.size ≤ 1000000) (w : World) :
    Calls Tryz.prog 112 #[.string s, .string ⟨#[39]⟩] w fun e w' => e = .returned (.tuple #[.string (s.extract 0 i), .string (s.extract (i + 1) s.size), .bool true]) ∧ Below w.heap.size w w' := by
  have CL := Lib.hid (lcut_hit39 s i h hi hs)
  clear h hi hs
  go_enter Tryz.func112, Tryz.ntmps112
  go_wp2_with (go_at_call 140; refine (CL.out _).mono ?_; rintro e w' ⟨rfl, hb⟩)
  go_ret3
  exact ⟨rfl, hb⟩
set_option maxHeartbeats 1000000 in
set_option maxRecDepth 100000 in
theorem scut_miss39 (s : ByteArray) (h : qi 39 s = -1) (w : World) :
    Calls Tryz.prog 112 #[.string s, .string ⟨#[39]⟩] w fun e w' => e = .returned (.tuple #[.string s, .string ⟨#[]⟩, .bool false]) ∧ Below w.heap.size w w' := by
  have CL := Lib.hid (lcut_miss39 s h)
  clear h
  go_enter Tryz.func112, Tryz.ntmps112
  go_wp2_with (go_at_call 140; refine (CL.out _).mono ?_; rintro e w' ⟨rfl, hb⟩)
  go_ret3
  exact ⟨rfl, hb⟩
end Go.Proofs.YtkeilgompipfjaaGreatDoor.Tg
