/-
  Merged by program out of the texts WdAwk, WdMap, WdNamed, WdAttr, WdRight, WdAllow, WdWc of one seat.
-/
import Derived.Test.YtkeilgompipfjaaGreatDoorG22
import Derived.Test.YtkeilgompipfjaaGreatDoorG21
import Derived.Test.YtkeilgompipfjaaGreatDoorG03
import Derived.Test.YtkeilgompipfjaaGreatDoorG02
import Derived.WideKeyEntry
import Derived.DeepKeys4
import Derived.Laws.OwnMore

/- awake: answers that the document fixes. -/
set_option linter.unusedSimpArgs false
set_option linter.unusedVariables false
namespace Go.Proofs.YtkeilgompipfjaaGreatDoor.Ev
open Go.RowKit

/-- The text x. -/
def txE : RE := ⟨2, emB, emB, [], ⟨#[120]⟩⟩
theorem awk_dep {pL tR : ByteArray → Bool} (h1 : rightF pL tR opE = true) (h2 : rightF pL tR txE = true) : depF pL tR [opE, txE] = 1 := by
  show depR _ true 0 0 _ = 1
  rw [depR, if_neg (by rw [h1]; rintro (h | h | h); cases h; exact h rfl; exact h.2 rfl), if_neg (by rintro ⟨h, _⟩; cases h)]
  show (if (64 : Int) < (if (1 : Int) = 1 then 0 + 1 else _) then _ else _) = _
  rw [if_pos rfl, if_neg (by decide), depR, if_neg (by rw [h2]; rintro (h | h | h); cases h; exact h rfl; cases h.1), if_neg (by rintro ⟨_, h⟩; cases h)]
  rfl
theorem awk_one {pL tR : ByteArray → Bool} : depF pL tR [txE] = -1 := by
  show depR _ true 0 0 _ = -1
  rw [depR, if_pos (.inr (.inr ⟨rfl, by decide⟩))]
theorem evsNil (W : World) : EvsIn W none 0 0 [] := ⟨rfl, Nat.zero_le _, Nat.zero_le _, fun x hx => by simp at hx, fun j x hx => by simp at hx, fun _ => ⟨rfl, rfl⟩, ⟨Nat.le_refl _, Nat.zero_le _⟩⟩
theorem awk_sz : RSz opE ∧ RSz txE ∧ RgB opE ∧ RgB txE := ⟨⟨by decide, by decide, by decide⟩, ⟨by decide, by decide, by decide⟩, ⟨by decide, by decide, by decide, fun _ y hy => by cases hy⟩, ⟨by decide, by decide, by decide, fun _ y hy => by cases hy⟩⟩
def Awc : Array Value := #[.int .i64 1, .string ⟨#[]⟩, .string ⟨#[97]⟩, .slice none 0 0, .string ⟨#[]⟩, .int .i64 2, .string ⟨#[]⟩, .string ⟨#[]⟩, .slice none 0 0, .string ⟨#[120]⟩]
theorem awk_two {W : World} {b : Nat} (h : W.heap[b]? = some (.cells Awc 33 (0, 0))) : EvsIn W (some ⟨b, 0, none⟩) 2 2 [opE, txE] := two_in (x := opE) (y := txE) h (attsNil W) (attsNil W) awk_sz.1 awk_sz.2.1
theorem awk_tail {W : World} {b : Nat} (h : W.heap[b]? = some (.cells Awc 33 (0, 0))) : EvsIn W (some ⟨b, 5, none⟩) 1 1 [txE] :=
  ⟨rfl, by decide, by decide, fun z hz => by simp only [List.mem_cons, List.not_mem_nil, or_false] at hz; rw [hz]; exact awk_sz.2.1, fun k z hk => by
    have hb := (Array.getElem?_eq_some_iff.1 h).1
    match k, hk with
    | 0, hk =>
      injection hk with hk
      subst hk
      exact ⟨b, 5, none, 0, 0, rfl, hb, attsNil W, cells_of h 5 rfl, cells_of h 6 rfl, cells_of h 7 rfl, cells_of h 8 rfl, cells_of h 9 rfl⟩
    | k + 1, hk => simp at hk, (fun h => by cases h), ⟨Nat.le_refl _, by decide⟩⟩
structure AwX (w : World) (W : World) : Prop where
  blk : W.heap[w.heap.size]? = some (.cells Awc 33 (0, 0))
  bel : Below w.heap.size w W
theorem AwX.keep {w W W' : World} (h : AwX w W) (hb : Below W.heap.size W W') : AwX w W' := ⟨(hb.block _ (Array.getElem?_eq_some_iff.1 h.blk).1).trans h.blk, h.bel.trans (hb.mono h.bel.size)⟩
theorem own_len {W : World} {B n : Nat} {e : TypeId} {z : Nat} {v : Value} {xs : List Value} (h : W.ownsRow B e z v n xs) : ∃ A c, v = .slice A n c := by
  rcases h.2 with ⟨rfl, rfl⟩ | ⟨g, cap, cur, rfl, _⟩
  · exact ⟨none, 0, rfl⟩
  · exact ⟨_, _, rfl⟩
set_option maxHeartbeats 4000000 in
set_option maxRecDepth 100000 in
theorem awake_c {pL tR : ByteArray → Bool} (C : Hid (MsC pL tR)) (h1 : rightF pL tR opE = true) (h2 : rightF pL tR txE = true) (w : World) :
    Calls Tryz.prog 4 #[] w fun e w' => e = .returned (.bool true) ∧ Below w.heap.size w w' := by
  have hd := awk_dep h1 h2
  have hB : ∀ x ∈ [opE, txE], RgB x := fun x hx => by
    simp only [List.mem_cons, List.not_mem_nil, or_false] at hx
    rcases hx with rfl | rfl
    · exact awk_sz.2.2.1
    · exact awk_sz.2.2.2
  have hB1 : ∀ x ∈ [txE], RgB x := fun x hx => hB x (List.mem_cons_of_mem _ hx)
  have hB0 : ∀ x ∈ ([] : List RE), RgB x := fun x hx => by cases hx
  have C14 : Hid (∀ W, AwX w W → Calls Tryz.prog 6 #[.slice (some ⟨w.heap.size, 0, none⟩) 2 2] W fun e w' => e = .returned (.bool true) ∧ Below W.heap.size W w') := Lib.hid fun W h => by
    have := begins_c C _ 2 2 _ W (awk_two h.blk) (by decide) hB
    rw [hd] at this
    exact this
  have C14n : Hid (∀ W, Calls Tryz.prog 6 #[.slice none 0 0] W fun e w' => e = .returned (.bool true) ∧ Below W.heap.size W w') := Lib.hid fun W => begins_c C _ 0 0 _ W (evsNil W) (by decide) hB0
  have C14t : Hid (∀ W, AwX w W → Calls Tryz.prog 6 #[.slice (some ⟨w.heap.size, 5, none⟩) 1 1] W fun e w' => e = .returned (.bool false) ∧ Below W.heap.size W w') := Lib.hid fun W h => by
    have := begins_c C _ 1 1 _ W (awk_tail h.blk) (by decide) hB1
    rw [awk_one] at this
    exact this
  have C15 : Hid (∀ W, AwX w W → Calls Tryz.prog 7 #[.slice (some ⟨w.heap.size, 0, none⟩) 2 2] W fun e w' => e = .returned (.bool false) ∧ Below W.heap.size W w') := Lib.hid fun W h => by
    have := whole_c C _ 2 2 _ W (awk_two h.blk) (by decide) hB
    rw [hd] at this
    exact this
  have C16 : Hid (∀ W, AwX w W → Calls Tryz.prog 8 #[.slice (some ⟨w.heap.size, 0, none⟩) 2 2] W fun e w' => e = .returned (.int .i64 1) ∧ Below W.heap.size W w') := Lib.hid fun W h => by
    have := depth_c C _ 2 2 _ W (awk_two h.blk) (by decide) hB
    rw [hd] at this
    exact this
  have C17 : Hid (∀ W, AwX w W → Calls Tryz.prog 9 #[.slice (some ⟨w.heap.size, 0, none⟩) 2 2] W fun e w' => ∃ A c, e = .returned (.slice A 2 c) ∧ Below W.heap.size W w') := Lib.hid fun W h => by
    refine (nodes_c C _ 2 2 _ W (awk_two h.blk) (by decide) hB).mono ?_
    rintro e w' ⟨v, rfl, o, b⟩
    have hn : nodF pL tR [opE, txE] = [0, 1] := by unfold nodF; rw [hd]; rfl
    rw [hn] at o
    obtain ⟨A, c, rfl⟩ := own_len o
    exact ⟨A, c, rfl, b⟩
  have C18 : Hid (∀ W, AwX w W → Calls Tryz.prog 10 #[.slice (some ⟨w.heap.size, 0, none⟩) 2 2] W fun e w' => ∃ A c, e = .returned (.slice A 1 c) ∧ Below W.heap.size W w') := Lib.hid fun W h => by
    refine (closers_c C _ 2 2 _ W (awk_two h.blk) (by decide) hB).mono ?_
    rintro e w' ⟨v, rfl, o, b⟩
    have hn : cloF pL tR [opE, txE] = [clE] := by unfold cloF; rw [hd]; rfl
    rw [hn] at o
    obtain ⟨A, c, rfl⟩ := own_len o
    exact ⟨A, c, rfl, b⟩
  have C18n : Hid (∀ W, Calls Tryz.prog 10 #[.slice none 0 0] W fun e w' => ∃ A c, e = .returned (.slice A 2 c) ∧ Below W.heap.size W w') := Lib.hid fun W => by
    refine (closers_c C _ 0 0 _ W (evsNil W) (by decide) hB0).mono ?_
    rintro e w' ⟨v, rfl, o, b⟩
    have hn : cloF pL tR [] = [opE, clE] := rfl
    rw [hn] at o
    obtain ⟨A, c, rfl⟩ := own_len o
    exact ⟨A, c, rfl, b⟩
  have X : Hid (AwX w (w.alloc (.cells Awc 33))) := Lib.hid ⟨nblk w 33 _, (Below.refl _ w).alloc (Nat.le_refl _) _⟩
  unfold Awc at X
  clear hd hB hB1 hB0 C h1 h2
  go_enter Tryz.func4, Tryz.ntmps4
  go_wp2_with fail
  generalize w.alloc (.cells #[.int .i64 1, .string ⟨#[]⟩, .string ⟨#[97]⟩, .slice none 0 0, .string ⟨#[]⟩, .int .i64 2, .string ⟨#[]⟩, .string ⟨#[]⟩, .slice none 0 0, .string ⟨#[120]⟩] 33) = V at *
  refine (C14.out _ X.out).mono ?_
  rintro e w1 ⟨rfl, b1⟩
  replace X := Lib.hid (X.out.keep b1)
  clear b1
  go_wp2_with fail
  refine (C15.out _ X.out).mono ?_
  rintro e w2 ⟨rfl, b1⟩
  replace X := Lib.hid (X.out.keep b1)
  clear b1
  go_wp2_with fail
  refine (C16.out _ X.out).mono ?_
  rintro e w3 ⟨rfl, b1⟩
  replace X := Lib.hid (X.out.keep b1)
  clear b1
  go_wp2_with fail
  refine (C17.out _ X.out).mono ?_
  rintro e w4 ⟨A4, c4, rfl, b1⟩
  replace X := Lib.hid (X.out.keep b1)
  clear b1
  go_wp2_with fail
  refine (C18.out _ X.out).mono ?_
  rintro e w5 ⟨A5, c5, rfl, b1⟩
  replace X := Lib.hid (X.out.keep b1)
  clear b1
  go_wp2_with fail
  refine (C14n.out _).mono ?_
  rintro e w6 ⟨rfl, b1⟩
  replace X := Lib.hid (X.out.keep b1)
  clear b1
  go_wp2_with fail
  refine (C14t.out _ X.out).mono ?_
  rintro e w7 ⟨rfl, b1⟩
  replace X := Lib.hid (X.out.keep b1)
  clear b1
  go_wp2_with fail
  refine (C18n.out _).mono ?_
  rintro e w8 ⟨A8, c8, rfl, b1⟩
  replace X := Lib.hid (X.out.keep b1)
  clear b1
  go_wp2
  go_ret
  exact ⟨rfl, X.out.bel⟩
end Go.Proofs.YtkeilgompipfjaaGreatDoor.Ev

/- The map of names that were met: look-up, entry, store (after round 7). -/
set_option linter.unusedSimpArgs false
set_option linter.unusedVariables false
namespace Go.Proofs.YtkeilgompipfjaaGreatDoor.Ev
open Go.RowKit

open Go.ChangeMaps
def Lim : Nat := 140737488351232
theorem Tryz.laidOut : laidOutB Tryz.prog = true := by kernel_rfl
theorem Tryz.row30 : (30 : TypeId) < Tryz.prog.types.size := of_decide_eq_true (by kernel_rfl)
theorem Tryz.wideK : (match Tryz.prog.underlying 30 with | some (.array _ _) | some (.struct _) => true | _ => false) = true := by rw [Tryz.underlying30]
set_option maxRecDepth 100000 in
theorem lawK : WideMaps.KeyLaw Tryz.prog 30 := deep_law_laid Tryz.laidOut (m := 2) (by omega) Tryz.row30 (by kernel_rfl) Tryz.wideK
theorem Tryz.keyType30 : Tryz.prog.keyType 30 = true := by kernel_rfl
theorem Tryz.sizeT : Tryz.prog.types.size + 1 = 272 + 1 + 1 := by kernel_rfl
def kv (n : P2) : Value := .agg #[.string n.1, .string n.2]
theorem lits_str (d : Nat) (s : ByteArray) (h : s.size ≤ maxLen) : Tryz.prog.keyLits (d + 1) 9 [.string s] = some [.string s.data.toList] := by
  unfold Program.keyLits
  rw [Tryz.underlying9]
  simp only [h, if_true]
theorem lits_struct (P : Program) (d : Nat) (t : TypeId) (fs : Array Field) (cs : List Value) (h : P.underlying t = some (.struct fs)) (hl : cs.length = P.cellsOf t) (hn : fs.all (·.name != "_") = true) :
    P.keyLits (d + 1) t cs = (fs.toList.mapM fun f => P.keyLits d f.type ((cs.drop f.offset).take (P.cellsOf f.type))).map List.flatten := by
  conv => lhs; unfold Program.keyLits
  rw [h]
  simp only [hl, hn, and_self, if_true]
theorem lits_name (d : Nat) (a b : ByteArray) (g1 : a.size ≤ maxLen) (g2 : b.size ≤ maxLen) : Tryz.prog.keyLits (d + 1 + 1) 30 [.string a, .string b] = some [.string a.data.toList, .string b.data.toList] := by
  have e1 := lits_str d a g1
  have e2 := lits_str d b g2
  rw [lits_struct Tryz.prog (d + 1) 30 _ _ Tryz.underlying30 (by rw [Tryz.cells30]; rfl) (by simp)]
  generalize hq : Tryz.prog.keyLits (d + 1) = q at *
  simp [Tryz.cells30, Tryz.cells9, e1, e2]
theorem kv_key (n : P2) (h1 : n.1.size ≤ Lim) (h2 : n.2.size ≤ Lim) : ∃ kl, keyOf Tryz.prog 30 (kv n) = some kl := by
  have g1 : n.1.size ≤ maxLen := Nat.le_trans h1 (by unfold Lim maxLen; omega)
  have g2 : n.2.size ≤ maxLen := Nat.le_trans h2 (by unfold Lim maxLen; omega)
  have hf : (kv n).formed Tryz.prog 30 = true := by simp [Value.formed, kv, Tryz.underlying30, Tryz.cells30]
  obtain ⟨d, hd⟩ : ∃ d, Tryz.prog.types.size + 1 = d + 1 + 1 := ⟨_, Tryz.sizeT⟩
  have hl := lits_name d n.1 n.2 g1 g2
  rw [← hd] at hl
  have hc : (kv n).cells.toList = [.string n.1, .string n.2] := rfl
  refine ⟨.string (keyBytes [.string n.1.data.toList, .string n.2.data.toList]), ?_⟩
  unfold keyOf
  rw [Tryz.underlying30]
  show (if (Tryz.prog.keyType 30 && (kv n).formed Tryz.prog 30) = true then _ else _) = _
  rw [Tryz.keyType30, hf, Bool.and_self, if_pos rfl, hc, hl]
  rfl
theorem kv_inj {a b : P2} (h : kv a = kv b) : a = b := by
  unfold kv at h
  injection h with h
  have := congrArg Array.toList h
  simp at this
  exact Prod.ext this.1 this.2
/-- The map at block b: these names, each at 1. -/
def SeenM (w : World) (b : Nat) (l : List P2) : Prop :=
  (∀ n ∈ l, n.1.size ≤ Lim ∧ n.2.size ≤ Lim) ∧ ∃ es clock, w.heap[b]? = some (.map es clock) ∧ es.toList.map (·.key) = l.map kv ∧ (∀ e ∈ es.toList, e.val = .int .i64 1) ∧ (∀ e ∈ es.toList, e.born < clock)
theorem seen_new (w : World) : SeenM (w.alloc (.map #[] 0)) w.heap.size [] :=
  ⟨fun n hn => by simp at hn, #[], 0, heap_alloc_new w _, rfl, fun e he => by simp at he, fun e he => by simp at he⟩
theorem SeenM.lt {w : World} {b : Nat} {l : List P2} (h : SeenM w b l) : b < w.heap.size := by
  obtain ⟨_, es, clock, h, _⟩ := h
  exact (Array.getElem?_eq_some_iff.1 h).1
theorem SeenM.keep {w w' : World} {b : Nat} {l : List P2} (h : SeenM w b l) (hb : Below w.heap.size w w') : SeenM w' b l := by
  have hlt := h.lt
  obtain ⟨h1, es, clock, h2, h3⟩ := h
  exact ⟨h1, es, clock, (hb.block b hlt).trans h2, h3⟩
theorem SeenM.keepG {w w' : World} {b : Nat} {l : List P2} {row : Option Nat} (h : SeenM w b l) (hb : w.grownBy w' row) (hne : some b ≠ row) : SeenM w' b l := by
  have hlt := h.lt
  obtain ⟨h1, es, clock, h2, h3⟩ := h
  exact ⟨h1, es, clock, (hb.block b hlt hne).trans h2, h3⟩
theorem SeenM.ne {w : World} {b : Nat} {l : List P2} (h : SeenM w b l) {B : Nat} {e : TypeId} {z n : Nat} {v : Value} {xs : List Value} (ho : w.ownsRow B e z v n xs) : some b ≠ v.ownBlock := by
  obtain ⟨_, es, clock, h2, _⟩ := h
  rcases ho.2 with ⟨rfl, _⟩ | ⟨g, cap, cur, rfl, _, hg, _⟩
  · simp [Value.ownBlock]
  · intro hh
    simp only [Value.ownBlock, Option.some.injEq] at hh
    subst hh
    rw [hg] at h2
    cases h2
theorem grown_setBlock (w : World) (b : Nat) (o : Obj) : w.grownBy (setBlock w b o) (some b) :=
  ⟨rfl, rfl, rfl, by simp [setBlock], fun k hk hne => by
    have : k ≠ b := fun e => hne (by rw [e])
    simp [setBlock, Array.getElem?_setIfInBounds, Ne.symm this]⟩
theorem zero3 (w : World) : (zeroValue 3).run Tryz.prog w = .ok (.int .i64 0) w := by kernel_rfl
theorem key_mem {es : Array MapEntry} {l : List P2} (h : es.toList.map (·.key) = l.map kv) {n : P2} : (∃ e ∈ es.toList, e.key = kv n) ↔ n ∈ l := by
  constructor
  · rintro ⟨e, he, hk⟩
    have : kv n ∈ l.map kv := by rw [← h, ← hk]; exact List.mem_map_of_mem he
    obtain ⟨m, hm, hh⟩ := List.mem_map.1 this
    rw [← kv_inj hh]
    exact hm
  · intro hn
    have : kv n ∈ es.toList.map (·.key) := by rw [h]; exact List.mem_map_of_mem hn
    obtain ⟨e, he, hh⟩ := List.mem_map.1 this
    exact ⟨e, he, hh⟩
theorem keys_of {es : Array MapEntry} {l : List P2} (h : es.toList.map (·.key) = l.map kv) (hl : ∀ n ∈ l, n.1.size ≤ Lim ∧ n.2.size ≤ Lim) : ∀ e ∈ es.toList, ∃ kl, keyOf Tryz.prog 30 e.key = some kl := fun e he => by
  have : e.key ∈ l.map kv := by rw [← h]; exact List.mem_map_of_mem he
  obtain ⟨m, hm, hh⟩ := List.mem_map.1 this
  rw [← hh]
  exact kv_key m (hl m hm).1 (hl m hm).2
theorem seen_yes {w : World} {b : Nat} {l : List P2} (h : SeenM w b l) {n : P2} (hn : n ∈ l) : (Instr.lookup 88 (.map (some b)) (.agg #[.string n.1, .string n.2]) false).run Tryz.prog w = .ok (.int .i64 1) w := by
  obtain ⟨hl, es, clock, hb, hk, hv, _⟩ := h
  obtain ⟨kl, hkl⟩ := kv_key n (hl n hn).1 (hl n hn).2
  show (Instr.lookup 88 (.map (some b)) (kv n) false).run Tryz.prog w = _
  rcases lawK.find w hkl es.toList (keys_of hk hl) with ⟨_, h2⟩ | ⟨j, e0, h1, h2, h3⟩
  · obtain ⟨e, he, hh⟩ := (key_mem hk).2 hn
    exact absurd hh (h2 e he)
  · have := hv e0 (List.mem_of_getElem? h2)
    simp [Instr.lookup, run_underlying Tryz.underlying88, MapKept.run_getObj_map hb, lawK.check w _ hkl, h1, this, Result.andThen]
theorem seen_no {w : World} {b : Nat} {l : List P2} (h : SeenM w b l) {n : P2} (hn : ¬ n ∈ l) (z1 : n.1.size ≤ Lim) (z2 : n.2.size ≤ Lim) : (Instr.lookup 88 (.map (some b)) (.agg #[.string n.1, .string n.2]) false).run Tryz.prog w = .ok (.int .i64 0) w := by
  obtain ⟨hl, es, clock, hb, hk, hv, _⟩ := h
  obtain ⟨kl, hkl⟩ := kv_key n z1 z2
  show (Instr.lookup 88 (.map (some b)) (kv n) false).run Tryz.prog w = _
  rcases lawK.find w hkl es.toList (keys_of hk hl) with ⟨h1, h2⟩ | ⟨j, e0, h1, h2, h3⟩
  · simp [Instr.lookup, run_underlying Tryz.underlying88, MapKept.run_getObj_map hb, lawK.check w _ hkl, h1, zero3, Result.andThen]
  · exact absurd ((key_mem hk).1 ⟨e0, List.mem_of_getElem? h2, h3⟩) hn
theorem seen_put {w : World} {b : Nat} {l : List P2} (h : SeenM w b l) {n : P2} (hn : ¬ n ∈ l) (z1 : n.1.size ≤ Lim) (z2 : n.2.size ≤ Lim) :
    ∃ (st : Nat) (W1 W2 : World), (Instr.mapEntry 88 (.map (some b)) (.agg #[.string n.1, .string n.2])).run Tryz.prog w = .ok (.tuple #[.int .i64 0, .int .i64 (st : Int)]) W1 ∧
      (Instr.lookup 88 (.map (some b)) (.agg #[.string n.1, .string n.2]) false).run Tryz.prog W1 = .ok (.int .i64 0) W1 ∧
      (Instr.entryStore 88 (.map (some b)) (.int .i64 (st : Int)) (.int .i64 1)).run Tryz.prog W1 = .ok () W2 ∧ SeenM W2 b (l ++ [n]) ∧ w.grownBy W1 (some b) ∧ w.grownBy W2 (some b) := by
  obtain ⟨hl, es, clock, hb, hk, hv, hbo⟩ := h
  obtain ⟨kl, hkl⟩ := kv_key n z1 z2
  have hn2 : ∀ e ∈ es.toList, e.key ≠ kv n := fun e he hh => hn ((key_mem hk).1 ⟨e, he, hh⟩)
  have h1 : (Instr.findKey 30 (kv n) es.toList).run Tryz.prog w = .ok none w := by
    rcases lawK.find w hkl es.toList (keys_of hk hl) with ⟨h1, _⟩ | ⟨j, e0, _, h2, h3⟩
    · exact h1
    · exact absurd h3 (hn2 e0 (List.mem_of_getElem? h2))
  have hb1 : (setBlock w b (.map (es.push ⟨kv n, .int .i64 0, clock⟩) (clock + 1))).heap[b]? = some (.map (es.push ⟨kv n, .int .i64 0, clock⟩) (clock + 1)) := heap_setBlock_same hb _
  have hk1 : (es.push ⟨kv n, .int .i64 0, clock⟩).toList.map (·.key) = (l ++ [n]).map kv := by simp [hk]
  have hl1 : ∀ m ∈ l ++ [n], m.1.size ≤ Lim ∧ m.2.size ≤ Lim := fun m hm => by
    rcases List.mem_append.1 hm with hm | hm
    · exact hl m hm
    · rw [List.mem_singleton] at hm
      subst hm
      exact ⟨z1, z2⟩
  refine ⟨clock, setBlock w b (.map (es.push ⟨kv n, .int .i64 0, clock⟩) (clock + 1)), setBlock (setBlock w b (.map (es.push ⟨kv n, .int .i64 0, clock⟩) (clock + 1))) b (.map (es.push ⟨kv n, .int .i64 1, clock⟩) (clock + 1)), ?_, ?_, ?_, ⟨hl1, es.push ⟨kv n, .int .i64 1, clock⟩, clock + 1, heap_setBlock_same hb1 _, by simp [hk], ?_, ?_⟩, grown_setBlock _ _ _, ?_⟩
  · show (Instr.mapEntry 88 (.map (some b)) (kv n)).run Tryz.prog w = _
    simp [Instr.mapEntry, run_underlying Tryz.underlying88, MapKept.run_getObj_map hb, lawK.check w false hkl, h1, zero3, MapKept.run_setObj_map _ hb, Result.andThen, setBlock, goInt]
  · show (Instr.lookup 88 (.map (some b)) (kv n) false).run Tryz.prog _ = _
    rcases lawK.find (setBlock w b (.map (es.push ⟨kv n, .int .i64 0, clock⟩) (clock + 1))) hkl (es.push ⟨kv n, .int .i64 0, clock⟩).toList (keys_of hk1 hl1) with ⟨_, h2⟩ | ⟨j, e0, g1, g2, g3⟩
    · exact absurd rfl (h2 ⟨kv n, .int .i64 0, clock⟩ (by simp))
    · have : e0.val = .int .i64 0 := by
        have hm := List.mem_of_getElem? g2
        rw [Array.toList_push, List.mem_append, List.mem_singleton] at hm
        rcases hm with hm | hm
        · exact absurd g3 (hn2 e0 hm)
        · rw [hm]
      rw [this, Array.toList_push] at g1
      simp [Instr.lookup, run_underlying Tryz.underlying88, MapKept.run_getObj_map hb1, lawK.check _ _ hkl, g1, Result.andThen]
  · have hidx : (es.push ⟨kv n, .int .i64 0, clock⟩).findIdx? (fun e => ((e.born : Nat) : Int) == ((clock : Nat) : Int)) = some es.size := by
      rw [WideElems.findIdx_arr, Array.toList_push, List.findIdx?_append]
      have e1 : es.toList.findIdx? (fun e => ((e.born : Nat) : Int) == ((clock : Nat) : Int)) = none := by
        rw [List.findIdx?_eq_none_iff]
        intro e he
        have := hbo e he
        rw [beq_eq_false_iff_ne]
        omega
      rw [e1]
      simp
    have hmod : (es.push ⟨kv n, .int .i64 0, clock⟩).modify es.size (fun e => { e with val := .int .i64 1 }) = es.push ⟨kv n, .int .i64 1, clock⟩ := by
      apply Array.ext'
      rw [Array.toList_modify, Array.toList_push, Array.toList_push, ← Array.length_toList, WideElems.modify_last]
    simp [Instr.entryStore, MapKept.run_getObj_map hb1, asInt, asIntOf, hidx, hmod, MapKept.run_setObj_map _ hb1, Result.andThen]
    rfl
  · intro e he
    rw [Array.toList_push, List.mem_append, List.mem_singleton] at he
    rcases he with he | he
    · exact hv e he
    · rw [he]
  · intro e he
    rw [Array.toList_push, List.mem_append, List.mem_singleton] at he
    rcases he with he | he
    · have := hbo e he
      omega
    · rw [he]
      exact Nat.lt_succ_self _
  · have g1 := grown_setBlock w b (.map (es.push ⟨kv n, .int .i64 0, clock⟩) (clock + 1))
    have g2 := grown_setBlock (setBlock w b (.map (es.push ⟨kv n, .int .i64 0, clock⟩) (clock + 1))) b (.map (es.push ⟨kv n, .int .i64 1, clock⟩) (clock + 1))
    exact ⟨g2.os.trans g1.os, g2.tape.trans g1.tape, g2.output.trans g1.output, Nat.le_trans g1.size g2.size, fun i hi hne => (g2.block i (Nat.lt_of_lt_of_le hi g1.size) hne).trans (g1.block i hi hne)⟩
end Go.Proofs.YtkeilgompipfjaaGreatDoor.Ev

/- word.named, word.bare. -/
set_option linter.unusedSimpArgs false
set_option linter.unusedVariables false
namespace Go.Proofs.YtkeilgompipfjaaGreatDoor.Ev
open Go.RowKit

def NmC (pL tR : ByteArray → Bool) : Prop := ∀ (sp lo : ByteArray) (W : World), sp.size ≤ 10000 → lo.size ≤ 10000 → Calls Tryz.prog 27 #[.agg #[.string sp, .string lo]] W fun e w' => e = .returned (.bool (nmF pL tR (sp, lo))) ∧ Below W.heap.size W w'
set_option maxHeartbeats 2000000 in
set_option maxRecDepth 100000 in
theorem pnamed_any (pL tR : ByteArray → Bool) (C1 : Hid (StrC 43 pL)) (C2 : Hid (StrC 30 tR)) (sp lo : ByteArray) (w : World) (h1 : sp.size ≤ 10000) (h2 : lo.size ≤ 10000) : Calls Tryz.prog 27 #[.agg #[.string sp, .string lo]] w fun e w' => e = .returned (.bool (nmF pL tR (sp, lo))) ∧ Below w.heap.size w w' := by
  have HK := Lib.hid (nblk w 30 #[.string sp, .string lo])
  have HB := Lib.hid ((Below.refl w.heap.size w).alloc (Nat.le_refl _) (.cells #[.string sp, .string lo] 30))
  have HZ := Lib.hid (show w.heap.size < (w.alloc (.cells #[.string sp, .string lo] 30)).heap.size by simp)
  go_enter Tryz.func27, Tryz.ntmps27
  go_wp2_with fail
  refine (C1.out lo _ h2).mono ?_
  rintro e w1 ⟨rfl, b1⟩
  have HK1 := Lib.hid ((b1.block _ HZ.out).trans HK.out)
  have HB1 := Lib.hid (HB.out.trans (b1.mono (Nat.le_of_lt HZ.out)))
  have HZ1 := Lib.hid (Nat.lt_of_lt_of_le HZ.out b1.size)
  obtain ⟨c0, c1⟩ := cells2 HK1.out
  clear b1 HK HB HZ
  cases g1 : pL lo with
  | false =>
    have HA : Hid (nmF pL tR (sp, lo) = false) := Lib.hid (by unfold nmF; dsimp only; rw [g1]; rfl)
    clear g1
    go_wp2
    go_ret
    exact ⟨by rw [HA.out]; rfl, HB1.out⟩
  | true =>
    have HG1 := Lib.hid g1
    clear g1
    go_wp2_with fail
    refine (C2.out lo _ h2).mono ?_
    rintro e w2 ⟨rfl, b2⟩
    have HK2 := Lib.hid ((b2.block _ HZ1.out).trans HK1.out)
    have HB2 := Lib.hid (HB1.out.trans (b2.mono (Nat.le_of_lt HZ1.out)))
    have HZ2 := Lib.hid (Nat.lt_of_lt_of_le HZ1.out b2.size)
    obtain ⟨d0, d1⟩ := cells2 HK2.out
    clear b2 HK1 HB1 HZ1 c0 c1
    cases g2 : tR lo with
    | false =>
      have HA : Hid (nmF pL tR (sp, lo) = false) := Lib.hid (by unfold nmF; dsimp only; rw [HG1.out, g2]; rfl)
      clear g2
      go_wp2
      go_ret
      exact ⟨by rw [HA.out]; rfl, HB2.out⟩
    | true =>
      have HG2 := Lib.hid g2
      clear g2
      go_wp2_with fail
      refine (C2.out sp _ h1).mono ?_
      rintro e w3 ⟨rfl, b3⟩
      have HK3 := Lib.hid ((b3.block _ HZ2.out).trans HK2.out)
      have HB3 := Lib.hid (HB2.out.trans (b3.mono (Nat.le_of_lt HZ2.out)))
      obtain ⟨e0, e1⟩ := cells2 HK3.out
      clear b3 HK2 HB2 HZ2 d0 d1
      cases g3 : tR sp with
      | false =>
        have HA : Hid (nmF pL tR (sp, lo) = false) := Lib.hid (by unfold nmF; dsimp only; rw [HG1.out, HG2.out, g3]; rfl)
        clear g3
        go_wp2
        go_ret
        exact ⟨by rw [HA.out]; rfl, HB3.out⟩
      | true =>
        have HG3 := Lib.hid g3
        clear g3
        have HA : Hid (nmF pL tR (sp, lo) = (sp.toList != [104, 116, 116, 112, 58, 47, 47, 119, 119, 119, 46, 119, 51, 46, 111, 114, 103, 47, 50, 48, 48, 48, 47, 120, 109, 108, 110, 115, 47])) := Lib.hid (by unfold nmF; dsimp only; rw [HG1.out, HG2.out, HG3.out]; rfl)
        go_wp2
        go_ret
        exact ⟨by rw [HA.out]; rfl, HB3.out⟩

set_option maxHeartbeats 2000000 in
set_option maxRecDepth 100000 in
theorem bare_any (A : Option Addr) (n c : Nat) (x : RE) (w : World) (hl : n = x.ats.length) :
    Calls Tryz.prog 29 #[.agg #[.int .i64 x.kind, .string x.sp, .string x.lo, .slice A n c, .string x.tx]] w fun e w' => e = .returned (.bool (noneF x)) ∧ Below w.heap.size w w' := by
  have HB0 := Lib.hid ((Below.refl w.heap.size w).alloc (Nat.le_refl _) (.cells #[.int .i64 x.kind, .string x.sp, .string x.lo, .slice A n c, .string x.tx] 33))
  rcases emp3 x.sp x.lo with ⟨s1, s2⟩ | ⟨s1, s2⟩ | s1
  · by_cases h0 : n = 0
    · have HE : Hid (noneF x = true) := Lib.hid (by unfold noneF emp; rw [s1, s2, ← hl, h0]; rfl)
      generalize noneF x = F at *
      obtain ⟨kind, sp, lo, ats, tx⟩ := x
      dsimp only at *
      subst h0
      clear hl
      go_enter Tryz.func29, Tryz.ntmps29
      go_wp2
      go_ret
      exact ⟨by rw [HE.out]; rfl, HB0.out⟩
    · have z0 : ((n : Int) == 0) = false := by rw [beq_eq_false_iff_ne]; omega
      have HE : Hid (noneF x = false) := Lib.hid (by unfold noneF emp; rw [s1, s2, ← hl]; simp [h0])
      generalize noneF x = F at *
      obtain ⟨kind, sp, lo, ats, tx⟩ := x
      dsimp only at *
      clear hl h0
      go_enter Tryz.func29, Tryz.ntmps29
      go_wp2
      go_ret
      exact ⟨by rw [HE.out]; rfl, HB0.out⟩
  all_goals
    have HE : Hid (noneF x = false) := Lib.hid (by unfold noneF emp; (first | rw [s1, s2] | rw [s1]); rfl)
    generalize noneF x = F at *
    obtain ⟨kind, sp, lo, ats, tx⟩ := x
    dsimp only at *
    clear hl
    go_enter Tryz.func29, Tryz.ntmps29
    go_wp2
    go_ret
    exact ⟨by rw [HE.out]; rfl, HB0.out⟩
end Go.Proofs.YtkeilgompipfjaaGreatDoor.Ev

/- word.attributed. -/
set_option linter.unusedSimpArgs false
set_option linter.unusedVariables false
namespace Go.Proofs.YtkeilgompipfjaaGreatDoor.Ev
open Go.RowKit

def AtRel (F : Bool) (nm : P2 → Bool) (tR : ByteArray → Bool) (l : List P3) (n : Nat) (w : World) (i : Value) (wr : World) : Prop :=
  ∃ k : Nat, i = .int .i64 k ∧ k ≤ n ∧ Hid (SeenM wr w.heap.size ((l.take k).map (·.1))) ∧ Hid (Below w.heap.size w wr) ∧ Hid (F = goA nm tR ((l.take k).map (·.1)) (l.drop k))
theorem toList_inj {a b : ByteArray} (h : a.toList = b.toList) : a = b := by
  rw [Lib.toList_data, Lib.toList_data] at h
  cases a; cases b
  simp only [ByteArray.mk.injEq] at h ⊢
  exact Array.toList_inj.1 h
theorem eqn_eq {x y : P2} : eqn x y = true ↔ x = y := by
  unfold eqn
  rw [Bool.and_eq_true, beq_iff_eq, beq_iff_eq]
  exact ⟨fun ⟨h1, h2⟩ => Prod.ext (toList_inj h1) (toList_inj h2), fun h => by rw [h]; exact ⟨rfl, rfl⟩⟩
theorem any_in {l : List P2} {x : P2} (h : x ∈ l) : (l.any fun y => eqn y x) = true := List.any_eq_true.2 ⟨x, h, eqn_eq.2 rfl⟩
theorem any_out {l : List P2} {x : P2} (h : ¬ x ∈ l) : (l.any fun y => eqn y x) = false := List.any_eq_false.2 fun y hy e => h (by rw [← eqn_eq.1 e]; exact hy)
theorem take_names {l : List P3} {k : Nat} {x : P3} (h : l[k]? = some x) : (l.take (k + 1)).map (·.1) = (l.take k).map (·.1) ++ [x.1] := by rw [List.take_add_one, h]; simp
theorem cells3 {W : World} {b : Nat} {a0 a1 a2 : Value} {T : TypeId} {fz : Nat × Nat} (h : W.heap[b]? = some (.cells #[a0, a1, a2] T fz)) : W.cell? ⟨b, 0, none⟩ = some a0 ∧ W.cell? ⟨b, 1, none⟩ = some a1 ∧ W.cell? ⟨b, 2, none⟩ = some a2 := ⟨cells_of h 0 rfl, cells_of h 1 rfl, cells_of h 2 rfl⟩
set_option maxHeartbeats 8000000 in
set_option maxRecDepth 100000 in
theorem attributed_any (pL tR : ByteArray → Bool) (C1 : Hid (NmC pL tR)) (C2 : Hid (StrC 30 tR)) (A : Option Addr) (n c : Nat) (l : List P3) (w : World) (T : AttsIn w A n c l) (hB : l.length ≤ 32 → ∀ y ∈ l, y.1.1.size ≤ 10000 ∧ y.1.2.size ≤ 10000 ∧ y.2.size ≤ 10000) :
    Calls Tryz.prog 28 #[.slice A n c] w fun e w' => e = .returned (.bool (decide (n ≤ 32) && goA (nmF pL tR) tR [] l)) ∧ Below w.heap.size w w' := by
  by_cases h32 : n ≤ 32
  · rw [decide_eq_true h32, Bool.true_and]
    have k32 : ¬ (32 : Int) < (n : Int) := by omega
    have HT := Lib.hid T
    have HX := Lib.hid (hB (by rw [← T.len]; exact h32))
    obtain ⟨F, hF⟩ : ∃ F, F = goA (nmF pL tR) tR [] l := ⟨_, rfl⟩
    rw [← hF]
    have HF := Lib.hid hF
    have hmm := @run_makeMap Tryz.prog
    clear T hB hF
    go_enter Tryz.func28, Tryz.ntmps28
    go_wp2_with fail
    go_loopw [12] (fun i wr => AtRel F (nmF pL tR) tR l n w i wr) (fun i _ => n - (intOf i).toNat)
    case atStart => exact ⟨0, rfl, Nat.zero_le _, Lib.hid (seen_new w), Lib.hid ((Below.refl _ w).alloc (Nat.le_refl _) _), HF⟩
    case round =>
      clear hmm HF
      obtain ⟨k, rfl, hk, HM, HR, HA⟩ := hrel
      by_cases hlt : k < n
      · have k1 : (k : Int) < (n : Int) := by omega
        have k2 : (0 : Int) ≤ (k : Int) := by omega
        have hkl : k < l.length := by rw [← HT.out.len]; exact hlt
        have hx := List.getElem?_eq_getElem hkl
        have hsz := HX.out _ (List.getElem_mem hkl)
        obtain ⟨b, off, hA, hbl, d0, d1, d2⟩ := (HT.out.rd.keep HR.out) k _ hx
        have HS := Lib.hid (go_step (nm := nmF pL tR) (tR := tR) hx)
        have HTk := Lib.hid (take_names hx)
        generalize l[k] = y at *
        subst hA
        obtain ⟨⟨ysp, ylo⟩, yv⟩ := y
        dsimp only at d0 d1 d2 hsz HS HTk
        have z1 : ysp.size ≤ Lim := by unfold Lim; omega
        have z2 : ylo.size ≤ Lim := by unfold Lim; omega
        have CN : Hid (∀ W, Calls Tryz.prog 27 #[.agg #[.string ysp, .string ylo]] W fun e w' => e = .returned (.bool (nmF pL tR (ysp, ylo))) ∧ Below W.heap.size W w') := Lib.hid fun W => C1.out ysp ylo W hsz.1 hsz.2.1
        have CV : Hid (∀ W, Calls Tryz.prog 30 #[.string yv] W fun e w' => e = .returned (.bool (tR yv)) ∧ Below W.heap.size W w') := Lib.hid fun W => C2.out yv W hsz.2.2
        have HK0 := Lib.hid (nblk wr 90 #[.string ysp, .string ylo, .string yv])
        have HB0 := Lib.hid (HR.out.alloc HR.out.size (.cells #[.string ysp, .string ylo, .string yv] 90))
        have HM0 := Lib.hid (HM.out.keep ((Below.refl _ wr).alloc (Nat.le_refl _) (.cells #[.string ysp, .string ylo, .string yv] 90)))
        have HZ := Lib.hid (show wr.heap.size < (wr.alloc (.cells #[.string ysp, .string ylo, .string yv] 90)).heap.size by simp)
        have HL0 := Lib.hid HM.out.lt
        clear hx hkl hsz hbl HM HR
        generalize (l.take k).map (·.1) = sn at *
        cases g1 : nmF pL tR (ysp, ylo) with
        | false =>
          have HE : Hid (F = false) := Lib.hid (by rw [HA.out, HS.out, g1]; rfl)
          rw [g1] at CN
          clear g1 HA HS z1 z2
          go_wp2_with fail
          refine (CN.out _).mono ?_
          rintro e w1 ⟨rfl, b1⟩
          have HB1 := Lib.hid (HB0.out.trans (b1.mono HB0.out.size))
          clear b1 CN
          go_wp2
          go_ret
          exact ⟨by rw [HE.out] <;> rfl, HB1.out⟩
        | true =>
          rw [g1] at CN HS
          clear g1
          by_cases hin : (ysp, ylo) ∈ sn
          · have HE : Hid (F = false) := Lib.hid (by rw [HA.out, HS.out, any_in hin]; simp)
            have HY : Hid (∀ W, SeenM W w.heap.size sn → (Instr.lookup 88 (.map (some w.heap.size)) (.agg #[.string ysp, .string ylo]) false).run Tryz.prog W = .ok (.int .i64 1) W) := Lib.hid (fun W hW => seen_yes hW hin)
            clear HA HS z1 z2 hin
            go_wp2_with fail
            refine (CN.out _).mono ?_
            rintro e w1 ⟨rfl, b1⟩
            have HB1 := Lib.hid (HB0.out.trans (b1.mono HB0.out.size))
            have hlk := HY.out w1 (HM0.out.keep b1)
            obtain ⟨c0, c1, c2⟩ := cells3 ((b1.block _ HZ.out).trans HK0.out)
            clear b1 CN d0 d1 d2
            go_wp2
            go_ret
            exact ⟨by rw [HE.out] <;> rfl, HB1.out⟩
          · have HY : Hid (∀ W, SeenM W w.heap.size sn → (Instr.lookup 88 (.map (some w.heap.size)) (.agg #[.string ysp, .string ylo]) false).run Tryz.prog W = .ok (.int .i64 0) W) := Lib.hid (fun W hW => seen_no hW hin z1 z2)
            have HP := Lib.hid (fun W (hW : SeenM W w.heap.size sn) => seen_put hW hin z1 z2)
            have HS2 := Lib.hid (HS.out.trans (by rw [any_out hin]))
            clear HS z1 z2 hin
            cases g2 : tR yv with
            | false =>
              have HE : Hid (F = false) := Lib.hid (by rw [HA.out, HS2.out, g2]; rfl)
              rw [g2] at CV
              clear g2 HA HS2 HP
              go_wp2_with fail
              refine (CN.out _).mono ?_
              rintro e w1 ⟨rfl, b1⟩
              have HB1 := Lib.hid (HB0.out.trans (b1.mono HB0.out.size))
              have hlk := HY.out w1 (HM0.out.keep b1)
              obtain ⟨c0, c1, c2⟩ := cells3 ((b1.block _ HZ.out).trans HK0.out)
              clear b1 CN d0 d1 d2
              go_wp2_with fail
              refine (CV.out _).mono ?_
              rintro e w2 ⟨rfl, b2⟩
              have HB2 := Lib.hid (HB1.out.trans (b2.mono HB1.out.size))
              clear b2 hlk c0 c1 c2 CV
              go_wp2
              go_ret
              exact ⟨by rw [HE.out] <;> rfl, HB2.out⟩
            | true =>
              have HA2 : Hid (F = goA (nmF pL tR) tR (sn ++ [(ysp, ylo)]) (l.drop (k + 1))) := Lib.hid (by rw [HA.out, HS2.out, g2, HTk.out]; rfl)
              rw [g2] at CV
              clear g2 HA HS2
              go_wp2_with fail
              refine (CN.out _).mono ?_
              rintro e w1 ⟨rfl, b1⟩
              have HB1 := Lib.hid (HB0.out.trans (b1.mono HB0.out.size))
              have HM1 := Lib.hid (HM0.out.keep b1)
              have hlk := HY.out w1 HM1.out
              have HK1 := Lib.hid ((b1.block _ HZ.out).trans HK0.out)
              have HZ1 := Lib.hid (Nat.lt_of_lt_of_le HZ.out b1.size)
              obtain ⟨c0, c1, c2⟩ := cells3 HK1.out
              clear b1 CN d0 d1 d2
              go_wp2_with fail
              refine (CV.out _).mono ?_
              rintro e w2 ⟨rfl, b2⟩
              have HB2 := Lib.hid (HB1.out.trans (b2.mono HB1.out.size))
              have HM2 := Lib.hid (HM1.out.keep b2)
              obtain ⟨f0, f1, f2⟩ := cells3 ((b2.block _ HZ1.out).trans HK1.out)
              clear b2 CV hlk c0 c1 c2 HK1 HK0 HM0 HM1 HB0 HB1
              go_wp2_with fail
              obtain ⟨st, V1, V2, e1, e2, e3, hS2, v1, v2⟩ := HP.out w2.drew HM2.out
              have e0 := HY.out w2.drew HM2.out
              have hne : some wr.heap.size ≠ some w.heap.size := fun e => by
                injection e with e
                have := HL0.out
                omega
              have y0 : V1.cell? ⟨wr.heap.size, 0, none⟩ = some (.string ysp) := v1.cell (show w2.drew.cell? ⟨wr.heap.size, 0, none⟩ = some (.string ysp) by rw [World.cell?_drew]; exact f0) hne
              have y1 : V1.cell? ⟨wr.heap.size, 1, none⟩ = some (.string ylo) := v1.cell (show w2.drew.cell? ⟨wr.heap.size, 1, none⟩ = some (.string ylo) by rw [World.cell?_drew]; exact f1) hne
              have HB : Hid (Below w.heap.size w V2) := Lib.hid (Below.grown (Below.drew HB2.out) v2 HB2.out.size (fun j hj => by injection hj with hj; omega))
              have HQ : Hid (SeenM V2 w.heap.size ((l.take (k + 1)).map (·.1))) := Lib.hid (by rw [HTk.out]; exact hS2)
              rw [← HTk.out] at HA2
              clear hS2 v1 v2 HM2 HP HY HB2
              generalize wr.heap.size = ba at *
              go_region
              all_goals
                clear e0 e1 e2 e3 y0 y1 f0 f1 f2
                go_wp2
                go_roundw
                case rel => exact ⟨k + 1, by go_num, by omega, HQ, HB, HA2⟩
                case measure => simp only [intOf]; omega
      · have k1 : ¬ (k : Int) < (n : Int) := by omega
        have HE : Hid (F = true) := Lib.hid (by rw [HA.out, List.drop_of_length_le (by rw [← HT.out.len]; omega)]; rfl)
        clear HA
        go_wp2
        go_ret
        exact ⟨by rw [HE.out] <;> rfl, HR.out⟩
  · rw [decide_eq_false h32, Bool.false_and]
    have k32 : (32 : Int) < (n : Int) := by omega
    clear T hB h32
    go_enter Tryz.func28, Tryz.ntmps28
    go_wp2
    go_ret
    exact ⟨rfl, Below.refl _ _⟩
end Go.Proofs.YtkeilgompipfjaaGreatDoor.Ev

/- word.Right. -/
set_option linter.unusedSimpArgs false
set_option linter.unusedVariables false
namespace Go.Proofs.YtkeilgompipfjaaGreatDoor.Ev
open Go.RowKit

def AtC (pL tR : ByteArray → Bool) : Prop := ∀ (A : Option Addr) (n c : Nat) (l : List P3) (w : World), AttsIn w A n c l → (l.length ≤ 32 → ∀ y ∈ l, y.1.1.size ≤ 10000 ∧ y.1.2.size ≤ 10000 ∧ y.2.size ≤ 10000) → Calls Tryz.prog 28 #[.slice A n c] w fun e w' => e = .returned (.bool (decide (n ≤ 32) && goA (nmF pL tR) tR [] l)) ∧ Below w.heap.size w w'
/-- The event in its box; its attributes. -/
structure Bx1 (bx : Nat) (A : Option Addr) (n c : Nat) (x : RE) (W0 W : World) : Prop where
  a : W.heap[bx]? = some (.cells #[.int .i64 x.kind, .string x.sp, .string x.lo, .slice A n c, .string x.tx] 33 (0, 0))
  ta : AttsIn W A n c x.ats
  bel : Below W0.heap.size W0 W
theorem Bx1.keep {bx : Nat} {A : Option Addr} {n c : Nat} {x : RE} {W0 W W' : World} (h : Bx1 bx A n c x W0 W) (hb : Below W.heap.size W W') : Bx1 bx A n c x W0 W' :=
  ⟨(hb.block _ (Array.getElem?_eq_some_iff.1 h.a).1).trans h.a, h.ta.keep hb, h.bel.trans (hb.mono h.bel.size)⟩
set_option maxHeartbeats 8000000 in
set_option maxRecDepth 100000 in
theorem pright_of (pL tR : ByteArray → Bool) (C1 : Hid (NmC pL tR)) (C2 : Hid (StrC 30 tR)) (C3 : Hid (AtC pL tR)) (A : Option Addr) (n c : Nat) (x : RE) (w : World) (T : AttsIn w A n c x.ats) (hB : RgB x) :
    Calls Tryz.prog 20 #[.agg #[.int .i64 x.kind, .string x.sp, .string x.lo, .slice A n c, .string x.tx]] w fun e w' => e = .returned (.bool (rightF pL tR x)) ∧ Below w.heap.size w w' := by
  obtain ⟨W0, hW0⟩ : ∃ W0, W0 = w.alloc (.cells #[.int .i64 x.kind, .string x.sp, .string x.lo, .slice A n c, .string x.tx] 33) := ⟨_, rfl⟩
  have HX : Hid (Bx1 w.heap.size A n c x w W0) := Lib.hid (by
    rw [hW0]
    exact ⟨nblk w 33 _, T.keep ((Below.refl _ w).alloc (Nat.le_refl _) _), (Below.refl w.heap.size w).alloc (Nat.le_refl _) _⟩)
  have HN := Lib.hid (show n = x.ats.length from T.len)
  have C20 : Hid (∀ W, Calls Tryz.prog 27 #[.agg #[.string x.sp, .string x.lo]] W fun e w' => e = .returned (.bool (nmF pL tR (x.sp, x.lo))) ∧ Below W.heap.size W w') := Lib.hid fun W => C1.out _ _ W hB.sp hB.lo
  have C21 : Hid (∀ W, Bx1 w.heap.size A n c x w W → Calls Tryz.prog 28 #[.slice A n c] W fun e w' => e = .returned (.bool (decide (n ≤ 32) && goA (nmF pL tR) tR [] x.ats)) ∧ Below W.heap.size W w') := Lib.hid fun W h => C3.out A n c x.ats W h.ta hB.at_
  have C22 : Hid (∀ W, Calls Tryz.prog 29 #[.agg #[.int .i64 x.kind, .string x.sp, .string x.lo, .slice A n c, .string x.tx]] W fun e w' => e = .returned (.bool (noneF x)) ∧ Below W.heap.size W w') := Lib.hid fun W => bare_any A n c x W HN.out
  have C23 : Hid (∀ W, Calls Tryz.prog 30 #[.string x.tx] W fun e w' => e = .returned (.bool (tR x.tx)) ∧ Below W.heap.size W w') := Lib.hid fun W => C2.out _ W hB.tx
  have HK : Hid (∀ W W', Bx1 w.heap.size A n c x w W → Below W.heap.size W W' → Bx1 w.heap.size A n c x w W') := Lib.hid fun W W' h hb => h.keep hb
  obtain ⟨F, hF⟩ : ∃ F, F = rightF pL tR x := ⟨_, rfl⟩
  rw [← hF]
  have HF := Lib.hid hF
  clear T hB hF C1 C2 C3
  by_cases h2 : x.kind = 2
  · have HE : Hid (F = (noneF x && !emp x.tx && tR x.tx)) := Lib.hid (by rw [HF.out]; unfold rightF; rw [if_pos h2])
    clear HF C20 C21
    unfold emp at HE
    generalize noneF x = nn at *
    generalize tR x.tx = tt at *
    obtain ⟨kind, sp, lo, ats, tx⟩ := x
    dsimp only at *
    subst h2
    go_enter Tryz.func20, Tryz.ntmps20
    go_wp2_with fail
    generalize hw : w.alloc _ = W1 at *
    clear hw
    subst hW0
    refine (C22.out _).mono ?_
    rintro e w1 ⟨rfl, b1⟩
    replace HX := Lib.hid (HK.out _ _ HX.out b1)
    clear b1 C22
    obtain ⟨c0, c1, c2, c3, c4⟩ := cells5 HX.out.a
    clear c0 c1 c2 c3
    cases nn with
    | false =>
      have HE2 : Hid (F = false) := Lib.hid (by rw [HE.out]; rfl)
      clear HE
      go_wp2
      go_ret
      exact ⟨by rw [HE2.out] <;> rfl, HX.out.bel⟩
    | true =>
      cases t1 : tx.toList.isEmpty with
      | true =>
        have HE2 : Hid (F = false) := Lib.hid (by rw [HE.out, t1]; rfl)
        clear HE
        go_wp2
        go_ret
        exact ⟨by rw [HE2.out] <;> rfl, HX.out.bel⟩
      | false =>
        have HE2 : Hid (F = tt) := Lib.hid (by rw [HE.out, t1]; rfl)
        clear HE
        go_wp2_with fail
        refine (C23.out _).mono ?_
        rintro e w2 ⟨rfl, b2⟩
        replace HX := Lib.hid (HK.out _ _ HX.out b2)
        clear b2 C23 c4
        go_wp2
        go_ret
        exact ⟨by rw [HE2.out] <;> rfl, HX.out.bel⟩
  by_cases h3 : x.kind = 3
  · have HE : Hid (F = (noneF x && emp x.tx)) := Lib.hid (by rw [HF.out]; unfold rightF; rw [if_neg h2, if_pos h3])
    clear HF C20 C21 C23 h2
    unfold emp at HE
    generalize noneF x = nn at *
    obtain ⟨kind, sp, lo, ats, tx⟩ := x
    dsimp only at *
    subst h3
    go_enter Tryz.func20, Tryz.ntmps20
    go_wp2_with fail
    generalize hw : w.alloc _ = W1 at *
    clear hw
    subst hW0
    refine (C22.out _).mono ?_
    rintro e w1 ⟨rfl, b1⟩
    replace HX := Lib.hid (HK.out _ _ HX.out b1)
    clear b1 C22
    obtain ⟨c0, c1, c2, c3, c4⟩ := cells5 HX.out.a
    clear c0 c1 c2 c3
    cases nn with
    | false =>
      have HE2 : Hid (F = false) := Lib.hid (by rw [HE.out]; rfl)
      clear HE
      go_wp2
      go_ret
      exact ⟨by rw [HE2.out] <;> rfl, HX.out.bel⟩
    | true =>
      have HE2 : Hid (F = tx.toList.isEmpty) := Lib.hid (by rw [HE.out]; rfl)
      clear HE
      go_wp2
      go_ret
      exact ⟨by rw [HE2.out] <;> rfl, HX.out.bel⟩
  have HE : Hid (F = if x.kind ≠ 1 ∨ emp x.tx = false ∨ nmF pL tR (x.sp, x.lo) = false ∨ 32 < x.ats.length then false else goA (nmF pL tR) tR [] x.ats) := Lib.hid (by rw [HF.out]; unfold rightF; rw [if_neg h2, if_neg h3])
  have e2 : (x.kind == 2) = false := by simpa using h2
  have e3 : (x.kind == 3) = false := by simpa using h3
  clear HF C22 C23 h2 h3
  by_cases h1 : x.kind = 1
  · have HE1 : Hid (F = (nmF pL tR (x.sp, x.lo) && (decide (n ≤ 32) && goA (nmF pL tR) tR [] x.ats) && x.tx.toList.isEmpty)) := Lib.hid (by
      rw [HE.out]
      unfold emp
      rw [HN.out]
      cases nmF pL tR (x.sp, x.lo)
      · rw [if_pos (.inr (.inr (.inl rfl)))]; rfl
      · cases x.tx.toList.isEmpty
        · rw [if_pos (.inr (.inl rfl))]; simp
        · by_cases h : 32 < x.ats.length
          · rw [if_pos (.inr (.inr (.inr h))), decide_eq_false (by omega)]; rfl
          · rw [if_neg (by rintro (g | g | g | g); exact g h1; cases g; cases g; exact h g), decide_eq_true (by omega)]; simp)
    clear HE e2 e3
    generalize (decide (n ≤ 32) && goA (nmF pL tR) tR [] x.ats) = aa at *
    generalize nmF pL tR (x.sp, x.lo) = nn at *
    obtain ⟨kind, sp, lo, ats, tx⟩ := x
    dsimp only at *
    subst h1
    go_enter Tryz.func20, Tryz.ntmps20
    go_wp2_with fail
    generalize hw : w.alloc _ = W1 at *
    clear hw
    subst hW0
    refine (C20.out _).mono ?_
    rintro e w1 ⟨rfl, b1⟩
    replace HX := Lib.hid (HK.out _ _ HX.out b1)
    clear b1 C20
    cases nn with
    | false =>
      have HE2 : Hid (F = false) := Lib.hid (by rw [HE1.out]; rfl)
      clear HE1
      go_wp2
      go_ret
      exact ⟨by rw [HE2.out] <;> rfl, HX.out.bel⟩
    | true =>
      obtain ⟨c0, c1, c2, c3, c4⟩ := cells5 HX.out.a
      clear c0 c1 c2 c4
      go_wp2_with fail
      refine (C21.out _ HX.out).mono ?_
      rintro e w2 ⟨rfl, b2⟩
      replace HX := Lib.hid (HK.out _ _ HX.out b2)
      clear b2 C21 c3
      obtain ⟨c0, c1, c2, c3, c4⟩ := cells5 HX.out.a
      clear c0 c1 c2 c3
      cases aa with
      | false =>
        have HE2 : Hid (F = false) := Lib.hid (by rw [HE1.out]; rfl)
        clear HE1
        go_wp2
        go_ret
        exact ⟨by rw [HE2.out] <;> rfl, HX.out.bel⟩
      | true =>
        have HE2 : Hid (F = tx.toList.isEmpty) := Lib.hid (by rw [HE1.out]; rfl)
        clear HE1
        go_wp2
        go_ret
        exact ⟨by rw [HE2.out] <;> rfl, HX.out.bel⟩
  · have HE2 : Hid (F = false) := Lib.hid (by rw [HE.out, if_pos (.inl h1)])
    have e1 : (x.kind == 1) = false := by simpa using h1
    clear HE C20 C21 h1
    obtain ⟨kind, sp, lo, ats, tx⟩ := x
    dsimp only at *
    go_enter Tryz.func20, Tryz.ntmps20
    go_wp2_with fail
    generalize hw : w.alloc _ = W1 at *
    clear hw
    subst hW0
    go_ret
    exact ⟨by rw [HE2.out] <;> rfl, HX.out.bel⟩
theorem pright_c (pL tR : ByteArray → Bool) (C1 : Hid (StrC 43 pL)) (C2 : Hid (StrC 30 tR)) : EvP pL tR := fun A n c x W T hB => by
  have CN : Hid (NmC pL tR) := Lib.hid fun sp lo W h1 h2 => pnamed_any pL tR C1 C2 sp lo W h1 h2
  have CA : Hid (AtC pL tR) := Lib.hid fun A n c l W T hB => attributed_any pL tR CN C2 A n c l W T hB
  exact pright_of pL tR CN C2 CA A n c x W T hB
end Go.Proofs.YtkeilgompipfjaaGreatDoor.Ev

/- word.allowed: a text is UTF-8, and all its runes may stand in a text. -/
set_option linter.unusedSimpArgs false
set_option linter.unusedVariables false
namespace Go.Proofs.YtkeilgompipfjaaGreatDoor.Ev
open Go.RowKit

theorem rt_nil : Rt [] := ⟨rfl, fun r hr => by simp [decF_nil] at hr⟩
theorem drop_ne {s : ByteArray} {a : Nat} (h : a < s.size) : (byts s).drop a ≠ [] := fun e => by
  have := congrArg List.length e
  rw [List.length_drop, byts_len] at this
  simp at this
  omega
theorem rt_bad {s : ByteArray} {a : Nat} (h : a < s.size) (he : (runeF s a).2.2 ≠ 0) : ¬ Rt ((byts s).drop a) := by
  rw [runeF_dec s a h] at he
  rintro ⟨h1, _⟩
  rw [decF_err _ (drop_ne h) he] at h1
  exact he h1
theorem rt_go {s : ByteArray} {a : Nat} (h : a < s.size) (he : (runeF s a).2.2 = 0) : Rt ((byts s).drop a) ↔ (Chr (runeF s a).1 ∧ Rt ((byts s).drop (a + (runeF s a).2.1.toNat))) := by
  rw [runeF_dec s a h] at he ⊢
  unfold Rt
  rw [decF_ok _ (drop_ne h) ((byts_nn s).drop a) he, List.drop_drop]
  simp only [List.mem_cons, forall_eq_or_imp]
  exact ⟨fun ⟨h1, h2, h3⟩ => ⟨h2, h1, h3⟩, fun ⟨h2, h1, h3⟩ => ⟨h1, h2, h3⟩⟩
set_option maxHeartbeats 2000000 in
set_option maxRecDepth 100000 in
theorem allowed_any (s : ByteArray) (w : World) (hs : s.size ≤ 100000) :
    Calls Tryz.prog 30 #[.string s] w fun e w' => e = .returned (.bool (rtF s)) ∧ w = w' := by
  obtain ⟨F, hF⟩ : ∃ F, F = rtF s := ⟨_, rfl⟩
  rw [← hF]
  have HY : Hid (Rt (byts s) → F = true) := Lib.hid fun h => by rw [hF, rtF_yes h]
  have HN : Hid (¬ Rt (byts s) → F = false) := Lib.hid fun h => by rw [hF, rtF_no h]
  clear hF
  go_enter Tryz.func30, Tryz.ntmps30
  go_wp2_with fail
  go_loop [3] (fun vi => ∃ k : Nat, vi = .int .i64 k ∧ k ≤ s.size ∧ Hid (Rt (byts s) ↔ Rt ((byts s).drop k))) (fun vi => s.size - (intOf vi).toNat)
  case atStart => exact ⟨0, rfl, Nat.zero_le _, Lib.hid (by rw [List.drop_zero])⟩
  case round =>
    obtain ⟨k, rfl, hk, HR⟩ := hrel
    by_cases hlt : k < s.size
    · have d1 : (k : Int) < (s.size : Int) := by omega
      have C := Lib.hid (rune_at s k w (by unfold maxLen; omega))
      have HO := runeF_okay s k hlt
      have HB := Lib.hid (fun he => rt_bad hlt (a := k) he)
      have HG := Lib.hid (fun he => rt_go hlt (a := k) he)
      unfold Okay at HO
      generalize runeF s k = x at *
      obtain ⟨r, n, er⟩ := x
      dsimp only at *
      by_cases he : er = 0
      · subst he
        have hn : 1 ≤ n ∧ n ≤ (s.size - k : Nat) := by omega
        obtain ⟨m, rfl⟩ := Int.eq_ofNat_of_zero_le (show 0 ≤ n by omega)
        have hm1 : 1 ≤ m := by omega
        have hm2 : k + m ≤ s.size := by omega
        have hr1 : 0 ≤ r ∧ r ≤ 1114111 := by omega
        have HI := Lib.hid (HR.out.trans (HG.out rfl))
        rw [Int.toNat_natCast] at HI
        have CC := chr_any r
        clear HO HG HB HR hn
        by_cases hc : Chr r
        · rw [decide_eq_true hc] at CC
          have CH := Lib.hid CC
          have HR2 : Hid (Rt (byts s) ↔ Rt ((byts s).drop (k + m))) := Lib.hid (HI.out.trans ⟨fun h => h.2, fun h => ⟨hc, h⟩⟩)
          clear CC HI hc
          go_wp2_with (first | (go_at_call 44; refine C.out.mono ?_; rintro e w' ⟨rfl, rfl⟩) | (go_at_call 45; refine (CH.out _).mono ?_; rintro e w' ⟨rfl, rfl⟩) | fail)
          refine ⟨⟨k + m, by go_num, hm2, HR2⟩, by simp only [intOf]; omega⟩
        · rw [decide_eq_false hc] at CC
          have CH := Lib.hid CC
          have HE : Hid (F = false) := Lib.hid (HN.out fun h => hc (HI.out.1 h).1)
          clear CC HI hc
          go_wp2_with (first | (go_at_call 44; refine C.out.mono ?_; rintro e w' ⟨rfl, rfl⟩) | (go_at_call 45; refine (CH.out _).mono ?_; rintro e w' ⟨rfl, rfl⟩) | fail)
          go_ret
          exact ⟨by rw [HE.out] <;> rfl, rfl⟩
      · have HE : Hid (F = false) := Lib.hid (HN.out fun h => HB.out he (HR.out.1 h))
        have e1 : (er != 0) = true := bne_iff_ne.2 he
        clear HO HG HB HR he
        go_wp2_with (first | (go_at_call 44; refine C.out.mono ?_; rintro e w' ⟨rfl, rfl⟩) | fail)
        go_ret
        exact ⟨by rw [HE.out] <;> rfl, rfl⟩
    · have d1 : ¬ (k : Int) < (s.size : Int) := by omega
      have HE : Hid (F = true) := Lib.hid (HY.out (HR.out.2 (by rw [List.drop_of_length_le (by rw [byts_len]; omega)]; exact rt_nil)))
      clear HR
      go_wp2
      go_ret
      exact ⟨by rw [HE.out] <;> rfl, rfl⟩
theorem allow_c : StrC 30 rtF := fun s W hs => (allowed_any s W (by omega)).mono fun e w' ⟨h1, h2⟩ => ⟨h1, by rw [← h2]; exact Below.refl _ _⟩
theorem plainP_c : StrC 43 plF := fun s W _ => Nz.plain_any s W
end Go.Proofs.YtkeilgompipfjaaGreatDoor.Ev

/- What layer 9 statements ask of the program and of the document, all of it. -/
set_option linter.unusedSimpArgs false
set_option linter.unusedVariables false
namespace Go.Proofs.YtkeilgompipfjaaGreatDoor.Ev
open Go.RowKit

theorem ms_c {pL tR : ByteArray → Bool} (C : Hid (EvP pL tR)) : MsC pL tR := fun A n c l W T hn hB => measure_any pL tR C A n c l W T hn hB
theorem rt_mk {s : ByteArray} {l : List Int} {k : Nat} (h : decF (byts s) = (l, k, 0)) (h2 : ∀ r ∈ l, Chr r) : rtF s = true := rtF_yes ⟨by rw [h], by rw [h]; exact h2⟩
theorem rt_e : rtF emB = true := rt_mk (s := emB) (l := []) (k := 0) (by decide +kernel) (by decide)
theorem rt_a : rtF ⟨#[97]⟩ = true := rt_mk (l := [97]) (k := 1) (by decide +kernel) (by decide)
theorem rt_x : rtF ⟨#[120]⟩ = true := rt_mk (l := [120]) (k := 1) (by decide +kernel) (by decide)
theorem pl_a : plF ⟨#[97]⟩ = true := by unfold plF; decide +kernel
theorem em_list : emB.toList = [] := by rw [Lib.toList_data]; rfl
theorem op_right : rightF plF rtF opE = true := by
  unfold rightF nmF opE
  dsimp only
  rw [if_neg (by decide), if_neg (by decide), pl_a, rt_a, rt_e, em_list, if_neg]
  · rfl
  · rintro (h | h | h | h)
    · exact h rfl
    · unfold emp at h
      rw [em_list] at h
      cases h
    · cases h
    · simp at h
theorem tx_right : rightF plF rtF txE = true := by
  have e : (⟨#[120]⟩ : ByteArray).toList = [120] := by rw [Lib.toList_data]
  unfold rightF noneF txE emp
  dsimp only
  rw [if_pos rfl, em_list, e, rt_x] <;> rfl
end Go.Proofs.YtkeilgompipfjaaGreatDoor.Ev
