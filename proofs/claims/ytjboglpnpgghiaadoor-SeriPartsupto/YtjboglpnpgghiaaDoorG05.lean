/-
  Merged by program out of the texts WdMap, SrMap, TpClo, TrSmW, TrSzW, EvSame2, EvLaw3, TrWdW, TrTrM of one seat.
-/
import Derived.Test.YtjboglpnpgghiaaDoorG04
import Derived.Test.YtjboglpnpgghiaaDoorG01
import Derived.Test.YtjboglpnpgghiaaDoorG02
import Derived.WideKeyEntry
import Derived.DeepKeys4
import Derived.Laws.OwnMore
import Derived.MapKept
import Derived.Deep.RegionHeld3
import Derived.Lib.UnsafeStr
import Derived.Lib.AppendStr
import Derived.Lib.BufferWrite
import Derived.Deep.RegionWith
import Derived.OwnWalk
import Derived.BigQuiet
import Derived.Laws.AppendOwn
import Derived.Laws.AppendOwnNone

/- The map of names that were met: look-up, entry, store (after round 7). -/
set_option linter.unusedSimpArgs false
set_option linter.unusedVariables false
namespace Go.Proofs.YtjboglpnpgghiaaDoor.Ev
open Go.RowKit

open Go.ChangeMaps
def Lim : Nat := 140737488351232
theorem Tryd.laidOut : laidOutB Tryd.prog = true := by kernel_rfl
theorem Tryd.row23 : (23 : TypeId) < Tryd.prog.types.size := of_decide_eq_true (by kernel_rfl)
theorem Tryd.wideK : (match Tryd.prog.underlying 23 with | some (.array _ _) | some (.struct _) => true | _ => false) = true := by rw [Tryd.underlying23]
set_option maxRecDepth 100000 in
theorem lawK : WideMaps.KeyLaw Tryd.prog 23 := deep_law_laid Tryd.laidOut (m := 2) (by omega) Tryd.row23 (by kernel_rfl) Tryd.wideK
theorem Tryd.keyType23 : Tryd.prog.keyType 23 = true := by kernel_rfl
theorem Tryd.sizeT : Tryd.prog.types.size + 1 = 125 + 1 + 1 := by kernel_rfl
def kv (n : P2) : Value := .agg #[.string n.1, .string n.2]
theorem lits_str (d : Nat) (s : ByteArray) (h : s.size ≤ maxLen) : Tryd.prog.keyLits (d + 1) 9 [.string s] = some [.string s.data.toList] := by
  unfold Program.keyLits
  rw [Tryd.underlying9]
  simp only [h, if_true]
theorem lits_struct (P : Program) (d : Nat) (t : TypeId) (fs : Array Field) (cs : List Value) (h : P.underlying t = some (.struct fs)) (hl : cs.length = P.cellsOf t) (hn : fs.all (·.name != "_") = true) :
    P.keyLits (d + 1) t cs = (fs.toList.mapM fun f => P.keyLits d f.type ((cs.drop f.offset).take (P.cellsOf f.type))).map List.flatten := by
  conv => lhs; unfold Program.keyLits
  rw [h]
  simp only [hl, hn, and_self, if_true]
theorem lits_name (d : Nat) (a b : ByteArray) (g1 : a.size ≤ maxLen) (g2 : b.size ≤ maxLen) : Tryd.prog.keyLits (d + 1 + 1) 23 [.string a, .string b] = some [.string a.data.toList, .string b.data.toList] := by
  have e1 := lits_str d a g1
  have e2 := lits_str d b g2
  rw [lits_struct Tryd.prog (d + 1) 23 _ _ Tryd.underlying23 (by rw [Tryd.cells23]; rfl) (by simp)]
  generalize hq : Tryd.prog.keyLits (d + 1) = q at *
  simp [Tryd.cells23, Tryd.cells9, e1, e2]
theorem kv_key (n : P2) (h1 : n.1.size ≤ Lim) (h2 : n.2.size ≤ Lim) : ∃ kl, keyOf Tryd.prog 23 (kv n) = some kl := by
  have g1 : n.1.size ≤ maxLen := Nat.le_trans h1 (by unfold Lim maxLen; omega)
  have g2 : n.2.size ≤ maxLen := Nat.le_trans h2 (by unfold Lim maxLen; omega)
  have hf : (kv n).formed Tryd.prog 23 = true := by simp [Value.formed, kv, Tryd.underlying23, Tryd.cells23]
  obtain ⟨d, hd⟩ : ∃ d, Tryd.prog.types.size + 1 = d + 1 + 1 := ⟨_, Tryd.sizeT⟩
  have hl := lits_name d n.1 n.2 g1 g2
  rw [← hd] at hl
  have hc : (kv n).cells.toList = [.string n.1, .string n.2] := rfl
  refine ⟨.string (keyBytes [.string n.1.data.toList, .string n.2.data.toList]), ?_⟩
  unfold keyOf
  rw [Tryd.underlying23]
  show (if (Tryd.prog.keyType 23 && (kv n).formed Tryd.prog 23) = true then _ else _) = _
  rw [Tryd.keyType23, hf, Bool.and_self, if_pos rfl, hc, hl]
  rfl
theorem kv_inj {a b : P2} (h : kv a = kv b) : a = b := by
  unfold kv at h
  injection h with h
  have := congrArg Array.toList h
  simp at this
  exact Prod.ext this.1 this.2
/-- The map at block b: these names, each at 1. -/
def SeenM (w : World) (b : Nat) (l : List P2) : Prop :=
  (∀ n ∈ l, n.1.size ≤ Lim ∧ n.2.size ≤ Lim) ∧ ∃ es clock, w.heap[b]? = some (.map es clock) ∧ es.toList.map (·.key) = l.map kv ∧ (∀ e ∈ es.toList, e.val = .int .i64 1) ∧ (∀ e ∈ es.toList, e.born < clock)
theorem seen_new (w : World) : SeenM (w.alloc (.map #[] 0)) w.heap.size [] :=
  ⟨fun n hn => by simp at hn, #[], 0, heap_alloc_new w _, rfl, fun e he => by simp at he, fun e he => by simp at he⟩
theorem SeenM.lt {w : World} {b : Nat} {l : List P2} (h : SeenM w b l) : b < w.heap.size := by
  obtain ⟨_, es, clock, h, _⟩ := h
  exact (Array.getElem?_eq_some_iff.1 h).1
theorem SeenM.keep {w w' : World} {b : Nat} {l : List P2} (h : SeenM w b l) (hb : Below w.heap.size w w') : SeenM w' b l := by
  have hlt := h.lt
  obtain ⟨h1, es, clock, h2, h3⟩ := h
  exact ⟨h1, es, clock, (hb.block b hlt).trans h2, h3⟩
theorem SeenM.keepG {w w' : World} {b : Nat} {l : List P2} {row : Option Nat} (h : SeenM w b l) (hb : w.grownBy w' row) (hne : some b ≠ row) : SeenM w' b l := by
  have hlt := h.lt
  obtain ⟨h1, es, clock, h2, h3⟩ := h
  exact ⟨h1, es, clock, (hb.block b hlt hne).trans h2, h3⟩
theorem grown_setBlock (w : World) (b : Nat) (o : Obj) : w.grownBy (setBlock w b o) (some b) :=
  ⟨rfl, rfl, rfl, by simp [setBlock], fun k hk hne => by
    have : k ≠ b := fun e => hne (by rw [e])
    simp [setBlock, Array.getElem?_setIfInBounds, Ne.symm this]⟩
theorem zero3 (w : World) : (zeroValue 3).run Tryd.prog w = .ok (.int .i64 0) w := by kernel_rfl
theorem key_mem {es : Array MapEntry} {l : List P2} (h : es.toList.map (·.key) = l.map kv) {n : P2} : (∃ e ∈ es.toList, e.key = kv n) ↔ n ∈ l := by
  constructor
  · rintro ⟨e, he, hk⟩
    have : kv n ∈ l.map kv := by rw [← h, ← hk]; exact List.mem_map_of_mem he
    obtain ⟨m, hm, hh⟩ := List.mem_map.1 this
    rw [← kv_inj hh]
    exact hm
  · intro hn
    have : kv n ∈ es.toList.map (·.key) := by rw [h]; exact List.mem_map_of_mem hn
    obtain ⟨e, he, hh⟩ := List.mem_map.1 this
    exact ⟨e, he, hh⟩
theorem keys_of {es : Array MapEntry} {l : List P2} (h : es.toList.map (·.key) = l.map kv) (hl : ∀ n ∈ l, n.1.size ≤ Lim ∧ n.2.size ≤ Lim) : ∀ e ∈ es.toList, ∃ kl, keyOf Tryd.prog 23 e.key = some kl := fun e he => by
  have : e.key ∈ l.map kv := by rw [← h]; exact List.mem_map_of_mem he
  obtain ⟨m, hm, hh⟩ := List.mem_map.1 this
  rw [← hh]
  exact kv_key m (hl m hm).1 (hl m hm).2
theorem seen_yes {w : World} {b : Nat} {l : List P2} (h : SeenM w b l) {n : P2} (hn : n ∈ l) : (Instr.lookup 68 (.map (some b)) (.agg #[.string n.1, .string n.2]) false).run Tryd.prog w = .ok (.int .i64 1) w := by
  obtain ⟨hl, es, clock, hb, hk, hv, _⟩ := h
  obtain ⟨kl, hkl⟩ := kv_key n (hl n hn).1 (hl n hn).2
  show (Instr.lookup 68 (.map (some b)) (kv n) false).run Tryd.prog w = _
  rcases lawK.find w hkl es.toList (keys_of hk hl) with ⟨_, h2⟩ | ⟨j, e0, h1, h2, h3⟩
  · obtain ⟨e, he, hh⟩ := (key_mem hk).2 hn
    exact absurd hh (h2 e he)
  · have := hv e0 (List.mem_of_getElem? h2)
    simp [Instr.lookup, run_underlying Tryd.underlying68, MapKept.run_getObj_map hb, lawK.check w _ hkl, h1, this, Result.andThen]
theorem seen_no {w : World} {b : Nat} {l : List P2} (h : SeenM w b l) {n : P2} (hn : ¬ n ∈ l) (z1 : n.1.size ≤ Lim) (z2 : n.2.size ≤ Lim) : (Instr.lookup 68 (.map (some b)) (.agg #[.string n.1, .string n.2]) false).run Tryd.prog w = .ok (.int .i64 0) w := by
  obtain ⟨hl, es, clock, hb, hk, hv, _⟩ := h
  obtain ⟨kl, hkl⟩ := kv_key n z1 z2
  show (Instr.lookup 68 (.map (some b)) (kv n) false).run Tryd.prog w = _
  rcases lawK.find w hkl es.toList (keys_of hk hl) with ⟨h1, h2⟩ | ⟨j, e0, h1, h2, h3⟩
  · simp [Instr.lookup, run_underlying Tryd.underlying68, MapKept.run_getObj_map hb, lawK.check w _ hkl, h1, zero3, Result.andThen]
  · exact absurd ((key_mem hk).1 ⟨e0, List.mem_of_getElem? h2, h3⟩) hn
theorem seen_put {w : World} {b : Nat} {l : List P2} (h : SeenM w b l) {n : P2} (hn : ¬ n ∈ l) (z1 : n.1.size ≤ Lim) (z2 : n.2.size ≤ Lim) :
    ∃ (st : Nat) (W1 W2 : World), (Instr.mapEntry 68 (.map (some b)) (.agg #[.string n.1, .string n.2])).run Tryd.prog w = .ok (.tuple #[.int .i64 0, .int .i64 (st : Int)]) W1 ∧
      (Instr.lookup 68 (.map (some b)) (.agg #[.string n.1, .string n.2]) false).run Tryd.prog W1 = .ok (.int .i64 0) W1 ∧
      (Instr.entryStore 68 (.map (some b)) (.int .i64 (st : Int)) (.int .i64 1)).run Tryd.prog W1 = .ok () W2 ∧ SeenM W2 b (l ++ [n]) ∧ w.grownBy W1 (some b) ∧ w.grownBy W2 (some b) := by
  obtain ⟨hl, es, clock, hb, hk, hv, hbo⟩ := h
  obtain ⟨kl, hkl⟩ := kv_key n z1 z2
  have hn2 : ∀ e ∈ es.toList, e.key ≠ kv n := fun e he hh => hn ((key_mem hk).1 ⟨e, he, hh⟩)
  have h1 : (Instr.findKey 23 (kv n) es.toList).run Tryd.prog w = .ok none w := by
    rcases lawK.find w hkl es.toList (keys_of hk hl) with ⟨h1, _⟩ | ⟨j, e0, _, h2, h3⟩
    · exact h1
    · exact absurd h3 (hn2 e0 (List.mem_of_getElem? h2))
  have hb1 : (setBlock w b (.map (es.push ⟨kv n, .int .i64 0, clock⟩) (clock + 1))).heap[b]? = some (.map (es.push ⟨kv n, .int .i64 0, clock⟩) (clock + 1)) := heap_setBlock_same hb _
  have hk1 : (es.push ⟨kv n, .int .i64 0, clock⟩).toList.map (·.key) = (l ++ [n]).map kv := by simp [hk]
  have hl1 : ∀ m ∈ l ++ [n], m.1.size ≤ Lim ∧ m.2.size ≤ Lim := fun m hm => by
    rcases List.mem_append.1 hm with hm | hm
    · exact hl m hm
    · rw [List.mem_singleton] at hm
      subst hm
      exact ⟨z1, z2⟩
  refine ⟨clock, setBlock w b (.map (es.push ⟨kv n, .int .i64 0, clock⟩) (clock + 1)), setBlock (setBlock w b (.map (es.push ⟨kv n, .int .i64 0, clock⟩) (clock + 1))) b (.map (es.push ⟨kv n, .int .i64 1, clock⟩) (clock + 1)), ?_, ?_, ?_, ⟨hl1, es.push ⟨kv n, .int .i64 1, clock⟩, clock + 1, heap_setBlock_same hb1 _, by simp [hk], ?_, ?_⟩, grown_setBlock _ _ _, ?_⟩
  · show (Instr.mapEntry 68 (.map (some b)) (kv n)).run Tryd.prog w = _
    simp [Instr.mapEntry, run_underlying Tryd.underlying68, MapKept.run_getObj_map hb, lawK.check w false hkl, h1, zero3, MapKept.run_setObj_map _ hb, Result.andThen, setBlock, goInt]
  · show (Instr.lookup 68 (.map (some b)) (kv n) false).run Tryd.prog _ = _
    rcases lawK.find (setBlock w b (.map (es.push ⟨kv n, .int .i64 0, clock⟩) (clock + 1))) hkl (es.push ⟨kv n, .int .i64 0, clock⟩).toList (keys_of hk1 hl1) with ⟨_, h2⟩ | ⟨j, e0, g1, g2, g3⟩
    · exact absurd rfl (h2 ⟨kv n, .int .i64 0, clock⟩ (by simp))
    · have : e0.val = .int .i64 0 := by
        have hm := List.mem_of_getElem? g2
        rw [Array.toList_push, List.mem_append, List.mem_singleton] at hm
        rcases hm with hm | hm
        · exact absurd g3 (hn2 e0 hm)
        · rw [hm]
      rw [this, Array.toList_push] at g1
      simp [Instr.lookup, run_underlying Tryd.underlying68, MapKept.run_getObj_map hb1, lawK.check _ _ hkl, g1, Result.andThen]
  · have hidx : (es.push ⟨kv n, .int .i64 0, clock⟩).findIdx? (fun e => ((e.born : Nat) : Int) == ((clock : Nat) : Int)) = some es.size := by
      rw [WideElems.findIdx_arr, Array.toList_push, List.findIdx?_append]
      have e1 : es.toList.findIdx? (fun e => ((e.born : Nat) : Int) == ((clock : Nat) : Int)) = none := by
        rw [List.findIdx?_eq_none_iff]
        intro e he
        have := hbo e he
        rw [beq_eq_false_iff_ne]
        omega
      rw [e1]
      simp
    have hmod : (es.push ⟨kv n, .int .i64 0, clock⟩).modify es.size (fun e => { e with val := .int .i64 1 }) = es.push ⟨kv n, .int .i64 1, clock⟩ := by
      apply Array.ext'
      rw [Array.toList_modify, Array.toList_push, Array.toList_push, ← Array.length_toList, WideElems.modify_last]
    simp [Instr.entryStore, MapKept.run_getObj_map hb1, asInt, asIntOf, hidx, hmod, MapKept.run_setObj_map _ hb1, Result.andThen]
    rfl
  · intro e he
    rw [Array.toList_push, List.mem_append, List.mem_singleton] at he
    rcases he with he | he
    · exact hv e he
    · rw [he]
  · intro e he
    rw [Array.toList_push, List.mem_append, List.mem_singleton] at he
    rcases he with he | he
    · have := hbo e he
      omega
    · rw [he]
      exact Nat.lt_succ_self _
  · have g1 := grown_setBlock w b (.map (es.push ⟨kv n, .int .i64 0, clock⟩) (clock + 1))
    have g2 := grown_setBlock (setBlock w b (.map (es.push ⟨kv n, .int .i64 0, clock⟩) (clock + 1))) b (.map (es.push ⟨kv n, .int .i64 1, clock⟩) (clock + 1))
    exact ⟨g2.os.trans g1.os, g2.tape.trans g1.tape, g2.output.trans g1.output, Nat.le_trans g1.size g2.size, fun i hi hne => (g2.block i (Nat.lt_of_lt_of_le hi g1.size) hne).trans (g1.block i hi hne)⟩
end Go.Proofs.YtjboglpnpgghiaaDoor.Ev

/- The map of spaces to their numbers; printer.pair. -/
set_option linter.unusedVariables false
set_option linter.unusedSimpArgs false
namespace Go.Proofs.YtjboglpnpgghiaaDoor.Ev
open Go.RowKit
open Go.ChangeMaps

theorem ixS_at : ∀ {l : List ByteArray} {j : Nat} {s : ByteArray}, l.Nodup → l[j]? = some s → ixS l s = j
  | [], j, s, _, h => by simp at h
  | a :: l, 0, s, _, h => by
    rw [List.getElem?_cons_zero] at h
    injection h with h
    rw [ixS, if_pos h]
  | a :: l, j + 1, s, hn, h => by
    rw [List.getElem?_cons_succ] at h
    rw [List.nodup_cons] at hn
    rw [ixS, if_neg (by intro e; exact hn.1 (by rw [e]; exact List.mem_of_getElem? h)), ixS_at hn.2 h]
/-- The map at block b: these spaces, each with its number. -/
def SeenS (w : World) (b : Nat) (l : List ByteArray) : Prop :=
  l.Nodup ∧ ∃ es clock, w.heap[b]? = some (.map es clock) ∧ es.toList.map (·.key) = l.map Value.string ∧ ∀ (j : Nat) (e : MapEntry), es.toList[j]? = some e → e.val = .int .i64 j
theorem sees_new (w : World) : SeenS (w.alloc (.map #[] 0)) w.heap.size [] :=
  ⟨List.nodup_nil, #[], 0, heap_alloc_new w _, rfl, fun j e he => by simp at he⟩
theorem SeenS.lt {w : World} {b : Nat} {l : List ByteArray} (h : SeenS w b l) : b < w.heap.size := by
  obtain ⟨_, es, clock, h, _⟩ := h
  exact (Array.getElem?_eq_some_iff.1 h).1
theorem SeenS.len {w : World} {b : Nat} {l : List ByteArray} (h : SeenS w b l) : ∃ es clock, w.heap[b]? = some (.map es clock) ∧ es.size = l.length := by
  obtain ⟨_, es, clock, h, hk, _⟩ := h
  refine ⟨es, clock, h, ?_⟩
  have := congrArg List.length hk
  simpa using this
theorem SeenS.keep {w w' : World} {b : Nat} {l : List ByteArray} (h : SeenS w b l) (hb : Below w.heap.size w w') : SeenS w' b l := by
  have hlt := h.lt
  obtain ⟨h1, es, clock, h2, h3⟩ := h
  exact ⟨h1, es, clock, (hb.block b hlt).trans h2, h3⟩
theorem SeenS.keepF {w w' : World} {b p B : Nat} {l : List ByteArray} (h : SeenS w b l) (hf : FrP B p w w') (hne : b ≠ p) : SeenS w' b l := by
  obtain ⟨h1, es, clock, h2, h3⟩ := h
  exact ⟨h1, es, clock, hf.oth b _ h2 (fun e => hne (Option.some.inj e)) (fun c z e => by cases e), h3⟩
theorem isS {es : Array MapEntry} {l : List ByteArray} (h : es.toList.map (·.key) = l.map Value.string) : ∀ x ∈ es.toList, MapKept.IsKey .string x.key := fun x hx => by
  have : x.key ∈ l.map Value.string := by rw [← h]; exact List.mem_map_of_mem hx
  obtain ⟨s, _, e⟩ := List.mem_map.1 this
  rw [← e]
  trivial
theorem key_get {es : Array MapEntry} {l : List ByteArray} (h : es.toList.map (·.key) = l.map Value.string) {j : Nat} {e : MapEntry} {s : ByteArray} (he : es.toList[j]? = some e) (hk : e.key = .string s) : l[j]? = some s := by
  have h1 : (es.toList.map (·.key))[j]? = some (.string s) := by rw [List.getElem?_map, he, Option.map_some, hk]
  rw [h, List.getElem?_map] at h1
  obtain ⟨u, hu, e1⟩ := Option.map_eq_some_iff.1 h1
  injection e1 with e1
  rw [hu, e1]
theorem find_yes {w : World} {b : Nat} {l : List ByteArray} (h : SeenS w b l) {s : ByteArray} (hs : s ∈ l) (ok : Bool) : (Instr.lookup 66 (.map (some b)) (.string s) ok).run Tryd.prog w = .ok (if ok = true then .tuple #[.int .i64 (ixS l s), .bool true] else .int .i64 (ixS l s)) w := by
  obtain ⟨hn, es, clock, hb, hk, hv⟩ := h
  have hks : MapKept.IsKey .string (.string s) := trivial
  rcases MapKept.findNow_spec hks es.toList 0 (isS hk) with ⟨h1, h2⟩ | ⟨j, e, h1, h2, h3⟩
  · exfalso
    have : Value.string s ∈ es.toList.map (·.key) := by rw [hk]; exact List.mem_map_of_mem hs
    obtain ⟨x, hx, e⟩ := List.mem_map.1 this
    exact h2 x hx e
  · have hj := ixS_at hn (key_get hk h2 h3)
    have hval := hv j e h2
    rw [hj]
    rw [hval] at h1
    cases ok
    · simp [Instr.lookup, run_underlying Tryd.underlying66, MapKept.run_getObj_map hb, MapKept.run_checkKey Tryd.underlying9 hks, MapKept.run_findKey Tryd.underlying9 h1, Result.andThen]
    · simp [Instr.lookup, run_underlying Tryd.underlying66, MapKept.run_getObj_map hb, MapKept.run_checkKey Tryd.underlying9 hks, MapKept.run_findKey Tryd.underlying9 h1, Result.andThen]
theorem find_no {w : World} {b : Nat} {l : List ByteArray} (h : SeenS w b l) {s : ByteArray} (hs : s ∉ l) : (Instr.lookup 66 (.map (some b)) (.string s) true).run Tryd.prog w = .ok (.tuple #[.int .i64 0, .bool false]) w := by
  obtain ⟨hn, es, clock, hb, hk, hv⟩ := h
  have hks : MapKept.IsKey .string (.string s) := trivial
  rcases MapKept.findNow_spec hks es.toList 0 (isS hk) with ⟨h1, h2⟩ | ⟨j, e, h1, h2, h3⟩
  · simp [Instr.lookup, run_underlying Tryd.underlying66, MapKept.run_getObj_map hb, MapKept.run_checkKey Tryd.underlying9 hks, MapKept.run_findKey Tryd.underlying9 h1, zero3, Result.andThen]
  · exact absurd (List.mem_of_getElem? (key_get hk h2 h3)) hs
theorem put_new {w : World} {b : Nat} {l : List ByteArray} (h : SeenS w b l) {s : ByteArray} (hs : s ∉ l) : ∃ W, (Instr.mapUpdate 66 (.map (some b)) (.string s) (.int .i64 l.length)).run Tryd.prog w = .ok () W ∧ SeenS W b (l ++ [s]) ∧ w.grownBy W (some b) := by
  obtain ⟨hn, es, clock, hb, hk, hv⟩ := h
  have hks : MapKept.IsKey .string (.string s) := trivial
  have hl : es.toList.length = l.length := by simpa using congrArg List.length hk
  rcases MapKept.findNow_spec hks es.toList 0 (isS hk) with ⟨h1, h2⟩ | ⟨j, e, h1, h2, h3⟩
  · refine ⟨setBlock w b (.map (es.push ⟨.string s, .int .i64 l.length, clock⟩) (clock + 1)), ?_, ⟨?_, es.push ⟨.string s, .int .i64 l.length, clock⟩, clock + 1, heap_setBlock_same hb _, by simp [hk], ?_⟩, grown_setBlock _ _ _⟩
    · simp [Instr.mapUpdate, run_underlying Tryd.underlying66, MapKept.run_getObj_map hb, MapKept.run_checkKey Tryd.underlying9 hks, MapKept.run_findKey Tryd.underlying9 h1, MapKept.run_setObj_map _ hb, Result.andThen, setBlock]
    · rw [List.nodup_append]
      exact ⟨hn, by simp, fun x hx y hy e => hs (by rw [List.mem_singleton.1 hy] at e; exact e ▸ hx)⟩
    · intro j e he
      rw [Array.toList_push] at he
      rcases Nat.lt_or_ge j es.toList.length with g | g
      · rw [List.getElem?_append_left g] at he
        exact hv j e he
      · rw [List.getElem?_append_right g] at he
        have hj : j - es.toList.length = 0 := by
          rcases Nat.eq_zero_or_pos (j - es.toList.length) with q | q
          · exact q
          · rw [List.getElem?_eq_none (by show 1 ≤ _; omega)] at he
            cases he
        rw [hj, List.getElem?_cons_zero] at he
        injection he with he
        rw [← he]
        show Value.int .i64 (l.length : Int) = .int .i64 (j : Int)
        rw [show j = l.length by omega]
  · exact absurd (List.mem_of_getElem? (key_get hk h2 h3)) hs

set_option maxHeartbeats 2000000 in
set_option maxRecDepth 100000 in
theorem pair_any (B b : Nat) (bs : List Int) (n v : ByteArray) (w : World) (h : Prt B b bs w) (hB : B ≤ w.heap.size) (hn : n.size ≤ 1073741824) (hv : v.size ≤ 1048576) (hl : bs.length + (prB (byts n) v).length ≤ 17592186044416) :
    Calls Tryd.prog 28 #[.pointer (some ⟨b, 0, none⟩), .string n, .string v] w fun e w' => e = .returned (.tuple #[]) ∧ Prt B b (bs ++ prB (byts n) v) w' ∧ FrP B b w w' := by
  have CQ : Hid (∀ W, Calls Tryd.prog 38 #[.string v] W fun e w' => e = .returned (.string (strOfNums (escF true (byts v)))) ∧ Below W.heap.size W w') := Lib.hid fun W => quote_any v W hv
  have HE := Lib.hid (byts_esc true v)
  have hq : (strOfNums (escF true (byts v))).size ≤ 6 * v.size := by
    have := escF_len true (byts v)
    rw [byts_len] at this
    rw [← byts_len, HE.out]
    exact this
  have HP : Hid (prB (byts n) v = [32] ++ byts n ++ [61, 34] ++ byts (strOfNums (escF true (byts v))) ++ [34]) := Lib.hid (by rw [HE.out]; rfl)
  rw [HP.out] at hl ⊢
  clear HE HP
  generalize strOfNums (escF true (byts v)) = O at *
  have HL := Lib.hid hl
  have CW : Hid (∀ W, Prt B b bs W → B ≤ W.heap.size → Calls Tryd.prog 26 #[.pointer (some ⟨b, 0, none⟩), .string ((((⟨#[32]⟩ ++ n) ++ ⟨#[61, 34]⟩) ++ O) ++ ⟨#[34]⟩)] W fun e w' => (∃ m : Int, e = .returned (.tuple #[.int .i64 m, .nilIface])) ∧ Prt B b (bs ++ ([32] ++ byts n ++ [61, 34] ++ byts O ++ [34])) w' ∧ FrP B b W w') := Lib.hid fun W hP hB => by
    have e : byts ((((⟨#[32]⟩ ++ n) ++ ⟨#[61, 34]⟩) ++ O) ++ ⟨#[34]⟩) = [32] ++ byts n ++ [61, 34] ++ byts O ++ [34] := by
      simp only [byts_cat]
      rfl
    have := wpr_any B b bs ((((⟨#[32]⟩ ++ n) ++ ⟨#[61, 34]⟩) ++ O) ++ ⟨#[34]⟩) W hP hB (by rw [← byts_len, e]; exact HL.out)
    rw [e] at this
    exact this.mono fun e w' ⟨h1, h2, h3⟩ => ⟨⟨_, h1⟩, h2, h3⟩
  have HG := Lib.hid h
  clear h hl HL
  generalize bs ++ ([32] ++ byts n ++ [61, 34] ++ byts O ++ [34]) = L at *
  have n1 : ¬ 9223372036854775807 < 1 + n.size := by omega
  have n2 : ¬ 9223372036854775807 < 1 + n.size + 2 := by omega
  have n3 : ¬ 9223372036854775807 < 1 + n.size + 2 + O.size := by omega
  have n4 : ¬ 9223372036854775807 < 1 + n.size + 2 + O.size + 1 := by omega
  go_enter Tryd.func28, Tryd.ntmps28
  go_wp2_with fail
  go_region_held3 (fun _ => True) (trivial) (first | (go_at_call 26; refine (CW.out w2 (HG.out.keep ((Below.drew (Below.refl w.heap.size w)).trans b2)) (Nat.le_trans hB b2.size)).mono ?_; rintro e w3 ⟨⟨m, rfl⟩, h3, f3⟩) | (go_at_call 38; refine (CQ.out _).mono ?_; rintro e w2 ⟨rfl, b2⟩))
  go_wp2
  go_end0
  exact ⟨rfl, h3, (FrP.of (B := B) ((Below.drew (Below.refl w.heap.size w)).trans b2) hB).trans f3⟩
end Go.Proofs.YtjboglpnpgghiaaDoor.Ev

/- strings.Clone; tree.named. -/
set_option linter.unusedSimpArgs false
set_option linter.unusedVariables false
namespace Go.Proofs.YtjboglpnpgghiaaDoor.Ev
open Go.RowKit

theorem Tryd.info5 : (Tryd.prog.info? 5).map (fun i => (i.zero, i.size, i.bytes)) = some (some (.int .u8 0), 1, 1) := by kernel_rfl
/-- How long a string that is copied may be. -/
def LimS : Nat := 140737488351232
def CpS (w : World) (W : World) : Prop := (∃ a b, W.heap[w.heap.size + 1]? = some (.cells #[a, b] 23 (0, 0))) ∧ Below w.heap.size w W
theorem CpS.lt {w W : World} (h : CpS w W) : w.heap.size + 1 < W.heap.size := by
  obtain ⟨⟨a, b, h⟩, _⟩ := h
  exact (Array.getElem?_eq_some_iff.1 h).1
theorem CpS.keep {w W W' : World} (h : CpS w W) (hb : Below W.heap.size W W') : CpS w W' := by
  have hl := h.lt
  obtain ⟨⟨a, b, h⟩, h2⟩ := h
  exact ⟨⟨a, b, (hb.block _ hl).trans h⟩, h2.trans (hb.mono h2.size)⟩
end Go.Proofs.YtjboglpnpgghiaaDoor.Ev

/- The document's Same (layer 10) of whatever two trees. -/
set_option linter.unusedSimpArgs false
set_option linter.unusedVariables false
namespace Go.Proofs.YtjboglpnpgghiaaDoor.Ev
open Go.RowKit

theorem siz_drop : ∀ (k : Nat) (f : Fo), (f.drop k).siz ≤ f.siz
  | 0, f => Nat.le_refl _
  | k + 1, .nil => Nat.le_refl _
  | k + 1, .cons t tx sp lo ats ks nx => by
    rw [Fo.drop, Fo.siz]
    have := siz_drop k nx
    omega
theorem siz_kid {f : Fo} {k : Nat} {t : Bool} {tx sp lo : ByteArray} {ats : List P3} {ks nx : Fo} (h : f.drop k = .cons t tx sp lo ats ks nx) : ks.siz + 1 ≤ f.siz := by
  have := siz_drop k f
  rw [h, Fo.siz] at this
  omega
theorem cells6 {W : World} {b : Nat} {a0 a1 a2 a3 a4 a5 : Value} {T : TypeId} {fz : Nat × Nat} (h : W.heap[b]? = some (.cells #[a0, a1, a2, a3, a4, a5] T fz)) : W.cell? ⟨b, 0, none⟩ = some a0 ∧ W.cell? ⟨b, 1, none⟩ = some a1 ∧ W.cell? ⟨b, 2, none⟩ = some a2 ∧ W.cell? ⟨b, 3, none⟩ = some a3 ∧ W.cell? ⟨b, 4, none⟩ = some a4 ∧ W.cell? ⟨b, 5, none⟩ = some a5 := ⟨cells_of h 0 rfl, cells_of h 1 rfl, cells_of h 2 rfl, cells_of h 3 rfl, cells_of h 4 rfl, cells_of h 5 rfl⟩
theorem Tc6.keep {W W' : World} {b off : Nat} {t : Bool} {tx sp lo : ByteArray} {Aa : Option Addr} {na ca : Nat} {Ak : Option Addr} {nk ck : Nat} (h : Tc6 W b off t tx sp lo Aa na ca Ak nk ck) (hb : Below W.heap.size W W') : Tc6 W' b off t tx sp lo Aa na ca Ak nk ck :=
  ⟨cell_lt h.1 hb, cell_lt h.2.1 hb, cell_lt h.2.2.1 hb, cell_lt h.2.2.2.1 hb, cell_lt h.2.2.2.2.1 hb, cell_lt h.2.2.2.2.2 hb⟩
end Go.Proofs.YtjboglpnpgghiaaDoor.Ev

/- The document's size, Few (layer 10) of whatever tree. -/
set_option linter.unusedSimpArgs false
set_option linter.unusedVariables false
namespace Go.Proofs.YtjboglpnpgghiaaDoor.Ev
open Go.RowKit

/-- How deep trees within trees are. -/
def Fo.dep : Fo → Nat
  | .nil => 0
  | .cons _ _ _ _ _ ks nx => max (1 + ks.dep) nx.dep
theorem siz_app : ∀ f g : Fo, (f.app g).siz = f.siz + g.siz
  | .nil, g => by rw [Fo.app, Fo.siz, Nat.zero_add]
  | .cons t tx sp lo ats ks nx, g => by rw [Fo.app, Fo.siz, Fo.siz, siz_app nx g]; omega
theorem dep_app_F : ∀ f g : Fo, (f.app g).dep = max f.dep g.dep
  | .nil, g => by rw [Fo.app, Fo.dep]; omega
  | .cons t tx sp lo ats ks nx, g => by rw [Fo.app, Fo.dep, Fo.dep, dep_app_F nx g]; omega
theorem siz_snoc {f : Fo} {k : Nat} (hk : k < f.len) : ∃ t tx sp lo ats ks, f.drop k = .cons t tx sp lo ats ks (f.drop (k + 1)) ∧ (f.take (k + 1)).siz = (f.take k).siz + (Fo.cons t tx sp lo ats ks .nil).siz ∧ (f.take (k + 1)).dep = max (f.take k).dep (Fo.cons t tx sp lo ats ks .nil).dep := by
  obtain ⟨t, tx, sp, lo, ats, ks, e1, e2⟩ := drop_cons hk
  exact ⟨t, tx, sp, lo, ats, ks, e1, by rw [e2, siz_app], by rw [e2, dep_app_F]⟩
/-- What size answers: how many, if that is not more than most; some more, if it is. -/
def SzPost (f : Fo) (most d : Nat) (w : World) (e : Ending) (w' : World) : Prop := ∃ z : Nat, e = .returned (.int .i64 (z : Int)) ∧ z ≤ most + 1 ∧ (z ≤ most → z = f.siz ∧ f.dep ≤ d) ∧ Below w.heap.size w w'
def SzC (d : Nat) : Prop := ∀ (t : Bool) (tx sp lo : ByteArray) (ats : List P3) (ks : Fo) (Aa : Option Addr) (na ca : Nat) (Ak : Option Addr) (nk ck : Nat) (P : Nat → Prop) (most : Nat) (W : World), most ≤ 150 → Tr1 P W tx sp lo ats ks Aa na ca Ak nk ck →
    Calls Tryd.prog 25 #[.agg #[.bool t, .string tx, .string sp, .string lo, .slice Aa na ca, .slice Ak nk ck], .int .i64 (most : Int), .int .i64 (d : Int)] W (SzPost (.cons t tx sp lo ats ks .nil) most d W)
theorem size_zero : SzC 0 := by
  intro t tx sp lo ats ks Aa na ca Ak nk ck P most w hm T
  have HB := Lib.hid ((Below.refl w.heap.size w).alloc (Nat.le_refl _) (.cells #[.bool t, .string tx, .string sp, .string lo, .slice Aa na ca, .slice Ak nk ck] 27))
  clear T
  go_enter Tryd.func25, Tryd.ntmps25
  go_wp2
  go_ret
  exact ⟨most + 1, by rw [Int.natCast_add]; rfl, Nat.le_refl _, fun h => by omega, HB.out⟩
set_option maxHeartbeats 8000000 in
set_option maxRecDepth 100000 in
theorem size_step (d : Nat) (hd : d ≤ 100) (hIH : Hid (SzC d)) : SzC (d + 1) := by
  intro t tx sp lo ats ks Aa na ca Ak nk ck P most w hm T
  have HT := Lib.hid T
  have hnk := T.ks.2.1
  have HB0 := Lib.hid ((Below.refl w.heap.size w).alloc (Nat.le_refl _) (.cells #[.bool t, .string tx, .string sp, .string lo, .slice Aa na ca, .slice Ak nk ck] 27))
  have HK0 := Lib.hid (nblk w 27 #[.bool t, .string tx, .string sp, .string lo, .slice Aa na ca, .slice Ak nk ck])
  have HZ := Lib.hid (show w.heap.size < (w.alloc (.cells #[.bool t, .string tx, .string sp, .string lo, .slice Aa na ca, .slice Ak nk ck] 27)).heap.size by simp)
  have d0 : (((d + 1 : Nat) : Int) == 0) = false := by rw [beq_eq_false_iff_ne]; omega
  have d1 : IntKind.i64.wrap (((d + 1 : Nat) : Int) - 1) = (d : Int) := by rw [IntWalk.i64_in _ (by omega)]; omega
  have HS0 : Hid (1 ≤ most → 1 = 1 + (ks.take 0).siz ∧ (ks.take 0).dep + 1 ≤ d + 1) := Lib.hid fun _ => by cases ks <;> exact ⟨rfl, by simp [Fo.take, Fo.dep]⟩
  generalize he : d + 1 = e at *
  have HE := Lib.hid he
  have hed : e ≤ 101 := by omega
  clear T he
  go_enter Tryd.func25, Tryd.ntmps25
  go_wp2_with fail
  generalize hW0 : w.alloc (.cells #[.bool t, .string tx, .string sp, .string lo, .slice Aa na ca, .slice Ak nk ck] 27) = W0 at *
  clear hW0
  go_loopw [7, 8] (fun vn i wr => ∃ k m : Nat, i = .int .i64 k ∧ vn = .int .i64 m ∧ k ≤ nk ∧ 1 ≤ m ∧ m ≤ most + 1 ∧ Hid (Below W0.heap.size W0 wr) ∧ Hid (m ≤ most → m = 1 + (ks.take k).siz ∧ (ks.take k).dep + 1 ≤ e)) (fun _ i _ => nk - (intOf i).toNat)
  case atStart => exact ⟨0, 1, rfl, rfl, Nat.zero_le _, Nat.le_refl _, by omega, Lib.hid (Below.refl _ _), HS0⟩
  case round =>
    clear HS0
    obtain ⟨k, m, rfl, rfl, hk, hm1, hm2, HR, HA⟩ := hrel
    obtain ⟨_, _, _, _, _, c5⟩ := cells6 ((HR.out.block _ HZ.out).trans HK0.out)
    have HB := Lib.hid (HB0.out.trans (HR.out.mono (Nat.le_of_lt HZ.out)))
    by_cases hlt : k < nk
    · have g1 : (k : Int) < (nk : Int) := by omega
      have g0 : (0 : Int) ≤ (k : Int) := by omega
      by_cases hmm : m ≤ most
      · have g2 : (m : Int) ≤ (most : Int) := by omega
        have g2' : decide ((m : Int) ≤ (most : Int)) = true := decide_eq_true g2
        obtain ⟨u, ux, us, ul, ua, uk, b1, o1, u1, u2, u3, u4, u5, u6, ed, rfl, hb1, x6, X⟩ := (HT.out.ks.keep HB.out).at_ (k := k) hlt
        obtain ⟨mo, hmo⟩ : ∃ mo, m + mo = most := ⟨most - m, by omega⟩
        have q1 : IntKind.i64.wrap ((most : Int) - (m : Int)) = (mo : Int) := by rw [IntWalk.i64_in _ (by omega)]; omega
        have CS := Lib.hid (hIH.out u ux us ul ua uk u1 u2 u3 u4 u5 u6 P mo wr (by omega) X)
        have HSn : Hid ((ks.take (k + 1)).siz = (ks.take k).siz + (Fo.cons u ux us ul ua uk .nil).siz ∧ (ks.take (k + 1)).dep = max (ks.take k).dep (Fo.cons u ux us ul ua uk .nil).dep) := Lib.hid (by
          obtain ⟨t', tx', sp', lo', ats', ks', e1, e2, e3⟩ := siz_snoc (f := ks) (k := k) (by rw [← HT.out.ks.1]; exact hlt)
          rw [ed] at e1
          injection e1 with e1 e4 e5 e6 e7 e8 e9
          subst e1 e4 e5 e6 e7 e8
          exact ⟨e2, e3⟩)
        have HMo := Lib.hid hmo
        obtain ⟨x1, x2, x3, x4, x5, x7⟩ := x6
        have hmo2 : mo ≤ 150 := by omega
        clear X ed hb1 hmo
        go_wp2_with fail
        refine CS.out.mono ?_
        rintro e' w2 ⟨z, rfl, z1, z2, b2⟩
        have HB2 := Lib.hid (HR.out.trans (b2.mono HR.out.size))
        have HZ2 := Lib.hid z2
        have hz3 : m + z ≤ most + 1 := by have := HMo.out; omega
        have q3 : IntKind.i64.wrap ((m : Int) + (z : Int)) = (m : Int) + (z : Int) := by rw [IntWalk.i64_in _ (by omega)]
        clear CS b2 z2 x1 x2 x3 x4 x5 x7 c5 q1
        go_wp2
        go_roundw
        case rel => exact ⟨k + 1, m + z, by go_num, by go_num, by omega, by omega, hz3, HB2, Lib.hid fun h => by
          have h1 := HA.out hmm
          have h2 := HZ2.out (by have := HMo.out; omega)
          have h3 := HSn.out
          have h4 := HE.out
          exact ⟨by omega, by omega⟩⟩
        case measure => simp only [intOf]; omega
      · have g2 : ¬ (m : Int) ≤ (most : Int) := by omega
        have g2' : decide ((m : Int) ≤ (most : Int)) = false := decide_eq_false g2
        clear HA
        go_wp2
        go_ret
        exact ⟨m, rfl, hm2, fun h => absurd h hmm, HB.out⟩
    · have g1 : ¬ (k : Int) < (nk : Int) := by omega
      have hkk : k = ks.len := by have := HT.out.ks.1; omega
      have HF : Hid (m ≤ most → m = (Fo.cons t tx sp lo ats ks .nil).siz ∧ (Fo.cons t tx sp lo ats ks .nil).dep ≤ e) := Lib.hid fun h => by
        have h1 := HA.out h
        rw [hkk, take_all] at h1
        rw [Fo.siz, Fo.dep, Fo.siz, Fo.dep]
        exact ⟨by omega, by omega⟩
      clear HA hkk
      go_wp2
      go_ret
      exact ⟨m, rfl, hm2, HF.out, HB.out⟩
theorem size_all : ∀ d : Nat, d ≤ 100 → SzC d
  | 0, _ => size_zero
  | d + 1, h => size_step d (by omega) (Lib.hid (size_all d (by omega)))
def FtPost (f : Fo) (w : World) (e : Ending) (w' : World) : Prop := ∃ b, e = .returned (.bool b) ∧ (b = true → f.siz ≤ 150 ∧ f.dep ≤ 70) ∧ Below w.heap.size w w'
set_option maxRecDepth 100000 in
theorem tfew_any (t : Bool) (tx sp lo : ByteArray) (ats : List P3) (ks : Fo) (Aa : Option Addr) (na ca : Nat) (Ak : Option Addr) (nk ck : Nat) (P : Nat → Prop) (w : World) (T : Tr1 P w tx sp lo ats ks Aa na ca Ak nk ck) :
    Calls Tryd.prog 13 #[.agg #[.bool t, .string tx, .string sp, .string lo, .slice Aa na ca, .slice Ak nk ck]] w (FtPost (.cons t tx sp lo ats ks .nil) w) := by
  have HB0 := Lib.hid ((Below.refl w.heap.size w).alloc (Nat.le_refl _) (.cells #[.bool t, .string tx, .string sp, .string lo, .slice Aa na ca, .slice Ak nk ck] 27))
  have CS := Lib.hid (size_all 70 (by omega) t tx sp lo ats ks Aa na ca Ak nk ck P 150 (w.alloc (.cells #[.bool t, .string tx, .string sp, .string lo, .slice Aa na ca, .slice Ak nk ck] 27)) (by omega) (T.keep HB0.out))
  clear T
  go_enter Tryd.func13, Tryd.ntmps13
  go_wp2_with fail
  refine CS.out.mono ?_
  rintro e w1 ⟨z, rfl, z1, z2, b1⟩
  have HB1 := Lib.hid (HB0.out.trans (b1.mono HB0.out.size))
  have HZ2 := Lib.hid z2
  clear z2 b1 CS
  by_cases h : z ≤ 150
  · have g2 : (z : Int) ≤ 150 := by omega
    have g2' : decide ((z : Int) ≤ 150) = true := decide_eq_true g2
    go_wp2
    go_ret
    exact ⟨true, by first | rfl | (simp; omega), fun _ => by have := HZ2.out h; omega, HB1.out⟩
  · have g2 : ¬ (z : Int) ≤ 150 := by omega
    have g2' : decide ((z : Int) ≤ 150) = false := decide_eq_false g2
    go_wp2
    go_ret
    exact ⟨false, by first | rfl | (simp; omega), fun h => (by cases h), HB1.out⟩
end Go.Proofs.YtjboglpnpgghiaaDoor.Ev

/- The document's Same (layer 8) of two lists of events that are the same. -/
set_option linter.unusedSimpArgs false
set_option linter.unusedVariables false
namespace Go.Proofs.YtjboglpnpgghiaaDoor.Ev
open Go.RowKit

/-- One event's cells. -/
structure Ev1 (W : World) (b o : Nat) (kx : Int) (na nb tx : ByteArray) (Aa : Option Addr) (n c : Nat) : Prop where
  c0 : W.cell? ⟨b, o, none⟩ = some (.int .i64 kx)
  c1 : W.cell? ⟨b, o + 1, none⟩ = some (.string na)
  c2 : W.cell? ⟨b, o + 2, none⟩ = some (.string nb)
  c3 : W.cell? ⟨b, o + 3, none⟩ = some (.slice Aa n c)
  c4 : W.cell? ⟨b, o + 4, none⟩ = some (.string tx)
theorem Ev1.keep {W W' : World} {b o : Nat} {kx : Int} {na nb tx : ByteArray} {Aa : Option Addr} {n c : Nat} (h : Ev1 W b o kx na nb tx Aa n c) (hb : Below W.heap.size W W') (hlt : b < W.heap.size) : Ev1 W' b o kx na nb tx Aa n c :=
  ⟨(hb.cell (p := ⟨b, o, none⟩) hlt).trans h.c0, (hb.cell (p := ⟨b, o + 1, none⟩) hlt).trans h.c1, (hb.cell (p := ⟨b, o + 2, none⟩) hlt).trans h.c2, (hb.cell (p := ⟨b, o + 3, none⟩) hlt).trans h.c3, (hb.cell (p := ⟨b, o + 4, none⟩) hlt).trans h.c4⟩
end Go.Proofs.YtjboglpnpgghiaaDoor.Ev

/- WordPrefixes (layer 9) over the contracts of what it calls. -/
set_option linter.unusedSimpArgs false
set_option linter.unusedVariables false
namespace Go.Proofs.YtjboglpnpgghiaaDoor.Ev
open Go.RowKit

theorem Tryd.info52 : (Tryd.prog.info? 52).map (fun i => (i.zero, i.size, i.bytes)) = some (some (.agg #[.int .i64 0, .string ⟨#[]⟩, .string ⟨#[]⟩, .slice none 0 0, .string ⟨#[]⟩]), 5, 80) := by kernel_rfl
theorem wpList_append_any {P : Program} {w : World} {ops : Array Oper} {rest : List Oper} {o : Oper} {a : Act} {Q : Exit → Act → World → Prop} (hgd : o.guard = none) (s x : Operand) (t : TypeId)
    (ho : o.op = .call { callee := .builtin .append, args := #[s, x], argTypes := #[t, t] })
    (base : Nat) (e : TypeId) (i : TypeInfo) (z : Value) (size bytes : Nat) (ht : P.underlying t = some (.slice e)) (hi : P.info? e = some i) (hz : i.zero = some z) (hsize : i.size = size) (hby : i.bytes = bytes) (hzs : z.cells.size = size) (hsz : 0 < size)
    (v : Value) (n : Nat) (xs : List Value) (hs : a.eval s = v) (hown : w.ownsRow base e size v n xs)
    (A : Option Addr) (m c : Nat) (news : List Value) (hx : a.eval x = .slice A m c) (hnil : A = none → m = 0 ∧ c = 0) (hl : news.length = m * size) (hnews : ∀ ad, A = some ad → ∀ j u, news[j]? = some u → w.cell? (ad.add j) = some u) (h1 : ∀ u ∈ news, u.oneCell' = true)
    (h63 : n + m ≤ maxLen) (hbytes : (n + m) * bytes ≤ 140737488355328) (hbase : base ≤ w.heap.size)
    (h : ∀ v' w', w'.ownsRow base e size v' (n + m) (xs ++ news) → w.grownBy w' v.ownBlock → wpList P ops Q rest (a.put o.dst v') w') :
    wpList P ops Q (o :: rest) a w := by
  cases A with
  | some ad => exact wpList_append_own w hgd s x t ho base e i z size bytes ht hi hz hsize hby hzs hsz v n xs hs hown ad m c news hx hl (hnews ad rfl) h1 h63 hbytes hbase (fun v' w' a1 a2 _ => h v' w' a1 a2)
  | none =>
    obtain ⟨rfl, rfl⟩ := hnil rfl
    have hnw : news = [] := List.eq_nil_of_length_eq_zero (by rw [hl, Nat.zero_mul])
    subst hnw
    refine wpList_plain hgd fun K hK => ?_
    have hr := run_append_owned_none (P := P) (w := w) base t o.type e i size ht hi v n xs hown
    unfold Oper.wp execOp
    simp only [ho, resolve, invoke, builtin, Sem.run_bind, Sem.run_pure, Result.andThen_ok, List.map_toArray, List.map_cons, List.map_nil, hs, hx, hr]
    exact hK _ _ (h v w (by rw [List.append_nil]; exact hown) ⟨rfl, rfl, rfl, Nat.le_refl _, fun _ _ _ => rfl⟩)
theorem own_src {W : World} {B n c z : Nat} {e : TypeId} {A : Option Addr} {xs : List Value} (h : W.ownsRow B e z (.slice A n c) n xs) : (A = none → n = 0 ∧ c = 0) ∧ ∀ ad, A = some ad → ∀ j u, xs[j]? = some u → W.cell? (ad.add j) = some u := by
  rcases h.2 with ⟨q, h0⟩ | ⟨g, cap, cur, q, hB, hh, hr⟩
  · injection q with q1 q2 q3
    refine ⟨fun _ => ⟨h0, q3⟩, fun ad e => ?_⟩
    rw [q1] at e
    cases e
  · injection q with q1 q2 q3
    subst q1
    refine ⟨(fun e => by cases e), fun ad e j u hu => ?_⟩
    cases e
    exact h.cells rfl j u hu
end Go.Proofs.YtjboglpnpgghiaaDoor.Ev

/- The document's Word (layer 10) of whatever tree. -/
set_option linter.unusedSimpArgs false
set_option linter.unusedVariables false
namespace Go.Proofs.YtjboglpnpgghiaaDoor.Ev
open Go.RowKit

/-- Events of the call's own, attributes in blocks below B. -/
structure EvW (W : World) (base B : Nat) (v : Value) (ps : List PE) : Prop where
  own : W.ownsRow base 52 5 v ps.length (peL ps)
  atO : PeO W ps
  low : ∀ p ∈ ps, AtP (· < B) p.2.1 p.2.2.1
theorem EvW.keep {W W' : World} {base B : Nat} {v : Value} {ps : List PE} (h : EvW W base B v ps) (hb : Below W.heap.size W W') : EvW W' base B v ps := ⟨own_keep h.own hb, h.atO.keep hb, h.low⟩
theorem PeO.grown {W W' : World} {ps : List PE} {B : Nat} {row : Option Nat} (h : PeO W ps) (hl : ∀ p ∈ ps, AtP (· < B) p.2.1 p.2.2.1) (hg : W.grownBy W' row) (hr : ∀ g, row = some g → B ≤ g) : PeO W' ps := fun p hp => ⟨(h p hp).1.keepG hg (fun h0 a e hh => by
  have h1 : a.block < B := hl p hp h0 a e
  have h2 := hr _ hh.symm
  omega), (h p hp).2⟩
theorem evs_len : ∀ f : Fo, f.evs.length ≤ 2 * f.siz
  | .nil => Nat.zero_le _
  | .cons t tx sp lo ats ks nx => by
    rw [Fo.evs, Fo.siz, List.length_append]
    have h1 := evs_len ks
    have h2 := evs_len nx
    cases t
    · rw [if_neg (by decide)]
      simp
      omega
    · rw [if_pos rfl]
      simp
      omega
theorem own_base {W : World} {B B' n z : Nat} {e : TypeId} {v : Value} {xs : List Value} (h : W.ownsRow B e z v n xs) (hb : B' ≤ B) : W.ownsRow B' e z v n xs :=
  ⟨h.1, h.2.imp id fun ⟨g, cap, cur, q, h1, h2⟩ => ⟨g, cap, cur, q, Nat.le_trans hb h1, h2⟩⟩
theorem evs_el (tx sp lo : ByteArray) (ats : List P3) (ks : Fo) : (Fo.cons false tx sp lo ats ks .nil).evs = [(⟨1, sp, lo, ats, emB⟩ : RE)] ++ ks.evs ++ [clE] := by
  rw [Fo.evs, if_neg (by decide)]
  simp [Fo.evs]
def WdC (N : Nat) : Prop := ∀ (t : Bool) (tx sp lo : ByteArray) (ats : List P3) (ks : Fo) (Aa : Option Addr) (na ca : Nat) (Ak : Option Addr) (nk ck : Nat) (B : Nat) (W : World), ks.siz < N → ks.siz ≤ 1000 → B ≤ W.heap.size → Tr1 (· < B) W tx sp lo ats ks Aa na ca Ak nk ck →
    Calls Tryd.prog 15 #[.agg #[.bool t, .string tx, .string sp, .string lo, .slice Aa na ca, .slice Ak nk ck]] W fun e w' => ∃ v ps, e = .returned v ∧ EvW w' W.heap.size B v ps ∧ ps.map (·.1) = (Fo.cons t tx sp lo ats ks .nil).evs ∧ Below W.heap.size W w'
theorem one_ev {W : World} {base b B : Nat} {p : PE} (h : W.heap[b]? = some (.cells (peC p).toArray 52 (0, 0))) (hb : base ≤ b) (ha : AttsIn W p.2.1 p.2.2.1 p.2.2.2 p.1.ats ∧ RSz p.1) (hl : AtP (· < B) p.2.1 p.2.2.1) : EvW W base B (.slice (some ⟨b, 0, none⟩) 1 1) [p] :=
  ⟨⟨rfl, .inr ⟨b, 1, _, rfl, hb, h, Nat.le_refl _, by decide, rfl, by simp [peL, peC]⟩⟩, fun q hq => by rw [List.mem_singleton.1 hq]; exact ha, fun q hq => by rw [List.mem_singleton.1 hq]; exact hl⟩
set_option maxHeartbeats 8000000 in
set_option maxRecDepth 100000 in
theorem word_step (N : Nat) (hIH : Hid (WdC N)) : WdC (N + 1) := by
  intro t tx sp lo ats ks Aa na ca Ak nk ck B w hN h1k hBw T
  obtain ⟨i0, hi, hz0, hz1, hz2⟩ := info_parts Tryd.info52
  have HT := Lib.hid T
  have hnk := T.ks.2.1
  have HB0 := Lib.hid ((Below.refl w.heap.size w).alloc (Nat.le_refl _) (.cells #[.bool t, .string tx, .string sp, .string lo, .slice Aa na ca, .slice Ak nk ck] 27))
  have HK0 := Lib.hid (nblk w 27 #[.bool t, .string tx, .string sp, .string lo, .slice Aa na ca, .slice Ak nk ck])
  have HZ := Lib.hid (show w.heap.size < (w.alloc (.cells #[.bool t, .string tx, .string sp, .string lo, .slice Aa na ca, .slice Ak nk ck] 27)).heap.size by simp)
  have hsz : (w.alloc (.cells #[.bool t, .string tx, .string sp, .string lo, .slice Aa na ca, .slice Ak nk ck] 27)).heap.size = w.heap.size + 1 := World.size_alloc _ _
  clear T
  cases t with
  | true =>
    have HE : Hid (EvW ((w.alloc (.cells #[.bool true, .string tx, .string sp, .string lo, .slice Aa na ca, .slice Ak nk ck] 27)).alloc (.cells #[.int .i64 2, .string ⟨#[]⟩, .string ⟨#[]⟩, .slice none 0 0, .string tx] 52)) w.heap.size B (.slice (some ⟨w.heap.size + 1, 0, none⟩) 1 1) [(⟨2, emB, emB, [], tx⟩, none, 0, 0)]) := Lib.hid (by
      have h := nblk (w.alloc (.cells #[.bool true, .string tx, .string sp, .string lo, .slice Aa na ca, .slice Ak nk ck] 27)) 52 #[.int .i64 2, .string ⟨#[]⟩, .string ⟨#[]⟩, .slice none 0 0, .string tx]
      rw [hsz] at h
      exact one_ev (p := (⟨2, emB, emB, [], tx⟩, none, 0, 0)) h (by omega) ⟨attsNil _, ⟨by show emB.size ≤ maxLen; decide, by show emB.size ≤ maxLen; decide, HT.out.sz.1⟩⟩ (fun h => absurd h (Nat.lt_irrefl 0)))
    have HB1 := Lib.hid (HB0.out.alloc (by rw [hsz]; omega) (.cells #[.int .i64 2, .string ⟨#[]⟩, .string ⟨#[]⟩, .slice none 0 0, .string tx] 52))
    clear HT hIH HK0 HZ hsz
    go_enter Tryd.func15, Tryd.ntmps15
    go_wp2
    go_ret
    exact ⟨_, _, rfl, HE.out, rfl, HB1.out⟩
  | false =>
    have HP0 : Hid (EvW ((w.alloc (.cells #[.bool false, .string tx, .string sp, .string lo, .slice Aa na ca, .slice Ak nk ck] 27)).alloc (.cells #[.int .i64 1, .string sp, .string lo, .slice Aa na ca, .string ⟨#[]⟩] 52)) (w.heap.size + 1) B (.slice (some ⟨w.heap.size + 1, 0, none⟩) 1 1) [(⟨1, sp, lo, ats, emB⟩, Aa, na, ca)]) := Lib.hid (by
      have h := nblk (w.alloc (.cells #[.bool false, .string tx, .string sp, .string lo, .slice Aa na ca, .slice Ak nk ck] 27)) 52 #[.int .i64 1, .string sp, .string lo, .slice Aa na ca, .string ⟨#[]⟩]
      rw [hsz] at h
      exact one_ev (p := (⟨1, sp, lo, ats, emB⟩, Aa, na, ca)) h (Nat.le_refl _) ⟨(HT.out.at_.keep HB0.out).keep ((Below.refl _ _).alloc (Nat.le_refl _) _), ⟨HT.out.sz.2.1, HT.out.sz.2.2, by show emB.size ≤ maxLen; decide⟩⟩ HT.out.ap)
    have HB1 := Lib.hid (HB0.out.alloc (by rw [hsz]; omega) (.cells #[.int .i64 1, .string sp, .string lo, .slice Aa na ca, .string ⟨#[]⟩] 52))
    have HK1 := Lib.hid ((Below.heap_alloc (w.alloc (.cells #[.bool false, .string tx, .string sp, .string lo, .slice Aa na ca, .slice Ak nk ck] 27)) (.cells #[.int .i64 1, .string sp, .string lo, .slice Aa na ca, .string ⟨#[]⟩] 52) _ HZ.out).trans HK0.out)
    have HZ1 := Lib.hid (show w.heap.size < ((w.alloc (.cells #[.bool false, .string tx, .string sp, .string lo, .slice Aa na ca, .slice Ak nk ck] 27)).alloc (.cells #[.int .i64 1, .string sp, .string lo, .slice Aa na ca, .string ⟨#[]⟩] 52)).heap.size by simp; omega)
    have HQ0 : Hid ([((⟨1, sp, lo, ats, emB⟩ : RE), Aa, na, ca)].map (·.1) = [(⟨1, sp, lo, ats, emB⟩ : RE)] ++ (ks.take 0).evs) := Lib.hid (by cases ks <;> rfl)
    have HTn : Hid ((ks.take nk).evs = ks.evs) := Lib.hid (by
      have h0 : ks.drop nk = .nil := by
        cases hd : ks.drop nk with
        | nil => rfl
        | cons a1 a2 a3 a4 a5 a6 a7 =>
          have h := len_drop (k := nk) (f := ks)
          rw [hd, Fo.len, HT.out.ks.1] at h
          omega
      have h := take_drop_F nk ks
      rw [h0] at h
      conv => rhs; rw [← h]
      rw [evs_app]
      exact (List.append_nil _).symm)
    clear HB0 HK0 HZ hsz
    go_enter Tryd.func15, Tryd.ntmps15
    go_wp2_with fail
    generalize hW0 : (w.alloc (.cells #[.bool false, .string tx, .string sp, .string lo, .slice Aa na ca, .slice Ak nk ck] 27)).alloc (.cells #[.int .i64 1, .string sp, .string lo, .slice Aa na ca, .string ⟨#[]⟩] 52) = W0 at *
    clear hW0
    have hevl := evs_len ks
    go_loopw [3, 4] (fun v i wr => ∃ (k : Nat) (ps : List PE), i = .int .i64 k ∧ k ≤ nk ∧ Hid (EvW wr (w.heap.size + 1) B v ps) ∧ Hid (ps.map (·.1) = [(⟨1, sp, lo, ats, emB⟩ : RE)] ++ (ks.take k).evs) ∧ Hid (Below w.heap.size w wr) ∧ Hid (wr.heap[w.heap.size]? = some (.cells #[.bool false, .string tx, .string sp, .string lo, .slice Aa na ca, .slice Ak nk ck] 27 (0, 0))) ∧ Hid (w.heap.size < wr.heap.size)) (fun _ i _ => nk - (intOf i).toNat)
    case atStart => exact ⟨0, _, rfl, Nat.zero_le _, HP0, HQ0, HB1, HK1, HZ1⟩
    case round =>
      clear HP0 HQ0 HB1 HK1 HZ1
      obtain ⟨k, ps, rfl, hk, HO, HM, HB, HX, HL⟩ := hrel
      obtain ⟨_, _, _, _, _, c5⟩ := cells6 HX.out
      obtain ⟨A3, c3, hv⟩ := own_slice HO.out.own
      subst hv
      by_cases hlt : k < nk
      · have g1 : (k : Int) < (nk : Int) := by omega
        have g0 : (0 : Int) ≤ (k : Int) := by omega
        obtain ⟨u, ux, us, ul, ua, uk, b1, o1, u1, u2, u3, u4, u5, u6, ed, rfl, hb1, x6, X⟩ := (HT.out.ks.keep HB.out).at_ (k := k) hlt
        have hsk := siz_kid ed
        have CS := Lib.hid (hIH.out u ux us ul ua uk u1 u2 u3 u4 u5 u6 B wr (by omega) (by omega) (Nat.le_trans hBw HB.out.size) X)
        have HTk : Hid ((ks.take (k + 1)).evs = (ks.take k).evs ++ (Fo.cons u ux us ul ua uk .nil).evs ∧ (ks.take (k + 1)).evs.length ≤ ks.evs.length) := Lib.hid (by
          obtain ⟨t', tx', sp', lo', ats', ks', e1, e2⟩ := drop_cons (f := ks) (k := k) (by rw [← HT.out.ks.1]; exact hlt)
          rw [ed] at e1
          injection e1 with e1 e4 e5 e6 e7 e8 e9
          subst e1 e4 e5 e6 e7 e8
          refine ⟨by rw [e2, evs_app], ?_⟩
          conv => rhs; rw [← take_drop_F (k + 1) ks]
          rw [evs_app, List.length_append]
          omega)
        obtain ⟨x1, x2, x3, x4, x5, x7⟩ := x6
        clear X ed hb1 HTn
        go_wp2_with fail
        refine CS.out.mono ?_
        rintro e' w2 ⟨v2, qs, rfl, o2, m2, b2⟩
        have HO2 := Lib.hid (HO.out.keep b2)
        have HB2 := Lib.hid (HB.out.trans (b2.mono HB.out.size))
        have HX2 := Lib.hid ((b2.block _ HL.out).trans HX.out)
        have hL2 := Nat.lt_of_lt_of_le HL.out b2.size
        have hzz : w.heap.size + 1 ≤ w2.heap.size := hL2
        obtain ⟨A4, c4, hv⟩ := own_slice o2.own
        subst hv
        obtain ⟨sn, sc⟩ := own_src o2.own
        have hnum : ps.length + qs.length ≤ 10000 := by
          have h1 := congrArg List.length HM.out
          have h2 := congrArg List.length m2
          rw [List.length_map, List.length_append, List.length_singleton] at h1
          rw [List.length_map] at h2
          have h3 := congrArg List.length HTk.out.1
          rw [List.length_append] at h3
          have := HTk.out.2
          omega
        have hql := peL_len qs
        have HOq := Lib.hid o2
        have HMq := Lib.hid m2
        have hown2 := HO2.out.own
        clear CS b2 o2 m2 x1 x2 x3 x4 x5 x7 c5 HO
        go_wp2_with (at_builtin; refine wpList_append_any (w := w2) rfl _ _ 36 rfl (w.heap.size + 1) 52 i0 (.agg #[.int .i64 0, .string ⟨#[]⟩, .string ⟨#[]⟩, .slice none 0 0, .string ⟨#[]⟩]) 5 80 Tryd.underlying36 hi hz0 hz1 hz2 rfl (by decide) _ ps.length (peL ps) rfl hown2 A4 qs.length c4 (peL qs) rfl sn hql sc (peL_one qs) (by unfold maxLen; omega) (by omega) hzz ?_)
        intro v' w3 n1 n2
        have HBr : ∀ g, (Value.slice A3 ps.length c3).ownBlock = some g → w.heap.size + 1 ≤ g := fun g (hg : (Value.slice A3 ps.length c3).ownBlock = some g) => (World.ownsRow.lt hown2 g hg).1
        have HO3 : Hid (EvW w3 (w.heap.size + 1) B v' (ps ++ qs)) := Lib.hid ⟨by rw [List.length_append, peL_app]; exact n1, (HO2.out.atO.grown HO2.out.low n2 (fun g hg => by have := HBr g hg; omega)).app (HOq.out.atO.grown HOq.out.low n2 (fun g hg => by have := HBr g hg; omega)), fun p hp => (List.mem_append.1 hp).elim (HO2.out.low p) (HOq.out.low p)⟩
        have HB3 : Hid (Below w.heap.size w w3) := Lib.hid (HB2.out.grown n2 HB2.out.size (fun g hg => by have := HBr g hg; omega))
        have HX3 := Lib.hid ((n2.block w.heap.size hL2 (fun h => by have := HBr _ h.symm; omega)).trans HX2.out)
        have HL3 := Lib.hid (Nat.lt_of_lt_of_le hL2 n2.size)
        have HM3 : Hid ((ps ++ qs).map (·.1) = [(⟨1, sp, lo, ats, emB⟩ : RE)] ++ (ks.take (k + 1)).evs) := Lib.hid (by rw [List.map_append, HM.out, HMq.out, HTk.out.1, List.append_assoc])
        clear hown2 n1 n2 sn sc hql hzz HBr HO2 HOq HMq HM HB2 HX2 hL2
        go_wp2
        go_roundw
        case rel => exact ⟨k + 1, ps ++ qs, by go_num, by omega, HO3, HM3, HB3, HX3, HL3⟩
        case measure => simp only [intOf]; omega
      · have hke : k = nk := by omega
        subst hke
        have g1 : ¬ (k : Int) < (k : Int) := by omega
        have hnum : ps.length ≤ 10000 := by
          have h1 := congrArg List.length HM.out
          rw [List.length_map, List.length_append, List.length_singleton, HTn.out] at h1
          omega
        have HO2 := Lib.hid (HO.out.keep ((Below.refl wr.heap.size wr).alloc (Nat.le_refl _) (.cells #[.int .i64 3, .string ⟨#[]⟩, .string ⟨#[]⟩, .slice none 0 0, .string ⟨#[]⟩] 52)))
        have HB2 := Lib.hid (HB.out.alloc HB.out.size (.cells #[.int .i64 3, .string ⟨#[]⟩, .string ⟨#[]⟩, .slice none 0 0, .string ⟨#[]⟩] 52))
        have HE : Hid (EvW (wr.alloc (.cells #[.int .i64 3, .string ⟨#[]⟩, .string ⟨#[]⟩, .slice none 0 0, .string ⟨#[]⟩] 52)) wr.heap.size B (.slice (some ⟨wr.heap.size, 0, none⟩) 1 1) [(clE, none, 0, 0)]) := Lib.hid (one_ev (p := (clE, none, 0, 0)) (nblk wr 52 #[.int .i64 3, .string ⟨#[]⟩, .string ⟨#[]⟩, .slice none 0 0, .string ⟨#[]⟩]) (Nat.le_refl _) ⟨attsNil _, ⟨by show emB.size ≤ maxLen; decide, by show emB.size ≤ maxLen; decide, by show emB.size ≤ maxLen; decide⟩⟩ (fun h => absurd h (Nat.lt_irrefl 0)))
        have hzz : w.heap.size + 1 ≤ (wr.alloc (.cells #[.int .i64 3, .string ⟨#[]⟩, .string ⟨#[]⟩, .slice none 0 0, .string ⟨#[]⟩] 52)).heap.size := by
          have := HL.out
          rw [World.size_alloc]
          omega
        obtain ⟨sn, sc⟩ := own_src HE.out.own
        have hown2 := HO2.out.own
        clear HO HX
        go_wp2_with (at_builtin; refine wpList_append_any (w := wr.alloc (.cells #[.int .i64 3, .string ⟨#[]⟩, .string ⟨#[]⟩, .slice none 0 0, .string ⟨#[]⟩] 52)) rfl _ _ 36 rfl (w.heap.size + 1) 52 i0 (.agg #[.int .i64 0, .string ⟨#[]⟩, .string ⟨#[]⟩, .slice none 0 0, .string ⟨#[]⟩]) 5 80 Tryd.underlying36 hi hz0 hz1 hz2 rfl (by decide) _ ps.length (peL ps) rfl hown2 (some ⟨wr.heap.size, 0, none⟩) 1 1 (peL [(clE, none, 0, 0)]) rfl sn rfl sc (peL_one _) (by unfold maxLen; omega) (by omega) hzz ?_)
        intro v' w3 n1 n2
        have HBr : ∀ g, (Value.slice A3 ps.length c3).ownBlock = some g → w.heap.size + 1 ≤ g := fun g (hg : (Value.slice A3 ps.length c3).ownBlock = some g) => (World.ownsRow.lt hown2 g hg).1
        have HO3 : Hid (EvW w3 w.heap.size B v' (ps ++ [(clE, none, 0, 0)])) := Lib.hid ⟨by rw [List.length_append, peL_app]; exact own_base n1 (Nat.le_succ _), (HO2.out.atO.grown HO2.out.low n2 (fun g hg => by have := HBr g hg; omega)).app (HE.out.atO.grown HE.out.low n2 (fun g hg => by have := HBr g hg; omega)), fun p hp => (List.mem_append.1 hp).elim (HO2.out.low p) (HE.out.low p)⟩
        have HB3 : Hid (Below w.heap.size w w3) := Lib.hid (HB2.out.grown n2 HB2.out.size (fun g hg => by have := HBr g hg; omega))
        have HM3 : Hid ((ps ++ [((clE, none, 0, 0) : PE)]).map (·.1) = (Fo.cons false tx sp lo ats ks .nil).evs) := Lib.hid (by
          rw [List.map_append, HM.out, HTn.out, evs_el]
          rfl)
        clear hown2 n1 n2 sn sc hzz HBr HO2 HE HM HB2
        go_wp2
        go_ret
        exact ⟨_, _, rfl, HO3.out, HM3.out, HB3.out⟩
theorem word_all : ∀ N, WdC N
  | 0 => fun t tx sp lo ats ks Aa na ca Ak nk ck B W h => by omega
  | N + 1 => word_step N (Lib.hid (word_all N))
end Go.Proofs.YtjboglpnpgghiaaDoor.Ev

/- Rows of trees of the call's own, and what stores leave of trees in memory. -/
set_option linter.unusedSimpArgs false
set_option linter.unusedVariables false
namespace Go.Proofs.YtjboglpnpgghiaaDoor.Ev
open Go.RowKit

theorem Tr1.grown {P : Nat → Prop} {W W' : World} {row : Option Nat} {tx sp lo : ByteArray} {ats : List P3} {ks : Fo} {Aa : Option Addr} {na ca : Nat} {Ak : Option Addr} {nk ck : Nat} (hg : W.grownBy W' row) (hP : ∀ b, P b → some b ≠ row) (h : Tr1 P W tx sp lo ats ks Aa na ca Ak nk ck) : Tr1 P W' tx sp lo ats ks Aa na ca Ak nk ck :=
  ⟨h.sz, h.at_.keepG hg (fun h0 a e => hP _ (h.ap h0 a e)), h.ap, h.ks.grown hg hP⟩
/-- The cells of trees, as a list. -/
def KsV (P : Nat → Prop) (W : World) : Fo → List Value → Prop
  | .nil, vs => vs = []
  | .cons t tx sp lo ats ks nx, vs => ∃ Aa na ca Ak nk ck vs', vs = [.bool t, .string tx, .string sp, .string lo, .slice Aa na ca, .slice Ak nk ck] ++ vs' ∧ Tr1 P W tx sp lo ats ks Aa na ca Ak nk ck ∧ KsV P W nx vs'
theorem KsV.map {P Q : Nat → Prop} {W W' : World} (h : ∀ {tx sp lo : ByteArray} {ats : List P3} {ks : Fo} {Aa : Option Addr} {na ca : Nat} {Ak : Option Addr} {nk ck : Nat}, Tr1 P W tx sp lo ats ks Aa na ca Ak nk ck → Tr1 Q W' tx sp lo ats ks Aa na ca Ak nk ck) : ∀ {f : Fo} {vs : List Value}, KsV P W f vs → KsV Q W' f vs
  | .nil, _, e => e
  | .cons t tx sp lo ats ks nx, vs, ⟨Aa, na, ca, Ak, nk, ck, vs', e, h1, h2⟩ => ⟨Aa, na, ca, Ak, nk, ck, vs', e, h h1, KsV.map h h2⟩
theorem KsV.app {P : Nat → Prop} {W : World} : ∀ {f g : Fo} {vs us : List Value}, KsV P W f vs → KsV P W g us → KsV P W (f.app g) (vs ++ us)
  | .nil, g, vs, us, e, h => by
    have e : vs = [] := e
    rw [e]
    exact h
  | .cons t tx sp lo ats ks nx, g, vs, us, ⟨Aa, na, ca, Ak, nk, ck, vs', e, h1, h2⟩, h => ⟨Aa, na, ca, Ak, nk, ck, vs' ++ us, by rw [e, List.append_assoc], h1, KsV.app h2 h⟩
theorem KsV.at_ {P : Nat → Prop} {W : World} {g : Nat} : ∀ {f : Fo} {vs : List Value} {off : Nat}, KsV P W f vs → (∀ j u, vs[j]? = some u → W.cell? ⟨g, off + j, none⟩ = some u) → KsAt P W f g off
  | .nil, _, _, _, _ => trivial
  | .cons t tx sp lo ats ks nx, vs, off, ⟨Aa, na, ca, Ak, nk, ck, vs', e, h1, h2⟩, h => by
    subst e
    refine KsAt.mk ⟨h 0 _ rfl, h 1 _ rfl, h 2 _ rfl, h 3 _ rfl, h 4 _ rfl, h 5 _ rfl⟩ h1 (KsV.at_ h2 fun j u hj => ?_)
    have := h (6 + j) u (by rw [List.getElem?_append_right (by simp)]; simpa using hj)
    rw [show off + 6 + j = off + (6 + j) by omega]
    exact this
theorem grown_setCell (W : World) (a : Addr) (u : Value) : W.grownBy (W.setCell a u) (some a.block) :=
  have h := (Below.refl 0 W).setCell (p := a) (Nat.zero_le _) u
  ⟨h.os, h.tape, h.output, h.size, fun k _ hne => Below.heap_setCell W a u k (fun e => hne (by rw [e]))⟩
end Go.Proofs.YtjboglpnpgghiaaDoor.Ev
