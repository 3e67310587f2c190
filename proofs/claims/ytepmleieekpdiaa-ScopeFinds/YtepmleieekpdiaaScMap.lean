/-
  The map of names that were met: look-up, entry, store.
-/
import Derived.Test.YtepmleieekpdiaaScMem
import Derived.WideKeyEntry
import Derived.DeepKeys4
set_option linter.unusedSimpArgs false
set_option linter.unusedVariables false
namespace Go.Proofs.Ytepmleieekpdiaa
open Go.RowKit Go.ChangeMaps

theorem Try.laidOut : laidOutB Try.prog = true := by kernel_rfl
theorem Try.row29 : (29 : TypeId) < Try.prog.types.size := of_decide_eq_true (by kernel_rfl)
theorem Try.wide29 : (match Try.prog.underlying 29 with | some (.array _ _) | some (.struct _) => true | _ => false) = true := by rw [Try.underlying29]
theorem law29 : WideMaps.KeyLaw Try.prog 29 := deep_law_laid Try.laidOut (m := 2) (by omega) Try.row29 (by kernel_rfl) Try.wide29
theorem Try.cells29 : Try.prog.cellsOf 29 = 2 := by kernel_rfl
theorem Try.cells9 : Try.prog.cellsOf 9 = 1 := by kernel_rfl
theorem Try.keyType29 : Try.prog.keyType 29 = true := by kernel_rfl
theorem Try.size110 : Try.prog.types.size + 1 = 109 + 1 + 1 := by kernel_rfl
def kv (n : P2) : Value := .agg #[.string n.1, .string n.2]
theorem lits_str (d : Nat) (s : ByteArray) (h : s.size ≤ maxLen) : Try.prog.keyLits (d + 1) 9 [.string s] = some [.string s.data.toList] := by
  unfold Program.keyLits
  rw [Try.underlying9]
  simp only [h, if_true]
theorem lits_struct (P : Program) (d : Nat) (t : TypeId) (fs : Array Field) (cs : List Value) (h : P.underlying t = some (.struct fs)) (hl : cs.length = P.cellsOf t) (hn : fs.all (·.name != "_") = true) :
    P.keyLits (d + 1) t cs = (fs.toList.mapM fun f => P.keyLits d f.type ((cs.drop f.offset).take (P.cellsOf f.type))).map List.flatten := by
  conv => lhs; unfold Program.keyLits
  rw [h]
  simp only [hl, hn, and_self, if_true]
theorem lits_name (d : Nat) (a b : ByteArray) (g1 : a.size ≤ maxLen) (g2 : b.size ≤ maxLen) : Try.prog.keyLits (d + 1 + 1) 29 [.string a, .string b] = some [.string a.data.toList, .string b.data.toList] := by
  have e1 := lits_str d a g1
  have e2 := lits_str d b g2
  rw [lits_struct Try.prog (d + 1) 29 _ _ Try.underlying29 (by rw [Try.cells29]; rfl) (by simp)]
  generalize hq : Try.prog.keyLits (d + 1) = q at *
  simp [Try.cells29, Try.cells9, e1, e2]
theorem kv_key (n : P2) (h1 : n.1.size ≤ Lim) (h2 : n.2.size ≤ Lim) : ∃ kl, keyOf Try.prog 29 (kv n) = some kl := by
  have g1 : n.1.size ≤ maxLen := Nat.le_trans h1 (by unfold Lim maxLen; omega)
  have g2 : n.2.size ≤ maxLen := Nat.le_trans h2 (by unfold Lim maxLen; omega)
  have hf : (kv n).formed Try.prog 29 = true := by simp [Value.formed, kv, Try.underlying29, Try.cells29]
  obtain ⟨d, hd⟩ : ∃ d, Try.prog.types.size + 1 = d + 1 + 1 := ⟨_, Try.size110⟩
  have hl := lits_name d n.1 n.2 g1 g2
  rw [← hd] at hl
  have hc : (kv n).cells.toList = [.string n.1, .string n.2] := rfl
  refine ⟨.string (keyBytes [.string n.1.data.toList, .string n.2.data.toList]), ?_⟩
  unfold keyOf
  rw [Try.underlying29]
  show (if (Try.prog.keyType 29 && (kv n).formed Try.prog 29) = true then _ else _) = _
  rw [Try.keyType29, hf, Bool.and_self, if_pos rfl, hc, hl]
  rfl
theorem kv_inj {a b : P2} (h : kv a = kv b) : a = b := by
  unfold kv at h
  injection h with h
  have := congrArg Array.toList h
  simp at this
  exact Prod.ext this.1 this.2
/-- The map at block b: these names, each at 1. -/
def SeenM (w : World) (b : Nat) (l : List P2) : Prop :=
  (∀ n ∈ l, n.1.size ≤ Lim ∧ n.2.size ≤ Lim) ∧ ∃ es clock, w.heap[b]? = some (.map es clock) ∧ es.toList.map (·.key) = l.map kv ∧ (∀ e ∈ es.toList, e.val = .int .i64 1) ∧ (∀ e ∈ es.toList, e.born < clock)
theorem seen_new (w : World) : SeenM (w.alloc (.map #[] 0)) w.heap.size [] :=
  ⟨fun n hn => by simp at hn, #[], 0, heap_alloc_new w _, rfl, fun e he => by simp at he, fun e he => by simp at he⟩
theorem SeenM.lt {w : World} {b : Nat} {l : List P2} (h : SeenM w b l) : b < w.heap.size := by
  obtain ⟨_, es, clock, h, _⟩ := h
  exact (Array.getElem?_eq_some_iff.1 h).1
theorem SeenM.keep {w w' : World} {b : Nat} {l : List P2} (h : SeenM w b l) (hb : Below w.heap.size w w') : SeenM w' b l := by
  have hlt := h.lt
  obtain ⟨h1, es, clock, h2, h3⟩ := h
  exact ⟨h1, es, clock, (hb.block b hlt).trans h2, h3⟩
theorem SeenM.keepG {w w' : World} {b : Nat} {l : List P2} {row : Option Nat} (h : SeenM w b l) (hb : w.grownBy w' row) (hne : some b ≠ row) : SeenM w' b l := by
  have hlt := h.lt
  obtain ⟨h1, es, clock, h2, h3⟩ := h
  exact ⟨h1, es, clock, (hb.block b hlt hne).trans h2, h3⟩
theorem SeenM.ne {w : World} {b : Nat} {l : List P2} (h : SeenM w b l) {B : Nat} {e : TypeId} {z n : Nat} {v : Value} {xs : List Value} (ho : w.ownsRow B e z v n xs) : some b ≠ v.ownBlock := by
  obtain ⟨_, es, clock, h2, _⟩ := h
  rcases ho.2 with ⟨rfl, _⟩ | ⟨g, cap, cur, rfl, _, hg, _⟩
  · simp [Value.ownBlock]
  · intro hh
    simp only [Value.ownBlock, Option.some.injEq] at hh
    subst hh
    rw [hg] at h2
    cases h2
theorem grown_setBlock (w : World) (b : Nat) (o : Obj) : w.grownBy (setBlock w b o) (some b) :=
  ⟨rfl, rfl, rfl, by simp [setBlock], fun k hk hne => by
    have : k ≠ b := fun e => hne (by rw [e])
    simp [setBlock, Array.getElem?_setIfInBounds, Ne.symm this]⟩
theorem zero3 (w : World) : (zeroValue 3).run Try.prog w = .ok (.int .i64 0) w := by kernel_rfl
theorem key_mem {es : Array MapEntry} {l : List P2} (h : es.toList.map (·.key) = l.map kv) {n : P2} : (∃ e ∈ es.toList, e.key = kv n) ↔ n ∈ l := by
  constructor
  · rintro ⟨e, he, hk⟩
    have : kv n ∈ l.map kv := by rw [← h, ← hk]; exact List.mem_map_of_mem he
    obtain ⟨m, hm, hh⟩ := List.mem_map.1 this
    rw [← kv_inj hh]
    exact hm
  · intro hn
    have : kv n ∈ es.toList.map (·.key) := by rw [h]; exact List.mem_map_of_mem hn
    obtain ⟨e, he, hh⟩ := List.mem_map.1 this
    exact ⟨e, he, hh⟩
theorem keys_of {es : Array MapEntry} {l : List P2} (h : es.toList.map (·.key) = l.map kv) (hl : ∀ n ∈ l, n.1.size ≤ Lim ∧ n.2.size ≤ Lim) : ∀ e ∈ es.toList, ∃ kl, keyOf Try.prog 29 e.key = some kl := fun e he => by
  have : e.key ∈ l.map kv := by rw [← h]; exact List.mem_map_of_mem he
  obtain ⟨m, hm, hh⟩ := List.mem_map.1 this
  rw [← hh]
  exact kv_key m (hl m hm).1 (hl m hm).2
theorem seen_yes {w : World} {b : Nat} {l : List P2} (h : SeenM w b l) {n : P2} (hn : n ∈ l) : (Instr.lookup 77 (.map (some b)) (.agg #[.string n.1, .string n.2]) false).run Try.prog w = .ok (.int .i64 1) w := by
  obtain ⟨hl, es, clock, hb, hk, hv, _⟩ := h
  obtain ⟨kl, hkl⟩ := kv_key n (hl n hn).1 (hl n hn).2
  show (Instr.lookup 77 (.map (some b)) (kv n) false).run Try.prog w = _
  rcases law29.find w hkl es.toList (keys_of hk hl) with ⟨_, h2⟩ | ⟨j, e0, h1, h2, h3⟩
  · obtain ⟨e, he, hh⟩ := (key_mem hk).2 hn
    exact absurd hh (h2 e he)
  · have := hv e0 (List.mem_of_getElem? h2)
    simp [Instr.lookup, run_underlying Try.underlying77, MapKept.run_getObj_map hb, law29.check w _ hkl, h1, this, Result.andThen]
theorem seen_no {w : World} {b : Nat} {l : List P2} (h : SeenM w b l) {n : P2} (hn : ¬ n ∈ l) (z1 : n.1.size ≤ Lim) (z2 : n.2.size ≤ Lim) : (Instr.lookup 77 (.map (some b)) (.agg #[.string n.1, .string n.2]) false).run Try.prog w = .ok (.int .i64 0) w := by
  obtain ⟨hl, es, clock, hb, hk, hv, _⟩ := h
  obtain ⟨kl, hkl⟩ := kv_key n z1 z2
  show (Instr.lookup 77 (.map (some b)) (kv n) false).run Try.prog w = _
  rcases law29.find w hkl es.toList (keys_of hk hl) with ⟨h1, h2⟩ | ⟨j, e0, h1, h2, h3⟩
  · simp [Instr.lookup, run_underlying Try.underlying77, MapKept.run_getObj_map hb, law29.check w _ hkl, h1, zero3, Result.andThen]
  · exact absurd ((key_mem hk).1 ⟨e0, List.mem_of_getElem? h2, h3⟩) hn
theorem seen_put {w : World} {b : Nat} {l : List P2} (h : SeenM w b l) {n : P2} (hn : ¬ n ∈ l) (z1 : n.1.size ≤ Lim) (z2 : n.2.size ≤ Lim) :
    ∃ (st : Nat) (W1 W2 : World), (Instr.mapEntry 77 (.map (some b)) (.agg #[.string n.1, .string n.2])).run Try.prog w = .ok (.tuple #[.int .i64 0, .int .i64 (st : Int)]) W1 ∧
      (Instr.lookup 77 (.map (some b)) (.agg #[.string n.1, .string n.2]) false).run Try.prog W1 = .ok (.int .i64 0) W1 ∧
      (Instr.entryStore 77 (.map (some b)) (.int .i64 (st : Int)) (.int .i64 1)).run Try.prog W1 = .ok () W2 ∧ SeenM W2 b (l ++ [n]) ∧ w.grownBy W1 (some b) ∧ w.grownBy W2 (some b) := by
  obtain ⟨hl, es, clock, hb, hk, hv, hbo⟩ := h
  obtain ⟨kl, hkl⟩ := kv_key n z1 z2
  have hn2 : ∀ e ∈ es.toList, e.key ≠ kv n := fun e he hh => hn ((key_mem hk).1 ⟨e, he, hh⟩)
  have h1 : (Instr.findKey 29 (kv n) es.toList).run Try.prog w = .ok none w := by
    rcases law29.find w hkl es.toList (keys_of hk hl) with ⟨h1, _⟩ | ⟨j, e0, _, h2, h3⟩
    · exact h1
    · exact absurd h3 (hn2 e0 (List.mem_of_getElem? h2))
  have hb1 : (setBlock w b (.map (es.push ⟨kv n, .int .i64 0, clock⟩) (clock + 1))).heap[b]? = some (.map (es.push ⟨kv n, .int .i64 0, clock⟩) (clock + 1)) := heap_setBlock_same hb _
  have hk1 : (es.push ⟨kv n, .int .i64 0, clock⟩).toList.map (·.key) = (l ++ [n]).map kv := by simp [hk]
  have hl1 : ∀ m ∈ l ++ [n], m.1.size ≤ Lim ∧ m.2.size ≤ Lim := fun m hm => by
    rcases List.mem_append.1 hm with hm | hm
    · exact hl m hm
    · rw [List.mem_singleton] at hm
      subst hm
      exact ⟨z1, z2⟩
  refine ⟨clock, setBlock w b (.map (es.push ⟨kv n, .int .i64 0, clock⟩) (clock + 1)), setBlock (setBlock w b (.map (es.push ⟨kv n, .int .i64 0, clock⟩) (clock + 1))) b (.map (es.push ⟨kv n, .int .i64 1, clock⟩) (clock + 1)), ?_, ?_, ?_, ⟨hl1, es.push ⟨kv n, .int .i64 1, clock⟩, clock + 1, heap_setBlock_same hb1 _, by simp [hk], ?_, ?_⟩, grown_setBlock _ _ _, ?_⟩
  · show (Instr.mapEntry 77 (.map (some b)) (kv n)).run Try.prog w = _
    simp [Instr.mapEntry, run_underlying Try.underlying77, MapKept.run_getObj_map hb, law29.check w false hkl, h1, zero3, MapKept.run_setObj_map _ hb, Result.andThen, setBlock, goInt]
  · show (Instr.lookup 77 (.map (some b)) (kv n) false).run Try.prog _ = _
    rcases law29.find (setBlock w b (.map (es.push ⟨kv n, .int .i64 0, clock⟩) (clock + 1))) hkl (es.push ⟨kv n, .int .i64 0, clock⟩).toList (keys_of hk1 hl1) with ⟨_, h2⟩ | ⟨j, e0, g1, g2, g3⟩
    · exact absurd rfl (h2 ⟨kv n, .int .i64 0, clock⟩ (by simp))
    · have : e0.val = .int .i64 0 := by
        have hm := List.mem_of_getElem? g2
        rw [Array.toList_push, List.mem_append, List.mem_singleton] at hm
        rcases hm with hm | hm
        · exact absurd g3 (hn2 e0 hm)
        · rw [hm]
      rw [this, Array.toList_push] at g1
      simp [Instr.lookup, run_underlying Try.underlying77, MapKept.run_getObj_map hb1, law29.check _ _ hkl, g1, Result.andThen]
  · have hidx : (es.push ⟨kv n, .int .i64 0, clock⟩).findIdx? (fun e => ((e.born : Nat) : Int) == ((clock : Nat) : Int)) = some es.size := by
      rw [WideElems.findIdx_arr, Array.toList_push, List.findIdx?_append]
      have e1 : es.toList.findIdx? (fun e => ((e.born : Nat) : Int) == ((clock : Nat) : Int)) = none := by
        rw [List.findIdx?_eq_none_iff]
        intro e he
        have := hbo e he
        rw [beq_eq_false_iff_ne]
        omega
      rw [e1]
      simp
    have hmod : (es.push ⟨kv n, .int .i64 0, clock⟩).modify es.size (fun e => { e with val := .int .i64 1 }) = es.push ⟨kv n, .int .i64 1, clock⟩ := by
      apply Array.ext'
      rw [Array.toList_modify, Array.toList_push, Array.toList_push, ← Array.length_toList, WideElems.modify_last]
    simp [Instr.entryStore, MapKept.run_getObj_map hb1, asInt, asIntOf, hidx, hmod, MapKept.run_setObj_map _ hb1, Result.andThen]
    rfl
  · intro e he
    rw [Array.toList_push, List.mem_append, List.mem_singleton] at he
    rcases he with he | he
    · exact hv e he
    · rw [he]
  · intro e he
    rw [Array.toList_push, List.mem_append, List.mem_singleton] at he
    rcases he with he | he
    · have := hbo e he
      omega
    · rw [he]
      exact Nat.lt_succ_self _
  · have g1 := grown_setBlock w b (.map (es.push ⟨kv n, .int .i64 0, clock⟩) (clock + 1))
    have g2 := grown_setBlock (setBlock w b (.map (es.push ⟨kv n, .int .i64 0, clock⟩) (clock + 1))) b (.map (es.push ⟨kv n, .int .i64 1, clock⟩) (clock + 1))
    exact ⟨g2.os.trans g1.os, g2.tape.trans g1.tape, g2.output.trans g1.output, Nat.le_trans g1.size g2.size, fun i hi hne => (g2.block i (Nat.lt_of_lt_of_le hi g1.size) hne).trans (g1.block i hi hne)⟩
end Go.Proofs.Ytepmleieekpdiaa
