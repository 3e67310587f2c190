/-
  Merged by program out of the texts WlMath, ScMem, ScClone, ScFind of one seat.
-/
import Derived.Test.YtkeilgompipfjaaGreatDoorG05
import Derived.Test.YtkeilgompipfjaaGreatDoorG08
import Derived.Laws.OwnMore
import Derived.Deep.RegionLaw
import Derived.OwnWalk
import Derived.Deep.RegionHeld3
import Derived.Lib.Hide
import Derived.Lib.UnsafeStr
import Derived.Lib.AppendStr
import Derived.Lib.BufferWrite
import Derived.Deep.RegionWith
import Derived.RangeFuncNested
import Derived.RangeFuncBox
import Derived.RangeFuncBound
import Derived.RangeFuncCalls
import Derived.RangeFuncLeaves
import Derived.Shelf.Abstract
import Derived.Shelf.RegionOpen
import Derived.WalkKit
import Derived.OwnWalkIn
import Derived.TacticsInMore
import Derived.LoopNIn
import Derived.LoopIn

/- Plain mathematics of the reader: what a token does, the events of a text; the events are those of a beginning of a document. -/
set_option linter.unusedSimpArgs false
set_option linter.unusedVariables false
namespace Go.Proofs.YtkeilgompipfjaaGreatDoor.Wl

abbrev Pr := ByteArray × ByteArray
abbrev Tr := Pr × ByteArray
/-- An event; a token; the reader. -/
inductive Ev where
  | opn (n : Pr) (f : List Tr)
  | txt (s : ByteArray)
  | cls
structure Tok where
  kind : Int
  text : ByteArray
  empty : Bool
  blank : Bool
structure St where
  op : List (ByteArray × List Pr)
  wait : ByteArray
  root : Bool
  over : Bool
  err : Int
def st0 : St := ⟨[], Nz.em, false, false, 0⟩
def bind0 : List Pr := [(Nz.Sc.xm, Nz.Sc.XS)]
def scpF (s : St) : List Pr := match s.op.getLast? with | some x => x.2 | none => bind0
def toldF (u : ByteArray) : List Ev := if u.size = 0 then [] else [.txt u]
def bad (s : St) (e : Int) : St × List Ev × Int := ({ s with err := e }, [], e)
def opened (s : St) (t : Tok) (nm : ByteArray) (W : List Pr) (n : Pr) (f : List Tr) : St × List Ev × Int :=
  if t.empty = true then ({ s with wait := Nz.em, root := true }, toldF s.wait ++ [.opn n f, .cls], 0)
  else ({ s with wait := Nz.em, root := true, op := s.op ++ [(nm, W)] }, toldF s.wait ++ [.opn n f], 0)
def enterT (s : St) (t : Tok) (nm : ByteArray) : Except Int (List Pr × Pr × List Tr) → St × List Ev × Int
  | .error c => bad s c
  | .ok (W, n, f) => if 64 ≤ s.op.length then bad s 13 else opened s t nm W n f
def startT (s : St) (t : Tok) : St × List Ev × Int :=
  if s.root = true ∧ s.op = [] then bad s 11
  else if (Tg.parF t.text).1 ≠ 0 then bad s (Tg.parF t.text).1
  else enterT s t (Tg.parF t.text).2.1 (Nz.Sc.entF (scpF s) (Tg.parF t.text).2.1 (Tg.parF t.text).2.2)
def inner (s : St) : Option ByteArray := s.op.getLast?.map (·.1)
def endT (s : St) (t : Tok) : St × List Ev × Int :=
  if inner s = some t.text then ({ s with wait := Nz.em, op := s.op.dropLast }, toldF s.wait ++ [.cls], 0) else bad s 10
def charsT (s : St) (t : Tok) : St × List Ev × Int :=
  if s.op ≠ [] then ({ s with wait := s.wait ++ t.text }, [], 0) else if t.blank = true then (s, [], 0) else bad s 11
def lastT (s : St) : St × List Ev × Int :=
  if s.op ≠ [] then bad s 7 else if s.root = false then bad s 11 else ({ s with over := true }, [], 0)
def readT (s : St) (t : Tok) : St × List Ev × Int :=
  if t.kind = 1 then startT s t else if t.kind = 2 then endT s t else if t.kind = 3 then charsT s t else if t.kind = 6 then lastT s else (s, [], 0)
/-- What a token does. -/
def takeF (s : St) (t : Tok) : St × List Ev × Int :=
  if s.over = true then (s, [], 15) else if s.err ≠ 0 then (s, [], s.err) else readT s t

def tokF (k : Tk) : Tok := ⟨k.kind, strOfNums k.text, k.empty, k.blank⟩
def evG (L : List Int) : Nat → Nat → St → List Ev → List Ev × Nat × Int
  | 0, a, _, out => (out, a, 0)
  | f + 1, a, s, out =>
    if (nx L a).2.2 ≠ 0 then (out, a, (nx L a).2.2)
    else if (takeF s (tokF (nx L a).1)).2.2 ≠ 0 then (out, a, (takeF s (tokF (nx L a).1)).2.2)
    else if L.length ≤ a then (out ++ (takeF s (tokF (nx L a).1)).2.1, a, 0)
    else evG L f (a + (nx L a).2.1) (takeF s (tokF (nx L a).1)).1 (out ++ (takeF s (tokF (nx L a).1)).2.1)
/-- The events from a place on: they, where the error's token stands, the error. -/
def evR (L : List Int) (a : Nat) (s : St) (out : List Ev) : List Ev × Nat × Int := evG L (L.length + 1 - a) a s out
def evF (L : List Int) : List Ev × Nat × Int := evR L 0 st0 []
theorem evG_fuel (L : List Int) : ∀ (f g a : Nat) (s : St) (out : List Ev), L.length + 1 ≤ a + f → L.length + 1 ≤ a + g → a ≤ L.length → evG L f a s out = evG L g a s out
  | 0, g, a, s, out, h1, h2, h3 => by omega
  | f + 1, 0, a, s, out, h1, h2, h3 => by omega
  | f + 1, g + 1, a, s, out, h1, h2, h3 => by
    unfold evG
    by_cases c1 : (nx L a).2.2 ≠ 0
    · rw [if_pos c1, if_pos c1]
    rw [if_neg c1, if_neg c1]
    by_cases c2 : (takeF s (tokF (nx L a).1)).2.2 ≠ 0
    · rw [if_pos c2, if_pos c2]
    rw [if_neg c2, if_neg c2]
    by_cases c3 : L.length ≤ a
    · rw [if_pos c3, if_pos c3]
    rw [if_neg c3, if_neg c3]
    have hs := (nx_fit L a (by omega)).size (Decidable.not_not.1 c1)
    rw [List.length_drop] at hs
    exact evG_fuel L f g _ _ _ (by omega) (by omega) (by omega)
theorem ev_unfold (L : List Int) (a : Nat) (s : St) (out : List Ev) (ha : a ≤ L.length) : evR L a s out = evG L ((L.length - a) + 1) a s out := by
  unfold evR; rw [show L.length + 1 - a = (L.length - a) + 1 by omega]
theorem ev_err {L : List Int} {a : Nat} (s : St) (out : List Ev) (ha : a ≤ L.length) (h : (nx L a).2.2 ≠ 0) : evR L a s out = (out, a, (nx L a).2.2) := by
  rw [ev_unfold L a s out ha, evG, if_pos h]
theorem ev_bad {L : List Int} {a : Nat} {s : St} (out : List Ev) (ha : a ≤ L.length) (h : (nx L a).2.2 = 0) (h2 : (takeF s (tokF (nx L a).1)).2.2 ≠ 0) : evR L a s out = (out, a, (takeF s (tokF (nx L a).1)).2.2) := by
  rw [ev_unfold L a s out ha, evG, if_neg (by omega), if_pos h2]
theorem ev_last {L : List Int} {a : Nat} {s : St} (out : List Ev) (ha : a = L.length) (h : (nx L a).2.2 = 0) (h2 : (takeF s (tokF (nx L a).1)).2.2 = 0) : evR L a s out = (out ++ (takeF s (tokF (nx L a).1)).2.1, a, 0) := by
  rw [ev_unfold L a s out (by omega), evG, if_neg (by omega), if_neg (by omega), if_pos (by omega)]
theorem ev_go {L : List Int} {a : Nat} {s : St} (out : List Ev) (ha : a < L.length) (h : (nx L a).2.2 = 0) (h2 : (takeF s (tokF (nx L a).1)).2.2 = 0) :
    evR L a s out = evR L (a + (nx L a).2.1) (takeF s (tokF (nx L a).1)).1 (out ++ (takeF s (tokF (nx L a).1)).2.1) := by
  have hs := (nx_fit L a ha).size h
  rw [List.length_drop] at hs
  rw [ev_unfold L a s out (by omega), evG, if_neg (by omega), if_neg (by omega), if_neg (by omega)]
  unfold evR
  exact evG_fuel L _ _ _ _ _ (by omega) (by omega) (by omega)

theorem bad_e (s : St) (e : Int) : (bad s e).2.2 = e := rfl
/-- A token that is taken without an error leaves none; all is over just behind Last. -/
theorem ent_err {s : St} {t : Tok} {nm : ByteArray} {o : Except Int (List Pr × Pr × List Tr)} (hc : ∀ c, o = .error c → c ≠ 0) (h : (enterT s t nm o).2.2 = 0) : ∃ W n f, o = .ok (W, n, f) ∧ s.op.length < 64 ∧ enterT s t nm o = opened s t nm W n f := by
  match o, hc, h with
  | .error c, hc, h => exact absurd h (hc c rfl)
  | .ok (W, n, f), _, h =>
    unfold enterT at h ⊢
    dsimp only at h ⊢
    by_cases c : 64 ≤ s.op.length
    · rw [if_pos c] at h; exact absurd h (by rw [bad_e]; decide)
    · rw [if_neg c]; exact ⟨W, n, f, rfl, by omega, rfl⟩
theorem att_err (W : List Pr) : ∀ (r : List Pr) (f : List Tr) {c : Int}, Nz.Sc.attF W f r = .error c → c = 8 ∨ c = 9
  | [], f, c, h => by cases h
  | a :: r, f, c, h => by
    unfold Nz.Sc.attF at h
    split at h
    · exact att_err W r f h
    · split at h
      · injection h with h
        exact .inr h.symm
      · split at h
        · injection h with h
          exact .inl h.symm
        · exact att_err W r _ h
theorem entF_err {l : List Pr} {nm : ByteArray} {r : List Pr} {c : Int} (h : Nz.Sc.entF l nm r = .error c) : c = 8 ∨ c = 9 := by
  unfold Nz.Sc.entF at h
  split at h
  · injection h with h; exact .inr h.symm
  · split at h
    · injection h with h; exact .inr h.symm
    · split at h
      · rename_i h2
        injection h with h
        exact h ▸ att_err _ _ _ h2
      · cases h
theorem start_ok {s : St} {t : Tok} (h : (startT s t).2.2 = 0) : ¬ (s.root = true ∧ s.op = []) ∧ (Tg.parF t.text).1 = 0 ∧ ∃ W n f, Nz.Sc.entF (scpF s) (Tg.parF t.text).2.1 (Tg.parF t.text).2.2 = .ok (W, n, f) ∧ s.op.length < 64 ∧ startT s t = opened s t (Tg.parF t.text).2.1 W n f := by
  unfold startT at h ⊢
  by_cases c1 : s.root = true ∧ s.op = []
  · rw [if_pos c1] at h; exact absurd h (by rw [bad_e]; decide)
  rw [if_neg c1] at h ⊢
  by_cases c2 : (Tg.parF t.text).1 ≠ 0
  · rw [if_pos c2] at h; exact absurd h c2
  rw [if_neg c2] at h ⊢
  obtain ⟨W, n, f, h1, h2, h3⟩ := ent_err (fun c hc => by rcases entF_err hc with h | h <;> rw [h] <;> decide) h
  exact ⟨c1, Decidable.not_not.1 c2, W, n, f, h1, h2, h3⟩

/-- How deep events lead, whether there was none, whether the last is a text; none: that can't be. -/
def stepW : Option (Nat × Bool × Bool) → Ev → Option (Nat × Bool × Bool)
  | none, _ => none
  | some (d, z, p), .opn _ _ => if d = 0 ∧ z = false then none else if 64 ≤ d then none else some (d + 1, false, false)
  | some (d, z, p), .txt s => if d = 0 then none else if s.size = 0 ∨ p = true then none else some (d, false, true)
  | some (d, z, p), .cls => if d = 0 then none else some (d - 1, false, false)
def runW (l : List Ev) : Option (Nat × Bool × Bool) := l.foldl stepW (some (0, true, false))
theorem runW_app (l m : List Ev) : runW (l ++ m) = m.foldl stepW (runW l) := List.foldl_append ..
/-- What holds of a reader behind these events. -/
structure Jn (s : St) (out : List Ev) : Prop where
  run : runW out = some (s.op.length, !s.root, false)
  nil : s.root = !out.isEmpty
  dep : s.op.length ≤ 64
  wt : s.op = [] → s.wait.size = 0
  rt : s.op ≠ [] → s.root = true
  ov : s.over = true → s.op = [] ∧ s.root = true
theorem jn0 : Jn st0 [] := ⟨rfl, rfl, by decide, fun _ => rfl, fun h => absurd rfl h, fun h => by cases h⟩
theorem em_size : Nz.em.size = 0 := rfl
theorem told_run {s : St} {out : List Ev} (h : Jn s out) : ∃ p, runW (out ++ toldF s.wait) = some (s.op.length, !s.root, p) := by
  unfold toldF
  by_cases c : s.wait.size = 0
  · rw [if_pos c, List.append_nil]; exact ⟨_, h.run⟩
  · rw [if_neg c, runW_app, h.run]
    have hop : s.op ≠ [] := fun e => c (h.wt e)
    have hl : s.op.length ≠ 0 := fun e => hop (List.eq_nil_of_length_eq_zero e)
    refine ⟨true, ?_⟩
    rw [h.rt hop]
    simp [stepW, hl, c]
theorem open_jn {s : St} {out : List Ev} {t : Tok} {nm : ByteArray} {W : List Pr} {n : Pr} {f : List Tr} (h : Jn s out) (hr : ¬ (s.root = true ∧ s.op = [])) (hl : s.op.length < 64) : Jn (opened s t nm W n f).1 (out ++ (opened s t nm W n f).2.1) := by
  obtain ⟨p, hp⟩ := told_run h
  have h1 : runW (out ++ toldF s.wait ++ [.opn n f]) = some (s.op.length + 1, false, false) := by
    rw [runW_app, hp]
    simp only [List.foldl_cons, List.foldl_nil, stepW]
    rw [if_neg, if_neg (by omega)]
    rintro ⟨e1, e2⟩
    exact hr ⟨by simpa using e2, List.eq_nil_of_length_eq_zero e1⟩
  have hov : s.over = true → False := fun hov => hr ⟨(h.ov hov).2, (h.ov hov).1⟩
  unfold opened
  by_cases c : t.empty = true
  · rw [if_pos c]
    refine ⟨?_, by simp, h.dep, fun _ => rfl, fun _ => rfl, fun e => (hov e).elim⟩
    show runW (out ++ (toldF s.wait ++ [.opn n f, .cls])) = _
    rw [show out ++ (toldF s.wait ++ [.opn n f, .cls]) = (out ++ toldF s.wait ++ [.opn n f]) ++ [.cls] by simp, runW_app, h1]
    simp [stepW]
  · rw [if_neg c]
    refine ⟨?_, by simp, by simp; omega, fun _ => rfl, fun _ => rfl, fun e => (hov e).elim⟩
    show runW (out ++ (toldF s.wait ++ [.opn n f])) = _
    rw [← List.append_assoc, h1]
    simp
theorem getLast_map {α β : Type} {l : List α} {g : α → β} {y : β} (h : l.getLast?.map g = some y) : l ≠ [] := by
  rintro rfl
  simp at h
/-- What a token leaves, where it has no error. -/
theorem take_jn {s : St} {out : List Ev} {t : Tok} (h : Jn s out) (h0 : (takeF s t).2.2 = 0) : Jn (takeF s t).1 (out ++ (takeF s t).2.1) ∧ (takeF s t).1.over = decide (t.kind = 6) ∧ (takeF s t).1.err = 0 ∧ s.over = false := by
  unfold takeF at h0 ⊢
  by_cases c1 : s.over = true
  · rw [if_pos c1] at h0; exact absurd h0 (show ¬ ((15 : Int) = 0) by decide)
  rw [if_neg c1] at h0 ⊢
  by_cases c2 : s.err ≠ 0
  · rw [if_pos c2] at h0; exact absurd h0 c2
  rw [if_neg c2] at h0 ⊢
  have he : s.err = 0 := Decidable.not_not.1 c2
  have hv : s.over = false := by simpa using c1
  unfold readT at h0 ⊢
  by_cases k1 : t.kind = 1
  · rw [if_pos k1] at h0 ⊢
    obtain ⟨a1, a2, W, n, f, a3, a4, a5⟩ := start_ok h0
    rw [a5]
    refine ⟨open_jn h a1 a4, ?_, ?_, hv⟩
    · unfold opened; split <;> simp [hv, k1]
    · unfold opened; split <;> exact he
  rw [if_neg k1] at h0 ⊢
  by_cases k2 : t.kind = 2
  · rw [if_pos k2] at h0 ⊢
    unfold endT at h0 ⊢
    by_cases c3 : inner s = some t.text
    · rw [if_pos c3]
      have hop : s.op ≠ [] := getLast_map c3
      obtain ⟨p, hp⟩ := told_run h
      have hl : s.op.length ≠ 0 := fun e => hop (List.eq_nil_of_length_eq_zero e)
      refine ⟨⟨?_, by simp [h.rt hop], by simp; have := h.dep; omega, fun _ => rfl, fun _ => h.rt hop, fun e => by rw [show s.over = true from e] at hv; cases hv⟩, ?_, he, hv⟩
      · show runW (out ++ (toldF s.wait ++ [.cls])) = _
        rw [← List.append_assoc, runW_app, hp]
        simp [stepW, hl, h.rt hop]
      · simp [hv, k2]
    · rw [if_neg c3] at h0; exact absurd h0 (by rw [bad_e]; decide)
  rw [if_neg k2] at h0 ⊢
  by_cases k3 : t.kind = 3
  · rw [if_pos k3] at h0 ⊢
    unfold charsT at h0 ⊢
    by_cases c3 : s.op ≠ []
    · rw [if_pos c3]
      refine ⟨⟨by simpa using h.run, by simpa using h.nil, h.dep, fun e => absurd e c3, h.rt, h.ov⟩, by simp [hv, k3], he, hv⟩
    · rw [if_neg c3] at h0 ⊢
      by_cases c4 : t.blank = true
      · rw [if_pos c4]
        exact ⟨by simpa using h, by simp [hv, k3], he, hv⟩
      · rw [if_neg c4] at h0; exact absurd h0 (by rw [bad_e]; decide)
  rw [if_neg k3] at h0 ⊢
  by_cases k6 : t.kind = 6
  · rw [if_pos k6] at h0 ⊢
    unfold lastT at h0 ⊢
    by_cases c3 : s.op ≠ []
    · rw [if_pos c3] at h0; exact absurd h0 (by rw [bad_e]; decide)
    rw [if_neg c3] at h0 ⊢
    by_cases c4 : s.root = false
    · rw [if_pos c4] at h0; exact absurd h0 (by rw [bad_e]; decide)
    rw [if_neg c4]
    refine ⟨⟨by simpa using h.run, by simpa using h.nil, h.dep, h.wt, h.rt, fun _ => ⟨Decidable.not_not.1 c3, by simpa using c4⟩⟩, by simp [k6], he, hv⟩
  · rw [if_neg k6]
    exact ⟨by simpa using h, by simp [hv, k6], he, hv⟩
/-- The events of a text are those of a beginning of a document; of a whole one, if there is no error. -/
theorem ev_word (L : List Int) : ∀ (d a : Nat) (s : St) (out : List Ev), L.length - a ≤ d → a ≤ L.length → Jn s out → ∃ n z p, runW (evR L a s out).1 = some (n, z, p) ∧ ((evR L a s out).2.2 = 0 → n = 0 ∧ z = false)
  | d, a, s, out, hd, ha, h => by
    by_cases c1 : (nx L a).2.2 = 0
    · by_cases c2 : (takeF s (tokF (nx L a).1)).2.2 = 0
      · have hj := take_jn h c2
        by_cases c3 : L.length ≤ a
        · rw [ev_last out (by omega) c1 c2]
          refine ⟨_, _, _, hj.1.run, fun _ => ?_⟩
          have hk : (nx L a).1.kind = 6 := (nx_kind L a c1).2 c3
          have ho := hj.2.1
          have := hj.1.ov (by rw [ho]; exact decide_eq_true hk)
          rw [this.1, this.2]
          exact ⟨rfl, rfl⟩
        · have hs := (nx_fit L a (by omega)).size c1
          rw [List.length_drop] at hs
          rw [ev_go out (by omega) c1 c2]
          cases d with
          | zero => omega
          | succ d => exact ev_word L d _ _ _ (by omega) (by omega) hj.1
      · rw [ev_bad out ha c1 c2]
        exact ⟨_, _, _, h.run, fun e => absurd e c2⟩
    · rw [ev_err s out ha c1]
      exact ⟨_, _, _, h.run, fun e => absurd e c1⟩
theorem evF_word (L : List Int) : ∃ n z p, runW (evF L).1 = some (n, z, p) ∧ ((evF L).2.2 = 0 → n = 0 ∧ z = false) := ev_word L _ 0 st0 [] (Nat.le_refl _) (Nat.zero_le _) jn0
theorem run_none (m : List Ev) : m.foldl stepW none = none := by
  induction m with
  | nil => rfl
  | cons a m ih => exact ih
end Go.Proofs.YtkeilgompipfjaaGreatDoor.Wl

/- Memory: slices of pairs and of triples of texts, read and owned. -/
set_option linter.unusedSimpArgs false
set_option linter.unusedVariables false
namespace Go.Proofs.YtkeilgompipfjaaGreatDoor.Nz.Sc
open Go.RowKit

section
variable {α : Type} {f : α → List Value} {z : Nat}
theorem cel_len (hz : ∀ x, (f x).length = z) (l : List α) : (l.flatMap f).length = l.length * z := by
  induction l with
  | nil => simp
  | cons x l ih => rw [List.flatMap_cons, List.length_append, hz, ih, List.length_cons, Nat.add_mul, Nat.one_mul, Nat.add_comm]
theorem cel_get (hz : ∀ x, (f x).length = z) : ∀ (l : List α) (k i : Nat) (t : α), l[k]? = some t → i < z → (l.flatMap f)[k * z + i]? = (f t)[i]?
  | [], k, i, t, h, _ => by simp at h
  | x :: l, 0, i, t, h, hi => by
    have : x = t := by simpa using h
    subst this
    rw [List.flatMap_cons, Nat.zero_mul, Nat.zero_add, List.getElem?_append_left (by rw [hz]; exact hi)]
  | x :: l, k + 1, i, t, h, hi => by
    have h' : l[k]? = some t := by simpa using h
    have e : (k + 1) * z + i - z = k * z + i := by rw [Nat.add_mul, Nat.one_mul]; omega
    rw [List.flatMap_cons, List.getElem?_append_right (by rw [hz, Nat.add_mul, Nat.one_mul]; omega), hz, e]
    exact cel_get hz l k i t h' hi
end

def rwC (x : P2) : List Value := [.string x.1, .string x.2]
def rwL (l : List P2) : List Value := l.flatMap rwC
theorem rwC_len (x : P2) : (rwC x).length = 2 := rfl
theorem rwL_len (l : List P2) : (rwL l).length = l.length * 2 := cel_len rwC_len l
theorem rwL_get (l : List P2) (k i : Nat) (t : P2) (h : l[k]? = some t) (hi : i < 2) : (rwL l)[k * 2 + i]? = (rwC t)[i]? := cel_get rwC_len l k i t h hi
theorem rwL_app (l : List P2) (t : P2) : rwL (l ++ [t]) = rwL l ++ rwC t := by unfold rwL; simp
theorem rw_one (x : P2) : ∀ u ∈ rwC x, u.oneCell' = true := by
  intro u hu
  unfold rwC at hu
  simp only [List.mem_cons, List.not_mem_nil, or_false] at hu
  rcases hu with rfl | rfl <;> rfl
/-- The slice at A reads as these pairs. -/
def RdR (w : World) (A : Option Addr) (l : List P2) : Prop :=
  ∀ k x, l[k]? = some x → ∃ b off, A = some ⟨b, off, none⟩ ∧ b < w.heap.size ∧ w.cell? ⟨b, off + k * 2, none⟩ = some (.string x.1) ∧ w.cell? ⟨b, off + k * 2 + 1, none⟩ = some (.string x.2)
/-- A row of the call's own that holds these pairs (of type e). -/
def OwnP (e : TypeId) (w : World) (B : Nat) (v : Value) (l : List P2) : Prop := w.ownsRow B e 2 v l.length (rwL l)
theorem own_rdR {e : TypeId} {w : World} {B : Nat} {v : Value} {l : List P2} (h : OwnP e w B v l) : ∃ A c, v = .slice A l.length c ∧ RdR w A l ∧ (A = none → l.length = 0 ∧ c = 0) ∧ ∀ b off, A = some ⟨b, off, none⟩ → B ≤ b := by
  have h' : w.ownsRow B e 2 v l.length (rwL l) := h
  rcases h'.2 with ⟨rfl, h0⟩ | ⟨g, cap, cur, rfl, hB, _⟩
  · refine ⟨none, 0, by rw [h0], fun k x hk => ?_, fun _ => ⟨h0, rfl⟩, fun b off hh => by cases hh⟩
    rw [List.eq_nil_of_length_eq_zero h0] at hk
    simp at hk
  · refine ⟨_, cap, rfl, fun k x hk => ⟨g, 0, rfl, (h'.lt g rfl).2, ?_⟩, (fun hh => by cases hh), (fun b off hh => by cases hh; exact hB)⟩
    have hlt : k < l.length := (List.getElem?_eq_some_iff.1 hk).1
    exact ⟨by rw [Nat.zero_add]; exact (h'.cellAt (k * 2) (by omega)).trans (rwL_get l k 0 x hk (by omega)), by rw [Nat.zero_add]; exact (h'.cellAt (k * 2 + 1) (by omega)).trans (rwL_get l k 1 x hk (by omega))⟩
theorem RdR.keep {w w' : World} {A : Option Addr} {l : List P2} (h : RdR w A l) (hb : Below w.heap.size w w') : RdR w' A l := fun k t hk => by
  obtain ⟨b, o, e, hlt, c0, c1⟩ := h k t hk
  exact ⟨b, o, e, Nat.lt_of_lt_of_le hlt hb.size, (hb.cell (p := ⟨b, o + k * 2, none⟩) hlt).trans c0, (hb.cell (p := ⟨b, o + k * 2 + 1, none⟩) hlt).trans c1⟩
theorem RdR.keepG {w w' : World} {A : Option Addr} {l : List P2} {row : Option Nat} (h : RdR w A l) (hg : w.grownBy w' row) (hne : ∀ b off, A = some ⟨b, off, none⟩ → some b ≠ row) : RdR w' A l := fun k x hk => by
  obtain ⟨b, o, e, hlt, c0, c1⟩ := h k x hk
  have hn := hne b o e
  exact ⟨b, o, e, Nat.lt_of_lt_of_le hlt hg.size, hg.cell c0 hn, hg.cell c1 hn⟩
theorem RdR.cells {w : World} {ad : Addr} {l : List P2} (h : RdR w (some ad) l) : ∀ j u, (rwL l)[j]? = some u → w.cell? (ad.add j) = some u := by
  intro j u hu
  have hj := (List.getElem?_eq_some_iff.1 hu).1
  rw [rwL_len] at hj
  have hk : j / 2 < l.length := by omega
  obtain ⟨b, off, e, _, c0, c1⟩ := h (j / 2) _ (List.getElem?_eq_getElem hk)
  injection e with e
  subst e
  rw [Addr.add_lit]
  rcases Nat.mod_two_eq_zero_or_one j with hm | hm
  · have g := rwL_get l (j / 2) 0 _ (List.getElem?_eq_getElem hk) (by omega)
    rw [show j / 2 * 2 + 0 = j by omega, hu] at g
    rw [g, show off + j = off + j / 2 * 2 by omega, c0]
    rfl
  · have g := rwL_get l (j / 2) 1 _ (List.getElem?_eq_getElem hk) (by omega)
    rw [show j / 2 * 2 + 1 = j by omega, hu] at g
    rw [g, show off + j = off + j / 2 * 2 + 1 by omega, c1]
    rfl
def tC (x : P3) : List Value := [.string x.1.1, .string x.1.2, .string x.2]
def tL (l : List P3) : List Value := l.flatMap tC
theorem tC_len (x : P3) : (tC x).length = 3 := rfl
theorem tL_get (l : List P3) (k i : Nat) (t : P3) (h : l[k]? = some t) (hi : i < 3) : (tL l)[k * 3 + i]? = (tC t)[i]? := cel_get tC_len l k i t h hi
theorem tL_app (l : List P3) (t : P3) : tL (l ++ [t]) = tL l ++ tC t := by unfold tL; simp
theorem t_one (x : P3) : ∀ u ∈ tC x, u.oneCell' = true := by
  intro u hu
  unfold tC at hu
  simp only [List.mem_cons, List.not_mem_nil, or_false] at hu
  rcases hu with rfl | rfl | rfl <;> rfl
/-- The slice at A reads as these attributes. -/
def RdT (w : World) (A : Option Addr) (l : List P3) : Prop :=
  ∀ k x, l[k]? = some x → ∃ b off, A = some ⟨b, off, none⟩ ∧ b < w.heap.size ∧ w.cell? ⟨b, off + k * 3, none⟩ = some (.string x.1.1) ∧ w.cell? ⟨b, off + k * 3 + 1, none⟩ = some (.string x.1.2) ∧ w.cell? ⟨b, off + k * 3 + 2, none⟩ = some (.string x.2)
def OwnT (w : World) (B : Nat) (v : Value) (l : List P3) : Prop := w.ownsRow B 90 3 v l.length (tL l)
theorem own_rdT {w : World} {B : Nat} {v : Value} {l : List P3} (h : OwnT w B v l) : ∃ A c, v = .slice A l.length c ∧ RdT w A l ∧ (A = none → l.length = 0 ∧ c = 0) ∧ ∀ b off, A = some ⟨b, off, none⟩ → B ≤ b := by
  have h' : w.ownsRow B 90 3 v l.length (tL l) := h
  rcases h'.2 with ⟨rfl, h0⟩ | ⟨g, cap, cur, rfl, hB, _⟩
  · refine ⟨none, 0, by rw [h0], fun k x hk => ?_, fun _ => ⟨h0, rfl⟩, fun b off hh => by cases hh⟩
    rw [List.eq_nil_of_length_eq_zero h0] at hk
    simp at hk
  · refine ⟨_, cap, rfl, fun k x hk => ⟨g, 0, rfl, (h'.lt g rfl).2, ?_⟩, (fun hh => by cases hh), (fun b off hh => by cases hh; exact hB)⟩
    have hlt : k < l.length := (List.getElem?_eq_some_iff.1 hk).1
    exact ⟨by rw [Nat.zero_add]; exact (h'.cellAt (k * 3) (by omega)).trans (tL_get l k 0 x hk (by omega)), by rw [Nat.zero_add]; exact (h'.cellAt (k * 3 + 1) (by omega)).trans (tL_get l k 1 x hk (by omega)), by rw [Nat.zero_add]; exact (h'.cellAt (k * 3 + 2) (by omega)).trans (tL_get l k 2 x hk (by omega))⟩
theorem RdT.keep {w w' : World} {A : Option Addr} {l : List P3} (h : RdT w A l) (hb : Below w.heap.size w w') : RdT w' A l := fun k t hk => by
  obtain ⟨b, o, e, hlt, c0, c1, c2⟩ := h k t hk
  exact ⟨b, o, e, Nat.lt_of_lt_of_le hlt hb.size, (hb.cell (p := ⟨b, o + k * 3, none⟩) hlt).trans c0, (hb.cell (p := ⟨b, o + k * 3 + 1, none⟩) hlt).trans c1, (hb.cell (p := ⟨b, o + k * 3 + 2, none⟩) hlt).trans c2⟩
/-- A slice of texts. -/
def RdS (w : World) (A : Option Addr) (l : List ByteArray) : Prop :=
  ∀ k x, l[k]? = some x → ∃ b off, A = some ⟨b, off, none⟩ ∧ b < w.heap.size ∧ w.cell? ⟨b, off + k, none⟩ = some (.string x)
theorem RdS.keep {w w' : World} {A : Option Addr} {l : List ByteArray} (h : RdS w A l) (hb : Below w.heap.size w w') : RdS w' A l := fun k t hk => by
  obtain ⟨b, o, e, hlt, c0⟩ := h k t hk
  exact ⟨b, o, e, Nat.lt_of_lt_of_le hlt hb.size, (hb.cell (p := ⟨b, o + k, none⟩) hlt).trans c0⟩
theorem own_keep {e : TypeId} {z n : Nat} {w w' : World} {B : Nat} {v : Value} {xs : List Value} (h : w.ownsRow B e z v n xs) (hb : Below w.heap.size w w') : w'.ownsRow B e z v n xs :=
  h.kept (row := none) ⟨hb.os, hb.tape, hb.output, hb.size, fun k hk _ => hb.block k hk⟩ (by
    rcases h.2 with ⟨rfl, _⟩ | ⟨g, cap, cur, rfl, _⟩
    · exact .inl rfl
    · exact .inr (by simp [Value.ownBlock]))
theorem own_ne {w : World} {B : Nat} {e T : TypeId} {z : Nat} {v : Value} {n : Nat} {xs : List Value} {b : Nat} {cs : Array Value} {fr : Nat × Nat} (hown : w.ownsRow B e z v n xs) (hb : w.heap[b]? = some (.cells cs T fr)) (hTe : T ≠ e) : v.ownBlock ≠ some b := by
  rcases hown.2 with ⟨rfl, _⟩ | ⟨g, cap, cur, rfl, _, hg, _⟩
  · simp [Value.ownBlock]
  · intro h
    simp only [Value.ownBlock, Option.some.injEq] at h
    subst h
    rw [hg] at hb
    injection hb with hb
    injection hb with _ h2 _
    exact hTe h2.symm
theorem own_shape {w : World} {B : Nat} {e : TypeId} {z n : Nat} {v : Value} {xs : List Value} (h : w.ownsRow B e z v (n + 1) xs) : ∃ g cap, v = .slice (some ⟨g, 0, none⟩) (n + 1) cap := by
  rcases h.2 with ⟨_, h0⟩ | ⟨g, cap, cur, rfl, _⟩
  · omega
  · exact ⟨g, cap, rfl⟩
theorem own_slice {w : World} {B : Nat} {e : TypeId} {z n : Nat} {v : Value} {xs : List Value} (h : w.ownsRow B e z v n xs) : ∃ A cap, v = .slice A n cap := by
  rcases h.2 with ⟨rfl, h0⟩ | ⟨g, cap, cur, rfl, _⟩
  · exact ⟨none, 0, by rw [h0]⟩
  · exact ⟨_, cap, rfl⟩
/-- An append to a row of the call's own, as one step of a region that draws its order. -/
theorem step_append_own {P : Program} {ops : Array Oper} {o : Oper} {a : Act} {w : World} {K : Act → World → Prop} {Q : Exit → Act → World → Prop} {E : Prop}
    (hg : o.guard = none) (s x : Operand) (t : TypeId) (hop : o.op = Op.call { callee := Callee.builtin Builtin.append, args := #[s, x], argTypes := #[t, t] })
    (base : Nat) (e : TypeId) (i : TypeInfo) (z : Value) (size bytes : Nat) (h1 : P.underlying t = some (.slice e)) (h2 : P.info? e = some i) (h3 : i.zero = some z) (h4 : i.size = size) (h5 : i.bytes = bytes) (h6 : z.cells.size = size) (h7 : 0 < size)
    (v : Value) (n : Nat) (xs : List Value) (hs : a.eval s = v) (hown : w.ownsRow base e size v n xs)
    (ad : Addr) (m c : Nat) (news : List Value) (hx : a.eval x = .slice (some ad) m c) (hn : news.length = m * size) (hc : ∀ j u, news[j]? = some u → w.cell? (ad.add j) = some u) (h1c : ∀ u ∈ news, u.oneCell' = true)
    (b1 : n + m ≤ maxLen) (b2 : (n + m) * bytes ≤ 140737488355328) (hb : base ≤ w.heap.size)
    (hK : ∀ v' w', w'.ownsRow base e size v' (n + m) (xs ++ news) → w.grownBy w' v.ownBlock → K (a.put o.dst v') w') :
    if Region.wanted o (yielded ops a.tmps) = true then Oper.wp P o a w K Q else E := by
  have hw : Region.wanted o (yielded ops a.tmps) = true := by simp [Region.wanted, hg]
  rw [if_pos hw]
  obtain ⟨v', w', hrun, r1, r2, _⟩ := run_append_own (P := P) w base t o.type e i z size bytes h1 h2 h3 h4 h5 h6 h7 v n xs hown ad m c news hn hc h1c b1 b2 hb
  unfold Oper.wp
  simp [execOp, hop, resolve, invoke, builtin, hs, hx, hrun, Result.andThen]
  exact hK v' w' r1 r2
theorem Tryz.info138 : (Tryz.prog.info? 138).map (fun i => (i.zero, i.size, i.bytes)) = some (some (.agg #[.string ⟨#[]⟩, .string ⟨#[]⟩]), 2, 32) := by kernel_rfl
theorem Tryz.info30 : (Tryz.prog.info? 30).map (fun i => (i.zero, i.size, i.bytes)) = some (some (.agg #[.string ⟨#[]⟩, .string ⟨#[]⟩]), 2, 32) := by kernel_rfl
theorem Tryz.info141 : (Tryz.prog.info? 141).map (fun i => (i.zero, i.size, i.bytes)) = some (some (.agg #[.string ⟨#[]⟩, .string ⟨#[]⟩]), 2, 32) := by kernel_rfl
theorem Tryz.info90 : (Tryz.prog.info? 90).map (fun i => (i.zero, i.size, i.bytes)) = some (some (.agg #[.string ⟨#[]⟩, .string ⟨#[]⟩, .string ⟨#[]⟩]), 3, 48) := by kernel_rfl
theorem cells_of {W : World} {b : Nat} {cs : Array Value} {T : TypeId} {fz : Nat × Nat} (h : W.heap[b]? = some (.cells cs T fz)) (j : Nat) {u : Value} (hu : cs[j]? = some u) : W.cell? ⟨b, j, none⟩ = some u := (Lib.cell_of_heap h j).trans hu
theorem froz_of {W : World} {b : Nat} {cs : Array Value} {T : TypeId} (h : W.heap[b]? = some (.cells cs T (0, 0))) (j : Nat) : W.frozen? ⟨b, j, none⟩ = false := by
  unfold World.frozen?
  rw [h]
  simp
theorem cells5 {W : World} {b : Nat} {a0 a1 a2 a3 a4 : Value} {T : TypeId} {fz : Nat × Nat} (h : W.heap[b]? = some (.cells #[a0, a1, a2, a3, a4] T fz)) : W.cell? ⟨b, 0, none⟩ = some a0 ∧ W.cell? ⟨b, 1, none⟩ = some a1 ∧ W.cell? ⟨b, 2, none⟩ = some a2 ∧ W.cell? ⟨b, 3, none⟩ = some a3 ∧ W.cell? ⟨b, 4, none⟩ = some a4 := ⟨cells_of h 0 rfl, cells_of h 1 rfl, cells_of h 2 rfl, cells_of h 3 rfl, cells_of h 4 rfl⟩
theorem froz5 {W : World} {b : Nat} {cs : Array Value} {T : TypeId} (h : W.heap[b]? = some (.cells cs T (0, 0))) : W.frozen? ⟨b, 0, none⟩ = false ∧ W.frozen? ⟨b, 1, none⟩ = false ∧ W.frozen? ⟨b, 2, none⟩ = false ∧ W.frozen? ⟨b, 3, none⟩ = false ∧ W.frozen? ⟨b, 4, none⟩ = false := ⟨froz_of h 0, froz_of h 1, froz_of h 2, froz_of h 3, froz_of h 4⟩
theorem set2_0 {W : World} {b : Nat} {u : Value} (x y : Value) (h0 : W.cell? ⟨b, 0, none⟩ = some u) : ((W.setCell ⟨b, 0, none⟩ x).setCell ⟨b, 1, none⟩ y).cell? ⟨b, 0, none⟩ = some x := by
  have h1 : (⟨b, 1, none⟩ : Addr) ≠ ⟨b, 0, none⟩ := by simp
  have h2 := World.cell?_setCell_same' W ⟨b, 0, none⟩ x (by rw [h0]; rfl)
  rw [← h2]
  exact World.cell?_setCell_other (h := h1) ..
theorem set2_1 {W : World} {b : Nat} {v : Value} (x y : Value) (h1 : W.cell? ⟨b, 1, none⟩ = some v) : ((W.setCell ⟨b, 0, none⟩ x).setCell ⟨b, 1, none⟩ y).cell? ⟨b, 1, none⟩ = some y := by
  have h0 : (⟨b, 0, none⟩ : Addr) ≠ ⟨b, 1, none⟩ := by simp
  refine World.cell?_setCell_same' _ _ _ ?_
  have h2 : (W.setCell ⟨b, 0, none⟩ x).cell? ⟨b, 1, none⟩ = W.cell? ⟨b, 1, none⟩ := World.cell?_setCell_other (h := h0) ..
  rw [h2, h1]
  rfl
/-- The new block's cells. -/
theorem new_cells (W : World) (cs : Array Value) (T : TypeId) : ∀ j u, cs.toList[j]? = some u → (W.alloc (.cells cs T)).cell? ((⟨W.heap.size, 0, none⟩ : Addr).add j) = some u := fun j u hu => by
  rw [Addr.add_lit, Nat.zero_add, Lib.cell_of_heap (heap_alloc_new W (.cells cs T))]
  simpa using hu
end Go.Proofs.YtkeilgompipfjaaGreatDoor.Nz.Sc

/- The walks of strings.Clone, scope.copied and scope.New. -/
set_option linter.unusedSimpArgs false
set_option linter.unusedVariables false
namespace Go.Proofs.YtkeilgompipfjaaGreatDoor.Nz.Sc
open Go.RowKit

theorem info5 : (Tryz.prog.info? 5).map (fun i => (i.zero, i.size, i.bytes)) = some (some (.int .u8 0), 1, 1) := by kernel_rfl
set_option maxHeartbeats 2000000 in
set_option maxRecDepth 100000 in
theorem clone0_any (s : ByteArray) (w : World) (hlim : s.size ≤ 140737488351232) :
    Calls Tryz.prog 115 #[.string s] w fun e w' => e = .returned (.string s) ∧ Below w.heap.size w w' := by
  by_cases h0 : s.size = 0
  · have hs : s = ⟨#[]⟩ := by
      apply ByteArray.ext
      exact Array.eq_empty_of_size_eq_zero h0
    subst hs
    go_enter Tryz.func115, Tryz.ntmps115
    go_wp2
    go_ret
    exact ⟨rfl, Below.refl _ _⟩
  · obtain ⟨i0, hi, hz0, hz1, hz2⟩ := info_parts info5
    have hinfo : (Tryz.prog.info? 5).map (·.size) = some 1 := by rw [hi]; simp [hz1]
    have hco : Tryz.prog.cellsOf 5 = 1 := by kernel_rfl
    obtain ⟨M, hM⟩ : ∃ M, M = madeCells (Value.int .u8 0).cells (((s.size : Nat) : Int).toNat * i0.size) := ⟨_, rfl⟩
    have hMs : M.size = s.size := by rw [hM, size_madeCells, hz1]; simp
    have hmk : ∀ W : World, (Instr.makeSlice 49 (.int .i64 (s.size : Int)) (.int .i64 (s.size : Int))).run Tryz.prog W = .ok (.slice (some ⟨W.heap.size, 0, none⟩) s.size s.size) (W.alloc (.cells M 5)) := fun W => by
      have h := run_make (P := Tryz.prog) W 49 5 i0 (.int .u8 0) Tryz.underlying49 hi hz0 .i64 .i64 (s.size : Int) (s.size : Int) (by omega) (by omega) (by rw [hz2]; omega) (by omega)
      rw [← hM] at h
      simpa using h
    clear hM
    have hcp := Lib.run_copy_row_string (P := Tryz.prog) (w.alloc (.cells M 5)) 49 9 3 5 w.heap.size 0 s.size s.size s M 5 Tryz.underlying49 hinfo (heap_alloc_new w _) (Nat.le_refl _) (by omega)
    obtain ⟨Y, hY⟩ : ∃ Y, Y = (M.toList.take 0 ++ Lib.byteCells s.data.toList ++ M.toList.drop (0 + s.size)).toArray := ⟨_, rfl⟩
    rw [← hY] at hcp
    have hYl : Y.toList = Lib.byteCells s.data.toList := by
      rw [hY, List.toList_toArray, List.take_zero, List.nil_append, List.drop_of_length_le (by rw [Array.length_toList]; omega), List.append_nil]
    have hYs : Y.size = s.size := by rw [← Array.length_toList, hYl, Lib.byteCells_length, ← Lib.size_eq]
    have hgY : ((w.alloc (.cells M 5)).setRow w.heap.size Y).heap[w.heap.size]? = some (.cells Y 5 (0, 0)) := setRow_heap _ _ M _ 5 (0, 0) (heap_alloc_new w _)
    have hne : s.data.toList ≠ [] := fun e => h0 (by rw [Lib.size_eq, e]; rfl)
    have hUS := Lib.run_unsafeString_row (P := Tryz.prog) ((w.alloc (.cells M 5)).setRow w.heap.size Y) 185 3 9 5 Tryz.underlying185 hco w.heap.size Y.size (by unfold World.shape?; rw [hgY]) s.data.toList hne (by rw [← Lib.size_eq]; omega) (by rw [← Lib.size_eq]; omega)
      (fun j x hx => Lib.cells_of_row hgY Y.size j _ (by rw [List.take_of_length_le (by rw [Array.length_toList]; exact Nat.le_refl _), hYl]; simp [Lib.byteCells, hx]))
    rw [← Lib.size_eq] at hUS
    clear hY
    go_enter Tryz.func115, Tryz.ntmps115
    go_wp2
    go_ret
    have hb1 : Below w.heap.size w (w.alloc (.cells M 5)) := (Below.refl _ w).alloc (Nat.le_refl _) _
    have hb2 : Below w.heap.size (w.alloc (.cells M 5)) ((w.alloc (.cells M 5)).setRow w.heap.size Y) := ⟨rfl, rfl, rfl, by simp, fun k hk => setRow_other _ _ _ _ (by omega)⟩
    exact ⟨rfl, Lib.below_freeze (hb1.trans hb2) (p := ⟨w.heap.size, 0, none⟩) (Nat.le_refl _) _⟩
set_option maxRecDepth 100000 in
theorem clone_any (s : ByteArray) (w : World) (hlim : s.size ≤ Lim) :
    Calls Tryz.prog 90 #[.string s] w fun e w' => e = .returned (.string s) ∧ Below w.heap.size w w' := by
  have C := Lib.hid (clone0_any s w hlim)
  clear hlim
  go_enter Tryz.func90, Tryz.ntmps90
  go_wp2_with (go_at_call 115; refine C.out.mono ?_; rintro e w' ⟨rfl, hb⟩)
  go_ret
  exact ⟨rfl, hb⟩
theorem Tryz.results84 : Tryz.f84.results = #[ResultVar.cell 2 138] := by kernel_rfl
def CpS (w : World) (W : World) : Prop := (∃ a b, W.heap[w.heap.size + 1]? = some (.cells #[a, b] 138 (0, 0))) ∧ Below w.heap.size w W
theorem CpS.lt {w W : World} (h : CpS w W) : w.heap.size + 1 < W.heap.size := by
  obtain ⟨⟨a, b, h⟩, _⟩ := h
  exact (Array.getElem?_eq_some_iff.1 h).1
theorem CpS.keep {w W W' : World} (h : CpS w W) (hb : Below W.heap.size W W') : CpS w W' := by
  have hl := h.lt
  obtain ⟨⟨a, b, h⟩, h2⟩ := h
  exact ⟨⟨a, b, (hb.block _ hl).trans h⟩, h2.trans (hb.mono h2.size)⟩
theorem cps_start (w : World) (p s : ByteArray) : CpS w ((w.alloc (.cells #[.string p, .string s] 138)).alloc (.cells #[.string ⟨#[]⟩, .string ⟨#[]⟩] 138)).drew := by
  refine ⟨⟨.string ⟨#[]⟩, .string ⟨#[]⟩, ?_⟩, (((Below.refl _ w).alloc (Nat.le_refl _) _).alloc (by simp) _).drew⟩
  have := heap_alloc_new (w.alloc (.cells #[.string p, .string s] 138)) (.cells #[.string ⟨#[]⟩, .string ⟨#[]⟩] 138)
  rw [World.size_alloc] at this
  exact this
def CpA (w : World) (p s : Value) (W : World) : Prop := W.cell? ⟨w.heap.size, 0, none⟩ = some p ∧ W.cell? ⟨w.heap.size, 1, none⟩ = some s ∧ Hid (CpS w W)
theorem cps_next {w W w2 : World} {p s : Value} (hb : Below W.heap.size W w2) (h : CpA w p s W) : CpA w p s w2 := by
  have hl := h.2.2.out.lt
  exact ⟨(hb.cell (p := ⟨w.heap.size, 0, none⟩) (show w.heap.size < _ by omega)).trans h.1, (hb.cell (p := ⟨w.heap.size, 1, none⟩) (show w.heap.size < _ by omega)).trans h.2.1, Lib.hid (h.2.2.out.keep hb)⟩
theorem cps_put {w W : World} {p s : Value} (h : CpA w p s W) (x y : Value) : CpA w p s ((W.setCell ⟨w.heap.size + 1, 0, none⟩ x).setCell ⟨w.heap.size + 1, 1, none⟩ y) := by
  obtain ⟨h1, h2, h3⟩ := h
  obtain ⟨⟨a, b, h4⟩, h5⟩ := h3.out
  refine ⟨by rw [World.cell?_setCell_far _ _ _ _ (by simp), World.cell?_setCell_far _ _ _ _ (by simp)]; exact h1, by rw [World.cell?_setCell_far _ _ _ _ (by simp), World.cell?_setCell_far _ _ _ _ (by simp)]; exact h2, Lib.hid ⟨⟨x, y, by simp [World.setCell, Array.getElem?_modify, h4]⟩, (h5.setCell (p := ⟨w.heap.size + 1, 0, none⟩) (by simp) _).setCell (p := ⟨w.heap.size + 1, 1, none⟩) (by simp) _⟩⟩
set_option maxHeartbeats 4000000 in
set_option maxRecDepth 100000 in
theorem copied_any (p s : ByteArray) (w : World) (hp : p.size ≤ Lim) (hs : s.size ≤ Lim) :
    Calls Tryz.prog 84 #[.agg #[.string p, .string s]] w fun e w' => e = .returned (.agg #[.string p, .string s]) ∧ Below w.heap.size w w' := by
  have CP := Lib.hid (fun W => clone_any p W hp)
  have CS := Lib.hid (fun W => clone_any s W hs)
  have H0 := Lib.hid (cps_start w p s)
  clear hp hs
  go_enter Tryz.func84, Tryz.ntmps84
  go_wp2_with fail
  go_region_held3 (fun W => W.cell? ⟨w.heap.size, 0, none⟩ = some (.string p) ∧ W.cell? ⟨w.heap.size, 1, none⟩ = some (.string s) ∧ Hid (CpS w W))
    (first
      | exact ⟨by simp, by simp, H0⟩
      | (go_split_ands; exact ⟨by assumption, by assumption, by assumption⟩)
      | exact cps_put ⟨by assumption, by assumption, by assumption⟩ _ _)
    (first
      | (go_at_call_of 90 (Value.string p); refine (CP.out _).mono ?_; rintro e w2 ⟨rfl, hb⟩; obtain ⟨q0, q1, q2⟩ : CpA w (.string p) (.string s) w2 := cps_next hb ⟨by first | assumption | simp, by first | assumption | simp, by assumption⟩; obtain ⟨⟨ya, yb, yh⟩, yB⟩ := q2.out; have z0 : w2.cell? ⟨w.heap.size + 1, 0, none⟩ = some ya := cells_of yh 0 rfl; have z1 : w2.cell? ⟨w.heap.size + 1, 1, none⟩ = some yb := cells_of yh 1 rfl; have f0 := froz_of yh 0; have f1 := froz_of yh 1; have HY := Lib.hid yB; clear yh yB)
      | (go_at_call_of 90 (Value.string s); refine (CS.out _).mono ?_; rintro e w2 ⟨rfl, hb⟩; obtain ⟨q0, q1, q2⟩ : CpA w (.string p) (.string s) w2 := cps_next hb ⟨by first | assumption | simp, by first | assumption | simp, by assumption⟩; obtain ⟨⟨ya, yb, yh⟩, yB⟩ := q2.out; have z0 : w2.cell? ⟨w.heap.size + 1, 0, none⟩ = some ya := cells_of yh 0 rfl; have z1 : w2.cell? ⟨w.heap.size + 1, 1, none⟩ = some yb := cells_of yh 1 rfl; have f0 := froz_of yh 0; have f1 := froz_of yh 1; have HY := Lib.hid yB; clear yh yB))
  all_goals
    go_wp2
    have c0 : ((w2.setCell ⟨w.heap.size + 1, 0, none⟩ (.string p)).setCell ⟨w.heap.size + 1, 1, none⟩ (.string s)).cell? ⟨w.heap.size + 1, 0, none⟩ = some (.string p) := set2_0 _ _ z0
    have c1 : ((w2.setCell ⟨w.heap.size + 1, 0, none⟩ (.string p)).setCell ⟨w.heap.size + 1, 1, none⟩ (.string s)).cell? ⟨w.heap.size + 1, 1, none⟩ = some (.string s) := set2_1 _ _ z1
    exact bodyPost_ret (v := .agg #[.string p, .string s]) (by simp [results, Tryz.results84, go_sem, c0, c1]) rfl ⟨rfl, (HY.out.setCell (p := ⟨w.heap.size + 1, 0, none⟩) (by simp) _).setCell (p := ⟨w.heap.size + 1, 1, none⟩) (by simp) _⟩
set_option maxRecDepth 100000 in
theorem new_any (w : World) :
    Calls Tryz.prog 60 #[] w fun e w' => e = .returned (.slice (some ⟨w.heap.size, 0, none⟩) 1 1) ∧ w' = w.alloc (.cells #[.string xm, .string XS] 138) := by
  go_enter Tryz.func60, Tryz.ntmps60
  go_wp2
  go_ret
  exact ⟨rfl, rfl⟩
end Go.Proofs.YtkeilgompipfjaaGreatDoor.Nz.Sc

/- The walks of slices.Backward over bindings and of scope.Find. -/
set_option linter.unusedSimpArgs false
set_option linter.unusedVariables false
namespace Go.Proofs.YtkeilgompipfjaaGreatDoor.Nz.Sc
open Go.RowKit Go.Shelf

attribute [local go_sem] Oper.semAt_some

/-- What has come when k rounds are over. -/
def upto {α : Type} (f : Nat → α) (k : Nat) : List α := (List.range k).map f
theorem upto_succ {α : Type} (f : Nat → α) (k : Nat) : upto f (k + 1) = upto f k ++ [f k] := by simp [upto, List.range_succ]
theorem upto_length {α : Type} (f : Nat → α) (k : Nat) : (upto f k).length = k := by simp [upto]
theorem upto_mem {α : Type} (f : Nat → α) (k j : Nat) (h : j < k) : f j ∈ upto f k := by
  simp only [upto, List.mem_map, List.mem_range]
  exact ⟨j, h, rfl⟩

/-- A binding whose space may be copied. -/
abbrev LB := { b : P2 // b.2.size ≤ Lim }
def lat (l : List P2) (h : LimL l) (k : Nat) : LB := ⟨l.getD k (em, em), by
  rw [List.getD_eq_getElem?_getD]
  cases hk : l[k]? with
  | none => exact Nat.zero_le _
  | some x => exact (h x (List.mem_of_getElem? hk)).2⟩
theorem lat_get {l : List P2} (h : LimL l) {k : Nat} {x : P2} (hk : l[k]? = some x) : (lat l h k).1 = x := by
  show l.getD k (em, em) = x
  rw [List.getD_eq_getElem?_getD, hk]
  rfl
/-- The pair that comes in round k. -/
def bk (l : List P2) (h : LimL l) (k : Nat) : Nat × LB := (l.length - 1 - k, lat l h (l.length - 1 - k))
def encB (x : Nat × LB) : Array Value := #[.int .i64 (x.1 : Int), .agg #[.string x.2.1.1, .string x.2.1.2]]
/-- The slice at A reads as these pairs, in a block below n. -/
def RdN (n : Nat) (w : World) (A : Option Addr) (l : List P2) : Prop :=
  ∀ k x, l[k]? = some x → ∃ b off, A = some ⟨b, off, none⟩ ∧ b < n ∧ w.cell? ⟨b, off + k * 2, none⟩ = some (.string x.1) ∧ w.cell? ⟨b, off + k * 2 + 1, none⟩ = some (.string x.2)
theorem RdN.below {n : Nat} {w w' : World} {A : Option Addr} {l : List P2} (h : RdN n w A l) (hb : Below n w w') : RdN n w' A l := fun k x hk => by
  obtain ⟨b, o, e, hlt, c0, c1⟩ := h k x hk
  exact ⟨b, o, e, hlt, (hb.cell (p := ⟨b, o + k * 2, none⟩) hlt).trans c0, (hb.cell (p := ⟨b, o + k * 2 + 1, none⟩) hlt).trans c1⟩
set_option maxRecDepth 100000 in
set_option maxHeartbeats 2000000 in
theorem bw1_in (n : Nat) (hn : 1 ≤ n) (l : Nat) (Bs n₀ cap : Nat) (A : Option Addr) (L : List P2) (N : Nat) (hN : N = L.length) (hlim : LimL L) (hreach : N ≤ 1000000) (J Jx : List (Nat × LB) → World → Prop)
    (hY : ∀ pre x W, J pre W → pre.length < N → YieldAt Fence.wide (n - 1) Tryz.prog l (encB x) W fun e W' =>
      (e = .returned (.bool true) ∧ J (pre ++ [x]) W' ∧ Below n₀ W W') ∨ (e = .returned (.bool false) ∧ Jx (pre ++ [x]) W'))
    (W : World) (hBs : W.cell? ⟨Bs, 0, none⟩ = some (.slice A N cap)) (hlt : Bs < n₀) (hR : RdN n₀ W A L) (h0 : J [] W) :
    CallsIn Fence.wide n Tryz.prog 156 #[.func (.yield l) #[] #[], .pointer (some ⟨Bs, 0, none⟩)] W fun e W' => (∃ v, e = .returned v) ∧
      ((∃ ys, ys = upto (bk L hlim) N ∧ J ys W') ∨ (∃ pre, (∃ k, k ≤ N ∧ pre = upto (bk L hlim) k) ∧ Jx pre W')) := by
  have HR := Lib.hid hR
  have HN := Lib.hid hN
  clear hR hN
  refine callsIn_of_wp Tryz.func156 rfl trivial ?_ rfl
  simp only [Tryz.ntmps156, List.size_toArray, List.length_cons, List.length_nil, Nat.reduceAdd, Nat.reduceSub, Array.replicate_succ, Array.replicate_zero, List.push_toArray, List.append_toArray, List.nil_append, List.cons_append]
  gi_wp2
  gi_loopw [3] (fun i wr => ∃ m : Nat, m ≤ N ∧ i = .int .i64 ((m : Int) - 1) ∧ J (upto (bk L hlim) (N - m)) wr ∧ Hid (Below n₀ W wr))
    (fun i _ => (intOf i + 1).toNat)
  case atStart => exact ⟨N, Nat.le_refl _, by simp, by rw [Nat.sub_self]; exact h0, Lib.hid (Below.refl _ _)⟩
  case round =>
    obtain ⟨m, hm, rfl, hJs, hnx⟩ := hrel
    have hBs' : wr.cell? ⟨Bs, 0, none⟩ = some (.slice A N cap) := (hnx.out.cell (p := ⟨Bs, 0, none⟩) hlt).trans hBs
    clear hBs
    cases m with
    | zero =>
      have e0 : (((0 : Nat) : Int) - 1) = -1 := by omega
      rw [e0]
      rw [Nat.sub_zero] at hJs
      gi_wp2
      go_end0
      exact ⟨⟨_, rfl⟩, .inl ⟨_, rfl, hJs⟩⟩
    | succ m =>
      have e1 : (((m + 1 : Nat) : Int) - 1) = (m : Int) := by omega
      rw [e1]
      have hml : m < L.length := by rw [← HN.out]; omega
      obtain ⟨b, off, rfl, hb, x0, x1⟩ := (HR.out.below hnx.out) m _ (List.getElem?_eq_getElem hml)
      have ebk : bk L hlim (N - (m + 1)) = (m, lat L hlim m) := by
        unfold bk
        have : L.length - 1 - (N - (m + 1)) = m := by rw [← HN.out]; omega
        rw [this]
      have elat : (lat L hlim m).1 = L[m] := lat_get hlim (List.getElem?_eq_getElem hml)
      obtain ⟨fn, tmps, assign, body, hy, hR'⟩ := hY _ (m, lat L hlim m) wr hJs (by rw [upto_length]; omega)
      unfold encB at hy
      dsimp only at hy
      rw [← elat] at x0 x1
      have hnext : N - m = N - (m + 1) + 1 := by omega
      have d1 : (m : Int) < (N : Int) := by omega
      have d0 : (0 : Int) ≤ (m : Int) := by omega
      have HE := Lib.hid ebk
      have HX := Lib.hid hnext
      clear e1 ebk elat hnext HR HN
      generalize lat L hlim m = lm at *
      gi_wp2
      refine hR'.mono ?_
      rintro e W3 (⟨rfl, hJ3, hk3⟩ | ⟨rfl, hJx3⟩)
      · gi_wp2
        go_roundw
        case rel => exact ⟨m, by omega, by go_num, by rw [HX.out, upto_succ, HE.out]; exact hJ3, Lib.hid (hnx.out.trans hk3)⟩
        case measure => simp [intOf]
      · gi_wp2
        refine bodyPost_ret (results_none rfl _ _ _) rfl ?_
        exact ⟨⟨_, rfl⟩, .inr ⟨_, ⟨N - (m + 1) + 1, by omega, by rw [upto_succ, HE.out]⟩, hJx3⟩⟩
set_option maxHeartbeats 1000000 in
set_option maxRecDepth 100000 in
theorem bw_any (a : Option Addr) (len cap : Nat) (w : World) :
    Calls Tryz.prog 141 #[.slice a len cap] w fun e w' => e = .returned (.func (.func 156) #[] #[.pointer (some ⟨w.heap.size, 0, none⟩)]) ∧ w' = w.alloc (.cells #[.slice a len cap] 78) := by
  go_enter Tryz.func141, Tryz.ntmps141
  go_wp2
  go_ret
  exact ⟨rfl, rfl⟩
theorem bw_stops (n : Nat) (hn : 1 ≤ n) (Bs n₀ cap : Nat) (A : Option Addr) (L : List P2) (N : Nat) (hN : N = L.length) (hlim : LimL L) (hreach : N ≤ 1000000) (w : World) (hlt : Bs < w.heap.size) (hn₀ : n₀ ≤ w.heap.size)
    (hBs : w.cell? ⟨Bs, 0, none⟩ = some (.slice A N cap)) (hB0 : Bs < n₀) (hR : RdN n₀ w A L) :
    SeqStopsK Fence.wide n Tryz.prog 156 #[.pointer (some ⟨Bs, 0, none⟩)] encB (Below n₀) (fun ys => ys = upto (bk L hlim) N) (fun pre => ∃ k, k ≤ N ∧ pre = upto (bk L hlim) k) N w := fun l J Jx W hW _ _ hY h0 => by
  have hc' := (hW.cell (p := ⟨Bs, 0, none⟩) hlt).trans hBs
  exact bw1_in n hn l Bs n₀ cap A L N hN hlim hreach J Jx hY W hc' hB0 (hR.below (hW.mono hn₀)) h0
theorem blk_own {β : Type} (B : Nat) (t : TypeId) (f : β → Array Value) : Go.Own (fun s W => W.heap[B]? = some (.cells (f s) t (0, 0))) := fun s X Y row hs hg hrow =>
  (hg.block B (Array.getElem?_eq_some_iff.1 hs).1 (fun e' => by obtain ⟨o, ho, hc⟩ := hrow B e'.symm; rw [hs] at ho; cases ho; cases hc)).trans hs
theorem keeps_below {W W' : World} (h : Below W.heap.size W W') : KeepsOthers W W' := KeepsOthers.of_grownBy (row := none) ⟨h.os, h.tape, h.output, h.size, fun k hk _ => h.block k hk⟩ (fun j o e => by cases e)
theorem boxed_low {W W' : World} {B : Nat} {t : TypeId} {v : Value} (h : Boxed W B t v) (hb : Below W.heap.size W W') : Boxed W' B t v := (hb.block B h.lt).trans h
theorem fnd_stop {L : List P2} (hlim : LimL L) (p : ByteArray) (k : Nat) (hk : k < L.length) (h1 : ∀ j, j < k → eqb (bk L hlim j).2.1.1 p = false) (h2 : eqb (bk L hlim k).2.1.1 p = true) : fndF L p = ((bk L hlim k).2.1.2, true) := by
  have hx := List.getElem?_eq_getElem (show L.length - 1 - k < L.length by omega)
  have e : (bk L hlim k).2.1 = L[L.length - 1 - k]'(by omega) := lat_get hlim hx
  rw [e] at h2 ⊢
  refine fnd_hit L p _ _ hx h2 (fun j x hj hxj => ?_)
  have hjl : j < L.length := (List.getElem?_eq_some_iff.1 hxj).1
  have := h1 (L.length - 1 - j) (by omega)
  have ej : L.length - 1 - (L.length - 1 - j) = j := by omega
  have e2 : (bk L hlim (L.length - 1 - j)).2.1 = x := by
    unfold bk
    dsimp only
    rw [ej]
    exact lat_get hlim hxj
  rw [e2] at this
  exact this
theorem fnd_done {L : List P2} (hlim : LimL L) (p : ByteArray) (h1 : ∀ j, j < L.length → eqb (bk L hlim j).2.1.1 p = false) : fndF L p = (em, eqb p em) := by
  refine fnd_none L p (fun j x hxj => ?_)
  have hjl : j < L.length := (List.getElem?_eq_some_iff.1 hxj).1
  have := h1 (L.length - 1 - j) (by omega)
  have ej : L.length - 1 - (L.length - 1 - j) = j := by omega
  have e2 : (bk L hlim (L.length - 1 - j)).2.1 = x := by
    unfold bk
    dsimp only
    rw [ej]
    exact lat_get hlim hxj
  rw [e2] at this
  exact this
theorem eqb_em (p : ByteArray) : eqb p em = p.toList.isEmpty := by
  have e : em.toList = [] := by rw [Lib.toList_data]; rfl
  unfold eqb
  rw [e]
  cases p.toList <;> rfl
theorem Tryz.results114 : Tryz.f114.results = #[ResultVar.cell 4 9, ResultVar.cell 5 4] := by kernel_rfl
set_option maxHeartbeats 4000000 in
set_option maxRecDepth 100000 in
theorem find_any (A : Option Addr) (N cap : Nat) (p : ByteArray) (L : List P2) (w : World) (hN : N = L.length) (hlim : LimL L) (hreach : N ≤ 1000000) (hR : RdR w A L) :
    Calls Tryz.prog 114 #[.slice A N cap, .string p] w fun e w' => e = .returned (.tuple #[.string (fndF L p).1, .bool (fndF L p).2]) ∧ Below w.heap.size w w' := by
  have HN := Lib.hid hN
  clear hN
  refine (callsIn_wide (n := 3)).1 ?_
  refine callsIn_of_wp_marks Tryz.func114 rfl trivial ?_ rfl
  simp only [Tryz.ntmps114, List.size_toArray, List.length_cons, List.length_nil, Nat.reduceAdd, Nat.reduceSub, Array.replicate_succ, Array.replicate_zero, List.push_toArray, List.append_toArray, List.nil_append, List.cons_append]
  gi_wp2_with (refine ⟨trivial, ?_⟩; gi_at_call 141; refine (callsIn_wide.2 (bw_any _ _ _ _)).mono ?_; rintro e w' ⟨rfl, rfl⟩)
  have bP := ((Boxed.new w 9 (.string p)).alloc (.cells #[.string ⟨#[]⟩] 9)).alloc (.cells #[.bool false] 4) |>.alloc (.cells #[.slice A N cap] 78)
  have bR := ((Boxed.new (w.alloc (.cells #[.string p] 9)) 9 (.string ⟨#[]⟩)).alloc (.cells #[.bool false] 4)).alloc (.cells #[.slice A N cap] 78)
  have bO := (Boxed.new ((w.alloc (.cells #[.string p] 9)).alloc (.cells #[.string ⟨#[]⟩] 9)) 4 (.bool false)).alloc (.cells #[.slice A N cap] 78)
  have bS := Boxed.new (((w.alloc (.cells #[.string p] 9)).alloc (.cells #[.string ⟨#[]⟩] 9)).alloc (.cells #[.bool false] 4)) 78 (.slice A N cap)
  simp only [World.size_alloc] at bR bO bS
  have hB0 : Below w.heap.size w ((((w.alloc (.cells #[.string p] 9)).alloc (.cells #[.string ⟨#[]⟩] 9)).alloc (.cells #[.bool false] 4)).alloc (.cells #[.slice A N cap] 78)) := ((((Below.refl _ w).alloc (Nat.le_refl _) _).alloc (by simp) _).alloc (by simp; omega) _).alloc (by simp; omega) _
  have hsz : ((((w.alloc (.cells #[.string p] 9)).alloc (.cells #[.string ⟨#[]⟩] 9)).alloc (.cells #[.bool false] 4)).alloc (.cells #[.slice A N cap] 78)).heap.size = w.heap.size + 4 := by simp
  obtain ⟨W0, hW0⟩ : ∃ W0, ((((w.alloc (.cells #[.string p] 9)).alloc (.cells #[.string ⟨#[]⟩] 9)).alloc (.cells #[.bool false] 4)).alloc (.cells #[.slice A N cap] 78)) = W0 := ⟨_, rfl⟩
  rw [hW0] at bP bR bO bS hB0 hsz ⊢
  clear hW0
  have hRN : RdN W0.heap.size W0 A L := fun k x hk => by
    obtain ⟨b, o, e, hlt, c⟩ := (hR.keep hB0) k x hk
    exact ⟨b, o, e, hlt, c⟩
  refine wpIn_rangeFunc_ownH rfl (by omega) (gf := 156) (lb := #[.pointer (some ⟨w.heap.size + 1 + 1 + 1, 0, none⟩)]) rfl trivial (enters_of Tryz.func156 (by kernel_rfl) rfl)
    (bw_stops (3 - 1) (by omega) (w.heap.size + 1 + 1 + 1) W0.heap.size cap A L N HN.out hlim hreach W0 (by omega) (Nat.le_refl _) bS.cell (by omega) hRN) belowK_t (belowK_b (Nat.le_refl _)) (Below.refl _ _) (fun _ => rfl)
    (fun pre W => ((∀ q ∈ pre, eqb q.2.1.1 p = false) ∧ Boxed W w.heap.size 9 (.string p) ∧ Boxed W (w.heap.size + 1) 9 (.string ⟨#[]⟩) ∧ Boxed W (w.heap.size + 1 + 1) 4 (.bool false)) ∧ Below W0.heap.size W0 W)
    (fun c pre W => ((c = .ret ∧ ∃ ini last, pre = ini ++ [last] ∧ (∀ q ∈ ini, eqb q.2.1.1 p = false) ∧ eqb last.2.1.1 p = true ∧ Boxed W (w.heap.size + 1) 9 (.string last.2.1.2) ∧ Boxed W (w.heap.size + 1 + 1) 4 (.bool true)) ∧ Below w.heap.size w W))
    (OwnFrom.and (OwnFrom.and (ownFrom_pure _ _) (OwnFrom.and (Own.from (boxed_own _ _ (fun _ => _)) _) (OwnFrom.and (Own.from (boxed_own _ _ (fun _ => _)) _) (Own.from (boxed_own _ _ (fun _ => _)) _)))) (ownFrom_below (Nat.le_refl _) (Nat.le_refl _)))
    (fun c => OwnFrom.and (fun s X Y row hs hg hr => by
      obtain ⟨hc, ini, last, e1, e2, e3, e4, e5⟩ := hs
      exact ⟨hc, ini, last, e1, e2, e3, boxed_own _ 9 (fun (_ : Unit) => Value.string last.2.1.2) () X Y row e4 hg (fun r e => (hr r e).2), boxed_own _ 4 (fun (_ : Unit) => Value.bool true) () X Y row e5 hg (fun r e => (hr r e).2)⟩) (ownFrom_below (Nat.le_refl _) (by omega)))
    ⟨⟨by simp, bP, bR, bO⟩, Below.refl _ _⟩
    (fun x a' W => ∃ Bx, W0.heap.size ≤ Bx ∧ W.heap[Bx]? = some (.cells #[.string x.2.1.1, .string x.2.1.2] 138 (0, 0)) ∧ a' = { tmps := #[.slice A N cap, .string p, undef, .pointer (some ⟨w.heap.size, 0, none⟩), .pointer (some ⟨w.heap.size + 1, 0, none⟩), .pointer (some ⟨w.heap.size + 1 + 1, 0, none⟩), undef, .pointer (some ⟨Bx, 0, none⟩), .slice A N cap, .func (.func 156) #[] #[.pointer (some ⟨w.heap.size + 1 + 1 + 1, 0, none⟩)], .int .i64 (x.1 : Int), .agg #[.string x.2.1.1, .string x.2.1.2], undef, undef, undef, undef, undef, undef, undef, undef, undef], defers := [] })
    (fun x a' _ X Y row hs hg hr => by obtain ⟨Bx, h1, h2, h3⟩ := hs; exact ⟨Bx, h1, blk_own Bx 138 (fun (_ : Unit) => #[.string x.2.1.1, .string x.2.1.2]) () X Y row h2 hg (fun r e => (hr r e).2), h3⟩)
    ?assign ?body ?done ?stop
  case assign =>
    rintro l pre ⟨xi, ⟨⟨xp, xs⟩, hxs⟩⟩ W K ⟨⟨hp, bP1, bR1, bO1⟩, hB1⟩ hK
    simp only [encB]
    gi_wp2
    exact hK _ _ ((KeepsOthers.alloc _ _).from _) ((Below.refl _ W).alloc hB1.size _) ⟨⟨hp, bP1.alloc _, bR1.alloc _, bO1.alloc _⟩, hB1.alloc hB1.size _⟩ ⟨W.heap.size, hB1.size, World.alloc_heap_new W _, rfl⟩
  case body =>
    rintro l pre ⟨xi, ⟨⟨xp, xs⟩, hxs⟩⟩ a' W hl ⟨r, hr⟩ ⟨⟨hp, bP1, bR1, bO1⟩, hB1⟩ ⟨Bx, hBx, bX, rfl⟩ hlt
    dsimp only at bX hxs ⊢
    have c0 := cells_of bX 0 (u := .string xp) rfl
    have c1 := cells_of bX 1 (u := .string xs) rfl
    have cP := bP1.cell
    by_cases he : eqb xp p = true
    · have hq : (xp.toList == p.toList) = true := he
      have C := Lib.hid (fun W => clone_any xs W hxs)
      gi_wp2_with (refine ⟨trivial, ?_⟩; gi_at_call 90; refine (CallsIn.inRound l (callsIn_wide.2 (C.out _))).mono ?_; rintro e w' ⟨rfl, hb⟩; have bR2 := boxed_low bR1 hb; have bO2 := boxed_low bO1 hb; have cR2 := bR2.cell; have fR2 := bR2.frozen; have cO2 := bO2.cell; have fO2 := bO2.frozen)
      have hBw : Below w.heap.size w w' := (hB0.trans (hB1.mono hB0.size)).trans (hb.mono (Nat.le_trans hB0.size hB1.size))
      exact ⟨((keeps_below hb).trans ((KeepsOthers.setCell _ _ _).trans (KeepsOthers.setCell _ _ _))).from _, ⟨rfl, pre, _, rfl, hp, he, (bR2.set _).other (by omega) _, (bO2.other (by omega) _).set _⟩, (hBw.setCell (p := ⟨w.heap.size + 1, 0, none⟩) (by simp) _).setCell (p := ⟨w.heap.size + 1 + 1, 0, none⟩) (by simp; omega) _⟩
    · have hq : (xp.toList == p.toList) = false := by rw [Bool.not_eq_true] at he; exact he
      gi_wp2
      exact ⟨KeepsFrom.refl _ _, Below.refl _ _, ⟨fun q hq' => (List.mem_append.1 hq').elim (hp q) (fun e => by rw [List.mem_singleton] at e; subst e; exact hq), bP1, bR1, bO1⟩, hB1⟩
  case done =>
    rintro D zs W hD rfl ⟨⟨hp, bP1, bR1, bO1⟩, hB1⟩ hK
    have cP := bP1.cell
    have cR := bR1.cell
    have fR := bR1.frozen
    have cO := bO1.cell
    have fO := bO1.frozen
    gi_wp2
    gi_region
    gi_wp2
    have hK' : ((W.setCell ⟨w.heap.size + 1, 0, none⟩ (.string ⟨#[]⟩)).setCell ⟨w.heap.size + 1 + 1, 0, none⟩ (.bool p.toList.isEmpty)).drew.heap[D]? = some (.deferred (some [])) := (KeepsOthers.setCell (W.setCell ⟨w.heap.size + 1, 0, none⟩ (.string ⟨#[]⟩)) ⟨w.heap.size + 1 + 1, 0, none⟩ (.bool p.toList.isEmpty)).same D _ ((KeepsOthers.setCell W ⟨w.heap.size + 1, 0, none⟩ (.string ⟨#[]⟩)).same D _ hK rfl) rfl
    rw [fnd_done hlim p (fun j hj => hp _ (upto_mem _ _ _ (by rw [HN.out]; exact hj))), eqb_em]
    refine ⟨by simp, .inl ⟨_, _, rfl, run_takeDeferred hK', ?_⟩⟩
    have b5 : Boxed ((W.setCell ⟨w.heap.size + 1, 0, none⟩ (.string ⟨#[]⟩)).setCell ⟨w.heap.size + 1 + 1, 0, none⟩ (.bool p.toList.isEmpty)).drew (w.heap.size + 1) 9 (.string ⟨#[]⟩) := (bR1.set _).other (by omega) _
    have b6 : Boxed ((W.setCell ⟨w.heap.size + 1, 0, none⟩ (.string ⟨#[]⟩)).setCell ⟨w.heap.size + 1 + 1, 0, none⟩ (.bool p.toList.isEmpty)).drew (w.heap.size + 1 + 1) 4 (.bool p.toList.isEmpty) := (bO1.other (by omega) _).set _
    have c5 := cell_kept b5.cell (grownBy_putObj' _ D (.deferred none)) (fun r e => by cases e; exact ⟨_, hK', rfl⟩)
    have c6 := cell_kept b6.cell (grownBy_putObj' _ D (.deferred none)) (fun r e => by cases e; exact ⟨_, hK', rfl⟩)
    have hBw : Below w.heap.size w ((W.setCell ⟨w.heap.size + 1, 0, none⟩ (.string ⟨#[]⟩)).setCell ⟨w.heap.size + 1 + 1, 0, none⟩ (.bool p.toList.isEmpty)).drew := (((hB0.trans (hB1.mono hB0.size)).setCell (p := ⟨w.heap.size + 1, 0, none⟩) (by simp) _).setCell (p := ⟨w.heap.size + 1 + 1, 0, none⟩) (by simp; omega) _).drew
    refine ⟨.tuple #[.string em, .bool p.toList.isEmpty], ?_, rfl, hBw.trans (belowK_b (w := w) (Nat.le_refl _) _ D _ _ (by omega) hK' rfl rfl)⟩
    simp [results, Tryz.results114, go_sem, c5, c6, em]
  case stop =>
    rintro D c pre W hD ⟨k, hk, rfl⟩ ⟨⟨rfl, ini, last, e1, e2, e3, bR1, bO1⟩, hB1⟩ hK
    gi_wp2
    obtain ⟨k', rfl⟩ : ∃ k', k = k' + 1 := by
      cases k with
      | zero => simp [upto] at e1
      | succ k' => exact ⟨k', rfl⟩
    rw [upto_succ] at e1
    obtain ⟨rfl, e5⟩ := List.append_inj' e1 rfl
    obtain rfl : bk L hlim k' = last := by simpa using e5
    rw [fnd_stop hlim p k' (by have := HN.out; omega) (fun j hj => e2 _ (upto_mem _ _ _ hj)) e3]
    refine ⟨by simp, .inl ⟨_, _, rfl, run_takeDeferred hK, ?_⟩⟩
    have c5 := cell_kept bR1.cell (grownBy_putObj' _ D (.deferred none)) (fun r e => by cases e; exact ⟨_, hK, rfl⟩)
    have c6 := cell_kept bO1.cell (grownBy_putObj' _ D (.deferred none)) (fun r e => by cases e; exact ⟨_, hK, rfl⟩)
    refine ⟨.tuple #[.string (bk L hlim k').2.1.2, .bool true], ?_, rfl, hB1.trans (belowK_b (w := w) (Nat.le_refl _) W D _ _ (by omega) hK rfl rfl)⟩
    simp [results, Tryz.results114, go_sem, c5, c6]
end Go.Proofs.YtkeilgompipfjaaGreatDoor.Nz.Sc
