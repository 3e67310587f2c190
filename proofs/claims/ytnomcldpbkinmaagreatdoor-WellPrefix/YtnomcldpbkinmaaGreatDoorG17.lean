/-
  Merged by program out of the texts ScMath, WlMath, ScMem of one seat.
-/
import Derived.Test.YtnomcldpbkinmaaGreatDoorG09
import Derived.Test.YtnomcldpbkinmaaGreatDoorG16
import Derived.Laws.OwnMore
import Derived.Deep.RegionLaw
import Derived.OwnWalk
import Derived.Deep.RegionHeld3
import Derived.Lib.Hide

/- Plain mathematics of scopes: what Find, Names, Enter answer; the document's binds is the program's. -/
set_option linter.unusedSimpArgs false
set_option linter.unusedVariables false
namespace Go.Proofs.YtnomcldpbkinmaaGreatDoor.Nz.Sc

abbrev P2 := ByteArray × ByteArray
def xn : ByteArray := ⟨#[120, 109, 108, 110, 115]⟩
def xm : ByteArray := ⟨#[120, 109, 108]⟩
def XS : ByteArray := ⟨#[104, 116, 116, 112, 58, 47, 47, 119, 119, 119, 46, 119, 51, 46, 111, 114, 103, 47, 88, 77, 76, 47, 49, 57, 57, 56, 47, 110, 97, 109, 101, 115, 112, 97, 99, 101]⟩
def XN : ByteArray := ⟨#[104, 116, 116, 112, 58, 47, 47, 119, 119, 119, 46, 119, 51, 46, 111, 114, 103, 47, 50, 48, 48, 48, 47, 120, 109, 108, 110, 115, 47]⟩
def eqb (x y : ByteArray) : Bool := x.toList == y.toList
theorem toList_inj {a b : ByteArray} (h : a.toList = b.toList) : a = b := by
  rw [Lib.toList_data, Lib.toList_data] at h
  apply ByteArray.ext
  exact Array.toList_inj.1 h
theorem eqb_iff {x y : ByteArray} : eqb x y = true ↔ x = y := by
  unfold eqb
  rw [beq_iff_eq]
  exact ⟨toList_inj, fun h => by rw [h]⟩
theorem eqb_self (x : ByteArray) : eqb x x = true := eqb_iff.2 rfl
/-- What Find answers. -/
def fndF (l : List P2) (p : ByteArray) : ByteArray × Bool := l.foldl (fun a b => if eqb b.1 p = true then (b.2, true) else a) (em, eqb p em)
theorem fnd_app (l : List P2) (b : P2) (p : ByteArray) : fndF (l ++ [b]) p = if eqb b.1 p = true then (b.2, true) else fndF l p := by
  unfold fndF
  rw [List.foldl_append]
  rfl
theorem take_snoc {α : Type} (l : List α) (k : Nat) (x : α) (h : l[k]? = some x) : l.take (k + 1) = l.take k ++ [x] := by
  rw [List.take_add_one, h]
  rfl
theorem fnd_from (l : List P2) (p : ByteArray) (k : Nat) (h : ∀ (j : Nat) (x : P2), k ≤ j → l[j]? = some x → eqb x.1 p = false) : fndF l p = fndF (l.take k) p := by
  have key : ∀ d k, l.length - k = d → (∀ (j : Nat) (x : P2), k ≤ j → l[j]? = some x → eqb x.1 p = false) → fndF l p = fndF (l.take k) p := by
    intro d
    induction d with
    | zero => intro k hd _; rw [List.take_of_length_le (by omega)]
    | succ d ih =>
      intro k hd hk
      have hlt : k < l.length := by omega
      have hx := List.getElem?_eq_getElem hlt
      rw [ih (k + 1) (by omega) (fun j x hj => hk j x (by omega)), take_snoc l k _ hx, fnd_app, if_neg (by rw [hk k _ (Nat.le_refl _) hx]; simp)]
  exact key _ k rfl h
theorem fnd_none (l : List P2) (p : ByteArray) (h : ∀ (j : Nat) (x : P2), l[j]? = some x → eqb x.1 p = false) : fndF l p = (em, eqb p em) := by
  rw [fnd_from l p 0 (fun j x _ => h j x)]
  rfl
theorem fnd_hit (l : List P2) (p : ByteArray) (k : Nat) (b : P2) (hk : l[k]? = some b) (he : eqb b.1 p = true) (h : ∀ (j : Nat) (x : P2), k < j → l[j]? = some x → eqb x.1 p = false) : fndF l p = (b.2, true) := by
  rw [fnd_from l p (k + 1) (fun j x hj => h j x (by omega)), take_snoc l k b hk, fnd_app, if_pos he]
theorem fnd_step (l : List P2) (p : ByteArray) (k : Nat) (b : P2) (hk : l[k]? = some b) : fndF (l.take (k + 1)) p = if eqb b.1 p = true then (b.2, true) else fndF (l.take k) p := by
  rw [take_snoc l k b hk, fnd_app]
/-- The name of a prefix and a local part. -/
def resF (l : List P2) (p n : ByteArray) : Option P2 := if (fndF l p).2 = false ∨ eqb p xn = true then none else some ((fndF l p).1, n)
def namF (l : List P2) (s : ByteArray) : Option P2 := if (splitA s).2.2 = false then none else resF l (splitA s).1 (splitA s).2.1
def atnF (l : List P2) (s : ByteArray) : Option P2 := if (splitA s).2.2 = false then none else if eqb (splitA s).1 em = true then some (em, (splitA s).2.1) else resF l (splitA s).1 (splitA s).2.1
/-- Which prefix an attribute binds. -/
def bndF (s : ByteArray) : Option ByteArray := if eqb (splitA s).1 xn = true then some (splitA s).2.1 else if eqb (splitA s).1 em = true ∧ eqb (splitA s).2.1 xn = true then some em else none
def okB (p s : ByteArray) : Bool := !(eqb p xn || eqb s XN) && (eqb p xm == eqb s XS) && (eqb p em || !eqb s em)
def bindF : List P2 → List P2 → Option (List P2)
  | l, [] => some l
  | l, a :: r => match bndF a.1 with
    | none => bindF l r
    | some p => if okB p a.2 = true then bindF (l ++ [(p, a.2)]) r else none
abbrev P3 := P2 × ByteArray
def hasN (n : P2) (f : List P3) : Bool := f.any fun x => eqb x.1.1 n.1 && eqb x.1.2 n.2
theorem hasN_mem {n : P2} {f : List P3} : hasN n f = true ↔ n ∈ f.map (·.1) := by
  unfold hasN
  rw [List.any_eq_true, List.mem_map]
  constructor
  · rintro ⟨x, hx, h⟩
    rw [Bool.and_eq_true, eqb_iff, eqb_iff] at h
    exact ⟨x, hx, Prod.ext h.1 h.2⟩
  · rintro ⟨x, hx, h⟩
    refine ⟨x, hx, ?_⟩
    rw [← h, eqb_self, eqb_self]
    rfl
/-- The attributes that are no bindings. -/
def attF (W : List P2) : List P3 → List P2 → Except Int (List P3)
  | f, [] => .ok f
  | f, a :: r => match bndF a.1 with
    | some _ => attF W f r
    | none => match atnF W a.1 with
      | none => .error 9
      | some n => if hasN n f = true then .error 8 else attF W (f ++ [(n, a.2)]) r
/-- What Enter answers. -/
def entF (l : List P2) (nm : ByteArray) (r : List P2) : Except Int (List P2 × P2 × List P3) :=
  match bindF l r with
  | none => .error 9
  | some W => match namF W nm with
    | none => .error 9
    | some n => match attF W [] r with
      | .error c => .error c
      | .ok f => .ok (W, n, f)
/-- What Names answers. -/
def nmsF (l : List P2) : List P2 → List ByteArray → Option (List P2)
  | f, [] => some f
  | f, s :: r => match namF l s with
    | none => none
    | some n => nmsF l (f ++ [n]) r
/-- Sizes. -/
def Lim : Nat := 140737488351232
def LimL (l : List P2) : Prop := ∀ x ∈ l, x.1.size ≤ Lim ∧ x.2.size ≤ Lim
theorem em_size : em.size = 0 := rfl
theorem split_size (s : ByteArray) : (splitA s).1.size ≤ s.size ∧ (splitA s).2.1.size ≤ s.size := by
  unfold splitA
  split
  · split <;> simp [em_size]
  · split <;> simp [em_size] <;> omega
theorem fnd_size {l : List P2} (h : LimL l) (p : ByteArray) : (fndF l p).1.size ≤ Lim := by
  have key : ∀ k, (fndF (l.take k) p).1.size ≤ Lim := by
    intro k
    induction k with
    | zero => simp [fndF, em_size]
    | succ k ih =>
      by_cases hk : k < l.length
      · rw [fnd_step l p k _ (List.getElem?_eq_getElem hk)]
        split
        · exact (h _ (List.getElem_mem hk)).2
        · exact ih
      · rw [List.take_of_length_le (by omega)]
        rw [List.take_of_length_le (by omega)] at ih
        exact ih
  have := key l.length
  rwa [List.take_of_length_le (Nat.le_refl _)] at this
theorem bind_lim : ∀ (r l : List P2) {W : List P2}, LimL l → LimL r → bindF l r = some W → LimL W
  | [], l, W, hl, _, h => by
    injection h with h
    rw [← h]
    exact hl
  | a :: r, l, W, hl, hr, h => by
    unfold bindF at h
    have hr' : LimL r := fun x hx => hr x (List.mem_cons_of_mem _ hx)
    have ha := hr a List.mem_cons_self
    split at h
    · exact bind_lim r l hl hr' h
    · rename_i p hp
      split at h
      · refine bind_lim r _ (fun x hx => ?_) hr' h
        rcases List.mem_append.1 hx with hx | hx
        · exact hl x hx
        · rw [List.mem_singleton] at hx
          subst hx
          refine ⟨?_, ha.2⟩
          unfold bndF at hp
          split at hp
          · injection hp with hp
            rw [← hp]
            exact Nat.le_trans (split_size a.1).2 ha.1
          · split at hp
            · injection hp with hp
              rw [← hp]
              simp [em_size]
            · cases hp
      · cases h
theorem bind_len : ∀ (r l : List P2) {W : List P2}, bindF l r = some W → l.length ≤ W.length ∧ W.length ≤ l.length + r.length ∧ W.take l.length = l
  | [], l, W, h => by
    injection h with h
    subst h
    simp
  | a :: r, l, W, h => by
    unfold bindF at h
    split at h
    · have := bind_len r l h
      rw [List.length_cons]
      exact ⟨this.1, by omega, this.2.2⟩
    · split at h
      · obtain ⟨h1, h2, h3⟩ := bind_len r _ h
        rw [List.length_append, List.length_cons, List.length_nil] at h1 h2 h3
        rw [List.length_cons]
        refine ⟨by omega, by omega, ?_⟩
        have := congrArg (List.take l.length) h3
        rw [List.take_take, Nat.min_eq_left (by omega), List.take_left' rfl] at this
        exact this
      · cases h
end Go.Proofs.YtnomcldpbkinmaaGreatDoor.Nz.Sc

/- Plain mathematics of the reader: what a token does, the events of a text; the events are those of a beginning of a document. -/
set_option linter.unusedSimpArgs false
set_option linter.unusedVariables false
namespace Go.Proofs.YtnomcldpbkinmaaGreatDoor.Wl

abbrev Pr := ByteArray × ByteArray
abbrev Tr := Pr × ByteArray
/-- An event; a token; the reader. -/
inductive Ev where
  | opn (n : Pr) (f : List Tr)
  | txt (s : ByteArray)
  | cls
structure Tok where
  kind : Int
  text : ByteArray
  empty : Bool
  blank : Bool
structure St where
  op : List (ByteArray × List Pr)
  wait : ByteArray
  root : Bool
  over : Bool
  err : Int
def st0 : St := ⟨[], Nz.em, false, false, 0⟩
def bind0 : List Pr := [(Nz.Sc.xm, Nz.Sc.XS)]
def scpF (s : St) : List Pr := match s.op.getLast? with | some x => x.2 | none => bind0
def toldF (u : ByteArray) : List Ev := if u.size = 0 then [] else [.txt u]
def bad (s : St) (e : Int) : St × List Ev × Int := ({ s with err := e }, [], e)
def opened (s : St) (t : Tok) (nm : ByteArray) (W : List Pr) (n : Pr) (f : List Tr) : St × List Ev × Int :=
  if t.empty = true then ({ s with wait := Nz.em, root := true }, toldF s.wait ++ [.opn n f, .cls], 0)
  else ({ s with wait := Nz.em, root := true, op := s.op ++ [(nm, W)] }, toldF s.wait ++ [.opn n f], 0)
def enterT (s : St) (t : Tok) (nm : ByteArray) : Except Int (List Pr × Pr × List Tr) → St × List Ev × Int
  | .error c => bad s c
  | .ok (W, n, f) => if 64 ≤ s.op.length then bad s 13 else opened s t nm W n f
def startT (s : St) (t : Tok) : St × List Ev × Int :=
  if s.root = true ∧ s.op = [] then bad s 11
  else if (Tg.parF t.text).1 ≠ 0 then bad s (Tg.parF t.text).1
  else enterT s t (Tg.parF t.text).2.1 (Nz.Sc.entF (scpF s) (Tg.parF t.text).2.1 (Tg.parF t.text).2.2)
def inner (s : St) : Option ByteArray := s.op.getLast?.map (·.1)
def endT (s : St) (t : Tok) : St × List Ev × Int :=
  if inner s = some t.text then ({ s with wait := Nz.em, op := s.op.dropLast }, toldF s.wait ++ [.cls], 0) else bad s 10
def charsT (s : St) (t : Tok) : St × List Ev × Int :=
  if s.op ≠ [] then ({ s with wait := s.wait ++ t.text }, [], 0) else if t.blank = true then (s, [], 0) else bad s 11
def lastT (s : St) : St × List Ev × Int :=
  if s.op ≠ [] then bad s 7 else if s.root = false then bad s 11 else ({ s with over := true }, [], 0)
def readT (s : St) (t : Tok) : St × List Ev × Int :=
  if t.kind = 1 then startT s t else if t.kind = 2 then endT s t else if t.kind = 3 then charsT s t else if t.kind = 6 then lastT s else (s, [], 0)
/-- What a token does. -/
def takeF (s : St) (t : Tok) : St × List Ev × Int :=
  if s.over = true then (s, [], 15) else if s.err ≠ 0 then (s, [], s.err) else readT s t

def tokF (k : Tk) : Tok := ⟨k.kind, strOfNums k.text, k.empty, k.blank⟩
def evG (L : List Int) : Nat → Nat → St → List Ev → List Ev × Nat × Int
  | 0, a, _, out => (out, a, 0)
  | f + 1, a, s, out =>
    if (nx L a).2.2 ≠ 0 then (out, a, (nx L a).2.2)
    else if (takeF s (tokF (nx L a).1)).2.2 ≠ 0 then (out, a, (takeF s (tokF (nx L a).1)).2.2)
    else if L.length ≤ a then (out ++ (takeF s (tokF (nx L a).1)).2.1, a, 0)
    else evG L f (a + (nx L a).2.1) (takeF s (tokF (nx L a).1)).1 (out ++ (takeF s (tokF (nx L a).1)).2.1)
/-- The events from a place on: they, where the error's token stands, the error. -/
def evR (L : List Int) (a : Nat) (s : St) (out : List Ev) : List Ev × Nat × Int := evG L (L.length + 1 - a) a s out
def evF (L : List Int) : List Ev × Nat × Int := evR L 0 st0 []
theorem evG_fuel (L : List Int) : ∀ (f g a : Nat) (s : St) (out : List Ev), L.length + 1 ≤ a + f → L.length + 1 ≤ a + g → a ≤ L.length → evG L f a s out = evG L g a s out
  | 0, g, a, s, out, h1, h2, h3 => by omega
  | f + 1, 0, a, s, out, h1, h2, h3 => by omega
  | f + 1, g + 1, a, s, out, h1, h2, h3 => by
    unfold evG
    by_cases c1 : (nx L a).2.2 ≠ 0
    · rw [if_pos c1, if_pos c1]
    rw [if_neg c1, if_neg c1]
    by_cases c2 : (takeF s (tokF (nx L a).1)).2.2 ≠ 0
    · rw [if_pos c2, if_pos c2]
    rw [if_neg c2, if_neg c2]
    by_cases c3 : L.length ≤ a
    · rw [if_pos c3, if_pos c3]
    rw [if_neg c3, if_neg c3]
    have hs := (nx_fit L a (by omega)).size (Decidable.not_not.1 c1)
    rw [List.length_drop] at hs
    exact evG_fuel L f g _ _ _ (by omega) (by omega) (by omega)
theorem ev_unfold (L : List Int) (a : Nat) (s : St) (out : List Ev) (ha : a ≤ L.length) : evR L a s out = evG L ((L.length - a) + 1) a s out := by
  unfold evR; rw [show L.length + 1 - a = (L.length - a) + 1 by omega]
theorem ev_err {L : List Int} {a : Nat} (s : St) (out : List Ev) (ha : a ≤ L.length) (h : (nx L a).2.2 ≠ 0) : evR L a s out = (out, a, (nx L a).2.2) := by
  rw [ev_unfold L a s out ha, evG, if_pos h]
theorem ev_bad {L : List Int} {a : Nat} {s : St} (out : List Ev) (ha : a ≤ L.length) (h : (nx L a).2.2 = 0) (h2 : (takeF s (tokF (nx L a).1)).2.2 ≠ 0) : evR L a s out = (out, a, (takeF s (tokF (nx L a).1)).2.2) := by
  rw [ev_unfold L a s out ha, evG, if_neg (by omega), if_pos h2]
theorem ev_last {L : List Int} {a : Nat} {s : St} (out : List Ev) (ha : a = L.length) (h : (nx L a).2.2 = 0) (h2 : (takeF s (tokF (nx L a).1)).2.2 = 0) : evR L a s out = (out ++ (takeF s (tokF (nx L a).1)).2.1, a, 0) := by
  rw [ev_unfold L a s out (by omega), evG, if_neg (by omega), if_neg (by omega), if_pos (by omega)]
theorem ev_go {L : List Int} {a : Nat} {s : St} (out : List Ev) (ha : a < L.length) (h : (nx L a).2.2 = 0) (h2 : (takeF s (tokF (nx L a).1)).2.2 = 0) :
    evR L a s out = evR L (a + (nx L a).2.1) (takeF s (tokF (nx L a).1)).1 (out ++ (takeF s (tokF (nx L a).1)).2.1) := by
  have hs := (nx_fit L a ha).size h
  rw [List.length_drop] at hs
  rw [ev_unfold L a s out (by omega), evG, if_neg (by omega), if_neg (by omega), if_neg (by omega)]
  unfold evR
  exact evG_fuel L _ _ _ _ _ (by omega) (by omega) (by omega)

theorem bad_e (s : St) (e : Int) : (bad s e).2.2 = e := rfl
/-- A token that is taken without an error leaves none; all is over just behind Last. -/
theorem ent_err {s : St} {t : Tok} {nm : ByteArray} {o : Except Int (List Pr × Pr × List Tr)} (hc : ∀ c, o = .error c → c ≠ 0) (h : (enterT s t nm o).2.2 = 0) : ∃ W n f, o = .ok (W, n, f) ∧ s.op.length < 64 ∧ enterT s t nm o = opened s t nm W n f := by
  match o, hc, h with
  | .error c, hc, h => exact absurd h (hc c rfl)
  | .ok (W, n, f), _, h =>
    unfold enterT at h ⊢
    dsimp only at h ⊢
    by_cases c : 64 ≤ s.op.length
    · rw [if_pos c] at h; exact absurd h (by rw [bad_e]; decide)
    · rw [if_neg c]; exact ⟨W, n, f, rfl, by omega, rfl⟩
theorem att_err (W : List Pr) : ∀ (r : List Pr) (f : List Tr) {c : Int}, Nz.Sc.attF W f r = .error c → c = 8 ∨ c = 9
  | [], f, c, h => by cases h
  | a :: r, f, c, h => by
    unfold Nz.Sc.attF at h
    split at h
    · exact att_err W r f h
    · split at h
      · injection h with h
        exact .inr h.symm
      · split at h
        · injection h with h
          exact .inl h.symm
        · exact att_err W r _ h
theorem entF_err {l : List Pr} {nm : ByteArray} {r : List Pr} {c : Int} (h : Nz.Sc.entF l nm r = .error c) : c = 8 ∨ c = 9 := by
  unfold Nz.Sc.entF at h
  split at h
  · injection h with h; exact .inr h.symm
  · split at h
    · injection h with h; exact .inr h.symm
    · split at h
      · rename_i h2
        injection h with h
        exact h ▸ att_err _ _ _ h2
      · cases h
theorem start_ok {s : St} {t : Tok} (h : (startT s t).2.2 = 0) : ¬ (s.root = true ∧ s.op = []) ∧ (Tg.parF t.text).1 = 0 ∧ ∃ W n f, Nz.Sc.entF (scpF s) (Tg.parF t.text).2.1 (Tg.parF t.text).2.2 = .ok (W, n, f) ∧ s.op.length < 64 ∧ startT s t = opened s t (Tg.parF t.text).2.1 W n f := by
  unfold startT at h ⊢
  by_cases c1 : s.root = true ∧ s.op = []
  · rw [if_pos c1] at h; exact absurd h (by rw [bad_e]; decide)
  rw [if_neg c1] at h ⊢
  by_cases c2 : (Tg.parF t.text).1 ≠ 0
  · rw [if_pos c2] at h; exact absurd h c2
  rw [if_neg c2] at h ⊢
  obtain ⟨W, n, f, h1, h2, h3⟩ := ent_err (fun c hc => by rcases entF_err hc with h | h <;> rw [h] <;> decide) h
  exact ⟨c1, Decidable.not_not.1 c2, W, n, f, h1, h2, h3⟩

/-- How deep events lead, whether there was none, whether the last is a text; none: that can't be. -/
def stepW : Option (Nat × Bool × Bool) → Ev → Option (Nat × Bool × Bool)
  | none, _ => none
  | some (d, z, p), .opn _ _ => if d = 0 ∧ z = false then none else if 64 ≤ d then none else some (d + 1, false, false)
  | some (d, z, p), .txt s => if d = 0 then none else if s.size = 0 ∨ p = true then none else some (d, false, true)
  | some (d, z, p), .cls => if d = 0 then none else some (d - 1, false, false)
def runW (l : List Ev) : Option (Nat × Bool × Bool) := l.foldl stepW (some (0, true, false))
theorem runW_app (l m : List Ev) : runW (l ++ m) = m.foldl stepW (runW l) := List.foldl_append ..
/-- What holds of a reader behind these events. -/
structure Jn (s : St) (out : List Ev) : Prop where
  run : runW out = some (s.op.length, !s.root, false)
  nil : s.root = !out.isEmpty
  dep : s.op.length ≤ 64
  wt : s.op = [] → s.wait.size = 0
  rt : s.op ≠ [] → s.root = true
  ov : s.over = true → s.op = [] ∧ s.root = true
theorem jn0 : Jn st0 [] := ⟨rfl, rfl, by decide, fun _ => rfl, fun h => absurd rfl h, fun h => by cases h⟩
theorem em_size : Nz.em.size = 0 := rfl
theorem told_run {s : St} {out : List Ev} (h : Jn s out) : ∃ p, runW (out ++ toldF s.wait) = some (s.op.length, !s.root, p) := by
  unfold toldF
  by_cases c : s.wait.size = 0
  · rw [if_pos c, List.append_nil]; exact ⟨_, h.run⟩
  · rw [if_neg c, runW_app, h.run]
    have hop : s.op ≠ [] := fun e => c (h.wt e)
    have hl : s.op.length ≠ 0 := fun e => hop (List.eq_nil_of_length_eq_zero e)
    refine ⟨true, ?_⟩
    rw [h.rt hop]
    simp [stepW, hl, c]
theorem open_jn {s : St} {out : List Ev} {t : Tok} {nm : ByteArray} {W : List Pr} {n : Pr} {f : List Tr} (h : Jn s out) (hr : ¬ (s.root = true ∧ s.op = [])) (hl : s.op.length < 64) : Jn (opened s t nm W n f).1 (out ++ (opened s t nm W n f).2.1) := by
  obtain ⟨p, hp⟩ := told_run h
  have h1 : runW (out ++ toldF s.wait ++ [.opn n f]) = some (s.op.length + 1, false, false) := by
    rw [runW_app, hp]
    simp only [List.foldl_cons, List.foldl_nil, stepW]
    rw [if_neg, if_neg (by omega)]
    rintro ⟨e1, e2⟩
    exact hr ⟨by simpa using e2, List.eq_nil_of_length_eq_zero e1⟩
  have hov : s.over = true → False := fun hov => hr ⟨(h.ov hov).2, (h.ov hov).1⟩
  unfold opened
  by_cases c : t.empty = true
  · rw [if_pos c]
    refine ⟨?_, by simp, h.dep, fun _ => rfl, fun _ => rfl, fun e => (hov e).elim⟩
    show runW (out ++ (toldF s.wait ++ [.opn n f, .cls])) = _
    rw [show out ++ (toldF s.wait ++ [.opn n f, .cls]) = (out ++ toldF s.wait ++ [.opn n f]) ++ [.cls] by simp, runW_app, h1]
    simp [stepW]
  · rw [if_neg c]
    refine ⟨?_, by simp, by simp; omega, fun _ => rfl, fun _ => rfl, fun e => (hov e).elim⟩
    show runW (out ++ (toldF s.wait ++ [.opn n f])) = _
    rw [← List.append_assoc, h1]
    simp
theorem getLast_map {α β : Type} {l : List α} {g : α → β} {y : β} (h : l.getLast?.map g = some y) : l ≠ [] := by
  rintro rfl
  simp at h
/-- What a token leaves, where it has no error. -/
theorem take_jn {s : St} {out : List Ev} {t : Tok} (h : Jn s out) (h0 : (takeF s t).2.2 = 0) : Jn (takeF s t).1 (out ++ (takeF s t).2.1) ∧ (takeF s t).1.over = decide (t.kind = 6) ∧ (takeF s t).1.err = 0 ∧ s.over = false := by
  unfold takeF at h0 ⊢
  by_cases c1 : s.over = true
  · rw [if_pos c1] at h0; exact absurd h0 (show ¬ ((15 : Int) = 0) by decide)
  rw [if_neg c1] at h0 ⊢
  by_cases c2 : s.err ≠ 0
  · rw [if_pos c2] at h0; exact absurd h0 c2
  rw [if_neg c2] at h0 ⊢
  have he : s.err = 0 := Decidable.not_not.1 c2
  have hv : s.over = false := by simpa using c1
  unfold readT at h0 ⊢
  by_cases k1 : t.kind = 1
  · rw [if_pos k1] at h0 ⊢
    obtain ⟨a1, a2, W, n, f, a3, a4, a5⟩ := start_ok h0
    rw [a5]
    refine ⟨open_jn h a1 a4, ?_, ?_, hv⟩
    · unfold opened; split <;> simp [hv, k1]
    · unfold opened; split <;> exact he
  rw [if_neg k1] at h0 ⊢
  by_cases k2 : t.kind = 2
  · rw [if_pos k2] at h0 ⊢
    unfold endT at h0 ⊢
    by_cases c3 : inner s = some t.text
    · rw [if_pos c3]
      have hop : s.op ≠ [] := getLast_map c3
      obtain ⟨p, hp⟩ := told_run h
      have hl : s.op.length ≠ 0 := fun e => hop (List.eq_nil_of_length_eq_zero e)
      refine ⟨⟨?_, by simp [h.rt hop], by simp; have := h.dep; omega, fun _ => rfl, fun _ => h.rt hop, fun e => by rw [show s.over = true from e] at hv; cases hv⟩, ?_, he, hv⟩
      · show runW (out ++ (toldF s.wait ++ [.cls])) = _
        rw [← List.append_assoc, runW_app, hp]
        simp [stepW, hl, h.rt hop]
      · simp [hv, k2]
    · rw [if_neg c3] at h0; exact absurd h0 (by rw [bad_e]; decide)
  rw [if_neg k2] at h0 ⊢
  by_cases k3 : t.kind = 3
  · rw [if_pos k3] at h0 ⊢
    unfold charsT at h0 ⊢
    by_cases c3 : s.op ≠ []
    · rw [if_pos c3]
      refine ⟨⟨by simpa using h.run, by simpa using h.nil, h.dep, fun e => absurd e c3, h.rt, h.ov⟩, by simp [hv, k3], he, hv⟩
    · rw [if_neg c3] at h0 ⊢
      by_cases c4 : t.blank = true
      · rw [if_pos c4]
        exact ⟨by simpa using h, by simp [hv, k3], he, hv⟩
      · rw [if_neg c4] at h0; exact absurd h0 (by rw [bad_e]; decide)
  rw [if_neg k3] at h0 ⊢
  by_cases k6 : t.kind = 6
  · rw [if_pos k6] at h0 ⊢
    unfold lastT at h0 ⊢
    by_cases c3 : s.op ≠ []
    · rw [if_pos c3] at h0; exact absurd h0 (by rw [bad_e]; decide)
    rw [if_neg c3] at h0 ⊢
    by_cases c4 : s.root = false
    · rw [if_pos c4] at h0; exact absurd h0 (by rw [bad_e]; decide)
    rw [if_neg c4]
    refine ⟨⟨by simpa using h.run, by simpa using h.nil, h.dep, h.wt, h.rt, fun _ => ⟨Decidable.not_not.1 c3, by simpa using c4⟩⟩, by simp [k6], he, hv⟩
  · rw [if_neg k6]
    exact ⟨by simpa using h, by simp [hv, k6], he, hv⟩
/-- The events of a text are those of a beginning of a document; of a whole one, if there is no error. -/
theorem ev_word (L : List Int) : ∀ (d a : Nat) (s : St) (out : List Ev), L.length - a ≤ d → a ≤ L.length → Jn s out → ∃ n z p, runW (evR L a s out).1 = some (n, z, p) ∧ ((evR L a s out).2.2 = 0 → n = 0 ∧ z = false)
  | d, a, s, out, hd, ha, h => by
    by_cases c1 : (nx L a).2.2 = 0
    · by_cases c2 : (takeF s (tokF (nx L a).1)).2.2 = 0
      · have hj := take_jn h c2
        by_cases c3 : L.length ≤ a
        · rw [ev_last out (by omega) c1 c2]
          refine ⟨_, _, _, hj.1.run, fun _ => ?_⟩
          have hk : (nx L a).1.kind = 6 := (nx_kind L a c1).2 c3
          have ho := hj.2.1
          have := hj.1.ov (by rw [ho]; exact decide_eq_true hk)
          rw [this.1, this.2]
          exact ⟨rfl, rfl⟩
        · have hs := (nx_fit L a (by omega)).size c1
          rw [List.length_drop] at hs
          rw [ev_go out (by omega) c1 c2]
          cases d with
          | zero => omega
          | succ d => exact ev_word L d _ _ _ (by omega) (by omega) hj.1
      · rw [ev_bad out ha c1 c2]
        exact ⟨_, _, _, h.run, fun e => absurd e c2⟩
    · rw [ev_err s out ha c1]
      exact ⟨_, _, _, h.run, fun e => absurd e c1⟩
theorem evF_word (L : List Int) : ∃ n z p, runW (evF L).1 = some (n, z, p) ∧ ((evF L).2.2 = 0 → n = 0 ∧ z = false) := ev_word L _ 0 st0 [] (Nat.le_refl _) (Nat.zero_le _) jn0
theorem run_none (m : List Ev) : m.foldl stepW none = none := by
  induction m with
  | nil => rfl
  | cons a m ih => exact ih
theorem run_take {l : List Ev} {x : Nat × Bool × Bool} (h : runW l = some x) (k : Nat) : ∃ y, runW (l.take k) = some y := by
  rw [← List.take_append_drop k l, runW_app] at h
  cases hq : runW (l.take k) with
  | none => rw [hq, run_none] at h; cases h
  | some y => exact ⟨y, rfl⟩
end Go.Proofs.YtnomcldpbkinmaaGreatDoor.Wl

/- Memory: slices of pairs and of triples of texts, read and owned. -/
set_option linter.unusedSimpArgs false
set_option linter.unusedVariables false
namespace Go.Proofs.YtnomcldpbkinmaaGreatDoor.Nz.Sc
open Go.RowKit

section
variable {α : Type} {f : α → List Value} {z : Nat}
theorem cel_len (hz : ∀ x, (f x).length = z) (l : List α) : (l.flatMap f).length = l.length * z := by
  induction l with
  | nil => simp
  | cons x l ih => rw [List.flatMap_cons, List.length_append, hz, ih, List.length_cons, Nat.add_mul, Nat.one_mul, Nat.add_comm]
theorem cel_get (hz : ∀ x, (f x).length = z) : ∀ (l : List α) (k i : Nat) (t : α), l[k]? = some t → i < z → (l.flatMap f)[k * z + i]? = (f t)[i]?
  | [], k, i, t, h, _ => by simp at h
  | x :: l, 0, i, t, h, hi => by
    have : x = t := by simpa using h
    subst this
    rw [List.flatMap_cons, Nat.zero_mul, Nat.zero_add, List.getElem?_append_left (by rw [hz]; exact hi)]
  | x :: l, k + 1, i, t, h, hi => by
    have h' : l[k]? = some t := by simpa using h
    have e : (k + 1) * z + i - z = k * z + i := by rw [Nat.add_mul, Nat.one_mul]; omega
    rw [List.flatMap_cons, List.getElem?_append_right (by rw [hz, Nat.add_mul, Nat.one_mul]; omega), hz, e]
    exact cel_get hz l k i t h' hi
end

def rwC (x : P2) : List Value := [.string x.1, .string x.2]
def rwL (l : List P2) : List Value := l.flatMap rwC
theorem rwC_len (x : P2) : (rwC x).length = 2 := rfl
theorem rwL_len (l : List P2) : (rwL l).length = l.length * 2 := cel_len rwC_len l
theorem rwL_get (l : List P2) (k i : Nat) (t : P2) (h : l[k]? = some t) (hi : i < 2) : (rwL l)[k * 2 + i]? = (rwC t)[i]? := cel_get rwC_len l k i t h hi
theorem rwL_app (l : List P2) (t : P2) : rwL (l ++ [t]) = rwL l ++ rwC t := by unfold rwL; simp
theorem rw_one (x : P2) : ∀ u ∈ rwC x, u.oneCell' = true := by
  intro u hu
  unfold rwC at hu
  simp only [List.mem_cons, List.not_mem_nil, or_false] at hu
  rcases hu with rfl | rfl <;> rfl
/-- The slice at A reads as these pairs. -/
def RdR (w : World) (A : Option Addr) (l : List P2) : Prop :=
  ∀ k x, l[k]? = some x → ∃ b off, A = some ⟨b, off, none⟩ ∧ b < w.heap.size ∧ w.cell? ⟨b, off + k * 2, none⟩ = some (.string x.1) ∧ w.cell? ⟨b, off + k * 2 + 1, none⟩ = some (.string x.2)
/-- A row of the call's own that holds these pairs (of type e). -/
def OwnP (e : TypeId) (w : World) (B : Nat) (v : Value) (l : List P2) : Prop := w.ownsRow B e 2 v l.length (rwL l)
theorem own_rdR {e : TypeId} {w : World} {B : Nat} {v : Value} {l : List P2} (h : OwnP e w B v l) : ∃ A c, v = .slice A l.length c ∧ RdR w A l ∧ (A = none → l.length = 0 ∧ c = 0) ∧ ∀ b off, A = some ⟨b, off, none⟩ → B ≤ b := by
  have h' : w.ownsRow B e 2 v l.length (rwL l) := h
  rcases h'.2 with ⟨rfl, h0⟩ | ⟨g, cap, cur, rfl, hB, _⟩
  · refine ⟨none, 0, by rw [h0], fun k x hk => ?_, fun _ => ⟨h0, rfl⟩, fun b off hh => by cases hh⟩
    rw [List.eq_nil_of_length_eq_zero h0] at hk
    simp at hk
  · refine ⟨_, cap, rfl, fun k x hk => ⟨g, 0, rfl, (h'.lt g rfl).2, ?_⟩, (fun hh => by cases hh), (fun b off hh => by cases hh; exact hB)⟩
    have hlt : k < l.length := (List.getElem?_eq_some_iff.1 hk).1
    exact ⟨by rw [Nat.zero_add]; exact (h'.cellAt (k * 2) (by omega)).trans (rwL_get l k 0 x hk (by omega)), by rw [Nat.zero_add]; exact (h'.cellAt (k * 2 + 1) (by omega)).trans (rwL_get l k 1 x hk (by omega))⟩
theorem RdR.keep {w w' : World} {A : Option Addr} {l : List P2} (h : RdR w A l) (hb : Below w.heap.size w w') : RdR w' A l := fun k t hk => by
  obtain ⟨b, o, e, hlt, c0, c1⟩ := h k t hk
  exact ⟨b, o, e, Nat.lt_of_lt_of_le hlt hb.size, (hb.cell (p := ⟨b, o + k * 2, none⟩) hlt).trans c0, (hb.cell (p := ⟨b, o + k * 2 + 1, none⟩) hlt).trans c1⟩
theorem RdR.keepG {w w' : World} {A : Option Addr} {l : List P2} {row : Option Nat} (h : RdR w A l) (hg : w.grownBy w' row) (hne : ∀ b off, A = some ⟨b, off, none⟩ → some b ≠ row) : RdR w' A l := fun k x hk => by
  obtain ⟨b, o, e, hlt, c0, c1⟩ := h k x hk
  have hn := hne b o e
  exact ⟨b, o, e, Nat.lt_of_lt_of_le hlt hg.size, hg.cell c0 hn, hg.cell c1 hn⟩
theorem RdR.cells {w : World} {ad : Addr} {l : List P2} (h : RdR w (some ad) l) : ∀ j u, (rwL l)[j]? = some u → w.cell? (ad.add j) = some u := by
  intro j u hu
  have hj := (List.getElem?_eq_some_iff.1 hu).1
  rw [rwL_len] at hj
  have hk : j / 2 < l.length := by omega
  obtain ⟨b, off, e, _, c0, c1⟩ := h (j / 2) _ (List.getElem?_eq_getElem hk)
  injection e with e
  subst e
  rw [Addr.add_lit]
  rcases Nat.mod_two_eq_zero_or_one j with hm | hm
  · have g := rwL_get l (j / 2) 0 _ (List.getElem?_eq_getElem hk) (by omega)
    rw [show j / 2 * 2 + 0 = j by omega, hu] at g
    rw [g, show off + j = off + j / 2 * 2 by omega, c0]
    rfl
  · have g := rwL_get l (j / 2) 1 _ (List.getElem?_eq_getElem hk) (by omega)
    rw [show j / 2 * 2 + 1 = j by omega, hu] at g
    rw [g, show off + j = off + j / 2 * 2 + 1 by omega, c1]
    rfl
def tC (x : P3) : List Value := [.string x.1.1, .string x.1.2, .string x.2]
def tL (l : List P3) : List Value := l.flatMap tC
theorem tC_len (x : P3) : (tC x).length = 3 := rfl
theorem tL_get (l : List P3) (k i : Nat) (t : P3) (h : l[k]? = some t) (hi : i < 3) : (tL l)[k * 3 + i]? = (tC t)[i]? := cel_get tC_len l k i t h hi
theorem tL_app (l : List P3) (t : P3) : tL (l ++ [t]) = tL l ++ tC t := by unfold tL; simp
theorem t_one (x : P3) : ∀ u ∈ tC x, u.oneCell' = true := by
  intro u hu
  unfold tC at hu
  simp only [List.mem_cons, List.not_mem_nil, or_false] at hu
  rcases hu with rfl | rfl | rfl <;> rfl
/-- The slice at A reads as these attributes. -/
def RdT (w : World) (A : Option Addr) (l : List P3) : Prop :=
  ∀ k x, l[k]? = some x → ∃ b off, A = some ⟨b, off, none⟩ ∧ b < w.heap.size ∧ w.cell? ⟨b, off + k * 3, none⟩ = some (.string x.1.1) ∧ w.cell? ⟨b, off + k * 3 + 1, none⟩ = some (.string x.1.2) ∧ w.cell? ⟨b, off + k * 3 + 2, none⟩ = some (.string x.2)
def OwnT (w : World) (B : Nat) (v : Value) (l : List P3) : Prop := w.ownsRow B 59 3 v l.length (tL l)
theorem own_rdT {w : World} {B : Nat} {v : Value} {l : List P3} (h : OwnT w B v l) : ∃ A c, v = .slice A l.length c ∧ RdT w A l ∧ (A = none → l.length = 0 ∧ c = 0) ∧ ∀ b off, A = some ⟨b, off, none⟩ → B ≤ b := by
  have h' : w.ownsRow B 59 3 v l.length (tL l) := h
  rcases h'.2 with ⟨rfl, h0⟩ | ⟨g, cap, cur, rfl, hB, _⟩
  · refine ⟨none, 0, by rw [h0], fun k x hk => ?_, fun _ => ⟨h0, rfl⟩, fun b off hh => by cases hh⟩
    rw [List.eq_nil_of_length_eq_zero h0] at hk
    simp at hk
  · refine ⟨_, cap, rfl, fun k x hk => ⟨g, 0, rfl, (h'.lt g rfl).2, ?_⟩, (fun hh => by cases hh), (fun b off hh => by cases hh; exact hB)⟩
    have hlt : k < l.length := (List.getElem?_eq_some_iff.1 hk).1
    exact ⟨by rw [Nat.zero_add]; exact (h'.cellAt (k * 3) (by omega)).trans (tL_get l k 0 x hk (by omega)), by rw [Nat.zero_add]; exact (h'.cellAt (k * 3 + 1) (by omega)).trans (tL_get l k 1 x hk (by omega)), by rw [Nat.zero_add]; exact (h'.cellAt (k * 3 + 2) (by omega)).trans (tL_get l k 2 x hk (by omega))⟩
theorem RdT.keep {w w' : World} {A : Option Addr} {l : List P3} (h : RdT w A l) (hb : Below w.heap.size w w') : RdT w' A l := fun k t hk => by
  obtain ⟨b, o, e, hlt, c0, c1, c2⟩ := h k t hk
  exact ⟨b, o, e, Nat.lt_of_lt_of_le hlt hb.size, (hb.cell (p := ⟨b, o + k * 3, none⟩) hlt).trans c0, (hb.cell (p := ⟨b, o + k * 3 + 1, none⟩) hlt).trans c1, (hb.cell (p := ⟨b, o + k * 3 + 2, none⟩) hlt).trans c2⟩
/-- A slice of texts. -/
def RdS (w : World) (A : Option Addr) (l : List ByteArray) : Prop :=
  ∀ k x, l[k]? = some x → ∃ b off, A = some ⟨b, off, none⟩ ∧ b < w.heap.size ∧ w.cell? ⟨b, off + k, none⟩ = some (.string x)
theorem RdS.keep {w w' : World} {A : Option Addr} {l : List ByteArray} (h : RdS w A l) (hb : Below w.heap.size w w') : RdS w' A l := fun k t hk => by
  obtain ⟨b, o, e, hlt, c0⟩ := h k t hk
  exact ⟨b, o, e, Nat.lt_of_lt_of_le hlt hb.size, (hb.cell (p := ⟨b, o + k, none⟩) hlt).trans c0⟩
theorem own_keep {e : TypeId} {z n : Nat} {w w' : World} {B : Nat} {v : Value} {xs : List Value} (h : w.ownsRow B e z v n xs) (hb : Below w.heap.size w w') : w'.ownsRow B e z v n xs :=
  h.kept (row := none) ⟨hb.os, hb.tape, hb.output, hb.size, fun k hk _ => hb.block k hk⟩ (by
    rcases h.2 with ⟨rfl, _⟩ | ⟨g, cap, cur, rfl, _⟩
    · exact .inl rfl
    · exact .inr (by simp [Value.ownBlock]))
theorem own_ne {w : World} {B : Nat} {e T : TypeId} {z : Nat} {v : Value} {n : Nat} {xs : List Value} {b : Nat} {cs : Array Value} {fr : Nat × Nat} (hown : w.ownsRow B e z v n xs) (hb : w.heap[b]? = some (.cells cs T fr)) (hTe : T ≠ e) : v.ownBlock ≠ some b := by
  rcases hown.2 with ⟨rfl, _⟩ | ⟨g, cap, cur, rfl, _, hg, _⟩
  · simp [Value.ownBlock]
  · intro h
    simp only [Value.ownBlock, Option.some.injEq] at h
    subst h
    rw [hg] at hb
    injection hb with hb
    injection hb with _ h2 _
    exact hTe h2.symm
theorem own_shape {w : World} {B : Nat} {e : TypeId} {z n : Nat} {v : Value} {xs : List Value} (h : w.ownsRow B e z v (n + 1) xs) : ∃ g cap, v = .slice (some ⟨g, 0, none⟩) (n + 1) cap := by
  rcases h.2 with ⟨_, h0⟩ | ⟨g, cap, cur, rfl, _⟩
  · omega
  · exact ⟨g, cap, rfl⟩
theorem own_slice {w : World} {B : Nat} {e : TypeId} {z n : Nat} {v : Value} {xs : List Value} (h : w.ownsRow B e z v n xs) : ∃ A cap, v = .slice A n cap := by
  rcases h.2 with ⟨rfl, h0⟩ | ⟨g, cap, cur, rfl, _⟩
  · exact ⟨none, 0, by rw [h0]⟩
  · exact ⟨_, cap, rfl⟩
/-- An append to a row of the call's own, as one step of a region that draws its order. -/
theorem step_append_own {P : Program} {ops : Array Oper} {o : Oper} {a : Act} {w : World} {K : Act → World → Prop} {Q : Exit → Act → World → Prop} {E : Prop}
    (hg : o.guard = none) (s x : Operand) (t : TypeId) (hop : o.op = Op.call { callee := Callee.builtin Builtin.append, args := #[s, x], argTypes := #[t, t] })
    (base : Nat) (e : TypeId) (i : TypeInfo) (z : Value) (size bytes : Nat) (h1 : P.underlying t = some (.slice e)) (h2 : P.info? e = some i) (h3 : i.zero = some z) (h4 : i.size = size) (h5 : i.bytes = bytes) (h6 : z.cells.size = size) (h7 : 0 < size)
    (v : Value) (n : Nat) (xs : List Value) (hs : a.eval s = v) (hown : w.ownsRow base e size v n xs)
    (ad : Addr) (m c : Nat) (news : List Value) (hx : a.eval x = .slice (some ad) m c) (hn : news.length = m * size) (hc : ∀ j u, news[j]? = some u → w.cell? (ad.add j) = some u) (h1c : ∀ u ∈ news, u.oneCell' = true)
    (b1 : n + m ≤ maxLen) (b2 : (n + m) * bytes ≤ 140737488355328) (hb : base ≤ w.heap.size)
    (hK : ∀ v' w', w'.ownsRow base e size v' (n + m) (xs ++ news) → w.grownBy w' v.ownBlock → K (a.put o.dst v') w') :
    if Region.wanted o (yielded ops a.tmps) = true then Oper.wp P o a w K Q else E := by
  have hw : Region.wanted o (yielded ops a.tmps) = true := by simp [Region.wanted, hg]
  rw [if_pos hw]
  obtain ⟨v', w', hrun, r1, r2, _⟩ := run_append_own (P := P) w base t o.type e i z size bytes h1 h2 h3 h4 h5 h6 h7 v n xs hown ad m c news hn hc h1c b1 b2 hb
  unfold Oper.wp
  simp [execOp, hop, resolve, invoke, builtin, hs, hx, hrun, Result.andThen]
  exact hK v' w' r1 r2
theorem Tryz.info75 : (Tryz.prog.info? 75).map (fun i => (i.zero, i.size, i.bytes)) = some (some (.agg #[.string ⟨#[]⟩, .string ⟨#[]⟩]), 2, 32) := by kernel_rfl
theorem Tryz.info47 : (Tryz.prog.info? 47).map (fun i => (i.zero, i.size, i.bytes)) = some (some (.agg #[.string ⟨#[]⟩, .string ⟨#[]⟩]), 2, 32) := by kernel_rfl
theorem Tryz.info81 : (Tryz.prog.info? 81).map (fun i => (i.zero, i.size, i.bytes)) = some (some (.agg #[.string ⟨#[]⟩, .string ⟨#[]⟩]), 2, 32) := by kernel_rfl
theorem Tryz.info59 : (Tryz.prog.info? 59).map (fun i => (i.zero, i.size, i.bytes)) = some (some (.agg #[.string ⟨#[]⟩, .string ⟨#[]⟩, .string ⟨#[]⟩]), 3, 48) := by kernel_rfl
theorem cells_of {W : World} {b : Nat} {cs : Array Value} {T : TypeId} {fz : Nat × Nat} (h : W.heap[b]? = some (.cells cs T fz)) (j : Nat) {u : Value} (hu : cs[j]? = some u) : W.cell? ⟨b, j, none⟩ = some u := (Lib.cell_of_heap h j).trans hu
theorem froz_of {W : World} {b : Nat} {cs : Array Value} {T : TypeId} (h : W.heap[b]? = some (.cells cs T (0, 0))) (j : Nat) : W.frozen? ⟨b, j, none⟩ = false := by
  unfold World.frozen?
  rw [h]
  simp
theorem set2_0 {W : World} {b : Nat} {u : Value} (x y : Value) (h0 : W.cell? ⟨b, 0, none⟩ = some u) : ((W.setCell ⟨b, 0, none⟩ x).setCell ⟨b, 1, none⟩ y).cell? ⟨b, 0, none⟩ = some x := by
  have h1 : (⟨b, 1, none⟩ : Addr) ≠ ⟨b, 0, none⟩ := by simp
  have h2 := World.cell?_setCell_same' W ⟨b, 0, none⟩ x (by rw [h0]; rfl)
  rw [← h2]
  exact World.cell?_setCell_other (h := h1) ..
theorem set2_1 {W : World} {b : Nat} {v : Value} (x y : Value) (h1 : W.cell? ⟨b, 1, none⟩ = some v) : ((W.setCell ⟨b, 0, none⟩ x).setCell ⟨b, 1, none⟩ y).cell? ⟨b, 1, none⟩ = some y := by
  have h0 : (⟨b, 0, none⟩ : Addr) ≠ ⟨b, 1, none⟩ := by simp
  refine World.cell?_setCell_same' _ _ _ ?_
  have h2 : (W.setCell ⟨b, 0, none⟩ x).cell? ⟨b, 1, none⟩ = W.cell? ⟨b, 1, none⟩ := World.cell?_setCell_other (h := h0) ..
  rw [h2, h1]
  rfl
/-- The new block's cells. -/
theorem new_cells (W : World) (cs : Array Value) (T : TypeId) : ∀ j u, cs.toList[j]? = some u → (W.alloc (.cells cs T)).cell? ((⟨W.heap.size, 0, none⟩ : Addr).add j) = some u := fun j u hu => by
  rw [Addr.add_lit, Nat.zero_add, Lib.cell_of_heap (heap_alloc_new W (.cells cs T))]
  simpa using hu
end Go.Proofs.YtnomcldpbkinmaaGreatDoor.Nz.Sc
