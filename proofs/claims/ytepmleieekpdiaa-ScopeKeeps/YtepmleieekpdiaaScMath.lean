/-
  Plain mathematics of scopes: what Find, Names, Enter answer; the document's binds is the program's.
-/
import Derived.Test.YtepmleieekpdiaaSplit
set_option linter.unusedSimpArgs false
set_option linter.unusedVariables false
namespace Go.Proofs.Ytepmleieekpdiaa

abbrev P2 := ByteArray × ByteArray
def xn : ByteArray := ⟨#[120, 109, 108, 110, 115]⟩
def xm : ByteArray := ⟨#[120, 109, 108]⟩
def XS : ByteArray := ⟨#[104, 116, 116, 112, 58, 47, 47, 119, 119, 119, 46, 119, 51, 46, 111, 114, 103, 47, 88, 77, 76, 47, 49, 57, 57, 56, 47, 110, 97, 109, 101, 115, 112, 97, 99, 101]⟩
def XN : ByteArray := ⟨#[104, 116, 116, 112, 58, 47, 47, 119, 119, 119, 46, 119, 51, 46, 111, 114, 103, 47, 50, 48, 48, 48, 47, 120, 109, 108, 110, 115, 47]⟩
def eqb (x y : ByteArray) : Bool := x.toList == y.toList
theorem toList_inj {a b : ByteArray} (h : a.toList = b.toList) : a = b := by
  rw [Lib.toList_data, Lib.toList_data] at h
  apply ByteArray.ext
  exact Array.toList_inj.1 h
theorem eqb_iff {x y : ByteArray} : eqb x y = true ↔ x = y := by
  unfold eqb
  rw [beq_iff_eq]
  exact ⟨toList_inj, fun h => by rw [h]⟩
theorem eqb_no {x y : ByteArray} : eqb x y = false ↔ x ≠ y := by
  rw [← Bool.not_eq_true, eqb_iff]
theorem eqb_self (x : ByteArray) : eqb x x = true := eqb_iff.2 rfl
/-- What Find answers. -/
def fndF (l : List P2) (p : ByteArray) : ByteArray × Bool := l.foldl (fun a b => if eqb b.1 p = true then (b.2, true) else a) (em, eqb p em)
theorem fnd_app (l : List P2) (b : P2) (p : ByteArray) : fndF (l ++ [b]) p = if eqb b.1 p = true then (b.2, true) else fndF l p := by
  unfold fndF
  rw [List.foldl_append]
  rfl
theorem take_snoc {α : Type} (l : List α) (k : Nat) (x : α) (h : l[k]? = some x) : l.take (k + 1) = l.take k ++ [x] := by
  rw [List.take_add_one, h]
  rfl
theorem fnd_from (l : List P2) (p : ByteArray) (k : Nat) (h : ∀ (j : Nat) (x : P2), k ≤ j → l[j]? = some x → eqb x.1 p = false) : fndF l p = fndF (l.take k) p := by
  have key : ∀ d k, l.length - k = d → (∀ (j : Nat) (x : P2), k ≤ j → l[j]? = some x → eqb x.1 p = false) → fndF l p = fndF (l.take k) p := by
    intro d
    induction d with
    | zero => intro k hd _; rw [List.take_of_length_le (by omega)]
    | succ d ih =>
      intro k hd hk
      have hlt : k < l.length := by omega
      have hx := List.getElem?_eq_getElem hlt
      rw [ih (k + 1) (by omega) (fun j x hj => hk j x (by omega)), take_snoc l k _ hx, fnd_app, if_neg (by rw [hk k _ (Nat.le_refl _) hx]; simp)]
  exact key _ k rfl h
theorem fnd_none (l : List P2) (p : ByteArray) (h : ∀ (j : Nat) (x : P2), l[j]? = some x → eqb x.1 p = false) : fndF l p = (em, eqb p em) := by
  rw [fnd_from l p 0 (fun j x _ => h j x)]
  rfl
theorem fnd_hit (l : List P2) (p : ByteArray) (k : Nat) (b : P2) (hk : l[k]? = some b) (he : eqb b.1 p = true) (h : ∀ (j : Nat) (x : P2), k < j → l[j]? = some x → eqb x.1 p = false) : fndF l p = (b.2, true) := by
  rw [fnd_from l p (k + 1) (fun j x hj => h j x (by omega)), take_snoc l k b hk, fnd_app, if_pos he]
theorem fnd_step (l : List P2) (p : ByteArray) (k : Nat) (b : P2) (hk : l[k]? = some b) : fndF (l.take (k + 1)) p = if eqb b.1 p = true then (b.2, true) else fndF (l.take k) p := by
  rw [take_snoc l k b hk, fnd_app]
theorem fnd_last (l : List P2) (b : P2) : fndF (l ++ [b]) b.1 = (b.2, true) := by
  rw [fnd_app, if_pos (eqb_self _)]
/-- The name of a prefix and a local part. -/
def resF (l : List P2) (p n : ByteArray) : Option P2 := if (fndF l p).2 = false ∨ eqb p xn = true then none else some ((fndF l p).1, n)
def namF (l : List P2) (s : ByteArray) : Option P2 := if (splitA s).2.2 = false then none else resF l (splitA s).1 (splitA s).2.1
def atnF (l : List P2) (s : ByteArray) : Option P2 := if (splitA s).2.2 = false then none else if eqb (splitA s).1 em = true then some (em, (splitA s).2.1) else resF l (splitA s).1 (splitA s).2.1
/-- Which prefix an attribute binds. -/
def bndF (s : ByteArray) : Option ByteArray := if eqb (splitA s).1 xn = true then some (splitA s).2.1 else if eqb (splitA s).1 em = true ∧ eqb (splitA s).2.1 xn = true then some em else none
def okB (p s : ByteArray) : Bool := !(eqb p xn || eqb s XN) && (eqb p xm == eqb s XS) && (eqb p em || !eqb s em)
def bindF : List P2 → List P2 → Option (List P2)
  | l, [] => some l
  | l, a :: r => match bndF a.1 with
    | none => bindF l r
    | some p => if okB p a.2 = true then bindF (l ++ [(p, a.2)]) r else none
abbrev P3 := P2 × ByteArray
def hasN (n : P2) (f : List P3) : Bool := f.any fun x => eqb x.1.1 n.1 && eqb x.1.2 n.2
theorem hasN_mem {n : P2} {f : List P3} : hasN n f = true ↔ n ∈ f.map (·.1) := by
  unfold hasN
  rw [List.any_eq_true, List.mem_map]
  constructor
  · rintro ⟨x, hx, h⟩
    rw [Bool.and_eq_true, eqb_iff, eqb_iff] at h
    exact ⟨x, hx, Prod.ext h.1 h.2⟩
  · rintro ⟨x, hx, h⟩
    refine ⟨x, hx, ?_⟩
    rw [← h, eqb_self, eqb_self]
    rfl
/-- The attributes that are no bindings. -/
def attF (W : List P2) : List P3 → List P2 → Except Int (List P3)
  | f, [] => .ok f
  | f, a :: r => match bndF a.1 with
    | some _ => attF W f r
    | none => match atnF W a.1 with
      | none => .error 9
      | some n => if hasN n f = true then .error 8 else attF W (f ++ [(n, a.2)]) r
/-- What Enter answers. -/
def entF (l : List P2) (nm : ByteArray) (r : List P2) : Except Int (List P2 × P2 × List P3) :=
  match bindF l r with
  | none => .error 9
  | some W => match namF W nm with
    | none => .error 9
    | some n => match attF W [] r with
      | .error c => .error c
      | .ok f => .ok (W, n, f)
/-- What Names answers. -/
def nmsF (l : List P2) : List P2 → List ByteArray → Option (List P2)
  | f, [] => some f
  | f, s :: r => match namF l s with
    | none => none
    | some n => nmsF l (f ++ [n]) r
/-- The document's binds. -/
def x6 : ByteArray := ⟨#[120, 109, 108, 110, 115, 58]⟩
def bdsF (s : ByteArray) : Option ByteArray := if eqb s xn = true then some em else if 6 < s.size ∧ eqb (s.extract 0 6) x6 = true then some (s.extract 6 s.size) else none
theorem split_isN {s : ByteArray} (h : (splitA s).2.2 = true) : (pl (bl s) = true ∧ splitA s = (em, s, true)) ∨ ∃ i, Hit s i ∧ splitA s = (s.extract 0 i, s.extract (i + 1) s.size, true) := by
  cases hp : pl (bl s) with
  | true => exact .inl ⟨rfl, plain_split hp⟩
  | false =>
    by_cases hn : ∃ i, Hit s i
    · obtain ⟨i, hi⟩ := hn
      exact .inr ⟨i, hi, hit_split hi⟩
    · rw [nohit_split hp (fun i _ hi => hn ⟨i, hi⟩)] at h
      cases h
theorem bl_xn : bl xn = [120, 109, 108, 110, 115] := by decide
theorem bl_x6 : bl x6 = [120, 109, 108, 110, 115, 58] := by decide
theorem hit_mem {s : ByteArray} {i : Nat} (h : Hit s i) : bl s = (bl s).take i ++ 58 :: (bl s).drop (i + 1) ∧ 58 ∉ (bl s).take i ∧ i < (bl s).length := by
  obtain ⟨h1, h2, h3, _⟩ := h
  have hl : i < (bl s).length := by rw [bl_len]; exact h1
  refine ⟨?_, fun hm => ?_, hl⟩
  · have := (List.take_append_drop i (bl s)).symm
    rw [List.drop_eq_getElem_cons hl] at this
    have e : (bl s)[i] = 58 := by
      rw [List.getD_eq_getElem?_getD, List.getElem?_eq_getElem hl] at h2
      exact h2
    rw [e] at this
    exact this
  · rw [pl_mem _ hm] at h3
    cases h3
theorem eqb_bl {x y : ByteArray} : eqb x y = true ↔ bl x = bl y := by
  rw [eqb_iff]
  exact ⟨fun h => by rw [h], bl_inj⟩
theorem em_ne_xn : eqb em xn = false := by rw [eqb_no]; intro h; have := congrArg ByteArray.size h; revert this; decide
theorem pl_ne_em {s : ByteArray} (h : pl (bl s) = true) : eqb s em = false := by
  rw [eqb_no]
  rintro rfl
  have : pl (bl em) = false := by decide
  rw [this] at h
  cases h
theorem bds_bnd {s : ByteArray} (h : (splitA s).2.2 = true) : bdsF s = bndF s := by
  unfold bdsF bndF
  rcases split_isN h with ⟨hp, he⟩ | ⟨i, hi, he⟩
  · rw [he]
    simp only [em_ne_xn, eqb_self, Bool.false_eq_true, if_false, true_and]
    by_cases hx : eqb s xn = true
    · rw [if_pos hx, if_pos hx]
    · rw [if_neg hx, if_neg hx, if_neg]
      rintro ⟨_, h6⟩
      rw [eqb_bl, bl_ext, bl_x6] at h6
      have : 58 ∈ bl s := by
        have h58 : (58 : Nat) ∈ ((bl s).drop 0).take (6 - 0) := by rw [h6]; simp
        exact List.mem_of_mem_drop (List.mem_of_mem_take h58)
      rw [pl_mem _ this] at hp
      cases hp
  · obtain ⟨g1, g2, g3⟩ := hit_mem hi
    have hsx : eqb s xn = false := by
      rw [← Bool.not_eq_true, eqb_bl]
      intro e
      have : (58 : Nat) ∈ bl s := by rw [g1]; simp
      rw [e, bl_xn] at this
      revert this
      decide
    have hpe : eqb (s.extract 0 i) em = false := pl_ne_em (by rw [bl_pre]; exact hi.2.2.1)
    rw [he]
    simp only [hsx, hpe, Bool.false_eq_true, if_false, false_and]
    by_cases hx : eqb (s.extract 0 i) xn = true
    · rw [if_pos hx]
      rw [eqb_bl, bl_pre, bl_xn] at hx
      have hi5 : i = 5 := by
        have := congrArg List.length hx
        rw [List.length_take, Nat.min_eq_left (by omega)] at this
        exact this
      subst hi5
      have hdrop : (bl s).drop 6 ≠ [] := fun e => by
        have := hi.2.2.2
        rw [e, pl_nil] at this
        cases this
      have hsz : 6 < s.size := by
        rw [← bl_len]
        rcases Nat.lt_or_ge 6 (bl s).length with h | h
        · exact h
        · exact absurd (List.drop_of_length_le h) hdrop
      have h6 : eqb (s.extract 0 6) x6 = true := by
        rw [eqb_bl, bl_pre, bl_x6, g1, hx]
        rfl
      rw [if_pos ⟨hsz, h6⟩]
    · rw [if_neg hx, if_neg]
      rintro ⟨h6, e6⟩
      apply hx
      rw [eqb_bl, bl_pre, bl_x6] at e6
      rw [eqb_bl, bl_pre, bl_xn]
      have hlen : 6 ≤ (bl s).length := by rw [bl_len]; omega
      have get6 : ∀ j, j < 6 → (bl s)[j]? = ([120, 109, 108, 110, 115, 58] : List Nat)[j]? := fun j hj => by rw [← e6, List.getElem?_take_of_lt hj]
      have hgi : (bl s)[i]? = some 58 := by
        have := hi.2.1
        rw [List.getD_eq_getElem?_getD, List.getElem?_eq_getElem g3] at this
        rw [List.getElem?_eq_getElem g3]
        exact congrArg some this
      have hi5 : i = 5 := by
        rcases Nat.lt_trichotomy i 5 with hlt | heq | hgt
        · rw [get6 i (by omega)] at hgi
          exfalso
          have : i = 0 ∨ i = 1 ∨ i = 2 ∨ i = 3 ∨ i = 4 := by omega
          rcases this with rfl | rfl | rfl | rfl | rfl <;> simp at hgi
        · exact heq
        · refine absurd ?_ g2
          have h5 : (bl s)[5]? = some 58 := get6 5 (by omega)
          exact List.mem_of_getElem? (i := 5) (by rw [List.getElem?_take_of_lt hgt]; exact h5)
      subst hi5
      have : (bl s).take 5 = ((bl s).take 6).take 5 := by rw [List.take_take]; rfl
      rw [this, e6]
      rfl
/-- The document's Resolve. -/
def rsvF (l : List P2) (s : ByteArray) (el : Bool) : Option P2 :=
  if (splitA s).2.2 = false ∨ eqb (splitA s).1 xn = true then none
  else if eqb (splitA s).1 em = true ∧ el = false then some (em, (splitA s).2.1)
  else if (fndF l (splitA s).1).2 = true then some ((fndF l (splitA s).1).1, (splitA s).2.1) else none
theorem rsv_nam (l : List P2) (s : ByteArray) : rsvF l s true = namF l s := by
  unfold rsvF namF resF
  cases (splitA s).2.2 <;> cases eqb (splitA s).1 xn <;> cases (fndF l (splitA s).1).2 <;> simp
theorem rsv_atn (l : List P2) (s : ByteArray) : rsvF l s false = atnF l s := by
  unfold rsvF atnF resF
  cases h1 : (splitA s).2.2
  · simp
  · cases h2 : eqb (splitA s).1 xn
    · cases eqb (splitA s).1 em <;> cases (fndF l (splitA s).1).2 <;> simp
    · have : eqb (splitA s).1 em = false := by
        rw [eqb_no]
        intro e
        rw [e, em_ne_xn] at h2
        cases h2
      rw [this]
      simp
/-- Sizes. -/
def Lim : Nat := 140737488351232
def LimL (l : List P2) : Prop := ∀ x ∈ l, x.1.size ≤ Lim ∧ x.2.size ≤ Lim
theorem em_size : em.size = 0 := rfl
theorem split_size (s : ByteArray) : (splitA s).1.size ≤ s.size ∧ (splitA s).2.1.size ≤ s.size := by
  unfold splitA
  split
  · split <;> simp [em_size]
  · split <;> simp [em_size] <;> omega
theorem fnd_size {l : List P2} (h : LimL l) (p : ByteArray) : (fndF l p).1.size ≤ Lim := by
  have key : ∀ k, (fndF (l.take k) p).1.size ≤ Lim := by
    intro k
    induction k with
    | zero => simp [fndF, em_size]
    | succ k ih =>
      by_cases hk : k < l.length
      · rw [fnd_step l p k _ (List.getElem?_eq_getElem hk)]
        split
        · exact (h _ (List.getElem_mem hk)).2
        · exact ih
      · rw [List.take_of_length_le (by omega)]
        rw [List.take_of_length_le (by omega)] at ih
        exact ih
  have := key l.length
  rwa [List.take_of_length_le (Nat.le_refl _)] at this
theorem bind_lim : ∀ (r l : List P2) {W : List P2}, LimL l → LimL r → bindF l r = some W → LimL W
  | [], l, W, hl, _, h => by
    injection h with h
    rw [← h]
    exact hl
  | a :: r, l, W, hl, hr, h => by
    unfold bindF at h
    have hr' : LimL r := fun x hx => hr x (List.mem_cons_of_mem _ hx)
    have ha := hr a List.mem_cons_self
    split at h
    · exact bind_lim r l hl hr' h
    · rename_i p hp
      split at h
      · refine bind_lim r _ (fun x hx => ?_) hr' h
        rcases List.mem_append.1 hx with hx | hx
        · exact hl x hx
        · rw [List.mem_singleton] at hx
          subst hx
          refine ⟨?_, ha.2⟩
          unfold bndF at hp
          split at hp
          · injection hp with hp
            rw [← hp]
            exact Nat.le_trans (split_size a.1).2 ha.1
          · split at hp
            · injection hp with hp
              rw [← hp]
              simp [em_size]
            · cases hp
      · cases h
theorem bind_len : ∀ (r l : List P2) {W : List P2}, bindF l r = some W → l.length ≤ W.length ∧ W.length ≤ l.length + r.length ∧ W.take l.length = l
  | [], l, W, h => by
    injection h with h
    subst h
    simp
  | a :: r, l, W, h => by
    unfold bindF at h
    split at h
    · have := bind_len r l h
      rw [List.length_cons]
      exact ⟨this.1, by omega, this.2.2⟩
    · split at h
      · obtain ⟨h1, h2, h3⟩ := bind_len r _ h
        rw [List.length_append, List.length_cons, List.length_nil] at h1 h2 h3
        rw [List.length_cons]
        refine ⟨by omega, by omega, ?_⟩
        have := congrArg (List.take l.length) h3
        rw [List.take_take, Nat.min_eq_left (by omega), List.take_left' rfl] at this
        exact this
      · cases h
theorem att_len (W : List P2) : ∀ (r : List P2) (f : List P3) {g : List P3}, attF W f r = .ok g → g.length ≤ f.length + r.length
  | [], f, g, h => by
    injection h with h
    subst h
    simp
  | a :: r, f, g, h => by
    unfold attF at h
    rw [List.length_cons]
    split at h
    · have := att_len W r f h
      omega
    · split at h
      · cases h
      · split at h
        · cases h
        · have := att_len W r _ h
          rw [List.length_append, List.length_cons, List.length_nil] at this
          omega
end Go.Proofs.Ytepmleieekpdiaa
