/-
  Merged by program out of the texts EvRows, TrMem, TrSmW, TrSzW, EvSame2, EvLaw3 of one seat.
-/
import Derived.Test.YtaoggciebkaakaaG02
import Derived.Laws.OwnMore
import Derived.OwnWalk
import Derived.Deep.RegionHeld3
import Derived.BigQuiet
import Derived.Laws.AppendOwn
import Derived.Laws.AppendOwnNone

/- Rows of events of the call's own: what is appended to them, what they read as; the document's Same of two that are alike. -/
set_option linter.unusedSimpArgs false
set_option linter.unusedVariables false
namespace Go.Proofs.Ytaoggciebkaakaa.Ev
open Go.RowKit

section
variable {α : Type} {f : α → List Value} {z : Nat}
theorem cel_len (hz : ∀ x, (f x).length = z) (l : List α) : (l.flatMap f).length = l.length * z := by
  induction l with
  | nil => simp
  | cons x l ih => rw [List.flatMap_cons, List.length_append, hz, ih, List.length_cons, Nat.add_mul, Nat.one_mul, Nat.add_comm]
theorem cel_get (hz : ∀ x, (f x).length = z) : ∀ (l : List α) (k i : Nat) (t : α), l[k]? = some t → i < z → (l.flatMap f)[k * z + i]? = (f t)[i]?
  | [], k, i, t, h, _ => by simp at h
  | x :: l, 0, i, t, h, hi => by
    have : x = t := by simpa using h
    subst this
    rw [List.flatMap_cons, Nat.zero_mul, Nat.zero_add, List.getElem?_append_left (by rw [hz]; exact hi)]
  | x :: l, k + 1, i, t, h, hi => by
    have h' : l[k]? = some t := by simpa using h
    have e : (k + 1) * z + i - z = k * z + i := by rw [Nat.add_mul, Nat.one_mul]; omega
    rw [List.flatMap_cons, List.getElem?_append_right (by rw [hz, Nat.add_mul, Nat.one_mul]; omega), hz, e]
    exact cel_get hz l k i t h' hi
end
/-- An event, with its attributes' slice. -/
abbrev PE := RE × (Option Addr × Nat × Nat)
def peC (p : PE) : List Value := [.int .i64 p.1.kind, .string p.1.sp, .string p.1.lo, .slice p.2.1 p.2.2.1 p.2.2.2, .string p.1.tx]
def peL (l : List PE) : List Value := l.flatMap peC
theorem peC_len (p : PE) : (peC p).length = 5 := rfl
theorem peL_len (l : List PE) : (peL l).length = l.length * 5 := cel_len peC_len l
theorem peL_get (l : List PE) (k i : Nat) (p : PE) (h : l[k]? = some p) (hi : i < 5) : (peL l)[k * 5 + i]? = (peC p)[i]? := cel_get peC_len l k i p h hi
theorem peL_app (a b : List PE) : peL (a ++ b) = peL a ++ peL b := by unfold peL; simp
theorem peL_one (l : List PE) : ∀ u ∈ peL l, u.oneCell' = true := by
  intro u hu
  obtain ⟨p, _, hu⟩ := List.mem_flatMap.1 hu
  unfold peC at hu
  simp only [List.mem_cons, List.not_mem_nil, or_false] at hu
  rcases hu with rfl | rfl | rfl | rfl | rfl <;> rfl
/-- The attributes of these events stand in memory. -/
def PeO (W : World) (ps : List PE) : Prop := ∀ p ∈ ps, AttsIn W p.2.1 p.2.2.1 p.2.2.2 p.1.ats ∧ RSz p.1
theorem PeO.keep {W W' : World} {ps : List PE} (h : PeO W ps) (hb : Below W.heap.size W W') : PeO W' ps := fun p hp => ⟨(h p hp).1.keep hb, (h p hp).2⟩
theorem PeO.app {W : World} {a b : List PE} (h : PeO W a) (k : PeO W b) : PeO W (a ++ b) := fun p hp => (List.mem_append.1 hp).elim (h p) (k p)
/-- A row of the call's own reads as its events. -/
theorem own_evs {W : World} {B n c : Nat} {A : Option Addr} {ps : List PE} (h : W.ownsRow B 38 5 (.slice A n c) n (peL ps)) (hn : n = ps.length) (hO : PeO W ps) (h5 : n ≤ 4398046511104) : EvsIn W A n c (ps.map (·.1)) := by
  have hx : ∀ x ∈ ps.map (·.1), RSz x := fun x hx => by
    obtain ⟨p, hp, rfl⟩ := List.mem_map.1 hx
    exact (hO p hp).2
  rcases h.2 with ⟨q, h0⟩ | ⟨g, cap, cur, q, hB, hg, h1, h2, _⟩
  · injection q with q1 q2 q3
    subst q1 q2 q3
    refine ⟨by rw [List.length_map]; exact hn, Nat.zero_le _, Nat.zero_le _, hx, fun k x hk => ?_, fun _ => ⟨rfl, rfl⟩, ⟨Nat.le_refl _, Nat.zero_le _⟩⟩
    rw [List.eq_nil_of_length_eq_zero hn.symm] at hk
    simp at hk
  · injection q with q1 q2 q3
    subst q1 q3
    refine ⟨by rw [List.length_map]; exact hn, by omega, h5, hx, fun k x hk => ?_, (fun e => by cases e), ⟨h1, h2⟩⟩
    rw [List.getElem?_map] at hk
    obtain ⟨p, hp, rfl⟩ := Option.map_eq_some_iff.1 hk
    have hc : ∀ i, i < 5 → W.cell? ⟨g, k * 5 + i, none⟩ = (peC p)[i]? := fun i hi => by
      have g1 := peL_get ps k i p hp hi
      have hlt : i < (peC p).length := by rw [peC_len]; exact hi
      rw [List.getElem?_eq_getElem hlt] at g1 ⊢
      have := h.cells rfl _ _ g1
      rw [add_at] at this
      exact this
    refine ⟨g, 0, p.2.1, p.2.2.1, p.2.2.2, rfl, (Array.getElem?_eq_some_iff.1 hg).1, (hO p (List.mem_of_getElem? hp)).1, ?_, ?_, ?_, ?_, ?_⟩
    all_goals rw [Nat.zero_add]
    · exact hc 0 (by omega)
    · exact hc 1 (by omega)
    · exact hc 2 (by omega)
    · exact hc 3 (by omega)
    · exact hc 4 (by omega)
theorem EvsIn.take {W : World} {A : Option Addr} {n c k : Nat} {l : List RE} (h : EvsIn W A n c l) (hk : k ≤ n) : EvsIn W A k c (l.take k) :=
  ⟨by rw [List.length_take, ← h.len]; omega, by have := h.lsz; omega, by have := h.cnt; omega, fun x hx => h.xsz x (List.mem_of_mem_take hx), (fun j x hj => by
    rw [List.getElem?_take] at hj
    by_cases q : j < k
    · rw [if_pos q] at hj
      exact h.rd j x hj
    · rw [if_neg q] at hj
      cases hj), (fun e => ⟨by have := (h.nil e).1; omega, (h.nil e).2⟩), ⟨by have := h.cap.1; omega, h.cap.2⟩⟩
theorem attsNil (W : World) : AttsIn W none 0 0 [] := ⟨rfl, Nat.zero_le _, Nat.zero_le _, fun x hx => by simp at hx, fun j x hx => by simp at hx, fun _ => ⟨rfl, rfl⟩⟩
end Go.Proofs.Ytaoggciebkaakaa.Ev

/- Trees in memory (layer 10): rows of trees, read; kept by what leaves their blocks alone. -/
set_option linter.unusedSimpArgs false
set_option linter.unusedVariables false
namespace Go.Proofs.Ytaoggciebkaakaa.Ev
open Go.RowKit

/-- The slices of attributes whose blocks are all among these. -/
def AtP (P : Nat → Prop) (A : Option Addr) (n : Nat) : Prop := 0 < n → ∀ a, A = some a → P a.block
/-- The trees that stand in block b from there on; what they name lies in blocks among these. -/
def KsAt (P : Nat → Prop) (W : World) : Fo → Nat → Nat → Prop
  | .nil, _, _ => True
  | .cons t tx sp lo ats ks nx, b, off => (∃ Aa na ca Ak nk ck, (W.cell? ⟨b, off, none⟩ = some (.bool t) ∧ W.cell? ⟨b, off + 1, none⟩ = some (.string tx) ∧ W.cell? ⟨b, off + 2, none⟩ = some (.string sp) ∧ W.cell? ⟨b, off + 3, none⟩ = some (.string lo) ∧ W.cell? ⟨b, off + 4, none⟩ = some (.slice Aa na ca) ∧ W.cell? ⟨b, off + 5, none⟩ = some (.slice Ak nk ck)) ∧
      (tx.size ≤ maxLen ∧ sp.size ≤ maxLen ∧ lo.size ≤ maxLen) ∧ AttsIn W Aa na ca ats ∧ AtP P Aa na ∧
      (nk = ks.len ∧ nk ≤ 4398046511104 ∧ nk ≤ ck ∧ ck ≤ maxLen ∧ (Ak = none → nk = 0 ∧ ck = 0) ∧ (0 < nk → ∃ b' off', Ak = some ⟨b', off', none⟩ ∧ b' < W.heap.size ∧ P b' ∧ KsAt P W ks b' off'))) ∧ KsAt P W nx b (off + 6)
/-- A slice of trees. -/
def KsIn (P : Nat → Prop) (W : World) (ks : Fo) (A : Option Addr) (n c : Nat) : Prop :=
  n = ks.len ∧ n ≤ 4398046511104 ∧ n ≤ c ∧ c ≤ maxLen ∧ (A = none → n = 0 ∧ c = 0) ∧ (0 < n → ∃ b' off', A = some ⟨b', off', none⟩ ∧ b' < W.heap.size ∧ P b' ∧ KsAt P W ks b' off')
/-- One tree's parts. -/
structure Tr1 (P : Nat → Prop) (W : World) (tx sp lo : ByteArray) (ats : List P3) (ks : Fo) (Aa : Option Addr) (na ca : Nat) (Ak : Option Addr) (nk ck : Nat) : Prop where
  sz : tx.size ≤ maxLen ∧ sp.size ≤ maxLen ∧ lo.size ≤ maxLen
  at_ : AttsIn W Aa na ca ats
  ap : AtP P Aa na
  ks : KsIn P W ks Ak nk ck
/-- A tree's cells, from there on. -/
def Tc6 (W : World) (b off : Nat) (t : Bool) (tx sp lo : ByteArray) (Aa : Option Addr) (na ca : Nat) (Ak : Option Addr) (nk ck : Nat) : Prop :=
  W.cell? ⟨b, off, none⟩ = some (.bool t) ∧ W.cell? ⟨b, off + 1, none⟩ = some (.string tx) ∧ W.cell? ⟨b, off + 2, none⟩ = some (.string sp) ∧ W.cell? ⟨b, off + 3, none⟩ = some (.string lo) ∧ W.cell? ⟨b, off + 4, none⟩ = some (.slice Aa na ca) ∧ W.cell? ⟨b, off + 5, none⟩ = some (.slice Ak nk ck)
section
variable {P Q : Nat → Prop} {W W' : World}
theorem KsAt.head {t : Bool} {tx sp lo : ByteArray} {ats : List P3} {ks nx : Fo} {b off : Nat} (h : KsAt P W (.cons t tx sp lo ats ks nx) b off) : (∃ Aa na ca Ak nk ck, Tc6 W b off t tx sp lo Aa na ca Ak nk ck ∧ Tr1 P W tx sp lo ats ks Aa na ca Ak nk ck) ∧ KsAt P W nx b (off + 6) := by
  obtain ⟨⟨Aa, na, ca, Ak, nk, ck, h1, h2, h3, h4, h5⟩, h6⟩ := h
  exact ⟨⟨Aa, na, ca, Ak, nk, ck, h1, ⟨h2, h3, h4, h5⟩⟩, h6⟩
theorem KsAt.mk {t : Bool} {tx sp lo : ByteArray} {ats : List P3} {ks nx : Fo} {b off : Nat} {Aa : Option Addr} {na ca : Nat} {Ak : Option Addr} {nk ck : Nat} (h1 : Tc6 W b off t tx sp lo Aa na ca Ak nk ck) (h2 : Tr1 P W tx sp lo ats ks Aa na ca Ak nk ck) (h3 : KsAt P W nx b (off + 6)) : KsAt P W (.cons t tx sp lo ats ks nx) b off :=
  ⟨⟨Aa, na, ca, Ak, nk, ck, h1, h2.sz, h2.at_, h2.ap, h2.ks⟩, h3⟩
theorem KsAt.mono (hPQ : ∀ b, P b → Q b) : ∀ {f : Fo} {b off : Nat}, KsAt P W f b off → KsAt Q W f b off
  | .nil, _, _, _ => trivial
  | .cons t tx sp lo ats ks nx, b, off, h => by
    obtain ⟨⟨Aa, na, ca, Ak, nk, ck, h1, h2, h3, h4, h5, h6, h7, h8, h9, h10⟩, h11⟩ := h
    exact ⟨⟨Aa, na, ca, Ak, nk, ck, h1, h2, h3, fun h0 a e => hPQ _ (h4 h0 a e), h5, h6, h7, h8, h9, fun hn => by
      obtain ⟨b', off', e, hb, hp, hk⟩ := h10 hn
      exact ⟨b', off', e, hb, hPQ _ hp, KsAt.mono hPQ hk⟩⟩, KsAt.mono hPQ h11⟩
theorem cell_lt {p : Addr} {u : Value} (h : W.cell? p = some u) (hb : Below W.heap.size W W') : W'.cell? p = some u := (hb.cell (p := p) (Lib.lt_of_cell h)).trans h
theorem KsAt.keep (hb : Below W.heap.size W W') : ∀ {f : Fo} {b off : Nat}, KsAt P W f b off → KsAt P W' f b off
  | .nil, _, _, _ => trivial
  | .cons t tx sp lo ats ks nx, b, off, h => by
    obtain ⟨⟨Aa, na, ca, Ak, nk, ck, h1, h2, h3, h4, h5, h6, h7, h8, h9, h10⟩, h11⟩ := h
    exact ⟨⟨Aa, na, ca, Ak, nk, ck, ⟨cell_lt h1.1 hb, cell_lt h1.2.1 hb, cell_lt h1.2.2.1 hb, cell_lt h1.2.2.2.1 hb, cell_lt h1.2.2.2.2.1 hb, cell_lt h1.2.2.2.2.2 hb⟩, h2, h3.keep hb, h4, h5, h6, h7, h8, h9, fun hn => by
      obtain ⟨b', off', e, hlt, hp, hk⟩ := h10 hn
      exact ⟨b', off', e, Nat.lt_of_lt_of_le hlt hb.size, hp, KsAt.keep hb hk⟩⟩, KsAt.keep hb h11⟩
theorem KsIn.keep {f : Fo} {A : Option Addr} {n c : Nat} (h : KsIn P W f A n c) (hb : Below W.heap.size W W') : KsIn P W' f A n c :=
  ⟨h.1, h.2.1, h.2.2.1, h.2.2.2.1, h.2.2.2.2.1, fun hn => by
    obtain ⟨b', off', e, hlt, hp, hk⟩ := h.2.2.2.2.2 hn
    exact ⟨b', off', e, Nat.lt_of_lt_of_le hlt hb.size, hp, hk.keep hb⟩⟩
theorem KsIn.mono {f : Fo} {A : Option Addr} {n c : Nat} (hPQ : ∀ b, P b → Q b) (h : KsIn P W f A n c) : KsIn Q W f A n c :=
  ⟨h.1, h.2.1, h.2.2.1, h.2.2.2.1, h.2.2.2.2.1, fun hn => by
    obtain ⟨b', off', e, hlt, hp, hk⟩ := h.2.2.2.2.2 hn
    exact ⟨b', off', e, hlt, hPQ _ hp, hk.mono hPQ⟩⟩
theorem Tr1.keep {tx sp lo : ByteArray} {ats : List P3} {ks : Fo} {Aa : Option Addr} {na ca : Nat} {Ak : Option Addr} {nk ck : Nat} (h : Tr1 P W tx sp lo ats ks Aa na ca Ak nk ck) (hb : Below W.heap.size W W') : Tr1 P W' tx sp lo ats ks Aa na ca Ak nk ck := ⟨h.sz, h.at_.keep hb, h.ap, h.ks.keep hb⟩
theorem Tr1.mono {tx sp lo : ByteArray} {ats : List P3} {ks : Fo} {Aa : Option Addr} {na ca : Nat} {Ak : Option Addr} {nk ck : Nat} (hPQ : ∀ b, P b → Q b) (h : Tr1 P W tx sp lo ats ks Aa na ca Ak nk ck) : Tr1 Q W tx sp lo ats ks Aa na ca Ak nk ck := ⟨h.sz, h.at_, fun h0 a e => hPQ _ (h.ap h0 a e), h.ks.mono hPQ⟩
/-- A row that grows elsewhere. -/
theorem RdT.keepG {A : Option Addr} {l : List P3} {row : Option Nat} (h : RdT W A l) (hg : W.grownBy W' row) (hne : 0 < l.length → ∀ a, A = some a → some a.block ≠ row) : RdT W' A l := fun k x hk => by
  obtain ⟨b, o, e, hlt, c0, c1, c2⟩ := h k x hk
  have hn : some b ≠ row := hne (Nat.lt_of_le_of_lt (Nat.zero_le k) (List.getElem?_eq_some_iff.1 hk).1) _ e
  exact ⟨b, o, e, Nat.lt_of_lt_of_le hlt hg.size, hg.cell c0 hn, hg.cell c1 hn, hg.cell c2 hn⟩
theorem AttsIn.keepG {A : Option Addr} {n c : Nat} {l : List P3} {row : Option Nat} (h : AttsIn W A n c l) (hg : W.grownBy W' row) (hne : 0 < n → ∀ a, A = some a → some a.block ≠ row) : AttsIn W' A n c l := ⟨h.len, h.lsz, h.cnt, h.xsz, h.rd.keepG hg (fun h0 => hne (by rw [h.len]; exact h0)), h.nil⟩
theorem AttsIn.low {A : Option Addr} {n c : Nat} {l : List P3} (h : AttsIn W A n c l) : AtP (· < W.heap.size) A n := fun h0 a e => by
  obtain ⟨b, o, e', hlt, _⟩ := h.rd 0 _ (List.getElem?_eq_getElem (show 0 < l.length by rw [← h.len]; exact h0))
  rw [e] at e'
  injection e' with e'
  rw [e']
  exact hlt
theorem KsAt.grown {row : Option Nat} (hg : W.grownBy W' row) (hP : ∀ b, P b → some b ≠ row) : ∀ {f : Fo} {b off : Nat}, some b ≠ row → KsAt P W f b off → KsAt P W' f b off
  | .nil, _, _, _, _ => trivial
  | .cons t tx sp lo ats ks nx, b, off, hb, h => by
    obtain ⟨⟨Aa, na, ca, Ak, nk, ck, h1, h2, h3, h4, h5, h6, h7, h8, h9, h10⟩, h11⟩ := h
    exact ⟨⟨Aa, na, ca, Ak, nk, ck, ⟨hg.cell h1.1 hb, hg.cell h1.2.1 hb, hg.cell h1.2.2.1 hb, hg.cell h1.2.2.2.1 hb, hg.cell h1.2.2.2.2.1 hb, hg.cell h1.2.2.2.2.2 hb⟩, h2, h3.keepG hg (fun h0 a e => hP _ (h4 h0 a e)), h4, h5, h6, h7, h8, h9, fun hn => by
      obtain ⟨b', off', e, hlt, hp, hk⟩ := h10 hn
      exact ⟨b', off', e, Nat.lt_of_lt_of_le hlt hg.size, hp, KsAt.grown hg hP (hP _ hp) hk⟩⟩, KsAt.grown hg hP hb h11⟩
theorem KsIn.grown {row : Option Nat} (hg : W.grownBy W' row) (hP : ∀ b, P b → some b ≠ row) {f : Fo} {A : Option Addr} {n c : Nat} (h : KsIn P W f A n c) : KsIn P W' f A n c :=
  ⟨h.1, h.2.1, h.2.2.1, h.2.2.2.1, h.2.2.2.2.1, fun hn => by
    obtain ⟨b', off', e, hlt, hp, hk⟩ := h.2.2.2.2.2 hn
    exact ⟨b', off', e, Nat.lt_of_lt_of_le hlt hg.size, hp, hk.grown hg hP (hP _ hp)⟩⟩
theorem KsAt.drop : ∀ {k : Nat} {f : Fo} {b off : Nat}, KsAt P W f b off → KsAt P W (f.drop k) b (off + k * 6)
  | 0, f, b, off, h => by rw [Nat.zero_mul, Nat.add_zero]; exact h
  | k + 1, .nil, b, off, h => trivial
  | k + 1, .cons t tx sp lo ats ks nx, b, off, h => by
    have := KsAt.drop (k := k) h.2
    rw [show off + (k + 1) * 6 = off + 6 + k * 6 by omega]
    exact this
theorem KsAt.app : ∀ {f g : Fo} {b off : Nat}, KsAt P W f b off → KsAt P W g b (off + f.len * 6) → KsAt P W (f.app g) b off
  | .nil, g, b, off, _, h => by
    rw [Fo.len, Nat.zero_mul, Nat.add_zero] at h
    exact h
  | .cons t tx sp lo ats ks nx, g, b, off, h, h2 => by
    rw [Fo.len, show off + (nx.len + 1) * 6 = off + 6 + nx.len * 6 by omega] at h2
    exact ⟨h.1, KsAt.app h.2 h2⟩
/-- The k-th tree of a slice. -/
theorem KsIn.at_ {f : Fo} {A : Option Addr} {n c k : Nat} (h : KsIn P W f A n c) (hk : k < n) : ∃ t tx sp lo ats ks b off Aa na ca Ak nk ck, f.drop k = .cons t tx sp lo ats ks (f.drop (k + 1)) ∧ A = some ⟨b, off, none⟩ ∧ b < W.heap.size ∧ Tc6 W b (off + k * 6) t tx sp lo Aa na ca Ak nk ck ∧ Tr1 P W tx sp lo ats ks Aa na ca Ak nk ck := by
  obtain ⟨b, off, e, hlt, hp, hks⟩ := h.2.2.2.2.2 (by omega)
  obtain ⟨t, tx, sp, lo, ats, ks, e1, _⟩ := drop_cons (k := k) (f := f) (by rw [← h.1]; exact hk)
  have hd := hks.drop (k := k)
  rw [e1] at hd
  obtain ⟨⟨Aa, na, ca, Ak, nk, ck, h1, h2⟩, _⟩ := hd.head
  exact ⟨t, tx, sp, lo, ats, ks, b, off, Aa, na, ca, Ak, nk, ck, e1, e, hlt, h1, h2⟩
end
theorem ksNil (P : Nat → Prop) (W : World) : KsIn P W .nil none 0 0 := ⟨rfl, Nat.zero_le _, Nat.le_refl _, Nat.zero_le _, fun _ => ⟨rfl, rfl⟩, fun h => by omega⟩
end Go.Proofs.Ytaoggciebkaakaa.Ev

/- The document's Same (layer 10) of whatever two trees. -/
set_option linter.unusedSimpArgs false
set_option linter.unusedVariables false
namespace Go.Proofs.Ytaoggciebkaakaa.Ev
open Go.RowKit

/-- Two rows of trees are the same. -/
def smG : Fo → Fo → Bool
  | .nil, .nil => true
  | .cons t tx sp lo ats ks nx, .cons t' tx' sp' lo' ats' ks' nx' => (t == t') && (tx.toList == tx'.toList) && eqn (sp, lo) (sp', lo') && (ats.length == ats'.length) && ((ats.zip ats').all fun p => eq3 p.1 p.2) && smG ks ks' && smG nx nx'
  | _, _ => false
theorem sm_len : ∀ {f g : Fo}, smG f g = true → f.len = g.len
  | .nil, .nil, _ => rfl
  | .cons t tx sp lo ats ks nx, .cons t' tx' sp' lo' ats' ks' nx', h => by
    unfold smG at h
    simp only [Bool.and_eq_true] at h
    rw [Fo.len, Fo.len, sm_len h.2]
  | .nil, .cons _ _ _ _ _ _ _, h => by cases h
  | .cons _ _ _ _ _ _ _, .nil, h => by cases h
theorem siz_drop : ∀ (k : Nat) (f : Fo), (f.drop k).siz ≤ f.siz
  | 0, f => Nat.le_refl _
  | k + 1, .nil => Nat.le_refl _
  | k + 1, .cons t tx sp lo ats ks nx => by
    rw [Fo.drop, Fo.siz]
    have := siz_drop k nx
    omega
theorem siz_kid {f : Fo} {k : Nat} {t : Bool} {tx sp lo : ByteArray} {ats : List P3} {ks nx : Fo} (h : f.drop k = .cons t tx sp lo ats ks nx) : ks.siz + 1 ≤ f.siz := by
  have := siz_drop k f
  rw [h, Fo.siz] at this
  omega
theorem sm_one {t t' : Bool} {tx sp lo tx' sp' lo' : ByteArray} {ats ats' : List P3} {ks ks' nx nx' : Fo} : smG (.cons t tx sp lo ats ks nx) (.cons t' tx' sp' lo' ats' ks' nx') = (smG (.cons t tx sp lo ats ks .nil) (.cons t' tx' sp' lo' ats' ks' .nil) && smG nx nx') := by
  have e : smG .nil .nil = true := rfl
  conv => lhs; unfold smG
  conv => rhs; lhs; unfold smG
  rw [e, Bool.and_true]
theorem cells6 {W : World} {b : Nat} {a0 a1 a2 a3 a4 a5 : Value} {T : TypeId} {fz : Nat × Nat} (h : W.heap[b]? = some (.cells #[a0, a1, a2, a3, a4, a5] T fz)) : W.cell? ⟨b, 0, none⟩ = some a0 ∧ W.cell? ⟨b, 1, none⟩ = some a1 ∧ W.cell? ⟨b, 2, none⟩ = some a2 ∧ W.cell? ⟨b, 3, none⟩ = some a3 ∧ W.cell? ⟨b, 4, none⟩ = some a4 ∧ W.cell? ⟨b, 5, none⟩ = some a5 := ⟨cells_of h 0 rfl, cells_of h 1 rfl, cells_of h 2 rfl, cells_of h 3 rfl, cells_of h 4 rfl, cells_of h 5 rfl⟩
theorem Tc6.keep {W W' : World} {b off : Nat} {t : Bool} {tx sp lo : ByteArray} {Aa : Option Addr} {na ca : Nat} {Ak : Option Addr} {nk ck : Nat} (h : Tc6 W b off t tx sp lo Aa na ca Ak nk ck) (hb : Below W.heap.size W W') : Tc6 W' b off t tx sp lo Aa na ca Ak nk ck :=
  ⟨cell_lt h.1 hb, cell_lt h.2.1 hb, cell_lt h.2.2.1 hb, cell_lt h.2.2.2.1 hb, cell_lt h.2.2.2.2.1 hb, cell_lt h.2.2.2.2.2 hb⟩
theorem toList_eq {a b : ByteArray} (h : a.toList = b.toList) : a = b := by
  rw [Lib.toList_data, Lib.toList_data] at h
  cases a; cases b
  simp only [ByteArray.mk.injEq] at h ⊢
  exact Array.toList_inj.1 h
theorem eqn_self (x : P2) : eqn x x = true := by unfold eqn; simp
/-- Two boxes' slices of children, a child of each. -/
structure SmX (bX bY : Nat) (Ak : Option Addr) (nk ck : Nat) (Ak' : Option Addr) (nk' ck' : Nat) (c1 c2 : World → Prop) (W0 W : World) : Prop where
  kx : W.cell? ⟨bX, 5, none⟩ = some (.slice Ak nk ck)
  ky : W.cell? ⟨bY, 5, none⟩ = some (.slice Ak' nk' ck')
  x : c1 W
  y : c2 W
  bel : Below W0.heap.size W0 W
def TrC (N : Nat) : Prop := ∀ (t : Bool) (tx sp lo : ByteArray) (ats : List P3) (ks : Fo) (Aa : Option Addr) (na ca : Nat) (Ak : Option Addr) (nk ck : Nat) (t' : Bool) (tx' sp' lo' : ByteArray) (ats' : List P3) (ks' : Fo) (Aa' : Option Addr) (na' ca' : Nat) (Ak' : Option Addr) (nk' ck' : Nat) (P Q : Nat → Prop) (W : World), ks.siz < N → Tr1 P W tx sp lo ats ks Aa na ca Ak nk ck → Tr1 Q W tx' sp' lo' ats' ks' Aa' na' ca' Ak' nk' ck' →
    Calls Try.prog 12 #[.agg #[.bool t, .string tx, .string sp, .string lo, .slice Aa na ca, .slice Ak nk ck], .agg #[.bool t', .string tx', .string sp', .string lo', .slice Aa' na' ca', .slice Ak' nk' ck']] W fun e w' => e = .returned (.bool (smG (.cons t tx sp lo ats ks .nil) (.cons t' tx' sp' lo' ats' ks' .nil))) ∧ Below W.heap.size W w'
set_option maxHeartbeats 8000000 in
set_option maxRecDepth 100000 in
theorem same_step (N : Nat) (hIH : Hid (TrC N)) : TrC (N + 1) := by
  intro t tx sp lo ats ks Aa na ca Ak nk ck t' tx' sp' lo' ats' ks' Aa' na' ca' Ak' nk' ck' P Q w hN T1 T2
  obtain ⟨F, hF⟩ : ∃ F, F = smG (.cons t tx sp lo ats ks .nil) (.cons t' tx' sp' lo' ats' ks' .nil) := ⟨_, rfl⟩
  rw [← hF]
  have HF : Hid (F = ((t == t') && (tx.toList == tx'.toList) && eqn (sp, lo) (sp', lo') && (ats.length == ats'.length) && ((ats.zip ats').all fun p => eq3 p.1 p.2) && smG ks ks')) := Lib.hid (by
    rw [hF]
    have e : smG .nil .nil = true := rfl
    conv => lhs; unfold smG
    rw [e, Bool.and_true])
  have HN := Lib.hid hN
  have HT1 := Lib.hid T1
  have HT2 := Lib.hid T2
  have hna := T1.at_.cnt
  have hnk := T1.ks.2.1
  obtain ⟨W0, hW0⟩ : ∃ W0, W0 = (w.alloc (.cells #[.bool t, .string tx, .string sp, .string lo, .slice Aa na ca, .slice Ak nk ck] 30)).alloc (.cells #[.bool t', .string tx', .string sp', .string lo', .slice Aa' na' ca', .slice Ak' nk' ck'] 30) := ⟨_, rfl⟩
  have HB0 : Hid (Below w.heap.size w W0) := Lib.hid (by rw [hW0]; exact ((Below.refl w.heap.size w).alloc (Nat.le_refl _) _).alloc (by simp) _)
  have HKa : Hid (W0.heap[w.heap.size]? = some (.cells #[.bool t, .string tx, .string sp, .string lo, .slice Aa na ca, .slice Ak nk ck] 30 (0, 0))) := Lib.hid (by rw [hW0]; exact (Below.heap_alloc _ _ _ (by simp)).trans (nblk w 30 _))
  have HKb : Hid (W0.heap[w.heap.size + 1]? = some (.cells #[.bool t', .string tx', .string sp', .string lo', .slice Aa' na' ca', .slice Ak' nk' ck'] 30 (0, 0))) := Lib.hid (by rw [hW0]; have h := nblk (w.alloc (.cells #[.bool t, .string tx, .string sp, .string lo, .slice Aa na ca, .slice Ak nk ck] 30)) 30 #[.bool t', .string tx', .string sp', .string lo', .slice Aa' na' ca', .slice Ak' nk' ck']; rw [World.size_alloc] at h; exact h)
  have HZ : Hid (w.heap.size + 1 < W0.heap.size) := Lib.hid (by rw [hW0]; simp)
  clear T1 T2 hN hF
  by_cases hall : t = t' ∧ tx = tx' ∧ sp = sp' ∧ lo = lo' ∧ na = na' ∧ nk = nk'
  · obtain ⟨h1, h2, h3, h3b, h4, h5⟩ := hall
    subst h1 h2 h3 h3b
    have HE : Hid (F = (((ats.zip ats').all fun p => eq3 p.1 p.2) && smG ks ks')) := Lib.hid (by
      rw [HF.out, eqn_self, ← HT1.out.at_.len, ← HT2.out.at_.len, h4]
      simp)
    have qn : ((na : Int) != (na' : Int)) = false := by rw [bne, h4]; simp
    have qk : ((nk : Int) != (nk' : Int)) = false := by rw [bne, h5]; simp
    have hn12 : na ≤ na' ∧ na' ≤ na := by omega
    have hk12 : nk ≤ nk' ∧ nk' ≤ nk := by omega
    clear HF h4 h5
    go_enter Try.func12, Try.ntmps12
    go_wp2_with fail
    generalize hw : (w.alloc _).alloc _ = W1 at *
    clear hw
    subst hW0
    go_loopw [5] (fun i wr => SvRel ats ats' na W0 i wr) (fun i _ => na - (intOf i).toNat)
    case atStart => exact ⟨0, rfl, Nat.zero_le _, Lib.hid (Below.refl _ _), Lib.hid (fun j x y h => by omega)⟩
    case round =>
      obtain ⟨k, rfl, hk, HR, HA⟩ := hrel
      obtain ⟨_, _, _, _, c4, _⟩ := cells6 ((HR.out.block _ (by have := HZ.out; omega)).trans HKa.out)
      obtain ⟨_, _, _, _, d4, _⟩ := cells6 ((HR.out.block _ HZ.out).trans HKb.out)
      by_cases hlt : k < na
      · have g1 : (k : Int) < (na : Int) := by omega
        have g2 : (k : Int) < (na' : Int) := by omega
        have g0 : (0 : Int) ≤ (k : Int) := by omega
        have hkl : k < ats.length := by rw [← HT1.out.at_.len]; exact hlt
        have hkm : k < ats'.length := by rw [← HT2.out.at_.len]; omega
        have hx := List.getElem?_eq_getElem hkl
        have hy := List.getElem?_eq_getElem hkm
        have hB := Lib.hid (HB0.out.trans (HR.out.mono (by have := HZ.out; omega)))
        obtain ⟨b1, o1, rfl, hb1, x0, x1, x2⟩ := (HT1.out.at_.rd.keep hB.out) k _ hx
        obtain ⟨b2, o2, rfl, hb2, y0, y1, y2⟩ := (HT2.out.at_.rd.keep hB.out) k _ hy
        have HX := Lib.hid hx
        have HY := Lib.hid hy
        generalize ats[k] = u at *
        generalize ats'[k] = v at *
        obtain ⟨⟨ua, ub⟩, uc⟩ := u
        obtain ⟨⟨va, vb⟩, vc⟩ := v
        dsimp only at x0 x1 x2 y0 y1 y2
        clear hx hy hkl hkm hb1 hb2
        by_cases he : eq3 ((ua, ub), uc) ((va, vb), vc) = true
        · have HA2 : Hid (∀ (j : Nat) x y, j < k + 1 → ats[j]? = some x → ats'[j]? = some y → eq3 x y = true) := Lib.hid fun j x y hj h1 h2 => by
            rcases Nat.lt_or_ge j k with g | g
            · exact HA.out j x y g h1 h2
            · obtain rfl : j = k := by omega
              rw [HX.out] at h1
              rw [HY.out] at h2
              injection h1 with h1
              injection h2 with h2
              rw [← h1, ← h2]
              exact he
          unfold eq3 eqn at he
          simp only [Bool.and_eq_true] at he
          obtain ⟨⟨p1, p2⟩, p3⟩ := he
          clear HA HX HY
          go_wp2_with fail
          go_quiet (fail)
          go_wp2
          go_roundw
          case rel => exact ⟨k + 1, by go_num, by omega, Lib.hid (below_drewN HR.out _), HA2⟩
          case measure => simp only [intOf]; omega
        · have he' : eq3 ((ua, ub), uc) ((va, vb), vc) = false := by simpa using he
          have HFf : Hid (F = false) := Lib.hid (by rw [HE.out, zip_no HX.out HY.out he']; rfl)
          have hc : ((ua.toList == va.toList) = false) ∨ ((ua.toList == va.toList) = true ∧ (ub.toList == vb.toList) = false) ∨ ((ua.toList == va.toList) = true ∧ (ub.toList == vb.toList) = true ∧ (uc.toList == vc.toList) = false) := by
            unfold eq3 eqn at he'
            dsimp only at he'
            revert he'
            cases (ua.toList == va.toList) <;> cases (ub.toList == vb.toList) <;> cases (uc.toList == vc.toList) <;> simp
          clear he he' HA HX HY HE
          rcases hc with p1 | ⟨p1, p2⟩ | ⟨p1, p2, p3⟩
          all_goals
            go_wp2_with fail
            go_quiet (fail)
            go_wp2
            go_ret
            exact ⟨by rw [HFf.out] <;> rfl, below_drewN hB.out _⟩
      · have g1 : ¬ (k : Int) < (na : Int) := by omega
        have HE2 : Hid (F = smG (ks.drop 0) (ks'.drop 0)) := Lib.hid (by
          rw [HE.out, zip_yes fun j x y hj h1 h2 => HA.out j x y (by rw [← HT1.out.at_.len] at hj; omega) h1 h2]
          rfl)
        have HBr := HR
        clear HA HE
        go_wp2_with fail
        clear c4 d4
        go_loopw [6] (fun i wr => ∃ k : Nat, i = .int .i64 k ∧ k ≤ nk ∧ Hid (Below W0.heap.size W0 wr) ∧ Hid (F = smG (ks.drop k) (ks'.drop k))) (fun i _ => nk - (intOf i).toNat)
        case atStart => exact ⟨0, rfl, Nat.zero_le _, HBr, HE2⟩
        case round =>
          clear HE2 HBr HR hk hlt g1
          obtain ⟨k, rfl, hk, HR, HA⟩ := hrel
          obtain ⟨_, _, _, _, _, c5⟩ := cells6 ((HR.out.block _ (by have := HZ.out; omega)).trans HKa.out)
          obtain ⟨_, _, _, _, _, d5⟩ := cells6 ((HR.out.block _ HZ.out).trans HKb.out)
          have HB := Lib.hid (HB0.out.trans (HR.out.mono (by have := HZ.out; omega)))
          by_cases hlt : k < nk
          · have g1 : (k : Int) < (nk : Int) := by omega
            have g2 : (k : Int) < (nk' : Int) := by omega
            have g0 : (0 : Int) ≤ (k : Int) := by omega
            obtain ⟨u, ux, us, ul, ua, uk, b1, o1, u1, u2, u3, u4, u5, u6, ed, rfl, hb1, x6, X⟩ := (HT1.out.ks.keep HB.out).at_ (k := k) hlt
            obtain ⟨v, vx, vs, vl, va, vk, b2, o2, v1, v2, v3, v4, v5, v6, ed', rfl, hb2, y6, Y⟩ := (HT2.out.ks.keep HB.out).at_ (k := k) (by omega)
            have hsz : uk.siz < N := by have := siz_kid ed; have := HN.out; omega
            have CS : Hid (∀ W, Below wr.heap.size wr W → Calls Try.prog 12 #[.agg #[.bool u, .string ux, .string us, .string ul, .slice u1 u2 u3, .slice u4 u5 u6], .agg #[.bool v, .string vx, .string vs, .string vl, .slice v1 v2 v3, .slice v4 v5 v6]] W fun e w' => e = .returned (.bool (smG (.cons u ux us ul ua uk .nil) (.cons v vx vs vl va vk .nil))) ∧ Below W.heap.size W w') := Lib.hid fun W hb => hIH.out u ux us ul ua uk u1 u2 u3 u4 u5 u6 v vx vs vl va vk v1 v2 v3 v4 v5 v6 P Q W hsz (X.keep hb) (Y.keep hb)
            have HA2 : Hid (F = (smG (.cons u ux us ul ua uk .nil) (.cons v vx vs vl va vk .nil) && smG (ks.drop (k + 1)) (ks'.drop (k + 1)))) := Lib.hid (by rw [HA.out, ed, ed', sm_one])
            have HX0 : Hid (SmX w.heap.size (w.heap.size + 1) (some ⟨b1, o1, none⟩) nk ck (some ⟨b2, o2, none⟩) nk' ck' (fun W => Tc6 W b1 (o1 + k * 6) u ux us ul u1 u2 u3 u4 u5 u6) (fun W => Tc6 W b2 (o2 + k * 6) v vx vs vl v1 v2 v3 v4 v5 v6) wr wr.drew) := Lib.hid ⟨c5, d5, x6, y6, (Below.refl _ _).drew⟩
            have HKp : Hid (∀ W W', SmX w.heap.size (w.heap.size + 1) (some ⟨b1, o1, none⟩) nk ck (some ⟨b2, o2, none⟩) nk' ck' (fun W => Tc6 W b1 (o1 + k * 6) u ux us ul u1 u2 u3 u4 u5 u6) (fun W => Tc6 W b2 (o2 + k * 6) v vx vs vl v1 v2 v3 v4 v5 v6) wr W → Below W.heap.size W W' → SmX w.heap.size (w.heap.size + 1) (some ⟨b1, o1, none⟩) nk ck (some ⟨b2, o2, none⟩) nk' ck' (fun W => Tc6 W b1 (o1 + k * 6) u ux us ul u1 u2 u3 u4 u5 u6) (fun W => Tc6 W b2 (o2 + k * 6) v vx vs vl v1 v2 v3 v4 v5 v6) wr W') := Lib.hid fun W W' h hb => ⟨cell_lt h.kx hb, cell_lt h.ky hb, h.x.keep hb, h.y.keep hb, h.bel.trans (hb.mono h.bel.size)⟩
            have HSh : Hid (∀ W, SmX w.heap.size (w.heap.size + 1) (some ⟨b1, o1, none⟩) nk ck (some ⟨b2, o2, none⟩) nk' ck' (fun W => Tc6 W b1 (o1 + k * 6) u ux us ul u1 u2 u3 u4 u5 u6) (fun W => Tc6 W b2 (o2 + k * 6) v vx vs vl v1 v2 v3 v4 v5 v6) wr W → (W.cell? ⟨w.heap.size, 5, none⟩ = some (.slice (some ⟨b1, o1, none⟩) nk ck) ∧ W.cell? ⟨w.heap.size + 1, 5, none⟩ = some (.slice (some ⟨b2, o2, none⟩) nk' ck')) ∧ (W.cell? ⟨b1, o1 + k * 6, none⟩ = some (.bool u) ∧ W.cell? ⟨b1, o1 + k * 6 + 1, none⟩ = some (.string ux) ∧ W.cell? ⟨b1, o1 + k * 6 + 2, none⟩ = some (.string us) ∧ W.cell? ⟨b1, o1 + k * 6 + 3, none⟩ = some (.string ul) ∧ W.cell? ⟨b1, o1 + k * 6 + 4, none⟩ = some (.slice u1 u2 u3) ∧ W.cell? ⟨b1, o1 + k * 6 + 5, none⟩ = some (.slice u4 u5 u6)) ∧ W.cell? ⟨b2, o2 + k * 6, none⟩ = some (.bool v) ∧ W.cell? ⟨b2, o2 + k * 6 + 1, none⟩ = some (.string vx) ∧ W.cell? ⟨b2, o2 + k * 6 + 2, none⟩ = some (.string vs) ∧ W.cell? ⟨b2, o2 + k * 6 + 3, none⟩ = some (.string vl) ∧ W.cell? ⟨b2, o2 + k * 6 + 4, none⟩ = some (.slice v1 v2 v3) ∧ W.cell? ⟨b2, o2 + k * 6 + 5, none⟩ = some (.slice v4 v5 v6)) := Lib.hid fun W h => ⟨⟨h.kx, h.ky⟩, h.x, h.y⟩
            clear X Y x6 y6 hb1 hb2 HA ed ed' hsz
            generalize smG (.cons u ux us ul ua uk .nil) (.cons v vx vs vl va vk .nil) = q at *
            go_wp2_with fail
            go_region_held3 (fun W => (W.cell? ⟨w.heap.size, 5, none⟩ = some (.slice (some ⟨b1, o1, none⟩) nk ck) ∧ W.cell? ⟨w.heap.size + 1, 5, none⟩ = some (.slice (some ⟨b2, o2, none⟩) nk' ck')) ∧ (W.cell? ⟨b1, o1 + k * 6, none⟩ = some (.bool u) ∧ W.cell? ⟨b1, o1 + k * 6 + 1, none⟩ = some (.string ux) ∧ W.cell? ⟨b1, o1 + k * 6 + 2, none⟩ = some (.string us) ∧ W.cell? ⟨b1, o1 + k * 6 + 3, none⟩ = some (.string ul) ∧ W.cell? ⟨b1, o1 + k * 6 + 4, none⟩ = some (.slice u1 u2 u3) ∧ W.cell? ⟨b1, o1 + k * 6 + 5, none⟩ = some (.slice u4 u5 u6)) ∧ W.cell? ⟨b2, o2 + k * 6, none⟩ = some (.bool v) ∧ W.cell? ⟨b2, o2 + k * 6 + 1, none⟩ = some (.string vx) ∧ W.cell? ⟨b2, o2 + k * 6 + 2, none⟩ = some (.string vs) ∧ W.cell? ⟨b2, o2 + k * 6 + 3, none⟩ = some (.string vl) ∧ W.cell? ⟨b2, o2 + k * 6 + 4, none⟩ = some (.slice v1 v2 v3) ∧ W.cell? ⟨b2, o2 + k * 6 + 5, none⟩ = some (.slice v4 v5 v6))
              (first | with_reducible exact HSh.out _ HX0.out | with_reducible exact HSh.out _ HX2.out | fail)
              (first
                | (go_at_call 12; refine (CS.out _ HX0.out.bel).mono ?_; rintro e w2 ⟨rfl, hb⟩; have HX2 := Lib.hid (HKp.out _ _ HX0.out hb); clear hb)
                | fail)
            all_goals
              have HB2 := Lib.hid (HR.out.trans (HX2.out.bel.mono HR.out.size))
              cases q with
              | true =>
                have HA3 : Hid (F = smG (ks.drop (k + 1)) (ks'.drop (k + 1))) := Lib.hid (by rw [HA2.out]; rfl)
                clear HA2 HSh HKp HX0 CS HX2
                go_wp2
                go_roundw
                case rel => exact ⟨k + 1, by go_num, by omega, HB2, HA3⟩
                case measure => simp only [intOf]; omega
              | false =>
                have HFf : Hid (F = false) := Lib.hid (by rw [HA2.out]; rfl)
                have HB3 := Lib.hid (HB0.out.trans (HB2.out.mono (by have := HZ.out; omega)))
                clear HA2 HSh HKp HX0 CS HX2
                go_wp2
                go_ret
                exact ⟨by rw [HFf.out] <;> rfl, HB3.out⟩
          · have g1 : ¬ (k : Int) < (nk : Int) := by omega
            have HFt : Hid (F = true) := Lib.hid (by
              have e1 : ks.drop k = .nil := len_zero (by rw [len_drop, ← HT1.out.ks.1]; omega)
              have e2 : ks'.drop k = .nil := len_zero (by rw [len_drop, ← HT2.out.ks.1]; omega)
              rw [HA.out, e1, e2]
              rfl)
            clear HA
            go_wp2
            go_ret
            exact ⟨by rw [HFt.out] <;> rfl, HB.out⟩
  · have HFf : Hid (F = false) := Lib.hid (by
      rw [HF.out]
      by_cases e1 : t = t'
      · by_cases e2 : tx = tx'
        · by_cases e3 : sp = sp' ∧ lo = lo'
          · by_cases e4 : na = na'
            · have e5 : ¬ nk = nk' := fun h => hall ⟨e1, e2, e3.1, e3.2, e4, h⟩
              have : smG ks ks' = false := by
                cases h : smG ks ks'
                · rfl
                · exact absurd (by rw [HT1.out.ks.1, HT2.out.ks.1, sm_len h]) e5
              rw [this, Bool.and_false]
            · have : (ats.length == ats'.length) = false := by rw [← HT1.out.at_.len, ← HT2.out.at_.len, beq_eq_false_iff_ne]; exact e4
              rw [this]; simp
          · have : eqn (sp, lo) (sp', lo') = false := by
              cases h : eqn (sp, lo) (sp', lo')
              · rfl
              · unfold eqn at h
                simp only [Bool.and_eq_true, beq_iff_eq] at h
                exact absurd ⟨toList_eq h.1, toList_eq h.2⟩ e3
            rw [this]; simp
        · have : (tx.toList == tx'.toList) = false := by rw [beq_eq_false_iff_ne]; exact fun h => e2 (toList_eq h)
          rw [this]; simp
      · have : (t == t') = false := by rw [beq_eq_false_iff_ne]; exact e1
        rw [this]; simp)
    have hc : (¬ t = t') ∨ (t = t' ∧ ¬ tx.toList = tx'.toList) ∨ (t = t' ∧ tx = tx' ∧ (sp.toList == sp'.toList) = false) ∨ (t = t' ∧ tx = tx' ∧ sp = sp' ∧ (lo.toList == lo'.toList) = false) ∨ (t = t' ∧ tx = tx' ∧ sp = sp' ∧ lo = lo' ∧ ((na : Int) != (na' : Int)) = true) ∨ (t = t' ∧ tx = tx' ∧ sp = sp' ∧ lo = lo' ∧ ((na : Int) != (na' : Int)) = false ∧ ((nk : Int) != (nk' : Int)) = true) := by
      by_cases e1 : t = t'
      · right
        by_cases e2 : tx = tx'
        · right
          by_cases e3 : sp = sp'
          · right
            by_cases e3b : lo = lo'
            · right
              by_cases e4 : na = na'
              · exact .inr ⟨e1, e2, e3, e3b, by rw [bne, e4]; simp, by rw [bne_iff_ne]; intro h; exact hall ⟨e1, e2, e3, e3b, e4, by omega⟩⟩
              · exact .inl ⟨e1, e2, e3, e3b, by rw [bne_iff_ne]; omega⟩
            · exact .inl ⟨e1, e2, e3, by rw [beq_eq_false_iff_ne]; exact fun h => e3b (toList_eq h)⟩
          · exact .inl ⟨e1, e2, by rw [beq_eq_false_iff_ne]; exact fun h => e3 (toList_eq h)⟩
        · exact .inl ⟨e1, fun h => e2 (toList_eq h)⟩
      · exact .inl e1
    clear hall HF HT1 HT2 HKa HKb HZ hIH HN
    rcases hc with p1 | ⟨rfl, p2⟩ | ⟨rfl, rfl, p3⟩ | ⟨rfl, rfl, rfl, p4⟩ | ⟨rfl, rfl, rfl, rfl, p5⟩ | ⟨rfl, rfl, rfl, rfl, p5, p6⟩
    all_goals
      go_enter Try.func12, Try.ntmps12
      go_wp2_with fail
      generalize hw : (w.alloc _).alloc _ = W1 at *
      clear hw
      subst hW0
      go_ret
      exact ⟨by rw [HFf.out] <;> rfl, HB0.out⟩
theorem same_all : ∀ N : Nat, TrC N
  | 0 => by
    intro t tx sp lo ats ks Aa na ca Ak nk ck t' tx' sp' lo' ats' ks' Aa' na' ca' Ak' nk' ck' P Q W h
    omega
  | N + 1 => same_step N (Lib.hid (same_all N))
end Go.Proofs.Ytaoggciebkaakaa.Ev

/- The document's size, Few (layer 10) of whatever tree. -/
set_option linter.unusedSimpArgs false
set_option linter.unusedVariables false
namespace Go.Proofs.Ytaoggciebkaakaa.Ev
open Go.RowKit

/-- How deep trees within trees are. -/
def Fo.dep : Fo → Nat
  | .nil => 0
  | .cons _ _ _ _ _ ks nx => max (1 + ks.dep) nx.dep
theorem siz_app : ∀ f g : Fo, (f.app g).siz = f.siz + g.siz
  | .nil, g => by rw [Fo.app, Fo.siz, Nat.zero_add]
  | .cons t tx sp lo ats ks nx, g => by rw [Fo.app, Fo.siz, Fo.siz, siz_app nx g]; omega
theorem dep_app_F : ∀ f g : Fo, (f.app g).dep = max f.dep g.dep
  | .nil, g => by rw [Fo.app, Fo.dep]; omega
  | .cons t tx sp lo ats ks nx, g => by rw [Fo.app, Fo.dep, Fo.dep, dep_app_F nx g]; omega
theorem siz_snoc {f : Fo} {k : Nat} (hk : k < f.len) : ∃ t tx sp lo ats ks, f.drop k = .cons t tx sp lo ats ks (f.drop (k + 1)) ∧ (f.take (k + 1)).siz = (f.take k).siz + (Fo.cons t tx sp lo ats ks .nil).siz ∧ (f.take (k + 1)).dep = max (f.take k).dep (Fo.cons t tx sp lo ats ks .nil).dep := by
  obtain ⟨t, tx, sp, lo, ats, ks, e1, e2⟩ := drop_cons hk
  exact ⟨t, tx, sp, lo, ats, ks, e1, by rw [e2, siz_app], by rw [e2, dep_app_F]⟩
/-- What size answers: how many, if that is not more than most; some more, if it is. -/
def SzPost (f : Fo) (most d : Nat) (w : World) (e : Ending) (w' : World) : Prop := ∃ z : Nat, e = .returned (.int .i64 (z : Int)) ∧ z ≤ most + 1 ∧ (z ≤ most → z = f.siz ∧ f.dep ≤ d) ∧ Below w.heap.size w w'
def SzC (d : Nat) : Prop := ∀ (t : Bool) (tx sp lo : ByteArray) (ats : List P3) (ks : Fo) (Aa : Option Addr) (na ca : Nat) (Ak : Option Addr) (nk ck : Nat) (P : Nat → Prop) (most : Nat) (W : World), most ≤ 150 → Tr1 P W tx sp lo ats ks Aa na ca Ak nk ck →
    Calls Try.prog 29 #[.agg #[.bool t, .string tx, .string sp, .string lo, .slice Aa na ca, .slice Ak nk ck], .int .i64 (most : Int), .int .i64 (d : Int)] W (SzPost (.cons t tx sp lo ats ks .nil) most d W)
theorem size_zero : SzC 0 := by
  intro t tx sp lo ats ks Aa na ca Ak nk ck P most w hm T
  have HB := Lib.hid ((Below.refl w.heap.size w).alloc (Nat.le_refl _) (.cells #[.bool t, .string tx, .string sp, .string lo, .slice Aa na ca, .slice Ak nk ck] 30))
  clear T
  go_enter Try.func29, Try.ntmps29
  go_wp2
  go_ret
  exact ⟨most + 1, by rw [Int.natCast_add]; rfl, Nat.le_refl _, fun h => by omega, HB.out⟩
set_option maxHeartbeats 8000000 in
set_option maxRecDepth 100000 in
theorem size_step (d : Nat) (hd : d ≤ 100) (hIH : Hid (SzC d)) : SzC (d + 1) := by
  intro t tx sp lo ats ks Aa na ca Ak nk ck P most w hm T
  have HT := Lib.hid T
  have hnk := T.ks.2.1
  have HB0 := Lib.hid ((Below.refl w.heap.size w).alloc (Nat.le_refl _) (.cells #[.bool t, .string tx, .string sp, .string lo, .slice Aa na ca, .slice Ak nk ck] 30))
  have HK0 := Lib.hid (nblk w 30 #[.bool t, .string tx, .string sp, .string lo, .slice Aa na ca, .slice Ak nk ck])
  have HZ := Lib.hid (show w.heap.size < (w.alloc (.cells #[.bool t, .string tx, .string sp, .string lo, .slice Aa na ca, .slice Ak nk ck] 30)).heap.size by simp)
  have d0 : (((d + 1 : Nat) : Int) == 0) = false := by rw [beq_eq_false_iff_ne]; omega
  have d1 : IntKind.i64.wrap (((d + 1 : Nat) : Int) - 1) = (d : Int) := by rw [IntWalk.i64_in _ (by omega)]; omega
  have HS0 : Hid (1 ≤ most → 1 = 1 + (ks.take 0).siz ∧ (ks.take 0).dep + 1 ≤ d + 1) := Lib.hid fun _ => by cases ks <;> exact ⟨rfl, by simp [Fo.take, Fo.dep]⟩
  generalize he : d + 1 = e at *
  have HE := Lib.hid he
  have hed : e ≤ 101 := by omega
  clear T he
  go_enter Try.func29, Try.ntmps29
  go_wp2_with fail
  generalize hW0 : w.alloc (.cells #[.bool t, .string tx, .string sp, .string lo, .slice Aa na ca, .slice Ak nk ck] 30) = W0 at *
  clear hW0
  go_loopw [7, 8] (fun vn i wr => ∃ k m : Nat, i = .int .i64 k ∧ vn = .int .i64 m ∧ k ≤ nk ∧ 1 ≤ m ∧ m ≤ most + 1 ∧ Hid (Below W0.heap.size W0 wr) ∧ Hid (m ≤ most → m = 1 + (ks.take k).siz ∧ (ks.take k).dep + 1 ≤ e)) (fun _ i _ => nk - (intOf i).toNat)
  case atStart => exact ⟨0, 1, rfl, rfl, Nat.zero_le _, Nat.le_refl _, by omega, Lib.hid (Below.refl _ _), HS0⟩
  case round =>
    clear HS0
    obtain ⟨k, m, rfl, rfl, hk, hm1, hm2, HR, HA⟩ := hrel
    obtain ⟨_, _, _, _, _, c5⟩ := cells6 ((HR.out.block _ HZ.out).trans HK0.out)
    have HB := Lib.hid (HB0.out.trans (HR.out.mono (Nat.le_of_lt HZ.out)))
    by_cases hlt : k < nk
    · have g1 : (k : Int) < (nk : Int) := by omega
      have g0 : (0 : Int) ≤ (k : Int) := by omega
      by_cases hmm : m ≤ most
      · have g2 : (m : Int) ≤ (most : Int) := by omega
        have g2' : decide ((m : Int) ≤ (most : Int)) = true := decide_eq_true g2
        obtain ⟨u, ux, us, ul, ua, uk, b1, o1, u1, u2, u3, u4, u5, u6, ed, rfl, hb1, x6, X⟩ := (HT.out.ks.keep HB.out).at_ (k := k) hlt
        obtain ⟨mo, hmo⟩ : ∃ mo, m + mo = most := ⟨most - m, by omega⟩
        have q1 : IntKind.i64.wrap ((most : Int) - (m : Int)) = (mo : Int) := by rw [IntWalk.i64_in _ (by omega)]; omega
        have CS := Lib.hid (hIH.out u ux us ul ua uk u1 u2 u3 u4 u5 u6 P mo wr (by omega) X)
        have HSn : Hid ((ks.take (k + 1)).siz = (ks.take k).siz + (Fo.cons u ux us ul ua uk .nil).siz ∧ (ks.take (k + 1)).dep = max (ks.take k).dep (Fo.cons u ux us ul ua uk .nil).dep) := Lib.hid (by
          obtain ⟨t', tx', sp', lo', ats', ks', e1, e2, e3⟩ := siz_snoc (f := ks) (k := k) (by rw [← HT.out.ks.1]; exact hlt)
          rw [ed] at e1
          injection e1 with e1 e4 e5 e6 e7 e8 e9
          subst e1 e4 e5 e6 e7 e8
          exact ⟨e2, e3⟩)
        have HMo := Lib.hid hmo
        obtain ⟨x1, x2, x3, x4, x5, x7⟩ := x6
        have hmo2 : mo ≤ 150 := by omega
        clear X ed hb1 hmo
        go_wp2_with fail
        refine CS.out.mono ?_
        rintro e' w2 ⟨z, rfl, z1, z2, b2⟩
        have HB2 := Lib.hid (HR.out.trans (b2.mono HR.out.size))
        have HZ2 := Lib.hid z2
        have hz3 : m + z ≤ most + 1 := by have := HMo.out; omega
        have q3 : IntKind.i64.wrap ((m : Int) + (z : Int)) = (m : Int) + (z : Int) := by rw [IntWalk.i64_in _ (by omega)]
        clear CS b2 z2 x1 x2 x3 x4 x5 x7 c5 q1
        go_wp2
        go_roundw
        case rel => exact ⟨k + 1, m + z, by go_num, by go_num, by omega, by omega, hz3, HB2, Lib.hid fun h => by
          have h1 := HA.out hmm
          have h2 := HZ2.out (by have := HMo.out; omega)
          have h3 := HSn.out
          have h4 := HE.out
          exact ⟨by omega, by omega⟩⟩
        case measure => simp only [intOf]; omega
      · have g2 : ¬ (m : Int) ≤ (most : Int) := by omega
        have g2' : decide ((m : Int) ≤ (most : Int)) = false := decide_eq_false g2
        clear HA
        go_wp2
        go_ret
        exact ⟨m, rfl, hm2, fun h => absurd h hmm, HB.out⟩
    · have g1 : ¬ (k : Int) < (nk : Int) := by omega
      have hkk : k = ks.len := by have := HT.out.ks.1; omega
      have HF : Hid (m ≤ most → m = (Fo.cons t tx sp lo ats ks .nil).siz ∧ (Fo.cons t tx sp lo ats ks .nil).dep ≤ e) := Lib.hid fun h => by
        have h1 := HA.out h
        rw [hkk, take_all] at h1
        rw [Fo.siz, Fo.dep, Fo.siz, Fo.dep]
        exact ⟨by omega, by omega⟩
      clear HA hkk
      go_wp2
      go_ret
      exact ⟨m, rfl, hm2, HF.out, HB.out⟩
theorem size_all : ∀ d : Nat, d ≤ 100 → SzC d
  | 0, _ => size_zero
  | d + 1, h => size_step d (by omega) (Lib.hid (size_all d (by omega)))
def FtPost (f : Fo) (w : World) (e : Ending) (w' : World) : Prop := ∃ b, e = .returned (.bool b) ∧ (b = true → f.siz ≤ 150 ∧ f.dep ≤ 70) ∧ Below w.heap.size w w'
set_option maxRecDepth 100000 in
theorem tfew_any (t : Bool) (tx sp lo : ByteArray) (ats : List P3) (ks : Fo) (Aa : Option Addr) (na ca : Nat) (Ak : Option Addr) (nk ck : Nat) (P : Nat → Prop) (w : World) (T : Tr1 P w tx sp lo ats ks Aa na ca Ak nk ck) :
    Calls Try.prog 14 #[.agg #[.bool t, .string tx, .string sp, .string lo, .slice Aa na ca, .slice Ak nk ck]] w (FtPost (.cons t tx sp lo ats ks .nil) w) := by
  have HB0 := Lib.hid ((Below.refl w.heap.size w).alloc (Nat.le_refl _) (.cells #[.bool t, .string tx, .string sp, .string lo, .slice Aa na ca, .slice Ak nk ck] 30))
  have CS := Lib.hid (size_all 70 (by omega) t tx sp lo ats ks Aa na ca Ak nk ck P 150 (w.alloc (.cells #[.bool t, .string tx, .string sp, .string lo, .slice Aa na ca, .slice Ak nk ck] 30)) (by omega) (T.keep HB0.out))
  clear T
  go_enter Try.func14, Try.ntmps14
  go_wp2_with fail
  refine CS.out.mono ?_
  rintro e w1 ⟨z, rfl, z1, z2, b1⟩
  have HB1 := Lib.hid (HB0.out.trans (b1.mono HB0.out.size))
  have HZ2 := Lib.hid z2
  clear z2 b1 CS
  by_cases h : z ≤ 150
  · have g2 : (z : Int) ≤ 150 := by omega
    have g2' : decide ((z : Int) ≤ 150) = true := decide_eq_true g2
    go_wp2
    go_ret
    exact ⟨true, by first | rfl | (simp; omega), fun _ => by have := HZ2.out h; omega, HB1.out⟩
  · have g2 : ¬ (z : Int) ≤ 150 := by omega
    have g2' : decide ((z : Int) ≤ 150) = false := decide_eq_false g2
    go_wp2
    go_ret
    exact ⟨false, by first | rfl | (simp; omega), fun h => (by cases h), HB1.out⟩
end Go.Proofs.Ytaoggciebkaakaa.Ev

/- The document's Same (layer 8) of two lists of events that are the same. -/
set_option linter.unusedSimpArgs false
set_option linter.unusedVariables false
namespace Go.Proofs.Ytaoggciebkaakaa.Ev
open Go.RowKit

/-- One event's cells. -/
structure Ev1 (W : World) (b o : Nat) (kx : Int) (na nb tx : ByteArray) (Aa : Option Addr) (n c : Nat) : Prop where
  c0 : W.cell? ⟨b, o, none⟩ = some (.int .i64 kx)
  c1 : W.cell? ⟨b, o + 1, none⟩ = some (.string na)
  c2 : W.cell? ⟨b, o + 2, none⟩ = some (.string nb)
  c3 : W.cell? ⟨b, o + 3, none⟩ = some (.slice Aa n c)
  c4 : W.cell? ⟨b, o + 4, none⟩ = some (.string tx)
theorem Ev1.keep {W W' : World} {b o : Nat} {kx : Int} {na nb tx : ByteArray} {Aa : Option Addr} {n c : Nat} (h : Ev1 W b o kx na nb tx Aa n c) (hb : Below W.heap.size W W') (hlt : b < W.heap.size) : Ev1 W' b o kx na nb tx Aa n c :=
  ⟨(hb.cell (p := ⟨b, o, none⟩) hlt).trans h.c0, (hb.cell (p := ⟨b, o + 1, none⟩) hlt).trans h.c1, (hb.cell (p := ⟨b, o + 2, none⟩) hlt).trans h.c2, (hb.cell (p := ⟨b, o + 3, none⟩) hlt).trans h.c3, (hb.cell (p := ⟨b, o + 4, none⟩) hlt).trans h.c4⟩
def SmRel (n : Nat) (w : World) (i : Value) (wr : World) : Prop := ∃ k : Nat, i = .int .i64 k ∧ k ≤ n ∧ Hid (Below w.heap.size w wr)
set_option maxHeartbeats 4000000 in
set_option maxRecDepth 100000 in
theorem same_any (l : List RE) (n : Nat) (A1 A2 : Option Addr) (k1 k2 : Nat) (w : World) (T1 : EvsIn w A1 n k1 l) (T2 : EvsIn w A2 n k2 l) :
    Calls Try.prog 16 #[.slice A1 n k1, .slice A2 n k2] w fun e w' => e = .returned (.bool true) ∧ Below w.heap.size w w' := by
  have H1 := Lib.hid T1.rd
  have H2 := Lib.hid T2.rd
  have HN := Lib.hid T1.len
  have hl := T1.lsz
  unfold maxLen at hl
  clear T1 T2
  go_enter Try.func16, Try.ntmps16
  go_wp2_with fail
  go_loopw [5] (fun i wr => SmRel n w i wr) (fun i _ => n - (intOf i).toNat)
  case atStart => exact ⟨0, rfl, Nat.zero_le _, Lib.hid (Below.refl _ _)⟩
  case round =>
    obtain ⟨k, rfl, hk, hB⟩ := hrel
    by_cases hlt : k < n
    · have hkl : k < l.length := by rw [← HN.out]; exact hlt
      obtain ⟨b1, o1, Aa1, m1, d1, rfl, hb1, r1, x0, x1, x2, x3, x4⟩ := (H1.out.keep hB.out) k _ (List.getElem?_eq_getElem hkl)
      obtain ⟨b2, o2, Aa2, m2, d2, rfl, hb2, r2, y0, y1, y2, y3, y4⟩ := (H2.out.keep hB.out) k _ (List.getElem?_eq_getElem hkl)
      have g1 : (k : Int) < (n : Int) := by omega
      have g0 : (0 : Int) ≤ (k : Int) := by omega
      generalize l[k] = x at *
      have CS : Hid (∀ W, Below wr.heap.size wr W → Calls Try.prog 30 #[.agg #[.int .i64 x.kind, .string x.sp, .string x.lo, .slice Aa1 m1 d1, .string x.tx], .agg #[.int .i64 x.kind, .string x.sp, .string x.lo, .slice Aa2 m2 d2, .string x.tx]] W fun e w' => e = .returned (.bool true) ∧ Below W.heap.size W w') := Lib.hid fun W hW => by
        have := sev_gen Aa1 Aa2 m1 m2 d1 d2 x x W (r1.keep hW) (r2.keep hW)
        rw [same_self] at this
        exact this
      have HX := Lib.hid (⟨x0, x1, x2, x3, x4⟩ : Ev1 wr b1 (o1 + k * 5) x.kind x.sp x.lo x.tx Aa1 m1 d1)
      have HY := Lib.hid (⟨y0, y1, y2, y3, y4⟩ : Ev1 wr b2 (o2 + k * 5) x.kind x.sp x.lo x.tx Aa2 m2 d2)
      have HL1 := Lib.hid hb1
      have HL2 := Lib.hid hb2
      clear r1 r2 hkl hb1 hb2
      obtain ⟨xk, xs, xl, xa, xt⟩ := x
      dsimp only at *
      have X1 := Lib.hid (HX.out.keep (Below.refl _ wr).drew HL1.out)
      have Y1 := Lib.hid (HY.out.keep (Below.refl _ wr).drew HL2.out)
      go_wp2_with fail
      go_region_held3 (fun W => (W.cell? ⟨b1, o1 + k * 5, none⟩ = some (.int .i64 xk) ∧ W.cell? ⟨b1, o1 + k * 5 + 1, none⟩ = some (.string xs) ∧ W.cell? ⟨b1, o1 + k * 5 + 2, none⟩ = some (.string xl) ∧ W.cell? ⟨b1, o1 + k * 5 + 3, none⟩ = some (.slice Aa1 m1 d1) ∧ W.cell? ⟨b1, o1 + k * 5 + 4, none⟩ = some (.string xt)) ∧ W.cell? ⟨b2, o2 + k * 5, none⟩ = some (.int .i64 xk) ∧ W.cell? ⟨b2, o2 + k * 5 + 1, none⟩ = some (.string xs) ∧ W.cell? ⟨b2, o2 + k * 5 + 2, none⟩ = some (.string xl) ∧ W.cell? ⟨b2, o2 + k * 5 + 3, none⟩ = some (.slice Aa2 m2 d2) ∧ W.cell? ⟨b2, o2 + k * 5 + 4, none⟩ = some (.string xt))
        (first | with_reducible exact ⟨⟨X1.out.c0, X1.out.c1, X1.out.c2, X1.out.c3, X1.out.c4⟩, Y1.out.c0, Y1.out.c1, Y1.out.c2, Y1.out.c3, Y1.out.c4⟩ | with_reducible exact ⟨⟨X2.out.c0, X2.out.c1, X2.out.c2, X2.out.c3, X2.out.c4⟩, Y2.out.c0, Y2.out.c1, Y2.out.c2, Y2.out.c3, Y2.out.c4⟩ | fail)
        (first | (go_at_call 30; refine (CS.out _ (Below.refl _ wr).drew).mono ?_; rintro e w2 ⟨rfl, hb⟩; have X2 := Lib.hid (HX.out.keep ((Below.refl _ wr).drew.trans hb) HL1.out); have Y2 := Lib.hid (HY.out.keep ((Below.refl _ wr).drew.trans hb) HL2.out); have B2 := Lib.hid (hB.out.trans (((Below.refl _ wr).drew.trans hb).mono hB.out.size)); clear hb) | fail)
      go_wp2
      go_roundw
      case rel => exact ⟨k + 1, by go_num, by omega, B2⟩
      case measure => simp only [intOf]; omega
    · have g1 : ¬ (k : Int) < (n : Int) := by omega
      go_wp2_with fail
      go_ret
      exact ⟨rfl, hB.out⟩
end Go.Proofs.Ytaoggciebkaakaa.Ev

/- WordPrefixes (layer 9) over the contracts of what it calls. -/
set_option linter.unusedSimpArgs false
set_option linter.unusedVariables false
namespace Go.Proofs.Ytaoggciebkaakaa.Ev
open Go.RowKit

theorem Try.info38 : (Try.prog.info? 38).map (fun i => (i.zero, i.size, i.bytes)) = some (some (.agg #[.int .i64 0, .string ⟨#[]⟩, .string ⟨#[]⟩, .slice none 0 0, .string ⟨#[]⟩]), 5, 80) := by kernel_rfl
theorem wpList_append_any {P : Program} {w : World} {ops : Array Oper} {rest : List Oper} {o : Oper} {a : Act} {Q : Exit → Act → World → Prop} (hgd : o.guard = none) (s x : Operand) (t : TypeId)
    (ho : o.op = .call { callee := .builtin .append, args := #[s, x], argTypes := #[t, t] })
    (base : Nat) (e : TypeId) (i : TypeInfo) (z : Value) (size bytes : Nat) (ht : P.underlying t = some (.slice e)) (hi : P.info? e = some i) (hz : i.zero = some z) (hsize : i.size = size) (hby : i.bytes = bytes) (hzs : z.cells.size = size) (hsz : 0 < size)
    (v : Value) (n : Nat) (xs : List Value) (hs : a.eval s = v) (hown : w.ownsRow base e size v n xs)
    (A : Option Addr) (m c : Nat) (news : List Value) (hx : a.eval x = .slice A m c) (hnil : A = none → m = 0 ∧ c = 0) (hl : news.length = m * size) (hnews : ∀ ad, A = some ad → ∀ j u, news[j]? = some u → w.cell? (ad.add j) = some u) (h1 : ∀ u ∈ news, u.oneCell' = true)
    (h63 : n + m ≤ maxLen) (hbytes : (n + m) * bytes ≤ 140737488355328) (hbase : base ≤ w.heap.size)
    (h : ∀ v' w', w'.ownsRow base e size v' (n + m) (xs ++ news) → w.grownBy w' v.ownBlock → wpList P ops Q rest (a.put o.dst v') w') :
    wpList P ops Q (o :: rest) a w := by
  cases A with
  | some ad => exact wpList_append_own w hgd s x t ho base e i z size bytes ht hi hz hsize hby hzs hsz v n xs hs hown ad m c news hx hl (hnews ad rfl) h1 h63 hbytes hbase (fun v' w' a1 a2 _ => h v' w' a1 a2)
  | none =>
    obtain ⟨rfl, rfl⟩ := hnil rfl
    have hnw : news = [] := List.eq_nil_of_length_eq_zero (by rw [hl, Nat.zero_mul])
    subst hnw
    refine wpList_plain hgd fun K hK => ?_
    have hr := run_append_owned_none (P := P) (w := w) base t o.type e i size ht hi v n xs hown
    unfold Oper.wp execOp
    simp only [ho, resolve, invoke, builtin, Sem.run_bind, Sem.run_pure, Result.andThen_ok, List.map_toArray, List.map_cons, List.map_nil, hs, hx, hr]
    exact hK _ _ (h v w (by rw [List.append_nil]; exact hown) ⟨rfl, rfl, rfl, Nat.le_refl _, fun _ _ _ => rfl⟩)
theorem own_src {W : World} {B n c z : Nat} {e : TypeId} {A : Option Addr} {xs : List Value} (h : W.ownsRow B e z (.slice A n c) n xs) : (A = none → n = 0 ∧ c = 0) ∧ ∀ ad, A = some ad → ∀ j u, xs[j]? = some u → W.cell? (ad.add j) = some u := by
  rcases h.2 with ⟨q, h0⟩ | ⟨g, cap, cur, q, hB, hh, hr⟩
  · injection q with q1 q2 q3
    refine ⟨fun _ => ⟨h0, q3⟩, fun ad e => ?_⟩
    rw [q1] at e
    cases e
  · injection q with q1 q2 q3
    subst q1
    refine ⟨(fun e => by cases e), fun ad e j u hu => ?_⟩
    cases e
    exact h.cells rfl j u hu
theorem clR (pL tR : ByteArray → Bool) : rightF pL tR clE = true := by
  have e : emB.toList.isEmpty = true := by rw [Lib.toList_data]; rfl
  unfold rightF noneF emp clE
  dsimp only
  rw [if_neg (by decide), if_pos rfl, e]
  rfl
end Go.Proofs.Ytaoggciebkaakaa.Ev
