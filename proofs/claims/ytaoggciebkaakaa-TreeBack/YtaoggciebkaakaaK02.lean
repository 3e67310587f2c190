/-
  Merged by program out of the texts EvSame, EvCon, TrMath, TrEnd, EvLaw2, EvRows, TrMem of one seat.
-/
import Derived.Test.YtaoggciebkaakaaK01
import Derived.Deep.RegionHeld3
import Derived.Deep.RegionWith
import Derived.Laws.OwnMore
import Derived.Deep.Cut
import Derived.OwnWalk

/- The document's SameEvent (layer 7) of whatever two events. -/
set_option linter.unusedSimpArgs false
set_option linter.unusedVariables false
namespace Go.Proofs.Ytaoggciebkaakaa.Ev
open Go.RowKit

def eq3 (a b : P3) : Bool := eqn a.1 b.1 && (a.2.toList == b.2.toList)
/-- Two events are alike. -/
def sameF (x y : RE) : Bool := (x.kind == y.kind) && eqn (x.sp, x.lo) (y.sp, y.lo) && (x.tx.toList == y.tx.toList) && (x.ats.length == y.ats.length) && ((x.ats.zip y.ats).all fun p => eq3 p.1 p.2)
theorem zip_no {l m : List P3} {k : Nat} {x y : P3} (hx : l[k]? = some x) (hy : m[k]? = some y) (h : eq3 x y = false) : ((l.zip m).all fun p => eq3 p.1 p.2) = false := by
  rw [List.all_eq_false]
  refine ⟨(x, y), List.mem_of_getElem? (i := k) ?_, by rw [h]; decide⟩
  rw [List.getElem?_zip_eq_some]
  exact ⟨hx, hy⟩
theorem zip_yes {l m : List P3} (h : ∀ (k : Nat) x y, k < l.length → l[k]? = some x → m[k]? = some y → eq3 x y = true) : ((l.zip m).all fun p => eq3 p.1 p.2) = true := by
  rw [List.all_eq_true]
  rintro ⟨x, y⟩ hp
  obtain ⟨k, hk⟩ := List.getElem?_of_mem hp
  rw [List.getElem?_zip_eq_some] at hk
  exact h k x y (List.getElem?_eq_some_iff.1 hk.1).1 hk.1 hk.2
def SvRel (l m : List P3) (n : Nat) (W0 : World) (i : Value) (wr : World) : Prop :=
  ∃ k : Nat, i = .int .i64 k ∧ k ≤ n ∧ Hid (Below W0.heap.size W0 wr) ∧ Hid (∀ (j : Nat) x y, j < k → l[j]? = some x → m[j]? = some y → eq3 x y = true)
set_option maxHeartbeats 4000000 in
set_option maxRecDepth 100000 in
theorem sev_gen (A1 A2 : Option Addr) (n1 n2 k1 k2 : Nat) (x y : RE) (w : World) (T1 : AttsIn w A1 n1 k1 x.ats) (T2 : AttsIn w A2 n2 k2 y.ats) :
    Calls Try.prog 30 #[.agg #[.int .i64 x.kind, .string x.sp, .string x.lo, .slice A1 n1 k1, .string x.tx], .agg #[.int .i64 y.kind, .string y.sp, .string y.lo, .slice A2 n2 k2, .string y.tx]] w fun e w' => e = .returned (.bool (sameF x y)) ∧ Below w.heap.size w w' := by
  obtain ⟨W0, hW0⟩ : ∃ W0, W0 = (w.alloc (.cells #[.int .i64 x.kind, .string x.sp, .string x.lo, .slice A1 n1 k1, .string x.tx] 38)).alloc (.cells #[.int .i64 y.kind, .string y.sp, .string y.lo, .slice A2 n2 k2, .string y.tx] 38) := ⟨_, rfl⟩
  have HB0 : Hid (Below w.heap.size w W0) := Lib.hid (by rw [hW0]; exact ((Below.refl w.heap.size w).alloc (Nat.le_refl _) _).alloc (by simp) _)
  have HKa : Hid (W0.heap[w.heap.size]? = some (.cells #[.int .i64 x.kind, .string x.sp, .string x.lo, .slice A1 n1 k1, .string x.tx] 38 (0, 0))) := Lib.hid (by rw [hW0]; exact (Below.heap_alloc _ _ _ (by simp)).trans (nblk w 38 _))
  have HKb : Hid (W0.heap[w.heap.size + 1]? = some (.cells #[.int .i64 y.kind, .string y.sp, .string y.lo, .slice A2 n2 k2, .string y.tx] 38 (0, 0))) := Lib.hid (by rw [hW0]; have h := nblk (w.alloc (.cells #[.int .i64 x.kind, .string x.sp, .string x.lo, .slice A1 n1 k1, .string x.tx] 38)) 38 #[.int .i64 y.kind, .string y.sp, .string y.lo, .slice A2 n2 k2, .string y.tx]; rw [World.size_alloc] at h; exact h)
  have HZ : Hid (w.heap.size + 1 < W0.heap.size) := Lib.hid (by rw [hW0]; simp)
  have HT1 := Lib.hid T1
  have HT2 := Lib.hid T2
  obtain ⟨F, hF⟩ : ∃ F, F = sameF x y := ⟨_, rfl⟩
  rw [← hF]
  have HF := Lib.hid hF
  clear T1 T2 hF
  by_cases hall : x.kind = y.kind ∧ eqn (x.sp, x.lo) (y.sp, y.lo) = true ∧ (x.tx.toList == y.tx.toList) = true ∧ n1 = n2
  · obtain ⟨h1, h2, h3, h4⟩ := hall
    have HE : Hid (F = ((x.ats.zip y.ats).all fun p => eq3 p.1 p.2)) := Lib.hid (by
      rw [HF.out]
      unfold sameF
      rw [h2, h3, ← HT1.out.len, ← HT2.out.len, h4, h1]
      simp)
    have qa : (x.sp.toList == y.sp.toList) = true := by unfold eqn at h2; simp only [Bool.and_eq_true] at h2; exact h2.1
    have qb : (x.lo.toList == y.lo.toList) = true := by unfold eqn at h2; simp only [Bool.and_eq_true] at h2; exact h2.2
    have qc : (x.tx.toList != y.tx.toList) = false := by rw [bne, h3]; rfl
    have qk : (x.kind != y.kind) = false := by rw [bne, h1]; simp
    have qn : ((n1 : Int) != (n2 : Int)) = false := by rw [bne, h4]; simp
    have hn12 : n1 ≤ n2 ∧ n2 ≤ n1 := by omega
    clear HF h1 h2 h4
    obtain ⟨kx, sx, lx, l, tx⟩ := x
    obtain ⟨ky, sy, ly, m, ty⟩ := y
    dsimp only at *
    go_enter Try.func30, Try.ntmps30
    go_wp2_with fail
    generalize hw : (w.alloc _).alloc _ = W1 at *
    clear hw
    subst hW0
    have hl1 := HT1.out.lsz
    unfold maxLen at hl1
    go_loopw [5] (fun i wr => SvRel l m n1 W0 i wr) (fun i _ => n1 - (intOf i).toNat)
    case atStart => exact ⟨0, rfl, Nat.zero_le _, Lib.hid (Below.refl _ _), Lib.hid (fun j x y h => by omega)⟩
    case round =>
      obtain ⟨k, rfl, hk, HR, HA⟩ := hrel
      obtain ⟨_, _, _, c3, _⟩ := cells5 ((HR.out.block _ (by have := HZ.out; omega)).trans HKa.out)
      obtain ⟨_, _, _, d3, _⟩ := cells5 ((HR.out.block _ HZ.out).trans HKb.out)
      by_cases hlt : k < n1
      · have g1 : (k : Int) < (n1 : Int) := by omega
        have g2 : (k : Int) < (n2 : Int) := by omega
        have g0 : (0 : Int) ≤ (k : Int) := by omega
        have hkl : k < l.length := by rw [← HT1.out.len]; exact hlt
        have hkm : k < m.length := by rw [← HT2.out.len]; omega
        have hx := List.getElem?_eq_getElem hkl
        have hy := List.getElem?_eq_getElem hkm
        have hB := Lib.hid (HB0.out.trans (HR.out.mono (by have := HZ.out; omega)))
        obtain ⟨b1, o1, rfl, hb1, x0, x1, x2⟩ := (HT1.out.rd.keep hB.out) k _ hx
        obtain ⟨b2, o2, rfl, hb2, y0, y1, y2⟩ := (HT2.out.rd.keep hB.out) k _ hy
        have HX := Lib.hid hx
        have HY := Lib.hid hy
        generalize l[k] = u at *
        generalize m[k] = v at *
        obtain ⟨⟨ua, ub⟩, uc⟩ := u
        obtain ⟨⟨va, vb⟩, vc⟩ := v
        dsimp only at x0 x1 x2 y0 y1 y2
        clear hx hy hkl hkm hb1 hb2
        by_cases he : eq3 ((ua, ub), uc) ((va, vb), vc) = true
        · have HA2 : Hid (∀ (j : Nat) x y, j < k + 1 → l[j]? = some x → m[j]? = some y → eq3 x y = true) := Lib.hid fun j x y hj h1 h2 => by
            rcases Nat.lt_or_ge j k with g | g
            · exact HA.out j x y g h1 h2
            · obtain rfl : j = k := by omega
              rw [HX.out] at h1
              rw [HY.out] at h2
              injection h1 with h1
              injection h2 with h2
              rw [← h1, ← h2]
              exact he
          unfold eq3 eqn at he
          simp only [Bool.and_eq_true] at he
          obtain ⟨⟨p1, p2⟩, p3⟩ := he
          clear HA HX HY
          go_wp2_with fail
          go_quiet (fail)
          go_wp2
          go_roundw
          case rel => exact ⟨k + 1, by go_num, by omega, Lib.hid (below_drewN HR.out _), HA2⟩
          case measure => simp only [intOf]; omega
        · have he' : eq3 ((ua, ub), uc) ((va, vb), vc) = false := by simpa using he
          have HFf : Hid (F = false) := Lib.hid (by rw [HE.out]; exact zip_no HX.out HY.out he')
          have hc : ((ua.toList == va.toList) = false) ∨ ((ua.toList == va.toList) = true ∧ (ub.toList == vb.toList) = false) ∨ ((ua.toList == va.toList) = true ∧ (ub.toList == vb.toList) = true ∧ (uc.toList == vc.toList) = false) := by
            unfold eq3 eqn at he'
            dsimp only at he'
            revert he'
            cases (ua.toList == va.toList) <;> cases (ub.toList == vb.toList) <;> cases (uc.toList == vc.toList) <;> simp
          clear he he' HA HX HY HE
          rcases hc with p1 | ⟨p1, p2⟩ | ⟨p1, p2, p3⟩
          all_goals
            go_wp2_with fail
            go_quiet (fail)
            go_wp2
            go_ret
            exact ⟨by rw [HFf.out]; rfl, below_drewN hB.out _⟩
      · have g1 : ¬ (k : Int) < (n1 : Int) := by omega
        have HFt : Hid (F = true) := Lib.hid (by rw [HE.out]; exact zip_yes fun j x y hj h1 h2 => HA.out j x y (by rw [← HT1.out.len] at hj; omega) h1 h2)
        have hB := Lib.hid (HB0.out.trans (HR.out.mono (by have := HZ.out; omega)))
        clear HA HE
        go_wp2
        go_ret
        exact ⟨by rw [HFt.out]; rfl, hB.out⟩
  · have HFf : Hid (F = false) := Lib.hid (by
      rw [HF.out]
      unfold sameF
      rw [← HT1.out.len, ← HT2.out.len]
      by_cases q1 : x.kind = y.kind
      · by_cases q2 : eqn (x.sp, x.lo) (y.sp, y.lo) = true
        · by_cases q3 : (x.tx.toList == y.tx.toList) = true
          · have q4 : (n1 == n2) = false := by rw [beq_eq_false_iff_ne]; exact fun h => hall ⟨q1, q2, q3, h⟩
            rw [q4]; simp
          · have q3' : (x.tx.toList == y.tx.toList) = false := by simpa using q3
            rw [q3']; simp
        · have q2' : eqn (x.sp, x.lo) (y.sp, y.lo) = false := by simpa using q2
          rw [q2']; simp
      · have q1' : (x.kind == y.kind) = false := by simpa using q1
        rw [q1']; simp)
    have hc : ((x.kind != y.kind) = true) ∨ ((x.kind != y.kind) = false ∧ (x.sp.toList == y.sp.toList) = false) ∨ ((x.kind != y.kind) = false ∧ (x.sp.toList == y.sp.toList) = true ∧ (x.lo.toList == y.lo.toList) = false) ∨ ((x.kind != y.kind) = false ∧ (x.sp.toList == y.sp.toList) = true ∧ (x.lo.toList == y.lo.toList) = true ∧ (x.tx.toList == y.tx.toList) = false) ∨ ((x.kind != y.kind) = false ∧ (x.sp.toList == y.sp.toList) = true ∧ (x.lo.toList == y.lo.toList) = true ∧ (x.tx.toList == y.tx.toList) = true ∧ ((n1 : Int) != (n2 : Int)) = true) := by
      by_cases q1 : x.kind = y.kind
      · have q1' : (x.kind != y.kind) = false := by rw [bne, q1]; simp
        right
        cases q2 : (x.sp.toList == y.sp.toList)
        · exact .inl ⟨q1', rfl⟩
        right
        cases q3 : (x.lo.toList == y.lo.toList)
        · exact .inl ⟨q1', rfl, rfl⟩
        right
        cases q4 : (x.tx.toList == y.tx.toList)
        · exact .inl ⟨q1', rfl, rfl, rfl⟩
        refine .inr ⟨q1', rfl, rfl, rfl, ?_⟩
        rw [bne_iff_ne]
        intro h
        exact hall ⟨q1, by unfold eqn; rw [q2, q3]; rfl, q4, by omega⟩
      · exact .inl (by simpa using q1)
    clear hall HF HT1 HT2 HKa HKb HZ
    obtain ⟨kx, sx, lx, l, tx⟩ := x
    obtain ⟨ky, sy, ly, m, ty⟩ := y
    dsimp only at *
    rcases hc with p1 | ⟨p1, p2⟩ | ⟨p1, p2, p3⟩ | ⟨p1, p2, p3, p4⟩ | ⟨p1, p2, p3, p4, p5⟩
    all_goals
      go_enter Try.func30, Try.ntmps30
      go_wp2_with fail
      generalize hw : (w.alloc _).alloc _ = W1 at *
      clear hw
      subst hW0
      go_ret
      exact ⟨by rw [HFf.out]; rfl, HB0.out⟩
end Go.Proofs.Ytaoggciebkaakaa.Ev

/- What layer 9's statements call, as contracts; WordRights over them. -/
set_option linter.unusedSimpArgs false
set_option linter.unusedVariables false
namespace Go.Proofs.Ytaoggciebkaakaa.Ev
open Go.RowKit

def emB : ByteArray := ⟨#[]⟩
/-- The end of an element; the root that stands for none. -/
def clE : RE := ⟨3, emB, emB, [], emB⟩
def opE : RE := ⟨1, emB, ⟨#[97]⟩, [], emB⟩
def OwnI (W : World) (B : Nat) (v : Value) (l : List Int) : Prop := W.ownsRow B 3 1 v l.length (l.map (Value.int .i64))
theorem same_self (x : RE) : sameF x x = true := by
  unfold sameF eqn
  rw [zip_yes (fun k a b _ h1 h2 => by
    rw [h1] at h2
    injection h2 with h2
    subst h2
    unfold eq3 eqn
    simp)]
  simp
end Go.Proofs.Ytaoggciebkaakaa.Ev

/- Trees of events (layer 10), plain: forests by first child and next sibling; their events; a document has a tree. -/
set_option linter.unusedSimpArgs false
set_option linter.unusedVariables false
namespace Go.Proofs.Ytaoggciebkaakaa.Ev
open Go.RowKit

/-- A row of trees: the first one (a text or an element, with all its parts), its children, the trees behind it. -/
inductive Fo where
  | nil : Fo
  | cons (t : Bool) (tx sp lo : ByteArray) (ats : List P3) (ks nx : Fo) : Fo
def Fo.len : Fo → Nat
  | .nil => 0
  | .cons _ _ _ _ _ _ nx => nx.len + 1
def Fo.app : Fo → Fo → Fo
  | .nil, g => g
  | .cons t tx sp lo ats ks nx, g => .cons t tx sp lo ats ks (nx.app g)
def Fo.drop : Nat → Fo → Fo
  | 0, f => f
  | _ + 1, .nil => .nil
  | k + 1, .cons _ _ _ _ _ _ nx => Fo.drop k nx
def Fo.take : Nat → Fo → Fo
  | 0, _ => .nil
  | _ + 1, .nil => .nil
  | k + 1, .cons t tx sp lo ats ks nx => .cons t tx sp lo ats ks (Fo.take k nx)
/-- The events of a row of trees. -/
def Fo.evs : Fo → List RE
  | .nil => []
  | .cons t tx sp lo ats ks nx => (if t = true then [⟨2, emB, emB, [], tx⟩] else ⟨1, sp, lo, ats, emB⟩ :: (ks.evs ++ [clE])) ++ nx.evs
/-- How many nodes (a text has no children). -/
def Fo.cnt : Fo → Nat
  | .nil => 0
  | .cons t _ _ _ _ ks nx => (if t = true then 1 else 1 + ks.cnt) + nx.cnt
/-- How many trees within trees, whatever they are. -/
def Fo.siz : Fo → Nat
  | .nil => 0
  | .cons _ _ _ _ _ ks nx => 1 + ks.siz + nx.siz
/-- Without what texts and elements don't have. -/
def Fo.pln : Fo → Fo
  | .nil => .nil
  | .cons t tx sp lo ats ks nx => if t = true then .cons true tx emB emB [] .nil nx.pln else .cons false emB sp lo ats ks.pln nx.pln
theorem app_nil : ∀ f : Fo, f.app .nil = f
  | .nil => rfl
  | .cons t tx sp lo ats ks nx => by rw [Fo.app, app_nil nx]
theorem len_app : ∀ f g : Fo, (f.app g).len = f.len + g.len
  | .nil, g => by rw [Fo.app, Fo.len, Nat.zero_add]
  | .cons t tx sp lo ats ks nx, g => by rw [Fo.app, Fo.len, Fo.len, len_app nx g]; omega
theorem app_assoc : ∀ f g h : Fo, (f.app g).app h = f.app (g.app h)
  | .nil, g, h => rfl
  | .cons t tx sp lo ats ks nx, g, h => by rw [Fo.app, Fo.app, Fo.app, app_assoc nx g h]
theorem evs_app : ∀ f g : Fo, (f.app g).evs = f.evs ++ g.evs
  | .nil, g => rfl
  | .cons t tx sp lo ats ks nx, g => by rw [Fo.app, Fo.evs, Fo.evs, evs_app nx g, List.append_assoc]
theorem cnt_app : ∀ f g : Fo, (f.app g).cnt = f.cnt + g.cnt
  | .nil, g => by rw [Fo.app, Fo.cnt, Nat.zero_add]
  | .cons t tx sp lo ats ks nx, g => by rw [Fo.app, Fo.cnt, Fo.cnt, cnt_app nx g]; omega
theorem len_drop : ∀ (k : Nat) (f : Fo), (f.drop k).len = f.len - k
  | 0, f => rfl
  | k + 1, .nil => by rw [Fo.drop, Fo.len, Nat.zero_sub]
  | k + 1, .cons t tx sp lo ats ks nx => by rw [Fo.drop, Fo.len, len_drop k nx]; omega
theorem take_drop_F : ∀ (k : Nat) (f : Fo), (f.take k).app (f.drop k) = f
  | 0, f => by cases f <;> rfl
  | k + 1, .nil => rfl
  | k + 1, .cons t tx sp lo ats ks nx => by rw [Fo.take, Fo.drop, Fo.app, take_drop_F k nx]
theorem drop_all : ∀ (f : Fo), f.drop f.len = .nil
  | .nil => rfl
  | .cons t tx sp lo ats ks nx => by rw [Fo.len, Fo.drop, drop_all nx]
theorem take_all : ∀ (f : Fo), f.take f.len = f
  | .nil => rfl
  | .cons t tx sp lo ats ks nx => by rw [Fo.len, Fo.take, take_all nx]
theorem len_zero : ∀ {f : Fo}, f.len = 0 → f = .nil
  | .nil, _ => rfl
  | .cons _ _ _ _ _ _ _, h => by rw [Fo.len] at h; omega
theorem drop_cons : ∀ {k : Nat} {f : Fo}, k < f.len → ∃ t tx sp lo ats ks, f.drop k = .cons t tx sp lo ats ks (f.drop (k + 1)) ∧ f.take (k + 1) = (f.take k).app (.cons t tx sp lo ats ks .nil)
  | 0, .nil, h => by rw [Fo.len] at h; omega
  | 0, .cons t tx sp lo ats ks nx, _ => ⟨t, tx, sp, lo, ats, ks, by cases nx <;> rfl, by cases nx <;> rfl⟩
  | k + 1, .nil, h => by rw [Fo.len] at h; omega
  | k + 1, .cons t tx sp lo ats ks nx, h => by
    rw [Fo.len] at h
    obtain ⟨t', tx', sp', lo', ats', ks', e1, e2⟩ := drop_cons (k := k) (f := nx) (by omega)
    exact ⟨t', tx', sp', lo', ats', ks', by rw [Fo.drop, e1]; rfl, by rw [Fo.take, e2]; rfl⟩
theorem emp_eq {s : ByteArray} (h : emp s = true) : s = emB := by
  unfold emp at h
  rw [Lib.toList_data] at h
  cases s with
  | mk d =>
    unfold emB
    have : d.toList = [] := by simpa using h
    rw [Array.toList_eq_nil_iff.1 this]
theorem none_eq {x : RE} (h : noneF x = true) : x.sp = emB ∧ x.lo = emB ∧ x.ats = [] := by
  unfold noneF at h
  simp only [Bool.and_eq_true, beq_iff_eq] at h
  exact ⟨emp_eq h.1.1, emp_eq h.1.2, List.eq_nil_of_length_eq_zero h.2⟩
/-- A right event is an Open, a Text or a Close, with nothing else. -/
theorem right_form {pL tR : ByteArray → Bool} {x : RE} (h : rightF pL tR x = true) : (x = ⟨1, x.sp, x.lo, x.ats, emB⟩) ∨ (x = ⟨2, emB, emB, [], x.tx⟩) ∨ x = clE := by
  obtain ⟨k, sp, lo, ats, tx⟩ := x
  by_cases h2 : k = 2
  · subst h2
    unfold rightF at h
    rw [if_pos rfl] at h
    simp only [Bool.and_eq_true] at h
    obtain ⟨e1, e2, e3⟩ := none_eq h.1.1
    dsimp only at e1 e2 e3
    subst e1 e2 e3
    exact .inr (.inl rfl)
  by_cases h3 : k = 3
  · subst h3
    unfold rightF at h
    rw [if_neg (show ¬ (3 : Int) = 2 by decide), if_pos rfl] at h
    simp only [Bool.and_eq_true] at h
    obtain ⟨e1, e2, e3⟩ := none_eq h.1
    have e4 := emp_eq h.2
    dsimp only at e1 e2 e3 e4
    subst e1 e2 e3 e4
    exact .inr (.inr rfl)
  by_cases h1 : k = 1
  · subst h1
    unfold rightF at h
    rw [if_neg (show ¬ (1 : Int) = 2 by decide), if_neg (show ¬ (1 : Int) = 3 by decide)] at h
    by_cases ht : emp tx = true
    · have := emp_eq ht
      subst this
      exact .inl rfl
    · rw [if_pos (.inr (.inl (by simpa using ht)))] at h
      cases h
  · unfold rightF at h
    rw [if_neg h2, if_neg h3, if_pos (.inl h1)] at h
    cases h
/-- What is left of a document where n are open: n rows of trees, each with a Close behind it. -/
theorem rest_trees {pL tR : ByteArray → Bool} : ∀ (l : List RE) (p : Int) (n : Nat), 1 ≤ n → depR (rightF pL tR) false p n l = 0 → ∃ fs : List Fo, fs.length = n ∧ (∀ f ∈ fs, f.pln = f) ∧ l = fs.flatMap fun f => f.evs ++ [clE]
  | [], p, n, hn, h => by
    have h : (n : Int) = 0 := h
    omega
  | x :: r, p, n, hn, h => by
    rcases dep_next (R := rightF pL tR) (b := false) (p := p) (n := (n : Int)) (x := x) (r := r) (by omega) (fun h => by cases h) with h' | ⟨hR, _, m, h0, _, hm, hd⟩
    · rw [h'] at h
      cases h
    · have hr := hd r
      rw [h] at hr
      rcases right_form hR with e | e | e
      · have hk : x.kind = 1 := by rw [e]
        rw [if_pos hk] at hm
        obtain ⟨fs, hl, hp, he⟩ := rest_trees r x.kind (n + 1) (by omega) (by rw [← hm.trans (by omega : (n : Int) + 1 = ((n + 1 : Nat) : Int))]; exact hr.symm)
        match fs, hl with
        | f0 :: f1 :: fs, hl =>
          refine ⟨.cons false emB x.sp x.lo x.ats f0 f1 :: fs, by simpa using hl, fun f hf => ?_, ?_⟩
          · rcases List.mem_cons.1 hf with rfl | hf
            · rw [Fo.pln, if_neg (by decide), hp f0 (by simp), hp f1 (by simp)]
            · exact hp f (by simp [hf])
          · rw [he, e]
            simp [Fo.evs]
        | [_], hl => simp at hl; omega
        | [], hl => simp at hl
      · have hk : x.kind = 2 := by rw [e]
        rw [if_neg (by omega), if_neg (by omega)] at hm
        obtain ⟨fs, hl, hp, he⟩ := rest_trees r x.kind n hn (by rw [← hm]; exact hr.symm)
        match fs, hl with
        | f0 :: fs, hl =>
          refine ⟨.cons true x.tx emB emB [] .nil f0 :: fs, by simpa using hl, fun f hf => ?_, ?_⟩
          · rcases List.mem_cons.1 hf with rfl | hf
            · rw [Fo.pln, if_pos rfl, hp f0 (by simp)]
            · exact hp f (by simp [hf])
          · rw [he, e]
            simp [Fo.evs]
        | [], hl => simp at hl; omega
      · have hk : x.kind = 3 := by rw [e]; rfl
        rw [if_neg (by omega), if_pos hk] at hm
        by_cases h1 : n = 1
        · subst h1
          have hm0 : m = 0 := by omega
          rw [hm0] at hr
          cases r with
          | nil => exact ⟨[.nil], rfl, fun f hf => by simp at hf; rw [hf]; rfl, by rw [e]; simp [Fo.evs]⟩
          | cons y r =>
            rw [depR, if_pos (.inr (.inl (by decide)))] at hr
            cases hr
        · obtain ⟨fs, hl, hp, he⟩ := rest_trees r x.kind (n - 1) (by omega) (by rw [← hm.trans (by omega : (n : Int) - 1 = ((n - 1 : Nat) : Int))]; exact hr.symm)
          refine ⟨.nil :: fs, by rw [List.length_cons, hl]; omega, fun f hf => ?_, ?_⟩
          · rcases List.mem_cons.1 hf with rfl | hf
            · rfl
            · exact hp f hf
          · rw [he, e]
            simp [Fo.evs]
/-- A document is the events of an element. -/
theorem doc_tree {pL tR : ByteArray → Bool} {l : List RE} (h : depF pL tR l = 0) (hl : l ≠ []) : ∃ sp lo ats ks, l = (Fo.cons false emB sp lo ats ks .nil).evs ∧ Fo.pln ks = ks := by
  cases l with
  | nil => exact absurd rfl hl
  | cons x r =>
    have h : depR (rightF pL tR) true 0 0 (x :: r) = 0 := h
    have hx : x.kind = 1 := by
      rw [depR] at h
      by_cases q : rightF pL tR x = false ∨ ((0 : Int) == 0) ≠ true ∨ (true = true ∧ x.kind ≠ 1)
      · rw [if_pos q] at h
        cases h
      · exact Decidable.not_not.1 fun e => q (.inr (.inr ⟨rfl, e⟩))
    rcases dep_next (R := rightF pL tR) (b := true) (p := 0) (n := 0) (x := x) (r := r) (by omega) (fun _ => rfl) with h' | ⟨hR, _, m, h0, _, hm, hd⟩
    · rw [h'] at h
      cases h
    · have hr := hd r
      rw [h] at hr
      rw [if_pos hx] at hm
      obtain ⟨fs, hl, hp, he⟩ := rest_trees r x.kind 1 (by omega) (by rw [show ((1 : Nat) : Int) = m by omega]; exact hr.symm)
      match fs, hl with
      | [f0], _ =>
        refine ⟨x.sp, x.lo, x.ats, f0, ?_, hp f0 (by simp)⟩
        rcases right_form hR with e | e | e
        · rw [he, Fo.evs, if_neg (by decide), ← e]
          simp [Fo.evs]
        · rw [e] at hx
          cases hx
        · rw [e] at hx
          cases hx
end Go.Proofs.Ytaoggciebkaakaa.Ev

/- Places in the events of trees (layer 10), plain: where what opens ends, where children are, how many nodes stand ahead. -/
set_option linter.unusedSimpArgs false
set_option linter.unusedVariables false
namespace Go.Proofs.Ytaoggciebkaakaa.Ev
open Go.RowKit

/-- The events of a tree: never none. -/
theorem evs_one_pos (t : Bool) (tx sp lo : ByteArray) (ats : List P3) (ks : Fo) : 1 ≤ (Fo.cons t tx sp lo ats ks .nil).evs.length := by
  cases t <;> simp [Fo.evs]
theorem evs_cons (t : Bool) (tx sp lo : ByteArray) (ats : List P3) (ks nx : Fo) : (Fo.cons t tx sp lo ats ks nx).evs = (Fo.cons t tx sp lo ats ks .nil).evs ++ nx.evs := by
  rw [Fo.evs, Fo.evs]
  simp [Fo.evs]
/-- How many nodes stand in these events. -/
def numG : List RE → Nat
  | [] => 0
  | x :: l => (if x.kind = 3 then 0 else 1) + numG l
theorem num_app : ∀ a b : List RE, numG (a ++ b) = numG a + numG b
  | [], b => by simp [numG]
  | x :: a, b => by rw [List.cons_append, numG, numG, num_app a b]; omega
theorem num_evs : ∀ f : Fo, numG f.evs = f.cnt
  | .nil => rfl
  | .cons t tx sp lo ats ks nx => by
    rw [Fo.evs, Fo.cnt, num_app, num_evs nx]
    cases t
    · rw [if_neg (by decide), if_neg (by decide), numG, num_app, num_evs ks]
      simp [numG, clE]
    · rw [if_pos rfl, if_pos rfl]
      simp [numG]
end Go.Proofs.Ytaoggciebkaakaa.Ev

/- WordBegins (layer 9) over the contracts of what it calls. -/
set_option linter.unusedSimpArgs false
set_option linter.unusedVariables false
namespace Go.Proofs.Ytaoggciebkaakaa.Ev
open Go.RowKit

theorem own_slice {e : TypeId} {z n : Nat} {w : World} {B : Nat} {v : Value} {xs : List Value} (h : w.ownsRow B e z v n xs) : ∃ A cap, v = .slice A n cap := by
  rcases h.2 with ⟨rfl, rfl⟩ | ⟨g, cap, cur, rfl, _⟩
  · exact ⟨none, 0, rfl⟩
  · exact ⟨_, cap, rfl⟩
theorem own_keep {e : TypeId} {z n : Nat} {w w' : World} {B : Nat} {v : Value} {xs : List Value} (h : w.ownsRow B e z v n xs) (hb : Below w.heap.size w w') : w'.ownsRow B e z v n xs := by
  refine ⟨h.1, ?_⟩
  rcases h.2 with hn | ⟨g, cap, cur, rfl, hB, hg, rest⟩
  · exact .inl hn
  · exact .inr ⟨g, cap, cur, rfl, hB, (hb.block _ (Array.getElem?_eq_some_iff.1 hg).1).trans hg, rest⟩
/-- The slice at A reads as these numbers. -/
def RdI (w : World) (A : Option Addr) (l : List Int) : Prop :=
  ∀ k x, l[k]? = some x → ∃ b off, A = some ⟨b, off, none⟩ ∧ b < w.heap.size ∧ w.cell? ⟨b, off + k, none⟩ = some (.int .i64 x)
theorem RdI.keep {w w' : World} {A : Option Addr} {l : List Int} (h : RdI w A l) (hb : Below w.heap.size w w') : RdI w' A l := fun k t hk => by
  obtain ⟨b, o, e, hlt, c0⟩ := h k t hk
  exact ⟨b, o, e, Nat.lt_of_lt_of_le hlt hb.size, (hb.cell (p := ⟨b, o + k, none⟩) hlt).trans c0⟩
theorem add_at (g k : Nat) : (⟨g, 0, none⟩ : Addr).add k = ⟨g, k, none⟩ := by
  cases k with
  | zero => rfl
  | succ j => simp [Addr.add]
theorem OwnI.rd {w : World} {B : Nat} {v : Value} {l : List Int} (h : OwnI w B v l) : ∃ A c, v = .slice A l.length c ∧ RdI w A l ∧ l.length ≤ maxLen := by
  have h' : w.ownsRow B 3 1 v l.length (l.map (Value.int .i64)) := h
  rcases h'.2 with ⟨rfl, h0⟩ | ⟨g, cap, cur, rfl, hB, hg, h4, h5, _⟩
  · refine ⟨none, 0, by rw [h0], fun k x hk => ?_, by omega⟩
    rw [List.eq_nil_of_length_eq_zero h0] at hk
    simp at hk
  · refine ⟨_, cap, rfl, fun k x hk => ⟨g, 0, rfl, (Array.getElem?_eq_some_iff.1 hg).1, ?_⟩, by omega⟩
    have := h'.cells rfl k (.int .i64 x) (by rw [List.getElem?_map, hk]; rfl)
    rw [add_at] at this
    rw [Nat.zero_add]
    exact this
end Go.Proofs.Ytaoggciebkaakaa.Ev

/- Rows of events of the call's own: what is appended to them, what they read as; the document's Same of two that are alike. -/
set_option linter.unusedSimpArgs false
set_option linter.unusedVariables false
namespace Go.Proofs.Ytaoggciebkaakaa.Ev
open Go.RowKit

section
variable {α : Type} {f : α → List Value} {z : Nat}
theorem cel_len (hz : ∀ x, (f x).length = z) (l : List α) : (l.flatMap f).length = l.length * z := by
  induction l with
  | nil => simp
  | cons x l ih => rw [List.flatMap_cons, List.length_append, hz, ih, List.length_cons, Nat.add_mul, Nat.one_mul, Nat.add_comm]
theorem cel_get (hz : ∀ x, (f x).length = z) : ∀ (l : List α) (k i : Nat) (t : α), l[k]? = some t → i < z → (l.flatMap f)[k * z + i]? = (f t)[i]?
  | [], k, i, t, h, _ => by simp at h
  | x :: l, 0, i, t, h, hi => by
    have : x = t := by simpa using h
    subst this
    rw [List.flatMap_cons, Nat.zero_mul, Nat.zero_add, List.getElem?_append_left (by rw [hz]; exact hi)]
  | x :: l, k + 1, i, t, h, hi => by
    have h' : l[k]? = some t := by simpa using h
    have e : (k + 1) * z + i - z = k * z + i := by rw [Nat.add_mul, Nat.one_mul]; omega
    rw [List.flatMap_cons, List.getElem?_append_right (by rw [hz, Nat.add_mul, Nat.one_mul]; omega), hz, e]
    exact cel_get hz l k i t h' hi
end
/-- An event, with its attributes' slice. -/
abbrev PE := RE × (Option Addr × Nat × Nat)
def peC (p : PE) : List Value := [.int .i64 p.1.kind, .string p.1.sp, .string p.1.lo, .slice p.2.1 p.2.2.1 p.2.2.2, .string p.1.tx]
def peL (l : List PE) : List Value := l.flatMap peC
theorem peC_len (p : PE) : (peC p).length = 5 := rfl
theorem peL_len (l : List PE) : (peL l).length = l.length * 5 := cel_len peC_len l
theorem peL_get (l : List PE) (k i : Nat) (p : PE) (h : l[k]? = some p) (hi : i < 5) : (peL l)[k * 5 + i]? = (peC p)[i]? := cel_get peC_len l k i p h hi
theorem peL_app (a b : List PE) : peL (a ++ b) = peL a ++ peL b := by unfold peL; simp
theorem peL_one (l : List PE) : ∀ u ∈ peL l, u.oneCell' = true := by
  intro u hu
  obtain ⟨p, _, hu⟩ := List.mem_flatMap.1 hu
  unfold peC at hu
  simp only [List.mem_cons, List.not_mem_nil, or_false] at hu
  rcases hu with rfl | rfl | rfl | rfl | rfl <;> rfl
/-- The attributes of these events stand in memory. -/
def PeO (W : World) (ps : List PE) : Prop := ∀ p ∈ ps, AttsIn W p.2.1 p.2.2.1 p.2.2.2 p.1.ats ∧ RSz p.1
theorem PeO.keep {W W' : World} {ps : List PE} (h : PeO W ps) (hb : Below W.heap.size W W') : PeO W' ps := fun p hp => ⟨(h p hp).1.keep hb, (h p hp).2⟩
theorem PeO.app {W : World} {a b : List PE} (h : PeO W a) (k : PeO W b) : PeO W (a ++ b) := fun p hp => (List.mem_append.1 hp).elim (h p) (k p)
/-- A row of the call's own reads as its events. -/
theorem own_evs {W : World} {B n c : Nat} {A : Option Addr} {ps : List PE} (h : W.ownsRow B 38 5 (.slice A n c) n (peL ps)) (hn : n = ps.length) (hO : PeO W ps) (h5 : n ≤ 4398046511104) : EvsIn W A n c (ps.map (·.1)) := by
  have hx : ∀ x ∈ ps.map (·.1), RSz x := fun x hx => by
    obtain ⟨p, hp, rfl⟩ := List.mem_map.1 hx
    exact (hO p hp).2
  rcases h.2 with ⟨q, h0⟩ | ⟨g, cap, cur, q, hB, hg, h1, h2, _⟩
  · injection q with q1 q2 q3
    subst q1 q2 q3
    refine ⟨by rw [List.length_map]; exact hn, Nat.zero_le _, Nat.zero_le _, hx, fun k x hk => ?_, fun _ => ⟨rfl, rfl⟩, ⟨Nat.le_refl _, Nat.zero_le _⟩⟩
    rw [List.eq_nil_of_length_eq_zero hn.symm] at hk
    simp at hk
  · injection q with q1 q2 q3
    subst q1 q3
    refine ⟨by rw [List.length_map]; exact hn, by omega, h5, hx, fun k x hk => ?_, (fun e => by cases e), ⟨h1, h2⟩⟩
    rw [List.getElem?_map] at hk
    obtain ⟨p, hp, rfl⟩ := Option.map_eq_some_iff.1 hk
    have hc : ∀ i, i < 5 → W.cell? ⟨g, k * 5 + i, none⟩ = (peC p)[i]? := fun i hi => by
      have g1 := peL_get ps k i p hp hi
      have hlt : i < (peC p).length := by rw [peC_len]; exact hi
      rw [List.getElem?_eq_getElem hlt] at g1 ⊢
      have := h.cells rfl _ _ g1
      rw [add_at] at this
      exact this
    refine ⟨g, 0, p.2.1, p.2.2.1, p.2.2.2, rfl, (Array.getElem?_eq_some_iff.1 hg).1, (hO p (List.mem_of_getElem? hp)).1, ?_, ?_, ?_, ?_, ?_⟩
    all_goals rw [Nat.zero_add]
    · exact hc 0 (by omega)
    · exact hc 1 (by omega)
    · exact hc 2 (by omega)
    · exact hc 3 (by omega)
    · exact hc 4 (by omega)
theorem EvsIn.take {W : World} {A : Option Addr} {n c k : Nat} {l : List RE} (h : EvsIn W A n c l) (hk : k ≤ n) : EvsIn W A k c (l.take k) :=
  ⟨by rw [List.length_take, ← h.len]; omega, by have := h.lsz; omega, by have := h.cnt; omega, fun x hx => h.xsz x (List.mem_of_mem_take hx), (fun j x hj => by
    rw [List.getElem?_take] at hj
    by_cases q : j < k
    · rw [if_pos q] at hj
      exact h.rd j x hj
    · rw [if_neg q] at hj
      cases hj), (fun e => ⟨by have := (h.nil e).1; omega, (h.nil e).2⟩), ⟨by have := h.cap.1; omega, h.cap.2⟩⟩
theorem attsNil (W : World) : AttsIn W none 0 0 [] := ⟨rfl, Nat.zero_le _, Nat.zero_le _, fun x hx => by simp at hx, fun j x hx => by simp at hx, fun _ => ⟨rfl, rfl⟩⟩
end Go.Proofs.Ytaoggciebkaakaa.Ev

/- Trees in memory (layer 10): rows of trees, read; kept by what leaves their blocks alone. -/
set_option linter.unusedSimpArgs false
set_option linter.unusedVariables false
namespace Go.Proofs.Ytaoggciebkaakaa.Ev
open Go.RowKit

/-- The slices of attributes whose blocks are all among these. -/
def AtP (P : Nat → Prop) (A : Option Addr) (n : Nat) : Prop := 0 < n → ∀ a, A = some a → P a.block
/-- The trees that stand in block b from there on; what they name lies in blocks among these. -/
def KsAt (P : Nat → Prop) (W : World) : Fo → Nat → Nat → Prop
  | .nil, _, _ => True
  | .cons t tx sp lo ats ks nx, b, off => (∃ Aa na ca Ak nk ck, (W.cell? ⟨b, off, none⟩ = some (.bool t) ∧ W.cell? ⟨b, off + 1, none⟩ = some (.string tx) ∧ W.cell? ⟨b, off + 2, none⟩ = some (.string sp) ∧ W.cell? ⟨b, off + 3, none⟩ = some (.string lo) ∧ W.cell? ⟨b, off + 4, none⟩ = some (.slice Aa na ca) ∧ W.cell? ⟨b, off + 5, none⟩ = some (.slice Ak nk ck)) ∧
      (tx.size ≤ maxLen ∧ sp.size ≤ maxLen ∧ lo.size ≤ maxLen) ∧ AttsIn W Aa na ca ats ∧ AtP P Aa na ∧
      (nk = ks.len ∧ nk ≤ 4398046511104 ∧ nk ≤ ck ∧ ck ≤ maxLen ∧ (Ak = none → nk = 0 ∧ ck = 0) ∧ (0 < nk → ∃ b' off', Ak = some ⟨b', off', none⟩ ∧ b' < W.heap.size ∧ P b' ∧ KsAt P W ks b' off'))) ∧ KsAt P W nx b (off + 6)
/-- A slice of trees. -/
def KsIn (P : Nat → Prop) (W : World) (ks : Fo) (A : Option Addr) (n c : Nat) : Prop :=
  n = ks.len ∧ n ≤ 4398046511104 ∧ n ≤ c ∧ c ≤ maxLen ∧ (A = none → n = 0 ∧ c = 0) ∧ (0 < n → ∃ b' off', A = some ⟨b', off', none⟩ ∧ b' < W.heap.size ∧ P b' ∧ KsAt P W ks b' off')
/-- One tree's parts. -/
structure Tr1 (P : Nat → Prop) (W : World) (tx sp lo : ByteArray) (ats : List P3) (ks : Fo) (Aa : Option Addr) (na ca : Nat) (Ak : Option Addr) (nk ck : Nat) : Prop where
  sz : tx.size ≤ maxLen ∧ sp.size ≤ maxLen ∧ lo.size ≤ maxLen
  at_ : AttsIn W Aa na ca ats
  ap : AtP P Aa na
  ks : KsIn P W ks Ak nk ck
/-- A tree's cells, from there on. -/
def Tc6 (W : World) (b off : Nat) (t : Bool) (tx sp lo : ByteArray) (Aa : Option Addr) (na ca : Nat) (Ak : Option Addr) (nk ck : Nat) : Prop :=
  W.cell? ⟨b, off, none⟩ = some (.bool t) ∧ W.cell? ⟨b, off + 1, none⟩ = some (.string tx) ∧ W.cell? ⟨b, off + 2, none⟩ = some (.string sp) ∧ W.cell? ⟨b, off + 3, none⟩ = some (.string lo) ∧ W.cell? ⟨b, off + 4, none⟩ = some (.slice Aa na ca) ∧ W.cell? ⟨b, off + 5, none⟩ = some (.slice Ak nk ck)
section
variable {P Q : Nat → Prop} {W W' : World}
theorem KsAt.head {t : Bool} {tx sp lo : ByteArray} {ats : List P3} {ks nx : Fo} {b off : Nat} (h : KsAt P W (.cons t tx sp lo ats ks nx) b off) : (∃ Aa na ca Ak nk ck, Tc6 W b off t tx sp lo Aa na ca Ak nk ck ∧ Tr1 P W tx sp lo ats ks Aa na ca Ak nk ck) ∧ KsAt P W nx b (off + 6) := by
  obtain ⟨⟨Aa, na, ca, Ak, nk, ck, h1, h2, h3, h4, h5⟩, h6⟩ := h
  exact ⟨⟨Aa, na, ca, Ak, nk, ck, h1, ⟨h2, h3, h4, h5⟩⟩, h6⟩
theorem KsAt.mk {t : Bool} {tx sp lo : ByteArray} {ats : List P3} {ks nx : Fo} {b off : Nat} {Aa : Option Addr} {na ca : Nat} {Ak : Option Addr} {nk ck : Nat} (h1 : Tc6 W b off t tx sp lo Aa na ca Ak nk ck) (h2 : Tr1 P W tx sp lo ats ks Aa na ca Ak nk ck) (h3 : KsAt P W nx b (off + 6)) : KsAt P W (.cons t tx sp lo ats ks nx) b off :=
  ⟨⟨Aa, na, ca, Ak, nk, ck, h1, h2.sz, h2.at_, h2.ap, h2.ks⟩, h3⟩
theorem KsAt.mono (hPQ : ∀ b, P b → Q b) : ∀ {f : Fo} {b off : Nat}, KsAt P W f b off → KsAt Q W f b off
  | .nil, _, _, _ => trivial
  | .cons t tx sp lo ats ks nx, b, off, h => by
    obtain ⟨⟨Aa, na, ca, Ak, nk, ck, h1, h2, h3, h4, h5, h6, h7, h8, h9, h10⟩, h11⟩ := h
    exact ⟨⟨Aa, na, ca, Ak, nk, ck, h1, h2, h3, fun h0 a e => hPQ _ (h4 h0 a e), h5, h6, h7, h8, h9, fun hn => by
      obtain ⟨b', off', e, hb, hp, hk⟩ := h10 hn
      exact ⟨b', off', e, hb, hPQ _ hp, KsAt.mono hPQ hk⟩⟩, KsAt.mono hPQ h11⟩
theorem cell_lt {p : Addr} {u : Value} (h : W.cell? p = some u) (hb : Below W.heap.size W W') : W'.cell? p = some u := (hb.cell (p := p) (Lib.lt_of_cell h)).trans h
theorem KsAt.keep (hb : Below W.heap.size W W') : ∀ {f : Fo} {b off : Nat}, KsAt P W f b off → KsAt P W' f b off
  | .nil, _, _, _ => trivial
  | .cons t tx sp lo ats ks nx, b, off, h => by
    obtain ⟨⟨Aa, na, ca, Ak, nk, ck, h1, h2, h3, h4, h5, h6, h7, h8, h9, h10⟩, h11⟩ := h
    exact ⟨⟨Aa, na, ca, Ak, nk, ck, ⟨cell_lt h1.1 hb, cell_lt h1.2.1 hb, cell_lt h1.2.2.1 hb, cell_lt h1.2.2.2.1 hb, cell_lt h1.2.2.2.2.1 hb, cell_lt h1.2.2.2.2.2 hb⟩, h2, h3.keep hb, h4, h5, h6, h7, h8, h9, fun hn => by
      obtain ⟨b', off', e, hlt, hp, hk⟩ := h10 hn
      exact ⟨b', off', e, Nat.lt_of_lt_of_le hlt hb.size, hp, KsAt.keep hb hk⟩⟩, KsAt.keep hb h11⟩
theorem KsIn.keep {f : Fo} {A : Option Addr} {n c : Nat} (h : KsIn P W f A n c) (hb : Below W.heap.size W W') : KsIn P W' f A n c :=
  ⟨h.1, h.2.1, h.2.2.1, h.2.2.2.1, h.2.2.2.2.1, fun hn => by
    obtain ⟨b', off', e, hlt, hp, hk⟩ := h.2.2.2.2.2 hn
    exact ⟨b', off', e, Nat.lt_of_lt_of_le hlt hb.size, hp, hk.keep hb⟩⟩
theorem KsIn.mono {f : Fo} {A : Option Addr} {n c : Nat} (hPQ : ∀ b, P b → Q b) (h : KsIn P W f A n c) : KsIn Q W f A n c :=
  ⟨h.1, h.2.1, h.2.2.1, h.2.2.2.1, h.2.2.2.2.1, fun hn => by
    obtain ⟨b', off', e, hlt, hp, hk⟩ := h.2.2.2.2.2 hn
    exact ⟨b', off', e, hlt, hPQ _ hp, hk.mono hPQ⟩⟩
theorem Tr1.keep {tx sp lo : ByteArray} {ats : List P3} {ks : Fo} {Aa : Option Addr} {na ca : Nat} {Ak : Option Addr} {nk ck : Nat} (h : Tr1 P W tx sp lo ats ks Aa na ca Ak nk ck) (hb : Below W.heap.size W W') : Tr1 P W' tx sp lo ats ks Aa na ca Ak nk ck := ⟨h.sz, h.at_.keep hb, h.ap, h.ks.keep hb⟩
theorem Tr1.mono {tx sp lo : ByteArray} {ats : List P3} {ks : Fo} {Aa : Option Addr} {na ca : Nat} {Ak : Option Addr} {nk ck : Nat} (hPQ : ∀ b, P b → Q b) (h : Tr1 P W tx sp lo ats ks Aa na ca Ak nk ck) : Tr1 Q W tx sp lo ats ks Aa na ca Ak nk ck := ⟨h.sz, h.at_, fun h0 a e => hPQ _ (h.ap h0 a e), h.ks.mono hPQ⟩
/-- A row that grows elsewhere. -/
theorem RdT.keepG {A : Option Addr} {l : List P3} {row : Option Nat} (h : RdT W A l) (hg : W.grownBy W' row) (hne : 0 < l.length → ∀ a, A = some a → some a.block ≠ row) : RdT W' A l := fun k x hk => by
  obtain ⟨b, o, e, hlt, c0, c1, c2⟩ := h k x hk
  have hn : some b ≠ row := hne (Nat.lt_of_le_of_lt (Nat.zero_le k) (List.getElem?_eq_some_iff.1 hk).1) _ e
  exact ⟨b, o, e, Nat.lt_of_lt_of_le hlt hg.size, hg.cell c0 hn, hg.cell c1 hn, hg.cell c2 hn⟩
theorem AttsIn.keepG {A : Option Addr} {n c : Nat} {l : List P3} {row : Option Nat} (h : AttsIn W A n c l) (hg : W.grownBy W' row) (hne : 0 < n → ∀ a, A = some a → some a.block ≠ row) : AttsIn W' A n c l := ⟨h.len, h.lsz, h.cnt, h.xsz, h.rd.keepG hg (fun h0 => hne (by rw [h.len]; exact h0)), h.nil⟩
theorem AttsIn.low {A : Option Addr} {n c : Nat} {l : List P3} (h : AttsIn W A n c l) : AtP (· < W.heap.size) A n := fun h0 a e => by
  obtain ⟨b, o, e', hlt, _⟩ := h.rd 0 _ (List.getElem?_eq_getElem (show 0 < l.length by rw [← h.len]; exact h0))
  rw [e] at e'
  injection e' with e'
  rw [e']
  exact hlt
theorem KsAt.grown {row : Option Nat} (hg : W.grownBy W' row) (hP : ∀ b, P b → some b ≠ row) : ∀ {f : Fo} {b off : Nat}, some b ≠ row → KsAt P W f b off → KsAt P W' f b off
  | .nil, _, _, _, _ => trivial
  | .cons t tx sp lo ats ks nx, b, off, hb, h => by
    obtain ⟨⟨Aa, na, ca, Ak, nk, ck, h1, h2, h3, h4, h5, h6, h7, h8, h9, h10⟩, h11⟩ := h
    exact ⟨⟨Aa, na, ca, Ak, nk, ck, ⟨hg.cell h1.1 hb, hg.cell h1.2.1 hb, hg.cell h1.2.2.1 hb, hg.cell h1.2.2.2.1 hb, hg.cell h1.2.2.2.2.1 hb, hg.cell h1.2.2.2.2.2 hb⟩, h2, h3.keepG hg (fun h0 a e => hP _ (h4 h0 a e)), h4, h5, h6, h7, h8, h9, fun hn => by
      obtain ⟨b', off', e, hlt, hp, hk⟩ := h10 hn
      exact ⟨b', off', e, Nat.lt_of_lt_of_le hlt hg.size, hp, KsAt.grown hg hP (hP _ hp) hk⟩⟩, KsAt.grown hg hP hb h11⟩
theorem KsIn.grown {row : Option Nat} (hg : W.grownBy W' row) (hP : ∀ b, P b → some b ≠ row) {f : Fo} {A : Option Addr} {n c : Nat} (h : KsIn P W f A n c) : KsIn P W' f A n c :=
  ⟨h.1, h.2.1, h.2.2.1, h.2.2.2.1, h.2.2.2.2.1, fun hn => by
    obtain ⟨b', off', e, hlt, hp, hk⟩ := h.2.2.2.2.2 hn
    exact ⟨b', off', e, Nat.lt_of_lt_of_le hlt hg.size, hp, hk.grown hg hP (hP _ hp)⟩⟩
theorem KsAt.drop : ∀ {k : Nat} {f : Fo} {b off : Nat}, KsAt P W f b off → KsAt P W (f.drop k) b (off + k * 6)
  | 0, f, b, off, h => by rw [Nat.zero_mul, Nat.add_zero]; exact h
  | k + 1, .nil, b, off, h => trivial
  | k + 1, .cons t tx sp lo ats ks nx, b, off, h => by
    have := KsAt.drop (k := k) h.2
    rw [show off + (k + 1) * 6 = off + 6 + k * 6 by omega]
    exact this
theorem KsAt.app : ∀ {f g : Fo} {b off : Nat}, KsAt P W f b off → KsAt P W g b (off + f.len * 6) → KsAt P W (f.app g) b off
  | .nil, g, b, off, _, h => by
    rw [Fo.len, Nat.zero_mul, Nat.add_zero] at h
    exact h
  | .cons t tx sp lo ats ks nx, g, b, off, h, h2 => by
    rw [Fo.len, show off + (nx.len + 1) * 6 = off + 6 + nx.len * 6 by omega] at h2
    exact ⟨h.1, KsAt.app h.2 h2⟩
/-- The k-th tree of a slice. -/
theorem KsIn.at_ {f : Fo} {A : Option Addr} {n c k : Nat} (h : KsIn P W f A n c) (hk : k < n) : ∃ t tx sp lo ats ks b off Aa na ca Ak nk ck, f.drop k = .cons t tx sp lo ats ks (f.drop (k + 1)) ∧ A = some ⟨b, off, none⟩ ∧ b < W.heap.size ∧ Tc6 W b (off + k * 6) t tx sp lo Aa na ca Ak nk ck ∧ Tr1 P W tx sp lo ats ks Aa na ca Ak nk ck := by
  obtain ⟨b, off, e, hlt, hp, hks⟩ := h.2.2.2.2.2 (by omega)
  obtain ⟨t, tx, sp, lo, ats, ks, e1, _⟩ := drop_cons (k := k) (f := f) (by rw [← h.1]; exact hk)
  have hd := hks.drop (k := k)
  rw [e1] at hd
  obtain ⟨⟨Aa, na, ca, Ak, nk, ck, h1, h2⟩, _⟩ := hd.head
  exact ⟨t, tx, sp, lo, ats, ks, b, off, Aa, na, ca, Ak, nk, ck, e1, e, hlt, h1, h2⟩
end
theorem ksNil (P : Nat → Prop) (W : World) : KsIn P W .nil none 0 0 := ⟨rfl, Nat.zero_le _, Nat.le_refl _, Nat.zero_le _, fun _ => ⟨rfl, rfl⟩, fun h => by omega⟩
end Go.Proofs.Ytaoggciebkaakaa.Ev
