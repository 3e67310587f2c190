/-
  Merged by program out of the texts Read, Desc, BMath, SMath, NzLeaf, NzConv, NzRune of one seat.
-/
import Derived.Test.YtnomcldpbkinmaaGreatDoorG06
import Derived.Test.YtnomcldpbkinmaaGreatDoorG02
import Derived.Test.YtnomcldpbkinmaaGreatDoorProg
import Derived.Test.YtnomcldpbkinmaaGreatDoorG03
import Derived.WalkKit
import Derived.WalkSpells
import Derived.WalkLawsBesides
import Derived.Laws.RangeAny
import Derived.Laws.Cover4
import Derived.Lib.Hide
import Derived.Lib.DecodeN

/- The walks of ref.read, ref.escape, and of Text, Value, Escape, Quote. -/
set_option linter.unusedSimpArgs false
set_option linter.unusedVariables false
namespace Go.Proofs.YtnomcldpbkinmaaGreatDoor
open Go.RowKit

theorem step_len (v : Bool) (l : List Int) (h : (stepF v l).1 = 0) : (stepF v l).2.1.length ≤ 4 := by
  unfold stepF
  repeat' split
  all_goals simp
  all_goals exact (encB_len _).2
/-- Where read stands: k bytes are read, bs is gathered of them. -/
def RdRel (s : ByteArray) (v : Bool) (w : World) (i : Value) (wr : World) : Prop :=
  ∃ (k : Nat) (bs : List Int), k ≤ s.size ∧ i = .int .i64 k ∧ Gat w.heap.size w.heap.size v bs wr ∧ Below w.heap.size w wr ∧ bs.length ≤ 4 * k ∧
    readF v (byts s) = (bs ++ (readF v ((byts s).drop k)).1, k + (readF v ((byts s).drop k)).2.1, (readF v ((byts s).drop k)).2.2)
def RdPost (x : List Int × Int × Int) (w : World) (e : Ending) (w' : World) : Prop :=
  e = .returned (.tuple #[.string (strOfNums x.1), .int .i64 x.2.1, .int .i64 x.2.2]) ∧ Below w.heap.size w w'
theorem rd_of {x y : List Int × Int × Int} {w w' : World} {e : Ending} (h : x = y) (hp : RdPost y w e w') : RdPost x w e w' := by rw [h]; exact hp
theorem str_none : strOfNums [] = ⟨#[]⟩ := by rw [strOf_eq]; rfl
theorem ans_ok {v : Bool} {l : List Int} {g : List Int} {n : Nat} (h : readF v l = (g, n, 0)) : ansF v l = (g, 0, 0) := by
  unfold ansF; rw [h]; simp
theorem ans_err {v : Bool} {l : List Int} {g : List Int} {n : Nat} {er : Int} (h : readF v l = (g, n, er)) (he : er ≠ 0) : ansF v l = ([], (n : Int), er) := by
  unfold ansF; rw [h]; simp [he]

set_option maxHeartbeats 4000000 in
set_option maxRecDepth 100000 in
theorem read_any (s : ByteArray) (v : Bool) (w : World) (hs : s.size ≤ 100000) (hV : Vars w) : Calls Tryz.prog 116 #[.string s, .bool v] w (RdPost (ansF v (byts s)) w) := by
  have HV := Lib.hid hV
  clear hV
  go_enter Tryz.func116, Tryz.ntmps116
  go_wp2_with fail
  go_loopw [8] (fun i wr => RdRel s v w i wr) (fun i _ => s.size - (intOf i).toNat)
  case atStart =>
    exact ⟨0, [], Nat.zero_le _, rfl, gat_new w v, (Below.refl _ w).alloc (Nat.le_refl _) _, by simp, by simp⟩
  case round =>
    obtain ⟨k, bs, hk, rfl, hg, hb, hl, hr⟩ := hrel
    by_cases hlt : k < s.size
    · have hsz := hb.size
      have hne : (byts s).drop k ≠ [] := by
        intro e
        have := congrArg List.length e
        rw [List.length_drop, byts_len, List.length_nil] at this
        omega
      have hnn : NN ((byts s).drop k) := (byts_nn s).drop k
      have C := Lib.hid (next_any w.heap.size w.heap.size v bs s k wr hlt (by omega) hg hsz (by omega) (HV.out.keep hb HV.out.1))
      have S1 := step_bd v _ hne hnn
      have S2 := step_len v ((byts s).drop k)
      have R1 := readF_err v _ hne
      have R2 := readF_ok v _ hne hnn
      rw [List.drop_drop] at R2
      rw [List.length_drop, byts_len] at S1
      generalize stepF v ((byts s).drop k) = x at *
      obtain ⟨er, o, n⟩ := x
      simp only at S1 S2 R1 R2
      by_cases he : er = 0
      · subst he
        have S1 := S1 rfl
        have S2 := S2 rfl
        rw [R2 rfl] at hr
        have HR : Hid (readF v (byts s) = (bs ++ o ++ (readF v ((byts s).drop (k + n))).1, k + n + (readF v ((byts s).drop (k + n))).2.1, (readF v ((byts s).drop (k + n))).2.2)) := Lib.hid (by
          rw [hr]; simp only [List.append_assoc, Nat.add_assoc])
        clear R1 R2 hr hg hne hnn
        go_wp2_with fail
        refine C.out.mono ?_
        rintro e w1 ⟨rfl, h1, hb1⟩
        have HG := Lib.hid (h1 rfl)
        clear h1 C
        have q2 : IntKind.i64.wrap ((k : Int) + (n : Int)) = (k : Int) + (n : Int) := IntWalk.i64_in _ (by omega)
        go_wp2_with fail
        go_roundw
        case rel => exact ⟨k + n, bs ++ o, by omega, by rw [Int.natCast_add], HG.out, hb.trans hb1, by rw [List.length_append]; omega, HR.out⟩
        case measure => simp only [intOf]; omega
      · have t1 : (er != 0) = true := by simpa using he
        rw [R1 he] at hr
        have HA : Hid (ansF v (byts s) = ([], (k : Int), er)) := Lib.hid (by
          have := ans_err hr he
          rw [this]; simp)
        clear R1 R2 hr hg hne hnn S1 S2 he
        go_wp2_with fail
        refine C.out.mono ?_
        rintro e w1 ⟨rfl, h1, hb1⟩
        clear h1 C
        go_wp2
        go_ret3
        exact rd_of HA.out ⟨by rw [str_none]; rfl, hb.trans hb1⟩
    · have hkk : k = s.size := by omega
      subst hkk
      rw [List.drop_of_length_le (by rw [byts_len]; omega), readF_nil] at hr
      have HA : Hid (ansF v (byts s) = (bs, 0, 0)) := Lib.hid (by
        have := ans_ok hr
        rw [this]; simp)
      have CS := Lib.hid (str_any w.heap.size w.heap.size v bs wr hg)
      clear hr hg
      go_wp2_with fail
      refine CS.out.mono ?_
      rintro e w1 ⟨rfl, hb1⟩
      go_wp2
      go_ret3
      exact rd_of HA.out ⟨rfl, hb.trans hb1⟩

set_option maxHeartbeats 1000000 in
set_option maxRecDepth 100000 in
theorem text_of (s : ByteArray) (x : List Int × Int × Int) (w : World) (C : Hid (Calls Tryz.prog 116 #[.string s, .bool false] w (RdPost x w))) : Calls Tryz.prog 89 #[.string s] w (RdPost x w) := by
  go_enter Tryz.func89, Tryz.ntmps89
  go_wp2_with fail
  refine C.out.mono ?_
  rintro e w1 ⟨rfl, hb⟩
  go_wp2
  go_ret3
  exact ⟨rfl, hb⟩
theorem text_any (s : ByteArray) (w : World) (hs : s.size ≤ 100000) (hV : Vars w) : Calls Tryz.prog 89 #[.string s] w (RdPost (ansF false (byts s)) w) := text_of s _ w (Lib.hid (read_any s false w hs hV))
set_option maxHeartbeats 1000000 in
set_option maxRecDepth 100000 in
theorem value_of (s : ByteArray) (x : List Int × Int × Int) (w : World) (C : Hid (Calls Tryz.prog 116 #[.string s, .bool true] w (RdPost x w))) : Calls Tryz.prog 152 #[.string s] w (RdPost x w) := by
  go_enter Tryz.func152, Tryz.ntmps152
  go_wp2_with fail
  refine C.out.mono ?_
  rintro e w1 ⟨rfl, hb⟩
  go_wp2
  go_ret3
  exact ⟨rfl, hb⟩
theorem valu_any (s : ByteArray) (w : World) (hs : s.size ≤ 100000) (hV : Vars w) : Calls Tryz.prog 152 #[.string s] w (RdPost (ansF true (byts s)) w) := value_of s _ w (Lib.hid (read_any s true w hs hV))
end Go.Proofs.YtnomcldpbkinmaaGreatDoor

/- The walk of the document's Escape. -/
set_option linter.unusedSimpArgs false
set_option linter.unusedVariables false
namespace Go.Proofs.YtnomcldpbkinmaaGreatDoor
open Go.RowKit

theorem str_of_byts {s : ByteArray} {l : List Int} (h : byts s = l) : s = strOfNums l := by
  refine byts_inj ?_
  subst h
  rw [byts_str _ (byts_nn s) fun x hx => (Byt.byts s x hx).2]
theorem byts_cat (s t : ByteArray) : byts (s ++ t) = byts s ++ byts t := by
  unfold byts
  rw [ByteArray.data_append, Array.toList_append, List.map_append]
theorem size_cat (s t : ByteArray) : (s ++ t).size = s.size + t.size := by rw [← byts_len, byts_cat, List.length_append, byts_len, byts_len]
end Go.Proofs.YtnomcldpbkinmaaGreatDoor

/- Plain mathematics: what is escaped is read as it was; texts behind one another. -/
set_option linter.unusedSimpArgs false
set_option linter.unusedVariables false
namespace Go.Proofs.YtnomcldpbkinmaaGreatDoor

theorem chr_nbad {r : Int} (h : Chr r) : ¬ Bad r := by unfold Chr Btw at h; unfold Bad; omega
/-- May all of a text stand in a text? -/
def Rt (l : List Int) : Prop := (decF l).2.2 = 0 ∧ ∀ r ∈ (decF l).1, Chr r

theorem getD_app (a b : List Int) (h : a ≠ []) : (a ++ b).getD 0 0 = a.getD 0 0 := by
  cases a with
  | nil => exact absurd rfl h
  | cons x y => simp
theorem enc_head (r : Int) (h : ¬ Bad r) (h1 : 128 ≤ r) : 128 ≤ (encB r).getD 0 0 ∧ ∀ x ∈ encB r, 128 ≤ x := by
  unfold Bad at h
  by_cases h2 : r < 2048
  · rw [enc2 h1 h2]
    refine ⟨by simp; omega, fun x hx => ?_⟩
    simp at hx
    omega
  by_cases h3 : r < 65536
  · rw [enc3 (by omega) h3]
    refine ⟨by simp; omega, fun x hx => ?_⟩
    simp at hx
    omega
  · rw [enc4 (by omega)]
    refine ⟨by simp; omega, fun x hx => ?_⟩
    simp at hx
    omega
/-- A rune that stands for itself. -/
theorem step_self (v : Bool) (r : Int) (T : List Int) (hc : Chr r) (h1 : r ≠ 38) (h2 : r ≠ 13) (h3 : v = true → r ≠ 9 ∧ r ≠ 10) : stepF v (encB r ++ T) = (0, encB r, (encB r).length) := by
  have hb := chr_nbad hc
  have hd : (encB r ++ T).getD 0 0 = (encB r).getD 0 0 := getD_app _ _ (encB_ne r)
  have D := dec_enc r T hb
  have g38 : (encB r).getD 0 0 ≠ 38 := by
    by_cases h : r < 128
    · rw [enc1 h]; simpa using h1
    · have := (enc_head r hb (by omega)).1; omega
  have g13 : (encB r).getD 0 0 ≠ 13 := by
    by_cases h : r < 128
    · rw [enc1 h]; simpa using h2
    · have := (enc_head r hb (by omega)).1; omega
  unfold stepF
  rw [hd, if_neg g38, if_neg g13]
  by_cases h4 : (encB r).getD 0 0 = 9 ∨ (encB r).getD 0 0 = 10
  · rw [if_pos h4]
    have hr : r < 128 := by
      by_cases h : r < 128
      · exact h
      · have := (enc_head r hb (by omega)).1; omega
    rw [enc1 hr] at h4 ⊢
    simp only [List.getD_cons_zero] at h4 ⊢
    have hv : v = false := by
      cases v with
      | false => rfl
      | true => have := h3 rfl; omega
    subst hv
    rfl
  · rw [if_neg h4, D]
    simp [hc]
/-- Runes, each of them spelled so that it is read: all is read. -/
theorem read_runes (v : Bool) (f : Int → List Int) : ∀ (l : List Int), (∀ r ∈ l, f r ≠ [] ∧ NN (f r) ∧ ∀ T, stepF v (f r ++ T) = (0, encB r, (f r).length)) →
    NN (l.flatMap f) ∧ readF v (l.flatMap f) = (l.flatMap encB, (l.flatMap f).length, 0)
  | [], _ => ⟨fun x hx => by simp at hx, rfl⟩
  | r :: l, h => by
    obtain ⟨h1, h2, h3⟩ := h r (by simp)
    obtain ⟨i1, i2⟩ := read_runes v f l fun x hx => h x (by simp [hx])
    have hnn : NN (f r ++ l.flatMap f) := fun x hx => by
      rcases List.mem_append.1 hx with hx | hx
      · exact h2 x hx
      · exact i1 x hx
    have hne : f r ++ l.flatMap f ≠ [] := by
      intro e
      exact h1 (List.append_eq_nil_iff.1 e).1
    rw [List.flatMap_cons]
    refine ⟨hnn, ?_⟩
    have hs := h3 (l.flatMap f)
    rw [readF_ok v _ hne hnn (by rw [hs]), hs]
    simp only [List.drop_left]
    rw [i2]
    simp

theorem rt_runes {l : List Int} (hn : NN l) (h : Rt l) : l = (decF l).1.flatMap encB ∧ ∀ r ∈ (decF l).1, Chr r := by
  obtain ⟨hg, hp, _, h4, _⟩ := decF_back l.length l (Nat.le_refl _) hn
  rw [h4 h.1, List.take_length] at hp
  refine ⟨?_, h.2⟩
  conv => lhs; rw [← hp]
  have : ∀ (m : List Int), Good m → m.flatMap putI = m.flatMap encB := by
    intro m
    induction m with
    | nil => intro _; rfl
    | cons x m ih =>
      intro hm
      rw [List.flatMap_cons, List.flatMap_cons, putI_ok (hm x (by simp)), ih fun y hy => hm y (by simp [hy])]
  exact this _ hg
/-- P4.2: without & and d a text is read as it is. -/
theorem self_F (v : Bool) (l : List Int) (hn : NN l) (h : Rt l) (h1 : 38 ∉ l) (h2 : 13 ∉ l) (h3 : v = true → 9 ∉ l ∧ 10 ∉ l) : readF v l = (l, l.length, 0) := by
  obtain ⟨e, hc⟩ := rt_runes hn h
  have M : ∀ r ∈ (decF l).1, r < 128 → r ∈ l := fun r hr hlt => by
    rw [e]
    exact List.mem_flatMap.2 ⟨r, hr, by rw [enc1 hlt]; simp⟩
  have R := (read_runes v encB (decF l).1 fun r hr => ⟨encB_ne r, (encB_nn r (chr_nbad (hc r hr))).1, fun T => step_self v r T (hc r hr)
    (fun h => h1 (h ▸ M r hr (by omega))) (fun h => h2 (h ▸ M r hr (by omega)))
    (fun hv => ⟨fun h => (h3 hv).1 (h ▸ M r hr (by omega)), fun h => (h3 hv).2 (h ▸ M r hr (by omega))⟩)⟩).2
  rw [← e] at R
  exact R

end Go.Proofs.YtnomcldpbkinmaaGreatDoor

/- Plain mathematics: where a text stands first in another one; what is wrong with a token's bytes; the end of a start tag. -/
set_option linter.unusedSimpArgs false
set_option linter.unusedVariables false
namespace Go.Proofs.YtnomcldpbkinmaaGreatDoor

/-- Where m stands first in a list. -/
def fnd (m : List Int) : List Int → Option Nat
  | [] => if m = [] then some 0 else none
  | c :: l => if m.isPrefixOf (c :: l) = true then some 0 else (fnd m l).map (· + 1)

def Occ (m l : List Int) (j : Nat) : Prop := m <+: l.drop j
theorem occ_room {m l : List Int} {j : Nat} (h : Occ m l j) (hj : j ≤ l.length) : j + m.length ≤ l.length := by
  have := h.length_le
  rw [List.length_drop] at this
  omega
theorem fnd_spec (m : List Int) : ∀ (l : List Int), (fnd m l = none ∧ ∀ j, j ≤ l.length → ¬ Occ m l j) ∨ ∃ n, fnd m l = some n ∧ n + m.length ≤ l.length ∧ Occ m l n ∧ ∀ j, j < n → ¬ Occ m l j
  | [] => by
    by_cases h : m = []
    · subst h
      exact .inr ⟨0, rfl, by simp, by simp [Occ], fun j hj => by omega⟩
    · refine .inl ⟨by simp [fnd, h], fun j hj ho => ?_⟩
      have := occ_room ho hj
      cases m with
      | nil => exact h rfl
      | cons a b => simp at this
  | c :: l => by
    by_cases h : m.isPrefixOf (c :: l) = true
    · have hp := List.isPrefixOf_iff_prefix.1 h
      refine .inr ⟨0, by simp [fnd, h], by simpa using hp.length_le, by simpa [Occ] using hp, fun j hj => by omega⟩
    · have h0 : ¬ Occ m (c :: l) 0 := fun ho => h (List.isPrefixOf_iff_prefix.2 (by simpa [Occ] using ho))
      rcases fnd_spec m l with ⟨h1, h2⟩ | ⟨n, h1, h2, h3, h4⟩
      · refine .inl ⟨by simp [fnd, h, h1], fun j hj => ?_⟩
        cases j with
        | zero => exact h0
        | succ j => exact fun ho => h2 j (by simpa using hj) (by simpa [Occ] using ho)
      · refine .inr ⟨n + 1, by simp [fnd, h, h1], by simp; omega, by simpa [Occ] using h3, fun j hj => ?_⟩
        cases j with
        | zero => exact h0
        | succ j => exact fun ho => h4 j (by omega) (by simpa [Occ] using ho)
theorem fnd_some {m l : List Int} {n : Nat} (h : fnd m l = some n) : n + m.length ≤ l.length ∧ Occ m l n ∧ ∀ j, j < n → ¬ Occ m l j := by
  rcases fnd_spec m l with ⟨h1, h2⟩ | ⟨k, h1, h2, h3, h4⟩
  · rw [h1] at h; cases h
  · rw [h1] at h; cases h; exact ⟨h2, h3, h4⟩
theorem fnd_none {m l : List Int} (h : fnd m l = none) : ∀ j, j ≤ l.length → ¬ Occ m l j := by
  rcases fnd_spec m l with ⟨h1, h2⟩ | ⟨k, h1, h2, h3, h4⟩
  · exact h2
  · rw [h1] at h; cases h
theorem fnd_is {m l : List Int} {n : Nat} (hn : n ≤ l.length) (h : Occ m l n) (h2 : ∀ j, j < n → ¬ Occ m l j) : fnd m l = some n := by
  rcases fnd_spec m l with ⟨h1, h3⟩ | ⟨k, h1, h3, h4, h5⟩
  · exact absurd h (h3 n hn)
  · rw [h1]
    rcases Nat.lt_trichotomy k n with g | g | g
    · exact absurd h4 (h2 k g)
    · rw [g]
    · exact absurd h (h5 n g)
theorem fnd_not {m l : List Int} (h2 : ∀ j, j ≤ l.length → ¬ Occ m l j) : fnd m l = none := by
  rcases fnd_spec m l with ⟨h1, h3⟩ | ⟨k, h1, h3, h4, h5⟩
  · exact h1
  · exact absurd h4 (h2 k (by omega))
theorem occ_app {m l : List Int} {j : Nat} (t : List Int) (hj : j ≤ l.length) (h : Occ m l j) : Occ m (l ++ t) j := by
  unfold Occ at *
  rw [List.drop_append_of_le_length hj]
  exact h.trans (List.prefix_append _ _)
theorem occ_less {m l t : List Int} {j : Nat} (hj : j + m.length ≤ l.length) (h : Occ m (l ++ t) j) : Occ m l j := by
  unfold Occ at *
  rw [List.drop_append_of_le_length (by omega)] at h
  have : (l.drop j).length = l.length - j := List.length_drop ..
  exact List.prefix_of_prefix_length_le h (List.prefix_append _ _) (by omega)
/-- What is found is found, whatever follows. -/
theorem fnd_app {m l : List Int} {n : Nat} (t : List Int) (h : fnd m l = some n) : fnd m (l ++ t) = some n := by
  obtain ⟨h1, h2, h3⟩ := fnd_some h
  refine fnd_is (by simp; omega) (occ_app t (by omega) h2) fun j hj ho => h3 j hj (occ_less (by omega) ho)
theorem occ_one (c : Int) (l : List Int) (j : Nat) (hj : j < l.length) : Occ [c] l j ↔ l.getD j 0 = c := by
  unfold Occ
  rw [List.drop_eq_getElem_cons hj, List.getD_eq_getElem?_getD, List.getElem?_eq_getElem hj, Option.getD_some, List.cons_prefix_cons]
  simp only [List.nil_prefix, and_true]
  exact eq_comm
theorem fnd_mem (c : Int) (l : List Int) : (fnd [c] l).isSome = true ↔ c ∈ l := by
  rcases fnd_spec [c] l with ⟨h1, h2⟩ | ⟨k, h1, h3, h4, h5⟩
  · rw [h1]
    simp only [Option.isSome_none, Bool.false_eq_true, false_iff]
    intro hm
    obtain ⟨j, hj, he⟩ := List.getElem_of_mem hm
    exact h2 j (by omega) ((occ_one c l j hj).2 (by simp [List.getElem?_eq_getElem hj, he]))
  · rw [h1]
    simp only [Option.isSome_some, true_iff]
    simp only [List.length_singleton] at h3
    have := (occ_one c l k (by omega)).1 h4
    rw [← this, List.getD_eq_getElem?_getD, List.getElem?_eq_getElem (by omega)]
    exact List.getElem_mem _
/-- As a number: below 0 nowhere. -/
def fndI (m l : List Int) : Int := match fnd m l with | some n => (n : Int) | none => -1
theorem fndI_some {m l : List Int} {n : Nat} (h : fnd m l = some n) : fndI m l = n := by unfold fndI; rw [h]
theorem fndI_none {m l : List Int} (h : fnd m l = none) : fndI m l = -1 := by unfold fndI; rw [h]

/-- What is wrong with a token's bytes. -/
def wrongF (l : List Int) : Int := if (decF l).2.2 ≠ 0 then 2 else if ∀ r ∈ (decF l).1, Chr r then 0 else 3
theorem wrongF_nil : wrongF [] = 0 := by simp [wrongF, decF_nil]
theorem dec1_asc (c : Int) (l : List Int) (hc : c < 128) : dec1 (c :: l) = (c, 1, 0) := by
  unfold dec1 canon
  simp [hc]
theorem decF_asc (c : Int) (l : List Int) (h0 : 0 ≤ c) (hc : c < 128) (hl : NN l) : decF (c :: l) = (c :: (decF l).1, 1 + (decF l).2.1, (decF l).2.2) := by
  have h := decF_ok (c :: l) (by simp) (fun x hx => (List.mem_cons.1 hx).elim (fun e => e ▸ h0) (hl x)) (by rw [dec1_asc c l hc])
  rw [dec1_asc c l hc] at h
  simpa using h
/-- A rune below 80 that may stand in a text, ahead of a token's bytes, says nothing. -/
theorem wrongF_asc (c : Int) (l : List Int) (h0 : Chr c) (hc : c < 128) (hl : NN l) : wrongF (c :: l) = wrongF l := by
  have h1 : 0 ≤ c := by unfold Chr Btw at h0; omega
  unfold wrongF
  rw [decF_asc c l h1 hc hl]
  simp only [List.mem_cons, forall_eq_or_imp, h0, true_and]
theorem wrongF_ascs : ∀ (b l : List Int), (∀ c ∈ b, Chr c ∧ c < 128) → NN l → wrongF (b ++ l) = wrongF l
  | [], l, _, _ => rfl
  | c :: b, l, h, hl => by
    have h1 := h c (by simp)
    have h2 : ∀ x ∈ b, Chr x ∧ x < 128 := fun x hx => h x (List.mem_cons_of_mem _ hx)
    rw [List.cons_append, wrongF_asc c _ h1.1 h1.2, wrongF_ascs b l h2 hl]
    intro x hx
    rcases List.mem_append.1 hx with hx | hx
    · have := (h2 x hx).1; unfold Chr Btw at this; omega
    · exact hl x hx

/-- The end of a start tag: where the next > stands that isn't between two like quotes; q: the quote that is open. -/
def unq : Int → List Int → Option Nat
  | _, [] => none
  | q, c :: l => if q ≠ 0 then (unq (if c = q then 0 else q) l).map (· + 1) else if c = 34 ∨ c = 39 then (unq c l).map (· + 1) else if c = 62 then some 0 else (unq 0 l).map (· + 1)
theorem unq_app : ∀ (l : List Int) (q : Int) (n : Nat) (t : List Int), unq q l = some n → unq q (l ++ t) = some n ∧ n < l.length
  | [], q, n, t, h => by simp [unq] at h
  | c :: l, q, n, t, h => by
    have key : ∀ q', (unq q' l).map (· + 1) = some n → (unq q' (l ++ t)).map (· + 1) = some n ∧ n < (c :: l).length := fun q' hq => by
      obtain ⟨m, hm, rfl⟩ := Option.map_eq_some_iff.1 hq
      obtain ⟨h1, h2⟩ := unq_app l q' m t hm
      exact ⟨by rw [h1]; rfl, by simp; omega⟩
    rw [List.cons_append]
    unfold unq at h ⊢
    split at h
    · rename_i hq
      rw [if_pos hq]
      exact key _ h
    · rename_i hq
      rw [if_neg hq]
      split at h
      · rename_i hc
        rw [if_pos hc]
        exact key _ h
      · rename_i hc
        rw [if_neg hc]
        split at h
        · rename_i h6
          rw [if_pos h6]
          cases h
          exact ⟨rfl, by simp⟩
        · rename_i h6
          rw [if_neg h6]
          exact key _ h

/-- Line ends made one. -/
def endsF : List Int → List Int
  | [] => []
  | c :: l => (if c = 13 then (if l.head? = some 10 then [] else [10]) else [c]) ++ endsF l

def blk? (c : Int) : Bool := decide (Blank c)
def trimR (l : List Int) : List Int := (l.reverse.dropWhile blk?).reverse
def small1 (c : Int) : Int := if 65 ≤ c ∧ c ≤ 90 then c + 32 else c
def smallF (l : List Int) : List Int := l.map small1
end Go.Proofs.YtnomcldpbkinmaaGreatDoor

/- Walks: what char's classes return (between, Start, Part), whatever the world. -/
set_option linter.unusedSimpArgs false
set_option linter.unusedVariables false
namespace Go.Proofs.YtnomcldpbkinmaaGreatDoor.Nz
open Go.RowKit

theorem ret_bool {a b : Bool} (h : a = b) : Ending.returned (.bool a) = .returned (.bool b) := by rw [h]
theorem bt {p : Prop} [Decidable p] (h : p) : true = decide p := (decide_eq_true h).symm
theorem bf {p : Prop} [Decidable p] (h : ¬ p) : false = decide p := (decide_eq_false h).symm

set_option maxHeartbeats 400000 in
theorem between_any (r a b : Int) (w : World) : Calls Tryz.prog 142 #[.int .i32 r, .int .i32 a, .int .i32 b] w fun e w' => e = .returned (.bool (decide (Btw r a b))) ∧ w = w' := by
  go_enter Tryz.func142, Tryz.ntmps142
  go_wp2
  all_goals
    go_ret
    refine ⟨ret_bool ?_, rfl⟩
    first
      | refine bt ?_
      | refine bf ?_
      | (refine Bool.eq_iff_iff.2 ?_; simp only [decide_eq_true_eq, Bool.or_eq_true, beq_iff_eq])
    simp only [Part, Start, Chr, Blank, Btw] at *
    first
      | omega
      | (constructor <;> intro hq <;> omega)

set_option maxHeartbeats 4000000 in
set_option maxRecDepth 100000 in
theorem start_any (r : Int) (w : World) : Calls Tryz.prog 155 #[.int .i32 r] w fun e w' => e = .returned (.bool (decide (Start r))) ∧ w = w' := by
  go_enter Tryz.func155, Tryz.ntmps155
  go_wp2_with (first | (go_at_call 142; refine (between_any _ _ _ _).mono ?_; rintro e w' ⟨rfl, rfl⟩))
  all_goals
    go_ret
    refine ⟨ret_bool ?_, rfl⟩
    first
      | refine bt ?_
      | refine bf ?_
      | (refine Bool.eq_iff_iff.2 ?_; simp only [decide_eq_true_eq, Bool.or_eq_true, beq_iff_eq])
    simp only [Part, Start, Chr, Blank, Btw] at *
    first
      | omega
      | (constructor <;> intro hq <;> omega)

set_option maxHeartbeats 4000000 in
set_option maxRecDepth 100000 in
theorem part_any (r : Int) (w : World) : Calls Tryz.prog 145 #[.int .i32 r] w fun e w' => e = .returned (.bool (decide (Part r))) ∧ w = w' := by
  go_enter Tryz.func145, Tryz.ntmps145
  go_wp2_with (first | (go_at_call 155; refine (start_any _ _).mono ?_; rintro e w' ⟨rfl, rfl⟩) | (go_at_call 142; refine (between_any _ _ _ _).mono ?_; rintro e w' ⟨rfl, rfl⟩))
  all_goals
    go_ret
    refine ⟨ret_bool ?_, rfl⟩
    first
      | refine bt ?_
      | refine bf ?_
      | (refine Bool.eq_iff_iff.2 ?_; simp only [decide_eq_true_eq, Bool.or_eq_true, beq_iff_eq])
    simp only [Part, Start, Chr, Blank, Btw] at *
    first
      | omega
      | (constructor <;> intro hq <;> omega)

end Go.Proofs.YtnomcldpbkinmaaGreatDoor.Nz

/- []rune(s) in memory: a slice that reads as the text's runes. -/
set_option linter.unusedSimpArgs false
set_option linter.unusedVariables false
namespace Go.Proofs.YtnomcldpbkinmaaGreatDoor.Nz
open Go.RowKit

/-- A text's runes from a place on. -/
def rgo (s : ByteArray) : Nat → Nat → List Int
  | 0, _ => []
  | f + 1, i => if i < s.size then ((Utf8.decode s i).1 : Int) :: rgo s f (i + (Utf8.decode s i).2) else []
def runes (s : ByteArray) : List Int := rgo s s.size 0

theorem width_pos (s : ByteArray) (pos : Nat) (h : pos < s.size) : 1 ≤ (Utf8.decode s pos).2 := by
  by_cases ha : (s[pos]'h).toNat < 128
  · rw [decode_ascii s pos h ha]
    exact Nat.le_refl _
  · exact (decode_high s pos h (by omega)).2
theorem rgo_end (s : ByteArray) (b pos : Nat) (h : ¬ pos < s.size) : rgo s b pos = [] := by
  cases b with
  | zero => rfl
  | succ b => simp [rgo, h]
theorem Blk0 (w : World) (t : TypeId) (cs : Array Value) (i : Nat) : (w.alloc (.cells cs t)).cell? ⟨w.heap.size, i, none⟩ = cs[i]? := World.cell?_alloc_mark w cs t (0, 0) i
theorem runesFrom_eq (s : ByteArray) : ∀ (b i : Nat) (acc : Array Value), Conv.runesFrom s b i acc = acc ++ ((rgo s b i).map (Value.int .i32)).toArray
  | 0, i, acc => by simp [Conv.runesFrom, rgo]
  | b + 1, i, acc => by
    unfold Conv.runesFrom rgo
    by_cases h : i < s.size
    · simp only [h, if_true]
      rw [runesFrom_eq s b]
      simp
    · simp [h]
theorem runesFrom_runes (s : ByteArray) : Conv.runesFrom s s.size 0 #[] = ((runes s).map (Value.int .i32)).toArray := by
  rw [runesFrom_eq]
  simp [runes]
theorem rgo_len (s : ByteArray) : ∀ (b i : Nat), (rgo s b i).length ≤ b
  | 0, i => by simp [rgo]
  | b + 1, i => by
    unfold rgo
    split
    · have := rgo_len s b (i + (Utf8.decode s i).2)
      simp only [List.length_cons]
      omega
    · simp
theorem runes_len (s : ByteArray) : (runes s).length ≤ s.size := rgo_len s s.size 0

/-- What '[]rune(s)' leaves. -/
def ConvPost (w : World) (s : ByteArray) (c : Nat) (w1 : World) : Prop :=
  (convert 9 101 (.string s)).run Tryz.prog w = .ok (.slice (some ⟨w.heap.size, 0, none⟩) (runes s).length c) w1 ∧ Below w.heap.size w w1 ∧ w1.heap.size = w.heap.size + 1 ∧
    ∀ j, j < (runes s).length → w1.cell? ⟨w.heap.size, j, none⟩ = some (.int .i32 ((runes s).getD j 0))
theorem conv_runes (w : World) (s : ByteArray) (hs : s.size ≤ 10000) : ∃ c w1, ConvPost w s c w1 := by
  have hl := runes_len s
  have hrun := run_runes_of_string (P := Tryz.prog) w 9 101 21 s Tryz.underlying9 Tryz.underlying101 Tryz.underlying21 (by rw [runesFrom_runes]; simp; omega)
  rw [runesFrom_runes] at hrun
  have hz : ((runes s).map (Value.int .i32)).toArray.size = (runes s).length := by simp
  rw [hz] at hrun
  refine ⟨_, _, hrun, ((Below.refl _ w).drew).alloc (Nat.le_refl _) _, by simp, fun j hj => ?_⟩
  have hb := Blk0 w.drew 21 (((runes s).map (Value.int .i32)).toArray ++ Array.replicate (grownCap w (runes s).length 0 21 - (runes s).length) (.int .i32 0)) j
  refine hb.trans ?_
  rw [Array.getElem?_append_left (by simpa using hj)]
  simp [List.getElem?_eq_getElem hj]
end Go.Proofs.YtnomcldpbkinmaaGreatDoor.Nz

/- Plain mathematics: a text's runes, over its bytes as a list: what a blank between, and what is encoded, is decoded to. -/
set_option linter.unusedSimpArgs false
set_option linter.unusedVariables false
namespace Go.Proofs.YtnomcldpbkinmaaGreatDoor.Nz
open Go.RowKit

def bl (s : ByteArray) : List Nat := s.data.toList.map UInt8.toNat
def dN (L : List Nat) : Nat × Nat := Lib.decodeN L.length (L.getD 0 0) (L.getD 1 0) (L.getD 2 0) (L.getD 3 0)
def rl : Nat → List Nat → List Int
  | 0, _ => []
  | f + 1, L => if L = [] then [] else ((dN L).1 : Int) :: rl f (L.drop (dN L).2)
def Rn (L : List Nat) : List Int := rl L.length L

theorem bl_len (s : ByteArray) : (bl s).length = s.size := by simp [bl]
theorem get_bl (s : ByteArray) (i k : Nat) : (s.get! (i + k)).toNat = ((bl s).drop i).getD k 0 := by
  rw [List.getD_eq_getElem?_getD, List.getElem?_drop]
  unfold bl
  rw [List.getElem?_map]
  show (s.data[i + k]!).toNat = _
  by_cases h : i + k < s.data.size
  · rw [getElem!_pos s.data (i + k) h]
    rw [Array.getElem?_toList, Array.getElem?_eq_getElem h]
    rfl
  · rw [getElem!_neg s.data (i + k) h, Array.getElem?_toList, Array.getElem?_eq_none (by omega)]
    rfl
theorem dec_dN (s : ByteArray) (i : Nat) : Utf8.decode s i = dN ((bl s).drop i) := by
  rw [Lib.decode_at]
  unfold dN
  rw [List.length_drop, bl_len, ← get_bl s i 0, ← get_bl s i 1, ← get_bl s i 2, ← get_bl s i 3]
  rfl

theorem dN_width (L : List Nat) (h : L ≠ []) : 1 ≤ (dN L).2 ∧ (dN L).2 ≤ L.length := by
  have hl : 1 ≤ L.length := List.length_pos_iff.2 h
  unfold dN Lib.decodeN
  repeat' split
  all_goals refine ⟨?_, ?_⟩ <;> simp <;> omega
theorem rl_nil (f : Nat) : rl f [] = [] := by cases f <;> simp [rl]
theorem rl_fuel : ∀ (f g : Nat) (L : List Nat), L.length ≤ f → L.length ≤ g → rl f L = rl g L
  | 0, g, L, h1, h2 => by
    have : L = [] := List.eq_nil_of_length_eq_zero (by omega)
    subst this
    rw [rl_nil, rl_nil]
  | f + 1, 0, L, h1, h2 => by
    have : L = [] := List.eq_nil_of_length_eq_zero (by omega)
    subst this
    rw [rl_nil, rl_nil]
  | f + 1, g + 1, L, h1, h2 => by
    by_cases h : L = []
    · subst h; rw [rl_nil, rl_nil]
    · have hw := dN_width L h
      simp only [rl, h, if_false]
      rw [rl_fuel f g (L.drop (dN L).2) (by simp; omega) (by simp; omega)]
theorem Rn_nil : Rn [] = [] := rfl
theorem Rn_cons (L : List Nat) (h : L ≠ []) : Rn L = ((dN L).1 : Int) :: Rn (L.drop (dN L).2) := by
  have hl : 1 ≤ L.length := List.length_pos_iff.2 h
  have hw := dN_width L h
  unfold Rn
  obtain ⟨f, hf⟩ : ∃ f, L.length = f + 1 := ⟨L.length - 1, by omega⟩
  rw [hf]
  simp only [rl, h, if_false]
  rw [rl_fuel f (L.drop (dN L).2).length (L.drop (dN L).2) (by simp; omega) (Nat.le_refl _)]
theorem rgo_rl (s : ByteArray) : ∀ (b i : Nat), rgo s b i = rl b ((bl s).drop i)
  | 0, i => rfl
  | b + 1, i => by
    unfold rgo rl
    by_cases h : i < s.size
    · have hne : (bl s).drop i ≠ [] := by
        intro h2
        have := congrArg List.length h2
        simp [bl_len] at this
        omega
      rw [if_pos h, if_neg hne, rgo_rl s b, dec_dN, List.drop_drop]
    · have he : (bl s).drop i = [] := by
        rw [List.drop_eq_nil_iff, bl_len]
        omega
      rw [if_neg h, if_pos he]
theorem runes_Rn (s : ByteArray) : runes s = Rn (bl s) := by
  unfold runes Rn
  rw [rgo_rl, List.drop_zero, bl_len]

end Go.Proofs.YtnomcldpbkinmaaGreatDoor.Nz
