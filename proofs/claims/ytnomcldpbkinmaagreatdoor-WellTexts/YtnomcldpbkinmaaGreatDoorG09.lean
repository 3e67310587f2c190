/-
  Merged by program out of the texts NzSplit, TMath, UMath, Gl of one seat.
-/
import Derived.Test.YtnomcldpbkinmaaGreatDoorG08
import Derived.Test.YtnomcldpbkinmaaGreatDoorG07
import Derived.Test.YtnomcldpbkinmaaGreatDoorG01
import Derived.Deep.RegionWith

/- The walks of name.Split and of name.Join. -/
set_option linter.unusedSimpArgs false
set_option linter.unusedVariables false
namespace Go.Proofs.YtnomcldpbkinmaaGreatDoor.Nz
open Go.RowKit

set_option maxHeartbeats 1000000 in
set_option maxRecDepth 100000 in
theorem alone_any (s : ByteArray) (w : World) :
    Calls Tryz.prog 124 #[.string s] w fun e w' => e = .returned (.tuple #[.string em, .string (if pl (bl s) = true then s else em), .bool (pl (bl s))]) ∧ Below w.heap.size w w' := by
  have CL := Lib.hid (plain_any s)
  cases hp : pl (bl s) <;> rw [hp] at CL <;> clear hp
  · go_enter Tryz.func124, Tryz.ntmps124
    go_wp2_with (go_at_call 125; refine (CL.out _).mono ?_; rintro e w' ⟨rfl, hb⟩)
    go_ret3
    exact ⟨rfl, hb⟩
  · go_enter Tryz.func124, Tryz.ntmps124
    go_wp2_with (go_at_call 125; refine (CL.out _).mono ?_; rintro e w' ⟨rfl, hb⟩)
    go_ret3
    exact ⟨rfl, hb⟩

set_option maxHeartbeats 400000 in
set_option maxRecDepth 100000 in
theorem split_miss (s res : ByteArray) (ok : Bool) (CS : Hid (∀ w, Calls Tryz.prog 123 #[.string s, .string ⟨#[58]⟩] w fun e w' => e = .returned (.tuple #[.string s, .string ⟨#[]⟩, .bool false]) ∧ Below w.heap.size w w'))
    (CA : Hid (∀ w, Calls Tryz.prog 124 #[.string s] w fun e w' => e = .returned (.tuple #[.string em, .string res, .bool ok]) ∧ Below w.heap.size w w')) (w : World) :
    Calls Tryz.prog 99 #[.string s] w fun e w' => e = .returned (.tuple #[.string em, .string res, .bool ok]) ∧ Below w.heap.size w w' := by
  go_enter Tryz.func99, Tryz.ntmps99
  go_wp2_with fail
  refine (CS.out _).mono ?_
  rintro e w1 ⟨rfl, hb1⟩
  go_wp2_with fail
  refine (CA.out _).mono ?_
  rintro e w2 ⟨rfl, hb2⟩
  go_wp2_with fail
  go_ret3
  exact ⟨rfl, hb1.trans (hb2.mono hb1.size)⟩

set_option maxHeartbeats 400000 in
set_option maxRecDepth 100000 in
theorem split_no1 (s p l : ByteArray) (CS : Hid (∀ w, Calls Tryz.prog 123 #[.string s, .string ⟨#[58]⟩] w fun e w' => e = .returned (.tuple #[.string p, .string l, .bool true]) ∧ Below w.heap.size w w'))
    (CP : Hid (∀ w, Calls Tryz.prog 125 #[.string p] w fun e w' => e = .returned (.bool false) ∧ Below w.heap.size w w')) (w : World) :
    Calls Tryz.prog 99 #[.string s] w fun e w' => e = .returned (.tuple #[.string em, .string em, .bool false]) ∧ Below w.heap.size w w' := by
  go_enter Tryz.func99, Tryz.ntmps99
  go_wp2_with fail
  refine (CS.out _).mono ?_
  rintro e w1 ⟨rfl, hb1⟩
  go_wp2_with fail
  refine (CP.out _).mono ?_
  rintro e w2 ⟨rfl, hb2⟩
  go_wp2_with fail
  go_ret3
  exact ⟨rfl, hb1.trans (hb2.mono hb1.size)⟩

set_option maxHeartbeats 400000 in
set_option maxRecDepth 100000 in
theorem split_two (s p l : ByteArray) (ok : Bool) (CS : Hid (∀ w, Calls Tryz.prog 123 #[.string s, .string ⟨#[58]⟩] w fun e w' => e = .returned (.tuple #[.string p, .string l, .bool true]) ∧ Below w.heap.size w w'))
    (CP : Hid (∀ w, Calls Tryz.prog 125 #[.string p] w fun e w' => e = .returned (.bool true) ∧ Below w.heap.size w w'))
    (CL : Hid (∀ w, Calls Tryz.prog 125 #[.string l] w fun e w' => e = .returned (.bool ok) ∧ Below w.heap.size w w')) (w : World) :
    Calls Tryz.prog 99 #[.string s] w fun e w' => e = .returned (.tuple #[.string (if ok = true then p else em), .string (if ok = true then l else em), .bool ok]) ∧ Below w.heap.size w w' := by
  cases ok
  all_goals
    go_enter Tryz.func99, Tryz.ntmps99
    go_wp2_with fail
    refine (CS.out _).mono ?_
    rintro e w1 ⟨rfl, hb1⟩
    go_wp2_with fail
    refine (CP.out _).mono ?_
    rintro e w2 ⟨rfl, hb2⟩
    go_wp2_with fail
    refine (CL.out _).mono ?_
    rintro e w3 ⟨rfl, hb3⟩
    go_wp2_with fail
    go_ret3
    exact ⟨rfl, (hb1.trans (hb2.mono hb1.size)).trans (hb3.mono (by have := hb1.size; have := hb2.size; omega))⟩

theorem split_any (s : ByteArray) (hs : s.size ≤ 1000000) (w : World) :
    Calls Tryz.prog 99 #[.string s] w fun e w' => e = .returned (.tuple #[.string (splitA s).1, .string (splitA s).2.1, .bool (splitA s).2.2]) ∧ Below w.heap.size w w' := by
  rcases ci_cases s with ⟨h1, h2⟩ | ⟨i, h1, h2, h3, h4⟩
  · have e1 : splitA s = (em, (if pl (bl s) = true then s else em), pl (bl s)) := by
      unfold splitA
      rw [if_pos h1]
      cases hp : pl (bl s) <;> simp
    rw [e1]
    exact split_miss s _ _ (Lib.hid (scut_miss s h1)) (Lib.hid (alone_any s)) w
  · have e1 : splitA s = if pl (bl (s.extract 0 i)) = true ∧ pl (bl (s.extract (i + 1) s.size)) = true then (s.extract 0 i, s.extract (i + 1) s.size, true) else (em, em, false) := by
      unfold splitA
      rw [if_neg (by rw [h1]; omega), h1]
      rfl
    rw [e1]
    have CP := plain_any (s.extract 0 i)
    have CL := plain_any (s.extract (i + 1) s.size)
    cases hp : pl (bl (s.extract 0 i))
    · rw [hp] at CP
      rw [if_neg (by simp)]
      exact split_no1 s _ _ (Lib.hid (scut_hit s i h1 h2 hs)) (Lib.hid CP) w
    · rw [hp] at CP
      have := split_two s _ _ _ (Lib.hid (scut_hit s i h1 h2 hs)) (Lib.hid CP) (Lib.hid CL) w
      cases hl : pl (bl (s.extract (i + 1) s.size))
      · rw [hl] at this
        exact this
      · rw [hl] at this
        exact this

/-- A colon with a plain name on each side. -/
def Hit (s : ByteArray) (i : Nat) : Prop := i < s.size ∧ (bl s).getD i 0 = 58 ∧ pl ((bl s).take i) = true ∧ pl ((bl s).drop (i + 1)) = true
theorem plain_split {s : ByteArray} (h : pl (bl s) = true) : splitA s = (em, s, true) := by
  rcases ci_cases s with ⟨h1, h2⟩ | ⟨i, h1, h2, h3, h4⟩
  · unfold splitA
    rw [if_pos h1, if_pos h]
  · rw [h3, pl_colon] at h
    exact absurd h (by simp)
theorem take_mem (L : List Nat) (i j : Nat) (h : i < j) (hj : j ≤ L.length) (he : L.getD i 0 = 58) : 58 ∈ L.take j := by
  rw [List.getD_eq_getElem?_getD, List.getElem?_eq_getElem (by omega)] at he
  have he' : L[i]'(by omega) = 58 := he
  rw [← he']
  exact List.mem_iff_getElem.2 ⟨i, by simp; omega, by simp⟩
theorem hit_split {s : ByteArray} {i : Nat} (h : Hit s i) : splitA s = (s.extract 0 i, s.extract (i + 1) s.size, true) := by
  obtain ⟨g1, g2, g3, g4⟩ := h
  rcases ci_cases s with ⟨h1, h2⟩ | ⟨j, h1, h2, h3, h4⟩
  · refine absurd (List.mem_of_mem_take (take_mem (bl s) i (i + 1) (by omega) (by rw [bl_len]; omega) g2)) h2
  · have hij : i = j := by
      rcases Nat.lt_trichotomy i j with h | h | h
      · exact absurd (take_mem (bl s) i j h (by rw [bl_len]; omega) g2) h4
      · exact h
      · have hj : (bl s).getD j 0 = 58 := by
          rw [h3, List.getD_eq_getElem?_getD, List.getElem?_append_right (by simp; omega)]
          simp [bl_len]
          rw [Nat.min_eq_left (by omega), Nat.sub_self]
          rfl
        rw [pl_mem _ (take_mem (bl s) j i h (by rw [bl_len]; omega) hj)] at g3
        exact absurd g3 (by simp)
    subst hij
    unfold splitA
    rw [if_neg (by rw [h1]; omega), h1, Int.toNat_natCast, bl_pre, bl_post, if_pos ⟨g3, g4⟩]
theorem nohit_split {s : ByteArray} (h : pl (bl s) = false) (hn : ∀ i, i < s.size → ¬ Hit s i) : splitA s = (em, em, false) := by
  rcases ci_cases s with ⟨h1, h2⟩ | ⟨j, h1, h2, h3, h4⟩
  · unfold splitA
    rw [if_pos h1, h]
    rfl
  · have hj : (bl s).getD j 0 = 58 := by
      rw [h3, List.getD_eq_getElem?_getD, List.getElem?_append_right (by simp; omega)]
      simp [bl_len]
      rw [Nat.min_eq_left (by omega), Nat.sub_self]
      rfl
    unfold splitA
    rw [if_neg (by rw [h1]; omega), h1, Int.toNat_natCast, bl_pre, bl_post, if_neg]
    rintro ⟨g3, g4⟩
    exact hn j h2 ⟨h2, hj, g3, g4⟩
end Go.Proofs.YtnomcldpbkinmaaGreatDoor.Nz

/- Plain mathematics: what a token is, by the bytes that stand at a place; that what follows changes nothing of it. -/
set_option linter.unusedSimpArgs false
set_option linter.unusedVariables false
namespace Go.Proofs.YtnomcldpbkinmaaGreatDoor

structure Tk where
  kind : Int
  text : List Int
  empty : Bool
  blank : Bool
def T0 : Tk := ⟨0, [], false, false⟩

def nats (l : List Int) : List Nat := l.map Int.toNat
/-- A plain name; a name. -/
def plB (l : List Int) : Bool := Nz.pl (nats l)
def nmB (l : List Int) : Bool := (Nz.splitA (strOfNums l)).2.2

/-- What stands behind blanks, a word, = and a right value between two like quotes. -/
def quo (q : Int) : Prop := q = 34 ∨ q = 39
instance (q : Int) : Decidable (quo q) := inferInstanceAs (Decidable (q = 34 ∨ q = 39))
def setVal (q : Int) (r : List Int) (ok : List Int → Bool) : Option (List Int) :=
  match fnd [q] r with
  | none => none
  | some n => if ok (r.take n) = true then some (r.drop (n + 1)) else none
def setF (l key : List Int) (ok : List Int → Bool) : Option (List Int) :=
  if (l.dropWhile blk?).length = l.length then none
  else if (key ++ [61]).isPrefixOf (l.dropWhile blk?) = true then
    match (l.dropWhile blk?).drop (key.length + 1) with
    | [] => none
    | q :: r => if quo q then setVal q r ok else none
  else none
def orF (x : Option (List Int)) (d : List Int) : List Int := match x with | some r => r | none => d
def wVersion : List Int := [118, 101, 114, 115, 105, 111, 110]
def wEncoding : List Int := [101, 110, 99, 111, 100, 105, 110, 103]
def wStandalone : List Int := [115, 116, 97, 110, 100, 97, 108, 111, 110, 101]
def okVersion (l : List Int) : Bool := decide (l = [49, 46, 48])
def okEncoding (l : List Int) : Bool := decide (smallF l = [117, 116, 102, 45, 56])
def okStandalone (l : List Int) : Bool := decide (l = [121, 101, 115] ∨ l = [110, 111])
def dec3 (l : List Int) : Bool := (orF (setF l wStandalone okStandalone) l).all blk?
def dec2 (l : List Int) : Bool := dec3 (orF (setF l wEncoding okEncoding) l)
def declF (l : List Int) : Bool := match setF l wVersion okVersion with | none => false | some r => dec2 r
def wXml : List Int := [120, 109, 108]
/-- Is it the declaration, whole? -/
def declW (l : List Int) : Bool := wXml.isPrefixOf l && declF (l.drop 3)

/-- What a kind's inside is read as. -/
def dataR (l : List Int) : Tk × Int := (⟨3, endsF l, false, false⟩, 0)
def commR (l : List Int) : Tk × Int := if (fnd [45, 45] l).isSome = true ∨ l.getLast? = some 45 then (T0, 6) else (⟨4, l, false, false⟩, 0)
def tgt (l : List Int) : List Int := l.takeWhile fun c => !blk? c
def instR (z : Bool) (l : List Int) : Tk × Int :=
  if plB (tgt l) = false then (T0, 4) else if smallF (tgt l) = wXml ∧ (z = false ∨ declW l = false) then (T0, 12) else (⟨5, l, false, false⟩, 0)
def endR (l : List Int) : Tk × Int := if nmB (trimR l) = false then (T0, 4) else (⟨2, trimR l, false, false⟩, 0)
def startR (l : List Int) : Tk × Int :=
  if (60 : Int) ∈ l then (T0, 6) else if l.getLast? = some 47 then (⟨1, l.dropLast, true, false⟩, 0) else (⟨1, l, false, false⟩, 0)

/-- A token of a kind of markup: b bytes begin it; what is wrong, what it is read as. -/
def fin (b n m : Nat) (rd : List Int → Tk × Int) (r : List Int) : Tk × Nat × Int :=
  if wrongF (r.take (n + m)) ≠ 0 then (T0, 0, wrongF (r.take (n + m))) else if (rd (r.take n)).2 ≠ 0 then (T0, 0, (rd (r.take n)).2) else ((rd (r.take n)).1, b + (n + m), 0)
def span (b : Nat) (stop : List Int) (rd : List Int → Tk × Int) (l : List Int) : Tk × Nat × Int :=
  match fnd stop (l.drop b) with
  | none => (T0, 0, 7)
  | some n => fin b n stop.length rd (l.drop b)
def startF (l : List Int) : Tk × Nat × Int :=
  match unq 0 (l.drop 1) with
  | none => (T0, 0, 7)
  | some n => fin 1 n 1 startR (l.drop 1)

def bCdata : List Int := [60, 33, 91, 67, 68, 65, 84, 65, 91]
def bComm : List Int := [60, 33, 45, 45]
def bDoc : List Int := [60, 33, 68, 79, 67, 84, 89, 80, 69]
def bBang : List Int := [60, 33]
def bInst : List Int := [60, 63]
def bEnd : List Int := [60, 47]
def eCdata : List Int := [93, 93, 62]
def eComm : List Int := [45, 45, 62]
def eInst : List Int := [63, 62]
def eEnd : List Int := [62]

def markF (z : Bool) (l : List Int) : Tk × Nat × Int :=
  if bCdata.isPrefixOf l = true then span 9 eCdata dataR l
  else if bComm.isPrefixOf l = true then span 4 eComm commR l
  else if bInst.isPrefixOf l = true then span 2 eInst (instR z) l
  else if bEnd.isPrefixOf l = true then span 2 eEnd endR l
  else if bBang.isPrefixOf l = true then
    (if bDoc.isPrefixOf l = true then (T0, 0, 12) else if l.isPrefixOf bCdata = true ∨ l.isPrefixOf bComm = true ∨ l.isPrefixOf bDoc = true then (T0, 0, 7) else (T0, 0, 6))
  else startF l

def charsF (l : List Int) (n : Nat) : Tk × Nat × Int :=
  if wrongF (l.take n) ≠ 0 then (T0, 0, wrongF (l.take n)) else if (fnd eCdata (l.take n)).isSome = true then (T0, 0, 6)
  else if (ansF false (l.take n)).2.2 ≠ 0 then (T0, 0, (ansF false (l.take n)).2.2) else (⟨3, (ansF false (l.take n)).1, false, (l.take n).all blk?⟩, n, 0)
def plainF (more : Bool) (l : List Int) : Tk × Nat × Int :=
  match fnd [60] l with
  | some n => charsF l n
  | none => if more = true then (T0, 0, 7) else charsF l l.length
/-- The token at the front of a list: it, how many bytes it has, the error's number. z: it stands at 0. -/
def frontF (z more : Bool) (l : List Int) : Tk × Nat × Int :=
  if l = [] then (if more = true then (T0, 0, 7) else (⟨6, [], false, false⟩, 0, 0)) else if l.getD 0 0 = 60 then markF z l else plainF more l

theorem take_app {α : Type} (l t : List α) (n : Nat) (h : n ≤ l.length) : (l ++ t).take n = l.take n := List.take_append_of_le_length h
theorem fin_app (b n m : Nat) (rd : List Int → Tk × Int) (r t : List Int) (h : n + m ≤ r.length) : fin b n m rd (r ++ t) = fin b n m rd r := by
  unfold fin
  rw [take_app r t (n + m) h, take_app r t n (by omega)]
theorem fin_ne (b n m : Nat) (rd : List Int → Tk × Int) (r : List Int) (h : (fin b n m rd r).2.2 = 0) : (fin b n m rd r).2.1 = b + (n + m) := by
  unfold fin at *
  split at h
  · rename_i h1; exact absurd h h1
  · rename_i h1
    rw [if_neg h1]
    split at h
    · rename_i h2; exact absurd h h2
    · rename_i h2; rw [if_neg h2]
theorem fin_z (b n m : Nat) (rd : List Int → Tk × Int) (r : List Int) (h : (fin b n m rd r).2.2 ≠ 0) : (fin b n m rd r).1 = T0 ∧ (fin b n m rd r).2.1 = 0 := by
  unfold fin at *
  split at h
  · rename_i h1; rw [if_pos h1]; exact ⟨rfl, rfl⟩
  · rename_i h1
    rw [if_neg h1]
    split at h
    · rename_i h2; rw [if_pos h2]; exact ⟨rfl, rfl⟩
    · rename_i h2; exact absurd rfl h

/-- An answer that is as it should be: without an error at least a byte, and no more than there are. -/
structure Fit (l : List Int) (x : Tk × Nat × Int) : Prop where
  zero : x.2.2 ≠ 0 → x.1 = T0 ∧ x.2.1 = 0
  size : x.2.2 = 0 → 1 ≤ x.2.1 ∧ x.2.1 ≤ l.length ∧ x.1.kind ≠ 6 ∧ 1 ≤ x.1.kind ∧ x.1.kind ≤ 6
theorem fit_err (l : List Int) (e : Int) (he : e ≠ 0) : Fit l (T0, 0, e) := ⟨fun _ => ⟨rfl, rfl⟩, fun h => absurd h he⟩
def Kd (rd : List Int → Tk × Int) : Prop := ∀ l, (rd l).2 = 0 → (rd l).1.kind ≠ 6 ∧ 1 ≤ (rd l).1.kind ∧ (rd l).1.kind ≤ 6
theorem fit_fin (b n m : Nat) (rd : List Int → Tk × Int) (r l : List Int) (hk : Kd rd) (hb : 1 ≤ b) (h : b + (n + m) ≤ l.length) : Fit l (fin b n m rd r) := by
  refine ⟨fin_z b n m rd r, fun h0 => ?_⟩
  have h1 := fin_ne b n m rd r h0
  refine ⟨by omega, by omega, ?_⟩
  unfold fin at h0 ⊢
  split at h0
  · rename_i h1; exact absurd h0 h1
  · rename_i h1
    rw [if_neg h1]
    split at h0
    · rename_i h2; exact absurd h0 h2
    · rename_i h2
      rw [if_neg h2]
      exact hk _ (by simpa using h2)
theorem fit_span (b : Nat) (stop : List Int) (rd : List Int → Tk × Int) (l : List Int) (hk : Kd rd) (hb : 1 ≤ b) (hl : b ≤ l.length) : Fit l (span b stop rd l) := by
  unfold span
  split
  · exact fit_err l 7 (by omega)
  · rename_i n hn
    have := (fnd_some hn).1
    rw [List.length_drop] at this
    exact fit_fin b n _ rd _ l hk hb (by omega)
theorem kd_data : Kd dataR := fun l h => by simp [dataR]
theorem kd_comm : Kd commR := fun l h => by
  unfold commR at *
  split at h
  · simp at h
  · rename_i h1; rw [if_neg h1]; simp
theorem kd_inst (z : Bool) : Kd (instR z) := fun l h => by
  unfold instR at *
  split at h
  · simp at h
  · rename_i h1
    rw [if_neg h1]
    split at h
    · simp at h
    · rename_i h2; rw [if_neg h2]; simp
theorem kd_end : Kd endR := fun l h => by
  unfold endR at *
  split at h
  · simp at h
  · rename_i h1; rw [if_neg h1]; simp
theorem kd_start : Kd startR := fun l h => by
  unfold startR at *
  split at h
  · simp at h
  · rename_i h1
    rw [if_neg h1]
    split <;> simp
theorem fit_start (l : List Int) : Fit l (startF l) := by
  unfold startF
  split
  · exact fit_err l 7 (by omega)
  · rename_i n hn
    have := (unq_app _ _ n [] hn).2
    rw [List.length_drop] at this
    exact fit_fin 1 n 1 startR _ l kd_start (by omega) (by omega)
theorem pre_len {p l : List Int} (h : p.isPrefixOf l = true) : p.length ≤ l.length := (List.isPrefixOf_iff_prefix.1 h).length_le
theorem fit_mark (z : Bool) (l : List Int) : Fit l (markF z l) := by
  unfold markF
  split
  · rename_i h; exact fit_span 9 eCdata dataR l kd_data (by omega) (pre_len h)
  · split
    · rename_i h; exact fit_span 4 eComm commR l kd_comm (by omega) (pre_len h)
    · split
      · rename_i h; exact fit_span 2 eInst _ l (kd_inst z) (by omega) (pre_len h)
      · split
        · rename_i h; exact fit_span 2 eEnd endR l kd_end (by omega) (pre_len h)
        · split
          · split
            · exact fit_err l 12 (by omega)
            · split
              · exact fit_err l 7 (by omega)
              · exact fit_err l 6 (by omega)
          · exact fit_start l
theorem fit_chars (l : List Int) (n : Nat) (h1 : 1 ≤ n) (h2 : n ≤ l.length) : Fit l (charsF l n) := by
  unfold charsF
  split
  · rename_i h; exact fit_err l _ h
  · split
    · exact fit_err l 6 (by omega)
    · split
      · rename_i h; exact fit_err l _ h
      · exact ⟨fun h => absurd rfl h, fun _ => ⟨h1, h2, by simp⟩⟩
theorem head_fnd {l : List Int} {n : Nat} (h : l.getD 0 0 ≠ 60) (hn : fnd [60] l = some n) : 1 ≤ n := by
  obtain ⟨h1, h2, h3⟩ := fnd_some hn
  cases n with
  | zero =>
    simp only [List.length_singleton] at h1
    exact absurd ((occ_one 60 l 0 (by omega)).1 h2) h
  | succ n => omega
theorem fit_front (z more : Bool) (l : List Int) (hl : l ≠ []) : Fit l (frontF z more l) := by
  unfold frontF
  rw [if_neg hl]
  split
  · exact fit_mark z l
  · rename_i h
    unfold plainF
    split
    · rename_i n hn
      have h1 := (fnd_some hn).1
      simp only [List.length_singleton] at h1
      exact fit_chars l n (head_fnd h hn) (by omega)
    · split
      · exact fit_err l 7 (by omega)
      · exact fit_chars l l.length (List.length_pos_iff.2 hl) (Nat.le_refl _)
/-- What is told of a beginning, but that it is cut off, is told of the whole. -/
def Told (x y : Tk × Nat × Int) : Prop := x.2.2 ≠ 7 → y = x
theorem told_span (b : Nat) (stop : List Int) (rd : List Int → Tk × Int) (l t : List Int) (hl : b ≤ l.length) : Told (span b stop rd l) (span b stop rd (l ++ t)) := by
  intro h
  unfold span at *
  rw [List.drop_append_of_le_length hl]
  split at h
  · exact absurd rfl h
  · rename_i n hn
    rw [fnd_app t hn]
    exact fin_app b n _ rd _ t (fnd_some hn).1
theorem told_start (l t : List Int) (hl : 1 ≤ l.length) : Told (startF l) (startF (l ++ t)) := by
  intro h
  unfold startF at *
  rw [List.drop_append_of_le_length hl]
  split at h
  · exact absurd rfl h
  · rename_i n hn
    have h1 := unq_app _ _ n t hn
    rw [h1.1]
    exact fin_app 1 n 1 startR _ t (by omega)
theorem pre_app {p l : List Int} (t : List Int) (h : p.isPrefixOf l = true) : p.isPrefixOf (l ++ t) = true :=
  List.isPrefixOf_iff_prefix.2 ((List.isPrefixOf_iff_prefix.1 h).trans (List.prefix_append _ _))
theorem pre_both {p l t : List Int} (h : p.isPrefixOf (l ++ t) = true) : p.isPrefixOf l = true ∨ l.isPrefixOf p = true := by
  rcases List.prefix_or_prefix_of_prefix (List.isPrefixOf_iff_prefix.1 h) (List.prefix_append l t) with h | h
  · exact .inl (List.isPrefixOf_iff_prefix.2 h)
  · exact .inr (List.isPrefixOf_iff_prefix.2 h)
end Go.Proofs.YtnomcldpbkinmaaGreatDoor

/- Plain mathematics: what follows changes nothing of a token that is told; the kinds of markup in the program's order; all tokens of a text. -/
set_option linter.unusedSimpArgs false
set_option linter.unusedVariables false
namespace Go.Proofs.YtnomcldpbkinmaaGreatDoor

theorem pre_take {l p : List Int} (h : l.isPrefixOf p = true) : l = p.take l.length ∧ l.length ≤ p.length :=
  ⟨List.prefix_iff_eq_take.1 (List.isPrefixOf_iff_prefix.1 h), pre_len h⟩
theorem cut_cdata (z : Bool) (l : List Int) (h2 : 2 ≤ l.length) (h : l.isPrefixOf bCdata = true) (hn : bCdata.isPrefixOf l = false) : (markF z l).2.2 = 7 := by
  obtain ⟨h3, h4⟩ := pre_take h
  have h5 : l.length ≤ 9 := h4
  rcases (show l.length = 2 ∨ l.length = 3 ∨ l.length = 4 ∨ l.length = 5 ∨ l.length = 6 ∨ l.length = 7 ∨ l.length = 8 ∨ l.length = 9 by omega) with e | e | e | e | e | e | e | e
  all_goals
    rw [e] at h3
    subst h3
    first | rfl | exact absurd hn (by decide)
theorem cut_comm (z : Bool) (l : List Int) (h2 : 2 ≤ l.length) (h : l.isPrefixOf bComm = true) (hn : bComm.isPrefixOf l = false) : (markF z l).2.2 = 7 := by
  obtain ⟨h3, h4⟩ := pre_take h
  have h5 : l.length ≤ 4 := h4
  rcases (show l.length = 2 ∨ l.length = 3 ∨ l.length = 4 by omega) with e | e | e
  all_goals
    rw [e] at h3
    subst h3
    first | rfl | exact absurd hn (by decide)
theorem cut_doc (z : Bool) (l : List Int) (h2 : 2 ≤ l.length) (h : l.isPrefixOf bDoc = true) (hn : bDoc.isPrefixOf l = false) : (markF z l).2.2 = 7 := by
  obtain ⟨h3, h4⟩ := pre_take h
  have h5 : l.length ≤ 9 := h4
  rcases (show l.length = 2 ∨ l.length = 3 ∨ l.length = 4 ∨ l.length = 5 ∨ l.length = 6 ∨ l.length = 7 ∨ l.length = 8 ∨ l.length = 9 by omega) with e | e | e | e | e | e | e | e
  all_goals
    rw [e] at h3
    subst h3
    first | rfl | exact absurd hn (by decide)
theorem pre_same {p l : List Int} (t : List Int) (h : ¬ (l.isPrefixOf p = true ∧ p.isPrefixOf l = false)) : p.isPrefixOf (l ++ t) = p.isPrefixOf l := by
  cases hp : p.isPrefixOf l with
  | true => exact pre_app t hp
  | false =>
    cases hq : p.isPrefixOf (l ++ t) with
    | false => rfl
    | true =>
      rcases pre_both hq with g | g
      · rw [hp] at g; cases g
      · exact absurd ⟨g, hp⟩ h
theorem pre_short {p l : List Int} (t : List Int) (h : p.length ≤ l.length) : p.isPrefixOf (l ++ t) = p.isPrefixOf l := by
  refine pre_same t fun ⟨h1, h2⟩ => ?_
  have h3 := pre_take h1
  have h4 : l.length = p.length := by omega
  rw [h4, List.take_length] at h3
  rw [h3.1] at h2
  exact absurd (List.isPrefixOf_iff_prefix.2 (List.prefix_refl p)) (by rw [h2]; simp)
theorem pre_less {p l : List Int} (t : List Int) (h : (l ++ t).isPrefixOf p = true) : l.isPrefixOf p = true :=
  List.isPrefixOf_iff_prefix.2 ((List.prefix_append l t).trans (List.isPrefixOf_iff_prefix.1 h))
theorem told_mark (z : Bool) (l t : List Int) (hl : l.getD 0 0 = 60) : Told (markF z l) (markF z (l ++ t)) := by
  intro h
  match l, hl, h with
  | [], hl, _ => simp at hl
  | [c], hl, h =>
    have : c = 60 := by simpa using hl
    subst this
    exact absurd rfl h
  | c :: d :: r, hl, h =>
    obtain ⟨l, hL⟩ : ∃ l, l = c :: d :: r := ⟨_, rfl⟩
    rw [← hL] at h ⊢
    have h2 : 2 ≤ l.length := by rw [hL]; simp
    clear hL hl c d r
    have e1 : bCdata.isPrefixOf (l ++ t) = bCdata.isPrefixOf l := pre_same t fun ⟨a, b⟩ => h (cut_cdata z l h2 a b)
    have e2 : bComm.isPrefixOf (l ++ t) = bComm.isPrefixOf l := pre_same t fun ⟨a, b⟩ => h (cut_comm z l h2 a b)
    have e3 : bDoc.isPrefixOf (l ++ t) = bDoc.isPrefixOf l := pre_same t fun ⟨a, b⟩ => h (cut_doc z l h2 a b)
    have e4 : bInst.isPrefixOf (l ++ t) = bInst.isPrefixOf l := pre_short t (by simpa [bInst] using h2)
    have e5 : bEnd.isPrefixOf (l ++ t) = bEnd.isPrefixOf l := pre_short t (by simpa [bEnd] using h2)
    have e6 : bBang.isPrefixOf (l ++ t) = bBang.isPrefixOf l := pre_short t (by simpa [bBang] using h2)
    unfold markF at h ⊢
    rw [e1, e2, e3, e4, e5, e6]
    by_cases c1 : bCdata.isPrefixOf l = true
    · simp only [if_pos c1] at h ⊢
      exact told_span 9 eCdata dataR l t (pre_len c1) h
    simp only [if_neg c1] at h ⊢
    by_cases c2 : bComm.isPrefixOf l = true
    · simp only [if_pos c2] at h ⊢
      exact told_span 4 eComm commR l t (pre_len c2) h
    simp only [if_neg c2] at h ⊢
    by_cases c3 : bInst.isPrefixOf l = true
    · simp only [if_pos c3] at h ⊢
      exact told_span 2 eInst _ l t (pre_len c3) h
    simp only [if_neg c3] at h ⊢
    by_cases c4 : bEnd.isPrefixOf l = true
    · simp only [if_pos c4] at h ⊢
      exact told_span 2 eEnd _ l t (pre_len c4) h
    simp only [if_neg c4] at h ⊢
    by_cases c5 : bBang.isPrefixOf l = true
    · simp only [if_pos c5] at h ⊢
      by_cases c6 : bDoc.isPrefixOf l = true
      · simp only [if_pos c6]
      simp only [if_neg c6] at h ⊢
      by_cases c7 : l.isPrefixOf bCdata = true ∨ l.isPrefixOf bComm = true ∨ l.isPrefixOf bDoc = true
      · simp only [if_pos c7] at h
        exact absurd rfl h
      simp only [if_neg c7] at h ⊢
      rw [if_neg]
      intro c8
      exact c7 (c8.imp (pre_less t) (Or.imp (pre_less t) (pre_less t)))
    simp only [if_neg c5] at h ⊢
    exact told_start l t (by omega) h
/-- The kinds of markup in the program's order. -/
def progF (z : Bool) (l : List Int) : Tk × Nat × Int :=
  if bCdata.isPrefixOf l = true then span 9 eCdata dataR l else if l.isPrefixOf bCdata = true then (T0, 0, 7)
  else if bComm.isPrefixOf l = true then span 4 eComm commR l else if l.isPrefixOf bComm = true then (T0, 0, 7)
  else if bDoc.isPrefixOf l = true then (T0, 0, 12) else if l.isPrefixOf bDoc = true then (T0, 0, 7)
  else if bBang.isPrefixOf l = true then (T0, 0, 6) else if l.isPrefixOf bBang = true then (T0, 0, 7)
  else if bInst.isPrefixOf l = true then span 2 eInst (instR z) l else if l.isPrefixOf bInst = true then (T0, 0, 7)
  else if bEnd.isPrefixOf l = true then span 2 eEnd endR l else if l.isPrefixOf bEnd = true then (T0, 0, 7)
  else startF l
theorem prog_mark (z : Bool) (l : List Int) (hl : l.getD 0 0 = 60) : progF z l = markF z l := by
  match l, hl with
  | [], hl => simp at hl
  | [c], hl =>
    have : c = 60 := by simpa using hl
    subst this
    rfl
  | c :: d :: r, hl =>
    have : c = 60 := by simpa using hl
    subst this
    unfold progF markF
    by_cases h3 : d = 33
    · subst h3
      have e1 : bInst.isPrefixOf (60 :: 33 :: r) = false := by simp [bInst, List.isPrefixOf]
      have e2 : bEnd.isPrefixOf (60 :: 33 :: r) = false := by simp [bEnd, List.isPrefixOf]
      have e3 : bBang.isPrefixOf (60 :: 33 :: r) = true := by simp [bBang, List.isPrefixOf]
      simp only [e1, e2, e3, Bool.false_eq_true, if_false, if_true]
      by_cases c1 : bCdata.isPrefixOf (60 :: 33 :: r) = true
      · simp only [if_pos c1]
      simp only [if_neg c1]
      by_cases c2 : (60 :: 33 :: r).isPrefixOf bCdata = true
      · have c3 : ¬ bComm.isPrefixOf (60 :: 33 :: r) = true := fun g => by
          have := (List.isPrefixOf_iff_prefix.1 g).trans (List.isPrefixOf_iff_prefix.1 c2)
          exact absurd (List.isPrefixOf_iff_prefix.2 this) (by decide)
        have c4 : ¬ bDoc.isPrefixOf (60 :: 33 :: r) = true := fun g => by
          have := (List.isPrefixOf_iff_prefix.1 g).trans (List.isPrefixOf_iff_prefix.1 c2)
          exact absurd (List.isPrefixOf_iff_prefix.2 this) (by decide)
        simp only [if_pos c2, if_neg c3, if_neg c4, if_pos (Or.inl c2)]
      simp only [if_neg c2]
      by_cases c3 : bComm.isPrefixOf (60 :: 33 :: r) = true
      · simp only [if_pos c3]
      simp only [if_neg c3]
      by_cases c4 : (60 :: 33 :: r).isPrefixOf bComm = true
      · have c5 : ¬ bDoc.isPrefixOf (60 :: 33 :: r) = true := fun g => by
          have := (List.isPrefixOf_iff_prefix.1 g).trans (List.isPrefixOf_iff_prefix.1 c4)
          exact absurd (List.isPrefixOf_iff_prefix.2 this) (by decide)
        simp only [if_pos c4, if_neg c5, c2, c4, Bool.false_eq_true, true_or, or_true, if_true]
      simp only [if_neg c4]
      by_cases c5 : bDoc.isPrefixOf (60 :: 33 :: r) = true
      · simp only [if_pos c5]
      simp only [if_neg c5]
      by_cases c6 : (60 :: 33 :: r).isPrefixOf bDoc = true
      · simp only [if_pos c6, c6, or_true, if_true]
      · simp only [if_neg c6, c2, c4, c6, Bool.false_eq_true, or_self, if_false]
    · have f1 : bCdata.isPrefixOf (60 :: d :: r) = false := by simp [bCdata, List.isPrefixOf]; omega
      have f2 : bComm.isPrefixOf (60 :: d :: r) = false := by simp [bComm, List.isPrefixOf]; omega
      have f3 : bDoc.isPrefixOf (60 :: d :: r) = false := by simp [bDoc, List.isPrefixOf]; omega
      have f4 : bBang.isPrefixOf (60 :: d :: r) = false := by simp [bBang, List.isPrefixOf]; omega
      have g1 : (60 :: d :: r).isPrefixOf bCdata = false := by simp [bCdata, List.isPrefixOf, h3]
      have g2 : (60 :: d :: r).isPrefixOf bComm = false := by simp [bComm, List.isPrefixOf, h3]
      have g3 : (60 :: d :: r).isPrefixOf bDoc = false := by simp [bDoc, List.isPrefixOf, h3]
      have g4 : (60 :: d :: r).isPrefixOf bBang = false := by simp [bBang, List.isPrefixOf, h3]
      simp only [f1, f2, f3, f4, g1, g2, g3, g4, Bool.false_eq_true, if_false]
      by_cases c1 : bInst.isPrefixOf (60 :: d :: r) = true
      · simp only [if_pos c1]
      have n1 : (60 :: d :: r).isPrefixOf bInst = false := by
        cases hq : (60 :: d :: r).isPrefixOf bInst with
        | false => rfl
        | true =>
          exfalso
          apply c1
          have h5 := pre_take hq
          have h6 : r = [] := by
            have := h5.2
            simp [bInst] at this
            exact this
          subst h6
          simp only [bInst, List.isPrefixOf, Bool.and_true] at hq ⊢
          simp at hq ⊢
          exact hq.symm
      simp only [if_neg c1, n1, Bool.false_eq_true, if_false]
      by_cases c2 : bEnd.isPrefixOf (60 :: d :: r) = true
      · simp only [if_pos c2]
      have n2 : (60 :: d :: r).isPrefixOf bEnd = false := by
        cases hq : (60 :: d :: r).isPrefixOf bEnd with
        | false => rfl
        | true =>
          exfalso
          apply c2
          have h5 := pre_take hq
          have h6 : r = [] := by
            have := h5.2
            simp [bEnd] at this
            exact this
          subst h6
          simp only [bEnd, List.isPrefixOf, Bool.and_true] at hq ⊢
          simp at hq ⊢
          exact hq.symm
      simp only [if_neg c2, n2, Bool.false_eq_true, if_false]

def nx (L : List Int) (a : Nat) : Tk × Nat × Int := frontF (decide (a = 0)) false (L.drop a)
theorem nx_last (L : List Int) (a : Nat) (h : L.length ≤ a) : nx L a = (⟨6, [], false, false⟩, 0, 0) := by
  unfold nx
  rw [List.drop_of_length_le h]
  rfl
theorem nx_fit (L : List Int) (a : Nat) (h : a < L.length) : Fit (L.drop a) (nx L a) := by
  refine fit_front _ _ _ fun e => ?_
  have := congrArg List.length e
  rw [List.length_drop, List.length_nil] at this
  omega
theorem nx_kind (L : List Int) (a : Nat) (h : (nx L a).2.2 = 0) : (nx L a).1.kind = 6 ↔ L.length ≤ a := by
  rcases Nat.lt_or_ge a L.length with g | g
  · have := ((nx_fit L a g).size h).2.2.1
    exact ⟨fun e => absurd e this, fun e => by omega⟩
  · rw [nx_last L a g]
    exact ⟨fun _ => g, fun _ => rfl⟩
end Go.Proofs.YtnomcldpbkinmaaGreatDoor

/- What the package-level variables of the library hold, as the walks need it; the library's contracts in terms of lists of numbers. -/
set_option linter.unusedSimpArgs false
set_option linter.unusedVariables false
namespace Go.Proofs.YtnomcldpbkinmaaGreatDoor
open Go.RowKit

/-- What unicode's table of small letters holds at a byte below 80. -/
def foldC (k : Nat) : Int := if 65 ≤ k ∧ k ≤ 90 then k + 32 else if k = 107 then 8490 else if k = 115 then 383 else if 97 ≤ k ∧ k ≤ 122 then k - 32 else k
structure Gl (w : World) : Prop where
  vars : Vars w
  size : 11 ≤ w.heap.size
  max : ∃ m, w.cell? ⟨0, 0, none⟩ = some (.int .i64 m)
  tabs : Lib.Utf8Tabs 4 5 w
  fold : ∀ k, k < 128 → w.cell? ⟨1, k, none⟩ = some (.int .u16 (foldC k))
theorem Gl.keep {w w' : World} {B : Nat} (h : Gl w) (hb : Below B w w') (hB : 11 ≤ B) : Gl w' := by
  refine ⟨h.vars.keep hb (by omega), Nat.le_trans h.size hb.size, ?_, ⟨fun c hc => ?_, fun i hi => ⟨?_, ?_⟩⟩, fun k hk => ?_⟩
  · obtain ⟨m, hm⟩ := h.max
    exact ⟨m, (hb.cell (p := ⟨0, 0, none⟩) (show 0 < B by omega)).trans hm⟩
  · exact (hb.cell (p := ⟨4, c, none⟩) (show 4 < B by omega)).trans (h.tabs.1 c hc)
  · exact (hb.cell (p := ⟨5, 2 * i, none⟩) (show 5 < B by omega)).trans (h.tabs.2 i hi).1
  · exact (hb.cell (p := ⟨5, 2 * i + 1, none⟩) (show 5 < B by omega)).trans (h.tabs.2 i hi).2
  · exact (hb.cell (p := ⟨1, k, none⟩) (show 1 < B by omega)).trans (h.fold k hk)
theorem Gl.after {w w' : World} (h : Gl w) (hb : Below w.heap.size w w') : Gl w' := h.keep hb h.size
theorem Gl.alloc {w : World} (h : Gl w) (o : Obj) : Gl (w.alloc o) := h.after ((Below.refl _ w).alloc (Nat.le_refl _) o)
theorem Gl.drew {w : World} (h : Gl w) : Gl w.drew := h.after (Below.refl _ w).drew

theorem uinj {a b : UInt8} (h : (a.toNat : Int) = (b.toNat : Int)) : a = b := UInt8.toNat_inj.1 (by omega)
theorem pre_map : ∀ (p l : List UInt8), (p.map fun b => (b.toNat : Int)).isPrefixOf (l.map fun b => (b.toNat : Int)) = p.isPrefixOf l
  | [], l => by simp [List.isPrefixOf]
  | a :: p, [] => by simp [List.isPrefixOf]
  | a :: p, b :: l => by
    simp only [List.map_cons, List.isPrefixOf, pre_map p l]
    congr 1
    rw [Bool.eq_iff_iff]
    simp only [beq_iff_eq]
    exact ⟨uinj, fun h => by rw [h]⟩
theorem index_fnd (m : List UInt8) : ∀ (l : List UInt8), Lib.index l m = fndI (m.map fun b => (b.toNat : Int)) (l.map fun b => (b.toNat : Int))
  | [] => by
    cases m with
    | nil => rfl
    | cons a b => simp [Lib.index, fndI, fnd]
  | c :: l => by
    have ih := index_fnd m l
    have hp := pre_map m (c :: l)
    simp only [List.map_cons] at hp ⊢
    unfold Lib.index
    by_cases h : m.isPrefixOf (c :: l) = true
    · rw [if_pos h]
      rw [h] at hp
      unfold fndI fnd
      rw [if_pos hp]
      rfl
    · rw [if_neg h, ih]
      rw [Bool.eq_false_iff.2 h] at hp
      generalize (m.map fun b => (b.toNat : Int)) = M at *
      generalize (l.map fun b => (b.toNat : Int)) = L at *
      generalize (c.toNat : Int) = x at *
      have hc : fnd M (x :: L) = (fnd M L).map (· + 1) := by rw [fnd, if_neg (by rw [hp]; simp)]
      cases hf : fnd M L with
      | none =>
        rw [fndI_none hf, fndI_none (by rw [hc, hf]; rfl)]
        simp
      | some n =>
        rw [fndI_some hf, fndI_some (n := n + 1) (by rw [hc, hf]; rfl)]
        have : (((n : Nat) : Int) == -1) = false := by rw [beq_eq_false_iff_ne]; omega
        simp [this]
theorem index_byts (s m : ByteArray) : Lib.index s.data.toList m.data.toList = fndI (byts m) (byts s) := index_fnd _ _
theorem contains_byts (s m : ByteArray) : Lib.contains s.data.toList m.data.toList = (fnd (byts m) (byts s)).isSome := by
  unfold Lib.contains
  rw [index_byts]
  unfold fndI
  cases fnd (byts m) (byts s) <;> simp
/-- strings.Index, strings.Contains. -/
theorem index_any (s m : ByteArray) (w : World) (hs : s.size ≤ 1000000) (hG : Gl w) : Calls Tryz.prog 86 #[.string s, .string m] w fun e w' => e = .returned (.int .i64 (fndI (byts m) (byts s))) ∧ w = w' := by
  obtain ⟨k, hk⟩ := hG.max
  refine (Tryz.strings_Index s m k w (by omega) hk).mono ?_
  rintro e w' ⟨rfl, rfl⟩
  exact ⟨by rw [index_byts], rfl⟩
theorem cont_any (s m : ByteArray) (w : World) (hs : s.size ≤ 1000000) (hG : Gl w) (b : Bool) (hb : (fnd (byts m) (byts s)).isSome = b) : Calls Tryz.prog 88 #[.string s, .string m] w fun e w' => e = .returned (.bool b) ∧ w = w' := by
  obtain ⟨k, hk⟩ := hG.max
  refine (Tryz.strings_Contains s m k w (by omega) hk).mono ?_
  rintro e w' ⟨rfl, rfl⟩
  exact ⟨by rw [contains_byts, hb], rfl⟩
theorem mk_byts (l : List UInt8) : byts ⟨l.toArray⟩ = l.map fun b => (b.toNat : Int) := by simp [byts]
theorem suf_map (p l : List UInt8) : (p.map fun b => (b.toNat : Int)).isSuffixOf (l.map fun b => (b.toNat : Int)) = p.isSuffixOf l := by
  unfold List.isSuffixOf
  rw [← List.map_reverse, ← List.map_reverse, pre_map]
theorem suf_one (l : List Int) (c : Int) : [c].isSuffixOf l = decide (l.getLast? = some c) := by
  unfold List.isSuffixOf
  rw [List.getLast?_eq_head?_reverse]
  cases l.reverse with
  | nil => simp [List.isPrefixOf]
  | cons a b =>
    rw [Bool.eq_iff_iff]
    simp [List.isPrefixOf]
    exact eq_comm
/-- strings.HasSuffix and CutSuffix at one byte. -/
theorem hassuf_any (s : ByteArray) (c : UInt8) (w : World) (hs : s.size ≤ 1000000) (b : Bool) (hb : decide ((byts s).getLast? = some (c.toNat : Int)) = b) : Calls Tryz.prog 130 #[.string s, .string ⟨#[c]⟩] w fun e w' => e = .returned (.bool b) ∧ w = w' := by
  refine (Tryz.strings_HasSuffix s ⟨#[c]⟩ w (by omega)).mono ?_
  rintro e w' ⟨rfl, rfl⟩
  refine ⟨?_, rfl⟩
  rw [← hb, ← suf_one]
  unfold Lib.hasSuffix
  rw [← suf_map]
  rfl
theorem cutsuf_any (s : ByteArray) (c : UInt8) (w : World) (hs : s.size ≤ 1000000) (b : Bool) (hb : decide ((byts s).getLast? = some (c.toNat : Int)) = b) :
    Calls Tryz.prog 136 #[.string s, .string ⟨#[c]⟩] w fun e w' => e = .returned (.tuple #[.string (if b = true then strOfNums (byts s).dropLast else s), .bool b]) ∧ w = w' := by
  refine (Tryz.strings_CutSuffix s ⟨#[c]⟩ w (by omega)).mono ?_
  rintro e w' ⟨rfl, rfl⟩
  have h1 : Lib.hasSuffix s.data.toList [c] = b := by
    rw [← hb, ← suf_one]
    unfold Lib.hasSuffix
    rw [← suf_map]
    rfl
  have h1' : Lib.hasSuffix s.data.toList (ByteArray.mk #[c]).data.toList = b := h1
  refine ⟨?_, rfl⟩
  rw [h1']
  have h2 : (⟨(Lib.trimSuffix s.data.toList (ByteArray.mk #[c]).data.toList).toArray⟩ : ByteArray) = if b = true then strOfNums (byts s).dropLast else s := by
    unfold Lib.trimSuffix
    rw [h1']
    cases b with
    | true =>
      simp only [if_true]
      refine str_of_byts ?_
      rw [mk_byts, List.map_take, List.dropLast_eq_take]
      congr 1
      simp [byts]
    | false =>
      simp
  rw [h2]
end Go.Proofs.YtnomcldpbkinmaaGreatDoor
