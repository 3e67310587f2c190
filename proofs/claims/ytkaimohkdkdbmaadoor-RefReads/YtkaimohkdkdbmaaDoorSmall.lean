/-
  The walks of strings.HasPrefix and CutPrefix at a prefix of one byte, of strings.Cut at a semicolon, and of ref.named.
-/
import Derived.Test.YtkaimohkdkdbmaaDoorStr
import Derived.Test.YtkaimohkdkdbmaaDoorRMath
import Derived.Test.YtkaimohkdkdbmaaDoorBegins
import Derived.Laws.Externs
import Derived.Lib.Bytealg
set_option linter.unusedSimpArgs false
set_option linter.unusedVariables false
namespace Go.Proofs.YtkaimohkdkdbmaaDoor
open Go.RowKit

/-- Where the first semicolon stands. -/
def si (s : ByteArray) : Int := Lib.indexByte s.data.toList 59
theorem ib_cases : ∀ (l : List UInt8), (Lib.indexByte l 59 = -1 ∧ (59 : Int) ∉ l.map fun b => (b.toNat : Int)) ∨
    ∃ i : Nat, Lib.indexByte l 59 = i ∧ i < l.length ∧ (59 : Int) ∈ (l.map fun b => (b.toNat : Int)) ∧ bodyOf (l.map fun b => (b.toNat : Int)) = (l.map fun b => (b.toNat : Int)).take i
  | [] => .inl ⟨rfl, by simp⟩
  | b :: l => by
    unfold Lib.indexByte
    by_cases hb : b = 59
    · subst hb
      exact .inr ⟨0, by simp, by simp, by simp, by simp [bodyOf]⟩
    · have hb1 : (b == 59) = false := by simpa using hb
      have hb2 : (b.toNat : Int) ≠ 59 := fun h => hb (UInt8.toNat_inj.1 (by
        have h9 : b.toNat = 59 := by omega
        rw [h9]; rfl))
      rw [hb1]
      rcases ib_cases l with ⟨h1, h2⟩ | ⟨i, h1, h2, h3, h4⟩
      · refine .inl ⟨by rw [h1]; rfl, ?_⟩
        rw [List.map_cons, List.mem_cons]
        rintro (h | h)
        · exact hb2 h.symm
        · exact h2 h
      · refine .inr ⟨i + 1, ?_, by simp; omega, ?_, ?_⟩
        · rw [h1]
          have : (((i : Int)) == -1) = false := by rw [beq_eq_false_iff_ne]; omega
          simp [this]
        · rw [List.map_cons, List.mem_cons]
          exact .inr h3
        · rw [List.map_cons, List.take_succ_cons, ← h4]
          unfold bodyOf
          rw [List.takeWhile_cons, if_pos (by simpa using hb2)]
theorem si_cases (s : ByteArray) : (si s = -1 ∧ (59 : Int) ∉ byts s) ∨ ∃ i : Nat, si s = i ∧ i < s.size ∧ (59 : Int) ∈ byts s ∧ bodyOf (byts s) = (byts s).take i := by
  have := ib_cases s.data.toList
  rw [← Lib.size_eq] at this
  exact this

set_option maxHeartbeats 400000 in
set_option maxRecDepth 100000 in
theorem idxb_any (s : ByteArray) (c : Int) (w : World) :
    Calls Tryd.prog 60 #[.string s, .int .u8 c] w fun e w' => e = .returned (.int .i64 (Lib.indexByte s.data.toList c.toNat.toUInt8)) ∧ w = w' := by
  go_enter Tryd.func60, Tryd.ntmps60
  go_wp2
  rw [run_callFunc_extern Tryd.func70 (by kernel_rfl) (by kernel_rfl) (by kernel_rfl) (e := Extern.BytealgIndexByte.indexByte) (by kernel_rfl), Lib.run_indexByteString]
  simp only [Result.andThen]
  rw [Oper.upon_value]
  go_wp2
  go_ret
  exact ⟨rfl, rfl⟩

set_option maxHeartbeats 1000000 in
set_option maxRecDepth 100000 in
theorem idx_any (s : ByteArray) (w : World) :
    Calls Tryd.prog 54 #[.string s, .string ⟨#[59]⟩] w fun e w' => e = .returned (.int .i64 (si s)) ∧ w = w' := by
  go_enter Tryd.func54, Tryd.ntmps54
  go_wp2_with (go_at_call 60; refine (idxb_any _ _ _).mono ?_; rintro e w' ⟨rfl, rfl⟩)
  · have h : ([59] == s.toList) = true := by assumption
    go_ret
    refine ⟨?_, rfl⟩
    have e : s.data.toList = [59] := by rw [← Lib.toList_data]; exact (beq_iff_eq.1 h).symm
    unfold si
    rw [e]
    rfl
  · go_ret
    exact ⟨rfl, rfl⟩

set_option maxHeartbeats 1000000 in
set_option maxRecDepth 100000 in
theorem lcut_hit (s : ByteArray) (i : Nat) (h : si s = i) (hi : i < s.size) (hs : s.size ≤ 1000000) (w : World) :
    Calls Tryd.prog 45 #[.string s, .string ⟨#[59]⟩] w fun e w' => e = .returned (.tuple #[.string (s.extract 0 i), .string (s.extract (i + 1) s.size), .bool true]) ∧ Below w.heap.size w w' := by
  have CI := Lib.hid (idx_any s)
  rw [h] at CI
  clear h
  have c1 : (0 : Int) ≤ (i : Int) := by omega
  have c2 : (i : Int) ≤ (s.size : Int) := by omega
  have c3 : (0 : Int) ≤ (i : Int) + 1 := by omega
  have c4 : (i : Int) + 1 ≤ (s.size : Int) := by omega
  have c5 : decide ((0 : Int) ≤ (i : Int)) = true := by simp
  have q3 : ((i : Int) + 1).toNat = i + 1 := by omega
  have q2 : IntKind.i64.wrap ((i : Int) + 1) = (i : Int) + 1 := IntWalk.i64_in _ (by omega)
  go_enter Tryd.func45, Tryd.ntmps45
  go_wp2_with (go_at_call 54; refine (CI.out _).mono ?_; rintro e w' ⟨rfl, rfl⟩)
  go_quiet (fail)
  go_wp2
  go_ret3
  exact ⟨rfl, below_drewN (Below.refl _ _) _⟩

set_option maxHeartbeats 1000000 in
set_option maxRecDepth 100000 in
theorem lcut_miss (s : ByteArray) (h : si s = -1) (w : World) :
    Calls Tryd.prog 45 #[.string s, .string ⟨#[59]⟩] w fun e w' => e = .returned (.tuple #[.string s, .string ⟨#[]⟩, .bool false]) ∧ Below w.heap.size w w' := by
  have CI := Lib.hid (idx_any s)
  rw [h] at CI
  clear h
  go_enter Tryd.func45, Tryd.ntmps45
  go_wp2_with (go_at_call 54; refine (CI.out _).mono ?_; rintro e w' ⟨rfl, rfl⟩)
  go_ret3
  exact ⟨rfl, Below.refl _ _⟩

set_option maxHeartbeats 1000000 in
set_option maxRecDepth 100000 in
theorem scut_hit (s : ByteArray) (i : Nat) (h : si s = i) (hi : i < s.size) (hs : s.size ≤ 1000000) (w : World) :
    Calls Tryd.prog 37 #[.string s, .string ⟨#[59]⟩] w fun e w' => e = .returned (.tuple #[.string (s.extract 0 i), .string (s.extract (i + 1) s.size), .bool true]) ∧ Below w.heap.size w w' := by
  have CL := Lib.hid (lcut_hit s i h hi hs)
  clear h hi hs
  go_enter Tryd.func37, Tryd.ntmps37
  go_wp2_with (go_at_call 45; refine (CL.out _).mono ?_; rintro e w' ⟨rfl, hb⟩)
  go_ret3
  exact ⟨rfl, hb⟩
set_option maxHeartbeats 1000000 in
set_option maxRecDepth 100000 in
theorem scut_miss (s : ByteArray) (h : si s = -1) (w : World) :
    Calls Tryd.prog 37 #[.string s, .string ⟨#[59]⟩] w fun e w' => e = .returned (.tuple #[.string s, .string ⟨#[]⟩, .bool false]) ∧ Below w.heap.size w w' := by
  have CL := Lib.hid (lcut_miss s h)
  clear h
  go_enter Tryd.func37, Tryd.ntmps37
  go_wp2_with (go_at_call 45; refine (CL.out _).mono ?_; rintro e w' ⟨rfl, hb⟩)
  go_ret3
  exact ⟨rfl, hb⟩

set_option maxHeartbeats 1000000 in
set_option maxRecDepth 100000 in
theorem pre_no0 (t : ByteArray) (c : UInt8) (w : World) (h : t.size = 0) :
    Calls Tryd.prog 41 #[.string t, .string ⟨#[c]⟩] w fun e w' => e = .returned (.bool false) ∧ w = w' := by
  have e1 : decide ((1 : Int) ≤ (t.size : Int)) = false := by rw [decide_eq_false_iff_not]; omega
  have e2 : decide (1 ≤ t.size) = false := by rw [decide_eq_false_iff_not]; omega
  clear h
  go_enter Tryd.func41, Tryd.ntmps41
  go_wp2
  go_ret
  exact ⟨rfl, rfl⟩
theorem eqB (t : ByteArray) (l : List UInt8) (m : List Int) (hm : (l.map fun b => (b.toNat : Int)) = m) : (t.toList == l) = decide (byts t = m) := by
  subst hm
  rw [Lib.toList_data, Bool.eq_iff_iff, beq_iff_eq, decide_eq_true_eq]
  unfold byts
  constructor
  · intro h; rw [h]
  · intro h
    have hl := congrArg List.length h
    simp only [List.length_map] at hl
    refine List.ext_getElem hl fun i h1 h2 => ?_
    have := congrArg (fun l => l[i]?) h
    simp only [List.getElem?_map, List.getElem?_eq_getElem h1, List.getElem?_eq_getElem h2, Option.map_some, Option.some.injEq] at this
    exact UInt8.toNat_inj.1 (by omega)
theorem take1_iff (l : List Int) (c : Int) (h : 1 ≤ l.length) : (l.take 1 = [c]) ↔ l.getD 0 0 = c := by
  cases l with
  | nil => simp at h
  | cons x y => simp
theorem ext1_eq (t : ByteArray) (c : UInt8) (h : 1 ≤ t.size) : ((t.extract 0 1).toList == [c]) = decide ((byts t).getD 0 0 = (c.toNat : Int)) := by
  rw [eqB _ [c] [(c.toNat : Int)] rfl, byts_extract, List.drop_zero]
  have := take1_iff (byts t) (c.toNat : Int) (by rw [byts_len]; exact h)
  simp only [this]
set_option maxHeartbeats 1000000 in
set_option maxRecDepth 100000 in
theorem pre_more (t : ByteArray) (c : UInt8) (w : World) (h : 1 ≤ t.size) (b : Bool) (hb : b = ((t.extract 0 1).toList == [c])) :
    Calls Tryd.prog 41 #[.string t, .string ⟨#[c]⟩] w fun e w' => e = .returned (.bool b) ∧ w = w' := by
  have e1 : decide ((1 : Int) ≤ (t.size : Int)) = true := by rw [decide_eq_true_eq]; omega
  have e2 : decide (1 ≤ t.size) = true := by rw [decide_eq_true_eq]; omega
  have e3 : (1 : Int) ≤ (t.size : Int) := by omega
  subst hb
  go_enter Tryd.func41, Tryd.ntmps41
  go_wp2
  go_ret
  exact ⟨rfl, rfl⟩
theorem len0 {t : ByteArray} (h : ¬ 1 ≤ t.size) : byts t = [] := List.eq_nil_of_length_eq_zero (by rw [byts_len]; omega)
theorem pre_yes (t : ByteArray) (c : UInt8) (w : World) (hc : c.toNat ≠ 0) (h : (byts t).getD 0 0 = (c.toNat : Int)) :
    Calls Tryd.prog 41 #[.string t, .string ⟨#[c]⟩] w fun e w' => e = .returned (.bool true) ∧ w = w' := by
  by_cases h1 : 1 ≤ t.size
  · exact pre_more t c w h1 true (by rw [ext1_eq t c h1, decide_eq_true h])
  · rw [len0 h1] at h; simp at h; omega
theorem pre_no (t : ByteArray) (c : UInt8) (w : World) (h : (byts t).getD 0 0 ≠ (c.toNat : Int)) :
    Calls Tryd.prog 41 #[.string t, .string ⟨#[c]⟩] w fun e w' => e = .returned (.bool false) ∧ w = w' := by
  by_cases h1 : 1 ≤ t.size
  · exact pre_more t c w h1 false (by rw [ext1_eq t c h1, decide_eq_false h])
  · exact pre_no0 t c w (by omega)

set_option maxHeartbeats 1000000 in
set_option maxRecDepth 100000 in
theorem has_bool (t : ByteArray) (c : UInt8) (b : Bool) (C : Hid (∀ w, Calls Tryd.prog 41 #[.string t, .string ⟨#[c]⟩] w fun e w' => e = .returned (.bool b) ∧ w = w')) (w : World) :
    Calls Tryd.prog 33 #[.string t, .string ⟨#[c]⟩] w fun e w' => e = .returned (.bool b) ∧ w = w' := by
  go_enter Tryd.func33, Tryd.ntmps33
  go_wp2_with (go_at_call 41; refine (C.out _).mono ?_; rintro e w' ⟨rfl, rfl⟩)
  go_ret
  exact ⟨rfl, rfl⟩
theorem has_yes (t : ByteArray) (c : UInt8) (hc : c.toNat ≠ 0) (h : (byts t).getD 0 0 = (c.toNat : Int)) (w : World) :
    Calls Tryd.prog 33 #[.string t, .string ⟨#[c]⟩] w fun e w' => e = .returned (.bool true) ∧ w = w' := has_bool t c true (Lib.hid fun w => pre_yes t c w hc h) w
theorem has_no (t : ByteArray) (c : UInt8) (h : (byts t).getD 0 0 ≠ (c.toNat : Int)) (w : World) :
    Calls Tryd.prog 33 #[.string t, .string ⟨#[c]⟩] w fun e w' => e = .returned (.bool false) ∧ w = w' := has_bool t c false (Lib.hid fun w => pre_no t c w h) w

set_option maxHeartbeats 1000000 in
set_option maxRecDepth 100000 in
theorem lcp_yes (t : ByteArray) (c : UInt8) (hs : 1 ≤ t.size) (C : Hid (∀ w, Calls Tryd.prog 41 #[.string t, .string ⟨#[c]⟩] w fun e w' => e = .returned (.bool true) ∧ w = w')) (w : World) :
    Calls Tryd.prog 55 #[.string t, .string ⟨#[c]⟩] w fun e w' => e = .returned (.tuple #[.string (t.extract 1 t.size), .bool true]) ∧ w = w' := by
  have e3 : (1 : Int) ≤ (t.size : Int) := by omega
  go_enter Tryd.func55, Tryd.ntmps55
  go_wp2_with (go_at_call 41; refine (C.out _).mono ?_; rintro e w' ⟨rfl, rfl⟩)
  go_ret2
  exact ⟨rfl, rfl⟩
set_option maxHeartbeats 1000000 in
set_option maxRecDepth 100000 in
theorem lcp_no (t : ByteArray) (c : UInt8) (C : Hid (∀ w, Calls Tryd.prog 41 #[.string t, .string ⟨#[c]⟩] w fun e w' => e = .returned (.bool false) ∧ w = w')) (w : World) :
    Calls Tryd.prog 55 #[.string t, .string ⟨#[c]⟩] w fun e w' => e = .returned (.tuple #[.string t, .bool false]) ∧ w = w' := by
  go_enter Tryd.func55, Tryd.ntmps55
  go_wp2_with (go_at_call 41; refine (C.out _).mono ?_; rintro e w' ⟨rfl, rfl⟩)
  go_ret2
  exact ⟨rfl, rfl⟩
set_option maxHeartbeats 1000000 in
set_option maxRecDepth 100000 in
theorem cp_of (t r : ByteArray) (b : Bool) (c : UInt8) (C : Hid (∀ w, Calls Tryd.prog 55 #[.string t, .string ⟨#[c]⟩] w fun e w' => e = .returned (.tuple #[.string r, .bool b]) ∧ w = w')) (w : World) :
    Calls Tryd.prog 46 #[.string t, .string ⟨#[c]⟩] w fun e w' => e = .returned (.tuple #[.string r, .bool b]) ∧ w = w' := by
  go_enter Tryd.func46, Tryd.ntmps46
  go_wp2_with (go_at_call 55; refine (C.out _).mono ?_; rintro e w' ⟨rfl, rfl⟩)
  go_ret2
  exact ⟨rfl, rfl⟩
theorem cp_yes (t : ByteArray) (c : UInt8) (hc : c.toNat ≠ 0) (h : (byts t).getD 0 0 = (c.toNat : Int)) (w : World) :
    Calls Tryd.prog 46 #[.string t, .string ⟨#[c]⟩] w fun e w' => e = .returned (.tuple #[.string (t.extract 1 t.size), .bool true]) ∧ w = w' := by
  refine cp_of t _ _ c (Lib.hid fun w => lcp_yes t c ?_ (Lib.hid fun w => pre_yes t c w hc h) w) w
  by_cases h1 : 1 ≤ t.size
  · exact h1
  · rw [len0 h1] at h; simp at h; omega
theorem cp_no (t : ByteArray) (c : UInt8) (h : (byts t).getD 0 0 ≠ (c.toNat : Int)) (w : World) :
    Calls Tryd.prog 46 #[.string t, .string ⟨#[c]⟩] w fun e w' => e = .returned (.tuple #[.string t, .bool false]) ∧ w = w' :=
  cp_of t _ _ c (Lib.hid fun w => lcp_no t c (Lib.hid fun w => pre_no t c w h) w) w

/-- The rune of a name. Below 0: it is none. -/
def nmV (l : List Int) : Int := if l = [108, 116] then 60 else if l = [103, 116] then 62 else if l = [97, 109, 112] then 38 else if l = [97, 112, 111, 115] then 39 else if l = [113, 117, 111, 116] then 34 else -1
def nrV (l : List Int) : Int := if l.getD 0 0 ≠ 35 then -1 else if l.getD 1 0 = 120 then numV 16 (l.drop 2) else numV 10 (l.drop 1)
theorem refV_eq (l : List Int) : refV l = if 0 ≤ nmV l then nmV l else nrV l := by
  unfold refV nmV
  by_cases h1 : l = [108, 116]
  · rw [if_pos h1, if_pos h1]; simp
  rw [if_neg h1, if_neg h1]
  by_cases h2 : l = [103, 116]
  · rw [if_pos h2, if_pos h2]; simp
  rw [if_neg h2, if_neg h2]
  by_cases h3 : l = [97, 109, 112]
  · rw [if_pos h3, if_pos h3]; simp
  rw [if_neg h3, if_neg h3]
  by_cases h4 : l = [97, 112, 111, 115]
  · rw [if_pos h4, if_pos h4]; simp
  rw [if_neg h4, if_neg h4]
  by_cases h5 : l = [113, 117, 111, 116]
  · rw [if_pos h5, if_pos h5]; simp
  rw [if_neg h5, if_neg h5]
  rfl
theorem e_lt (t : ByteArray) : (t.toList == [108, 116]) = decide (byts t = [108, 116]) := eqB t _ _ rfl
theorem e_gt (t : ByteArray) : (t.toList == [103, 116]) = decide (byts t = [103, 116]) := eqB t _ _ rfl
theorem e_amp (t : ByteArray) : (t.toList == [97, 109, 112]) = decide (byts t = [97, 109, 112]) := eqB t _ _ rfl
theorem e_apos (t : ByteArray) : (t.toList == [97, 112, 111, 115]) = decide (byts t = [97, 112, 111, 115]) := eqB t _ _ rfl
theorem e_quot (t : ByteArray) : (t.toList == [113, 117, 111, 116]) = decide (byts t = [113, 117, 111, 116]) := eqB t _ _ rfl
def nmR (x : Int) : Value := .tuple #[.int .i32 (if 0 ≤ x then x else 0), .bool (decide (0 ≤ x))]
set_option maxHeartbeats 1000000 in
set_option maxRecDepth 100000 in
theorem named_any (t : ByteArray) (w : World) : Calls Tryd.prog 38 #[.string t] w fun e w' => e = .returned (nmR (nmV (byts t))) ∧ w = w' := by
  go_enter Tryd.func38, Tryd.ntmps38
  go_wp2
  all_goals
    go_ret2
    refine ⟨?_, rfl⟩
    simp only [e_lt, e_gt, e_amp, e_apos, e_quot, decide_eq_true_eq, decide_eq_false_iff_not] at *
    unfold nmV
    simp only [*, if_true, if_false, List.cons.injEq, reduceCtorEq, and_false, false_and]
    first | rfl | (simp; rfl)
theorem named_yes (t : ByteArray) (r : Int) (hr : nmV (byts t) = r) (h : 0 ≤ r) (w : World) : Calls Tryd.prog 38 #[.string t] w fun e w' => e = .returned (.tuple #[.int .i32 r, .bool true]) ∧ w = w' := by
  have := named_any t w
  rw [hr] at this
  unfold nmR at this
  rw [if_pos h, decide_eq_true h] at this
  exact this
theorem named_no (t : ByteArray) (h : ¬ 0 ≤ nmV (byts t)) (w : World) : Calls Tryd.prog 38 #[.string t] w fun e w' => e = .returned (.tuple #[.int .i32 0, .bool false]) ∧ w = w' := by
  have := named_any t w
  unfold nmR at this
  rw [if_neg h, decide_eq_false h] at this
  exact this
end Go.Proofs.YtkaimohkdkdbmaaDoor
