/-
  Merged by program out of the texts Begins, Small, CLeaf, Pu of one seat.
-/
import Derived.Test.YtnomcldpbkinmaaGreatDoorG02
import Derived.Test.YtnomcldpbkinmaaGreatDoorProg
import Derived.Deep.QuietTactic
import Derived.BigQuiet
import Derived.Laws.Externs
import Derived.Lib.Bytealg
import Derived.WalkKit
import Derived.WalkSpells
import Derived.WalkLawsBesides
import Derived.Lib.ConvBytes
import Derived.Lib.BufferWrite
import Derived.Lib.UnsafeStr
import Derived.Lib.AtoiErrMem
import Derived.Lib.IfaceEq
import Derived.Laws.MakeOwn
import Derived.RegionTactic
import Derived.Deep.RegionWith
import Derived.Deep.RegionHeld3
import Derived.BigCall

/- The walk of the document's begins. -/
set_option linter.unusedSimpArgs false
set_option linter.unusedVariables false
namespace Go.Proofs.YtnomcldpbkinmaaGreatDoor
open Go.RowKit

theorem below_drewN {B : Nat} {w w' : World} (h : Below B w w') (n : Nat) : Below B w (w'.drewN n) := ⟨h.os, h.tape, h.output, h.size, h.block⟩
def begP (s : ByteArray) (a : Nat) (L : List Int) : Prop := 0 < L.length ∧ a + L.length ≤ s.size ∧ ∀ j, j < L.length → bt s (a + j) = L.getD j 0
def BegRel (s : ByteArray) (a : Nat) (L : List Int) (w : World) (i : Value) (wr : World) : Prop :=
  ∃ k : Nat, k ≤ L.length ∧ i = .int .i64 k ∧ (∀ j, j < k → bt s (a + j) = L.getD j 0) ∧ Below w.heap.size w wr
def BegPost (s : ByteArray) (a : Nat) (L : List Int) (w : World) (e : Ending) (w' : World) : Prop :=
  ∃ b : Bool, e = .returned (.bool b) ∧ (b = true ↔ begP s a L) ∧ Below w.heap.size w w'

set_option maxHeartbeats 1000000 in
set_option maxRecDepth 100000 in
theorem begins_post (s : ByteArray) (a : Nat) (A : Option Addr) (c : Nat) (L : List Int) (w : World) (h : Rd .u8 w w.heap.size A L) (hs : s.size ≤ 100000) (hL : L.length ≤ 100000) (ha : a ≤ 100000) :
    Calls Tryz.prog 74 #[.string s, .int .i64 a, .slice A L.length c] w (BegPost s a L w) := by
  obtain ⟨n, hn⟩ : ∃ n, n = L.length := ⟨_, rfl⟩
  rw [← hn]
  have HN := Lib.hid hn
  have hn1 : n ≤ L.length := by omega
  have hn2 : L.length ≤ n := by omega
  clear hn
  by_cases h0 : n = 0
  · have t0 : ((n : Int) == 0) = true := by simp; omega
    have HP : Hid (¬ begP s a L) := fun hp => by have := hp.1; omega
    clear h0
    go_enter Tryz.func74, Tryz.ntmps74
    go_wp2
    go_ret
    exact ⟨false, rfl, by simp; exact HP.out, Below.refl _ _⟩
  have t0 : ((n : Int) == 0) = false := by simp; omega
  by_cases h1 : s.size < a + n
  · have t1 : decide ((s.size : Int) < (a : Int) + (n : Int)) = true := by simp; omega
    have HP : Hid (¬ begP s a L) := fun hp => by have := hp.2.1; omega
    clear h0
    go_enter Tryz.func74, Tryz.ntmps74
    go_wp2
    go_ret
    exact ⟨false, rfl, by simp; exact HP.out, Below.refl _ _⟩
  have t1 : decide ((s.size : Int) < (a : Int) + (n : Int)) = false := by simp; omega
  have hfit : a + n ≤ s.size := by omega
  have hpos : 0 < n := by omega
  clear h0 h1
  go_enter Tryz.func74, Tryz.ntmps74
  go_wp2_with fail
  go_loopw [7] (fun i wr => BegRel s a L w i wr) (fun i _ => L.length - (intOf i).toNat)
  case atStart => exact ⟨0, Nat.zero_le _, rfl, fun j hj => by omega, Below.refl _ _⟩
  case round =>
    obtain ⟨k, hk, rfl, hall, hbel⟩ := hrel
    have HA := Lib.hid hall
    clear hall
    by_cases hlt : k < n
    · obtain ⟨b, off, rfl, hb, hc⟩ := (h.below hbel).at_ (j := k) (by omega)
      have hbe := bt_eq s (a + k) (by omega)
      have hi1 : (a : Int) + (k : Int) < (s.size : Int) := by omega
      have hi2 : (k : Int) < (n : Int) := by omega
      by_cases he : bt s (a + k) = L.getD k 0
      · have HR : Hid (∀ j, j < k + 1 → bt s (a + j) = L.getD j 0) := fun j hj => by
          rcases Nat.lt_or_ge j k with hj' | hj'
          · exact HA.out j hj'
          · obtain rfl : j = k := by omega
            exact he
        have te : ((s[a + k].toNat : Int) != L.getD k 0) = false := by rw [hbe]; simpa using he
        clear he hbe HA
        generalize L.getD k 0 = x at *
        go_wp2_with fail
        have q1 : (0 : Int) ≤ (a : Int) + (k : Int) := by omega
        have q3 : ((a : Int) + (k : Int)).toNat = a + k := by omega
        have q2 : IntKind.i64.wrap ((a : Int) + (k : Int)) = (a : Int) + (k : Int) := IntWalk.i64_in _ (by omega)
        go_quiet (fail)
        go_wp2
        go_roundw
        case rel =>
          exact ⟨k + 1, by omega, by go_num, HR.out, below_drewN hbel _⟩
        case measure => simp [intOf]; omega
      · have te : ((s[a + k].toNat : Int) != L.getD k 0) = true := by rw [hbe]; simpa using he
        have HP : Hid (¬ begP s a L) := fun hp => he (hp.2.2 k (by omega))
        clear he hbe
        generalize L.getD k 0 = x at *
        go_wp2_with fail
        have q1 : (0 : Int) ≤ (a : Int) + (k : Int) := by omega
        have q3 : ((a : Int) + (k : Int)).toNat = a + k := by omega
        have q2 : IntKind.i64.wrap ((a : Int) + (k : Int)) = (a : Int) + (k : Int) := IntWalk.i64_in _ (by omega)
        go_quiet (fail)
        go_wp2
        go_ret
        exact ⟨false, rfl, by simp; exact HP.out, below_drewN hbel _⟩
    · have HP : Hid (begP s a L) := ⟨by omega, by omega, fun j hj => HA.out j (by omega)⟩
      go_wp2
      go_ret
      exact ⟨true, rfl, by simp; exact HP.out, hbel⟩

theorem begins_yes (s : ByteArray) (a : Nat) (A : Option Addr) (c : Nat) (L : List Int) (w : World) (h : Rd .u8 w w.heap.size A L) (hs : s.size ≤ 100000) (hL : L.length ≤ 100000) (ha : a ≤ 100000) (hp : begP s a L) :
    Calls Tryz.prog 74 #[.string s, .int .i64 a, .slice A L.length c] w fun e w' => e = .returned (.bool true) ∧ Below w.heap.size w w' :=
  (begins_post s a A c L w h hs hL ha).mono fun e w' ⟨b, h1, h2, h3⟩ => ⟨by rw [h1, h2.2 hp], h3⟩
theorem begins_no (s : ByteArray) (a : Nat) (A : Option Addr) (c : Nat) (L : List Int) (w : World) (h : Rd .u8 w w.heap.size A L) (hs : s.size ≤ 100000) (hL : L.length ≤ 100000) (ha : a ≤ 100000) (hp : ¬ begP s a L) :
    Calls Tryz.prog 74 #[.string s, .int .i64 a, .slice A L.length c] w fun e w' => e = .returned (.bool false) ∧ Below w.heap.size w w' :=
  (begins_post s a A c L w h hs hL ha).mono fun e w' ⟨b, h1, h2, h3⟩ => ⟨by rw [h1, Bool.eq_false_iff.2 fun hb => hp (h2.1 hb)], h3⟩
end Go.Proofs.YtnomcldpbkinmaaGreatDoor

/- The walks of strings.HasPrefix and CutPrefix at a prefix of one byte, of strings.Cut at a semicolon, and of ref.named. -/
set_option linter.unusedSimpArgs false
set_option linter.unusedVariables false
namespace Go.Proofs.YtnomcldpbkinmaaGreatDoor
open Go.RowKit

/-- Where the first semicolon stands. -/
def si (s : ByteArray) : Int := Lib.indexByte s.data.toList 59
theorem ib_cases : ∀ (l : List UInt8), (Lib.indexByte l 59 = -1 ∧ (59 : Int) ∉ l.map fun b => (b.toNat : Int)) ∨
    ∃ i : Nat, Lib.indexByte l 59 = i ∧ i < l.length ∧ (59 : Int) ∈ (l.map fun b => (b.toNat : Int)) ∧ bodyOf (l.map fun b => (b.toNat : Int)) = (l.map fun b => (b.toNat : Int)).take i
  | [] => .inl ⟨rfl, by simp⟩
  | b :: l => by
    unfold Lib.indexByte
    by_cases hb : b = 59
    · subst hb
      exact .inr ⟨0, by simp, by simp, by simp, by simp [bodyOf]⟩
    · have hb1 : (b == 59) = false := by simpa using hb
      have hb2 : (b.toNat : Int) ≠ 59 := fun h => hb (UInt8.toNat_inj.1 (by
        have h9 : b.toNat = 59 := by omega
        rw [h9]; rfl))
      rw [hb1]
      rcases ib_cases l with ⟨h1, h2⟩ | ⟨i, h1, h2, h3, h4⟩
      · refine .inl ⟨by rw [h1]; rfl, ?_⟩
        rw [List.map_cons, List.mem_cons]
        rintro (h | h)
        · exact hb2 h.symm
        · exact h2 h
      · refine .inr ⟨i + 1, ?_, by simp; omega, ?_, ?_⟩
        · rw [h1]
          have : (((i : Int)) == -1) = false := by rw [beq_eq_false_iff_ne]; omega
          simp [this]
        · rw [List.map_cons, List.mem_cons]
          exact .inr h3
        · rw [List.map_cons, List.take_succ_cons, ← h4]
          unfold bodyOf
          rw [List.takeWhile_cons, if_pos (by simpa using hb2)]
theorem si_cases (s : ByteArray) : (si s = -1 ∧ (59 : Int) ∉ byts s) ∨ ∃ i : Nat, si s = i ∧ i < s.size ∧ (59 : Int) ∈ byts s ∧ bodyOf (byts s) = (byts s).take i := by
  have := ib_cases s.data.toList
  rw [← Lib.size_eq] at this
  exact this

set_option maxHeartbeats 400000 in
set_option maxRecDepth 100000 in
theorem idxb_any (s : ByteArray) (c : Int) (w : World) :
    Calls Tryz.prog 137 #[.string s, .int .u8 c] w fun e w' => e = .returned (.int .i64 (Lib.indexByte s.data.toList c.toNat.toUInt8)) ∧ w = w' := by
  go_enter Tryz.func137, Tryz.ntmps137
  go_wp2
  rw [run_callFunc_extern Tryz.func168 (by kernel_rfl) (by kernel_rfl) (by kernel_rfl) (e := Extern.BytealgIndexByte.indexByte) (by kernel_rfl), Lib.run_indexByteString]
  simp only [Result.andThen]
  rw [Oper.upon_value]
  go_wp2
  go_ret
  exact ⟨rfl, rfl⟩

set_option maxHeartbeats 1000000 in
set_option maxRecDepth 100000 in
theorem idx_any (s : ByteArray) (w : World) :
    Calls Tryz.prog 113 #[.string s, .string ⟨#[59]⟩] w fun e w' => e = .returned (.int .i64 (si s)) ∧ w = w' := by
  go_enter Tryz.func113, Tryz.ntmps113
  go_wp2_with (go_at_call 137; refine (idxb_any _ _ _).mono ?_; rintro e w' ⟨rfl, rfl⟩)
  · have h : ([59] == s.toList) = true := by assumption
    go_ret
    refine ⟨?_, rfl⟩
    have e : s.data.toList = [59] := by rw [← Lib.toList_data]; exact (beq_iff_eq.1 h).symm
    unfold si
    rw [e]
    rfl
  · go_ret
    exact ⟨rfl, rfl⟩

set_option maxHeartbeats 1000000 in
set_option maxRecDepth 100000 in
theorem lcut_hit (s : ByteArray) (i : Nat) (h : si s = i) (hi : i < s.size) (hs : s.size ≤ 1000000) (w : World) :
    Calls Tryz.prog 154 #[.string s, .string ⟨#[59]⟩] w fun e w' => e = .returned (.tuple #[.string (s.extract 0 i), .string (s.extract (i + 1) s.size), .bool true]) ∧ Below w.heap.size w w' := by
  have CI := Lib.hid (idx_any s)
  rw [h] at CI
  clear h
  have c1 : (0 : Int) ≤ (i : Int) := by omega
  have c2 : (i : Int) ≤ (s.size : Int) := by omega
  have c3 : (0 : Int) ≤ (i : Int) + 1 := by omega
  have c4 : (i : Int) + 1 ≤ (s.size : Int) := by omega
  have c5 : decide ((0 : Int) ≤ (i : Int)) = true := by simp
  have q3 : ((i : Int) + 1).toNat = i + 1 := by omega
  have q2 : IntKind.i64.wrap ((i : Int) + 1) = (i : Int) + 1 := IntWalk.i64_in _ (by omega)
  go_enter Tryz.func154, Tryz.ntmps154
  go_wp2_with (go_at_call 113; refine (CI.out _).mono ?_; rintro e w' ⟨rfl, rfl⟩)
  go_quiet (fail)
  go_wp2
  go_ret3
  exact ⟨rfl, below_drewN (Below.refl _ _) _⟩

set_option maxHeartbeats 1000000 in
set_option maxRecDepth 100000 in
theorem lcut_miss (s : ByteArray) (h : si s = -1) (w : World) :
    Calls Tryz.prog 154 #[.string s, .string ⟨#[59]⟩] w fun e w' => e = .returned (.tuple #[.string s, .string ⟨#[]⟩, .bool false]) ∧ Below w.heap.size w w' := by
  have CI := Lib.hid (idx_any s)
  rw [h] at CI
  clear h
  go_enter Tryz.func154, Tryz.ntmps154
  go_wp2_with (go_at_call 113; refine (CI.out _).mono ?_; rintro e w' ⟨rfl, rfl⟩)
  go_ret3
  exact ⟨rfl, Below.refl _ _⟩

set_option maxHeartbeats 1000000 in
set_option maxRecDepth 100000 in
theorem scut_hit (s : ByteArray) (i : Nat) (h : si s = i) (hi : i < s.size) (hs : s.size ≤ 1000000) (w : World) :
    Calls Tryz.prog 123 #[.string s, .string ⟨#[59]⟩] w fun e w' => e = .returned (.tuple #[.string (s.extract 0 i), .string (s.extract (i + 1) s.size), .bool true]) ∧ Below w.heap.size w w' := by
  have CL := Lib.hid (lcut_hit s i h hi hs)
  clear h hi hs
  go_enter Tryz.func123, Tryz.ntmps123
  go_wp2_with (go_at_call 154; refine (CL.out _).mono ?_; rintro e w' ⟨rfl, hb⟩)
  go_ret3
  exact ⟨rfl, hb⟩
set_option maxHeartbeats 1000000 in
set_option maxRecDepth 100000 in
theorem scut_miss (s : ByteArray) (h : si s = -1) (w : World) :
    Calls Tryz.prog 123 #[.string s, .string ⟨#[59]⟩] w fun e w' => e = .returned (.tuple #[.string s, .string ⟨#[]⟩, .bool false]) ∧ Below w.heap.size w w' := by
  have CL := Lib.hid (lcut_miss s h)
  clear h
  go_enter Tryz.func123, Tryz.ntmps123
  go_wp2_with (go_at_call 154; refine (CL.out _).mono ?_; rintro e w' ⟨rfl, hb⟩)
  go_ret3
  exact ⟨rfl, hb⟩

set_option maxHeartbeats 1000000 in
set_option maxRecDepth 100000 in
theorem pre_no0 (t : ByteArray) (c : UInt8) (w : World) (h : t.size = 0) :
    Calls Tryz.prog 112 #[.string t, .string ⟨#[c]⟩] w fun e w' => e = .returned (.bool false) ∧ w = w' := by
  have e1 : decide ((1 : Int) ≤ (t.size : Int)) = false := by rw [decide_eq_false_iff_not]; omega
  have e2 : decide (1 ≤ t.size) = false := by rw [decide_eq_false_iff_not]; omega
  clear h
  go_enter Tryz.func112, Tryz.ntmps112
  go_wp2
  go_ret
  exact ⟨rfl, rfl⟩
theorem eqB (t : ByteArray) (l : List UInt8) (m : List Int) (hm : (l.map fun b => (b.toNat : Int)) = m) : (t.toList == l) = decide (byts t = m) := by
  subst hm
  rw [Lib.toList_data, Bool.eq_iff_iff, beq_iff_eq, decide_eq_true_eq]
  unfold byts
  constructor
  · intro h; rw [h]
  · intro h
    have hl := congrArg List.length h
    simp only [List.length_map] at hl
    refine List.ext_getElem hl fun i h1 h2 => ?_
    have := congrArg (fun l => l[i]?) h
    simp only [List.getElem?_map, List.getElem?_eq_getElem h1, List.getElem?_eq_getElem h2, Option.map_some, Option.some.injEq] at this
    exact UInt8.toNat_inj.1 (by omega)
theorem take1_iff (l : List Int) (c : Int) (h : 1 ≤ l.length) : (l.take 1 = [c]) ↔ l.getD 0 0 = c := by
  cases l with
  | nil => simp at h
  | cons x y => simp
theorem ext1_eq (t : ByteArray) (c : UInt8) (h : 1 ≤ t.size) : ((t.extract 0 1).toList == [c]) = decide ((byts t).getD 0 0 = (c.toNat : Int)) := by
  rw [eqB _ [c] [(c.toNat : Int)] rfl, byts_extract, List.drop_zero]
  have := take1_iff (byts t) (c.toNat : Int) (by rw [byts_len]; exact h)
  simp only [this]
set_option maxHeartbeats 1000000 in
set_option maxRecDepth 100000 in
theorem pre_more (t : ByteArray) (c : UInt8) (w : World) (h : 1 ≤ t.size) (b : Bool) (hb : b = ((t.extract 0 1).toList == [c])) :
    Calls Tryz.prog 112 #[.string t, .string ⟨#[c]⟩] w fun e w' => e = .returned (.bool b) ∧ w = w' := by
  have e1 : decide ((1 : Int) ≤ (t.size : Int)) = true := by rw [decide_eq_true_eq]; omega
  have e2 : decide (1 ≤ t.size) = true := by rw [decide_eq_true_eq]; omega
  have e3 : (1 : Int) ≤ (t.size : Int) := by omega
  subst hb
  go_enter Tryz.func112, Tryz.ntmps112
  go_wp2
  go_ret
  exact ⟨rfl, rfl⟩
theorem len0 {t : ByteArray} (h : ¬ 1 ≤ t.size) : byts t = [] := List.eq_nil_of_length_eq_zero (by rw [byts_len]; omega)
theorem pre_yes (t : ByteArray) (c : UInt8) (w : World) (hc : c.toNat ≠ 0) (h : (byts t).getD 0 0 = (c.toNat : Int)) :
    Calls Tryz.prog 112 #[.string t, .string ⟨#[c]⟩] w fun e w' => e = .returned (.bool true) ∧ w = w' := by
  by_cases h1 : 1 ≤ t.size
  · exact pre_more t c w h1 true (by rw [ext1_eq t c h1, decide_eq_true h])
  · rw [len0 h1] at h; simp at h; omega
theorem pre_no (t : ByteArray) (c : UInt8) (w : World) (h : (byts t).getD 0 0 ≠ (c.toNat : Int)) :
    Calls Tryz.prog 112 #[.string t, .string ⟨#[c]⟩] w fun e w' => e = .returned (.bool false) ∧ w = w' := by
  by_cases h1 : 1 ≤ t.size
  · exact pre_more t c w h1 false (by rw [ext1_eq t c h1, decide_eq_false h])
  · exact pre_no0 t c w (by omega)

set_option maxHeartbeats 1000000 in
set_option maxRecDepth 100000 in
theorem has_bool (t : ByteArray) (c : UInt8) (b : Bool) (C : Hid (∀ w, Calls Tryz.prog 112 #[.string t, .string ⟨#[c]⟩] w fun e w' => e = .returned (.bool b) ∧ w = w')) (w : World) :
    Calls Tryz.prog 85 #[.string t, .string ⟨#[c]⟩] w fun e w' => e = .returned (.bool b) ∧ w = w' := by
  go_enter Tryz.func85, Tryz.ntmps85
  go_wp2_with (go_at_call 112; refine (C.out _).mono ?_; rintro e w' ⟨rfl, rfl⟩)
  go_ret
  exact ⟨rfl, rfl⟩
theorem has_yes (t : ByteArray) (c : UInt8) (hc : c.toNat ≠ 0) (h : (byts t).getD 0 0 = (c.toNat : Int)) (w : World) :
    Calls Tryz.prog 85 #[.string t, .string ⟨#[c]⟩] w fun e w' => e = .returned (.bool true) ∧ w = w' := has_bool t c true (Lib.hid fun w => pre_yes t c w hc h) w
theorem has_no (t : ByteArray) (c : UInt8) (h : (byts t).getD 0 0 ≠ (c.toNat : Int)) (w : World) :
    Calls Tryz.prog 85 #[.string t, .string ⟨#[c]⟩] w fun e w' => e = .returned (.bool false) ∧ w = w' := has_bool t c false (Lib.hid fun w => pre_no t c w h) w

set_option maxHeartbeats 1000000 in
set_option maxRecDepth 100000 in
theorem lcp_yes (t : ByteArray) (c : UInt8) (hs : 1 ≤ t.size) (C : Hid (∀ w, Calls Tryz.prog 112 #[.string t, .string ⟨#[c]⟩] w fun e w' => e = .returned (.bool true) ∧ w = w')) (w : World) :
    Calls Tryz.prog 111 #[.string t, .string ⟨#[c]⟩] w fun e w' => e = .returned (.tuple #[.string (t.extract 1 t.size), .bool true]) ∧ w = w' := by
  have e3 : (1 : Int) ≤ (t.size : Int) := by omega
  go_enter Tryz.func111, Tryz.ntmps111
  go_wp2_with (go_at_call 112; refine (C.out _).mono ?_; rintro e w' ⟨rfl, rfl⟩)
  go_ret2
  exact ⟨rfl, rfl⟩
set_option maxHeartbeats 1000000 in
set_option maxRecDepth 100000 in
theorem lcp_no (t : ByteArray) (c : UInt8) (C : Hid (∀ w, Calls Tryz.prog 112 #[.string t, .string ⟨#[c]⟩] w fun e w' => e = .returned (.bool false) ∧ w = w')) (w : World) :
    Calls Tryz.prog 111 #[.string t, .string ⟨#[c]⟩] w fun e w' => e = .returned (.tuple #[.string t, .bool false]) ∧ w = w' := by
  go_enter Tryz.func111, Tryz.ntmps111
  go_wp2_with (go_at_call 112; refine (C.out _).mono ?_; rintro e w' ⟨rfl, rfl⟩)
  go_ret2
  exact ⟨rfl, rfl⟩
set_option maxHeartbeats 1000000 in
set_option maxRecDepth 100000 in
theorem cp_of (t r : ByteArray) (b : Bool) (c : UInt8) (C : Hid (∀ w, Calls Tryz.prog 111 #[.string t, .string ⟨#[c]⟩] w fun e w' => e = .returned (.tuple #[.string r, .bool b]) ∧ w = w')) (w : World) :
    Calls Tryz.prog 83 #[.string t, .string ⟨#[c]⟩] w fun e w' => e = .returned (.tuple #[.string r, .bool b]) ∧ w = w' := by
  go_enter Tryz.func83, Tryz.ntmps83
  go_wp2_with (go_at_call 111; refine (C.out _).mono ?_; rintro e w' ⟨rfl, rfl⟩)
  go_ret2
  exact ⟨rfl, rfl⟩
theorem cp_yes (t : ByteArray) (c : UInt8) (hc : c.toNat ≠ 0) (h : (byts t).getD 0 0 = (c.toNat : Int)) (w : World) :
    Calls Tryz.prog 83 #[.string t, .string ⟨#[c]⟩] w fun e w' => e = .returned (.tuple #[.string (t.extract 1 t.size), .bool true]) ∧ w = w' := by
  refine cp_of t _ _ c (Lib.hid fun w => lcp_yes t c ?_ (Lib.hid fun w => pre_yes t c w hc h) w) w
  by_cases h1 : 1 ≤ t.size
  · exact h1
  · rw [len0 h1] at h; simp at h; omega
theorem cp_no (t : ByteArray) (c : UInt8) (h : (byts t).getD 0 0 ≠ (c.toNat : Int)) (w : World) :
    Calls Tryz.prog 83 #[.string t, .string ⟨#[c]⟩] w fun e w' => e = .returned (.tuple #[.string t, .bool false]) ∧ w = w' :=
  cp_of t _ _ c (Lib.hid fun w => lcp_no t c (Lib.hid fun w => pre_no t c w h) w) w

/-- The rune of a name. Below 0: it is none. -/
def nmV (l : List Int) : Int := if l = [108, 116] then 60 else if l = [103, 116] then 62 else if l = [97, 109, 112] then 38 else if l = [97, 112, 111, 115] then 39 else if l = [113, 117, 111, 116] then 34 else -1
def nrV (l : List Int) : Int := if l.getD 0 0 ≠ 35 then -1 else if l.getD 1 0 = 120 then numV 16 (l.drop 2) else numV 10 (l.drop 1)
theorem refV_eq (l : List Int) : refV l = if 0 ≤ nmV l then nmV l else nrV l := by
  unfold refV nmV
  by_cases h1 : l = [108, 116]
  · rw [if_pos h1, if_pos h1]; simp
  rw [if_neg h1, if_neg h1]
  by_cases h2 : l = [103, 116]
  · rw [if_pos h2, if_pos h2]; simp
  rw [if_neg h2, if_neg h2]
  by_cases h3 : l = [97, 109, 112]
  · rw [if_pos h3, if_pos h3]; simp
  rw [if_neg h3, if_neg h3]
  by_cases h4 : l = [97, 112, 111, 115]
  · rw [if_pos h4, if_pos h4]; simp
  rw [if_neg h4, if_neg h4]
  by_cases h5 : l = [113, 117, 111, 116]
  · rw [if_pos h5, if_pos h5]; simp
  rw [if_neg h5, if_neg h5]
  rfl
theorem e_lt (t : ByteArray) : (t.toList == [108, 116]) = decide (byts t = [108, 116]) := eqB t _ _ rfl
theorem e_gt (t : ByteArray) : (t.toList == [103, 116]) = decide (byts t = [103, 116]) := eqB t _ _ rfl
theorem e_amp (t : ByteArray) : (t.toList == [97, 109, 112]) = decide (byts t = [97, 109, 112]) := eqB t _ _ rfl
theorem e_apos (t : ByteArray) : (t.toList == [97, 112, 111, 115]) = decide (byts t = [97, 112, 111, 115]) := eqB t _ _ rfl
theorem e_quot (t : ByteArray) : (t.toList == [113, 117, 111, 116]) = decide (byts t = [113, 117, 111, 116]) := eqB t _ _ rfl
def nmR (x : Int) : Value := .tuple #[.int .i32 (if 0 ≤ x then x else 0), .bool (decide (0 ≤ x))]
set_option maxHeartbeats 1000000 in
set_option maxRecDepth 100000 in
theorem named_any (t : ByteArray) (w : World) : Calls Tryz.prog 187 #[.string t] w fun e w' => e = .returned (nmR (nmV (byts t))) ∧ w = w' := by
  go_enter Tryz.func187, Tryz.ntmps187
  go_wp2
  all_goals
    go_ret2
    refine ⟨?_, rfl⟩
    simp only [e_lt, e_gt, e_amp, e_apos, e_quot, decide_eq_true_eq, decide_eq_false_iff_not] at *
    unfold nmV
    simp only [*, if_true, if_false, List.cons.injEq, reduceCtorEq, and_false, false_and]
    first | rfl | (simp; rfl)
theorem named_yes (t : ByteArray) (r : Int) (hr : nmV (byts t) = r) (h : 0 ≤ r) (w : World) : Calls Tryz.prog 187 #[.string t] w fun e w' => e = .returned (.tuple #[.int .i32 r, .bool true]) ∧ w = w' := by
  have := named_any t w
  rw [hr] at this
  unfold nmR at this
  rw [if_pos h, decide_eq_true h] at this
  exact this
theorem named_no (t : ByteArray) (h : ¬ 0 ≤ nmV (byts t)) (w : World) : Calls Tryz.prog 187 #[.string t] w fun e w' => e = .returned (.tuple #[.int .i32 0, .bool false]) ∧ w = w' := by
  have := named_any t w
  unfold nmR at this
  rw [if_neg h, decide_eq_false h] at this
  exact this
end Go.Proofs.YtnomcldpbkinmaaGreatDoor

/- Walks: what char's classes return (between, Blank, Char, Start, Part), whatever the world. -/
set_option linter.unusedSimpArgs false
set_option linter.unusedVariables false
namespace Go.Proofs.YtnomcldpbkinmaaGreatDoor
open Go.RowKit

theorem cret_bool {a b : Bool} (h : a = b) : Ending.returned (.bool a) = .returned (.bool b) := by rw [h]
theorem cbt {p : Prop} [Decidable p] (h : p) : true = decide p := (decide_eq_true h).symm
theorem cbf {p : Prop} [Decidable p] (h : ¬ p) : false = decide p := (decide_eq_false h).symm

set_option maxHeartbeats 400000 in
theorem between_any (r a b : Int) (w : World) : Calls Tryz.prog 142 #[.int .i32 r, .int .i32 a, .int .i32 b] w fun e w' => e = .returned (.bool (decide (Btw r a b))) ∧ w = w' := by
  go_enter Tryz.func142, Tryz.ntmps142
  go_wp2
  all_goals
    go_ret
    refine ⟨cret_bool ?_, rfl⟩
    first
      | refine cbt ?_
      | refine cbf ?_
      | (refine Bool.eq_iff_iff.2 ?_; simp only [decide_eq_true_eq, Bool.or_eq_true, beq_iff_eq])
    simp only [Part, Start, Chr, Blank, Btw] at *
    first
      | omega
      | (constructor <;> intro hq <;> omega)

set_option maxHeartbeats 400000 in
set_option maxRecDepth 100000 in
theorem blank_any (r : Int) (w : World) : Calls Tryz.prog 91 #[.int .i32 r] w fun e w' => e = .returned (.bool (decide (Blank r))) ∧ w = w' := by
  go_enter Tryz.func91, Tryz.ntmps91
  go_wp2
  all_goals
    go_ret
    refine ⟨cret_bool ?_, rfl⟩
    first
      | refine cbt ?_
      | refine cbf ?_
      | (refine Bool.eq_iff_iff.2 ?_; simp only [decide_eq_true_eq, Bool.or_eq_true, beq_iff_eq])
    simp only [Part, Start, Chr, Blank, Btw] at *
    first
      | omega
      | (constructor <;> intro hq <;> omega)

set_option maxHeartbeats 1000000 in
set_option maxRecDepth 100000 in
theorem chr_any (r : Int) (w : World) : Calls Tryz.prog 115 #[.int .i32 r] w fun e w' => e = .returned (.bool (decide (Chr r))) ∧ w = w' := by
  go_enter Tryz.func115, Tryz.ntmps115
  go_wp2_with (first | (go_at_call 91; refine (blank_any _ _).mono ?_; rintro e w' ⟨rfl, rfl⟩) | (go_at_call 142; refine (between_any _ _ _ _).mono ?_; rintro e w' ⟨rfl, rfl⟩))
  all_goals
    go_ret
    refine ⟨cret_bool ?_, rfl⟩
    first
      | refine cbt ?_
      | refine cbf ?_
      | (refine Bool.eq_iff_iff.2 ?_; simp only [decide_eq_true_eq, Bool.or_eq_true, beq_iff_eq])
    simp only [Part, Start, Chr, Blank, Btw] at *
    first
      | omega
      | (constructor <;> intro hq <;> omega)

end Go.Proofs.YtnomcldpbkinmaaGreatDoor

/- The walks of strconv.ParseUint at 31 bits, base 10 and 16, and of ref.numbered. -/
set_option linter.unusedSimpArgs false
set_option linter.unusedVariables false
namespace Go.Proofs.YtnomcldpbkinmaaGreatDoor
open Go.RowKit

def low (c : Int) : Int := bits .or .u8 c 32
theorem low_tab : ∀ n : Fin 256, bits .or .u8 ((n : Nat) : Int) 32 = if (n : Nat) / 32 % 2 = 1 then ((n : Nat) : Int) else ((n : Nat) : Int) + 32 := by decide +kernel
theorem low_eq (c : Int) (h0 : 0 ≤ c) (h1 : c ≤ 255) : low c = if c / 32 % 2 = 1 then c else c + 32 := by
  obtain ⟨n, rfl⟩ := Int.eq_ofNat_of_zero_le h0
  have := low_tab ⟨n, by omega⟩
  simp only at this
  unfold low
  rw [this]
  by_cases h : n / 32 % 2 = 1
  · rw [if_pos h, if_pos (by omega)]
  · rw [if_neg h, if_neg (by omega)]
set_option maxHeartbeats 400000 in
theorem low_any (c : Int) (w : World) : Calls Tryz.prog 206 #[.int .u8 c] w fun e w' => e = .returned (.int .u8 (low c)) ∧ w = w' := by
  go_enter Tryz.func206, Tryz.ntmps206
  go_wp2
  go_ret
  exact ⟨rfl, rfl⟩

/-- What the inner ParseUint answers. -/
def PuPost (x : Int) (w : World) (e : Ending) (w' : World) : Prop :=
  ((0 ≤ x ∧ e = .returned (.tuple #[.int .u64 x, .nilIface])) ∨ (x = -1 ∧ ∃ y : Int, e = .returned (.tuple #[.int .u64 y, .iface 261 (.int .i64 1)])) ∨ (x = -1 ∧ ∃ y : Int, e = .returned (.tuple #[.int .u64 y, .iface 261 (.int .i64 2)]))) ∧ Below w.heap.size w w'

set_option maxHeartbeats 1000000 in
set_option maxRecDepth 100000 in
theorem pu_empty (b : Int) (w : World) : Calls Tryz.prog 203 #[.string ⟨#[]⟩, .int .i64 b, .int .i64 31] w (PuPost (-1) w) := by
  go_enter Tryz.func203, Tryz.ntmps203
  go_wp2
  go_ret2
  exact ⟨.inr (.inr ⟨rfl, 0, rfl⟩), Below.refl _ _⟩
theorem puGo_cons (b : Int) (c n : Int) (l : List Int) : puGo b (c :: l) n = if dig c < b then (if 2147483647 < n * b + dig c then -1 else puGo b l (n * b + dig c)) else -1 := rfl
theorem drop_cons (l : List Int) (k : Nat) (h : k < l.length) : l.drop k = l.getD k 0 :: l.drop (k + 1) := by
  rw [List.drop_eq_getElem_cons h]
  simp [List.getD_eq_getElem?_getD, List.getElem?_eq_getElem h]
theorem byt_at (t : ByteArray) (k : Nat) : 0 ≤ (byts t).getD k 0 ∧ (byts t).getD k 0 ≤ 255 := by
  rw [← bt_byts]
  have := bt_lo t k
  have := bt_hi t k
  omega
def PuRel (b : Int) (l : List Int) (k : Nat) (a : Int) : Prop := 0 ≤ a ∧ a ≤ 2147483647 ∧ puGo b l 0 = puGo b (l.drop k) a

set_option maxHeartbeats 8000000 in
set_option maxRecDepth 100000 in
theorem pu_10 (t : ByteArray) (hne : t.size ≠ 0) (hs : t.size ≤ 1000000) (w : World) : Calls Tryz.prog 203 #[.string t, .int .i64 10, .int .i64 31] w (PuPost (puGo 10 (byts t) 0) w) := by
  have hemp : t.toList.isEmpty = false := by
    rw [← decide_eq_emptyBytes]
    exact decide_eq_false (fun h => hne (by rw [h]; rfl))
  have hcv := Lib.run_convert_string_bytes (P := Tryz.prog) w 9 65 5 t (u := .string) Tryz.underlying9 Tryz.underlying65 Tryz.underlying5
  have hB : ∀ j, j < t.size → (Lib.bytesWorld w 5 t).cell? ⟨w.heap.size, j, none⟩ = some (.int .u8 ((byts t).getD j 0)) := fun j hj => by
    rw [Lib.bytesWorld_cell w 5 t j hj, ← bt_byts]; rfl
  have hW := Lib.hid (Lib.bytesWorld_below w 5 t)
  obtain ⟨W1, hW1⟩ : ∃ W1, W1 = Lib.bytesWorld w 5 t := ⟨_, rfl⟩
  rw [← hW1] at hcv hB hW
  clear hW1
  have hby := byt_at t
  have hLn := byts_len t
  obtain ⟨L, hL⟩ : ∃ L, L = byts t := ⟨_, rfl⟩
  rw [← hL] at hB hby hLn ⊢
  clear hL
  have hmv : IntKind.u64.wrap (IntKind.u64.wrap 2147483648 - 1) = 2147483647 := by
    rw [IntKind.wrap_u64, IntKind.wrap_u64]
    decide
  go_enter Tryz.func203, Tryz.ntmps203
  go_wp2
  go_loop [12, 13, 101] (fun vu vn vi => ∃ (k : Nat) (a : Int), vu = .bool false ∧ vn = .int .u64 a ∧ vi = .int .i64 k ∧ k ≤ t.size ∧ Hid (PuRel 10 L k a)) (fun _ _ vi => t.size - (intOf vi).toNat)
  case atStart => exact ⟨0, 0, rfl, rfl, rfl, by omega, Lib.hid ⟨by omega, by omega, rfl⟩⟩
  case round =>
    obtain ⟨k, a, rfl, rfl, rfl, hk, hh⟩ := hrel
    obtain ⟨a0, a1, hdec⟩ := hh.out
    clear hh
    by_cases hkn : k < t.size
    · have hc := hB k hkn
      have hb := hby k
      rw [drop_cons L k (by omega), puGo_cons] at hdec
      generalize L.getD k 0 = c at hc hdec hb
      obtain ⟨c0, c1⟩ := hb
      clear hB hby
      by_cases hdig : 48 ≤ c ∧ c ≤ 57
      · obtain ⟨hd0, hd1⟩ := hdig
        have hd : dig c = c - 48 := by unfold dig; rw [if_pos ⟨hd0, hd1⟩]
        rw [hd, if_pos (by omega)] at hdec
        by_cases hov : 2147483647 < a * 10 + (c - 48)
        · rw [if_pos hov] at hdec
          have HD := Lib.hid hdec
          clear hdec hd
          go_wp2
          go_ret2
          exact ⟨.inr (.inl ⟨HD.out, _, rfl⟩), hW.out⟩
        · rw [if_neg hov] at hdec
          have HN : Hid (PuRel 10 L (k + 1) (a * 10 + (c - 48))) := Lib.hid ⟨by omega, by omega, hdec⟩
          have iov : a * 10 + (c - 48) ≤ 2147483647 := by omega
          clear hdec hd hov
          go_wp2
          refine ⟨⟨k + 1, a * 10 + (c - 48), rfl, (by first | rfl | (congr 1; omega)), (by first | rfl | (congr 1; omega)), by omega, HN⟩, by simp [intOf]; omega⟩
      · have hl := low_eq c c0 c1

        have hd : ¬ dig c < 10 := by
          unfold dig
          rw [if_neg hdig]
          repeat' split
          all_goals omega

        rw [if_neg hd] at hdec
        have HD := Lib.hid hdec
        have LW := Lib.hid (low_any c)
        have y0 : low c < 97 ∨ 122 < low c ∨ (97 ≤ low c ∧ low c ≤ 122) := by
          rw [hl]
          split <;> omega
        have z0 : 0 ≤ low c := by rw [hl]; split <;> omega
        have z1 : low c ≤ 255 := by rw [hl]; split <;> omega
        clear hdec hd hl
        have nd : decide (c ≤ 57) = false ∨ decide (48 ≤ c) = false := by
          rw [decide_eq_false_iff_not, decide_eq_false_iff_not]; omega
        clear hdig
        by_cases h95 : c = 95
        · subst h95
          have y1 : low 95 = 127 := by decide +kernel
          rw [y1] at LW
          clear y0 z0 z1 nd c0 c1 y1
          go_wp2_with (go_at_call 206; refine (LW.out _).mono ?_; rintro e w' ⟨rfl, rfl⟩)
          all_goals go_ret2
          all_goals exact ⟨.inr (.inr ⟨HD.out, _, rfl⟩), hW.out⟩
        generalize low c = x at *
        rcases nd with nd | nd
        · rcases y0 with y0 | y0 | ⟨y0, y1⟩
          all_goals
            go_wp2_with (go_at_call 206; refine (LW.out _).mono ?_; rintro e w' ⟨rfl, rfl⟩)
            all_goals go_ret2
            all_goals exact ⟨.inr (.inr ⟨HD.out, _, rfl⟩), hW.out⟩
        · rcases y0 with y0 | y0 | ⟨y0, y1⟩
          all_goals
            go_wp2_with (go_at_call 206; refine (LW.out _).mono ?_; rintro e w' ⟨rfl, rfl⟩)
            all_goals go_ret2
            all_goals exact ⟨.inr (.inr ⟨HD.out, _, rfl⟩), hW.out⟩
    · have hkk : k = t.size := by omega
      subst hkk
      rw [List.drop_eq_nil_of_le (by omega)] at hdec
      have HD := Lib.hid hdec
      clear hdec
      go_wp2
      go_ret2
      exact ⟨.inl ⟨by rw [HD.out]; exact a0, by rw [HD.out]; rfl⟩, hW.out⟩

set_option maxHeartbeats 8000000 in
set_option maxRecDepth 100000 in
theorem pu_16 (t : ByteArray) (hne : t.size ≠ 0) (hs : t.size ≤ 1000000) (w : World) : Calls Tryz.prog 203 #[.string t, .int .i64 16, .int .i64 31] w (PuPost (puGo 16 (byts t) 0) w) := by
  have hemp : t.toList.isEmpty = false := by
    rw [← decide_eq_emptyBytes]
    exact decide_eq_false (fun h => hne (by rw [h]; rfl))
  have hcv := Lib.run_convert_string_bytes (P := Tryz.prog) w 9 65 5 t (u := .string) Tryz.underlying9 Tryz.underlying65 Tryz.underlying5
  have hB : ∀ j, j < t.size → (Lib.bytesWorld w 5 t).cell? ⟨w.heap.size, j, none⟩ = some (.int .u8 ((byts t).getD j 0)) := fun j hj => by
    rw [Lib.bytesWorld_cell w 5 t j hj, ← bt_byts]; rfl
  have hW := Lib.hid (Lib.bytesWorld_below w 5 t)
  obtain ⟨W1, hW1⟩ : ∃ W1, W1 = Lib.bytesWorld w 5 t := ⟨_, rfl⟩
  rw [← hW1] at hcv hB hW
  clear hW1
  have hby := byt_at t
  have hLn := byts_len t
  obtain ⟨L, hL⟩ : ∃ L, L = byts t := ⟨_, rfl⟩
  rw [← hL] at hB hby hLn ⊢
  clear hL
  have hmv : IntKind.u64.wrap (IntKind.u64.wrap 2147483648 - 1) = 2147483647 := by
    rw [IntKind.wrap_u64, IntKind.wrap_u64]
    decide
  go_enter Tryz.func203, Tryz.ntmps203
  go_wp2
  go_loop [12, 13, 101] (fun vu vn vi => ∃ (k : Nat) (a : Int), vu = .bool false ∧ vn = .int .u64 a ∧ vi = .int .i64 k ∧ k ≤ t.size ∧ Hid (PuRel 16 L k a)) (fun _ _ vi => t.size - (intOf vi).toNat)
  case atStart => exact ⟨0, 0, rfl, rfl, rfl, by omega, Lib.hid ⟨by omega, by omega, rfl⟩⟩
  case round =>
    obtain ⟨k, a, rfl, rfl, rfl, hk, hh⟩ := hrel
    obtain ⟨a0, a1, hdec⟩ := hh.out
    clear hh
    by_cases hkn : k < t.size
    · have hc := hB k hkn
      have hb := hby k
      rw [drop_cons L k (by omega), puGo_cons] at hdec
      generalize L.getD k 0 = c at hc hdec hb
      obtain ⟨c0, c1⟩ := hb
      clear hB hby
      by_cases hdig : 48 ≤ c ∧ c ≤ 57
      · obtain ⟨hd0, hd1⟩ := hdig
        have hd : dig c = c - 48 := by unfold dig; rw [if_pos ⟨hd0, hd1⟩]
        rw [hd, if_pos (by omega)] at hdec
        by_cases hov : 2147483647 < a * 16 + (c - 48)
        · rw [if_pos hov] at hdec
          have HD := Lib.hid hdec
          clear hdec hd
          go_wp2
          go_ret2
          exact ⟨.inr (.inl ⟨HD.out, _, rfl⟩), hW.out⟩
        · rw [if_neg hov] at hdec
          have HN : Hid (PuRel 16 L (k + 1) (a * 16 + (c - 48))) := Lib.hid ⟨by omega, by omega, hdec⟩
          have iov : a * 16 + (c - 48) ≤ 2147483647 := by omega
          clear hdec hd hov
          go_wp2
          refine ⟨⟨k + 1, a * 16 + (c - 48), rfl, (by first | rfl | (congr 1; omega)), (by first | rfl | (congr 1; omega)), by omega, HN⟩, by simp [intOf]; omega⟩
      · have hl := low_eq c c0 c1

        by_cases hx : (97 ≤ c ∧ c ≤ 102) ∨ (65 ≤ c ∧ c ≤ 70)
        · have hd : dig c = low c - 97 + 10 := by
            unfold dig
            rw [if_neg hdig, hl]
            by_cases h : 97 ≤ c ∧ c ≤ 102
            · rw [if_pos h, if_pos (by omega)]; omega
            · rw [if_neg h, if_pos (by omega), if_neg (by omega)]; omega
          have x0 : 97 ≤ low c := by rw [hl]; split <;> omega
          have x1 : low c ≤ 102 := by rw [hl]; split <;> omega
          have n0 : decide (48 ≤ c) = true := by rw [decide_eq_true_eq]; omega
          have n1 : decide (c ≤ 57) = false := by rw [decide_eq_false_iff_not]; omega
          have n2 : ¬ c = 95 := by omega
          have LW := Lib.hid (low_any c)
          rw [hd] at hdec
          clear hl hdig hx hd c0 c1
          generalize low c = x at *
          rw [if_pos (by omega)] at hdec
          by_cases hov : 2147483647 < a * 16 + (x - 97 + 10)
          · rw [if_pos hov] at hdec
            have HD := Lib.hid hdec
            clear hdec
            go_wp2_with (go_at_call 206; refine (LW.out _).mono ?_; rintro e w' ⟨rfl, rfl⟩)
            go_ret2
            exact ⟨.inr (.inl ⟨HD.out, _, rfl⟩), hW.out⟩
          · rw [if_neg hov] at hdec
            have HN : Hid (PuRel 16 L (k + 1) (a * 16 + (x - 97 + 10))) := Lib.hid ⟨by omega, by omega, hdec⟩
            have iov : a * 16 + (x - 97 + 10) ≤ 2147483647 := by omega
            clear hdec hov
            go_wp2_with (go_at_call 206; refine (LW.out _).mono ?_; rintro e w' ⟨rfl, rfl⟩)
            refine ⟨⟨k + 1, a * 16 + (x - 97 + 10), rfl, (by first | rfl | (congr 1; omega)), (by first | rfl | (congr 1; omega)), by omega, HN⟩, by simp [intOf]; omega⟩
        have hd : ¬ dig c < 16 := by
          unfold dig
          rw [if_neg hdig, if_neg (by omega), if_neg (by omega)]
          omega

        rw [if_neg hd] at hdec
        have HD := Lib.hid hdec
        have LW := Lib.hid (low_any c)
        have y0 : low c < 97 ∨ 122 < low c ∨ (103 ≤ low c ∧ low c ≤ 122) := by
          rw [hl]
          split <;> omega
        have z0 : 0 ≤ low c := by rw [hl]; split <;> omega
        have z1 : low c ≤ 255 := by rw [hl]; split <;> omega
        clear hdec hd hl
        have nd : decide (c ≤ 57) = false ∨ decide (48 ≤ c) = false := by
          rw [decide_eq_false_iff_not, decide_eq_false_iff_not]; omega
        clear hdig
        by_cases h95 : c = 95
        · subst h95
          have y1 : low 95 = 127 := by decide +kernel
          rw [y1] at LW
          clear y0 z0 z1 nd c0 c1 y1
          go_wp2_with (go_at_call 206; refine (LW.out _).mono ?_; rintro e w' ⟨rfl, rfl⟩)
          all_goals go_ret2
          all_goals exact ⟨.inr (.inr ⟨HD.out, _, rfl⟩), hW.out⟩
        generalize low c = x at *
        rcases nd with nd | nd
        · rcases y0 with y0 | y0 | ⟨y0, y1⟩
          all_goals
            go_wp2_with (go_at_call 206; refine (LW.out _).mono ?_; rintro e w' ⟨rfl, rfl⟩)
            all_goals go_ret2
            all_goals exact ⟨.inr (.inr ⟨HD.out, _, rfl⟩), hW.out⟩
        · rcases y0 with y0 | y0 | ⟨y0, y1⟩
          all_goals
            go_wp2_with (go_at_call 206; refine (LW.out _).mono ?_; rintro e w' ⟨rfl, rfl⟩)
            all_goals go_ret2
            all_goals exact ⟨.inr (.inr ⟨HD.out, _, rfl⟩), hW.out⟩
    · have hkk : k = t.size := by omega
      subst hkk
      rw [List.drop_eq_nil_of_le (by omega)] at hdec
      have HD := Lib.hid hdec
      clear hdec
      go_wp2
      go_ret2
      exact ⟨.inl ⟨by rw [HD.out]; exact a0, by rw [HD.out]; rfl⟩, hW.out⟩
end Go.Proofs.YtnomcldpbkinmaaGreatDoor
