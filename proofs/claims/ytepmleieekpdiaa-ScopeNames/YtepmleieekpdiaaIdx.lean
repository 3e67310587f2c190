/-
  The walk of strings.Cut at a colon.
-/
import Derived.Test.YtepmleieekpdiaaCut
import Derived.Deep.QuietTactic
import Derived.BigQuiet
set_option linter.unusedSimpArgs false
set_option linter.unusedVariables false
namespace Go.Proofs.Ytepmleieekpdiaa
open Go.RowKit

theorem below_drewN {B : Nat} {w w' : World} (h : Below B w w') (n : Nat) : Below B w (w'.drewN n) := ⟨h.os, h.tape, h.output, h.size, h.block⟩

/-- Where the first colon stands. -/
def ci (s : ByteArray) : Int := Lib.indexByte s.data.toList 58
theorem ib_cases : ∀ (l : List UInt8), (Lib.indexByte l 58 = -1 ∧ 58 ∉ l.map UInt8.toNat) ∨
    ∃ i : Nat, Lib.indexByte l 58 = i ∧ i < l.length ∧ l.map UInt8.toNat = (l.map UInt8.toNat).take i ++ 58 :: (l.map UInt8.toNat).drop (i + 1) ∧ 58 ∉ (l.map UInt8.toNat).take i
  | [] => .inl ⟨rfl, by simp⟩
  | b :: l => by
    unfold Lib.indexByte
    by_cases hb : b = 58
    · subst hb
      exact .inr ⟨0, by simp, by simp, by simp, by simp⟩
    · have hb1 : (b == 58) = false := by simpa using hb
      have hb2 : b.toNat ≠ 58 := fun h => hb (UInt8.toNat_inj.1 (by rw [h]; rfl))
      rw [hb1]
      rcases ib_cases l with ⟨h1, h2⟩ | ⟨i, h1, h2, h3, h4⟩
      · refine .inl ⟨by rw [h1]; rfl, ?_⟩
        rw [List.map_cons, List.mem_cons]
        rintro (h | h)
        · exact hb2 h.symm
        · exact h2 h
      · refine .inr ⟨i + 1, ?_, by simp; omega, ?_, ?_⟩
        · rw [h1]
          have : (((i : Int)) == -1) = false := by rw [beq_eq_false_iff_ne]; omega
          simp [this]
        · rw [List.map_cons, List.take_succ_cons, List.drop_succ_cons, List.cons_append, ← h3]
        · rw [List.map_cons, List.take_succ_cons, List.mem_cons]
          rintro (h | h)
          · exact hb2 h.symm
          · exact h4 h
theorem ci_cases (s : ByteArray) : (ci s = -1 ∧ 58 ∉ bl s) ∨ ∃ i : Nat, ci s = i ∧ i < s.size ∧ bl s = (bl s).take i ++ 58 :: (bl s).drop (i + 1) ∧ 58 ∉ (bl s).take i := by
  have := ib_cases s.data.toList
  rw [← Lib.size_eq] at this
  exact this

def em : ByteArray := ⟨#[]⟩
/-- What Split answers. -/
def splitA (s : ByteArray) : ByteArray × ByteArray × Bool :=
  if ci s = -1 then (if pl (bl s) = true then (em, s, true) else (em, em, false))
  else if pl (bl (s.extract 0 (ci s).toNat)) = true ∧ pl (bl (s.extract ((ci s).toNat + 1) s.size)) = true then (s.extract 0 (ci s).toNat, s.extract ((ci s).toNat + 1) s.size, true) else (em, em, false)
theorem bl_pre (s : ByteArray) (i : Nat) : bl (s.extract 0 i) = (bl s).take i := by rw [bl_ext]; simp
theorem bl_post (s : ByteArray) (i : Nat) : bl (s.extract i s.size) = (bl s).drop i := bl_fr s i

set_option maxHeartbeats 400000 in
set_option maxRecDepth 100000 in
theorem idxb_any (s : ByteArray) (c : Int) (w : World) :
    Calls Try.prog 47 #[.string s, .int .u8 c] w fun e w' => e = .returned (.int .i64 (Lib.indexByte s.data.toList c.toNat.toUInt8)) ∧ w = w' := by
  go_enter Try.func47, Try.ntmps47
  go_wp2
  rw [run_callFunc_extern Try.func51 (by kernel_rfl) (by kernel_rfl) (by kernel_rfl) (e := Extern.BytealgIndexByte.indexByte) (by kernel_rfl), Lib.run_indexByteString]
  simp only [Result.andThen]
  rw [Oper.upon_value]
  go_wp2
  go_ret
  exact ⟨rfl, rfl⟩

set_option maxHeartbeats 1000000 in
set_option maxRecDepth 100000 in
theorem idx_any (s : ByteArray) (w : World) :
    Calls Try.prog 45 #[.string s, .string ⟨#[58]⟩] w fun e w' => e = .returned (.int .i64 (ci s)) ∧ w = w' := by
  go_enter Try.func45, Try.ntmps45
  go_wp2_with (go_at_call 47; refine (idxb_any _ _ _).mono ?_; rintro e w' ⟨rfl, rfl⟩)
  · have h : ([58] == s.toList) = true := by assumption
    go_ret
    refine ⟨?_, rfl⟩
    have e : s.data.toList = [58] := by rw [← Lib.toList_data]; exact (beq_iff_eq.1 h).symm
    unfold ci
    rw [e]
    rfl
  · go_ret
    exact ⟨rfl, rfl⟩
theorem ret_three {a b c d : ByteArray} {x y : Bool} (h : a = b) (h1 : c = d) (h2 : x = y) : Ending.returned (.tuple #[.string a, .string c, .bool x]) = .returned (.tuple #[.string b, .string d, .bool y]) := by rw [h, h1, h2]

set_option maxHeartbeats 1000000 in
set_option maxRecDepth 100000 in
theorem lcut_hit (s : ByteArray) (i : Nat) (h : ci s = i) (hi : i < s.size) (hs : s.size ≤ 1000) (w : World) :
    Calls Try.prog 40 #[.string s, .string ⟨#[58]⟩] w fun e w' => e = .returned (.tuple #[.string (s.extract 0 i), .string (s.extract (i + 1) s.size), .bool true]) ∧ Below w.heap.size w w' := by
  have CI := Lib.hid (idx_any s)
  rw [h] at CI
  clear h
  have c1 : (0 : Int) ≤ (i : Int) := by omega
  have c2 : (i : Int) ≤ (s.size : Int) := by omega
  have c3 : (0 : Int) ≤ (i : Int) + 1 := by omega
  have c4 : (i : Int) + 1 ≤ (s.size : Int) := by omega
  have c5 : decide ((0 : Int) ≤ (i : Int)) = true := by simp
  have q3 : ((i : Int) + 1).toNat = i + 1 := by omega
  have q2 : IntKind.i64.wrap ((i : Int) + 1) = (i : Int) + 1 := IntWalk.i64_in _ (by omega)
  go_enter Try.func40, Try.ntmps40
  go_wp2_with (go_at_call 45; refine (CI.out _).mono ?_; rintro e w' ⟨rfl, rfl⟩)
  go_quiet (fail)
  go_wp2
  go_ret3
  exact ⟨rfl, below_drewN (Below.refl _ _) _⟩

set_option maxHeartbeats 1000000 in
set_option maxRecDepth 100000 in
theorem lcut_miss (s : ByteArray) (h : ci s = -1) (w : World) :
    Calls Try.prog 40 #[.string s, .string ⟨#[58]⟩] w fun e w' => e = .returned (.tuple #[.string s, .string ⟨#[]⟩, .bool false]) ∧ Below w.heap.size w w' := by
  have CI := Lib.hid (idx_any s)
  rw [h] at CI
  clear h
  go_enter Try.func40, Try.ntmps40
  go_wp2_with (go_at_call 45; refine (CI.out _).mono ?_; rintro e w' ⟨rfl, rfl⟩)
  go_ret3
  exact ⟨rfl, Below.refl _ _⟩

set_option maxHeartbeats 1000000 in
set_option maxRecDepth 100000 in
theorem scut_hit (s : ByteArray) (i : Nat) (h : ci s = i) (hi : i < s.size) (hs : s.size ≤ 1000) (w : World) :
    Calls Try.prog 36 #[.string s, .string ⟨#[58]⟩] w fun e w' => e = .returned (.tuple #[.string (s.extract 0 i), .string (s.extract (i + 1) s.size), .bool true]) ∧ Below w.heap.size w w' := by
  have CL := Lib.hid (lcut_hit s i h hi hs)
  clear h hi hs
  go_enter Try.func36, Try.ntmps36
  go_wp2_with (go_at_call 40; refine (CL.out _).mono ?_; rintro e w' ⟨rfl, hb⟩)
  go_ret3
  exact ⟨rfl, hb⟩
set_option maxHeartbeats 1000000 in
set_option maxRecDepth 100000 in
theorem scut_miss (s : ByteArray) (h : ci s = -1) (w : World) :
    Calls Try.prog 36 #[.string s, .string ⟨#[58]⟩] w fun e w' => e = .returned (.tuple #[.string s, .string ⟨#[]⟩, .bool false]) ∧ Below w.heap.size w w' := by
  have CL := Lib.hid (lcut_miss s h)
  clear h
  go_enter Try.func36, Try.ntmps36
  go_wp2_with (go_at_call 40; refine (CL.out _).mono ?_; rintro e w' ⟨rfl, hb⟩)
  go_ret3
  exact ⟨rfl, hb⟩

end Go.Proofs.Ytepmleieekpdiaa
