/-
  Merged by program out of the texts RMath, Leaf, Begins, Small, CLeaf, Pu, Err, Add of one seat.
-/
import Derived.Test.YtkeilgompipfjaaGreatDoorG01
import Derived.Test.YtkeilgompipfjaaGreatDoorProg
import Derived.WalkKit
import Derived.WalkSpells
import Derived.WalkLawsBesides
import Derived.Deep.QuietTactic
import Derived.BigQuiet
import Derived.Laws.Externs
import Derived.Lib.Bytealg
import Derived.Lib.ConvBytes
import Derived.Lib.BufferWrite
import Derived.Lib.UnsafeStr
import Derived.Lib.AtoiErrMem
import Derived.Lib.IfaceEq
import Derived.Laws.MakeOwn
import Derived.RegionTactic
import Derived.Deep.RegionWith
import Derived.Deep.RegionHeld3
import Derived.BigCall
import Derived.Lib.Hide

/- Plain mathematics: what is read of bytes, as a text and as a value; what is escaped. -/
set_option linter.unusedSimpArgs false
set_option linter.unusedVariables false
namespace Go.Proofs.YtkeilgompipfjaaGreatDoor

/-- A digit's number; 99: it is none. -/
def dig (c : Int) : Int := if 48 ≤ c ∧ c ≤ 57 then c - 48 else if 97 ≤ c ∧ c ≤ 102 then c - 87 else if 65 ≤ c ∧ c ≤ 70 then c - 55 else 99
theorem dig_nn (c : Int) : 0 ≤ dig c := by unfold dig; repeat' split
                                           all_goals omega
/-- A number's digits behind n; below 0: they are no digits. -/
def numGo (base : Int) : List Int → Int → Int
  | [], n => n
  | c :: l, n => if dig c < base then numGo base l (n * base + dig c) else -1
/-- The program's: it ends where the number is too great. -/
def puGo (base : Int) : List Int → Int → Int
  | [], n => n
  | c :: l, n => if dig c < base then (if 2147483647 < n * base + dig c then -1 else puGo base l (n * base + dig c)) else -1
def chrOr (n : Int) : Int := if Chr n then n else -1
def numV (base : Int) (l : List Int) : Int := if l = [] ∨ 8 < l.length then -1 else chrOr (numGo base l 0)
/-- The rune of what stands between & and ;. Below 0: it is no reference. -/
def refV (l : List Int) : Int :=
  if l = [108, 116] then 60 else if l = [103, 116] then 62 else if l = [97, 109, 112] then 38 else if l = [97, 112, 111, 115] then 39 else if l = [113, 117, 111, 116] then 34
  else if l.getD 0 0 ≠ 35 then -1 else if l.getD 1 0 = 120 then numV 16 (l.drop 2) else numV 10 (l.drop 1)

theorem chrOr_big {n : Int} (h : 2147483647 < n) : chrOr n = -1 := by
  unfold chrOr; rw [if_neg]; unfold Chr Btw; omega
theorem chrOr_neg : chrOr (-1) = -1 := by
  unfold chrOr; rw [if_neg]; unfold Chr Btw; omega
theorem chrOr_chr {n : Int} (h : chrOr n ≠ -1) : Chr n ∧ chrOr n = n := by
  unfold chrOr at *
  by_cases hc : Chr n
  · exact ⟨hc, if_pos hc⟩
  · rw [if_neg hc] at h; exact absurd rfl h
theorem numGo_big (base : Int) (hb : 1 ≤ base) : ∀ (l : List Int) (n : Int), 2147483647 < n → chrOr (numGo base l n) = -1
  | [], n, h => chrOr_big h
  | c :: l, n, h => by
    unfold numGo
    by_cases hd : dig c < base
    · rw [if_pos hd]
      refine numGo_big base hb l _ ?_
      have := dig_nn c
      have : n * 1 ≤ n * base := Int.mul_le_mul_of_nonneg_left hb (by omega)
      omega
    · rw [if_neg hd]; exact chrOr_neg
theorem pu_num (base : Int) (hb : 1 ≤ base) : ∀ (l : List Int) (n : Int), chrOr (puGo base l n) = chrOr (numGo base l n)
  | [], n => rfl
  | c :: l, n => by
    unfold puGo numGo
    by_cases hd : dig c < base
    · rw [if_pos hd, if_pos hd]
      by_cases hg : 2147483647 < n * base + dig c
      · rw [if_pos hg, numGo_big base hb l _ hg, chrOr_neg]
      · rw [if_neg hg]; exact pu_num base hb l _
    · rw [if_neg hd, if_neg hd]
theorem puGo_bd (base : Int) (hb : 1 ≤ base) : ∀ (l : List Int) (n : Int), 0 ≤ n → n ≤ 2147483647 → puGo base l n = -1 ∨ (0 ≤ puGo base l n ∧ puGo base l n ≤ 2147483647)
  | [], n, h0, h1 => .inr ⟨h0, h1⟩
  | c :: l, n, h0, h1 => by
    unfold puGo
    by_cases hd : dig c < base
    · rw [if_pos hd]
      by_cases hg : 2147483647 < n * base + dig c
      · rw [if_pos hg]; exact .inl rfl
      · rw [if_neg hg]
        have := dig_nn c
        have : 0 ≤ n * base := Int.mul_nonneg h0 (by omega)
        exact puGo_bd base hb l _ (by omega) (by omega)
    · rw [if_neg hd]; exact .inl rfl

/-- What stands ahead of the first ;. -/
def bodyOf (t : List Int) : List Int := t.takeWhile fun x => decide (x ≠ 59)

def blk (v : Bool) (b : Int) : Int := if v = true then 32 else b
/-- One thing: the error's number; what is gathered of it; how many bytes it has. -/
def stepF (v : Bool) (l : List Int) : Int × List Int × Nat :=
  if l.getD 0 0 = 38 then
    if 59 ∈ l.tail ∧ 0 ≤ refV (bodyOf l.tail) then (0, encB (refV (bodyOf l.tail)), (bodyOf l.tail).length + 2) else (5, [], 0)
  else if l.getD 0 0 = 13 then (0, [blk v 10], if l.getD 1 0 = 10 then 2 else 1)
  else if l.getD 0 0 = 9 ∨ l.getD 0 0 = 10 then (0, [blk v (l.getD 0 0)], 1)
  else if (dec1 l).2.2 ≠ 0 then ((dec1 l).2.2, [], 0)
  else if Chr (dec1 l).1 then (0, encB (dec1 l).1, (dec1 l).2.1.toNat) else (3, [], 0)

/-- What is gathered; where it ends; why. -/
def readL (v : Bool) : Nat → List Int → List Int × Nat × Int
  | 0, _ => ([], 0, 0)
  | f + 1, l => if l = [] then ([], 0, 0) else if (stepF v l).1 ≠ 0 then ([], 0, (stepF v l).1)
    else ((stepF v l).2.1 ++ (readL v f (l.drop (stepF v l).2.2)).1, (stepF v l).2.2 + (readL v f (l.drop (stepF v l).2.2)).2.1, (readL v f (l.drop (stepF v l).2.2)).2.2)
def readF (v : Bool) (l : List Int) : List Int × Nat × Int := readL v l.length l

theorem body_len (t : List Int) (h : 59 ∈ t) : (bodyOf t).length < t.length := by
  induction t with
  | nil => simp at h
  | cons x t ih =>
    unfold bodyOf
    rw [List.takeWhile_cons]
    by_cases hx : x = 59
    · subst hx; simp
    · rw [if_pos (by simpa using hx)]
      rw [List.mem_cons] at h
      rcases h with h | h
      · exact absurd h.symm hx
      · simp only [List.length_cons]
        have := ih h
        unfold bodyOf at this
        omega
theorem step_bd (v : Bool) (l : List Int) (hl : l ≠ []) (hn : NN l) (h : (stepF v l).1 = 0) : 1 ≤ (stepF v l).2.2 ∧ (stepF v l).2.2 ≤ l.length := by
  have hl1 : 1 ≤ l.length := by
    cases l with
    | nil => exact absurd rfl hl
    | cons x y => simp
  unfold stepF at h ⊢
  by_cases h1 : l.getD 0 0 = 38
  · rw [if_pos h1] at h ⊢
    by_cases h2 : 59 ∈ l.tail ∧ 0 ≤ refV (bodyOf l.tail)
    · rw [if_pos h2]
      have := body_len l.tail h2.1
      rw [List.length_tail] at this
      refine ⟨by simp, ?_⟩
      show (bodyOf l.tail).length + 2 ≤ l.length
      omega
    · rw [if_neg h2] at h; simp at h
  rw [if_neg h1] at h ⊢
  by_cases h2 : l.getD 0 0 = 13
  · rw [if_pos h2]
    by_cases h3 : l.getD 1 0 = 10
    · rw [if_pos h3]
      refine ⟨by simp, ?_⟩
      match l, h3 with
      | _ :: _ :: _, _ => simp
      | [_], h3 => simp at h3
      | [], h3 => simp at h3
    · rw [if_neg h3]; exact ⟨by simp, hl1⟩
  rw [if_neg h2] at h ⊢
  by_cases h3 : l.getD 0 0 = 9 ∨ l.getD 0 0 = 10
  · rw [if_pos h3]; exact ⟨by simp, hl1⟩
  rw [if_neg h3] at h ⊢
  by_cases h4 : (dec1 l).2.2 ≠ 0
  · rw [if_pos h4] at h; exact absurd h h4
  rw [if_neg h4] at h ⊢
  by_cases h5 : Chr (dec1 l).1
  · rw [if_pos h5]; exact dec_ok1 hl hn (by simpa using h4)
  · rw [if_neg h5] at h; simp at h

theorem readL_fuel (v : Bool) : ∀ (f g : Nat) (L : List Int), NN L → L.length ≤ f → L.length ≤ g → readL v f L = readL v g L
  | 0, g, L, _, hf, _ => by
    have : L = [] := List.eq_nil_of_length_eq_zero (by omega)
    subst this
    cases g <;> simp [readL]
  | f + 1, 0, L, _, _, hg => by
    have : L = [] := List.eq_nil_of_length_eq_zero (by omega)
    subst this
    simp [readL]
  | f + 1, g + 1, L, hn, hf, hg => by
    by_cases hl : L = []
    · subst hl; simp [readL]
    by_cases he : (stepF v L).1 ≠ 0
    · rw [readL, readL, if_neg hl, if_neg hl, if_pos he, if_pos he]
    · have := step_bd v L hl hn (by simpa using he)
      rw [readL, readL, if_neg hl, if_neg hl, if_neg he, if_neg he]
      rw [readL_fuel v f g _ (hn.drop _) (by rw [List.length_drop]; omega) (by rw [List.length_drop]; omega)]
theorem readF_nil (v : Bool) : readF v [] = ([], 0, 0) := rfl
theorem readF_err (v : Bool) (L : List Int) (hl : L ≠ []) (h : (stepF v L).1 ≠ 0) : readF v L = ([], 0, (stepF v L).1) := by
  unfold readF
  cases hL : L.length with
  | zero => exact absurd (List.eq_nil_of_length_eq_zero hL) hl
  | succ f => rw [readL, if_neg hl, if_pos h]
theorem readF_ok (v : Bool) (L : List Int) (hl : L ≠ []) (hn : NN L) (h : (stepF v L).1 = 0) :
    readF v L = ((stepF v L).2.1 ++ (readF v (L.drop (stepF v L).2.2)).1, (stepF v L).2.2 + (readF v (L.drop (stepF v L).2.2)).2.1, (readF v (L.drop (stepF v L).2.2)).2.2) := by
  have hb := step_bd v L hl hn h
  unfold readF
  cases hL : L.length with
  | zero => exact absurd (List.eq_nil_of_length_eq_zero hL) hl
  | succ f =>
    rw [readL, if_neg hl, if_neg (by simpa using h)]
    rw [readL_fuel v f (L.drop (stepF v L).2.2).length _ (hn.drop _) (by rw [List.length_drop]; omega) (Nat.le_refl _)]
/-- What Text and Value answer. -/
def ansF (v : Bool) (l : List Int) : List Int × Int × Int := if (readF v l).2.2 = 0 then ((readF v l).1, 0, 0) else ([], ((readF v l).2.1 : Int), (readF v l).2.2)

end Go.Proofs.YtkeilgompipfjaaGreatDoor

/- Walks: what utf's small functions return (lead, span, follow, possible), whatever the world. -/
namespace Go.Proofs.YtkeilgompipfjaaGreatDoor
open Go.RowKit

theorem i32_or0 (x : Int) (h0 : 0 ≤ x) (h1 : x < 2147483648) : bits .or .i32 x 0 = x := by
  have := bits_join .i32 31 (by decide) wraps_i32 0 x 0 h0 (by omega) h1 (by omega) (by omega) (by omega)
  simpa using this
theorem ret_two {k1 k2 : IntKind} {a b a1 b1 : Int} (h : a = a1) (h1 : b = b1) : Ending.returned (.tuple #[.int k1 a, .int k2 b]) = .returned (.tuple #[.int k1 a1, .int k2 b1]) := by rw [h, h1]
theorem ret_bool {a b : Bool} (h : a = b) : Ending.returned (.bool a) = .returned (.bool b) := by rw [h]

set_option maxHeartbeats 400000 in
theorem lead_any (b : Int) (w : World) (h0 : 0 ≤ b) (h1 : b < 256) : Calls Tryz.prog 63 #[.int .u8 b] w fun e w' => e = .returned (.tuple #[.int .i32 (leadR b), .int .i64 (leadN b)]) ∧ w = w' := by
  go_enter Tryz.func63, Tryz.ntmps63
  go_wp2
  all_goals
    go_ret2
    refine ⟨?_, rfl⟩
    simp only [beq_iff_eq, beq_eq_false_iff_ne] at *
    unfold leadR leadN
    refine ret_two ?_ ?_
    · repeat' split
      all_goals omega
    · repeat' split
      all_goals omega

set_option maxHeartbeats 4000000 in
theorem poss_any (r : Int) (k n : Nat) (w : World) (h0 : 0 ≤ r) (h1 : r * p64 (n - k) < 2097152) (hk : 1 ≤ k) (hn : k ≤ n) (h4 : n ≤ 4) :
    Calls Tryz.prog 64 #[.int .i32 r, .int .i64 k, .int .i64 n] w fun e w' => e = .returned (.bool (possB r k n)) ∧ w = w' := by
  have h : (k = 1 ∧ n = 1) ∨ (k = 1 ∧ n = 2) ∨ (k = 2 ∧ n = 2) ∨ (k = 1 ∧ n = 3) ∨ (k = 2 ∧ n = 3) ∨ (k = 3 ∧ n = 3) ∨ (k = 1 ∧ n = 4) ∨ (k = 2 ∧ n = 4) ∨ (k = 3 ∧ n = 4) ∨ (k = 4 ∧ n = 4) := by omega
  rcases h with ⟨rfl, rfl⟩ | ⟨rfl, rfl⟩ | ⟨rfl, rfl⟩ | ⟨rfl, rfl⟩ | ⟨rfl, rfl⟩ | ⟨rfl, rfl⟩ | ⟨rfl, rfl⟩ | ⟨rfl, rfl⟩ | ⟨rfl, rfl⟩ | ⟨rfl, rfl⟩
  all_goals
    simp only [Nat.reduceSub, p64_0, p64_1, p64_2, p64_3] at h1
    have h00 := i32_or0 r h0 (by omega)
    go_enter Tryz.func64, Tryz.ntmps64
    go_wp2
    all_goals
      go_ret
      refine ⟨ret_bool (possB_eq _ _ _ _ ?_).symm, rfl⟩
      simp only [Nat.reduceSub, p64_0, p64_1, p64_2, p64_3, least1, least2, least3, least4, most1, most2, most3, most4, decide_eq_true_eq, Bool.false_eq_true, iff_false]
      first
        | omega
        | (simp only [iff_true]; omega)
        | (simp; omega)

set_option maxHeartbeats 400000 in
theorem poss_zero (r : Int) (k : Int) (w : World) :
    Calls Tryz.prog 64 #[.int .i32 r, .int .i64 k, .int .i64 0] w fun e w' => e = .returned (.bool false) ∧ w = w' := by
  go_enter Tryz.func64, Tryz.ntmps64
  go_wp2
  go_ret
  exact ⟨rfl, rfl⟩
end Go.Proofs.YtkeilgompipfjaaGreatDoor

/- The walk of the document's begins. -/
set_option linter.unusedSimpArgs false
set_option linter.unusedVariables false
namespace Go.Proofs.YtkeilgompipfjaaGreatDoor
open Go.RowKit

theorem below_drewN {B : Nat} {w w' : World} (h : Below B w w') (n : Nat) : Below B w (w'.drewN n) := ⟨h.os, h.tape, h.output, h.size, h.block⟩
end Go.Proofs.YtkeilgompipfjaaGreatDoor

/- The walks of strings.HasPrefix and CutPrefix at a prefix of one byte, of strings.Cut at a semicolon, and of ref.named. -/
set_option linter.unusedSimpArgs false
set_option linter.unusedVariables false
namespace Go.Proofs.YtkeilgompipfjaaGreatDoor
open Go.RowKit

/-- Where the first semicolon stands. -/
def si (s : ByteArray) : Int := Lib.indexByte s.data.toList 59
theorem ib_cases : ∀ (l : List UInt8), (Lib.indexByte l 59 = -1 ∧ (59 : Int) ∉ l.map fun b => (b.toNat : Int)) ∨
    ∃ i : Nat, Lib.indexByte l 59 = i ∧ i < l.length ∧ (59 : Int) ∈ (l.map fun b => (b.toNat : Int)) ∧ bodyOf (l.map fun b => (b.toNat : Int)) = (l.map fun b => (b.toNat : Int)).take i
  | [] => .inl ⟨rfl, by simp⟩
  | b :: l => by
    unfold Lib.indexByte
    by_cases hb : b = 59
    · subst hb
      exact .inr ⟨0, by simp, by simp, by simp, by simp [bodyOf]⟩
    · have hb1 : (b == 59) = false := by simpa using hb
      have hb2 : (b.toNat : Int) ≠ 59 := fun h => hb (UInt8.toNat_inj.1 (by
        have h9 : b.toNat = 59 := by omega
        rw [h9]; rfl))
      rw [hb1]
      rcases ib_cases l with ⟨h1, h2⟩ | ⟨i, h1, h2, h3, h4⟩
      · refine .inl ⟨by rw [h1]; rfl, ?_⟩
        rw [List.map_cons, List.mem_cons]
        rintro (h | h)
        · exact hb2 h.symm
        · exact h2 h
      · refine .inr ⟨i + 1, ?_, by simp; omega, ?_, ?_⟩
        · rw [h1]
          have : (((i : Int)) == -1) = false := by rw [beq_eq_false_iff_ne]; omega
          simp [this]
        · rw [List.map_cons, List.mem_cons]
          exact .inr h3
        · rw [List.map_cons, List.take_succ_cons, ← h4]
          unfold bodyOf
          rw [List.takeWhile_cons, if_pos (by simpa using hb2)]
theorem si_cases (s : ByteArray) : (si s = -1 ∧ (59 : Int) ∉ byts s) ∨ ∃ i : Nat, si s = i ∧ i < s.size ∧ (59 : Int) ∈ byts s ∧ bodyOf (byts s) = (byts s).take i := by
  have := ib_cases s.data.toList
  rw [← Lib.size_eq] at this
  exact this

set_option maxHeartbeats 400000 in
set_option maxRecDepth 100000 in
theorem idxb_any (s : ByteArray) (c : Int) (w : World) :
    Calls Tryz.prog 101 #[.string s, .int .u8 c] w fun e w' => e = .returned (.int .i64 (Lib.indexByte s.data.toList c.toNat.toUInt8)) ∧ w = w' := by
  go_enter Tryz.func101, Tryz.ntmps101
  go_wp2
  rw [run_callFunc_extern Tryz.func127 (by kernel_rfl) (by kernel_rfl) (by kernel_rfl) (e := Extern.BytealgIndexByte.indexByte) (by kernel_rfl), Lib.run_indexByteString]
  simp only [Result.andThen]
  rw [Oper.upon_value]
  go_wp2
  go_ret
  exact ⟨rfl, rfl⟩

set_option maxHeartbeats 1000000 in
set_option maxRecDepth 100000 in
theorem idx_any (s : ByteArray) (w : World) :
    Calls Tryz.prog 76 #[.string s, .string ⟨#[59]⟩] w fun e w' => e = .returned (.int .i64 (si s)) ∧ w = w' := by
  go_enter Tryz.func76, Tryz.ntmps76
  go_wp2_with (go_at_call 101; refine (idxb_any _ _ _).mono ?_; rintro e w' ⟨rfl, rfl⟩)
  · have h : ([59] == s.toList) = true := by assumption
    go_ret
    refine ⟨?_, rfl⟩
    have e : s.data.toList = [59] := by rw [← Lib.toList_data]; exact (beq_iff_eq.1 h).symm
    unfold si
    rw [e]
    rfl
  · go_ret
    exact ⟨rfl, rfl⟩

set_option maxHeartbeats 1000000 in
set_option maxRecDepth 100000 in
theorem lcut_hit (s : ByteArray) (i : Nat) (h : si s = i) (hi : i < s.size) (hs : s.size ≤ 1000000) (w : World) :
    Calls Tryz.prog 140 #[.string s, .string ⟨#[59]⟩] w fun e w' => e = .returned (.tuple #[.string (s.extract 0 i), .string (s.extract (i + 1) s.size), .bool true]) ∧ Below w.heap.size w w' := by
  have CI := Lib.hid (idx_any s)
  rw [h] at CI
  clear h
  have c1 : (0 : Int) ≤ (i : Int) := by omega
  have c2 : (i : Int) ≤ (s.size : Int) := by omega
  have c3 : (0 : Int) ≤ (i : Int) + 1 := by omega
  have c4 : (i : Int) + 1 ≤ (s.size : Int) := by omega
  have c5 : decide ((0 : Int) ≤ (i : Int)) = true := by simp
  have q3 : ((i : Int) + 1).toNat = i + 1 := by omega
  have q2 : IntKind.i64.wrap ((i : Int) + 1) = (i : Int) + 1 := IntWalk.i64_in _ (by omega)
  go_enter Tryz.func140, Tryz.ntmps140
  go_wp2_with (go_at_call 76; refine (CI.out _).mono ?_; rintro e w' ⟨rfl, rfl⟩)
  go_quiet (fail)
  go_wp2
  go_ret3
  exact ⟨rfl, below_drewN (Below.refl _ _) _⟩

set_option maxHeartbeats 1000000 in
set_option maxRecDepth 100000 in
theorem lcut_miss (s : ByteArray) (h : si s = -1) (w : World) :
    Calls Tryz.prog 140 #[.string s, .string ⟨#[59]⟩] w fun e w' => e = .returned (.tuple #[.string s, .string ⟨#[]⟩, .bool false]) ∧ Below w.heap.size w w' := by
  have CI := Lib.hid (idx_any s)
  rw [h] at CI
  clear h
  go_enter Tryz.func140, Tryz.ntmps140
  go_wp2_with (go_at_call 76; refine (CI.out _).mono ?_; rintro e w' ⟨rfl, rfl⟩)
  go_ret3
  exact ⟨rfl, Below.refl _ _⟩

set_option maxHeartbeats 1000000 in
set_option maxRecDepth 100000 in
theorem scut_hit (s : ByteArray) (i : Nat) (h : si s = i) (hi : i < s.size) (hs : s.size ≤ 1000000) (w : World) :
    Calls Tryz.prog 112 #[.string s, .string ⟨#[59]⟩] w fun e w' => e = .returned (.tuple #[.string (s.extract 0 i), .string (s.extract (i + 1) s.size), .bool true]) ∧ Below w.heap.size w w' := by
  have CL := Lib.hid (lcut_hit s i h hi hs)
  clear h hi hs
  go_enter Tryz.func112, Tryz.ntmps112
  go_wp2_with (go_at_call 140; refine (CL.out _).mono ?_; rintro e w' ⟨rfl, hb⟩)
  go_ret3
  exact ⟨rfl, hb⟩
set_option maxHeartbeats 1000000 in
set_option maxRecDepth 100000 in
theorem scut_miss (s : ByteArray) (h : si s = -1) (w : World) :
    Calls Tryz.prog 112 #[.string s, .string ⟨#[59]⟩] w fun e w' => e = .returned (.tuple #[.string s, .string ⟨#[]⟩, .bool false]) ∧ Below w.heap.size w w' := by
  have CL := Lib.hid (lcut_miss s h)
  clear h
  go_enter Tryz.func112, Tryz.ntmps112
  go_wp2_with (go_at_call 140; refine (CL.out _).mono ?_; rintro e w' ⟨rfl, hb⟩)
  go_ret3
  exact ⟨rfl, hb⟩

set_option maxHeartbeats 1000000 in
set_option maxRecDepth 100000 in
theorem pre_no0 (t : ByteArray) (c : UInt8) (w : World) (h : t.size = 0) :
    Calls Tryz.prog 75 #[.string t, .string ⟨#[c]⟩] w fun e w' => e = .returned (.bool false) ∧ w = w' := by
  have e1 : decide ((1 : Int) ≤ (t.size : Int)) = false := by rw [decide_eq_false_iff_not]; omega
  have e2 : decide (1 ≤ t.size) = false := by rw [decide_eq_false_iff_not]; omega
  clear h
  go_enter Tryz.func75, Tryz.ntmps75
  go_wp2
  go_ret
  exact ⟨rfl, rfl⟩
theorem eqB (t : ByteArray) (l : List UInt8) (m : List Int) (hm : (l.map fun b => (b.toNat : Int)) = m) : (t.toList == l) = decide (byts t = m) := by
  subst hm
  rw [Lib.toList_data, Bool.eq_iff_iff, beq_iff_eq, decide_eq_true_eq]
  unfold byts
  constructor
  · intro h; rw [h]
  · intro h
    have hl := congrArg List.length h
    simp only [List.length_map] at hl
    refine List.ext_getElem hl fun i h1 h2 => ?_
    have := congrArg (fun l => l[i]?) h
    simp only [List.getElem?_map, List.getElem?_eq_getElem h1, List.getElem?_eq_getElem h2, Option.map_some, Option.some.injEq] at this
    exact UInt8.toNat_inj.1 (by omega)
theorem take1_iff (l : List Int) (c : Int) (h : 1 ≤ l.length) : (l.take 1 = [c]) ↔ l.getD 0 0 = c := by
  cases l with
  | nil => simp at h
  | cons x y => simp
theorem ext1_eq (t : ByteArray) (c : UInt8) (h : 1 ≤ t.size) : ((t.extract 0 1).toList == [c]) = decide ((byts t).getD 0 0 = (c.toNat : Int)) := by
  rw [eqB _ [c] [(c.toNat : Int)] rfl, byts_extract, List.drop_zero]
  have := take1_iff (byts t) (c.toNat : Int) (by rw [byts_len]; exact h)
  simp only [this]
set_option maxHeartbeats 1000000 in
set_option maxRecDepth 100000 in
theorem pre_more (t : ByteArray) (c : UInt8) (w : World) (h : 1 ≤ t.size) (b : Bool) (hb : b = ((t.extract 0 1).toList == [c])) :
    Calls Tryz.prog 75 #[.string t, .string ⟨#[c]⟩] w fun e w' => e = .returned (.bool b) ∧ w = w' := by
  have e1 : decide ((1 : Int) ≤ (t.size : Int)) = true := by rw [decide_eq_true_eq]; omega
  have e2 : decide (1 ≤ t.size) = true := by rw [decide_eq_true_eq]; omega
  have e3 : (1 : Int) ≤ (t.size : Int) := by omega
  subst hb
  go_enter Tryz.func75, Tryz.ntmps75
  go_wp2
  go_ret
  exact ⟨rfl, rfl⟩
theorem len0 {t : ByteArray} (h : ¬ 1 ≤ t.size) : byts t = [] := List.eq_nil_of_length_eq_zero (by rw [byts_len]; omega)
theorem pre_yes (t : ByteArray) (c : UInt8) (w : World) (hc : c.toNat ≠ 0) (h : (byts t).getD 0 0 = (c.toNat : Int)) :
    Calls Tryz.prog 75 #[.string t, .string ⟨#[c]⟩] w fun e w' => e = .returned (.bool true) ∧ w = w' := by
  by_cases h1 : 1 ≤ t.size
  · exact pre_more t c w h1 true (by rw [ext1_eq t c h1, decide_eq_true h])
  · rw [len0 h1] at h; simp at h; omega
theorem pre_no (t : ByteArray) (c : UInt8) (w : World) (h : (byts t).getD 0 0 ≠ (c.toNat : Int)) :
    Calls Tryz.prog 75 #[.string t, .string ⟨#[c]⟩] w fun e w' => e = .returned (.bool false) ∧ w = w' := by
  by_cases h1 : 1 ≤ t.size
  · exact pre_more t c w h1 false (by rw [ext1_eq t c h1, decide_eq_false h])
  · exact pre_no0 t c w (by omega)

set_option maxHeartbeats 1000000 in
set_option maxRecDepth 100000 in
theorem has_bool (t : ByteArray) (c : UInt8) (b : Bool) (C : Hid (∀ w, Calls Tryz.prog 75 #[.string t, .string ⟨#[c]⟩] w fun e w' => e = .returned (.bool b) ∧ w = w')) (w : World) :
    Calls Tryz.prog 49 #[.string t, .string ⟨#[c]⟩] w fun e w' => e = .returned (.bool b) ∧ w = w' := by
  go_enter Tryz.func49, Tryz.ntmps49
  go_wp2_with (go_at_call 75; refine (C.out _).mono ?_; rintro e w' ⟨rfl, rfl⟩)
  go_ret
  exact ⟨rfl, rfl⟩
theorem has_yes (t : ByteArray) (c : UInt8) (hc : c.toNat ≠ 0) (h : (byts t).getD 0 0 = (c.toNat : Int)) (w : World) :
    Calls Tryz.prog 49 #[.string t, .string ⟨#[c]⟩] w fun e w' => e = .returned (.bool true) ∧ w = w' := has_bool t c true (Lib.hid fun w => pre_yes t c w hc h) w
theorem has_no (t : ByteArray) (c : UInt8) (h : (byts t).getD 0 0 ≠ (c.toNat : Int)) (w : World) :
    Calls Tryz.prog 49 #[.string t, .string ⟨#[c]⟩] w fun e w' => e = .returned (.bool false) ∧ w = w' := has_bool t c false (Lib.hid fun w => pre_no t c w h) w

set_option maxHeartbeats 1000000 in
set_option maxRecDepth 100000 in
theorem lcp_yes (t : ByteArray) (c : UInt8) (hs : 1 ≤ t.size) (C : Hid (∀ w, Calls Tryz.prog 75 #[.string t, .string ⟨#[c]⟩] w fun e w' => e = .returned (.bool true) ∧ w = w')) (w : World) :
    Calls Tryz.prog 74 #[.string t, .string ⟨#[c]⟩] w fun e w' => e = .returned (.tuple #[.string (t.extract 1 t.size), .bool true]) ∧ w = w' := by
  have e3 : (1 : Int) ≤ (t.size : Int) := by omega
  go_enter Tryz.func74, Tryz.ntmps74
  go_wp2_with (go_at_call 75; refine (C.out _).mono ?_; rintro e w' ⟨rfl, rfl⟩)
  go_ret2
  exact ⟨rfl, rfl⟩
set_option maxHeartbeats 1000000 in
set_option maxRecDepth 100000 in
theorem lcp_no (t : ByteArray) (c : UInt8) (C : Hid (∀ w, Calls Tryz.prog 75 #[.string t, .string ⟨#[c]⟩] w fun e w' => e = .returned (.bool false) ∧ w = w')) (w : World) :
    Calls Tryz.prog 74 #[.string t, .string ⟨#[c]⟩] w fun e w' => e = .returned (.tuple #[.string t, .bool false]) ∧ w = w' := by
  go_enter Tryz.func74, Tryz.ntmps74
  go_wp2_with (go_at_call 75; refine (C.out _).mono ?_; rintro e w' ⟨rfl, rfl⟩)
  go_ret2
  exact ⟨rfl, rfl⟩
set_option maxHeartbeats 1000000 in
set_option maxRecDepth 100000 in
theorem cp_of (t r : ByteArray) (b : Bool) (c : UInt8) (C : Hid (∀ w, Calls Tryz.prog 74 #[.string t, .string ⟨#[c]⟩] w fun e w' => e = .returned (.tuple #[.string r, .bool b]) ∧ w = w')) (w : World) :
    Calls Tryz.prog 47 #[.string t, .string ⟨#[c]⟩] w fun e w' => e = .returned (.tuple #[.string r, .bool b]) ∧ w = w' := by
  go_enter Tryz.func47, Tryz.ntmps47
  go_wp2_with (go_at_call 74; refine (C.out _).mono ?_; rintro e w' ⟨rfl, rfl⟩)
  go_ret2
  exact ⟨rfl, rfl⟩
theorem cp_yes (t : ByteArray) (c : UInt8) (hc : c.toNat ≠ 0) (h : (byts t).getD 0 0 = (c.toNat : Int)) (w : World) :
    Calls Tryz.prog 47 #[.string t, .string ⟨#[c]⟩] w fun e w' => e = .returned (.tuple #[.string (t.extract 1 t.size), .bool true]) ∧ w = w' := by
  refine cp_of t _ _ c (Lib.hid fun w => lcp_yes t c ?_ (Lib.hid fun w => pre_yes t c w hc h) w) w
  by_cases h1 : 1 ≤ t.size
  · exact h1
  · rw [len0 h1] at h; simp at h; omega
theorem cp_no (t : ByteArray) (c : UInt8) (h : (byts t).getD 0 0 ≠ (c.toNat : Int)) (w : World) :
    Calls Tryz.prog 47 #[.string t, .string ⟨#[c]⟩] w fun e w' => e = .returned (.tuple #[.string t, .bool false]) ∧ w = w' :=
  cp_of t _ _ c (Lib.hid fun w => lcp_no t c (Lib.hid fun w => pre_no t c w h) w) w

/-- The rune of a name. Below 0: it is none. -/
def nmV (l : List Int) : Int := if l = [108, 116] then 60 else if l = [103, 116] then 62 else if l = [97, 109, 112] then 38 else if l = [97, 112, 111, 115] then 39 else if l = [113, 117, 111, 116] then 34 else -1
def nrV (l : List Int) : Int := if l.getD 0 0 ≠ 35 then -1 else if l.getD 1 0 = 120 then numV 16 (l.drop 2) else numV 10 (l.drop 1)
theorem refV_eq (l : List Int) : refV l = if 0 ≤ nmV l then nmV l else nrV l := by
  unfold refV nmV
  by_cases h1 : l = [108, 116]
  · rw [if_pos h1, if_pos h1]; simp
  rw [if_neg h1, if_neg h1]
  by_cases h2 : l = [103, 116]
  · rw [if_pos h2, if_pos h2]; simp
  rw [if_neg h2, if_neg h2]
  by_cases h3 : l = [97, 109, 112]
  · rw [if_pos h3, if_pos h3]; simp
  rw [if_neg h3, if_neg h3]
  by_cases h4 : l = [97, 112, 111, 115]
  · rw [if_pos h4, if_pos h4]; simp
  rw [if_neg h4, if_neg h4]
  by_cases h5 : l = [113, 117, 111, 116]
  · rw [if_pos h5, if_pos h5]; simp
  rw [if_neg h5, if_neg h5]
  rfl
theorem e_lt (t : ByteArray) : (t.toList == [108, 116]) = decide (byts t = [108, 116]) := eqB t _ _ rfl
theorem e_gt (t : ByteArray) : (t.toList == [103, 116]) = decide (byts t = [103, 116]) := eqB t _ _ rfl
theorem e_amp (t : ByteArray) : (t.toList == [97, 109, 112]) = decide (byts t = [97, 109, 112]) := eqB t _ _ rfl
theorem e_apos (t : ByteArray) : (t.toList == [97, 112, 111, 115]) = decide (byts t = [97, 112, 111, 115]) := eqB t _ _ rfl
theorem e_quot (t : ByteArray) : (t.toList == [113, 117, 111, 116]) = decide (byts t = [113, 117, 111, 116]) := eqB t _ _ rfl
def nmR (x : Int) : Value := .tuple #[.int .i32 (if 0 ≤ x then x else 0), .bool (decide (0 ≤ x))]
set_option maxHeartbeats 1000000 in
set_option maxRecDepth 100000 in
theorem named_any (t : ByteArray) (w : World) : Calls Tryz.prog 150 #[.string t] w fun e w' => e = .returned (nmR (nmV (byts t))) ∧ w = w' := by
  go_enter Tryz.func150, Tryz.ntmps150
  go_wp2
  all_goals
    go_ret2
    refine ⟨?_, rfl⟩
    simp only [e_lt, e_gt, e_amp, e_apos, e_quot, decide_eq_true_eq, decide_eq_false_iff_not] at *
    unfold nmV
    simp only [*, if_true, if_false, List.cons.injEq, reduceCtorEq, and_false, false_and]
    first | rfl | (simp; rfl)
theorem named_yes (t : ByteArray) (r : Int) (hr : nmV (byts t) = r) (h : 0 ≤ r) (w : World) : Calls Tryz.prog 150 #[.string t] w fun e w' => e = .returned (.tuple #[.int .i32 r, .bool true]) ∧ w = w' := by
  have := named_any t w
  rw [hr] at this
  unfold nmR at this
  rw [if_pos h, decide_eq_true h] at this
  exact this
theorem named_no (t : ByteArray) (h : ¬ 0 ≤ nmV (byts t)) (w : World) : Calls Tryz.prog 150 #[.string t] w fun e w' => e = .returned (.tuple #[.int .i32 0, .bool false]) ∧ w = w' := by
  have := named_any t w
  unfold nmR at this
  rw [if_neg h, decide_eq_false h] at this
  exact this
end Go.Proofs.YtkeilgompipfjaaGreatDoor

/- Walks: what char's classes return (between, Blank, Char, Start, Part), whatever the world. -/
set_option linter.unusedSimpArgs false
set_option linter.unusedVariables false
namespace Go.Proofs.YtkeilgompipfjaaGreatDoor
open Go.RowKit

theorem cret_bool {a b : Bool} (h : a = b) : Ending.returned (.bool a) = .returned (.bool b) := by rw [h]
theorem cbt {p : Prop} [Decidable p] (h : p) : true = decide p := (decide_eq_true h).symm
theorem cbf {p : Prop} [Decidable p] (h : ¬ p) : false = decide p := (decide_eq_false h).symm

set_option maxHeartbeats 400000 in
theorem between_any (r a b : Int) (w : World) : Calls Tryz.prog 65 #[.int .i32 r, .int .i32 a, .int .i32 b] w fun e w' => e = .returned (.bool (decide (Btw r a b))) ∧ w = w' := by
  go_enter Tryz.func65, Tryz.ntmps65
  go_wp2
  all_goals
    go_ret
    refine ⟨cret_bool ?_, rfl⟩
    first
      | refine cbt ?_
      | refine cbf ?_
      | (refine Bool.eq_iff_iff.2 ?_; simp only [decide_eq_true_eq, Bool.or_eq_true, beq_iff_eq])
    simp only [Part, Start, Chr, Blank, Btw] at *
    first
      | omega
      | (constructor <;> intro hq <;> omega)

set_option maxHeartbeats 400000 in
set_option maxRecDepth 100000 in
theorem blank_any (r : Int) (w : World) : Calls Tryz.prog 55 #[.int .i32 r] w fun e w' => e = .returned (.bool (decide (Blank r))) ∧ w = w' := by
  go_enter Tryz.func55, Tryz.ntmps55
  go_wp2
  all_goals
    go_ret
    refine ⟨cret_bool ?_, rfl⟩
    first
      | refine cbt ?_
      | refine cbf ?_
      | (refine Bool.eq_iff_iff.2 ?_; simp only [decide_eq_true_eq, Bool.or_eq_true, beq_iff_eq])
    simp only [Part, Start, Chr, Blank, Btw] at *
    first
      | omega
      | (constructor <;> intro hq <;> omega)

set_option maxHeartbeats 1000000 in
set_option maxRecDepth 100000 in
theorem chr_any (r : Int) (w : World) : Calls Tryz.prog 45 #[.int .i32 r] w fun e w' => e = .returned (.bool (decide (Chr r))) ∧ w = w' := by
  go_enter Tryz.func45, Tryz.ntmps45
  go_wp2_with (first | (go_at_call 55; refine (blank_any _ _).mono ?_; rintro e w' ⟨rfl, rfl⟩) | (go_at_call 65; refine (between_any _ _ _ _).mono ?_; rintro e w' ⟨rfl, rfl⟩))
  all_goals
    go_ret
    refine ⟨cret_bool ?_, rfl⟩
    first
      | refine cbt ?_
      | refine cbf ?_
      | (refine Bool.eq_iff_iff.2 ?_; simp only [decide_eq_true_eq, Bool.or_eq_true, beq_iff_eq])
    simp only [Part, Start, Chr, Blank, Btw] at *
    first
      | omega
      | (constructor <;> intro hq <;> omega)

end Go.Proofs.YtkeilgompipfjaaGreatDoor

/- The walks of strconv.ParseUint at 31 bits, base 10 and 16, and of ref.numbered. -/
set_option linter.unusedSimpArgs false
set_option linter.unusedVariables false
namespace Go.Proofs.YtkeilgompipfjaaGreatDoor
open Go.RowKit

def low (c : Int) : Int := bits .or .u8 c 32
theorem low_tab : ∀ n : Fin 256, bits .or .u8 ((n : Nat) : Int) 32 = if (n : Nat) / 32 % 2 = 1 then ((n : Nat) : Int) else ((n : Nat) : Int) + 32 := by decide +kernel
theorem low_eq (c : Int) (h0 : 0 ≤ c) (h1 : c ≤ 255) : low c = if c / 32 % 2 = 1 then c else c + 32 := by
  obtain ⟨n, rfl⟩ := Int.eq_ofNat_of_zero_le h0
  have := low_tab ⟨n, by omega⟩
  simp only at this
  unfold low
  rw [this]
  by_cases h : n / 32 % 2 = 1
  · rw [if_pos h, if_pos (by omega)]
  · rw [if_neg h, if_neg (by omega)]
set_option maxHeartbeats 400000 in
theorem low_any (c : Int) (w : World) : Calls Tryz.prog 172 #[.int .u8 c] w fun e w' => e = .returned (.int .u8 (low c)) ∧ w = w' := by
  go_enter Tryz.func172, Tryz.ntmps172
  go_wp2
  go_ret
  exact ⟨rfl, rfl⟩

/-- What the inner ParseUint answers. -/
def PuPost (x : Int) (w : World) (e : Ending) (w' : World) : Prop :=
  ((0 ≤ x ∧ e = .returned (.tuple #[.int .u64 x, .nilIface])) ∨ (x = -1 ∧ ∃ y : Int, e = .returned (.tuple #[.int .u64 y, .iface 235 (.int .i64 1)])) ∨ (x = -1 ∧ ∃ y : Int, e = .returned (.tuple #[.int .u64 y, .iface 235 (.int .i64 2)]))) ∧ Below w.heap.size w w'

set_option maxHeartbeats 1000000 in
set_option maxRecDepth 100000 in
theorem pu_empty (b : Int) (w : World) : Calls Tryz.prog 167 #[.string ⟨#[]⟩, .int .i64 b, .int .i64 31] w (PuPost (-1) w) := by
  go_enter Tryz.func167, Tryz.ntmps167
  go_wp2
  go_ret2
  exact ⟨.inr (.inr ⟨rfl, 0, rfl⟩), Below.refl _ _⟩
theorem puGo_cons (b : Int) (c n : Int) (l : List Int) : puGo b (c :: l) n = if dig c < b then (if 2147483647 < n * b + dig c then -1 else puGo b l (n * b + dig c)) else -1 := rfl
theorem drop_cons (l : List Int) (k : Nat) (h : k < l.length) : l.drop k = l.getD k 0 :: l.drop (k + 1) := by
  rw [List.drop_eq_getElem_cons h]
  simp [List.getD_eq_getElem?_getD, List.getElem?_eq_getElem h]
theorem byt_at (t : ByteArray) (k : Nat) : 0 ≤ (byts t).getD k 0 ∧ (byts t).getD k 0 ≤ 255 := by
  rw [← bt_byts]
  have := bt_lo t k
  have := bt_hi t k
  omega
def PuRel (b : Int) (l : List Int) (k : Nat) (a : Int) : Prop := 0 ≤ a ∧ a ≤ 2147483647 ∧ puGo b l 0 = puGo b (l.drop k) a

set_option maxHeartbeats 8000000 in
set_option maxRecDepth 100000 in
theorem pu_10 (t : ByteArray) (hne : t.size ≠ 0) (hs : t.size ≤ 1000000) (w : World) : Calls Tryz.prog 167 #[.string t, .int .i64 10, .int .i64 31] w (PuPost (puGo 10 (byts t) 0) w) := by
  have hemp : t.toList.isEmpty = false := by
    rw [← decide_eq_emptyBytes]
    exact decide_eq_false (fun h => hne (by rw [h]; rfl))
  have hcv := Lib.run_convert_string_bytes (P := Tryz.prog) w 9 49 5 t (u := .string) Tryz.underlying9 Tryz.underlying49 Tryz.underlying5
  have hB : ∀ j, j < t.size → (Lib.bytesWorld w 5 t).cell? ⟨w.heap.size, j, none⟩ = some (.int .u8 ((byts t).getD j 0)) := fun j hj => by
    rw [Lib.bytesWorld_cell w 5 t j hj, ← bt_byts]; rfl
  have hW := Lib.hid (Lib.bytesWorld_below w 5 t)
  obtain ⟨W1, hW1⟩ : ∃ W1, W1 = Lib.bytesWorld w 5 t := ⟨_, rfl⟩
  rw [← hW1] at hcv hB hW
  clear hW1
  have hby := byt_at t
  have hLn := byts_len t
  obtain ⟨L, hL⟩ : ∃ L, L = byts t := ⟨_, rfl⟩
  rw [← hL] at hB hby hLn ⊢
  clear hL
  have hmv : IntKind.u64.wrap (IntKind.u64.wrap 2147483648 - 1) = 2147483647 := by
    rw [IntKind.wrap_u64, IntKind.wrap_u64]
    decide
  go_enter Tryz.func167, Tryz.ntmps167
  go_wp2
  go_loop [12, 13, 101] (fun vu vn vi => ∃ (k : Nat) (a : Int), vu = .bool false ∧ vn = .int .u64 a ∧ vi = .int .i64 k ∧ k ≤ t.size ∧ Hid (PuRel 10 L k a)) (fun _ _ vi => t.size - (intOf vi).toNat)
  case atStart => exact ⟨0, 0, rfl, rfl, rfl, by omega, Lib.hid ⟨by omega, by omega, rfl⟩⟩
  case round =>
    obtain ⟨k, a, rfl, rfl, rfl, hk, hh⟩ := hrel
    obtain ⟨a0, a1, hdec⟩ := hh.out
    clear hh
    by_cases hkn : k < t.size
    · have hc := hB k hkn
      have hb := hby k
      rw [drop_cons L k (by omega), puGo_cons] at hdec
      generalize L.getD k 0 = c at hc hdec hb
      obtain ⟨c0, c1⟩ := hb
      clear hB hby
      by_cases hdig : 48 ≤ c ∧ c ≤ 57
      · obtain ⟨hd0, hd1⟩ := hdig
        have hd : dig c = c - 48 := by unfold dig; rw [if_pos ⟨hd0, hd1⟩]
        rw [hd, if_pos (by omega)] at hdec
        by_cases hov : 2147483647 < a * 10 + (c - 48)
        · rw [if_pos hov] at hdec
          have HD := Lib.hid hdec
          clear hdec hd
          go_wp2
          go_ret2
          exact ⟨.inr (.inl ⟨HD.out, _, rfl⟩), hW.out⟩
        · rw [if_neg hov] at hdec
          have HN : Hid (PuRel 10 L (k + 1) (a * 10 + (c - 48))) := Lib.hid ⟨by omega, by omega, hdec⟩
          have iov : a * 10 + (c - 48) ≤ 2147483647 := by omega
          clear hdec hd hov
          go_wp2
          refine ⟨⟨k + 1, a * 10 + (c - 48), rfl, (by first | rfl | (congr 1; omega)), (by first | rfl | (congr 1; omega)), by omega, HN⟩, by simp [intOf]; omega⟩
      · have hl := low_eq c c0 c1

        have hd : ¬ dig c < 10 := by
          unfold dig
          rw [if_neg hdig]
          repeat' split
          all_goals omega

        rw [if_neg hd] at hdec
        have HD := Lib.hid hdec
        have LW := Lib.hid (low_any c)
        have y0 : low c < 97 ∨ 122 < low c ∨ (97 ≤ low c ∧ low c ≤ 122) := by
          rw [hl]
          split <;> omega
        have z0 : 0 ≤ low c := by rw [hl]; split <;> omega
        have z1 : low c ≤ 255 := by rw [hl]; split <;> omega
        clear hdec hd hl
        have nd : decide (c ≤ 57) = false ∨ decide (48 ≤ c) = false := by
          rw [decide_eq_false_iff_not, decide_eq_false_iff_not]; omega
        clear hdig
        by_cases h95 : c = 95
        · subst h95
          have y1 : low 95 = 127 := by decide +kernel
          rw [y1] at LW
          clear y0 z0 z1 nd c0 c1 y1
          go_wp2_with (go_at_call 172; refine (LW.out _).mono ?_; rintro e w' ⟨rfl, rfl⟩)
          all_goals go_ret2
          all_goals exact ⟨.inr (.inr ⟨HD.out, _, rfl⟩), hW.out⟩
        generalize low c = x at *
        rcases nd with nd | nd
        · rcases y0 with y0 | y0 | ⟨y0, y1⟩
          all_goals
            go_wp2_with (go_at_call 172; refine (LW.out _).mono ?_; rintro e w' ⟨rfl, rfl⟩)
            all_goals go_ret2
            all_goals exact ⟨.inr (.inr ⟨HD.out, _, rfl⟩), hW.out⟩
        · rcases y0 with y0 | y0 | ⟨y0, y1⟩
          all_goals
            go_wp2_with (go_at_call 172; refine (LW.out _).mono ?_; rintro e w' ⟨rfl, rfl⟩)
            all_goals go_ret2
            all_goals exact ⟨.inr (.inr ⟨HD.out, _, rfl⟩), hW.out⟩
    · have hkk : k = t.size := by omega
      subst hkk
      rw [List.drop_eq_nil_of_le (by omega)] at hdec
      have HD := Lib.hid hdec
      clear hdec
      go_wp2
      go_ret2
      exact ⟨.inl ⟨by rw [HD.out]; exact a0, by rw [HD.out]; rfl⟩, hW.out⟩

set_option maxHeartbeats 8000000 in
set_option maxRecDepth 100000 in
theorem pu_16 (t : ByteArray) (hne : t.size ≠ 0) (hs : t.size ≤ 1000000) (w : World) : Calls Tryz.prog 167 #[.string t, .int .i64 16, .int .i64 31] w (PuPost (puGo 16 (byts t) 0) w) := by
  have hemp : t.toList.isEmpty = false := by
    rw [← decide_eq_emptyBytes]
    exact decide_eq_false (fun h => hne (by rw [h]; rfl))
  have hcv := Lib.run_convert_string_bytes (P := Tryz.prog) w 9 49 5 t (u := .string) Tryz.underlying9 Tryz.underlying49 Tryz.underlying5
  have hB : ∀ j, j < t.size → (Lib.bytesWorld w 5 t).cell? ⟨w.heap.size, j, none⟩ = some (.int .u8 ((byts t).getD j 0)) := fun j hj => by
    rw [Lib.bytesWorld_cell w 5 t j hj, ← bt_byts]; rfl
  have hW := Lib.hid (Lib.bytesWorld_below w 5 t)
  obtain ⟨W1, hW1⟩ : ∃ W1, W1 = Lib.bytesWorld w 5 t := ⟨_, rfl⟩
  rw [← hW1] at hcv hB hW
  clear hW1
  have hby := byt_at t
  have hLn := byts_len t
  obtain ⟨L, hL⟩ : ∃ L, L = byts t := ⟨_, rfl⟩
  rw [← hL] at hB hby hLn ⊢
  clear hL
  have hmv : IntKind.u64.wrap (IntKind.u64.wrap 2147483648 - 1) = 2147483647 := by
    rw [IntKind.wrap_u64, IntKind.wrap_u64]
    decide
  go_enter Tryz.func167, Tryz.ntmps167
  go_wp2
  go_loop [12, 13, 101] (fun vu vn vi => ∃ (k : Nat) (a : Int), vu = .bool false ∧ vn = .int .u64 a ∧ vi = .int .i64 k ∧ k ≤ t.size ∧ Hid (PuRel 16 L k a)) (fun _ _ vi => t.size - (intOf vi).toNat)
  case atStart => exact ⟨0, 0, rfl, rfl, rfl, by omega, Lib.hid ⟨by omega, by omega, rfl⟩⟩
  case round =>
    obtain ⟨k, a, rfl, rfl, rfl, hk, hh⟩ := hrel
    obtain ⟨a0, a1, hdec⟩ := hh.out
    clear hh
    by_cases hkn : k < t.size
    · have hc := hB k hkn
      have hb := hby k
      rw [drop_cons L k (by omega), puGo_cons] at hdec
      generalize L.getD k 0 = c at hc hdec hb
      obtain ⟨c0, c1⟩ := hb
      clear hB hby
      by_cases hdig : 48 ≤ c ∧ c ≤ 57
      · obtain ⟨hd0, hd1⟩ := hdig
        have hd : dig c = c - 48 := by unfold dig; rw [if_pos ⟨hd0, hd1⟩]
        rw [hd, if_pos (by omega)] at hdec
        by_cases hov : 2147483647 < a * 16 + (c - 48)
        · rw [if_pos hov] at hdec
          have HD := Lib.hid hdec
          clear hdec hd
          go_wp2
          go_ret2
          exact ⟨.inr (.inl ⟨HD.out, _, rfl⟩), hW.out⟩
        · rw [if_neg hov] at hdec
          have HN : Hid (PuRel 16 L (k + 1) (a * 16 + (c - 48))) := Lib.hid ⟨by omega, by omega, hdec⟩
          have iov : a * 16 + (c - 48) ≤ 2147483647 := by omega
          clear hdec hd hov
          go_wp2
          refine ⟨⟨k + 1, a * 16 + (c - 48), rfl, (by first | rfl | (congr 1; omega)), (by first | rfl | (congr 1; omega)), by omega, HN⟩, by simp [intOf]; omega⟩
      · have hl := low_eq c c0 c1

        by_cases hx : (97 ≤ c ∧ c ≤ 102) ∨ (65 ≤ c ∧ c ≤ 70)
        · have hd : dig c = low c - 97 + 10 := by
            unfold dig
            rw [if_neg hdig, hl]
            by_cases h : 97 ≤ c ∧ c ≤ 102
            · rw [if_pos h, if_pos (by omega)]; omega
            · rw [if_neg h, if_pos (by omega), if_neg (by omega)]; omega
          have x0 : 97 ≤ low c := by rw [hl]; split <;> omega
          have x1 : low c ≤ 102 := by rw [hl]; split <;> omega
          have n0 : decide (48 ≤ c) = true := by rw [decide_eq_true_eq]; omega
          have n1 : decide (c ≤ 57) = false := by rw [decide_eq_false_iff_not]; omega
          have n2 : ¬ c = 95 := by omega
          have LW := Lib.hid (low_any c)
          rw [hd] at hdec
          clear hl hdig hx hd c0 c1
          generalize low c = x at *
          rw [if_pos (by omega)] at hdec
          by_cases hov : 2147483647 < a * 16 + (x - 97 + 10)
          · rw [if_pos hov] at hdec
            have HD := Lib.hid hdec
            clear hdec
            go_wp2_with (go_at_call 172; refine (LW.out _).mono ?_; rintro e w' ⟨rfl, rfl⟩)
            go_ret2
            exact ⟨.inr (.inl ⟨HD.out, _, rfl⟩), hW.out⟩
          · rw [if_neg hov] at hdec
            have HN : Hid (PuRel 16 L (k + 1) (a * 16 + (x - 97 + 10))) := Lib.hid ⟨by omega, by omega, hdec⟩
            have iov : a * 16 + (x - 97 + 10) ≤ 2147483647 := by omega
            clear hdec hov
            go_wp2_with (go_at_call 172; refine (LW.out _).mono ?_; rintro e w' ⟨rfl, rfl⟩)
            refine ⟨⟨k + 1, a * 16 + (x - 97 + 10), rfl, (by first | rfl | (congr 1; omega)), (by first | rfl | (congr 1; omega)), by omega, HN⟩, by simp [intOf]; omega⟩
        have hd : ¬ dig c < 16 := by
          unfold dig
          rw [if_neg hdig, if_neg (by omega), if_neg (by omega)]
          omega

        rw [if_neg hd] at hdec
        have HD := Lib.hid hdec
        have LW := Lib.hid (low_any c)
        have y0 : low c < 97 ∨ 122 < low c ∨ (103 ≤ low c ∧ low c ≤ 122) := by
          rw [hl]
          split <;> omega
        have z0 : 0 ≤ low c := by rw [hl]; split <;> omega
        have z1 : low c ≤ 255 := by rw [hl]; split <;> omega
        clear hdec hd hl
        have nd : decide (c ≤ 57) = false ∨ decide (48 ≤ c) = false := by
          rw [decide_eq_false_iff_not, decide_eq_false_iff_not]; omega
        clear hdig
        by_cases h95 : c = 95
        · subst h95
          have y1 : low 95 = 127 := by decide +kernel
          rw [y1] at LW
          clear y0 z0 z1 nd c0 c1 y1
          go_wp2_with (go_at_call 172; refine (LW.out _).mono ?_; rintro e w' ⟨rfl, rfl⟩)
          all_goals go_ret2
          all_goals exact ⟨.inr (.inr ⟨HD.out, _, rfl⟩), hW.out⟩
        generalize low c = x at *
        rcases nd with nd | nd
        · rcases y0 with y0 | y0 | ⟨y0, y1⟩
          all_goals
            go_wp2_with (go_at_call 172; refine (LW.out _).mono ?_; rintro e w' ⟨rfl, rfl⟩)
            all_goals go_ret2
            all_goals exact ⟨.inr (.inr ⟨HD.out, _, rfl⟩), hW.out⟩
        · rcases y0 with y0 | y0 | ⟨y0, y1⟩
          all_goals
            go_wp2_with (go_at_call 172; refine (LW.out _).mono ?_; rintro e w' ⟨rfl, rfl⟩)
            all_goals go_ret2
            all_goals exact ⟨.inr (.inr ⟨HD.out, _, rfl⟩), hW.out⟩
    · have hkk : k = t.size := by omega
      subst hkk
      rw [List.drop_eq_nil_of_le (by omega)] at hdec
      have HD := Lib.hid hdec
      clear hdec
      go_wp2
      go_ret2
      exact ⟨.inl ⟨by rw [HD.out]; exact a0, by rw [HD.out]; rfl⟩, hW.out⟩
end Go.Proofs.YtkeilgompipfjaaGreatDoor

/- The walks of strconv's errors (Clone, syntaxError, rangeError, toError) and of strconv.ParseUint. -/
set_option linter.unusedSimpArgs false
set_option linter.unusedVariables false
namespace Go.Proofs.YtkeilgompipfjaaGreatDoor
open Go.RowKit

theorem info5 : (Tryz.prog.info? 5).map (fun i => (i.zero, i.size, i.bytes)) = some (some (.int .u8 0), 1, 1) := by kernel_rfl

/-- The library's two variables hold errors. -/
def Vars (w : World) : Prop := 8 ≤ w.heap.size ∧ (∃ t p, w.cell? ⟨6, 0, none⟩ = some (.iface t p)) ∧ (∃ t p, w.cell? ⟨7, 0, none⟩ = some (.iface t p))
theorem Vars.keep {w w' : World} {B : Nat} (h : Vars w) (hb : Below B w w') (hB : 8 ≤ B) : Vars w' := by
  obtain ⟨h1, ⟨t, p, h2⟩, t', p', h3⟩ := h
  exact ⟨Nat.le_trans h1 hb.size, ⟨t, p, (hb.cell (p := ⟨6, 0, none⟩) (show 6 < B by omega)).trans h2⟩, t', p', (hb.cell (p := ⟨7, 0, none⟩) (show 7 < B by omega)).trans h3⟩

set_option maxHeartbeats 2000000 in
set_option maxRecDepth 100000 in
theorem clone_any (s : ByteArray) (w : World) (hlim : s.size ≤ 1000000) :
    Calls Tryz.prog 115 #[.string s] w fun e w' => e = .returned (.string s) ∧ Below w.heap.size w w' := by
  by_cases h0 : s.size = 0
  · have hs : s = ⟨#[]⟩ := by
      apply ByteArray.ext
      exact Array.eq_empty_of_size_eq_zero h0
    subst hs
    go_enter Tryz.func115, Tryz.ntmps115
    go_wp2
    go_ret
    exact ⟨rfl, Below.refl _ _⟩
  · obtain ⟨i0, hi, hz0, hz1, hz2⟩ := info_parts info5
    have hinfo : (Tryz.prog.info? 5).map (·.size) = some 1 := by rw [hi]; simp [hz1]
    have hco : Tryz.prog.cellsOf 5 = 1 := by kernel_rfl
    obtain ⟨M, hM⟩ : ∃ M, M = madeCells (Value.int .u8 0).cells (((s.size : Nat) : Int).toNat * i0.size) := ⟨_, rfl⟩
    have hMs : M.size = s.size := by rw [hM, size_madeCells, hz1]; simp
    have hmk : ∀ W : World, (Instr.makeSlice 49 (.int .i64 (s.size : Int)) (.int .i64 (s.size : Int))).run Tryz.prog W = .ok (.slice (some ⟨W.heap.size, 0, none⟩) s.size s.size) (W.alloc (.cells M 5)) := fun W => by
      have h := run_make (P := Tryz.prog) W 49 5 i0 (.int .u8 0) Tryz.underlying49 hi hz0 .i64 .i64 (s.size : Int) (s.size : Int) (by omega) (by omega) (by rw [hz2]; omega) (by omega)
      rw [← hM] at h
      simpa using h
    clear hM
    have hcp := Lib.run_copy_row_string (P := Tryz.prog) (w.alloc (.cells M 5)) 49 9 3 5 w.heap.size 0 s.size s.size s M 5 Tryz.underlying49 hinfo (heap_alloc_new w _) (Nat.le_refl _) (by omega)
    obtain ⟨Y, hY⟩ : ∃ Y, Y = (M.toList.take 0 ++ Lib.byteCells s.data.toList ++ M.toList.drop (0 + s.size)).toArray := ⟨_, rfl⟩
    rw [← hY] at hcp
    have hYl : Y.toList = Lib.byteCells s.data.toList := by
      rw [hY, List.toList_toArray, List.take_zero, List.nil_append, List.drop_of_length_le (by rw [Array.length_toList]; omega), List.append_nil]
    have hYs : Y.size = s.size := by rw [← Array.length_toList, hYl, Lib.byteCells_length, ← Lib.size_eq]
    have hgY : ((w.alloc (.cells M 5)).setRow w.heap.size Y).heap[w.heap.size]? = some (.cells Y 5 (0, 0)) := setRow_heap _ _ M _ 5 (0, 0) (heap_alloc_new w _)
    have hne : s.data.toList ≠ [] := fun e => h0 (by rw [Lib.size_eq, e]; rfl)
    have hUS := Lib.run_unsafeString_row (P := Tryz.prog) ((w.alloc (.cells M 5)).setRow w.heap.size Y) 185 3 9 5 Tryz.underlying185 hco w.heap.size Y.size (by unfold World.shape?; rw [hgY]) s.data.toList hne (by rw [← Lib.size_eq]; omega) (by rw [← Lib.size_eq]; omega)
      (fun j x hx => Lib.cells_of_row hgY Y.size j _ (by rw [List.take_of_length_le (by rw [Array.length_toList]; exact Nat.le_refl _), hYl]; simp [Lib.byteCells, hx]))
    rw [← Lib.size_eq] at hUS
    clear hY
    go_enter Tryz.func115, Tryz.ntmps115
    go_wp2
    go_ret
    have hb1 : Below w.heap.size w (w.alloc (.cells M 5)) := (Below.refl _ w).alloc (Nat.le_refl _) _
    have hb2 : Below w.heap.size (w.alloc (.cells M 5)) ((w.alloc (.cells M 5)).setRow w.heap.size Y) := ⟨rfl, rfl, rfl, by simp, fun k hk => setRow_other _ _ _ _ (by omega)⟩
    exact ⟨rfl, Lib.below_freeze (hb1.trans hb2) (p := ⟨w.heap.size, 0, none⟩) (Nat.le_refl _) _⟩

set_option maxHeartbeats 4000000 in
set_option maxRecDepth 100000 in
theorem syn_any (fn s : ByteArray) (te : TypeId) (pe : Value) (w : World) (hlim : s.size ≤ 1000000) (hv : w.cell? ⟨6, 0, none⟩ = some (.iface te pe)) :
    Calls Tryz.prog 174 #[.string fn, .string s] w fun e w' => ∃ n, e = .returned (.pointer (some ⟨n, 0, none⟩)) ∧ Below w.heap.size w w' := by
  have hG : 6 < w.heap.size := Lib.lt_of_cell hv
  have hvd : w.drew.cell? ⟨6, 0, none⟩ = some (.iface te pe) := hv
  go_enter Tryz.func174, Tryz.ntmps174
  go_wp2
  go_region_with (
      go_at_call 115
      refine (clone_any s _ hlim).mono ?_
      rintro e w2 ⟨rfl, hbel⟩
      have hv2 : w2.cell? ⟨6, 0, none⟩ = some (.iface te pe) := (hbel.cell (show (⟨6, 0, none⟩ : Addr).block < w.drew.heap.size from hG)).trans hvd)
  all_goals (
    go_wp2
    go_ret
    have hs2 : w.heap.size ≤ w2.heap.size := hbel.size
    exact ⟨_, rfl, ((Below.drew (Below.refl _ w)).trans hbel).alloc hs2 _⟩)

set_option maxHeartbeats 4000000 in
set_option maxRecDepth 100000 in
theorem rng_any (fn s : ByteArray) (te : TypeId) (pe : Value) (w : World) (hlim : s.size ≤ 1000000) (hv : w.cell? ⟨7, 0, none⟩ = some (.iface te pe)) :
    Calls Tryz.prog 175 #[.string fn, .string s] w fun e w' => ∃ n, e = .returned (.pointer (some ⟨n, 0, none⟩)) ∧ Below w.heap.size w w' := by
  have hG : 7 < w.heap.size := Lib.lt_of_cell hv
  have hvd : w.drew.cell? ⟨7, 0, none⟩ = some (.iface te pe) := hv
  go_enter Tryz.func175, Tryz.ntmps175
  go_wp2
  go_region_with (
      go_at_call 115
      refine (clone_any s _ hlim).mono ?_
      rintro e w2 ⟨rfl, hbel⟩
      have hv2 : w2.cell? ⟨7, 0, none⟩ = some (.iface te pe) := (hbel.cell (show (⟨7, 0, none⟩ : Addr).block < w.drew.heap.size from hG)).trans hvd)
  all_goals (
    go_wp2
    go_ret
    have hs2 : w.heap.size ≤ w2.heap.size := hbel.size
    exact ⟨_, rfl, ((Below.drew (Below.refl _ w)).trans hbel).alloc hs2 _⟩)

theorem c91 : (Tryz.prog.info? 235).map (·.comparable) = some true := by kernel_rfl
set_option maxHeartbeats 2000000 in
set_option maxRecDepth 100000 in
theorem toerr_syn (fn s : ByteArray) (base bits : Int) (w : World) (hlim : s.size ≤ 1000000) (hV : Vars w) :
    Calls Tryz.prog 168 #[.string fn, .string s, .int .i64 base, .int .i64 bits, .iface 235 (.int .i64 2)] w fun e w' => ∃ n, e = .returned (.iface 237 (.pointer (some ⟨n, 0, none⟩))) ∧ Below w.heap.size w w' := by
  have heq : ∀ W, (binOp .eql 199 (.iface 235 (.int .i64 2)) (.iface 235 (.int .i64 2))).run Tryz.prog W = .ok (.bool true) W := fun W => Lib.run_eql_iface_int W 2 2 Tryz.underlying199 c91 Tryz.underlying235
  obtain ⟨_, ⟨te, pe, hv⟩, _⟩ := hV
  go_enter Tryz.func168, Tryz.ntmps168
  go_wp2_with (go_at_call 174; refine (syn_any fn s te pe _ hlim hv).mono ?_)
  rintro e w2 ⟨n, rfl, h3⟩
  go_wp2
  go_ret
  exact ⟨n, rfl, h3⟩
set_option maxHeartbeats 2000000 in
set_option maxRecDepth 100000 in
theorem toerr_rng (fn s : ByteArray) (base bits : Int) (w : World) (hlim : s.size ≤ 1000000) (hV : Vars w) :
    Calls Tryz.prog 168 #[.string fn, .string s, .int .i64 base, .int .i64 bits, .iface 235 (.int .i64 1)] w fun e w' => ∃ n, e = .returned (.iface 237 (.pointer (some ⟨n, 0, none⟩))) ∧ Below w.heap.size w w' := by
  have heq : ∀ W, (binOp .eql 199 (.iface 235 (.int .i64 1)) (.iface 235 (.int .i64 1))).run Tryz.prog W = .ok (.bool true) W := fun W => Lib.run_eql_iface_int W 1 1 Tryz.underlying199 c91 Tryz.underlying235
  have heq2 : ∀ W, (binOp .eql 199 (.iface 235 (.int .i64 1)) (.iface 235 (.int .i64 2))).run Tryz.prog W = .ok (.bool false) W := fun W => Lib.run_eql_iface_int W 1 2 Tryz.underlying199 c91 Tryz.underlying235
  obtain ⟨_, _, te, pe, hv⟩ := hV
  go_enter Tryz.func168, Tryz.ntmps168
  go_wp2_with (go_at_call 175; refine (rng_any fn s te pe _ hlim hv).mono ?_)
  rintro e w2 ⟨n, rfl, h3⟩
  go_wp2
  go_ret
  exact ⟨n, rfl, h3⟩

/-- What ParseUint answers. -/
def PPost (x : Int) (w : World) (e : Ending) (w' : World) : Prop :=
  ((0 ≤ x ∧ e = .returned (.tuple #[.int .u64 x, .nilIface])) ∨ (x = -1 ∧ ∃ (y : Int) (n : Nat), e = .returned (.tuple #[.int .u64 y, .iface 237 (.pointer (some ⟨n, 0, none⟩))]))) ∧ Below w.heap.size w w'
set_option maxHeartbeats 2000000 in
set_option maxRecDepth 100000 in
theorem parse_of (t : ByteArray) (b x : Int) (w : World) (hlim : t.size ≤ 1000000) (hV : Vars w) (C : Hid (Calls Tryz.prog 167 #[.string t, .int .i64 b, .int .i64 31] w (PuPost x w))) :
    Calls Tryz.prog 162 #[.string t, .int .i64 b, .int .i64 31] w (PPost x w) := by
  go_enter Tryz.func162, Tryz.ntmps162
  go_wp2_with (go_at_call 167; refine C.out.mono ?_)
  rintro e w1 ⟨h, hb⟩
  have hV1 := hV.keep hb hV.1
  clear C hV
  rcases h with ⟨h0, rfl⟩ | ⟨h0, y, rfl⟩ | ⟨h0, y, rfl⟩
  · have HX := Lib.hid h0
    clear h0
    go_wp2
    go_ret2
    exact ⟨.inl ⟨HX.out, rfl⟩, hb⟩
  · have HX := Lib.hid h0
    clear h0
    go_wp2_with (go_at_call 168; refine (toerr_rng _ _ _ _ _ hlim hV1).mono ?_)
    rintro e w2 ⟨n, rfl, hb2⟩
    go_wp2
    go_ret2
    exact ⟨.inr ⟨HX.out, y, n, rfl⟩, hb.trans (hb2.mono hb.size)⟩
  · have HX := Lib.hid h0
    clear h0
    go_wp2_with (go_at_call 168; refine (toerr_syn _ _ _ _ _ hlim hV1).mono ?_)
    rintro e w2 ⟨n, rfl, hb2⟩
    go_wp2
    go_ret2
    exact ⟨.inr ⟨HX.out, y, n, rfl⟩, hb.trans (hb2.mono hb.size)⟩
theorem pu_any (t : ByteArray) (b : Int) (hb : b = 10 ∨ b = 16) (hs : t.size ≤ 1000000) (w : World) :
    Calls Tryz.prog 167 #[.string t, .int .i64 b, .int .i64 31] w (PuPost (if t.size = 0 then -1 else puGo b (byts t) 0) w) := by
  by_cases h0 : t.size = 0
  · rw [if_pos h0]
    have hs : t = ⟨#[]⟩ := by
      apply ByteArray.ext
      exact Array.eq_empty_of_size_eq_zero h0
    subst hs
    exact pu_empty b w
  · rw [if_neg h0]
    rcases hb with rfl | rfl
    · exact pu_10 t h0 hs w
    · exact pu_16 t h0 hs w
theorem parse_any (t : ByteArray) (b : Int) (hb : b = 10 ∨ b = 16) (w : World) (hs : t.size ≤ 1000000) (hV : Vars w) :
    Calls Tryz.prog 162 #[.string t, .int .i64 b, .int .i64 31] w (PPost (if t.size = 0 then -1 else puGo b (byts t) 0) w) :=
  parse_of t b _ w hs hV (Lib.hid (pu_any t b hb hs w))
end Go.Proofs.YtkeilgompipfjaaGreatDoor

/- The walk of utf.add: a rune's bytes behind a slice of the call's own. -/
set_option linter.unusedSimpArgs false
set_option linter.unusedVariables false
namespace Go.Proofs.YtkeilgompipfjaaGreatDoor
open Go.RowKit

theorem Tryz.info5 : (Tryz.prog.info? 5).map (fun i => (i.zero, i.size, i.bytes)) = some (some (.int .u8 0), 1, 1) := by kernel_rfl
/-- A slice of bytes of the call's own: from block B on. -/
def OwnB (w : World) (B : Nat) (v : Value) (l : List Int) : Prop := w.ownsRow B 5 1 v l.length (l.map (Value.int .u8))
theorem add_post {w w' : World} {B : Nat} {v v' : Value} {xs ys : List Int} {o : Obj} (hB : B ≤ w.heap.size) (hown : OwnB w B v xs)
    (h : w'.ownsRow B 5 1 v' (xs.length + ys.length) (xs.map (Value.int .u8) ++ ys.map (Value.int .u8))) (hg : (w.alloc o).grownBy w' v.ownBlock) : OwnB w' B v' (xs ++ ys) ∧ Below B w w' := by
  refine ⟨?_, ?_⟩
  · unfold OwnB; rw [List.map_append, List.length_append]; exact h
  · exact ((Below.refl B w).alloc hB o).grown hg (by simp; omega) (fun g hg => (World.ownsRow.lt hown g hg).1)

theorem Blk0 (w : World) (t : TypeId) (cs : Array Value) (i : Nat) : (w.alloc (.cells cs t)).cell? ⟨w.heap.size, i, none⟩ = cs[i]? := cell_of_row _ _ i cs t (0, 0) (heap_alloc_new w _)
theorem lit_cells (w : World) (cs : Array Value) (e : TypeId) : ∀ (j : Nat) (u : Value), cs.toList[j]? = some u → (w.alloc (.cells cs e)).cell? ((⟨w.heap.size, 0, none⟩ : Addr).add j) = some u := by
  intro j u h
  have hc := (Blk0 w e cs) j
  unfold Addr.add
  by_cases h0 : j = 0
  · subst h0
    simpa [hc] using h
  · simpa [h0, hc] using h
end Go.Proofs.YtkeilgompipfjaaGreatDoor
