/-
  Merged by program out of the texts Str, Leaf, Begins, Small, CLeaf of one seat.
-/
import Derived.Test.YtmbghdpoeahnaaaGreatDoorG01
import Derived.Test.YtmbghdpoeahnaaaGreatDoorG02
import Derived.Test.YtmbghdpoeahnaaaGreatDoorProg
import Derived.WalkKit
import Derived.WalkSpells
import Derived.WalkLawsBesides
import Derived.Deep.QuietTactic
import Derived.BigQuiet
import Derived.Laws.Externs
import Derived.Lib.Bytealg

/- Strings as lists of bytes: Rune, All and Whole by them. -/
set_option linter.unusedSimpArgs false
set_option linter.unusedVariables false
namespace Go.Proofs.YtmbghdpoeahnaaaGreatDoor

def byts (s : ByteArray) : List Int := s.data.toList.map fun b => (b.toNat : Int)
theorem byts_len (s : ByteArray) : (byts s).length = s.size := by simp [byts]
theorem byts_nn (s : ByteArray) : NN (byts s) := fun x hx => by
  obtain ⟨b, _, rfl⟩ := List.mem_map.1 hx
  omega
theorem bt_byts (s : ByteArray) (k : Nat) : bt s k = (byts s).getD k 0 := by
  unfold bt byts
  simp only [List.getD_eq_getElem?_getD, List.getElem?_map]
  cases s.data.toList[k]? <;> simp
theorem runeF_dec (s : ByteArray) (a : Nat) (h : a < s.size) : runeF s a = dec1 ((byts s).drop a) := by
  unfold runeF dec1
  rw [if_neg (by omega), Int.toNat_natCast, List.length_drop, byts_len]
  congr 1
  funext k
  rw [bt_byts]
  simp [List.getD_eq_getElem?_getD, List.getElem?_drop]
theorem allGo_dec (s : ByteArray) : ∀ (f a : Nat), a ≤ s.size →
    allGo s f a = ((decL f ((byts s).drop a)).1, ((a + (decL f ((byts s).drop a)).2.1 : Nat) : Int), (decL f ((byts s).drop a)).2.2)
  | 0, a, h => by simp [allGo, decL]
  | f + 1, a, h => by
    by_cases hlt : a < s.size
    · have hne : (byts s).drop a ≠ [] := by
        intro e
        have := congrArg List.length e
        rw [List.length_drop, byts_len] at this
        simp at this
        omega
      by_cases he : (runeF s a).2.2 = 0
      · rw [allGo_ok s f a hlt he]
        have hk := runeF_okay s a hlt
        have hn : (runeF s a).2.1.toNat ≤ s.size - a := by
          rcases hk with hk | hk
          · omega
          · omega
        rw [runeF_dec s a hlt] at he hn ⊢
        rw [decL_ok f _ hne he, allGo_dec s f _ (by omega)]
        simp [Nat.add_assoc]
      · rw [allGo_err s f a hlt he]
        rw [runeF_dec s a hlt] at he ⊢
        rw [decL_err f _ hne he]
        simp
    · rw [allGo_done s _ a (by omega)]
      have : (byts s).drop a = [] := List.drop_of_length_le (by rw [byts_len]; omega)
      rw [this, decL_nil]
      simp
theorem allF_dec (s : ByteArray) : allF s = ((decF (byts s)).1, ((decF (byts s)).2.1 : Int), (decF (byts s)).2.2) := by
  unfold allF decF
  rw [allGo_dec s s.size 0 (by omega), byts_len]
  simp

theorem ofNat_toNat (x : Int) (h0 : 0 ≤ x) (h1 : x ≤ 255) : ((UInt8.ofNat x.toNat).toNat : Int) = x := by
  rw [UInt8.toNat_ofNat']
  omega
theorem byts_str (l : List Int) (h : NN l) (h1 : ∀ x ∈ l, x ≤ 255) : byts (strOfNums l) = l := by
  unfold byts
  rw [strOfNums_data, List.map_map]
  conv => rhs; rw [← List.map_id l]
  refine List.map_congr_left fun x hx => ?_
  simp only [Function.comp]
  exact ofNat_toNat x (h x hx) (h1 x hx)
theorem byts_inj {s t : ByteArray} (h : byts s = byts t) : s = t := by
  unfold byts at h
  have hl := congrArg List.length h
  simp only [List.length_map] at hl
  have : s.data.toList = t.data.toList := by
    refine List.ext_getElem hl fun i h1 h2 => ?_
    have := congrArg (fun l => l[i]?) h
    simp only [List.getElem?_map, List.getElem?_eq_getElem h1, List.getElem?_eq_getElem h2, Option.map_some, Option.some.injEq] at this
    exact UInt8.toNat_inj.1 (by omega)
  cases s; cases t
  simp only [ByteArray.mk.injEq] at this ⊢
  exact Array.toList_inj.1 this
theorem byts_extract (s : ByteArray) (a b : Nat) : byts (s.extract a b) = ((byts s).take b).drop a := by
  unfold byts
  rw [ByteArray.data_extract, Array.toList_extract, List.extract_eq_take_drop, List.map_take, List.map_drop, List.drop_take]
end Go.Proofs.YtmbghdpoeahnaaaGreatDoor

/- Walks: what utf's small functions return (lead, span, follow, possible), whatever the world. -/
namespace Go.Proofs.YtmbghdpoeahnaaaGreatDoor
open Go.RowKit

theorem i32_or0 (x : Int) (h0 : 0 ≤ x) (h1 : x < 2147483648) : bits .or .i32 x 0 = x := by
  have := bits_join .i32 31 (by decide) wraps_i32 0 x 0 h0 (by omega) h1 (by omega) (by omega) (by omega)
  simpa using this
theorem ret_two {k1 k2 : IntKind} {a b a1 b1 : Int} (h : a = a1) (h1 : b = b1) : Ending.returned (.tuple #[.int k1 a, .int k2 b]) = .returned (.tuple #[.int k1 a1, .int k2 b1]) := by rw [h, h1]
theorem ret_int {k : IntKind} {a b : Int} (h : a = b) : Ending.returned (.int k a) = .returned (.int k b) := by rw [h]
theorem ret_bool {a b : Bool} (h : a = b) : Ending.returned (.bool a) = .returned (.bool b) := by rw [h]

set_option maxHeartbeats 400000 in
theorem span_any (n : Nat) (w : World) (h0 : 1 ≤ n) (h1 : n ≤ 4) : Calls Tryz.prog 120 #[.int .i64 n] w fun e w' => e = .returned (.tuple #[.int .i32 (least n), .int .i32 (most n)]) ∧ w = w' := by
  have h : n = 1 ∨ n = 2 ∨ n = 3 ∨ n = 4 := by omega
  rcases h with rfl | rfl | rfl | rfl
  all_goals
    go_enter Tryz.func120, Tryz.ntmps120
    go_wp2
    go_ret2
    exact ⟨rfl, rfl⟩

set_option maxHeartbeats 400000 in
theorem lead_any (b : Int) (w : World) (h0 : 0 ≤ b) (h1 : b < 256) : Calls Tryz.prog 106 #[.int .u8 b] w fun e w' => e = .returned (.tuple #[.int .i32 (leadR b), .int .i64 (leadN b)]) ∧ w = w' := by
  go_enter Tryz.func106, Tryz.ntmps106
  go_wp2
  all_goals
    go_ret2
    refine ⟨?_, rfl⟩
    simp only [beq_iff_eq, beq_eq_false_iff_ne] at *
    unfold leadR leadN
    refine ret_two ?_ ?_
    · repeat' split
      all_goals omega
    · repeat' split
      all_goals omega

set_option maxHeartbeats 4000000 in
theorem poss_any (r : Int) (k n : Nat) (w : World) (h0 : 0 ≤ r) (h1 : r * p64 (n - k) < 2097152) (hk : 1 ≤ k) (hn : k ≤ n) (h4 : n ≤ 4) :
    Calls Tryz.prog 107 #[.int .i32 r, .int .i64 k, .int .i64 n] w fun e w' => e = .returned (.bool (possB r k n)) ∧ w = w' := by
  have h : (k = 1 ∧ n = 1) ∨ (k = 1 ∧ n = 2) ∨ (k = 2 ∧ n = 2) ∨ (k = 1 ∧ n = 3) ∨ (k = 2 ∧ n = 3) ∨ (k = 3 ∧ n = 3) ∨ (k = 1 ∧ n = 4) ∨ (k = 2 ∧ n = 4) ∨ (k = 3 ∧ n = 4) ∨ (k = 4 ∧ n = 4) := by omega
  rcases h with ⟨rfl, rfl⟩ | ⟨rfl, rfl⟩ | ⟨rfl, rfl⟩ | ⟨rfl, rfl⟩ | ⟨rfl, rfl⟩ | ⟨rfl, rfl⟩ | ⟨rfl, rfl⟩ | ⟨rfl, rfl⟩ | ⟨rfl, rfl⟩ | ⟨rfl, rfl⟩
  all_goals
    simp only [Nat.reduceSub, p64_0, p64_1, p64_2, p64_3] at h1
    have h00 := i32_or0 r h0 (by omega)
    go_enter Tryz.func107, Tryz.ntmps107
    go_wp2
    all_goals
      go_ret
      refine ⟨ret_bool (possB_eq _ _ _ _ ?_).symm, rfl⟩
      simp only [Nat.reduceSub, p64_0, p64_1, p64_2, p64_3, least1, least2, least3, least4, most1, most2, most3, most4, decide_eq_true_eq, Bool.false_eq_true, iff_false]
      first
        | omega
        | (simp only [iff_true]; omega)
        | (simp; omega)

set_option maxHeartbeats 400000 in
theorem poss_zero (r : Int) (k : Int) (w : World) :
    Calls Tryz.prog 107 #[.int .i32 r, .int .i64 k, .int .i64 0] w fun e w' => e = .returned (.bool false) ∧ w = w' := by
  go_enter Tryz.func107, Tryz.ntmps107
  go_wp2
  go_ret
  exact ⟨rfl, rfl⟩
end Go.Proofs.YtmbghdpoeahnaaaGreatDoor

/- The walk of the document's begins. -/
set_option linter.unusedSimpArgs false
set_option linter.unusedVariables false
namespace Go.Proofs.YtmbghdpoeahnaaaGreatDoor
open Go.RowKit

theorem below_drewN {B : Nat} {w w' : World} (h : Below B w w') (n : Nat) : Below B w (w'.drewN n) := ⟨h.os, h.tape, h.output, h.size, h.block⟩
def begP (s : ByteArray) (a : Nat) (L : List Int) : Prop := 0 < L.length ∧ a + L.length ≤ s.size ∧ ∀ j, j < L.length → bt s (a + j) = L.getD j 0
def BegRel (s : ByteArray) (a : Nat) (L : List Int) (w : World) (i : Value) (wr : World) : Prop :=
  ∃ k : Nat, k ≤ L.length ∧ i = .int .i64 k ∧ (∀ j, j < k → bt s (a + j) = L.getD j 0) ∧ Below w.heap.size w wr
def BegPost (s : ByteArray) (a : Nat) (L : List Int) (w : World) (e : Ending) (w' : World) : Prop :=
  ∃ b : Bool, e = .returned (.bool b) ∧ (b = true ↔ begP s a L) ∧ Below w.heap.size w w'

set_option maxHeartbeats 1000000 in
set_option maxRecDepth 100000 in
theorem begins_post (s : ByteArray) (a : Nat) (A : Option Addr) (c : Nat) (L : List Int) (w : World) (h : Rd .u8 w w.heap.size A L) (hs : s.size ≤ 100000) (hL : L.length ≤ 100000) (ha : a ≤ 100000) :
    Calls Tryz.prog 40 #[.string s, .int .i64 a, .slice A L.length c] w (BegPost s a L w) := by
  obtain ⟨n, hn⟩ : ∃ n, n = L.length := ⟨_, rfl⟩
  rw [← hn]
  have HN := Lib.hid hn
  have hn1 : n ≤ L.length := by omega
  have hn2 : L.length ≤ n := by omega
  clear hn
  by_cases h0 : n = 0
  · have t0 : ((n : Int) == 0) = true := by simp; omega
    have HP : Hid (¬ begP s a L) := fun hp => by have := hp.1; omega
    clear h0
    go_enter Tryz.func40, Tryz.ntmps40
    go_wp2
    go_ret
    exact ⟨false, rfl, by simp; exact HP.out, Below.refl _ _⟩
  have t0 : ((n : Int) == 0) = false := by simp; omega
  by_cases h1 : s.size < a + n
  · have t1 : decide ((s.size : Int) < (a : Int) + (n : Int)) = true := by simp; omega
    have HP : Hid (¬ begP s a L) := fun hp => by have := hp.2.1; omega
    clear h0
    go_enter Tryz.func40, Tryz.ntmps40
    go_wp2
    go_ret
    exact ⟨false, rfl, by simp; exact HP.out, Below.refl _ _⟩
  have t1 : decide ((s.size : Int) < (a : Int) + (n : Int)) = false := by simp; omega
  have hfit : a + n ≤ s.size := by omega
  have hpos : 0 < n := by omega
  clear h0 h1
  go_enter Tryz.func40, Tryz.ntmps40
  go_wp2_with fail
  go_loopw [7] (fun i wr => BegRel s a L w i wr) (fun i _ => L.length - (intOf i).toNat)
  case atStart => exact ⟨0, Nat.zero_le _, rfl, fun j hj => by omega, Below.refl _ _⟩
  case round =>
    obtain ⟨k, hk, rfl, hall, hbel⟩ := hrel
    have HA := Lib.hid hall
    clear hall
    by_cases hlt : k < n
    · obtain ⟨b, off, rfl, hb, hc⟩ := (h.below hbel).at_ (j := k) (by omega)
      have hbe := bt_eq s (a + k) (by omega)
      have hi1 : (a : Int) + (k : Int) < (s.size : Int) := by omega
      have hi2 : (k : Int) < (n : Int) := by omega
      by_cases he : bt s (a + k) = L.getD k 0
      · have HR : Hid (∀ j, j < k + 1 → bt s (a + j) = L.getD j 0) := fun j hj => by
          rcases Nat.lt_or_ge j k with hj' | hj'
          · exact HA.out j hj'
          · obtain rfl : j = k := by omega
            exact he
        have te : ((s[a + k].toNat : Int) != L.getD k 0) = false := by rw [hbe]; simpa using he
        clear he hbe HA
        generalize L.getD k 0 = x at *
        go_wp2_with fail
        have q1 : (0 : Int) ≤ (a : Int) + (k : Int) := by omega
        have q3 : ((a : Int) + (k : Int)).toNat = a + k := by omega
        have q2 : IntKind.i64.wrap ((a : Int) + (k : Int)) = (a : Int) + (k : Int) := IntWalk.i64_in _ (by omega)
        go_quiet (fail)
        go_wp2
        go_roundw
        case rel =>
          exact ⟨k + 1, by omega, by go_num, HR.out, below_drewN hbel _⟩
        case measure => simp [intOf]; omega
      · have te : ((s[a + k].toNat : Int) != L.getD k 0) = true := by rw [hbe]; simpa using he
        have HP : Hid (¬ begP s a L) := fun hp => he (hp.2.2 k (by omega))
        clear he hbe
        generalize L.getD k 0 = x at *
        go_wp2_with fail
        have q1 : (0 : Int) ≤ (a : Int) + (k : Int) := by omega
        have q3 : ((a : Int) + (k : Int)).toNat = a + k := by omega
        have q2 : IntKind.i64.wrap ((a : Int) + (k : Int)) = (a : Int) + (k : Int) := IntWalk.i64_in _ (by omega)
        go_quiet (fail)
        go_wp2
        go_ret
        exact ⟨false, rfl, by simp; exact HP.out, below_drewN hbel _⟩
    · have HP : Hid (begP s a L) := ⟨by omega, by omega, fun j hj => HA.out j (by omega)⟩
      go_wp2
      go_ret
      exact ⟨true, rfl, by simp; exact HP.out, hbel⟩

theorem begins_yes (s : ByteArray) (a : Nat) (A : Option Addr) (c : Nat) (L : List Int) (w : World) (h : Rd .u8 w w.heap.size A L) (hs : s.size ≤ 100000) (hL : L.length ≤ 100000) (ha : a ≤ 100000) (hp : begP s a L) :
    Calls Tryz.prog 40 #[.string s, .int .i64 a, .slice A L.length c] w fun e w' => e = .returned (.bool true) ∧ Below w.heap.size w w' :=
  (begins_post s a A c L w h hs hL ha).mono fun e w' ⟨b, h1, h2, h3⟩ => ⟨by rw [h1, h2.2 hp], h3⟩
theorem begins_no (s : ByteArray) (a : Nat) (A : Option Addr) (c : Nat) (L : List Int) (w : World) (h : Rd .u8 w w.heap.size A L) (hs : s.size ≤ 100000) (hL : L.length ≤ 100000) (ha : a ≤ 100000) (hp : ¬ begP s a L) :
    Calls Tryz.prog 40 #[.string s, .int .i64 a, .slice A L.length c] w fun e w' => e = .returned (.bool false) ∧ Below w.heap.size w w' :=
  (begins_post s a A c L w h hs hL ha).mono fun e w' ⟨b, h1, h2, h3⟩ => ⟨by rw [h1, Bool.eq_false_iff.2 fun hb => hp (h2.1 hb)], h3⟩
end Go.Proofs.YtmbghdpoeahnaaaGreatDoor

/- The walks of strings.HasPrefix and CutPrefix at a prefix of one byte, of strings.Cut at a semicolon, and of ref.named. -/
set_option linter.unusedSimpArgs false
set_option linter.unusedVariables false
namespace Go.Proofs.YtmbghdpoeahnaaaGreatDoor
open Go.RowKit

/-- Where the first semicolon stands. -/
def si (s : ByteArray) : Int := Lib.indexByte s.data.toList 59
theorem ib_cases : ∀ (l : List UInt8), (Lib.indexByte l 59 = -1 ∧ (59 : Int) ∉ l.map fun b => (b.toNat : Int)) ∨
    ∃ i : Nat, Lib.indexByte l 59 = i ∧ i < l.length ∧ (59 : Int) ∈ (l.map fun b => (b.toNat : Int)) ∧ bodyOf (l.map fun b => (b.toNat : Int)) = (l.map fun b => (b.toNat : Int)).take i
  | [] => .inl ⟨rfl, by simp⟩
  | b :: l => by
    unfold Lib.indexByte
    by_cases hb : b = 59
    · subst hb
      exact .inr ⟨0, by simp, by simp, by simp, by simp [bodyOf]⟩
    · have hb1 : (b == 59) = false := by simpa using hb
      have hb2 : (b.toNat : Int) ≠ 59 := fun h => hb (UInt8.toNat_inj.1 (by
        have h9 : b.toNat = 59 := by omega
        rw [h9]; rfl))
      rw [hb1]
      rcases ib_cases l with ⟨h1, h2⟩ | ⟨i, h1, h2, h3, h4⟩
      · refine .inl ⟨by rw [h1]; rfl, ?_⟩
        rw [List.map_cons, List.mem_cons]
        rintro (h | h)
        · exact hb2 h.symm
        · exact h2 h
      · refine .inr ⟨i + 1, ?_, by simp; omega, ?_, ?_⟩
        · rw [h1]
          have : (((i : Int)) == -1) = false := by rw [beq_eq_false_iff_ne]; omega
          simp [this]
        · rw [List.map_cons, List.mem_cons]
          exact .inr h3
        · rw [List.map_cons, List.take_succ_cons, ← h4]
          unfold bodyOf
          rw [List.takeWhile_cons, if_pos (by simpa using hb2)]
theorem si_cases (s : ByteArray) : (si s = -1 ∧ (59 : Int) ∉ byts s) ∨ ∃ i : Nat, si s = i ∧ i < s.size ∧ (59 : Int) ∈ byts s ∧ bodyOf (byts s) = (byts s).take i := by
  have := ib_cases s.data.toList
  rw [← Lib.size_eq] at this
  exact this

set_option maxHeartbeats 400000 in
set_option maxRecDepth 100000 in
theorem idxb_any (s : ByteArray) (c : Int) (w : World) :
    Calls Tryz.prog 81 #[.string s, .int .u8 c] w fun e w' => e = .returned (.int .i64 (Lib.indexByte s.data.toList c.toNat.toUInt8)) ∧ w = w' := by
  go_enter Tryz.func81, Tryz.ntmps81
  go_wp2
  rw [run_callFunc_extern Tryz.func104 (by kernel_rfl) (by kernel_rfl) (by kernel_rfl) (e := Extern.BytealgIndexByte.indexByte) (by kernel_rfl), Lib.run_indexByteString]
  simp only [Result.andThen]
  rw [Oper.upon_value]
  go_wp2
  go_ret
  exact ⟨rfl, rfl⟩

set_option maxHeartbeats 1000000 in
set_option maxRecDepth 100000 in
theorem idx_any (s : ByteArray) (w : World) :
    Calls Tryz.prog 65 #[.string s, .string ⟨#[59]⟩] w fun e w' => e = .returned (.int .i64 (si s)) ∧ w = w' := by
  go_enter Tryz.func65, Tryz.ntmps65
  go_wp2_with (go_at_call 81; refine (idxb_any _ _ _).mono ?_; rintro e w' ⟨rfl, rfl⟩)
  · have h : ([59] == s.toList) = true := by assumption
    go_ret
    refine ⟨?_, rfl⟩
    have e : s.data.toList = [59] := by rw [← Lib.toList_data]; exact (beq_iff_eq.1 h).symm
    unfold si
    rw [e]
    rfl
  · go_ret
    exact ⟨rfl, rfl⟩

set_option maxHeartbeats 1000000 in
set_option maxRecDepth 100000 in
theorem lcut_hit (s : ByteArray) (i : Nat) (h : si s = i) (hi : i < s.size) (hs : s.size ≤ 1000000) (w : World) :
    Calls Tryz.prog 119 #[.string s, .string ⟨#[59]⟩] w fun e w' => e = .returned (.tuple #[.string (s.extract 0 i), .string (s.extract (i + 1) s.size), .bool true]) ∧ Below w.heap.size w w' := by
  have CI := Lib.hid (idx_any s)
  rw [h] at CI
  clear h
  have c1 : (0 : Int) ≤ (i : Int) := by omega
  have c2 : (i : Int) ≤ (s.size : Int) := by omega
  have c3 : (0 : Int) ≤ (i : Int) + 1 := by omega
  have c4 : (i : Int) + 1 ≤ (s.size : Int) := by omega
  have c5 : decide ((0 : Int) ≤ (i : Int)) = true := by simp
  have q3 : ((i : Int) + 1).toNat = i + 1 := by omega
  have q2 : IntKind.i64.wrap ((i : Int) + 1) = (i : Int) + 1 := IntWalk.i64_in _ (by omega)
  go_enter Tryz.func119, Tryz.ntmps119
  go_wp2_with (go_at_call 65; refine (CI.out _).mono ?_; rintro e w' ⟨rfl, rfl⟩)
  go_quiet (fail)
  go_wp2
  go_ret3
  exact ⟨rfl, below_drewN (Below.refl _ _) _⟩

set_option maxHeartbeats 1000000 in
set_option maxRecDepth 100000 in
theorem lcut_miss (s : ByteArray) (h : si s = -1) (w : World) :
    Calls Tryz.prog 119 #[.string s, .string ⟨#[59]⟩] w fun e w' => e = .returned (.tuple #[.string s, .string ⟨#[]⟩, .bool false]) ∧ Below w.heap.size w w' := by
  have CI := Lib.hid (idx_any s)
  rw [h] at CI
  clear h
  go_enter Tryz.func119, Tryz.ntmps119
  go_wp2_with (go_at_call 65; refine (CI.out _).mono ?_; rintro e w' ⟨rfl, rfl⟩)
  go_ret3
  exact ⟨rfl, Below.refl _ _⟩

set_option maxHeartbeats 1000000 in
set_option maxRecDepth 100000 in
theorem scut_hit (s : ByteArray) (i : Nat) (h : si s = i) (hi : i < s.size) (hs : s.size ≤ 1000000) (w : World) :
    Calls Tryz.prog 101 #[.string s, .string ⟨#[59]⟩] w fun e w' => e = .returned (.tuple #[.string (s.extract 0 i), .string (s.extract (i + 1) s.size), .bool true]) ∧ Below w.heap.size w w' := by
  have CL := Lib.hid (lcut_hit s i h hi hs)
  clear h hi hs
  go_enter Tryz.func101, Tryz.ntmps101
  go_wp2_with (go_at_call 119; refine (CL.out _).mono ?_; rintro e w' ⟨rfl, hb⟩)
  go_ret3
  exact ⟨rfl, hb⟩
set_option maxHeartbeats 1000000 in
set_option maxRecDepth 100000 in
theorem scut_miss (s : ByteArray) (h : si s = -1) (w : World) :
    Calls Tryz.prog 101 #[.string s, .string ⟨#[59]⟩] w fun e w' => e = .returned (.tuple #[.string s, .string ⟨#[]⟩, .bool false]) ∧ Below w.heap.size w w' := by
  have CL := Lib.hid (lcut_miss s h)
  clear h
  go_enter Tryz.func101, Tryz.ntmps101
  go_wp2_with (go_at_call 119; refine (CL.out _).mono ?_; rintro e w' ⟨rfl, hb⟩)
  go_ret3
  exact ⟨rfl, hb⟩

set_option maxHeartbeats 1000000 in
set_option maxRecDepth 100000 in
theorem pre_no0 (t : ByteArray) (c : UInt8) (w : World) (h : t.size = 0) :
    Calls Tryz.prog 64 #[.string t, .string ⟨#[c]⟩] w fun e w' => e = .returned (.bool false) ∧ w = w' := by
  have e1 : decide ((1 : Int) ≤ (t.size : Int)) = false := by rw [decide_eq_false_iff_not]; omega
  have e2 : decide (1 ≤ t.size) = false := by rw [decide_eq_false_iff_not]; omega
  clear h
  go_enter Tryz.func64, Tryz.ntmps64
  go_wp2
  go_ret
  exact ⟨rfl, rfl⟩
theorem eqB (t : ByteArray) (l : List UInt8) (m : List Int) (hm : (l.map fun b => (b.toNat : Int)) = m) : (t.toList == l) = decide (byts t = m) := by
  subst hm
  rw [Lib.toList_data, Bool.eq_iff_iff, beq_iff_eq, decide_eq_true_eq]
  unfold byts
  constructor
  · intro h; rw [h]
  · intro h
    have hl := congrArg List.length h
    simp only [List.length_map] at hl
    refine List.ext_getElem hl fun i h1 h2 => ?_
    have := congrArg (fun l => l[i]?) h
    simp only [List.getElem?_map, List.getElem?_eq_getElem h1, List.getElem?_eq_getElem h2, Option.map_some, Option.some.injEq] at this
    exact UInt8.toNat_inj.1 (by omega)
theorem take1_iff (l : List Int) (c : Int) (h : 1 ≤ l.length) : (l.take 1 = [c]) ↔ l.getD 0 0 = c := by
  cases l with
  | nil => simp at h
  | cons x y => simp
theorem ext1_eq (t : ByteArray) (c : UInt8) (h : 1 ≤ t.size) : ((t.extract 0 1).toList == [c]) = decide ((byts t).getD 0 0 = (c.toNat : Int)) := by
  rw [eqB _ [c] [(c.toNat : Int)] rfl, byts_extract, List.drop_zero]
  have := take1_iff (byts t) (c.toNat : Int) (by rw [byts_len]; exact h)
  simp only [this]
set_option maxHeartbeats 1000000 in
set_option maxRecDepth 100000 in
theorem pre_more (t : ByteArray) (c : UInt8) (w : World) (h : 1 ≤ t.size) (b : Bool) (hb : b = ((t.extract 0 1).toList == [c])) :
    Calls Tryz.prog 64 #[.string t, .string ⟨#[c]⟩] w fun e w' => e = .returned (.bool b) ∧ w = w' := by
  have e1 : decide ((1 : Int) ≤ (t.size : Int)) = true := by rw [decide_eq_true_eq]; omega
  have e2 : decide (1 ≤ t.size) = true := by rw [decide_eq_true_eq]; omega
  have e3 : (1 : Int) ≤ (t.size : Int) := by omega
  subst hb
  go_enter Tryz.func64, Tryz.ntmps64
  go_wp2
  go_ret
  exact ⟨rfl, rfl⟩
theorem len0 {t : ByteArray} (h : ¬ 1 ≤ t.size) : byts t = [] := List.eq_nil_of_length_eq_zero (by rw [byts_len]; omega)
theorem pre_yes (t : ByteArray) (c : UInt8) (w : World) (hc : c.toNat ≠ 0) (h : (byts t).getD 0 0 = (c.toNat : Int)) :
    Calls Tryz.prog 64 #[.string t, .string ⟨#[c]⟩] w fun e w' => e = .returned (.bool true) ∧ w = w' := by
  by_cases h1 : 1 ≤ t.size
  · exact pre_more t c w h1 true (by rw [ext1_eq t c h1, decide_eq_true h])
  · rw [len0 h1] at h; simp at h; omega
theorem pre_no (t : ByteArray) (c : UInt8) (w : World) (h : (byts t).getD 0 0 ≠ (c.toNat : Int)) :
    Calls Tryz.prog 64 #[.string t, .string ⟨#[c]⟩] w fun e w' => e = .returned (.bool false) ∧ w = w' := by
  by_cases h1 : 1 ≤ t.size
  · exact pre_more t c w h1 false (by rw [ext1_eq t c h1, decide_eq_false h])
  · exact pre_no0 t c w (by omega)

set_option maxHeartbeats 1000000 in
set_option maxRecDepth 100000 in
theorem has_bool (t : ByteArray) (c : UInt8) (b : Bool) (C : Hid (∀ w, Calls Tryz.prog 64 #[.string t, .string ⟨#[c]⟩] w fun e w' => e = .returned (.bool b) ∧ w = w')) (w : World) :
    Calls Tryz.prog 48 #[.string t, .string ⟨#[c]⟩] w fun e w' => e = .returned (.bool b) ∧ w = w' := by
  go_enter Tryz.func48, Tryz.ntmps48
  go_wp2_with (go_at_call 64; refine (C.out _).mono ?_; rintro e w' ⟨rfl, rfl⟩)
  go_ret
  exact ⟨rfl, rfl⟩
theorem has_yes (t : ByteArray) (c : UInt8) (hc : c.toNat ≠ 0) (h : (byts t).getD 0 0 = (c.toNat : Int)) (w : World) :
    Calls Tryz.prog 48 #[.string t, .string ⟨#[c]⟩] w fun e w' => e = .returned (.bool true) ∧ w = w' := has_bool t c true (Lib.hid fun w => pre_yes t c w hc h) w
theorem has_no (t : ByteArray) (c : UInt8) (h : (byts t).getD 0 0 ≠ (c.toNat : Int)) (w : World) :
    Calls Tryz.prog 48 #[.string t, .string ⟨#[c]⟩] w fun e w' => e = .returned (.bool false) ∧ w = w' := has_bool t c false (Lib.hid fun w => pre_no t c w h) w

set_option maxHeartbeats 1000000 in
set_option maxRecDepth 100000 in
theorem lcp_yes (t : ByteArray) (c : UInt8) (hs : 1 ≤ t.size) (C : Hid (∀ w, Calls Tryz.prog 64 #[.string t, .string ⟨#[c]⟩] w fun e w' => e = .returned (.bool true) ∧ w = w')) (w : World) :
    Calls Tryz.prog 63 #[.string t, .string ⟨#[c]⟩] w fun e w' => e = .returned (.tuple #[.string (t.extract 1 t.size), .bool true]) ∧ w = w' := by
  have e3 : (1 : Int) ≤ (t.size : Int) := by omega
  go_enter Tryz.func63, Tryz.ntmps63
  go_wp2_with (go_at_call 64; refine (C.out _).mono ?_; rintro e w' ⟨rfl, rfl⟩)
  go_ret2
  exact ⟨rfl, rfl⟩
set_option maxHeartbeats 1000000 in
set_option maxRecDepth 100000 in
theorem lcp_no (t : ByteArray) (c : UInt8) (C : Hid (∀ w, Calls Tryz.prog 64 #[.string t, .string ⟨#[c]⟩] w fun e w' => e = .returned (.bool false) ∧ w = w')) (w : World) :
    Calls Tryz.prog 63 #[.string t, .string ⟨#[c]⟩] w fun e w' => e = .returned (.tuple #[.string t, .bool false]) ∧ w = w' := by
  go_enter Tryz.func63, Tryz.ntmps63
  go_wp2_with (go_at_call 64; refine (C.out _).mono ?_; rintro e w' ⟨rfl, rfl⟩)
  go_ret2
  exact ⟨rfl, rfl⟩
set_option maxHeartbeats 1000000 in
set_option maxRecDepth 100000 in
theorem cp_of (t r : ByteArray) (b : Bool) (c : UInt8) (C : Hid (∀ w, Calls Tryz.prog 63 #[.string t, .string ⟨#[c]⟩] w fun e w' => e = .returned (.tuple #[.string r, .bool b]) ∧ w = w')) (w : World) :
    Calls Tryz.prog 46 #[.string t, .string ⟨#[c]⟩] w fun e w' => e = .returned (.tuple #[.string r, .bool b]) ∧ w = w' := by
  go_enter Tryz.func46, Tryz.ntmps46
  go_wp2_with (go_at_call 63; refine (C.out _).mono ?_; rintro e w' ⟨rfl, rfl⟩)
  go_ret2
  exact ⟨rfl, rfl⟩
theorem cp_yes (t : ByteArray) (c : UInt8) (hc : c.toNat ≠ 0) (h : (byts t).getD 0 0 = (c.toNat : Int)) (w : World) :
    Calls Tryz.prog 46 #[.string t, .string ⟨#[c]⟩] w fun e w' => e = .returned (.tuple #[.string (t.extract 1 t.size), .bool true]) ∧ w = w' := by
  refine cp_of t _ _ c (Lib.hid fun w => lcp_yes t c ?_ (Lib.hid fun w => pre_yes t c w hc h) w) w
  by_cases h1 : 1 ≤ t.size
  · exact h1
  · rw [len0 h1] at h; simp at h; omega
theorem cp_no (t : ByteArray) (c : UInt8) (h : (byts t).getD 0 0 ≠ (c.toNat : Int)) (w : World) :
    Calls Tryz.prog 46 #[.string t, .string ⟨#[c]⟩] w fun e w' => e = .returned (.tuple #[.string t, .bool false]) ∧ w = w' :=
  cp_of t _ _ c (Lib.hid fun w => lcp_no t c (Lib.hid fun w => pre_no t c w h) w) w

/-- The rune of a name. Below 0: it is none. -/
def nmV (l : List Int) : Int := if l = [108, 116] then 60 else if l = [103, 116] then 62 else if l = [97, 109, 112] then 38 else if l = [97, 112, 111, 115] then 39 else if l = [113, 117, 111, 116] then 34 else -1
def nrV (l : List Int) : Int := if l.getD 0 0 ≠ 35 then -1 else if l.getD 1 0 = 120 then numV 16 (l.drop 2) else numV 10 (l.drop 1)
theorem refV_eq (l : List Int) : refV l = if 0 ≤ nmV l then nmV l else nrV l := by
  unfold refV nmV
  by_cases h1 : l = [108, 116]
  · rw [if_pos h1, if_pos h1]; simp
  rw [if_neg h1, if_neg h1]
  by_cases h2 : l = [103, 116]
  · rw [if_pos h2, if_pos h2]; simp
  rw [if_neg h2, if_neg h2]
  by_cases h3 : l = [97, 109, 112]
  · rw [if_pos h3, if_pos h3]; simp
  rw [if_neg h3, if_neg h3]
  by_cases h4 : l = [97, 112, 111, 115]
  · rw [if_pos h4, if_pos h4]; simp
  rw [if_neg h4, if_neg h4]
  by_cases h5 : l = [113, 117, 111, 116]
  · rw [if_pos h5, if_pos h5]; simp
  rw [if_neg h5, if_neg h5]
  rfl
theorem e_lt (t : ByteArray) : (t.toList == [108, 116]) = decide (byts t = [108, 116]) := eqB t _ _ rfl
theorem e_gt (t : ByteArray) : (t.toList == [103, 116]) = decide (byts t = [103, 116]) := eqB t _ _ rfl
theorem e_amp (t : ByteArray) : (t.toList == [97, 109, 112]) = decide (byts t = [97, 109, 112]) := eqB t _ _ rfl
theorem e_apos (t : ByteArray) : (t.toList == [97, 112, 111, 115]) = decide (byts t = [97, 112, 111, 115]) := eqB t _ _ rfl
theorem e_quot (t : ByteArray) : (t.toList == [113, 117, 111, 116]) = decide (byts t = [113, 117, 111, 116]) := eqB t _ _ rfl
def nmR (x : Int) : Value := .tuple #[.int .i32 (if 0 ≤ x then x else 0), .bool (decide (0 ≤ x))]
set_option maxHeartbeats 1000000 in
set_option maxRecDepth 100000 in
theorem named_any (t : ByteArray) (w : World) : Calls Tryz.prog 121 #[.string t] w fun e w' => e = .returned (nmR (nmV (byts t))) ∧ w = w' := by
  go_enter Tryz.func121, Tryz.ntmps121
  go_wp2
  all_goals
    go_ret2
    refine ⟨?_, rfl⟩
    simp only [e_lt, e_gt, e_amp, e_apos, e_quot, decide_eq_true_eq, decide_eq_false_iff_not] at *
    unfold nmV
    simp only [*, if_true, if_false, List.cons.injEq, reduceCtorEq, and_false, false_and]
    first | rfl | (simp; rfl)
theorem named_yes (t : ByteArray) (r : Int) (hr : nmV (byts t) = r) (h : 0 ≤ r) (w : World) : Calls Tryz.prog 121 #[.string t] w fun e w' => e = .returned (.tuple #[.int .i32 r, .bool true]) ∧ w = w' := by
  have := named_any t w
  rw [hr] at this
  unfold nmR at this
  rw [if_pos h, decide_eq_true h] at this
  exact this
theorem named_no (t : ByteArray) (h : ¬ 0 ≤ nmV (byts t)) (w : World) : Calls Tryz.prog 121 #[.string t] w fun e w' => e = .returned (.tuple #[.int .i32 0, .bool false]) ∧ w = w' := by
  have := named_any t w
  unfold nmR at this
  rw [if_neg h, decide_eq_false h] at this
  exact this
end Go.Proofs.YtmbghdpoeahnaaaGreatDoor

/- Walks: what char's classes return (between, Blank, Char, Start, Part), whatever the world. -/
set_option linter.unusedSimpArgs false
set_option linter.unusedVariables false
namespace Go.Proofs.YtmbghdpoeahnaaaGreatDoor
open Go.RowKit

theorem cret_bool {a b : Bool} (h : a = b) : Ending.returned (.bool a) = .returned (.bool b) := by rw [h]
theorem cbt {p : Prop} [Decidable p] (h : p) : true = decide p := (decide_eq_true h).symm
theorem cbf {p : Prop} [Decidable p] (h : ¬ p) : false = decide p := (decide_eq_false h).symm

set_option maxHeartbeats 400000 in
theorem between_any (r a b : Int) (w : World) : Calls Tryz.prog 86 #[.int .i32 r, .int .i32 a, .int .i32 b] w fun e w' => e = .returned (.bool (decide (Btw r a b))) ∧ w = w' := by
  go_enter Tryz.func86, Tryz.ntmps86
  go_wp2
  all_goals
    go_ret
    refine ⟨cret_bool ?_, rfl⟩
    first
      | refine cbt ?_
      | refine cbf ?_
      | (refine Bool.eq_iff_iff.2 ?_; simp only [decide_eq_true_eq, Bool.or_eq_true, beq_iff_eq])
    simp only [Part, Start, Chr, Blank, Btw] at *
    first
      | omega
      | (constructor <;> intro hq <;> omega)

set_option maxHeartbeats 400000 in
set_option maxRecDepth 100000 in
theorem blank_any (r : Int) (w : World) : Calls Tryz.prog 54 #[.int .i32 r] w fun e w' => e = .returned (.bool (decide (Blank r))) ∧ w = w' := by
  go_enter Tryz.func54, Tryz.ntmps54
  go_wp2
  all_goals
    go_ret
    refine ⟨cret_bool ?_, rfl⟩
    first
      | refine cbt ?_
      | refine cbf ?_
      | (refine Bool.eq_iff_iff.2 ?_; simp only [decide_eq_true_eq, Bool.or_eq_true, beq_iff_eq])
    simp only [Part, Start, Chr, Blank, Btw] at *
    first
      | omega
      | (constructor <;> intro hq <;> omega)

set_option maxHeartbeats 1000000 in
set_option maxRecDepth 100000 in
theorem chr_any (r : Int) (w : World) : Calls Tryz.prog 67 #[.int .i32 r] w fun e w' => e = .returned (.bool (decide (Chr r))) ∧ w = w' := by
  go_enter Tryz.func67, Tryz.ntmps67
  go_wp2_with (first | (go_at_call 54; refine (blank_any _ _).mono ?_; rintro e w' ⟨rfl, rfl⟩) | (go_at_call 86; refine (between_any _ _ _ _).mono ?_; rintro e w' ⟨rfl, rfl⟩))
  all_goals
    go_ret
    refine ⟨cret_bool ?_, rfl⟩
    first
      | refine cbt ?_
      | refine cbf ?_
      | (refine Bool.eq_iff_iff.2 ?_; simp only [decide_eq_true_eq, Bool.or_eq_true, beq_iff_eq])
    simp only [Part, Start, Chr, Blank, Btw] at *
    first
      | omega
      | (constructor <;> intro hq <;> omega)

end Go.Proofs.YtmbghdpoeahnaaaGreatDoor
