/-
  Merged by program out of the texts DRef of one seat.
-/
import Derived.Test.YtaoklhalkfcpfaaGreatDoorG05
import Derived.Test.YtaoklhalkfcpfaaGreatDoorG16
import Derived.Test.YtaoklhalkfcpfaaGreatDoorG09

/- The walks of the document's hex and Ref. -/
set_option linter.unusedSimpArgs false
set_option linter.unusedVariables false
namespace Go.Proofs.YtaoklhalkfcpfaaGreatDoor
open Go.RowKit

set_option maxHeartbeats 1000000 in
set_option maxRecDepth 100000 in
theorem hex_any (c : Int) (w : World) (h0 : 0 ≤ c) (h1 : c ≤ 255) : Calls Tryz.prog 47 #[.int .u8 c] w fun e w' => e = .returned (.int .i64 (dig c)) ∧ w = w' := by
  go_enter Tryz.func47, Tryz.ntmps47
  go_wp2
  all_goals
    go_ret
    refine ⟨ret_int ?_, rfl⟩
    try simp only [decide_eq_true_eq, decide_eq_false_iff_not] at *
    unfold dig
    repeat' split
    all_goals omega


set_option maxHeartbeats 1000000 in
set_option maxRecDepth 100000 in
theorem dref_lt (w : World) : Calls Tryz.prog 32 #[.string ⟨#[108, 116]⟩] w fun e w' => e = .returned (.int .i64 60) ∧ w = w' := by
  go_enter Tryz.func32, Tryz.ntmps32
  go_wp2
  go_ret
  exact ⟨rfl, rfl⟩

set_option maxHeartbeats 1000000 in
set_option maxRecDepth 100000 in
theorem dref_gt (w : World) : Calls Tryz.prog 32 #[.string ⟨#[103, 116]⟩] w fun e w' => e = .returned (.int .i64 62) ∧ w = w' := by
  go_enter Tryz.func32, Tryz.ntmps32
  go_wp2
  go_ret
  exact ⟨rfl, rfl⟩

set_option maxHeartbeats 1000000 in
set_option maxRecDepth 100000 in
theorem dref_amp (w : World) : Calls Tryz.prog 32 #[.string ⟨#[97, 109, 112]⟩] w fun e w' => e = .returned (.int .i64 38) ∧ w = w' := by
  go_enter Tryz.func32, Tryz.ntmps32
  go_wp2
  go_ret
  exact ⟨rfl, rfl⟩

set_option maxHeartbeats 1000000 in
set_option maxRecDepth 100000 in
theorem dref_apos (w : World) : Calls Tryz.prog 32 #[.string ⟨#[97, 112, 111, 115]⟩] w fun e w' => e = .returned (.int .i64 39) ∧ w = w' := by
  go_enter Tryz.func32, Tryz.ntmps32
  go_wp2
  go_ret
  exact ⟨rfl, rfl⟩

set_option maxHeartbeats 1000000 in
set_option maxRecDepth 100000 in
theorem dref_quot (w : World) : Calls Tryz.prog 32 #[.string ⟨#[113, 117, 111, 116]⟩] w fun e w' => e = .returned (.int .i64 34) ∧ w = w' := by
  go_enter Tryz.func32, Tryz.ntmps32
  go_wp2
  go_ret
  exact ⟨rfl, rfl⟩

set_option maxHeartbeats 1000000 in
set_option maxRecDepth 100000 in
theorem dref_short (t : ByteArray) (w : World) (f1 : (t.toList == [108, 116]) = false) (f2 : (t.toList == [103, 116]) = false) (f3 : (t.toList == [97, 109, 112]) = false) (f4 : (t.toList == [97, 112, 111, 115]) = false) (f5 : (t.toList == [113, 117, 111, 116]) = false) (h : t.size < 2) : Calls Tryz.prog 32 #[.string t] w fun e w' => e = .returned (.int .i64 (-1)) ∧ w = w' := by
  have i8 : decide ((t.size : Int) < (2 : Int)) = true := by rw [decide_eq_true_eq]; omega
  have j8 : decide (t.size < 2) = true := by rw [decide_eq_true_eq]; omega
  clear h
  go_enter Tryz.func32, Tryz.ntmps32
  go_wp2
  go_ret
  exact ⟨rfl, rfl⟩
set_option maxHeartbeats 1000000 in
set_option maxRecDepth 100000 in
theorem dref_no (t : ByteArray) (w : World) (f1 : (t.toList == [108, 116]) = false) (f2 : (t.toList == [103, 116]) = false) (f3 : (t.toList == [97, 109, 112]) = false) (f4 : (t.toList == [97, 112, 111, 115]) = false) (f5 : (t.toList == [113, 117, 111, 116]) = false) (h : 2 ≤ t.size) (hs : t.size ≤ 10000) (hc : (((t[0]'(by omega)).toNat : Int) != 35) = true) : Calls Tryz.prog 32 #[.string t] w fun e w' => e = .returned (.int .i64 (-1)) ∧ w = w' := by
  have i8 : decide ((t.size : Int) < (2 : Int)) = false := by rw [decide_eq_false_iff_not]; omega
  have j8 : decide (t.size < 2) = false := by rw [decide_eq_false_iff_not]; omega
  have k1 : (0 : Int) < (t.size : Int) := by omega
  have k2 : 0 < t.size := by omega
  go_enter Tryz.func32, Tryz.ntmps32
  go_wp2
  go_ret
  exact ⟨rfl, rfl⟩
/-- The number up to a place. -/
def DrRel (b : Int) (l : List Int) (j : Nat) (x : List Int) (n : Int) : Prop := 0 ≤ n ∧ n < 16 ^ j ∧ numGo b x n = numGo b l 0
theorem pow_step (j : Nat) (n d : Int) (h : n < 16 ^ j) (hd : d < 16) : n * 16 + d < 16 ^ (j + 1) := by
  rw [Int.pow_succ]; omega
theorem pow_step10 (j : Nat) (n d : Int) (h0 : 0 ≤ n) (h : n < 16 ^ j) (hd : d < 10) : n * 10 + d < 16 ^ (j + 1) := by
  rw [Int.pow_succ]; omega
theorem pow_small (j : Nat) (hj : j ≤ 8) (n : Int) (h : n < 16 ^ j) : n < 4294967296 := by
  have : (16 : Int) ^ j ≤ 16 ^ 8 := by
    match j, hj with
    | 0, _ => decide
    | 1, _ => decide
    | 2, _ => decide
    | 3, _ => decide
    | 4, _ => decide
    | 5, _ => decide
    | 6, _ => decide
    | 7, _ => decide
    | 8, _ => decide
  have e : (16 : Int) ^ 8 = 4294967296 := by decide
  omega
theorem numGo_cons (b c n : Int) (l : List Int) : numGo b (c :: l) n = if dig c < b then numGo b l (n * b + dig c) else -1 := rfl

set_option maxHeartbeats 1000000 in
set_option maxRecDepth 100000 in
theorem dref_10l (t : ByteArray) (w : World) (f1 : (t.toList == [108, 116]) = false) (f2 : (t.toList == [103, 116]) = false) (f3 : (t.toList == [97, 109, 112]) = false) (f4 : (t.toList == [97, 112, 111, 115]) = false) (f5 : (t.toList == [113, 117, 111, 116]) = false) (h : 2 ≤ t.size) (hs : t.size ≤ 10000) (hc : (((t[0]'(by omega)).toNat : Int) != 35) = false) (hx : (((t[1]'(by omega)).toNat : Int) == 120) = false) (he : 8 + 1 < t.size) : Calls Tryz.prog 32 #[.string t] w fun e w' => e = .returned (.int .i64 (-1)) ∧ w = w' := by
  have i8 : decide ((t.size : Int) < (2 : Int)) = false := by rw [decide_eq_false_iff_not]; omega
  have j8 : decide (t.size < 2) = false := by rw [decide_eq_false_iff_not]; omega
  have k1 : (0 : Int) < (t.size : Int) := by omega
  have k2 : 0 < t.size := by omega
  have k3 : (1 : Int) < (t.size : Int) := by omega
  have k4 : 1 < t.size := by omega
  have q2 : IntKind.i64.wrap ((t.size : Int) - 1) = (t.size : Int) - 1 := IntWalk.i64_in _ (by omega)
  have e1 : ((1 : Int) == (t.size : Int)) = false := by rw [beq_eq_false_iff_ne]; omega
  have e2 : decide ((8 : Int) < (t.size : Int) - 1) = true := by rw [decide_eq_true_eq]; omega
  go_enter Tryz.func32, Tryz.ntmps32
  go_wp2
  go_ret
  exact ⟨rfl, rfl⟩
set_option maxHeartbeats 4000000 in
set_option maxRecDepth 100000 in
theorem dref_10 (t : ByteArray) (w : World) (f1 : (t.toList == [108, 116]) = false) (f2 : (t.toList == [103, 116]) = false) (f3 : (t.toList == [97, 109, 112]) = false) (f4 : (t.toList == [97, 112, 111, 115]) = false) (f5 : (t.toList == [113, 117, 111, 116]) = false) (h : 2 ≤ t.size) (hs : t.size ≤ 10000) (hc : (((t[0]'(by omega)).toNat : Int) != 35) = false) (hx : (((t[1]'(by omega)).toNat : Int) == 120) = false) (hlo : 1 < t.size) (he : t.size ≤ 8 + 1) : Calls Tryz.prog 32 #[.string t] w fun e w' => e = .returned (.int .i64 (chrOr (numGo 10 ((byts t).drop 1) 0))) ∧ w = w' := by
  have i8 : decide ((t.size : Int) < (2 : Int)) = false := by rw [decide_eq_false_iff_not]; omega
  have j8 : decide (t.size < 2) = false := by rw [decide_eq_false_iff_not]; omega
  have k1 : (0 : Int) < (t.size : Int) := by omega
  have k2 : 0 < t.size := by omega
  have k3 : (1 : Int) < (t.size : Int) := by omega
  have k4 : 1 < t.size := by omega
  have q2 : IntKind.i64.wrap ((t.size : Int) - 1) = (t.size : Int) - 1 := IntWalk.i64_in _ (by omega)
  have e1 : ((1 : Int) == (t.size : Int)) = false := by rw [beq_eq_false_iff_ne]; omega
  have e2 : decide ((8 : Int) < (t.size : Int) - 1) = false := by rw [decide_eq_false_iff_not]; omega
  go_enter Tryz.func32, Tryz.ntmps32
  go_wp2_with fail
  go_loop [5, 6] (fun vn vi => ∃ (k : Nat) (n : Int), vn = .int .i64 n ∧ vi = .int .i64 k ∧ 1 ≤ k ∧ k ≤ t.size ∧ Hid (DrRel 10 ((byts t).drop 1) (k - 1) ((byts t).drop k) n)) (fun _ vi => t.size - (intOf vi).toNat)
  case atStart => exact ⟨1, 0, rfl, rfl, by omega, by omega, Lib.hid ⟨by omega, by decide, rfl⟩⟩
  case round =>
    obtain ⟨k, n, rfl, rfl, hk0, hk, hR⟩ := hrel
    obtain ⟨n0, n1, hdec⟩ := hR.out
    have n2 := pow_small _ (by omega) n n1
    clear hR
    by_cases hlt : k < t.size
    · have hi := at_byt t k hlt
      have hcb := byt_at t k
      have c1 : (k : Int) < (t.size : Int) := by omega
      rw [drop_cons _ k (by rw [byts_len]; exact hlt), numGo_cons] at hdec
      have HX := Lib.hid (fun w => hex_any _ w hcb.1 hcb.2)
      rw [← hi] at HX hdec
      clear hi hcb
      have hd0 := dig_nn (((t[k]).toNat : Int))
      by_cases hd : dig ((t[k]).toNat : Int) < 10
      · rw [if_pos hd] at hdec
        have hp := pow_step10 (k - 1) n _ n0 n1 hd
        have HR : Hid (DrRel 10 ((byts t).drop 1) (k + 1 - 1) ((byts t).drop (k + 1)) (n * 10 + dig ((t[k]).toNat : Int))) := Lib.hid ⟨by omega, by rw [show k + 1 - 1 = k - 1 + 1 by omega]; exact hp, hdec⟩
        clear hdec hp n1
        generalize dig ((t[k]).toNat : Int) = d at *
        have t1 : decide ((10 : Int) ≤ d) = false := by rw [decide_eq_false_iff_not]; omega
        go_wp2_with (go_at_call 47; refine (HX.out _).mono ?_; rintro e w' ⟨rfl, rfl⟩)
        refine ⟨⟨k + 1, n * 10 + d, (by first | rfl | (congr 1; omega)), by rw [Int.natCast_add]; rfl, by omega, by omega, HR⟩, by simp only [intOf]; omega⟩
      · rw [if_neg hd] at hdec
        have HA : Hid (chrOr (numGo 10 ((byts t).drop 1) 0) = -1) := Lib.hid (by rw [← hdec]; exact chrOr_neg)
        clear hdec n1
        generalize dig ((t[k]).toNat : Int) = d at *
        have t1 : decide ((10 : Int) ≤ d) = true := by rw [decide_eq_true_eq]; omega
        go_wp2_with (go_at_call 47; refine (HX.out _).mono ?_; rintro e w' ⟨rfl, rfl⟩)
        go_ret
        exact ⟨ret_int HA.out.symm, rfl⟩
    · have hkk : k = t.size := by omega
      subst hkk
      rw [List.drop_of_length_le (by rw [byts_len]; omega)] at hdec
      have CC := rchr_any n
      by_cases hch : Chr n
      · have HA : Hid (chrOr (numGo 10 ((byts t).drop 1) 0) = n) := Lib.hid (by rw [← hdec]; exact if_pos hch)
        rw [decide_eq_true hch] at CC
        have CH := Lib.hid CC
        clear hdec hch CC n1
        go_wp2_with (go_at_call 35; refine (CH.out _).mono ?_; rintro e w' ⟨rfl, rfl⟩)
        go_ret
        exact ⟨ret_int HA.out.symm, rfl⟩
      · have HA : Hid (chrOr (numGo 10 ((byts t).drop 1) 0) = -1) := Lib.hid (by rw [← hdec]; exact if_neg hch)
        rw [decide_eq_false hch] at CC
        have CH := Lib.hid CC
        clear hdec hch CC n1
        go_wp2_with (go_at_call 35; refine (CH.out _).mono ?_; rintro e w' ⟨rfl, rfl⟩)
        go_ret
        exact ⟨ret_int HA.out.symm, rfl⟩

set_option maxHeartbeats 1000000 in
set_option maxRecDepth 100000 in
theorem dref_16e (t : ByteArray) (w : World) (f1 : (t.toList == [108, 116]) = false) (f2 : (t.toList == [103, 116]) = false) (f3 : (t.toList == [97, 109, 112]) = false) (f4 : (t.toList == [97, 112, 111, 115]) = false) (f5 : (t.toList == [113, 117, 111, 116]) = false) (h : 2 ≤ t.size) (hs : t.size ≤ 10000) (hc : (((t[0]'(by omega)).toNat : Int) != 35) = false) (hx : (((t[1]'(by omega)).toNat : Int) == 120) = true) (he : t.size = 2) : Calls Tryz.prog 32 #[.string t] w fun e w' => e = .returned (.int .i64 (-1)) ∧ w = w' := by
  have i8 : decide ((t.size : Int) < (2 : Int)) = false := by rw [decide_eq_false_iff_not]; omega
  have j8 : decide (t.size < 2) = false := by rw [decide_eq_false_iff_not]; omega
  have k1 : (0 : Int) < (t.size : Int) := by omega
  have k2 : 0 < t.size := by omega
  have k3 : (1 : Int) < (t.size : Int) := by omega
  have k4 : 1 < t.size := by omega
  have q2 : IntKind.i64.wrap ((t.size : Int) - 2) = (t.size : Int) - 2 := IntWalk.i64_in _ (by omega)
  have e1 : ((2 : Int) == (t.size : Int)) = true := by rw [beq_iff_eq]; omega
  go_enter Tryz.func32, Tryz.ntmps32
  go_wp2
  go_ret
  exact ⟨rfl, rfl⟩

set_option maxHeartbeats 1000000 in
set_option maxRecDepth 100000 in
theorem dref_16l (t : ByteArray) (w : World) (f1 : (t.toList == [108, 116]) = false) (f2 : (t.toList == [103, 116]) = false) (f3 : (t.toList == [97, 109, 112]) = false) (f4 : (t.toList == [97, 112, 111, 115]) = false) (f5 : (t.toList == [113, 117, 111, 116]) = false) (h : 2 ≤ t.size) (hs : t.size ≤ 10000) (hc : (((t[0]'(by omega)).toNat : Int) != 35) = false) (hx : (((t[1]'(by omega)).toNat : Int) == 120) = true) (he : 8 + 2 < t.size) : Calls Tryz.prog 32 #[.string t] w fun e w' => e = .returned (.int .i64 (-1)) ∧ w = w' := by
  have i8 : decide ((t.size : Int) < (2 : Int)) = false := by rw [decide_eq_false_iff_not]; omega
  have j8 : decide (t.size < 2) = false := by rw [decide_eq_false_iff_not]; omega
  have k1 : (0 : Int) < (t.size : Int) := by omega
  have k2 : 0 < t.size := by omega
  have k3 : (1 : Int) < (t.size : Int) := by omega
  have k4 : 1 < t.size := by omega
  have q2 : IntKind.i64.wrap ((t.size : Int) - 2) = (t.size : Int) - 2 := IntWalk.i64_in _ (by omega)
  have e1 : ((2 : Int) == (t.size : Int)) = false := by rw [beq_eq_false_iff_ne]; omega
  have e2 : decide ((8 : Int) < (t.size : Int) - 2) = true := by rw [decide_eq_true_eq]; omega
  go_enter Tryz.func32, Tryz.ntmps32
  go_wp2
  go_ret
  exact ⟨rfl, rfl⟩
set_option maxHeartbeats 4000000 in
set_option maxRecDepth 100000 in
theorem dref_16 (t : ByteArray) (w : World) (f1 : (t.toList == [108, 116]) = false) (f2 : (t.toList == [103, 116]) = false) (f3 : (t.toList == [97, 109, 112]) = false) (f4 : (t.toList == [97, 112, 111, 115]) = false) (f5 : (t.toList == [113, 117, 111, 116]) = false) (h : 2 ≤ t.size) (hs : t.size ≤ 10000) (hc : (((t[0]'(by omega)).toNat : Int) != 35) = false) (hx : (((t[1]'(by omega)).toNat : Int) == 120) = true) (hlo : 2 < t.size) (he : t.size ≤ 8 + 2) : Calls Tryz.prog 32 #[.string t] w fun e w' => e = .returned (.int .i64 (chrOr (numGo 16 ((byts t).drop 2) 0))) ∧ w = w' := by
  have i8 : decide ((t.size : Int) < (2 : Int)) = false := by rw [decide_eq_false_iff_not]; omega
  have j8 : decide (t.size < 2) = false := by rw [decide_eq_false_iff_not]; omega
  have k1 : (0 : Int) < (t.size : Int) := by omega
  have k2 : 0 < t.size := by omega
  have k3 : (1 : Int) < (t.size : Int) := by omega
  have k4 : 1 < t.size := by omega
  have q2 : IntKind.i64.wrap ((t.size : Int) - 2) = (t.size : Int) - 2 := IntWalk.i64_in _ (by omega)
  have e1 : ((2 : Int) == (t.size : Int)) = false := by rw [beq_eq_false_iff_ne]; omega
  have e2 : decide ((8 : Int) < (t.size : Int) - 2) = false := by rw [decide_eq_false_iff_not]; omega
  go_enter Tryz.func32, Tryz.ntmps32
  go_wp2_with fail
  go_loop [5, 6] (fun vn vi => ∃ (k : Nat) (n : Int), vn = .int .i64 n ∧ vi = .int .i64 k ∧ 2 ≤ k ∧ k ≤ t.size ∧ Hid (DrRel 16 ((byts t).drop 2) (k - 2) ((byts t).drop k) n)) (fun _ vi => t.size - (intOf vi).toNat)
  case atStart => exact ⟨2, 0, rfl, rfl, by omega, by omega, Lib.hid ⟨by omega, by decide, rfl⟩⟩
  case round =>
    obtain ⟨k, n, rfl, rfl, hk0, hk, hR⟩ := hrel
    obtain ⟨n0, n1, hdec⟩ := hR.out
    have n2 := pow_small _ (by omega) n n1
    clear hR
    by_cases hlt : k < t.size
    · have hi := at_byt t k hlt
      have hcb := byt_at t k
      have c1 : (k : Int) < (t.size : Int) := by omega
      rw [drop_cons _ k (by rw [byts_len]; exact hlt), numGo_cons] at hdec
      have HX := Lib.hid (fun w => hex_any _ w hcb.1 hcb.2)
      rw [← hi] at HX hdec
      clear hi hcb
      have hd0 := dig_nn (((t[k]).toNat : Int))
      by_cases hd : dig ((t[k]).toNat : Int) < 16
      · rw [if_pos hd] at hdec
        have hp := pow_step (k - 2) n _ n1 hd
        have HR : Hid (DrRel 16 ((byts t).drop 2) (k + 1 - 2) ((byts t).drop (k + 1)) (n * 16 + dig ((t[k]).toNat : Int))) := Lib.hid ⟨by omega, by rw [show k + 1 - 2 = k - 2 + 1 by omega]; exact hp, hdec⟩
        clear hdec hp n1
        generalize dig ((t[k]).toNat : Int) = d at *
        have t1 : decide ((16 : Int) ≤ d) = false := by rw [decide_eq_false_iff_not]; omega
        go_wp2_with (go_at_call 47; refine (HX.out _).mono ?_; rintro e w' ⟨rfl, rfl⟩)
        refine ⟨⟨k + 1, n * 16 + d, (by first | rfl | (congr 1; omega)), by rw [Int.natCast_add]; rfl, by omega, by omega, HR⟩, by simp only [intOf]; omega⟩
      · rw [if_neg hd] at hdec
        have HA : Hid (chrOr (numGo 16 ((byts t).drop 2) 0) = -1) := Lib.hid (by rw [← hdec]; exact chrOr_neg)
        clear hdec n1
        generalize dig ((t[k]).toNat : Int) = d at *
        have t1 : decide ((16 : Int) ≤ d) = true := by rw [decide_eq_true_eq]; omega
        go_wp2_with (go_at_call 47; refine (HX.out _).mono ?_; rintro e w' ⟨rfl, rfl⟩)
        go_ret
        exact ⟨ret_int HA.out.symm, rfl⟩
    · have hkk : k = t.size := by omega
      subst hkk
      rw [List.drop_of_length_le (by rw [byts_len]; omega)] at hdec
      have CC := rchr_any n
      by_cases hch : Chr n
      · have HA : Hid (chrOr (numGo 16 ((byts t).drop 2) 0) = n) := Lib.hid (by rw [← hdec]; exact if_pos hch)
        rw [decide_eq_true hch] at CC
        have CH := Lib.hid CC
        clear hdec hch CC n1
        go_wp2_with (go_at_call 35; refine (CH.out _).mono ?_; rintro e w' ⟨rfl, rfl⟩)
        go_ret
        exact ⟨ret_int HA.out.symm, rfl⟩
      · have HA : Hid (chrOr (numGo 16 ((byts t).drop 2) 0) = -1) := Lib.hid (by rw [← hdec]; exact if_neg hch)
        rw [decide_eq_false hch] at CC
        have CH := Lib.hid CC
        clear hdec hch CC n1
        go_wp2_with (go_at_call 35; refine (CH.out _).mono ?_; rintro e w' ⟨rfl, rfl⟩)
        go_ret
        exact ⟨ret_int HA.out.symm, rfl⟩

theorem drop_ne (t : ByteArray) (k : Nat) (h : k < t.size) : (byts t).drop k ≠ [] := by
  intro e
  have := congrArg List.length e
  rw [List.length_drop, byts_len, List.length_nil] at this
  omega
theorem dref_any (t : ByteArray) (w : World) (hs : t.size ≤ 10000) : Calls Tryz.prog 32 #[.string t] w fun e w' => e = .returned (.int .i64 (refV (byts t))) ∧ w = w' := by
  unfold refV
  by_cases a1 : byts t = [108, 116]
  · rw [if_pos a1]
    obtain rfl : t = ⟨#[108, 116]⟩ := byts_inj (a1.trans rfl)
    exact dref_lt w
  rw [if_neg a1]
  by_cases a2 : byts t = [103, 116]
  · rw [if_pos a2]
    obtain rfl : t = ⟨#[103, 116]⟩ := byts_inj (a2.trans rfl)
    exact dref_gt w
  rw [if_neg a2]
  by_cases a3 : byts t = [97, 109, 112]
  · rw [if_pos a3]
    obtain rfl : t = ⟨#[97, 109, 112]⟩ := byts_inj (a3.trans rfl)
    exact dref_amp w
  rw [if_neg a3]
  by_cases a4 : byts t = [97, 112, 111, 115]
  · rw [if_pos a4]
    obtain rfl : t = ⟨#[97, 112, 111, 115]⟩ := byts_inj (a4.trans rfl)
    exact dref_apos w
  rw [if_neg a4]
  by_cases a5 : byts t = [113, 117, 111, 116]
  · rw [if_pos a5]
    obtain rfl : t = ⟨#[113, 117, 111, 116]⟩ := byts_inj (a5.trans rfl)
    exact dref_quot w
  rw [if_neg a5]
  have f1 : (t.toList == [108, 116]) = false := by rw [e_lt, decide_eq_false a1]
  have f2 : (t.toList == [103, 116]) = false := by rw [e_gt, decide_eq_false a2]
  have f3 : (t.toList == [97, 109, 112]) = false := by rw [e_amp, decide_eq_false a3]
  have f4 : (t.toList == [97, 112, 111, 115]) = false := by rw [e_apos, decide_eq_false a4]
  have f5 : (t.toList == [113, 117, 111, 116]) = false := by rw [e_quot, decide_eq_false a5]
  by_cases hsz : t.size < 2
  · have : (if (byts t).getD 0 0 ≠ 35 then (-1 : Int) else if (byts t).getD 1 0 = 120 then numV 16 ((byts t).drop 2) else numV 10 ((byts t).drop 1)) = -1 := by
      have hl := byts_len t
      match hb : byts t, hl with
      | [], _ => simp
      | [x], _ => simp [numV]
      | x :: y :: z, hl => simp at hl; omega
    rw [this]
    exact dref_short t w f1 f2 f3 f4 f5 hsz
  have h0 := at_byt t 0 (by omega)
  have h1 := at_byt t 1 (by omega)
  by_cases b1 : (byts t).getD 0 0 = 35
  · rw [if_neg (by simpa using b1)]
    have hc : (((t[0]'(by omega)).toNat : Int) != 35) = false := by rw [h0]; simpa using b1
    by_cases b2 : (byts t).getD 1 0 = 120
    · rw [if_pos b2]
      have hx : (((t[1]'(by omega)).toNat : Int) == 120) = true := by rw [h1]; simpa using b2
      unfold numV
      by_cases d1 : t.size = 2
      · rw [if_pos (.inl (List.drop_of_length_le (by rw [byts_len]; omega)))]
        exact dref_16e t w f1 f2 f3 f4 f5 (by omega) hs hc hx d1
      by_cases d2 : 8 + 2 < t.size
      · rw [if_pos (.inr (by rw [List.length_drop, byts_len]; omega))]
        exact dref_16l t w f1 f2 f3 f4 f5 (by omega) hs hc hx d2
      · rw [if_neg (by
          rintro (e | e)
          · exact drop_ne t 2 (by omega) e
          · rw [List.length_drop, byts_len] at e; omega)]
        exact dref_16 t w f1 f2 f3 f4 f5 (by omega) hs hc hx (by omega) (by omega)
    · rw [if_neg b2]
      have hx : (((t[1]'(by omega)).toNat : Int) == 120) = false := by rw [h1]; simpa using b2
      unfold numV
      by_cases d2 : 8 + 1 < t.size
      · rw [if_pos (.inr (by rw [List.length_drop, byts_len]; omega))]
        exact dref_10l t w f1 f2 f3 f4 f5 (by omega) hs hc hx d2
      · rw [if_neg (by
          rintro (e | e)
          · exact drop_ne t 1 (by omega) e
          · rw [List.length_drop, byts_len] at e; omega)]
        exact dref_10 t w f1 f2 f3 f4 f5 (by omega) hs hc hx (by omega) (by omega)
  · rw [if_pos b1]
    exact dref_no t w f1 f2 f3 f4 f5 (by omega) hs (by rw [h0]; simpa using b1)
end Go.Proofs.YtaoklhalkfcpfaaGreatDoor
