/-
  The walk of the law NameJoins.
-/
import Derived.Test.YtpfbnbmpeaihjaaAwake
set_option linter.unusedSimpArgs false
set_option linter.unusedVariables false
namespace Go.Proofs.Ytpfbnbmpeaihjaa
open Go.RowKit

theorem bl_sx (s : ByteArray) (k : Nat) : bl (sx s k) = ((bl s).drop k).take (sn s k) := by
  rw [sx, bl_ext, bl_fr]
  simp
theorem sx_size (s : ByteArray) (k : Nat) (hk : k ≤ s.size) : (sx s k).size = sn s k := by
  have := sn_le s k
  rw [← bl_len, bl_sx, List.length_take, List.length_drop, bl_len]
  omega
theorem sx_ext (s : ByteArray) (k : Nat) : s.extract k (k + sn s k) = sx s k := by
  apply bl_inj
  rw [bl_ext, bl_sx, Nat.add_sub_cancel_left]
theorem sn_rest (s : ByteArray) (k : Nat) : sn s (k + sn s k) = 0 := by
  unfold sn
  rw [← List.drop_drop]
  exact St_rest _ _ (Nat.le_refl _)
theorem sx_zero (s : ByteArray) (k : Nat) (h : sn s k = 0) : sx s k = ⟨#[]⟩ := by
  apply bl_inj
  rw [bl_sx, h]
  rfl
theorem sn_self (s : ByteArray) (k : Nat) : sn (sx s k) 0 = sn s k := by
  rw [sn, List.drop_zero, bl_sx]
  exact St_self _ _ (Nat.le_refl _)
theorem sx_self (s : ByteArray) (k : Nat) (hk : k ≤ s.size) : sx (sx s k) 0 = sx s k := by
  apply bl_inj
  rw [bl_sx, sn_self, List.drop_zero, List.take_of_length_le]
  rw [bl_len, sx_size s k hk]
  omega

set_option maxHeartbeats 1000000 in
set_option maxRecDepth 100000 in
theorem joins_law (s : ByteArray) (v : Int) (hs : s.size ≤ 200) (h0 : 0 ≤ v) (h1 : v ≤ 255) (w : World) :
    Calls Try.prog 6 #[.string s, .int .u8 v] w fun e w' => e = .returned (.bool true) ∧ Below w.heap.size w w' := by
  have t1 : decide ((200 : Int) < (s.size : Int)) = false := by simp; omega
  obtain ⟨k, hk⟩ : ∃ k : Nat, v % ((s.size : Int) + 1) = (k : Int) := ⟨(v % ((s.size : Int) + 1)).toNat, by
    have := Int.emod_nonneg v (b := (s.size : Int) + 1) (by omega)
    omega⟩
  have hkl : k ≤ s.size := by
    have := Int.emod_lt_of_pos v (b := (s.size : Int) + 1) (by omega)
    omega
  have hnl := sn_le s k
  have C1 := Lib.hid (cut_any s k (by omega) hkl)
  have C2 := Lib.hid (cut_any s (k + sn s k) (by omega) (by omega))
  have C3 := Lib.hid (cut_any (sx s k) 0 (by rw [sx_size s k hkl]; omega) (by omega))
  have hz := sx_size s k hkl
  have hx := sx_ext s k
  rw [sx_zero _ _ (sn_rest s k), sn_rest, Int.natCast_add] at C2
  rw [sx_self s k hkl, sn_self] at C3
  generalize sx s k = c at *
  generalize sn s k = n at *
  have i1 : (0 : Int) ≤ (k : Int) := by omega
  have i2 : (k : Int) ≤ (k : Int) + (n : Int) := by omega
  have i3 : (k : Int) + (n : Int) ≤ (s.size : Int) := by omega
  have b1 : (((k : Int) + (n : Int)) != ((k : Int) + (c.size : Int))) = false := by rw [hz]; simp
  have q3 : ((k : Int) + (n : Int)).toNat = k + n := by omega
  go_enter Try.func6, Try.ntmps6
  go_wp2_with fail
  refine (awake_any _).mono ?_
  rintro e w1 ⟨rfl, hb1⟩
  go_wp2_with fail
  rw [hk]
  clear hk
  refine (C1.out _).mono ?_
  rintro e w2 ⟨rfl, hb2⟩
  go_wp2_with fail
  refine (C2.out _).mono ?_
  rintro e w3 ⟨rfl, hb3⟩
  go_wp2_with fail
  refine (C3.out _).mono ?_
  rintro e w4 ⟨rfl, hb4⟩
  go_wp2_with fail
  go_ret
  exact ⟨ret_bool (by simp [hz]), chain2 (chain2 (chain2 hb1 hb2) hb3) hb4⟩
end Go.Proofs.Ytpfbnbmpeaihjaa
