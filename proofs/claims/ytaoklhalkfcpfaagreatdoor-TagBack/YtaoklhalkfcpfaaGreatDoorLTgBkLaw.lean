/-
  The walk of TagBack.
-/
import Derived.Test.YtaoklhalkfcpfaaGreatDoorLTgBMath
import Derived.Deep.QuietTactic
import Derived.BigQuiet
set_option linter.unusedSimpArgs false
set_option linter.unusedVariables false
namespace Go.Proofs.YtaoklhalkfcpfaaGreatDoor
open Go.RowKit

set_option maxHeartbeats 4000000 in
set_option maxRecDepth 100000 in
theorem back_many (nm : ByteArray) (A : Option Addr) (n c : Nat) (l : List (ByteArray × ByteArray)) (B : Int) (w : World) (hT : TagIn w nm A n c l) (hF : ¬ FewP nm l) (hV : Vars w) :
    Calls Tryz.prog 5 #[.agg #[.string nm, .slice A n c], .int .u8 B] w fun e w' => e = .returned (.bool true) ∧ Below w.heap.size w w' := by
  have CF := Lib.hid (fun W h => few_no nm l n A c W hT.len hT.nsz hT.lsz hT.xsz h hF)
  have a0 := (Below.refl w.heap.size w).alloc (Nat.le_refl _) (.cells #[.string nm, .slice A n c] 25)
  have HB0 := Lib.hid a0
  have HV0 := Lib.hid (hV.keep a0 hV.1)
  have HR0 := Lib.hid ((hT.rd.keep a0))
  have Q0 := Lib.hid (Blk0 w 25 #[.string nm, .slice A n c] 0)
  have Q1 := Lib.hid (Blk0 w 25 #[.string nm, .slice A n c] 1)
  have hz0 : w.heap.size < (w.alloc (.cells #[.string nm, .slice A n c] 25)).heap.size := by simp
  clear hT hF hV a0
  go_enter Tryz.func5, Tryz.ntmps5
  go_wp2_with fail
  refine (awake_any _ HV0.out).mono ?_
  rintro e w1 ⟨rfl, b1⟩
  have HB1 := Lib.hid (HB0.out.trans (b1.mono HB0.out.size))
  have HV1 := Lib.hid (HV0.out.after b1)
  have HR1 := Lib.hid (HR0.out.keep b1)
  have g0 := cell_keep Q0.out hz0 b1
  have g1 := cell_keep Q1.out hz0 b1
  clear b1 HB0 HV0 HR0
  go_wp2_with fail
  refine (CF.out _ HR1.out).mono ?_
  rintro e w2 ⟨rfl, b2⟩
  have HB2 := Lib.hid (HB1.out.trans (b2.mono HB1.out.size))
  have HV2 := Lib.hid (HV1.out.after b2)
  clear b2 HB1 HV1 HR1
  go_wp2_with fail
  refine (awake_any _ HV2.out).mono ?_
  rintro e w3 ⟨rfl, b3⟩
  have HB3 := Lib.hid (HB2.out.trans (b3.mono HB2.out.size))
  clear b3
  go_wp2
  go_ret
  exact ⟨rfl, HB3.out⟩
set_option maxHeartbeats 4000000 in
set_option maxRecDepth 100000 in
theorem back_wrong (nm : ByteArray) (A : Option Addr) (n c : Nat) (l : List (ByteArray × ByteArray)) (B : Int) (w : World) (hT : TagIn w nm A n c l) (hF : FewP nm l) (hR : ¬ RgP nm l) (hV : Vars w) :
    Calls Tryz.prog 5 #[.agg #[.string nm, .slice A n c], .int .u8 B] w fun e w' => e = .returned (.bool true) ∧ Below w.heap.size w w' := by
  have CF := Lib.hid (fun W h => few_yes nm l n A c W hT.len hT.nsz hT.lsz hT.xsz h hF)
  have CG := Lib.hid (fun W h => rgt_no nm l n c A W hT.len (by have := hF.2.1; have := hT.len; omega) (by have := hF.1; omega) (fun x hx => by have := hF.2.2 x hx; omega) h hR)
  have a0 := (Below.refl w.heap.size w).alloc (Nat.le_refl _) (.cells #[.string nm, .slice A n c] 25)
  have HB0 := Lib.hid a0
  have HV0 := Lib.hid (hV.keep a0 hV.1)
  have HR0 := Lib.hid ((hT.rd.keep a0))
  have Q0 := Lib.hid (Blk0 w 25 #[.string nm, .slice A n c] 0)
  have Q1 := Lib.hid (Blk0 w 25 #[.string nm, .slice A n c] 1)
  have hz0 : w.heap.size < (w.alloc (.cells #[.string nm, .slice A n c] 25)).heap.size := by simp
  clear hT hF hV a0 hR
  go_enter Tryz.func5, Tryz.ntmps5
  go_wp2_with fail
  refine (awake_any _ HV0.out).mono ?_
  rintro e w1 ⟨rfl, b1⟩
  have HB1 := Lib.hid (HB0.out.trans (b1.mono HB0.out.size))
  have HV1 := Lib.hid (HV0.out.after b1)
  have HR1 := Lib.hid (HR0.out.keep b1)
  have g0 := cell_keep Q0.out hz0 b1
  have g1 := cell_keep Q1.out hz0 b1
  have hz1 : w.heap.size < w1.heap.size := Nat.lt_of_lt_of_le hz0 b1.size
  clear b1 HB0 HV0 HR0
  go_wp2_with fail
  refine (CF.out _ HR1.out).mono ?_
  rintro e w2 ⟨rfl, b2⟩
  have HB2 := Lib.hid (HB1.out.trans (b2.mono HB1.out.size))
  have HV2 := Lib.hid (HV1.out.after b2)
  have HR2 := Lib.hid (HR1.out.keep b2)
  have k0 := cell_keep g0 hz1 b2
  have k1 := cell_keep g1 hz1 b2
  clear b2 HB1 HV1 HR1
  go_wp2_with fail
  refine (CG.out _ HR2.out).mono ?_
  rintro e w3 ⟨rfl, b3⟩
  have HB3 := Lib.hid (HB2.out.trans (b3.mono HB2.out.size))
  have HV3 := Lib.hid (HV2.out.after b3)
  clear b3
  go_wp2_with fail
  refine (awake_any _ HV3.out).mono ?_
  rintro e w4 ⟨rfl, b4⟩
  have HB4 := Lib.hid (HB3.out.trans (b4.mono HB3.out.size))
  clear b4
  go_wp2
  go_ret
  exact ⟨rfl, HB4.out⟩
/-- Sizes. -/
theorem pr_len2 (nm : ByteArray) (hnm : nm.size ≤ 200) : ∀ (l : List (ByteArray × ByteArray)), (∀ x ∈ l, x.1.size ≤ 200 ∧ x.2.size ≤ 200) → (prF nm l).length ≤ 200 + 1404 * l.length
  | [], _ => by unfold prF; simp only [List.flatMap_nil, List.append_nil, byts_len, List.length_nil]; omega
  | x :: l, h => by
    have h1 := pr_len2 nm hnm l (fun y hy => h y (List.mem_cons_of_mem _ hy))
    have hx := h x (List.mem_cons_self ..)
    have h2 : (atP x).length ≤ 1404 := by
      unfold atP
      have := escF_len true (byts x.2)
      rw [byts_len] at this
      simp only [List.length_cons, List.length_append, List.length_nil, byts_len]
      omega
    unfold prF at h1 ⊢
    simp only [List.flatMap_cons, List.length_append, List.length_cons] at h1 ⊢
    omega
/-- The blanks that are laid between, by their place in the list. -/
def bkS (i : Nat) : ByteArray := [(⟨#[]⟩ : ByteArray), ⟨#[32]⟩, ⟨#[10]⟩, ⟨#[9, 13, 32]⟩].getD i ⟨#[]⟩
theorem bkS_bks (i : Nat) (h : i < 4) : Bks (byts (bkS i)) := by
  have : i = 0 ∨ i = 1 ∨ i = 2 ∨ i = 3 := by omega
  rcases this with rfl | rfl | rfl | rfl
  · intro x hx; simp [bkS, byts] at hx
  · intro x hx; have : x = 32 := by simpa [bkS, byts] using hx
    subst this; rfl
  · intro x hx; have : x = 10 := by simpa [bkS, byts] using hx
    subst this; rfl
  · intro x hx
    have : x = 9 ∨ x = 13 ∨ x = 32 := by simpa [bkS, byts] using hx
    rcases this with rfl | rfl | rfl <;> rfl
theorem bkS_size (i : Nat) (h : i < 4) : (bkS i).size ≤ 3 := by
  have : i = 0 ∨ i = 1 ∨ i = 2 ∨ i = 3 := by omega
  rcases this with rfl | rfl | rfl | rfl <;> decide
end Go.Proofs.YtaoklhalkfcpfaaGreatDoor
