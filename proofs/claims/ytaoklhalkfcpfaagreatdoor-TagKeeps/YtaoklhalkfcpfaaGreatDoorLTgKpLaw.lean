/-
  The walk of TagKeeps.
-/
import Derived.Test.YtaoklhalkfcpfaaGreatDoorLTgKpMem
set_option linter.unusedSimpArgs false
set_option linter.unusedVariables false
namespace Go.Proofs.YtaoklhalkfcpfaaGreatDoor
open Go.RowKit

set_option maxHeartbeats 4000000 in
set_option maxRecDepth 100000 in
theorem keeps_many (nm : ByteArray) (A : Option Addr) (n c : Nat) (l : List (ByteArray × ByteArray)) (s : ByteArray) (w : World) (hT : TagIn w nm A n c l) (hm : s.size ≤ maxLen) (hF : ¬ FewP nm l) (hV : Vars w) :
    Calls Tryz.prog 6 #[.agg #[.string nm, .slice A n c], .string s] w fun e w' => e = .returned (.bool true) ∧ Below w.heap.size w w' := by
  unfold maxLen at hm
  have CF := Lib.hid (fun W h => few_no nm l n A c W hT.len hT.nsz hT.lsz hT.xsz h hF)
  have a0 := (Below.refl w.heap.size w).alloc (Nat.le_refl _) (.cells #[.string nm, .slice A n c] 25)
  have HB0 := Lib.hid a0
  have HV0 := Lib.hid (hV.keep a0 hV.1)
  have HR0 := Lib.hid ((hT.rd.keep a0))
  have Q0 := Lib.hid (Blk0 w 25 #[.string nm, .slice A n c] 0)
  have Q1 := Lib.hid (Blk0 w 25 #[.string nm, .slice A n c] 1)
  have hz0 : w.heap.size < (w.alloc (.cells #[.string nm, .slice A n c] 25)).heap.size := by simp
  clear hT hF hV a0
  go_enter Tryz.func6, Tryz.ntmps6
  go_wp2_with fail
  refine (awake_any _ HV0.out).mono ?_
  rintro e w1 ⟨rfl, b1⟩
  have HB1 := Lib.hid (HB0.out.trans (b1.mono HB0.out.size))
  have HV1 := Lib.hid (HV0.out.after b1)
  have HR1 := Lib.hid (HR0.out.keep b1)
  have g0 := cell_keep Q0.out hz0 b1
  have g1 := cell_keep Q1.out hz0 b1
  clear b1 HB0 HV0 HR0
  go_wp2_with fail
  refine (CF.out _ HR1.out).mono ?_
  rintro e w2 ⟨rfl, b2⟩
  have HB2 := Lib.hid (HB1.out.trans (b2.mono HB1.out.size))
  have HV2 := Lib.hid (HV1.out.after b2)
  clear b2 HB1 HV1 HR1
  go_wp2_with fail
  refine (awake_any _ HV2.out).mono ?_
  rintro e w3 ⟨rfl, b3⟩
  have HB3 := Lib.hid (HB2.out.trans (b3.mono HB2.out.size))
  clear b3
  go_wp2
  go_ret
  exact ⟨rfl, HB3.out⟩
set_option maxHeartbeats 4000000 in
set_option maxRecDepth 100000 in
theorem keeps_long (nm : ByteArray) (A : Option Addr) (n c : Nat) (l : List (ByteArray × ByteArray)) (s : ByteArray) (w : World) (hT : TagIn w nm A n c l) (hm : s.size ≤ maxLen) (hF : FewP nm l) (hs : 400 < s.size) (hV : Vars w) :
    Calls Tryz.prog 6 #[.agg #[.string nm, .slice A n c], .string s] w fun e w' => e = .returned (.bool true) ∧ Below w.heap.size w w' := by
  unfold maxLen at hm
  have i8 : decide ((400 : Int) < (s.size : Int)) = true := by rw [decide_eq_true_eq]; omega
  have j8 : decide (400 < s.size) = true := by rw [decide_eq_true_eq]; omega
  have CF := Lib.hid (fun W h => few_yes nm l n A c W hT.len hT.nsz hT.lsz hT.xsz h hF)
  have a0 := (Below.refl w.heap.size w).alloc (Nat.le_refl _) (.cells #[.string nm, .slice A n c] 25)
  have HB0 := Lib.hid a0
  have HV0 := Lib.hid (hV.keep a0 hV.1)
  have HR0 := Lib.hid ((hT.rd.keep a0))
  have Q0 := Lib.hid (Blk0 w 25 #[.string nm, .slice A n c] 0)
  have Q1 := Lib.hid (Blk0 w 25 #[.string nm, .slice A n c] 1)
  have hz0 : w.heap.size < (w.alloc (.cells #[.string nm, .slice A n c] 25)).heap.size := by simp
  clear hT hF hV a0 hs
  go_enter Tryz.func6, Tryz.ntmps6
  go_wp2_with fail
  refine (awake_any _ HV0.out).mono ?_
  rintro e w1 ⟨rfl, b1⟩
  have HB1 := Lib.hid (HB0.out.trans (b1.mono HB0.out.size))
  have HV1 := Lib.hid (HV0.out.after b1)
  have HR1 := Lib.hid (HR0.out.keep b1)
  have g0 := cell_keep Q0.out hz0 b1
  have g1 := cell_keep Q1.out hz0 b1
  clear b1 HB0 HV0 HR0
  go_wp2_with fail
  refine (CF.out _ HR1.out).mono ?_
  rintro e w2 ⟨rfl, b2⟩
  have HB2 := Lib.hid (HB1.out.trans (b2.mono HB1.out.size))
  have HV2 := Lib.hid (HV1.out.after b2)
  clear b2 HB1 HV1 HR1
  go_wp2_with fail
  refine (awake_any _ HV2.out).mono ?_
  rintro e w3 ⟨rfl, b3⟩
  have HB3 := Lib.hid (HB2.out.trans (b3.mono HB2.out.size))
  clear b3
  go_wp2
  go_ret
  exact ⟨rfl, HB3.out⟩
end Go.Proofs.YtaoklhalkfcpfaaGreatDoor
