/-
  The walk of TagPrints.
-/
import Derived.Test.YtaoklhalkfcpfaaGreatDoorG22
import Derived.Deep.RegionWith
set_option linter.unusedSimpArgs false
set_option linter.unusedVariables false
namespace Go.Proofs.YtaoklhalkfcpfaaGreatDoor
open Go.RowKit

theorem few_fit {nm : ByteArray} {l : List (ByteArray × ByteArray)} (h : FewP nm l) : Fit l := fun x hx => by have := h.2.2 x hx; omega
theorem wpAny_yes {P : Program} {md : Region.Mode} {ops : Array Oper} {Q : Exit → Act → World → Prop} (i : Nat) (d : Tmp) (v : Value) {oi : Oper} {fuel : Nat} {listed : Array Bool} {a : Act} {w : World} (hi : ops[i]? = some oi)
    (hs : Region.noSelect ops = true) (hf : Region.free md ops listed i = true) (hr : (Region.ready md ops listed).contains i = true)
    (hQ : ∀ c a w, Q (.panic c) (a.put oi.dst v) w → Q (.panic c) a w) (hd : oi.dst = some d) (hw : Region.wanted oi (yielded ops a.tmps) = true) (hy : ∀ w, (execOp a.eval oi).run P w = .ok (.value v) w)
    (h : wpAny P md ops Q fuel (listed.setIfInBounds i true) { a with tmps := a.tmps.setIfInBounds d v } w) : wpAny P md ops Q (fuel + 1) listed a w :=
  wpAny_take hi hs hf hr hQ (.inl ⟨hw, hy⟩) (by unfold Act.put; rw [hd]; exact h)
/-- In a region that draws: an operation whose guard does not let it run is passed over. -/
theorem wpAny_no {P : Program} {md : Region.Mode} {ops : Array Oper} {Q : Exit → Act → World → Prop} (i : Nat) (d : Tmp) {oi : Oper} {fuel : Nat} {listed : Array Bool} {a : Act} {w : World} (hi : ops[i]? = some oi)
    (hs : Region.noSelect ops = true) (hf : Region.free md ops listed i = true) (hr : (Region.ready md ops listed).contains i = true)
    (hQ : ∀ c a w, Q (.panic c) (a.put oi.dst undef) w → Q (.panic c) a w) (hd : oi.dst = some d) (hw : Region.wanted oi (yielded ops a.tmps) = false)
    (h : wpAny P md ops Q fuel (listed.setIfInBounds i true) { a with tmps := a.tmps.setIfInBounds d undef } w) : wpAny P md ops Q (fuel + 1) listed a w :=
  wpAny_take hi hs hf hr hQ (.inr ⟨hw, rfl⟩) (by unfold Act.put; rw [hd]; exact h)
set_option maxHeartbeats 4000000 in
set_option maxRecDepth 100000 in
theorem prints_few (nm : ByteArray) (A : Option Addr) (n c : Nat) (l : List (ByteArray × ByteArray)) (w : World) (hT : TagIn w nm A n c l) (hF : FewP nm l) (hV : Vars w) :
    Calls Tryz.prog 4 #[.agg #[.string nm, .slice A n c]] w fun e w' => e = .returned (.bool true) ∧ Below w.heap.size w w' := by
  have hfit := few_fit hF
  have CF := Lib.hid (fun W h => few_yes nm l n A c W hT.len hT.nsz hT.lsz hT.xsz h hF)
  have h60 := hF.2.1
  have CP := Lib.hid (fun W h => print_any nm l n c A W hT.len (by have := hT.len; omega) (by have := hF.1; omega) hfit h)
  have CQ := Lib.hid (fun W h => rprint_any nm l n c A W hT.len (by have := hT.len; omega) (by have := hF.1; omega) hfit h)
  generalize strOfNums (prF nm l) = q at *
  have a0 := (Below.refl w.heap.size w).alloc (Nat.le_refl _) (.cells #[.string nm, .slice A n c] 25)
  have HB0 := Lib.hid a0.drew
  have HV0 := Lib.hid (hV.keep a0.drew hV.1)
  have HR0 := Lib.hid ((hT.rd.keep a0.drew))
  have q0 : (w.alloc (.cells #[.string nm, .slice A n c] 25)).drew.cell? ⟨w.heap.size, 0, none⟩ = some (.string nm) := Blk0 w 25 #[.string nm, .slice A n c] 0
  have q1 : (w.alloc (.cells #[.string nm, .slice A n c] 25)).drew.cell? ⟨w.heap.size, 1, none⟩ = some (.slice A n c) := Blk0 w 25 #[.string nm, .slice A n c] 1
  have Q0 := Lib.hid q0
  have Q1 := Lib.hid q1
  have hz0 : w.heap.size < (w.alloc (.cells #[.string nm, .slice A n c] 25)).drew.heap.size := by simp
  have hqq : (q.toList == q.toList) = true := beq_self_eq_true _
  clear hfit h60 hT hF hV a0 q0 q1
  go_enter Tryz.func4, Tryz.ntmps4
  go_wp2_with fail
  go_region_with (first
    | (go_at_call 8; refine (awake_any _ HV0.out).mono ?_; rintro e w1 ⟨rfl, b1⟩; have HB1 := Lib.hid (HB0.out.trans (b1.mono HB0.out.size)); have HR1 := Lib.hid (HR0.out.keep b1); have g0 := cell_keep Q0.out hz0 b1; have g1 := cell_keep Q1.out hz0 b1; have hz1 : w.heap.size < w1.heap.size := Nat.lt_of_lt_of_le hz0 b1.size; clear b1)
    | (go_at_call 12; refine (CF.out _ HR1.out).mono ?_; rintro e w2 ⟨rfl, b2⟩; have HB2 := Lib.hid (HB1.out.trans (b2.mono HB1.out.size)); have HR2 := Lib.hid (HR1.out.keep b2); have k0 := cell_keep g0 hz1 b2; have k1 := cell_keep g1 hz1 b2; have hz2 : w.heap.size < w2.heap.size := Nat.lt_of_lt_of_le hz1 b2.size; clear b2)
    | (go_at_call 13; refine (CP.out _ HR2.out).mono ?_; rintro e w3 ⟨rfl, b3⟩; have HB3 := Lib.hid (HB2.out.trans (b3.mono HB2.out.size)); have HR3 := Lib.hid (HR2.out.keep b3); have m0 := cell_keep k0 hz2 b3; have m1 := cell_keep k1 hz2 b3; clear b3)
    | (go_at_call 14; refine (CQ.out _ HR3.out).mono ?_; rintro e w4 ⟨rfl, b4⟩; have HB4 := Lib.hid (HB3.out.trans (b4.mono HB3.out.size)); clear b4))
  all_goals go_wp2
  all_goals go_ret
  all_goals exact ⟨rfl, HB4.out⟩
end Go.Proofs.YtaoklhalkfcpfaaGreatDoor
