/-
  The walk of the statements' awake.
-/
import Derived.Test.YtkaimohkdkdbmaaDoorRead
set_option linter.unusedSimpArgs false
set_option linter.unusedVariables false
namespace Go.Proofs.YtkaimohkdkdbmaaDoor
open Go.RowKit

theorem a1 : ansF false [97, 38, 108, 116, 59, 38, 35, 50, 51, 51, 59, 13, 10] = ([97, 60, 195, 169, 10], 0, 0) := by decide +kernel
theorem a2 : ansF true [10, 38, 35, 120, 65, 59] = ([32, 10], 0, 0) := by decide +kernel
theorem a3 : ansF false [97, 98, 38, 120, 59] = ([], 2, 5) := by decide +kernel
theorem a4 : escF false [60] = [38, 108, 116, 59] := by decide +kernel
theorem a5 : escF true [34] = [38, 113, 117, 111, 116, 59] := by decide +kernel
theorem k1 (w : World) (hV : Vars w) : Calls Tryd.prog 9 #[.string ⟨#[97, 38, 108, 116, 59, 38, 35, 50, 51, 51, 59, 13, 10]⟩] w fun e w' => e = .returned (.tuple #[.string ⟨#[97, 60, 195, 169, 10]⟩, .int .i64 0, .int .i64 0]) ∧ Below w.heap.size w w' := by
  have := text_any ⟨#[97, 38, 108, 116, 59, 38, 35, 50, 51, 51, 59, 13, 10]⟩ w (by decide) hV
  rw [show byts ⟨#[97, 38, 108, 116, 59, 38, 35, 50, 51, 51, 59, 13, 10]⟩ = [97, 38, 108, 116, 59, 38, 35, 50, 51, 51, 59, 13, 10] from rfl, a1] at this
  exact this
theorem k2 (w : World) (hV : Vars w) : Calls Tryd.prog 10 #[.string ⟨#[10, 38, 35, 120, 65, 59]⟩] w fun e w' => e = .returned (.tuple #[.string ⟨#[32, 10]⟩, .int .i64 0, .int .i64 0]) ∧ Below w.heap.size w w' := by
  have := valu_any ⟨#[10, 38, 35, 120, 65, 59]⟩ w (by decide) hV
  rw [show byts ⟨#[10, 38, 35, 120, 65, 59]⟩ = [10, 38, 35, 120, 65, 59] from rfl, a2] at this
  exact this
theorem k3 (w : World) (hV : Vars w) : Calls Tryd.prog 9 #[.string ⟨#[97, 98, 38, 120, 59]⟩] w fun e w' => e = .returned (.tuple #[.string ⟨#[]⟩, .int .i64 2, .int .i64 5]) ∧ Below w.heap.size w w' := by
  have := text_any ⟨#[97, 98, 38, 120, 59]⟩ w (by decide) hV
  rw [show byts ⟨#[97, 98, 38, 120, 59]⟩ = [97, 98, 38, 120, 59] from rfl, a3] at this
  exact this
theorem k4 (w : World) : Calls Tryd.prog 12 #[.string ⟨#[60]⟩] w fun e w' => e = .returned (.string ⟨#[38, 108, 116, 59]⟩) ∧ Below w.heap.size w w' := by
  have := esc_any ⟨#[60]⟩ w (by decide)
  rw [show byts ⟨#[60]⟩ = [60] from rfl, a4] at this
  exact this
theorem k5 (w : World) : Calls Tryd.prog 14 #[.string ⟨#[34]⟩] w fun e w' => e = .returned (.string ⟨#[38, 113, 117, 111, 116, 59]⟩) ∧ Below w.heap.size w w' := by
  have := quote_any ⟨#[34]⟩ w (by decide)
  rw [show byts ⟨#[34]⟩ = [34] from rfl, a5] at this
  exact this

set_option maxHeartbeats 4000000 in
set_option maxRecDepth 100000 in
theorem awake_any (w : World) (hV : Vars w) : Calls Tryd.prog 8 #[] w fun e w' => e = .returned (.bool true) ∧ Below w.heap.size w w' := by
  have K1 := Lib.hid k1
  have K2 := Lib.hid k2
  have K3 := Lib.hid k3
  have K4 := Lib.hid k4
  have K5 := Lib.hid k5
  have HV := Lib.hid hV
  clear hV
  go_enter Tryd.func8, Tryd.ntmps8
  go_wp2_with fail
  refine (K1.out _ HV.out).mono ?_
  rintro e w1 ⟨rfl, b1⟩
  go_wp2_with fail
  refine (K2.out _ (HV.out.keep b1 HV.out.1)).mono ?_
  rintro e w2 ⟨rfl, c2⟩
  have b2 : Below w.heap.size w w2 := b1.trans (c2.mono b1.size)
  go_wp2_with fail
  refine (K3.out _ (HV.out.keep b2 HV.out.1)).mono ?_
  rintro e w3 ⟨rfl, c3⟩
  have b3 : Below w.heap.size w w3 := b2.trans (c3.mono b2.size)
  go_wp2_with fail
  refine (K4.out _).mono ?_
  rintro e w4 ⟨rfl, c4⟩
  have b4 : Below w.heap.size w w4 := b3.trans (c4.mono b3.size)
  go_wp2_with fail
  refine (K5.out _).mono ?_
  rintro e w5 ⟨rfl, c5⟩
  have b5 : Below w.heap.size w w5 := b4.trans (c5.mono b4.size)
  clear c2 c3 c4 c5 b1 b2 b3 b4 K1 K2 K3 K4 K5
  go_wp2
  go_ret
  exact ⟨rfl, b5⟩
end Go.Proofs.YtkaimohkdkdbmaaDoor
