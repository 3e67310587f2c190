/-
  The walk of awake: the answers that the document fixes.
-/
import Derived.Test.YtpfbnbmpeaihjaaSplit
set_option linter.unusedSimpArgs false
set_option linter.unusedVariables false
namespace Go.Proofs.Ytpfbnbmpeaihjaa
open Go.RowKit

theorem aw1 : splitA ⟨#[97, 58, 98]⟩ = (⟨#[97]⟩, ⟨#[98]⟩, true) := by decide +kernel
theorem aw2 : splitA ⟨#[97, 58, 98, 58, 99]⟩ = (em, em, false) := by decide +kernel
theorem aw3 : sx ⟨#[60, 97, 58, 98, 32, 99]⟩ 1 = ⟨#[97, 58, 98]⟩ := by decide +kernel
theorem aw4 : sn ⟨#[60, 97, 58, 98, 32, 99]⟩ 1 = 3 := by decide +kernel
theorem aw5 : pl (bl ⟨#[97, 49]⟩) = true := by decide +kernel
theorem aw6 : pl (bl ⟨#[49, 97]⟩) = false := by decide +kernel
theorem aw7 : joinA ⟨#[97]⟩ ⟨#[98]⟩ = ⟨#[97, 58, 98]⟩ := by decide +kernel

theorem c1 (w : World) : Calls Try.prog 8 #[.string ⟨#[97, 58, 98]⟩] w fun e w' => e = .returned (.tuple #[.string ⟨#[97]⟩, .string ⟨#[98]⟩, .bool true]) ∧ Below w.heap.size w w' := by
  have h := split_any ⟨#[97, 58, 98]⟩ (by decide) w
  rw [aw1] at h
  exact h
theorem c2 (w : World) : Calls Try.prog 8 #[.string ⟨#[97, 58, 98, 58, 99]⟩] w fun e w' => e = .returned (.tuple #[.string ⟨#[]⟩, .string ⟨#[]⟩, .bool false]) ∧ Below w.heap.size w w' := by
  have h := split_any ⟨#[97, 58, 98, 58, 99]⟩ (by decide) w
  rw [aw2] at h
  exact h
theorem c3 (w : World) : Calls Try.prog 12 #[.string ⟨#[60, 97, 58, 98, 32, 99]⟩, .int .i64 1] w fun e w' => e = .returned (.tuple #[.string ⟨#[97, 58, 98]⟩, .int .i64 4]) ∧ Below w.heap.size w w' := by
  have h := cut_any ⟨#[60, 97, 58, 98, 32, 99]⟩ 1 (by decide) (by decide) w
  rw [aw3, aw4] at h
  exact h
theorem c5 (w : World) : Calls Try.prog 10 #[.string ⟨#[97, 49]⟩] w fun e w' => e = .returned (.bool true) ∧ Below w.heap.size w w' := by
  have h := plain_any ⟨#[97, 49]⟩ w
  rw [aw5] at h
  exact h
theorem c6 (w : World) : Calls Try.prog 10 #[.string ⟨#[49, 97]⟩] w fun e w' => e = .returned (.bool false) ∧ Below w.heap.size w w' := by
  have h := plain_any ⟨#[49, 97]⟩ w
  rw [aw6] at h
  exact h
theorem c7 (w : World) : Calls Try.prog 14 #[.string ⟨#[97]⟩, .string ⟨#[98]⟩] w fun e w' => e = .returned (.string ⟨#[97, 58, 98]⟩) ∧ w = w' := by
  have h := join_any ⟨#[97]⟩ ⟨#[98]⟩ (by decide) w
  rw [aw7] at h
  exact h
theorem chain {w w1 w2 w3 w4 w5 : World} (h1 : Below w.heap.size w w1) (h2 : Below w1.heap.size w1 w2) (h3 : Below w2.heap.size w2 w3) (h4 : Below w3.heap.size w3 w4) (h5 : Below w4.heap.size w4 w5) : Below w.heap.size w w5 := by
  have s1 := h1.size
  have s2 := h2.size
  have s3 := h3.size
  have s4 := h4.size
  exact (((h1.trans (h2.mono (by omega))).trans (h3.mono (by omega))).trans (h4.mono (by omega))).trans (h5.mono (by omega))
theorem chain2 {w w1 w2 : World} (h1 : Below w.heap.size w w1) (h2 : Below w1.heap.size w1 w2) : Below w.heap.size w w2 := h1.trans (h2.mono h1.size)

set_option maxHeartbeats 1000000 in
set_option maxRecDepth 100000 in
theorem awake_any (w : World) : Calls Try.prog 7 #[] w fun e w' => e = .returned (.bool true) ∧ Below w.heap.size w w' := by
  go_enter Try.func7, Try.ntmps7
  go_wp2_with fail
  refine (c1 _).mono ?_
  rintro e w1 ⟨rfl, hb1⟩
  go_wp2_with fail
  refine (c2 _).mono ?_
  rintro e w2 ⟨rfl, hb2⟩
  go_wp2_with fail
  refine (c3 _).mono ?_
  rintro e w3 ⟨rfl, hb3⟩
  go_wp2_with fail
  refine (c5 _).mono ?_
  rintro e w4 ⟨rfl, hb4⟩
  go_wp2_with fail
  refine (c6 _).mono ?_
  rintro e w5 ⟨rfl, hb5⟩
  go_wp2_with fail
  refine (c7 _).mono ?_
  rintro e w6 ⟨rfl, rfl⟩
  go_wp2_with fail
  go_ret
  exact ⟨ret_bool (by decide), chain hb1 hb2 hb3 hb4 hb5⟩
end Go.Proofs.Ytpfbnbmpeaihjaa
