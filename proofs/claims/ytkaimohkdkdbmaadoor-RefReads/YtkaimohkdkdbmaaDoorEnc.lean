/-
  A rune's bytes, as numbers.
-/
set_option linter.unusedSimpArgs false
set_option linter.unusedVariables false
namespace Go.Proofs.YtkaimohkdkdbmaaDoor

def encB (r : Int) : List Int :=
  if r < 128 then [r] else if r < 2048 then [192 + r / 64, 128 + r % 64] else if r < 65536 then [224 + r / 4096, 128 + r / 64 % 64, 128 + r % 64]
  else [240 + r / 262144, 128 + r / 4096 % 64, 128 + r / 64 % 64, 128 + r % 64]
/-- It has no bytes. -/
def Bad (r : Int) : Prop := r < 0 ∨ 1114111 < r ∨ (55296 ≤ r ∧ r ≤ 57343)
instance (r : Int) : Decidable (Bad r) := by unfold Bad; infer_instance
def putI (r : Int) : List Int := if Bad r then encB 65533 else encB r
def refPut (r : Int) : List Int := if Bad r then [] else encB r
theorem enc1 {r : Int} (h : r < 128) : encB r = [r] := by simp [encB, h]
theorem enc2 {r : Int} (h : 128 ≤ r) (h2 : r < 2048) : encB r = [192 + r / 64, 128 + r % 64] := by
  simp only [encB]; rw [if_neg (by omega), if_pos h2]
theorem enc3 {r : Int} (h : 2048 ≤ r) (h2 : r < 65536) : encB r = [224 + r / 4096, 128 + r / 64 % 64, 128 + r % 64] := by
  simp only [encB]; rw [if_neg (by omega), if_neg (by omega), if_pos h2]
theorem enc4 {r : Int} (h : 65536 ≤ r) : encB r = [240 + r / 262144, 128 + r / 4096 % 64, 128 + r / 64 % 64, 128 + r % 64] := by
  simp only [encB]; rw [if_neg (by omega), if_neg (by omega), if_neg (by omega)]
theorem putI_bad {r : Int} (h : Bad r) : putI r = [239, 191, 189] := by simp only [putI, if_pos h]; decide
theorem putI_ok {r : Int} (h : ¬ Bad r) : putI r = encB r := by simp only [putI, if_neg h]
theorem encB_len (r : Int) : 1 ≤ (encB r).length ∧ (encB r).length ≤ 4 := by
  unfold encB
  repeat' split
  all_goals simp
theorem putI_len (r : Int) : 1 ≤ (putI r).length ∧ (putI r).length ≤ 4 := by
  unfold putI
  split
  · exact encB_len _
  · exact encB_len _
end Go.Proofs.YtkaimohkdkdbmaaDoor
