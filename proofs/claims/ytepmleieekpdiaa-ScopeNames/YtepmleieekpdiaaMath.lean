/-
  Plain mathematics: the four classes of runes, as propositions that are decided.
-/
import Derived.Lib.DecodeN
set_option linter.unusedSimpArgs false
set_option linter.unusedVariables false
namespace Go.Proofs.Ytepmleieekpdiaa

def Btw (r a b : Int) : Prop := a ≤ r ∧ r ≤ b
def Blank (r : Int) : Prop := r = 9 ∨ r = 10 ∨ r = 13 ∨ r = 32
def Chr (r : Int) : Prop := r = 9 ∨ r = 10 ∨ r = 13 ∨ Btw r 32 55295 ∨ Btw r 57344 65533 ∨ Btw r 65536 1114111
def Start (r : Int) : Prop :=
  Btw r 65 90 ∨ Btw r 97 122 ∨ r = 95 ∨ Btw r 192 214 ∨ Btw r 216 246 ∨ Btw r 248 767 ∨ Btw r 880 893 ∨ Btw r 895 8191 ∨ Btw r 8204 8205 ∨ Btw r 8304 8591 ∨
  Btw r 11264 12271 ∨ Btw r 12289 55295 ∨ Btw r 63744 64975 ∨ Btw r 65008 65533 ∨ Btw r 65536 983039
def Part (r : Int) : Prop := Start r ∨ r = 45 ∨ r = 46 ∨ Btw r 48 57 ∨ r = 183 ∨ Btw r 768 879 ∨ Btw r 8255 8256

instance (r a b : Int) : Decidable (Btw r a b) := inferInstanceAs (Decidable (a ≤ r ∧ r ≤ b))
instance (r : Int) : Decidable (Blank r) := inferInstanceAs (Decidable (r = 9 ∨ r = 10 ∨ r = 13 ∨ r = 32))
instance (r : Int) : Decidable (Chr r) := inferInstanceAs (Decidable (r = 9 ∨ r = 10 ∨ r = 13 ∨ Btw r 32 55295 ∨ Btw r 57344 65533 ∨ Btw r 65536 1114111))
instance (r : Int) : Decidable (Start r) := by unfold Start; infer_instance
instance (r : Int) : Decidable (Part r) := by unfold Part; infer_instance

theorem blank_chr {r : Int} (h : Blank r) : Chr r := by unfold Blank at h; unfold Chr Btw; omega
theorem start_part {r : Int} (h : Start r) : Part r := .inl h
theorem part_chr {r : Int} (h : Part r) : Chr r := by unfold Part Start Btw at h; unfold Chr Btw; omega
theorem blank_part {r : Int} (h : Blank r) : ¬ Part r := by unfold Blank at h; unfold Part Start Btw; omega
end Go.Proofs.Ytepmleieekpdiaa
