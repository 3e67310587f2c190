/-
  PROVED HERE: whatever scope and tag the law ScopeKeeps is called with, in whatever memory, it returns true, and its arguments read afterwards as they read before. Conditions: none beyond the given statement's own.
  (The frame of 'lifted' and 'over' is after the guide's shell; the walk is ours.)
-/
import Derived.Test.YtepmleieekpdiaaRows
import Derived.Test.YtepmleieekpdiaaScKpLaw
import Derived.Test.YtepmleieekpdiaaScOpen
import Derived.WalkKit
import Derived.Below
import Derived.ProofKit
import Derived.OpenShut
import Derived.ShutString
import Derived.SizedLaws
set_option linter.unusedVariables false
set_option linter.unusedSimpArgs false
namespace Go.Proofs.Ytepmleieekpdiaa
namespace scopeKeeps
open Go.ChangeShapes Go.WideShapes Go.ChangeAt Go.RowKit
open Go.ChangeMaps (open_string shut_string)

theorem own : ownKnob Try.prog.godebug = none := by kernel_rfl

theorem walk (A : Option Addr) (n c : Nat) (l : List P2) (nm : ByteArray) (A2 : Option Addr) (m c2 : Nat) (r : List P2) (w : World) (T : SlIn w A n c l) (U : TagIn w nm A2 m c2 r) :
    Calls Try.prog 6 #[.slice A n c, .agg #[.string nm, .slice A2 m c2]] w fun e w' => e = .returned (.bool true) ∧ Below w.heap.size w w' :=
  keeps_law A A2 n m c c2 nm l r w T.len T.lsz T.lim T.rd T.nil U.sl.len U.sl.lsz U.sl.lim U.sl.rd U.sl.nil U.nsz

set_option maxRecDepth 100000 in
theorem lifted (os : Os) (started : os.Started) (H : Type) (enc : TypeId × Value → H) :
    ReturnsInHanded {} Try.checked os 6 .any (Rows.scopeKeepsSpec.pre6 enc Try.prog Try.f6 Rows.scopeKeepsRow.domain false) (Rows.scopeKeepsSpec.post enc Try.prog Try.f6 false true false false) := by
  refine returnsInHanded_of_change_sized (C := Try.checked) own started (by kernel_rfl) Try.func6
    (ChangeSpec.witness6 (enc := enc) (C := Try.checked) false ⟨#[], #[.slice none 0 0, .agg #[.string ByteArray.empty, .slice none 0 0]], []⟩ 8 (by kernel_rfl) (by kernel_rfl) (by kernel_rfl) (by kernel_rfl)) ?_
  intro W base args ds gs before hval0 hW hcnd hZ _
  have hval : ∀ (j : Nat) t v, Try.f6.params[j]? = some t → args[j]? = some v → Value.okWide Try.prog W .any base t v := hval0
  have hW' := hW
  obtain ⟨p, q, hA0, hV, rfl, hfz, hnd⟩ := hW
  have hA : DataW.TrodAll enc Try.prog W 0 (fun _ => true) true Try.f6.params.toList args.toList ds p := hA0
  rw [Try.params6] at hA hval
  obtain ⟨v0, vs0, d0, ds0, p0, q0, hargs, rfl, rfl, h0, r0⟩ := trodAll_cons hA
  obtain ⟨v1, vs1, d1, ds1, p1, q1, rfl, rfl, rfl, h1, r1⟩ := trodAll_cons r0
  obtain ⟨rfl, rfl, rfl⟩ := trodAll_nil r1
  obtain rfl : args = #[v0, v1] := by cases args; simp_all
  obtain ⟨rfl, rfl⟩ := trodVars_none hV
  have z0 : ∀ m ∈ d0.weights Try.prog 22, m ≤ reachBytes := fun m hm => all_le hZ m (DataW.weights_mem_each (j := 0) (t := 22) (d := d0) (by rw [Try.params6]; rfl) rfl m hm)
  have z1 : ∀ m ∈ d1.weights Try.prog 25, m ≤ reachBytes := fun m hm => all_le hZ m (DataW.weights_mem_each (j := 1) (t := 25) (d := d1) (by rw [Try.params6]; rfl) rfl m hm)
  clear hZ
  have h0k := h0
  obtain ⟨A0, n0, c0, l0, rfl, T0⟩ := open_scope (hval 0 22 v0 rfl rfl) h0 z0
  have hlt0 : ∀ x ∈ p0, x.block < W.heap.size := fun x hx => by simpa using hW'.lt x (by first | exact hx | simp [hx])
  have h1k := h1
  obtain ⟨nm1, A1, n1, c1, l1, rfl, T1⟩ := open_tag (hval 1 25 v1 rfl rfl) h1 z1
  have hlt1 : ∀ x ∈ p1, x.block < W.heap.size := fun x hx => by simpa using hW'.lt x (by first | exact hx | simp [hx])
  clear hA0 hval0
  simp only [List.append_nil] at hW'
  refine (walk A0 n0 c0 l0 nm1 A1 n1 c1 l1 W T0 T1).mono fun e W' ⟨he, bel⟩ => ?_
  subst he
  exact ⟨_, rfl, _, _, _, [], _, [], hW', trodAll_mk1 (shut_bool Try.underlying4 _), (trodAll_cons_mk (Below.trod Try.laidOut (by kernel_rfl) (of_decide_eq_true (by kernel_rfl)) h0k bel hlt0) (trodAll_cons_mk (Below.trod Try.laidOut (by kernel_rfl) (of_decide_eq_true (by kernel_rfl)) h1k bel hlt1) trodAll_mk0)), rfl, bel.frame _, fun h => by cases h⟩

theorem over : Rows.scopeKeepsRow.holds Try.pinned (OpenSpec.ofChange Rows.scopeKeepsSpec) :=
  OpenClaim.holds_of_wide 6 Try.f6 rfl rfl rfl rfl rfl rfl rfl ⟨rfl, rfl, rfl, rfl, rfl⟩ rfl rfl rfl rfl rfl (by kernel_rfl) Try.func6 (by kernel_rfl)
    (of_decide_eq_true (by kernel_rfl)) (by unfold Func.isWrapper; first | (rw [if_pos (by decide +kernel)]; kernel_rfl) | (rw [if_neg (by decide +kernel)]; exact ⟨rfl, rfl⟩))
    (fun os started H enc _ => lifted os started H enc)
end scopeKeeps

/-- The statement. -/
theorem scopeKeeps_holds : Rows.ScopeKeepsSaid := scopeKeeps.over
end Go.Proofs.Ytepmleieekpdiaa
