/-
  PROVED HERE: whatever scope, tag and prefix the law ScopeEnters is called with, in whatever memory, it returns true, and its arguments read afterwards as they read before. Conditions: none beyond the given statement's own.
  (The frame of 'lifted' and 'over' is after the guide's shell; the walk is ours.)
-/
import Derived.Test.YtepmleieekpdiaaRows
import Derived.Test.YtepmleieekpdiaaScEnLaw
import Derived.Test.YtepmleieekpdiaaScOpen
import Derived.WalkKit
import Derived.Below
import Derived.ProofKit
import Derived.OpenShut
import Derived.ShutString
import Derived.SizedLaws
set_option linter.unusedVariables false
set_option linter.unusedSimpArgs false
namespace Go.Proofs.Ytepmleieekpdiaa
namespace scopeEnters
open Go.ChangeShapes Go.WideShapes Go.ChangeAt Go.RowKit
open Go.ChangeMaps (open_string shut_string)

theorem own : ownKnob Try.prog.godebug = none := by kernel_rfl

theorem walk (A : Option Addr) (n c : Nat) (l : List P2) (nm : ByteArray) (A2 : Option Addr) (m c2 : Nat) (r : List P2) (p : ByteArray) (w : World) (T : SlIn w A n c l) (U : TagIn w nm A2 m c2 r) (wp : p.size ≤ maxLen) (yp : p.size ≤ Lim) :
    Calls Try.prog 3 #[.slice A n c, .agg #[.string nm, .slice A2 m c2], .string p] w fun e w' => e = .returned (.bool true) ∧ Below w.heap.size w w' :=
  enters_law A A2 n m c c2 nm p l r w T.len T.lsz T.lim T.rd T.nil U.sl.len U.sl.lsz U.sl.lim U.sl.rd U.nsz

set_option maxRecDepth 100000 in
theorem lifted (os : Os) (started : os.Started) (H : Type) (enc : TypeId × Value → H) :
    ReturnsInHanded {} Try.checked os 3 .any (Rows.scopeEntersSpec.pre6 enc Try.prog Try.f3 Rows.scopeEntersRow.domain false) (Rows.scopeEntersSpec.post enc Try.prog Try.f3 false true false false) := by
  refine returnsInHanded_of_change_sized (C := Try.checked) own started (by kernel_rfl) Try.func3
    (ChangeSpec.witness6 (enc := enc) (C := Try.checked) false ⟨#[], #[.slice none 0 0, .agg #[.string ByteArray.empty, .slice none 0 0], .string ByteArray.empty], []⟩ 8 (by kernel_rfl) (by kernel_rfl) (by kernel_rfl) (by kernel_rfl)) ?_
  intro W base args ds gs before hval0 hW hcnd hZ _
  have hval : ∀ (j : Nat) t v, Try.f3.params[j]? = some t → args[j]? = some v → Value.okWide Try.prog W .any base t v := hval0
  have hW' := hW
  obtain ⟨p, q, hA0, hV, rfl, hfz, hnd⟩ := hW
  have hA : DataW.TrodAll enc Try.prog W 0 (fun _ => true) true Try.f3.params.toList args.toList ds p := hA0
  rw [Try.params3] at hA hval
  obtain ⟨v0, vs0, d0, ds0, p0, q0, hargs, rfl, rfl, h0, r0⟩ := trodAll_cons hA
  obtain ⟨v1, vs1, d1, ds1, p1, q1, rfl, rfl, rfl, h1, r1⟩ := trodAll_cons r0
  obtain ⟨v2, vs2, d2, ds2, p2, q2, rfl, rfl, rfl, h2, r2⟩ := trodAll_cons r1
  obtain ⟨rfl, rfl, rfl⟩ := trodAll_nil r2
  obtain rfl : args = #[v0, v1, v2] := by cases args; simp_all
  obtain ⟨rfl, rfl⟩ := trodVars_none hV
  have z0 : ∀ m ∈ d0.weights Try.prog 22, m ≤ reachBytes := fun m hm => all_le hZ m (DataW.weights_mem_each (j := 0) (t := 22) (d := d0) (by rw [Try.params3]; rfl) rfl m hm)
  have z1 : ∀ m ∈ d1.weights Try.prog 25, m ≤ reachBytes := fun m hm => all_le hZ m (DataW.weights_mem_each (j := 1) (t := 25) (d := d1) (by rw [Try.params3]; rfl) rfl m hm)
  have z2 : ∀ m ∈ d2.weights Try.prog 9, m ≤ reachBytes := fun m hm => all_le hZ m (DataW.weights_mem_each (j := 2) (t := 9) (d := d2) (by rw [Try.params3]; rfl) rfl m hm)
  clear hZ
  have h0k := h0
  obtain ⟨A0, n0, c0, l0, rfl, T0⟩ := open_scope (hval 0 22 v0 rfl rfl) h0 z0
  have hlt0 : ∀ x ∈ p0, x.block < W.heap.size := fun x hx => by simpa using hW'.lt x (by first | exact hx | simp [hx])
  have h1k := h1
  obtain ⟨nm1, A1, n1, c1, l1, rfl, T1⟩ := open_tag (hval 1 25 v1 rfl rfl) h1 z1
  have hlt1 : ∀ x ∈ p1, x.block < W.heap.size := fun x hx => by simpa using hW'.lt x (by first | exact hx | simp [hx])
  obtain ⟨a2, rfl, rfl, rfl, w2⟩ := open_string Try.underlying9 (hval 2 9 v2 rfl rfl) h2
  have y2 : a2.size ≤ Lim := by have := z2 a2.data.toList.length (by simp [DataW.weights]); rw [← Lib.size_eq] at this; exact this
  clear hA0 hval0
  simp only [List.append_nil] at hW'
  refine (walk A0 n0 c0 l0 nm1 A1 n1 c1 l1 a2 W T0 T1 w2 y2).mono fun e W' ⟨he, bel⟩ => ?_
  subst he
  exact ⟨_, rfl, _, _, _, [], _, [], hW', trodAll_mk1 (shut_bool Try.underlying4 _), (trodAll_cons_mk (Below.trod Try.laidOut (by kernel_rfl) (of_decide_eq_true (by kernel_rfl)) h0k bel hlt0) (trodAll_cons_mk (Below.trod Try.laidOut (by kernel_rfl) (of_decide_eq_true (by kernel_rfl)) h1k bel hlt1) (trodAll_cons_mk (shut_string Try.underlying9 w2) trodAll_mk0))), rfl, bel.frame _, fun h => by cases h⟩

theorem over : Rows.scopeEntersRow.holds Try.pinned (OpenSpec.ofChange Rows.scopeEntersSpec) :=
  OpenClaim.holds_of_wide 3 Try.f3 rfl rfl rfl rfl rfl rfl rfl ⟨rfl, rfl, rfl, rfl, rfl⟩ rfl rfl rfl rfl rfl (by kernel_rfl) Try.func3 (by kernel_rfl)
    (of_decide_eq_true (by kernel_rfl)) (by unfold Func.isWrapper; first | (rw [if_pos (by decide +kernel)]; kernel_rfl) | (rw [if_neg (by decide +kernel)]; exact ⟨rfl, rfl⟩))
    (fun os started H enc _ => lifted os started H enc)
end scopeEnters

/-- The statement. -/
theorem scopeEnters_holds : Rows.ScopeEntersSaid := scopeEnters.over
end Go.Proofs.Ytepmleieekpdiaa
