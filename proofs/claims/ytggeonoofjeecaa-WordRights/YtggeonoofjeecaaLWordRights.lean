/-
  PROVED HERE: the program tells of whatever two events whether they are right, and whether they are alike, as the document does
  (The frame of 'lifted' and 'over' is after the guide's shell; the walk is ours.)
-/
import Derived.Test.YtggeonoofjeecaaRows
import Derived.Test.YtggeonoofjeecaaG09
import Derived.WalkKit
import Derived.Below
import Derived.ProofKit
import Derived.OpenShut
import Derived.ShutString
import Derived.SizedLaws
set_option linter.unusedVariables false
set_option linter.unusedSimpArgs false
namespace Go.Proofs.Ytggeonoofjeecaa
namespace wordRights
open Go.ChangeShapes Go.WideShapes Go.ChangeAt Go.RowKit
open Go.ChangeMaps (open_string shut_string)

theorem own : ownKnob Try.prog.godebug = none := by kernel_rfl
theorem all_le {l : List Nat} (h : l.all (· ≤ reachBytes) = true) : ∀ m ∈ l, m ≤ reachBytes := fun m hm => by
  rw [List.all_eq_true] at h
  simpa using h m hm
theorem laidOut0 : laidOutB Try.prog = true := by kernel_rfl

theorem walk (A1 : Option Addr) (n1 c1 : Nat) (x : Ev.RE) (A2 : Option Addr) (n2 c2 : Nat) (y : Ev.RE) (w : World) (T1 : Ev.AttsIn w A1 n1 c1 x.ats) (S1 : Ev.RSz x) (T2 : Ev.AttsIn w A2 n2 c2 y.ats) (S2 : Ev.RSz y) :
    Calls Try.prog 3 #[.agg #[.int .i64 x.kind, .string x.sp, .string x.lo, .slice A1 n1 c1, .string x.tx], .agg #[.int .i64 y.kind, .string y.sp, .string y.lo, .slice A2 n2 c2, .string y.tx]] w fun e w' => e = .returned (.bool true) ∧ Below w.heap.size w w' :=
  Ev.rights_law _ _ _ Ev.wc_all A1 A2 n1 n2 c1 c2 x y w T1 T2 S1 S2 trivial

set_option maxRecDepth 100000 in
theorem lifted (os : Os) (started : os.Started) (H : Type) (enc : TypeId × Value → H) :
    ReturnsInHanded {} Try.checked os 3 .any (Rows.wordRightsSpec.pre6 enc Try.prog Try.f3 Rows.wordRightsRow.domain false) (Rows.wordRightsSpec.post enc Try.prog Try.f3 false true false false) := by
  refine returnsInHanded_of_change_sized (C := Try.checked) own started (by kernel_rfl) Try.func3
    (ChangeSpec.witness6 (enc := enc) (C := Try.checked) false ⟨#[], #[.agg #[.int .i64 0, .string ByteArray.empty, .string ByteArray.empty, .slice none 0 0, .string ByteArray.empty], .agg #[.int .i64 0, .string ByteArray.empty, .string ByteArray.empty, .slice none 0 0, .string ByteArray.empty]], []⟩ 8 (by kernel_rfl) (by kernel_rfl) (by kernel_rfl) (by kernel_rfl)) ?_
  intro W base args ds gs before hval0 hW hcnd hZ _
  have hval : ∀ (j : Nat) t v, Try.f3.params[j]? = some t → args[j]? = some v → Value.okWide Try.prog W .any base t v := hval0
  have hW' := hW
  obtain ⟨p, q, hA0, hV, rfl, hfz, hnd⟩ := hW
  have hA : DataW.TrodAll enc Try.prog W 0 (fun _ => true) true Try.f3.params.toList args.toList ds p := hA0
  rw [Try.params3] at hA hval
  obtain ⟨v0, vs0, d0, ds0, p0, q0, hargs, rfl, rfl, h0, r0⟩ := trodAll_cons hA
  obtain ⟨v1, vs1, d1, ds1, p1, q1, rfl, rfl, rfl, h1, r1⟩ := trodAll_cons r0
  obtain ⟨rfl, rfl, rfl⟩ := trodAll_nil r1
  obtain rfl : args = #[v0, v1] := by cases args; simp_all
  obtain ⟨rfl, rfl⟩ := trodVars_none hV
  have z0 : ∀ m ∈ d0.weights Try.prog 26, m ≤ reachBytes := fun m hm => all_le hZ m (DataW.weights_mem_each (j := 0) (t := 26) (d := d0) (by rw [Try.params3]; rfl) rfl m hm)
  have z1 : ∀ m ∈ d1.weights Try.prog 26, m ≤ reachBytes := fun m hm => all_le hZ m (DataW.weights_mem_each (j := 1) (t := 26) (d := d1) (by rw [Try.params3]; rfl) rfl m hm)
  clear hZ
  have h0k := h0
  obtain ⟨A0, n0, c0, x0, rfl, T0, S0⟩ := Ev.open_ev (hval 0 26 v0 rfl rfl) h0 z0
  have hlt0 : ∀ x ∈ p0, x.block < W.heap.size := fun x hx => by simpa using hW'.lt x (by first | exact hx | simp [hx])
  have h1k := h1
  obtain ⟨A1, n1, c1, x1, rfl, T1, S1⟩ := Ev.open_ev (hval 1 26 v1 rfl rfl) h1 z1
  have hlt1 : ∀ x ∈ p1, x.block < W.heap.size := fun x hx => by simpa using hW'.lt x (by first | exact hx | simp [hx])
  clear hA0 hval0
  simp only [List.append_nil] at hW'
  refine (walk A0 n0 c0 x0 A1 n1 c1 x1 W T0 S0 T1 S1).mono fun e W' ⟨he, bel⟩ => ?_
  subst he
  exact ⟨_, rfl, _, _, _, [], _, [], hW', trodAll_mk1 (shut_bool Try.underlying4 _), (trodAll_cons_mk (Below.trod laidOut0 (by kernel_rfl) (of_decide_eq_true (by kernel_rfl)) h0k bel hlt0) (trodAll_cons_mk (Below.trod laidOut0 (by kernel_rfl) (of_decide_eq_true (by kernel_rfl)) h1k bel hlt1) trodAll_mk0)), rfl, bel.frame _, fun h => by cases h⟩

theorem over : Rows.wordRightsRow.holds Try.pinned (OpenSpec.ofChange Rows.wordRightsSpec) :=
  OpenClaim.holds_of_wide 3 Try.f3 rfl rfl rfl rfl rfl rfl rfl ⟨rfl, rfl, rfl, rfl, rfl⟩ rfl rfl rfl rfl rfl (by kernel_rfl) Try.func3 (by kernel_rfl)
    (of_decide_eq_true (by kernel_rfl)) (by unfold Func.isWrapper; first | (rw [if_pos (by decide +kernel)]; kernel_rfl) | (rw [if_neg (by decide +kernel)]; exact ⟨rfl, rfl⟩))
    (fun os started H enc _ => lifted os started H enc)
end wordRights

/-- The statement. -/
theorem wordRights_holds : Rows.WordRightsSaid := wordRights.over
end Go.Proofs.Ytggeonoofjeecaa
