/-
  PROVED HERE: the law TreeWords of the program.
  (The frame of 'lifted' and 'over' is after the guide's shell; the walk is ours.)
-/
import Derived.Test.YtaoggciebkaakaaRows
import Derived.Test.YtaoggciebkaakaaG16
import Derived.WalkKit
import Derived.Below
import Derived.ProofKit
import Derived.OpenShut
import Derived.ShutString
import Derived.SizedLaws
set_option linter.unusedVariables false
set_option linter.unusedSimpArgs false
namespace Go.Proofs.Ytaoggciebkaakaa
namespace treeWords
open Go.ChangeShapes Go.WideShapes Go.ChangeAt Go.RowKit
open Go.ChangeMaps (open_string shut_string)

theorem own : ownKnob Try.prog.godebug = none := by kernel_rfl
theorem all_le {l : List Nat} (h : l.all (· ≤ reachBytes) = true) : ∀ m ∈ l, m ≤ reachBytes := fun m hm => by
  rw [List.all_eq_true] at h
  simpa using h m hm
theorem laidOut0 : laidOutB Try.prog = true := by kernel_rfl

theorem walk (x : Ev.TT) (w : World) (T : Ev.TTok w x) : Calls Try.prog 4 #[.agg #[.bool x.t, .string x.tx, .string x.sp, .string x.lo, .slice x.Aa x.na x.ca, .slice x.Ak x.nk x.ck]] w fun e w' => e = .returned (.bool true) ∧ Below w.heap.size w w' :=
  Ev.words_law x.t x.tx x.sp x.lo x.ats x.ks x.Aa x.na x.ca x.Ak x.nk x.ck w T.1 T.2

set_option maxRecDepth 100000 in
theorem lifted (os : Os) (started : os.Started) (H : Type) (enc : TypeId × Value → H) :
    ReturnsInHanded {} Try.checked os 4 .any (Rows.treeWordsSpec.pre6 enc Try.prog Try.f4 Rows.treeWordsRow.domain false) (Rows.treeWordsSpec.post enc Try.prog Try.f4 false true false false) := by
  refine returnsInHanded_of_change_sized (C := Try.checked) own started (by kernel_rfl) Try.func4
    (ChangeSpec.witness6 (enc := enc) (C := Try.checked) false ⟨#[], #[.agg #[.bool false, .string ByteArray.empty, .string ByteArray.empty, .string ByteArray.empty, .slice none 0 0, .slice none 0 0]], []⟩ 8 (by kernel_rfl) (by kernel_rfl) (by kernel_rfl) (by kernel_rfl)) ?_
  intro W base args ds gs before hval0 hW hcnd hZ _
  have hval : ∀ (j : Nat) t v, Try.f4.params[j]? = some t → args[j]? = some v → Value.okWide Try.prog W .any base t v := hval0
  have hW' := hW
  obtain ⟨p, q, hA0, hV, rfl, hfz, hnd⟩ := hW
  have hA : DataW.TrodAll enc Try.prog W 0 (fun _ => true) true Try.f4.params.toList args.toList ds p := hA0
  rw [Try.params4] at hA hval
  obtain ⟨v0, vs0, d0, ds0, p0, q0, hargs, rfl, rfl, h0, r0⟩ := trodAll_cons hA
  obtain ⟨rfl, rfl, rfl⟩ := trodAll_nil r0
  obtain rfl : args = #[v0] := by cases args; simp_all
  obtain ⟨rfl, rfl⟩ := trodVars_none hV
  have z0 : ∀ m ∈ d0.weights Try.prog 30, m ≤ reachBytes := fun m hm => all_le hZ m (DataW.weights_mem_each (j := 0) (t := 30) (d := d0) (by rw [Try.params4]; rfl) rfl m hm)
  clear hZ
  have h0k := h0
  obtain ⟨x0, rfl, T0⟩ := Ev.open_tree (hval 0 30 v0 rfl rfl) h0 z0
  have hlt0 : ∀ x ∈ p0, x.block < W.heap.size := fun x hx => by simpa using hW'.lt x (by first | exact hx | simp [hx])
  clear hA0 hval0
  simp only [List.append_nil] at hW'
  refine (walk x0 W T0).mono fun e W' ⟨he, bel⟩ => ?_
  subst he
  exact ⟨_, rfl, _, _, _, [], _, [], hW', trodAll_mk1 (shut_bool Try.underlying4 _), (trodAll_cons_mk (Below.trod laidOut0 (by kernel_rfl) (of_decide_eq_true (by kernel_rfl)) h0k bel hlt0) trodAll_mk0), rfl, bel.frame _, fun h => by cases h⟩

theorem over : Rows.treeWordsRow.holds Try.pinned (OpenSpec.ofChange Rows.treeWordsSpec) :=
  OpenClaim.holds_of_wide 4 Try.f4 rfl rfl rfl rfl rfl rfl rfl ⟨rfl, rfl, rfl, rfl, rfl⟩ rfl rfl rfl rfl rfl (by kernel_rfl) Try.func4 (by kernel_rfl)
    (of_decide_eq_true (by kernel_rfl)) (by unfold Func.isWrapper; first | (rw [if_pos (by decide +kernel)]; kernel_rfl) | (rw [if_neg (by decide +kernel)]; exact ⟨rfl, rfl⟩))
    (fun os started H enc _ => lifted os started H enc)
end treeWords

/-- The statement. -/
theorem treeWords_holds : Rows.TreeWordsSaid := treeWords.over
end Go.Proofs.Ytaoggciebkaakaa
