/-
  Merged by program out of the texts Laid of one seat.
-/
import Derived.Test.YtaoklhalkfcpfaaGreatDoorRows
import Derived.Test.YtaoklhalkfcpfaaGreatDoorG06
import Derived.ProofKit
import Derived.LaidMore
import Derived.LaidLaws
import Derived.OpenShut
import Derived.Stop.Joined
import Derived.Lay
import Derived.HandedShaped
import Derived.Shelf.Vars
import Derived.Lib.LaidU8

/- What the rows' listed variables give the walks; the wrap that hands a contract what they hold, and the world's shape. -/
set_option linter.unusedSimpArgs false
set_option linter.unusedVariables false
namespace Go.Proofs.YtaoklhalkfcpfaaGreatDoor
open Go.ChangeShapes Go.WideShapes Go.ChangeAt Go.RowKit
open Go.Lib (VarReads)

theorem own : ownKnob Tryz.prog.godebug = none := by kernel_rfl
def laid10 : List (String × DataW Unit) := Rows.tagReadsRow.laid
theorem reads_cells {W : World} {n : String} {d : DataW Unit} (h : VarReads Tryz.prog W n d) {g t : Nat} (hg : Tryz.prog.globalNamed n = some g) (ht : (Tryz.prog.globals[g]?).map (·.type) = some t) :
    ∃ (cs : Array Value) (fuel : Nat) (p : List MemPlace), (∀ j, W.cell? ⟨g, j, none⟩ = cs[j]?) ∧ DataW.trod (fun _ => ()) Tryz.prog W 0 (fun _ => true) false fuel t cs.toList = some (d, p) := by
  obtain ⟨g', t', cs, fuel, p, h1, h2, h3, h4⟩ := h
  obtain rfl := Option.some.inj (hg.symm.trans h1)
  obtain rfl := Option.some.inj (ht.symm.trans h2)
  exact ⟨cs, fuel, p, fun j => World.var?_cell h1 h3 j, h4⟩
theorem err_cell {W : World} {n : String} {d : DataW Unit} (h : VarReads Tryz.prog W n d) {g : Nat} (hg : Tryz.prog.globalNamed n = some g) (ht : (Tryz.prog.globals[g]?).map (·.type) = some 57) (s : String) (d' : DataW Unit) (hd : d = .iface s d') :
    ∃ t p, W.cell? ⟨g, 0, none⟩ = some (.iface t p) := by
  subst hd
  obtain ⟨cs, fuel, p, hc, htr⟩ := reads_cells h hg ht
  obtain ⟨_, u, v, e, _⟩ := iface_of_trod Tryz.underlying57 htr
  refine ⟨u, v, ?_⟩
  rw [hc 0, Array.eq_one_of_toList e]
  rfl
set_option maxRecDepth 100000 in
theorem of_laid {W : World} (hL : laidMetH Tryz.prog laid10 W) (hS : W.ShapedOpen Tryz.prog) : Vars W := by
  rw [MakeChecks.laidMetH_plain _ _ _ (by kernel_rfl)] at hL
  have rd : ∀ n d, (n, d) ∈ laid10 → VarReads Tryz.prog W n d := fun n d h => Go.Lib.laidMet.reads hL h
  have r3 := rd "strconv.ErrSyntax" Rows.laid_strconv_ErrSyntax (by unfold laid10 Rows.tagReadsRow; simp)
  have r4 := rd "strconv.ErrRange" Rows.laid_strconv_ErrRange (by unfold laid10 Rows.tagReadsRow; simp)
  have c3 := err_cell r3 (g := 3) (by kernel_rfl) (by kernel_rfl) _ _ rfl
  have c4 := err_cell r4 (g := 4) (by kernel_rfl) (by kernel_rfl) _ _ rfl
  have hz : 5 ≤ W.heap.size := by
    obtain ⟨t, p, hu⟩ := c4
    exact Lib.lt_of_cell hu
  exact ⟨hz, c3, c4⟩
/-- The wrap for a row that lists variables: the contract is handed what they hold, and the world's shape. -/
theorem lift_both {H : Type} {enc : TypeId × Value → H} {a : Assume} {C : Checked} {os : Os} {f : FuncId} {fn : Func} {s : ChangeSpec} {conds : List PathCond} {apart fresh handsOn again : Bool} {X : World → Array Value → Prop}
    (hX : ∀ (w w' : World) (args : Array Value), w.heap = w'.heap → X w args → X w' args)
    (own : ownKnob C.prog.godebug = none) (started : os.Started) (noInit : C.prog.inits.idxOf? f = none) (hfn : C.prog.funcs[f]? = some fn)
    (witness : ∃ (w : World) (tape : Tape) (i : Input), w.os = os ∧ (w.forCall tape i).Shaped C.prog ∧ i.vars = [] ∧ Input.okWide C.prog (w.forCall tape i) .any w.heap.size f i ∧
      ((s.pre enc C.prog fn conds apart (w.forCall tape i).memory i.args ∧ X (w.forCall tape i).memory i.args) ∧ sizedMet enc C.prog fn (OpenSpec.ofChange s) apart (w.forCall tape i).memory i.args) ∧ a.holds C.prog (lone (Frame.enter C.prog f i.args .normal) [] (w.forCall tape i)))
    (contract : ∀ (W : World) (base : Nat) (args : Array Value) (ds gs : List (DataW H)) (before : List MemPlace),
      (∀ (j : Nat) t v, fn.params[j]? = some t → args[j]? = some v → Value.okWide C.prog W .any base t v) →
      DataW.Whole enc C.prog fn.params.toList s.vars apart W args.toList ds gs before → X W args → W.ShapedOpen C.prog →
      Calls C.prog f args W fun e W' => ∃ v, e = .returned v ∧ s.post enc C.prog fn apart fresh handsOn again W args v W') :
    ReturnsInHanded a C os f .any (fun w args => (s.pre enc C.prog fn conds apart w args ∧ X w args) ∧ sizedMet enc C.prog fn (OpenSpec.ofChange s) apart w args) (s.post enc C.prog fn apart fresh handsOn again) := by
  refine returnsInHanded_of_calls own started noInit witness ?_
  intro w tape i _ hsh _ hok hpre _
  obtain ⟨_, _, _, fn', hfn', _, _, _, _, hval⟩ := hok
  obtain rfl : fn' = fn := Option.some.inj (hfn'.symm.trans hfn)
  obtain ⟨⟨⟨ds, gs, before, hw, _⟩, hx⟩, _⟩ := hpre
  refine (contract (w.forCall tape i) w.heap.size i.args ds gs before hval (DataW.Whole.of_heap (w' := w.forCall tape i) (by rfl) hw) (hX _ _ _ (by rfl) hx) hsh).mono fun e W' ⟨v, he, hp⟩ => ?_
  subst he
  exact ChangeSpec.post_blind hp
end Go.Proofs.YtaoklhalkfcpfaaGreatDoor
