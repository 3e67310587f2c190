/-
  Merged by program out of the texts Laid of one seat.
-/
import Derived.Test.YtmbghdpoeahnaaaGreatDoorRows
import Derived.Test.YtmbghdpoeahnaaaGreatDoorG17
import Derived.ProofKit
import Derived.LaidMore
import Derived.LaidLaws
import Derived.OpenShut
import Derived.Stop.Joined
import Derived.Lay
import Derived.HandedShaped
import Derived.Shelf.Vars
import Derived.Lib.LaidU8

/- What the rows' listed variables, and the world's shape, give the walks; a world in which they are so; the wrap that hands a contract both. -/
set_option linter.unusedSimpArgs false
set_option linter.unusedVariables false
namespace Go.Proofs.YtmbghdpoeahnaaaGreatDoor
open Go.ChangeShapes Go.WideShapes Go.ChangeAt Go.RowKit
open Go.Lib (VarReads)

theorem own : ownKnob Tryz.prog.godebug = none := by kernel_rfl
def laid10 : List (String × DataW Unit) := Rows.scanAllsRow.laid
set_option maxRecDepth 100000 in
theorem first_eq : Rows.laid_unicode_utf8_first = Go.Lib.firstData := by kernel_rfl
set_option maxRecDepth 100000 in
theorem accept_eq : (Rows.laid_unicode_utf8_acceptRanges : DataW Unit) = Go.Lib.acceptData := by kernel_rfl
set_option maxRecDepth 100000 in
theorem fold_eq : (Rows.laid_unicode_asciiFold : DataW Unit) = Go.Lib.tabData .u16 ((List.range 128).map foldC) := by kernel_rfl
theorem reads_cells {W : World} {n : String} {d : DataW Unit} (h : VarReads Tryz.prog W n d) {g t : Nat} (hg : Tryz.prog.globalNamed n = some g) (ht : (Tryz.prog.globals[g]?).map (·.type) = some t) :
    ∃ (cs : Array Value) (fuel : Nat) (p : List MemPlace), (∀ j, W.cell? ⟨g, j, none⟩ = cs[j]?) ∧ DataW.trod (fun _ => ()) Tryz.prog W 0 (fun _ => true) false fuel t cs.toList = some (d, p) := by
  obtain ⟨g', t', cs, fuel, p, h1, h2, h3, h4⟩ := h
  obtain rfl := Option.some.inj (hg.symm.trans h1)
  obtain rfl := Option.some.inj (ht.symm.trans h2)
  exact ⟨cs, fuel, p, fun j => World.var?_cell h1 h3 j, h4⟩
theorem err_cell {W : World} {n : String} {d : DataW Unit} (h : VarReads Tryz.prog W n d) {g : Nat} (hg : Tryz.prog.globalNamed n = some g) (ht : (Tryz.prog.globals[g]?).map (·.type) = some 128) (s : String) (d' : DataW Unit) (hd : d = .iface s d') :
    ∃ t p, W.cell? ⟨g, 0, none⟩ = some (.iface t p) := by
  subst hd
  obtain ⟨cs, fuel, p, hc, htr⟩ := reads_cells h hg ht
  obtain ⟨_, u, v, e, _⟩ := iface_of_trod Tryz.underlying128 htr
  refine ⟨u, v, ?_⟩
  rw [hc 0, Array.eq_one_of_toList e]
  rfl
theorem tab_cells {W : World} {n : String} {g t e : Nat} {k : IntKind} {m : Nat} {zs : List Int} (h : VarReads Tryz.prog W n (Go.Lib.tabData k zs)) (hg : Tryz.prog.globalNamed n = some g) (ht : (Tryz.prog.globals[g]?).map (·.type) = some t)
    (hu : Tryz.prog.underlying t = some (.array m e)) (he : Tryz.prog.underlying e = some (.int k)) (hce : Tryz.prog.cellsOf e = 1) (hct : Tryz.prog.cellsOf t = m) (j : Nat) : W.cell? ⟨g, j, none⟩ = (zs.map fun z => Value.int k z)[j]? := by
  obtain ⟨cs, fuel, p, hc, htr⟩ := reads_cells h hg ht
  have := Go.Lib.cells_of_tab hu he hce hct htr
  rw [hc j, ← Array.getElem?_toList, this]
theorem acc_cells {W : World} (h : VarReads Tryz.prog W "unicode/utf8.acceptRanges" Go.Lib.acceptData) (i : Nat) (hi : i < 16) :
    W.cell? ⟨5, 2 * i, none⟩ = some (.int .u8 (Lib.accLo i : Int)) ∧ W.cell? ⟨5, 2 * i + 1, none⟩ = some (.int .u8 (Lib.accHi i : Int)) := by
  obtain ⟨cs, fuel, p, hc, htr⟩ := reads_cells h (g := 5) (t := 148) (by kernel_rfl) (by kernel_rfl)
  obtain ⟨fuel', d, q, hdi, he⟩ := Go.Lib.array_elem Tryz.underlying148 htr i hi
  simp only [List.getElem?_map, List.getElem?_range hi, Option.map_some, Option.some.injEq] at hdi
  subst hdi
  have c2 : Tryz.prog.cellsOf 147 = 2 := by kernel_rfl
  have c1 : Tryz.prog.cellsOf 5 = 1 := by kernel_rfl
  rw [c2] at he
  have hcs := Go.Lib.ints_of_struct Tryz.underlying147 (fun j f hj => by
    match j, hj with
    | 0, hj => simp at hj; subst hj; exact ⟨Tryz.underlying5, rfl, c1⟩
    | 1, hj => simp at hj; subst hj; exact ⟨Tryz.underlying5, rfl, c1⟩
    | j + 2, hj => simp at hj) (by rw [c2]; rfl) he
  have e0 := congrArg (·[0]?) hcs
  have e1 := congrArg (·[1]?) hcs
  simp only [List.getElem?_take, List.getElem?_drop] at e0 e1
  constructor
  · rw [hc (2 * i), ← Array.getElem?_toList]
    simpa [Nat.mul_comm] using e0
  · rw [hc (2 * i + 1), ← Array.getElem?_toList]
    simpa [Nat.mul_comm] using e1
set_option maxRecDepth 100000 in
theorem arr_cell {W : World} {n : String} {d : DataW Unit} (h : VarReads Tryz.prog W n d) (hg : Tryz.prog.globalNamed n = some 10) (ht : (Tryz.prog.globals[10]?).map (·.type) = some 184) : ∃ u, W.cell? ⟨10, 0, none⟩ = some u := by
  obtain ⟨cs, fuel, p, hc, htr⟩ := reads_cells h hg ht
  obtain ⟨xs, m, _, _, _, hl, hel⟩ := DataW.trod_array Tryz.underlying184 htr
  have c5 : Tryz.prog.cellsOf 5 = 1 := by kernel_rfl
  have hE := hel 0 (by decide)
  rw [c5, Nat.mul_one, List.getElem?_eq_getElem (by omega)] at hE
  obtain ⟨z, e1, _⟩ := DataW.trod_int Tryz.underlying5 hE
  refine ⟨.int .u8 z, ?_⟩
  rw [hc 0, ← Array.getElem?_toList]
  have h0 : ((cs.toList.drop 0).take 1)[0]? = some (.int .u8 z) := by rw [e1]; rfl
  simpa using h0
set_option maxRecDepth 100000 in
theorem of_laid {W : World} (hL : laidMetH Tryz.prog laid10 W) (hS : W.ShapedOpen Tryz.prog) : Gl W := by
  rw [MakeChecks.laidMetH_plain _ _ _ (by kernel_rfl)] at hL
  have rd : ∀ n d, (n, d) ∈ laid10 → VarReads Tryz.prog W n d := fun n d h => Go.Lib.laidMet.reads hL h
  have r1 := rd "unicode.asciiFold" Rows.laid_unicode_asciiFold (by unfold laid10 Rows.scanAllsRow; simp)
  have r4 := rd "unicode/utf8.first" Rows.laid_unicode_utf8_first (by unfold laid10 Rows.scanAllsRow; simp)
  have r5 := rd "unicode/utf8.acceptRanges" Rows.laid_unicode_utf8_acceptRanges (by unfold laid10 Rows.scanAllsRow; simp)
  have r6 := rd "strconv.ErrSyntax" Rows.laid_strconv_ErrSyntax (by unfold laid10 Rows.scanAllsRow; simp)
  have r7 := rd "strconv.ErrRange" Rows.laid_strconv_ErrRange (by unfold laid10 Rows.scanAllsRow; simp)
  have r10 := rd "math/bits.deBruijn64tab" Rows.laid_math_bits_deBruijn64tab (by unfold laid10 Rows.scanAllsRow; simp)
  rw [fold_eq] at r1
  rw [first_eq] at r4
  rw [accept_eq] at r5
  have c6 := err_cell r6 (g := 6) (by kernel_rfl) (by kernel_rfl) _ _ rfl
  have c7 := err_cell r7 (g := 7) (by kernel_rfl) (by kernel_rfl) _ _ rfl
  have c10 := arr_cell r10 (by kernel_rfl) (by kernel_rfl)
  have hz : 11 ≤ W.heap.size := by
    obtain ⟨u, hu⟩ := c10
    exact Lib.lt_of_cell hu
  refine ⟨⟨by omega, c6, c7⟩, hz, cell_of_shapedOpen_int hS (g := 0) (t := 3) (zero := #[.int .i64 0]) (of_decide_eq_true (by kernel_rfl)) (by kernel_rfl) (by kernel_rfl) (by kernel_rfl) (by kernel_rfl) Tryz.underlying3, ⟨fun c hc => ?_, acc_cells r5⟩, fun k hk => ?_⟩
  · have := tab_cells r4 (g := 4) (t := 145) (by kernel_rfl) (by kernel_rfl) Tryz.underlying145 Tryz.underlying5 (by kernel_rfl) (by kernel_rfl) c
    rw [this]
    simp [Go.Lib.firstTab, hc]
  · have := tab_cells r1 (g := 1) (t := 131) (by kernel_rfl) (by kernel_rfl) Tryz.underlying131 Tryz.underlying31 (by kernel_rfl) (by kernel_rfl) k
    rw [this]
    simp [hk]
/-- The wrap for a row that lists variables: the contract is handed what they hold, and the world's shape. -/
theorem lift_both {H : Type} {enc : TypeId × Value → H} {a : Assume} {C : Checked} {os : Os} {f : FuncId} {fn : Func} {s : ChangeSpec} {conds : List PathCond} {apart fresh handsOn again : Bool} {X : World → Array Value → Prop}
    (hX : ∀ (w w' : World) (args : Array Value), w.heap = w'.heap → X w args → X w' args)
    (own : ownKnob C.prog.godebug = none) (started : os.Started) (noInit : C.prog.inits.idxOf? f = none) (hfn : C.prog.funcs[f]? = some fn)
    (witness : ∃ (w : World) (tape : Tape) (i : Input), w.os = os ∧ (w.forCall tape i).Shaped C.prog ∧ i.vars = [] ∧ Input.okWide C.prog (w.forCall tape i) .any w.heap.size f i ∧
      ((s.pre enc C.prog fn conds apart (w.forCall tape i).memory i.args ∧ X (w.forCall tape i).memory i.args) ∧ sizedMet enc C.prog fn (OpenSpec.ofChange s) apart (w.forCall tape i).memory i.args) ∧ a.holds C.prog (lone (Frame.enter C.prog f i.args .normal) [] (w.forCall tape i)))
    (contract : ∀ (W : World) (base : Nat) (args : Array Value) (ds gs : List (DataW H)) (before : List MemPlace),
      (∀ (j : Nat) t v, fn.params[j]? = some t → args[j]? = some v → Value.okWide C.prog W .any base t v) →
      DataW.Whole enc C.prog fn.params.toList s.vars apart W args.toList ds gs before → X W args → W.ShapedOpen C.prog →
      Calls C.prog f args W fun e W' => ∃ v, e = .returned v ∧ s.post enc C.prog fn apart fresh handsOn again W args v W') :
    ReturnsInHanded a C os f .any (fun w args => (s.pre enc C.prog fn conds apart w args ∧ X w args) ∧ sizedMet enc C.prog fn (OpenSpec.ofChange s) apart w args) (s.post enc C.prog fn apart fresh handsOn again) := by
  refine returnsInHanded_of_calls own started noInit witness ?_
  intro w tape i _ hsh _ hok hpre _
  obtain ⟨_, _, _, fn', hfn', _, _, _, _, hval⟩ := hok
  obtain rfl : fn' = fn := Option.some.inj (hfn'.symm.trans hfn)
  obtain ⟨⟨⟨ds, gs, before, hw, _⟩, hx⟩, _⟩ := hpre
  refine (contract (w.forCall tape i) w.heap.size i.args ds gs before hval (DataW.Whole.of_heap (w' := w.forCall tape i) (by rfl) hw) (hX _ _ _ (by rfl) hx) hsh).mono fun e W' ⟨v, he, hp⟩ => ?_
  subst he
  exact ChangeSpec.post_blind hp
end Go.Proofs.YtmbghdpoeahnaaaGreatDoor
