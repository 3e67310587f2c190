/-
  Merged by program out of the texts EvOpen, EvFew, EvRight, EvRight2, EvRight3, EvDepth, EvCon, TrMath of one seat.
-/
import Derived.Test.YtjboglpnpgghiaaDoorProg
import Derived.WalkKit
import Derived.Below
import Derived.Lib.Hide
import Derived.Lib.AtoiErrMem
import Derived.Lib.SmallJoins
import Derived.Deep.Slices
import Derived.Deep.SlicePairs
import Derived.Carry
import Derived.ProofKit
import Derived.OpenShut
import Derived.SizedLaws
import Derived.Handed
import Derived.Lib.Builder
import Derived.Deep.QuietTactic
import Derived.BigQuiet
import Derived.Deep.RegionHeld3
import Derived.Deep.RegionWith
import Derived.Laws.OwnMore

/- Events that are handed in, opened: one, or a slice of them. -/
set_option linter.unusedSimpArgs false
set_option linter.unusedVariables false
namespace Go.Proofs.YtjboglpnpgghiaaDoor.Ev
open Go.Joins Go.ChangeShapes Go.WideShapes Go.RowKit Go.Deep

theorem Tryd.cells34 : Tryd.prog.cellsOf 34 = 3 := by kernel_rfl
theorem Tryd.cells24 : Tryd.prog.cellsOf 24 = 1 := by kernel_rfl
theorem Tryd.cells23 : Tryd.prog.cellsOf 23 = 2 := by kernel_rfl
theorem Tryd.cells9 : Tryd.prog.cellsOf 9 = 1 := by kernel_rfl
theorem Tryd.cells3 : Tryd.prog.cellsOf 3 = 1 := by kernel_rfl
theorem Tryd.bytes34 : Tryd.prog.bytesOf 34 = 48 := by kernel_rfl
theorem weightsAll_mem {H : Type} {P : Program} {e : TypeId} : ∀ {l : List (DataW H)} {d : DataW H}, d ∈ l → ∀ m ∈ d.weights P e, m ∈ DataW.weightsAll P e l
  | [], d, h, m, _ => by simp at h
  | x :: l, d, h, m, hm => by
    unfold DataW.weightsAll
    rw [List.mem_append]
    rcases List.mem_cons.1 h with rfl | h
    · exact .inl hm
    · exact .inr (weightsAll_mem h m hm)
/-- What the sizes say of a slice: how many elements it may have; each element's own sizes. -/
theorem slice_sizes {H : Type} {P : Program} {t e : TypeId} {n b : Nat} {D : Nat → DataW H} {S : List (DataW H)} (ht : P.underlying t = some (.slice e)) (hb : P.bytesOf e = b) (hw : ∀ q ∈ (DataW.slice ((List.range n).map D) S).weights P t, q ≤ reachBytes) : n * b ≤ reachBytes ∧ ∀ i, i < n → ∀ q ∈ (D i).weights P e, q ≤ reachBytes := by
  have h1 : (DataW.slice ((List.range n).map D) S).weights P t = (((List.range n).map D).length + S.length) * P.bytesOf e :: (DataW.weightsAll P e ((List.range n).map D) ++ DataW.weightsAll P e S) := by
    unfold DataW.weights
    rw [ht]
  rw [h1] at hw
  constructor
  · have := hw _ List.mem_cons_self
    rw [List.length_map, List.length_range, hb] at this
    exact Nat.le_trans (Nat.mul_le_mul_right b (Nat.le_add_right _ _)) this
  · intro i hi q hq
    refine hw q (List.mem_cons_of_mem _ (List.mem_append.2 (.inl (weightsAll_mem (List.mem_map.2 ⟨i, List.mem_range.2 hi, rfl⟩) q hq))))
abbrev P2 := ByteArray × ByteArray
abbrev P3 := P2 × ByteArray
/-- The slice at A reads as these attributes. -/
def RdT (w : World) (A : Option Addr) (l : List P3) : Prop :=
  ∀ k x, l[k]? = some x → ∃ b off, A = some ⟨b, off, none⟩ ∧ b < w.heap.size ∧ w.cell? ⟨b, off + k * 3, none⟩ = some (.string x.1.1) ∧ w.cell? ⟨b, off + k * 3 + 1, none⟩ = some (.string x.1.2) ∧ w.cell? ⟨b, off + k * 3 + 2, none⟩ = some (.string x.2)
theorem RdT.keep {w w' : World} {A : Option Addr} {l : List P3} (h : RdT w A l) (hb : Below w.heap.size w w') : RdT w' A l := fun k t hk => by
  obtain ⟨b, o, e, hlt, c0, c1, c2⟩ := h k t hk
  exact ⟨b, o, e, Nat.lt_of_lt_of_le hlt hb.size, (hb.cell (p := ⟨b, o + k * 3, none⟩) hlt).trans c0, (hb.cell (p := ⟨b, o + k * 3 + 1, none⟩) hlt).trans c1, (hb.cell (p := ⟨b, o + k * 3 + 2, none⟩) hlt).trans c2⟩
/-- What is known of attributes that are handed in. -/
structure AttsIn (w : World) (A : Option Addr) (n c : Nat) (l : List P3) : Prop where
  len : n = l.length
  lsz : n ≤ maxLen
  cnt : n ≤ 4398046511104
  xsz : ∀ x ∈ l, x.1.1.size ≤ maxLen ∧ x.1.2.size ≤ maxLen ∧ x.2.size ≤ maxLen
  rd : RdT w A l
  nil : A = none → n = 0 ∧ c = 0
theorem AttsIn.keep {w w' : World} {A : Option Addr} {n c : Nat} {l : List P3} (h : AttsIn w A n c l) (hb : Below w.heap.size w w') : AttsIn w' A n c l := ⟨h.len, h.lsz, h.cnt, h.xsz, h.rd.keep hb, h.nil⟩
/-- An event, whatever it may be. -/
structure RE where
  kind : Int
  sp : ByteArray
  lo : ByteArray
  ats : List P3
  tx : ByteArray
/-- The bounds of an event that is handed in. -/
structure RSz (e : RE) : Prop where
  sp : e.sp.size ≤ maxLen
  lo : e.lo.size ≤ maxLen
  tx : e.tx.size ≤ maxLen
/-- The slice at A reads as these events. -/
def RdV (w : World) (A : Option Addr) (l : List RE) : Prop :=
  ∀ k x, l[k]? = some x → ∃ b off Aa n c, A = some ⟨b, off, none⟩ ∧ b < w.heap.size ∧ AttsIn w Aa n c x.ats ∧ w.cell? ⟨b, off + k * 5, none⟩ = some (.int .i64 x.kind) ∧ w.cell? ⟨b, off + k * 5 + 1, none⟩ = some (.string x.sp) ∧ w.cell? ⟨b, off + k * 5 + 2, none⟩ = some (.string x.lo) ∧ w.cell? ⟨b, off + k * 5 + 3, none⟩ = some (.slice Aa n c) ∧ w.cell? ⟨b, off + k * 5 + 4, none⟩ = some (.string x.tx)
theorem RdV.keep {w w' : World} {A : Option Addr} {l : List RE} (h : RdV w A l) (hb : Below w.heap.size w w') : RdV w' A l := fun k t hk => by
  obtain ⟨b, o, Aa, n, c, e, hlt, ha, c0, c1, c2, c3, c4⟩ := h k t hk
  exact ⟨b, o, Aa, n, c, e, Nat.lt_of_lt_of_le hlt hb.size, ha.keep hb, (hb.cell (p := ⟨b, o + k * 5, none⟩) hlt).trans c0, (hb.cell (p := ⟨b, o + k * 5 + 1, none⟩) hlt).trans c1, (hb.cell (p := ⟨b, o + k * 5 + 2, none⟩) hlt).trans c2, (hb.cell (p := ⟨b, o + k * 5 + 3, none⟩) hlt).trans c3, (hb.cell (p := ⟨b, o + k * 5 + 4, none⟩) hlt).trans c4⟩
/-- What is known of events that are handed in. -/
structure EvsIn (w : World) (A : Option Addr) (n c : Nat) (l : List RE) : Prop where
  len : n = l.length
  lsz : n ≤ maxLen
  cnt : n ≤ 4398046511104
  xsz : ∀ x ∈ l, RSz x
  rd : RdV w A l
  nil : A = none → n = 0 ∧ c = 0
  cap : n ≤ c ∧ c ≤ maxLen
theorem EvsIn.keep {w w' : World} {A : Option Addr} {n c : Nat} {l : List RE} (h : EvsIn w A n c l) (hb : Below w.heap.size w w') : EvsIn w' A n c l := ⟨h.len, h.lsz, h.cnt, h.xsz, h.rd.keep hb, h.nil, h.cap⟩
/-- From an element each to a list. -/
theorem pick_list {α : Type} [Nonempty α] {n : Nat} {R : Nat → α → Prop} (h : ∀ i, i < n → ∃ x, R i x) : ∃ l : List α, l.length = n ∧ ∀ (k : Nat) x, l[k]? = some x → R k x := by
  have h2 : ∀ i, ∃ x, i < n → R i x := fun i => by
    by_cases hi : i < n
    · obtain ⟨x, hx⟩ := h i hi
      exact ⟨x, fun _ => hx⟩
    · exact ⟨Classical.choice inferInstance, fun q => absurd q hi⟩
  refine ⟨(List.range n).map fun i => Classical.choose (h2 i), by simp, fun k x hk => ?_⟩
  rw [List.getElem?_map] at hk
  obtain ⟨j, hj, rfl⟩ := Option.map_eq_some_iff.1 hk
  have hlt := (List.getElem?_eq_some_iff.1 hj).1
  rw [List.length_range] at hlt
  rw [List.getElem?_range hlt] at hj
  injection hj with hj
  subst hj
  exact Classical.choose_spec (h2 k) hlt
theorem pick_mem {α : Type} {l : List α} {R : Nat → α → Prop} (h : ∀ (k : Nat) x, l[k]? = some x → R k x) {Q : α → Prop} (hq : ∀ k x, R k x → Q x) : ∀ x ∈ l, Q x := fun x hx => by
  obtain ⟨k, hk⟩ := List.getElem?_of_mem hx
  exact hq k x (h k x hk)
end Go.Proofs.YtjboglpnpgghiaaDoor.Ev

/- The document's Few (layer 9): what it says of events. -/
set_option linter.unusedSimpArgs false
set_option linter.unusedVariables false
namespace Go.Proofs.YtjboglpnpgghiaaDoor.Ev
open Go.RowKit

/-- Few events, few attributes, short texts. -/
structure FewE (x : RE) : Prop where
  ats : x.ats.length ≤ 400
  tx : x.tx.size ≤ 300
  lo : x.lo.size ≤ 100
  sp : x.sp.size ≤ 100
  at_ : ∀ (k : Nat) (y : P3), k < 100 → x.ats[k]? = some y → y.1.1.size ≤ 100 ∧ y.1.2.size ≤ 100 ∧ y.2.size ≤ 300
def FwPost (l : List RE) (w : World) (e : Ending) (w' : World) : Prop :=
  ∃ b, e = .returned (.bool b) ∧ (b = true → l.length ≤ 400 ∧ ∀ (k : Nat) (x : RE), l[k]? = some x → FewE x) ∧ w = w'
def FoRel (l : List RE) (n : Nat) (w : World) (vn i : Value) (wr : World) : Prop :=
  w = wr ∧ ∃ k m : Nat, i = .int .i64 k ∧ vn = .int .i64 m ∧ k ≤ n ∧ n ≤ m ∧ m ≤ n + k * 4398046511104 ∧ Hid (∀ (j : Nat) (x : RE), j < k → l[j]? = some x → x.ats.length + n ≤ m ∧ x.tx.size ≤ 300 ∧ x.lo.size ≤ 100 ∧ x.sp.size ≤ 100 ∧ ∀ (q : Nat) (y : P3), q < 100 → x.ats[q]? = some y → y.1.1.size ≤ 100 ∧ y.1.2.size ≤ 100 ∧ y.2.size ≤ 300)
def FiRel (t : RE) (n : Nat) (w : World) (i : Value) (wr : World) : Prop :=
  w = wr ∧ ∃ j : Nat, i = .int .i64 j ∧ j ≤ n ∧ j ≤ 100 ∧ Hid (∀ (q : Nat) (y : P3), q < j → t.ats[q]? = some y → y.1.1.size ≤ 100 ∧ y.1.2.size ≤ 100 ∧ y.2.size ≤ 300)
set_option maxHeartbeats 4000000 in
set_option maxRecDepth 100000 in
theorem few_any (A : Option Addr) (n c : Nat) (l : List RE) (w : World) (T : EvsIn w A n c l) : Calls Tryd.prog 14 #[.slice A n c] w (FwPost l w) := by
  have hn := T.cnt
  have HT := Lib.hid T
  clear T
  go_enter Tryd.func14, Tryd.ntmps14
  go_wp2_with fail
  go_loopw [3, 4, 5] (fun vn i _ wr => FoRel l n w vn i wr) (fun _ i _ _ => n - (intOf i).toNat)
  case atStart => exact ⟨rfl, 0, n, rfl, rfl, Nat.zero_le _, Nat.le_refl _, by omega, Lib.hid (fun j x h => by omega)⟩
  case round =>
    obtain ⟨rfl, k, m, rfl, rfl, hk, hm, hm2, hP⟩ := hrel
    by_cases hlt : k < n
    · by_cases h400 : m ≤ 400
      · have k1 : (k : Int) < (n : Int) := by omega
        have k2 : (m : Int) ≤ 400 := by omega
        have k3 : (0 : Int) ≤ (k : Int) := by omega
        have hkl : k < l.length := by rw [← HT.out.len]; exact hlt
        have hx := List.getElem?_eq_getElem hkl
        obtain ⟨b, off, Aa, q, ca, hA, hbl, TA, c0, c1, c2, c3, c4⟩ := HT.out.rd k _ hx
        have hbq := TA.cnt
        have HX := Lib.hid hx
        have HTA := Lib.hid TA
        generalize l[k] = x at *
        subst hA
        clear hx hkl hbl TA c0
        have q2 : IntKind.i64.wrap ((m : Int) + (q : Int)) = ((m + q : Nat) : Int) := by rw [IntWalk.i64_in _ (by omega)]; omega
        by_cases ht : x.tx.size ≤ 300
        · by_cases hlo : x.lo.size ≤ 100
          · by_cases hsp : x.sp.size ≤ 100
            · have t1 : decide ((300 : Int) < (x.tx.size : Int)) = false := by rw [decide_eq_false_iff_not]; omega
              have t2 : decide ((100 : Int) < (x.lo.size : Int)) = false := by rw [decide_eq_false_iff_not]; omega
              have t3 : decide ((100 : Int) < (x.sp.size : Int)) = false := by rw [decide_eq_false_iff_not]; omega
              go_wp2_with fail
              go_loopw [5] (fun i wr => FiRel x q w i wr) (fun i _ => q - (intOf i).toNat)
              case atStart => exact ⟨rfl, 0, rfl, Nat.zero_le _, by omega, Lib.hid (fun j y h => by omega)⟩
              case round =>
                obtain ⟨rfl, j, rfl, hj, hj2, hQ⟩ := hrel
                by_cases hjq : j < q
                · by_cases hj1 : j < 100
                  · have j1 : (j : Int) < (q : Int) := by omega
                    have j2 : (j : Int) < 100 := by omega
                    have j3 : (0 : Int) ≤ (j : Int) := by omega
                    have hjl : j < x.ats.length := by rw [← HTA.out.len]; exact hjq
                    have hy := List.getElem?_eq_getElem hjl
                    obtain ⟨b2, o2, hA2, _, d0, d1, d2⟩ := HTA.out.rd j _ hy
                    have HY := Lib.hid hy
                    generalize x.ats[j] = y at *
                    subst hA2
                    clear hy hjl
                    by_cases hv : y.2.size ≤ 300
                    · by_cases hyl : y.1.2.size ≤ 100
                      · by_cases hys : y.1.1.size ≤ 100
                        · have u1 : decide ((300 : Int) < (y.2.size : Int)) = false := by rw [decide_eq_false_iff_not]; omega
                          have u2 : decide ((100 : Int) < (y.1.2.size : Int)) = false := by rw [decide_eq_false_iff_not]; omega
                          have u3 : decide ((100 : Int) < (y.1.1.size : Int)) = false := by rw [decide_eq_false_iff_not]; omega
                          have hQ2 : Hid (∀ (i : Nat) (z : P3), i < j + 1 → x.ats[i]? = some z → z.1.1.size ≤ 100 ∧ z.1.2.size ≤ 100 ∧ z.2.size ≤ 300) := Lib.hid fun i z hi hz => by
                            rcases Nat.lt_or_ge i j with g | g
                            · exact hQ.out i z g hz
                            · obtain rfl : i = j := by omega
                              rw [HY.out] at hz
                              injection hz with hz
                              rw [← hz]
                              exact ⟨hys, hyl, hv⟩
                          clear hQ HY hv hyl hys
                          go_wp2
                          go_roundw
                          case rel => exact ⟨rfl, j + 1, by go_num, by omega, by omega, hQ2⟩
                          case measure => simp only [intOf]; omega
                        · have u1 : decide ((300 : Int) < (y.2.size : Int)) = false := by rw [decide_eq_false_iff_not]; omega
                          have u2 : decide ((100 : Int) < (y.1.2.size : Int)) = false := by rw [decide_eq_false_iff_not]; omega
                          have u3 : decide ((100 : Int) < (y.1.1.size : Int)) = true := by rw [decide_eq_true_eq]; omega
                          clear hQ HY hv hyl hys
                          go_wp2
                          go_ret
                          exact ⟨false, rfl, (fun e => by cases e), rfl⟩
                      · have u1 : decide ((300 : Int) < (y.2.size : Int)) = false := by rw [decide_eq_false_iff_not]; omega
                        have u2 : decide ((100 : Int) < (y.1.2.size : Int)) = true := by rw [decide_eq_true_eq]; omega
                        clear hQ HY hv hyl
                        go_wp2
                        go_ret
                        exact ⟨false, rfl, (fun e => by cases e), rfl⟩
                    · have u1 : decide ((300 : Int) < (y.2.size : Int)) = true := by rw [decide_eq_true_eq]; omega
                      clear hQ HY hv
                      go_wp2
                      go_ret
                      exact ⟨false, rfl, (fun e => by cases e), rfl⟩
                  · have j1 : (j : Int) < (q : Int) := by omega
                    have j2 : ¬ (j : Int) < 100 := by omega
                    have hP2 : Hid (∀ (i : Nat) (z : RE), i < k + 1 → l[i]? = some z → z.ats.length + n ≤ m + q ∧ z.tx.size ≤ 300 ∧ z.lo.size ≤ 100 ∧ z.sp.size ≤ 100 ∧ ∀ (q : Nat) (y : P3), q < 100 → z.ats[q]? = some y → y.1.1.size ≤ 100 ∧ y.1.2.size ≤ 100 ∧ y.2.size ≤ 300) := Lib.hid fun i z hi hz => by
                      rcases Nat.lt_or_ge i k with g | g
                      · obtain ⟨z1, z2⟩ := hP.out i z g hz
                        exact ⟨by omega, z2⟩
                      · obtain rfl : i = k := by omega
                        rw [HX.out] at hz
                        injection hz with hz
                        rw [← hz]
                        exact ⟨by rw [← HTA.out.len]; omega, ht, hlo, hsp, fun q y hq hy => hQ.out q y (by omega) hy⟩
                    clear hP HX hQ
                    go_wp2
                    go_roundw
                    case rel => exact ⟨rfl, k + 1, m + q, by go_num, by first | rfl | go_num, by omega, by omega, by omega, hP2⟩
                    case measure => simp only [intOf]; omega
                · have j1 : ¬ (j : Int) < (q : Int) := by omega
                  have hP2 : Hid (∀ (i : Nat) (z : RE), i < k + 1 → l[i]? = some z → z.ats.length + n ≤ m + q ∧ z.tx.size ≤ 300 ∧ z.lo.size ≤ 100 ∧ z.sp.size ≤ 100 ∧ ∀ (q : Nat) (y : P3), q < 100 → z.ats[q]? = some y → y.1.1.size ≤ 100 ∧ y.1.2.size ≤ 100 ∧ y.2.size ≤ 300) := Lib.hid fun i z hi hz => by
                    rcases Nat.lt_or_ge i k with g | g
                    · obtain ⟨z1, z2⟩ := hP.out i z g hz
                      exact ⟨by omega, z2⟩
                    · obtain rfl : i = k := by omega
                      rw [HX.out] at hz
                      injection hz with hz
                      rw [← hz]
                      exact ⟨by rw [← HTA.out.len]; omega, ht, hlo, hsp, fun q' y hq hy => hQ.out q' y (by have := (List.getElem?_eq_some_iff.1 hy).1; rw [← HTA.out.len] at this; omega) hy⟩
                  clear hP HX hQ
                  go_wp2
                  go_roundw
                  case rel => exact ⟨rfl, k + 1, m + q, by go_num, by first | rfl | go_num, by omega, by omega, by omega, hP2⟩
                  case measure => simp only [intOf]; omega
            · have t1 : decide ((300 : Int) < (x.tx.size : Int)) = false := by rw [decide_eq_false_iff_not]; omega
              have t2 : decide ((100 : Int) < (x.lo.size : Int)) = false := by rw [decide_eq_false_iff_not]; omega
              have t3 : decide ((100 : Int) < (x.sp.size : Int)) = true := by rw [decide_eq_true_eq]; omega
              clear hP HX
              go_wp2
              go_ret
              exact ⟨false, rfl, (fun e => by cases e), rfl⟩
          · have t1 : decide ((300 : Int) < (x.tx.size : Int)) = false := by rw [decide_eq_false_iff_not]; omega
            have t2 : decide ((100 : Int) < (x.lo.size : Int)) = true := by rw [decide_eq_true_eq]; omega
            clear hP HX
            go_wp2
            go_ret
            exact ⟨false, rfl, (fun e => by cases e), rfl⟩
        · have t1 : decide ((300 : Int) < (x.tx.size : Int)) = true := by rw [decide_eq_true_eq]; omega
          clear hP HX
          go_wp2
          go_ret
          exact ⟨false, rfl, (fun e => by cases e), rfl⟩
      · have k1 : (k : Int) < (n : Int) := by omega
        have k2 : ¬ (m : Int) ≤ 400 := by omega
        clear hP
        go_wp2
        go_ret
        exact ⟨false, rfl, (fun e => by cases e), rfl⟩
    · have k1 : ¬ (k : Int) < (n : Int) := by omega
      by_cases h400 : m ≤ 400
      · have k2 : (m : Int) ≤ 400 := by omega
        have hP2 : Hid (l.length ≤ 400 ∧ ∀ (k : Nat) (x : RE), l[k]? = some x → FewE x) := Lib.hid ⟨by rw [← HT.out.len]; omega, fun j x hx => by
          have hj := (List.getElem?_eq_some_iff.1 hx).1
          rw [← HT.out.len] at hj
          obtain ⟨a1, a2, a3, a4, a5⟩ := hP.out j x (by omega) hx
          exact ⟨by omega, a2, a3, a4, a5⟩⟩
        clear hP
        go_wp2
        go_ret
        exact ⟨true, rfl, (fun _ => hP2.out), rfl⟩
      · have k2 : ¬ (m : Int) ≤ 400 := by omega
        clear hP
        go_wp2
        go_ret
        exact ⟨false, rfl, (fun e => by cases e), rfl⟩
end Go.Proofs.YtjboglpnpgghiaaDoor.Ev

/- The document's named and Right (layer 9), over contracts of what they call. -/
set_option linter.unusedSimpArgs false
set_option linter.unusedVariables false
namespace Go.Proofs.YtjboglpnpgghiaaDoor.Ev
open Go.RowKit

theorem nblk (w : World) (T : TypeId) (cs : Array Value) : (w.alloc (.cells cs T)).heap[w.heap.size]? = some (.cells cs T (0, 0)) := heap_alloc_new w _
theorem cells_of {W : World} {b : Nat} {cs : Array Value} {T : TypeId} {fz : Nat × Nat} (h : W.heap[b]? = some (.cells cs T fz)) (j : Nat) {u : Value} (hu : cs[j]? = some u) : W.cell? ⟨b, j, none⟩ = some u := (Lib.cell_of_heap h j).trans hu
theorem cells2 {W : World} {b : Nat} {a0 a1 : Value} {T : TypeId} {fz : Nat × Nat} (h : W.heap[b]? = some (.cells #[a0, a1] T fz)) : W.cell? ⟨b, 0, none⟩ = some a0 ∧ W.cell? ⟨b, 1, none⟩ = some a1 := ⟨cells_of h 0 rfl, cells_of h 1 rfl⟩
theorem cells5 {W : World} {b : Nat} {a0 a1 a2 a3 a4 : Value} {T : TypeId} {fz : Nat × Nat} (h : W.heap[b]? = some (.cells #[a0, a1, a2, a3, a4] T fz)) : W.cell? ⟨b, 0, none⟩ = some a0 ∧ W.cell? ⟨b, 1, none⟩ = some a1 ∧ W.cell? ⟨b, 2, none⟩ = some a2 ∧ W.cell? ⟨b, 3, none⟩ = some a3 ∧ W.cell? ⟨b, 4, none⟩ = some a4 := ⟨cells_of h 0 rfl, cells_of h 1 rfl, cells_of h 2 rfl, cells_of h 3 rfl, cells_of h 4 rfl⟩
/-- A name may be: its local part is plain, both parts may stand in a text, the space is not that of xmlns. -/
def nmF (pL tR : ByteArray → Bool) (x : P2) : Bool := pL x.2 && tR x.2 && tR x.1 && (x.1.toList != [104, 116, 116, 112, 58, 47, 47, 119, 119, 119, 46, 119, 51, 46, 111, 114, 103, 47, 50, 48, 48, 48, 47, 120, 109, 108, 110, 115, 47])
def StrC (f : Nat) (g : ByteArray → Bool) : Prop := ∀ (s : ByteArray) (W : World), s.size ≤ 10000 → Calls Tryd.prog f #[.string s] W fun e w' => e = .returned (.bool (g s)) ∧ Below W.heap.size W w'
set_option maxHeartbeats 2000000 in
set_option maxRecDepth 100000 in
theorem named_any (pL tR : ByteArray → Bool) (C1 : Hid (StrC 45 pL)) (C2 : Hid (StrC 34 tR)) (sp lo : ByteArray) (w : World) (h1 : sp.size ≤ 10000) (h2 : lo.size ≤ 10000) : Calls Tryd.prog 35 #[.agg #[.string sp, .string lo]] w fun e w' => e = .returned (.bool (nmF pL tR (sp, lo))) ∧ Below w.heap.size w w' := by
  have HK := Lib.hid (nblk w 23 #[.string sp, .string lo])
  have HB := Lib.hid ((Below.refl w.heap.size w).alloc (Nat.le_refl _) (.cells #[.string sp, .string lo] 23))
  have HZ := Lib.hid (show w.heap.size < (w.alloc (.cells #[.string sp, .string lo] 23)).heap.size by simp)
  go_enter Tryd.func35, Tryd.ntmps35
  go_wp2_with fail
  refine (C1.out lo _ h2).mono ?_
  rintro e w1 ⟨rfl, b1⟩
  have HK1 := Lib.hid ((b1.block _ HZ.out).trans HK.out)
  have HB1 := Lib.hid (HB.out.trans (b1.mono (Nat.le_of_lt HZ.out)))
  have HZ1 := Lib.hid (Nat.lt_of_lt_of_le HZ.out b1.size)
  obtain ⟨c0, c1⟩ := cells2 HK1.out
  clear b1 HK HB HZ
  cases g1 : pL lo with
  | false =>
    have HA : Hid (nmF pL tR (sp, lo) = false) := Lib.hid (by unfold nmF; dsimp only; rw [g1]; rfl)
    clear g1
    go_wp2
    go_ret
    exact ⟨by rw [HA.out]; rfl, HB1.out⟩
  | true =>
    have HG1 := Lib.hid g1
    clear g1
    go_wp2_with fail
    refine (C2.out lo _ h2).mono ?_
    rintro e w2 ⟨rfl, b2⟩
    have HK2 := Lib.hid ((b2.block _ HZ1.out).trans HK1.out)
    have HB2 := Lib.hid (HB1.out.trans (b2.mono (Nat.le_of_lt HZ1.out)))
    have HZ2 := Lib.hid (Nat.lt_of_lt_of_le HZ1.out b2.size)
    obtain ⟨d0, d1⟩ := cells2 HK2.out
    clear b2 HK1 HB1 HZ1 c0 c1
    cases g2 : tR lo with
    | false =>
      have HA : Hid (nmF pL tR (sp, lo) = false) := Lib.hid (by unfold nmF; dsimp only; rw [HG1.out, g2]; rfl)
      clear g2
      go_wp2
      go_ret
      exact ⟨by rw [HA.out]; rfl, HB2.out⟩
    | true =>
      have HG2 := Lib.hid g2
      clear g2
      go_wp2_with fail
      refine (C2.out sp _ h1).mono ?_
      rintro e w3 ⟨rfl, b3⟩
      have HK3 := Lib.hid ((b3.block _ HZ2.out).trans HK2.out)
      have HB3 := Lib.hid (HB2.out.trans (b3.mono (Nat.le_of_lt HZ2.out)))
      obtain ⟨e0, e1⟩ := cells2 HK3.out
      clear b3 HK2 HB2 HZ2 d0 d1
      cases g3 : tR sp with
      | false =>
        have HA : Hid (nmF pL tR (sp, lo) = false) := Lib.hid (by unfold nmF; dsimp only; rw [HG1.out, HG2.out, g3]; rfl)
        clear g3
        go_wp2
        go_ret
        exact ⟨by rw [HA.out]; rfl, HB3.out⟩
      | true =>
        have HG3 := Lib.hid g3
        clear g3
        have HA : Hid (nmF pL tR (sp, lo) = (sp.toList != [104, 116, 116, 112, 58, 47, 47, 119, 119, 119, 46, 119, 51, 46, 111, 114, 103, 47, 50, 48, 48, 48, 47, 120, 109, 108, 110, 115, 47])) := Lib.hid (by unfold nmF; dsimp only; rw [HG1.out, HG2.out, HG3.out]; rfl)
        go_wp2
        go_ret
        exact ⟨by rw [HA.out]; rfl, HB3.out⟩
end Go.Proofs.YtjboglpnpgghiaaDoor.Ev

/- The document's Right (layer 9), over contracts of what it calls. -/
set_option linter.unusedSimpArgs false
set_option linter.unusedVariables false
namespace Go.Proofs.YtjboglpnpgghiaaDoor.Ev
open Go.RowKit

theorem below_drewN {B : Nat} {w w' : World} (h : Below B w w') (n : Nat) : Below B w (w'.drewN n) := ⟨h.os, h.tape, h.output, h.size, h.block⟩
/-- Two names are the same. -/
def eqn (x y : P2) : Bool := (x.1.toList == y.1.toList) && (x.2.toList == y.2.toList)
/-- The attributes from here on are right, those ahead bear these names. -/
def goA (nm : P2 → Bool) (tR : ByteArray → Bool) : List P2 → List P3 → Bool
  | _, [] => true
  | seen, x :: r => nm x.1 && tR x.2 && !(seen.any fun y => eqn y x.1) && goA nm tR (seen ++ [x.1]) r
def emp (s : ByteArray) : Bool := s.toList.isEmpty
theorem emp3 (a b : ByteArray) : (a.toList.isEmpty = true ∧ b.toList.isEmpty = true) ∨ (a.toList.isEmpty = true ∧ b.toList.isEmpty = false) ∨ a.toList.isEmpty = false := by
  cases a.toList.isEmpty <;> cases b.toList.isEmpty <;> simp
def noneF (x : RE) : Bool := emp x.sp && emp x.lo && (x.ats.length == 0)
/-- An event is right. -/
def rightF (pL tR : ByteArray → Bool) (x : RE) : Bool :=
  if x.kind = 2 then noneF x && !emp x.tx && tR x.tx
  else if x.kind = 3 then noneF x && emp x.tx
  else if x.kind ≠ 1 ∨ emp x.tx = false ∨ nmF pL tR (x.sp, x.lo) = false ∨ 32 < x.ats.length then false
  else goA (nmF pL tR) tR [] x.ats
theorem go_step {nm : P2 → Bool} {tR : ByteArray → Bool} {l : List P3} {i : Nat} {x : P3} (hx : l[i]? = some x) : goA nm tR ((l.take i).map (·.1)) (l.drop i) = (nm x.1 && tR x.2 && !(((l.take i).map (·.1)).any fun y => eqn y x.1) && goA nm tR ((l.take (i + 1)).map (·.1)) (l.drop (i + 1))) := by
  have hlt := (List.getElem?_eq_some_iff.1 hx).1
  have hd : l.drop i = x :: l.drop (i + 1) := by
    rw [List.drop_eq_getElem_cons hlt]
    have := (List.getElem?_eq_some_iff.1 hx).2
    rw [this]
  have ht : (l.take (i + 1)).map (·.1) = (l.take i).map (·.1) ++ [x.1] := by rw [List.take_add_one, hx]; simp
  rw [hd, ht]
  rfl
theorem any_no {l : List P3} {i : Nat} {x : P2} (h : ∀ (t : Nat) (y : P3), t < i → l[t]? = some y → eqn y.1 x = false) : (((l.take i).map (·.1)).any fun y => eqn y x) = false := by
  rw [List.any_eq_false]
  intro y hy
  obtain ⟨z, hz, rfl⟩ := List.mem_map.1 hy
  obtain ⟨t, ht⟩ := List.getElem?_of_mem hz
  rw [List.getElem?_take] at ht
  by_cases hti : t < i
  · rw [if_pos hti] at ht
    rw [h t z hti ht]
    decide
  · rw [if_neg hti] at ht
    cases ht
theorem any_yes {l : List P3} {i t : Nat} {x : P2} {y : P3} (hti : t < i) (hy : l[t]? = some y) (h : eqn y.1 x = true) : (((l.take i).map (·.1)).any fun y => eqn y x) = true := by
  rw [List.any_eq_true]
  refine ⟨y.1, List.mem_map.2 ⟨y, List.mem_of_getElem? (i := t) ?_, rfl⟩, h⟩
  rw [List.getElem?_take, if_pos hti, hy]
/-- The bounds that Right asks. -/
structure RgB (x : RE) : Prop where
  sp : x.sp.size ≤ 10000
  lo : x.lo.size ≤ 10000
  tx : x.tx.size ≤ 10000
  at_ : x.ats.length ≤ 32 → ∀ y ∈ x.ats, y.1.1.size ≤ 10000 ∧ y.1.2.size ≤ 10000 ∧ y.2.size ≤ 10000
def RgRel (F : Bool) (nm : P2 → Bool) (tR : ByteArray → Bool) (l : List P3) (n : Nat) (W0 : World) (i : Value) (wr : World) : Prop :=
  ∃ k : Nat, i = .int .i64 k ∧ k ≤ n ∧ Hid (Below W0.heap.size W0 wr) ∧ Hid (F = goA nm tR ((l.take k).map (·.1)) (l.drop k))
def RiRel (l : List P3) (x : P2) (k : Nat) (W0 : World) (i : Value) (wr : World) : Prop :=
  ∃ j : Nat, i = .int .i64 j ∧ j ≤ k ∧ Hid (Below W0.heap.size W0 wr) ∧ Hid (∀ (t : Nat) (y : P3), t < j → l[t]? = some y → eqn y.1 x = false)
def RgC (pL tR : ByteArray → Bool) : Prop := ∀ (sp lo : ByteArray) (W : World), sp.size ≤ 10000 → lo.size ≤ 10000 → Calls Tryd.prog 35 #[.agg #[.string sp, .string lo]] W fun e w' => e = .returned (.bool (nmF pL tR (sp, lo))) ∧ Below W.heap.size W w'
set_option maxHeartbeats 4000000 in
set_option maxRecDepth 100000 in
/-- Right of an Open whose head is right. -/
theorem right_loop (pL tR : ByteArray → Bool) (C1 : Hid (RgC pL tR)) (C2 : Hid (StrC 34 tR)) (A : Option Addr) (n c : Nat) (x : RE) (w : World) (T : AttsIn w A n c x.ats) (hB : RgB x) (hk : x.kind = 1) (ht : emp x.tx = true) (hn : nmF pL tR (x.sp, x.lo) = true) (h32 : n ≤ 32) :
    Calls Tryd.prog 24 #[.agg #[.int .i64 x.kind, .string x.sp, .string x.lo, .slice A n c, .string x.tx]] w fun e w' => e = .returned (.bool (rightF pL tR x)) ∧ Below w.heap.size w w' := by
  have HF : Hid (rightF pL tR x = goA (nmF pL tR) tR [] x.ats) := Lib.hid (by
    unfold rightF
    rw [hk, if_neg (by decide), if_neg (by decide), if_neg (by rw [ht, hn, ← T.len]; rintro (h | h | h | h); exact h rfl; cases h; cases h; omega)])
  have HX := Lib.hid (hB.at_ (by rw [← T.len]; exact h32))
  have HC := Lib.hid (C1.out x.sp x.lo (w.alloc (.cells #[.int .i64 1, .string x.sp, .string x.lo, .slice A n c, .string x.tx] 52)) hB.sp hB.lo)
  rw [hn] at HC
  have HT := Lib.hid T
  have HK := Lib.hid (nblk w 52 #[.int .i64 1, .string x.sp, .string x.lo, .slice A n c, .string x.tx])
  have HB0 := Lib.hid ((Below.refl w.heap.size w).alloc (Nat.le_refl _) (.cells #[.int .i64 1, .string x.sp, .string x.lo, .slice A n c, .string x.tx] 52))
  have HZ := Lib.hid (show w.heap.size < (w.alloc (.cells #[.int .i64 1, .string x.sp, .string x.lo, .slice A n c, .string x.tx] 52)).heap.size by simp)
  have ht' : x.tx.toList.isEmpty = true := ht
  rw [HF.out]
  have hkk := hk
  obtain ⟨kind, sp, lo, ats, tx⟩ := x
  dsimp only at *
  subst hkk
  clear T hB ht hn hk
  obtain ⟨F, hF⟩ : ∃ F, F = goA (nmF pL tR) tR [] ats := ⟨_, rfl⟩
  rw [← hF]
  have HFF := Lib.hid hF
  clear hF HF
  rcases emp3 sp lo with ⟨s1, s2⟩ | ⟨s1, s2⟩ | s1
  all_goals
    go_enter Tryd.func24, Tryd.ntmps24
    go_wp2_with fail
    refine HC.out.mono ?_
    rintro e w1 ⟨rfl, b1⟩
    have HB1 := Lib.hid b1
    clear b1 HC
    generalize hW0 : w.alloc (.cells #[.int .i64 1, .string sp, .string lo, .slice A n c, .string tx] 52) = W0 at *
    clear hW0
    obtain ⟨c0, c1, c2, c3, c4⟩ := cells5 ((HB1.out.block _ HZ.out).trans HK.out)
    have k32 : ¬ (32 : Int) < (n : Int) := by omega
    go_wp2_with fail
    clear c0 c1 c2 c3 c4
    go_loopw [4, 5] (fun i _ wr => RgRel F (nmF pL tR) tR ats n W0 i wr) (fun i _ _ => n - (intOf i).toNat)
    case atStart => exact ⟨0, rfl, Nat.zero_le _, HB1, HFF⟩
    case round =>
      clear HB1 HFF
      obtain ⟨k, rfl, hk, HR, HA⟩ := hrel
      obtain ⟨c0, c1, c2, c3, c4⟩ := cells5 ((HR.out.block _ HZ.out).trans HK.out)
      clear c0 c1 c2 c4
      by_cases hlt : k < n
      · have k1 : (k : Int) < (n : Int) := by omega
        have k2 : (0 : Int) ≤ (k : Int) := by omega
        have hkl : k < ats.length := by rw [← HT.out.len]; exact hlt
        have hx := List.getElem?_eq_getElem hkl
        have hsz := HX.out _ (List.getElem_mem hkl)
        have HRd : Hid (∀ W, Below W0.heap.size W0 W → RdT W A ats) := Lib.hid fun W hb => HT.out.rd.keep (HB0.out.trans (hb.mono (Nat.le_of_lt HZ.out)))
        obtain ⟨b, off, hA, hbl, d0, d1, d2⟩ := (HRd.out wr HR.out) k _ hx
        have HY := Lib.hid hx
        generalize ats[k] = y at *
        subst hA
        obtain ⟨⟨ysp, ylo⟩, yv⟩ := y
        dsimp only at d0 d1 d2 hsz
        have CN := Lib.hid (C1.out ysp ylo wr hsz.1 hsz.2.1)
        have hv := hsz.2.2
        clear hx hkl hsz hbl
        have HS := Lib.hid (go_step (nm := nmF pL tR) (tR := tR) HY.out)
        cases g1 : nmF pL tR (ysp, ylo) with
        | false =>
          have HE : Hid (F = false) := Lib.hid (by rw [HA.out, HS.out, g1]; rfl)
          rw [g1] at CN
          clear g1 HA HS
          go_wp2_with fail
          refine CN.out.mono ?_
          rintro e w2 ⟨rfl, b2⟩
          have HB2 := Lib.hid (HB0.out.trans ((HR.out.trans (b2.mono HR.out.size)).mono (Nat.le_of_lt HZ.out)))
          clear CN b2 HR
          go_wp2
          go_ret
          exact ⟨by rw [HE.out]; rfl, HB2.out⟩
        | true =>
          rw [g1] at CN HS
          clear g1
          go_wp2_with fail
          refine CN.out.mono ?_
          rintro e w2 ⟨rfl, b2⟩
          have HR2 := Lib.hid (HR.out.trans (b2.mono HR.out.size))
          clear CN b2 HR d0 d1 d2 c3
          obtain ⟨c0, c1, c2, c3, c4⟩ := cells5 ((HR2.out.block _ HZ.out).trans HK.out)
          obtain ⟨b', off', e', hbl, d0, d1, d2⟩ := (HRd.out w2 HR2.out) k _ HY.out
          injection e' with e'
          injection e' with e1 e2 _
          subst e1 e2
          clear c0 c1 c2 c4 d0 d1 hbl
          have CV := Lib.hid (C2.out yv w2 hv)
          dsimp only at d2 HS
          cases g2 : tR yv with
          | false =>
            have HE : Hid (F = false) := Lib.hid (by rw [HA.out, HS.out, g2]; rfl)
            rw [g2] at CV
            clear g2 HA HS
            go_wp2_with fail
            refine CV.out.mono ?_
            rintro e w3 ⟨rfl, b3⟩
            have HB3 := Lib.hid (HB0.out.trans ((HR2.out.trans (b3.mono HR2.out.size)).mono (Nat.le_of_lt HZ.out)))
            clear CV b3 HR2
            go_wp2
            go_ret
            exact ⟨by rw [HE.out]; rfl, HB3.out⟩
          | true =>
            rw [g2] at CV HS
            clear g2
            go_wp2_with fail
            refine CV.out.mono ?_
            rintro e w3 ⟨rfl, b3⟩
            have HR3 := Lib.hid (HR2.out.trans (b3.mono HR2.out.size))
            clear CV b3 HR2 d2 c3
            go_wp2_with fail
            go_loopw [5] (fun i wr => RiRel ats (ysp, ylo) k W0 i wr) (fun i _ => k - (intOf i).toNat)
            case atStart => exact ⟨0, rfl, Nat.zero_le _, HR3, Lib.hid (fun t y h => by omega)⟩
            case round =>
              clear HR3
              obtain ⟨j, rfl, hj, HQ, HN⟩ := hrel
              by_cases hjk : j < k
              · have j1 : (j : Int) < (k : Int) := by omega
                have j2 : (0 : Int) ≤ (j : Int) := by omega
                have j3 : (j : Int) < (n : Int) := by omega
                obtain ⟨c0, c1, c2, c3, c4⟩ := cells5 ((HQ.out.block _ HZ.out).trans HK.out)
                obtain ⟨b', off', e', hbl, d0, d1, d2⟩ := (HRd.out wr HQ.out) k _ HY.out
                injection e' with e'
                injection e' with e1 e2 _
                subst e1 e2
                have hjl : j < ats.length := by rw [← HT.out.len]; omega
                have hz := List.getElem?_eq_getElem hjl
                obtain ⟨b', off', e', hbl', f0, f1, f2⟩ := (HRd.out wr HQ.out) j _ hz
                injection e' with e'
                injection e' with e1 e2 _
                subst e1 e2
                have HZj := Lib.hid hz
                generalize ats[j] = z at *
                obtain ⟨⟨zsp, zlo⟩, zv⟩ := z
                dsimp only at d0 d1 f0 f1
                clear c0 c1 c2 c4 d2 f2 hbl hbl' hz hjl
                by_cases hq : eqn (zsp, zlo) (ysp, ylo) = true
                · have HE : Hid (F = false) := Lib.hid (by rw [HA.out, HS.out, any_yes hjk HZj.out hq]; rfl)
                  have qa : (zsp.toList == ysp.toList) = true := by unfold eqn at hq; simp only [Bool.and_eq_true] at hq; exact hq.1
                  have qb : (zlo.toList == ylo.toList) = true := by unfold eqn at hq; simp only [Bool.and_eq_true] at hq; exact hq.2
                  have HB4 := Lib.hid (HB0.out.trans (HQ.out.mono (Nat.le_of_lt HZ.out)))
                  clear hq HA HS HN
                  go_wp2_with fail
                  go_quiet (fail)
                  go_wp2
                  go_ret
                  exact ⟨by rw [HE.out]; rfl, below_drewN HB4.out _⟩
                · have hq' : eqn (zsp, zlo) (ysp, ylo) = false := by simpa using hq
                  have HN2 : Hid (∀ (t : Nat) (y : P3), t < j + 1 → ats[t]? = some y → eqn y.1 (ysp, ylo) = false) := Lib.hid fun t y ht hy => by
                    rcases Nat.lt_or_ge t j with g | g
                    · exact HN.out t y g hy
                    · obtain rfl : t = j := by omega
                      rw [HZj.out] at hy
                      injection hy with hy
                      rw [← hy]
                      exact hq'
                  clear hq HN
                  cases qa : (zsp.toList == ysp.toList) with
                  | false =>
                    clear hq'
                    go_wp2_with fail
                    go_quiet (fail)
                    go_wp2
                    go_roundw
                    case rel => exact ⟨j + 1, by go_num, by omega, Lib.hid (below_drewN HQ.out _), HN2⟩
                    case measure => simp only [intOf]; omega
                  | true =>
                    have qb : (zlo.toList == ylo.toList) = false := by unfold eqn at hq'; dsimp only at hq'; rw [qa] at hq'; simpa using hq'
                    clear hq'
                    go_wp2_with fail
                    go_quiet (fail)
                    go_wp2
                    go_roundw
                    case rel => exact ⟨j + 1, by go_num, by omega, Lib.hid (below_drewN HQ.out _), HN2⟩
                    case measure => simp only [intOf]; omega
              · have j1 : ¬ (j : Int) < (k : Int) := by omega
                have HA2 : Hid (F = goA (nmF pL tR) tR ((ats.take (k + 1)).map (·.1)) (ats.drop (k + 1))) := Lib.hid (by
                  rw [HA.out, HS.out, any_no (fun t y h hy => HN.out t y (by omega) hy)]
                  rfl)
                clear HA HS HN
                go_wp2
                go_roundw
                case rel => exact ⟨k + 1, by go_num, by omega, HQ, HA2⟩
                case measure => simp only [intOf]; omega
      · have k1 : ¬ (k : Int) < (n : Int) := by omega
        have HE : Hid (F = true) := Lib.hid (by rw [HA.out, List.drop_of_length_le (by rw [← HT.out.len]; omega)]; rfl)
        have HB4 := Lib.hid (HB0.out.trans (HR.out.mono (Nat.le_of_lt HZ.out)))
        clear HA HR
        go_wp2
        go_ret
        exact ⟨by rw [HE.out]; rfl, HB4.out⟩
end Go.Proofs.YtjboglpnpgghiaaDoor.Ev

/- The document's Right (layer 9) of whatever event. -/
set_option linter.unusedSimpArgs false
set_option linter.unusedVariables false
namespace Go.Proofs.YtjboglpnpgghiaaDoor.Ev
open Go.RowKit

theorem none_a {x : RE} (h1 : x.sp.toList.isEmpty = true) (h2 : x.lo.toList.isEmpty = true) : noneF x = (x.ats.length == 0) := by
  unfold noneF emp
  rw [h1, h2]
  rfl
theorem none_b {x : RE} (h1 : x.sp.toList.isEmpty = true) (h2 : x.lo.toList.isEmpty = false) : noneF x = false := by
  unfold noneF emp
  rw [h1, h2]
  rfl
theorem none_c {x : RE} (h1 : x.sp.toList.isEmpty = false) : noneF x = false := by
  unfold noneF emp
  rw [h1]
  rfl
set_option maxHeartbeats 4000000 in
set_option maxRecDepth 100000 in
theorem right_any (pL tR : ByteArray → Bool) (C1 : Hid (RgC pL tR)) (C2 : Hid (StrC 34 tR)) (A : Option Addr) (n c : Nat) (x : RE) (w : World) (T : AttsIn w A n c x.ats) (hB : RgB x) :
    Calls Tryd.prog 24 #[.agg #[.int .i64 x.kind, .string x.sp, .string x.lo, .slice A n c, .string x.tx]] w fun e w' => e = .returned (.bool (rightF pL tR x)) ∧ Below w.heap.size w w' := by
  have HK := Lib.hid (nblk w 52 #[.int .i64 x.kind, .string x.sp, .string x.lo, .slice A n c, .string x.tx])
  have HB0 := Lib.hid ((Below.refl w.heap.size w).alloc (Nat.le_refl _) (.cells #[.int .i64 x.kind, .string x.sp, .string x.lo, .slice A n c, .string x.tx] 52))
  have HZ := Lib.hid (show w.heap.size < (w.alloc (.cells #[.int .i64 x.kind, .string x.sp, .string x.lo, .slice A n c, .string x.tx] 52)).heap.size by simp)
  have HL := Lib.hid T.len
  by_cases h2 : x.kind = 2
  · have HF : Hid (rightF pL tR x = (noneF x && !emp x.tx && tR x.tx)) := Lib.hid (by unfold rightF; rw [if_pos h2])
    have HT := Lib.hid hB.tx
    clear T hB
    rcases emp3 x.sp x.lo with ⟨s1, s2⟩ | ⟨s1, s2⟩ | s1
    · have HN := Lib.hid (none_a s1 s2)
      by_cases h0 : n = 0
      · cases t1 : x.tx.toList.isEmpty with
        | true =>
          have HE : Hid (rightF pL tR x = false) := Lib.hid (by rw [HF.out]; unfold emp; rw [t1]; simp)
          have e2 : (x.kind == 2) = true := by simpa using h2
          generalize rightF pL tR x = F at *
          obtain ⟨kind, sp, lo, ats, tx⟩ := x
          dsimp only at *
          subst h0 h2
          clear HN HF HL HT HK HZ
          go_enter Tryd.func24, Tryd.ntmps24
          go_wp2
          go_ret
          exact ⟨by rw [HE.out]; rfl, HB0.out⟩
        | false =>
          have HE : Hid (rightF pL tR x = tR x.tx) := Lib.hid (by rw [HF.out, HN.out, ← HL.out, h0]; unfold emp; rw [t1]; rfl)
          have HC := Lib.hid (C2.out x.tx (w.alloc (.cells #[.int .i64 x.kind, .string x.sp, .string x.lo, .slice A n c, .string x.tx] 52)) HT.out)
          generalize rightF pL tR x = F at *
          obtain ⟨kind, sp, lo, ats, tx⟩ := x
          dsimp only at *
          subst h0 h2
          clear HN HF HL HT HK
          go_enter Tryd.func24, Tryd.ntmps24
          go_wp2_with fail
          refine HC.out.mono ?_
          rintro e w1 ⟨rfl, b1⟩
          have HB1 := Lib.hid (HB0.out.trans (b1.mono (Nat.le_of_lt HZ.out)))
          clear HC b1
          go_wp2
          go_ret
          exact ⟨by rw [HE.out]; rfl, HB1.out⟩
      · have z0 : ((n : Int) == 0) = false := by rw [beq_eq_false_iff_ne]; omega
        have HE : Hid (rightF pL tR x = false) := Lib.hid (by rw [HF.out, HN.out, ← HL.out]; simp [h0])
        generalize rightF pL tR x = F at *
        obtain ⟨kind, sp, lo, ats, tx⟩ := x
        dsimp only at *
        subst h2
        clear HN HF HL HT HK HZ h0
        go_enter Tryd.func24, Tryd.ntmps24
        go_wp2
        go_ret
        exact ⟨by rw [HE.out]; rfl, HB0.out⟩
    all_goals
      have HE : Hid (rightF pL tR x = false) := Lib.hid (by rw [HF.out]; (first | rw [none_b s1 s2] | rw [none_c s1]); rfl)
      generalize rightF pL tR x = F at *
      obtain ⟨kind, sp, lo, ats, tx⟩ := x
      dsimp only at *
      subst h2
      clear HF HL HT HK HZ
      go_enter Tryd.func24, Tryd.ntmps24
      go_wp2
      go_ret
      exact ⟨by rw [HE.out]; rfl, HB0.out⟩
  by_cases h3 : x.kind = 3
  · have HF : Hid (rightF pL tR x = (noneF x && emp x.tx)) := Lib.hid (by unfold rightF; rw [if_neg h2, if_pos h3])
    clear T hB h2
    rcases emp3 x.sp x.lo with ⟨s1, s2⟩ | ⟨s1, s2⟩ | s1
    · have HN := Lib.hid (none_a s1 s2)
      by_cases h0 : n = 0
      · have HE : Hid (rightF pL tR x = x.tx.toList.isEmpty) := Lib.hid (by rw [HF.out, HN.out, ← HL.out, h0]; rfl)
        cases t1 : x.tx.toList.isEmpty
        all_goals
          rw [t1] at HE
          generalize rightF pL tR x = F at *
          obtain ⟨kind, sp, lo, ats, tx⟩ := x
          dsimp only at *
          subst h0 h3
          clear HN HF HL HK HZ
          go_enter Tryd.func24, Tryd.ntmps24
          go_wp2
          go_ret
          exact ⟨by rw [HE.out]; rfl, HB0.out⟩
      · have z0 : ((n : Int) == 0) = false := by rw [beq_eq_false_iff_ne]; omega
        have HE : Hid (rightF pL tR x = false) := Lib.hid (by rw [HF.out, HN.out, ← HL.out]; simp [h0])
        generalize rightF pL tR x = F at *
        obtain ⟨kind, sp, lo, ats, tx⟩ := x
        dsimp only at *
        subst h3
        clear HN HF HL HK HZ h0
        go_enter Tryd.func24, Tryd.ntmps24
        go_wp2
        go_ret
        exact ⟨by rw [HE.out]; rfl, HB0.out⟩
    all_goals
      have HE : Hid (rightF pL tR x = false) := Lib.hid (by rw [HF.out]; (first | rw [none_b s1 s2] | rw [none_c s1]); rfl)
      generalize rightF pL tR x = F at *
      obtain ⟨kind, sp, lo, ats, tx⟩ := x
      dsimp only at *
      subst h3
      clear HF HL HK HZ
      go_enter Tryd.func24, Tryd.ntmps24
      go_wp2
      go_ret
      exact ⟨by rw [HE.out]; rfl, HB0.out⟩
  have HF : Hid (rightF pL tR x = if x.kind ≠ 1 ∨ emp x.tx = false ∨ nmF pL tR (x.sp, x.lo) = false ∨ 32 < x.ats.length then false else goA (nmF pL tR) tR [] x.ats) := Lib.hid (by unfold rightF; rw [if_neg h2, if_neg h3])
  have e2 : (x.kind == 2) = false := by simpa using h2
  have e3 : (x.kind == 3) = false := by simpa using h3
  by_cases h1 : x.kind = 1
  · cases t1 : x.tx.toList.isEmpty with
    | false =>
      have HE : Hid (rightF pL tR x = false) := Lib.hid (by rw [HF.out, if_pos (.inr (.inl t1))])
      clear T hB h2 h3 e2 e3
      generalize rightF pL tR x = F at *
      obtain ⟨kind, sp, lo, ats, tx⟩ := x
      dsimp only at *
      subst h1
      clear HF HL HK HZ
      rcases emp3 sp lo with ⟨s1, s2⟩ | ⟨s1, s2⟩ | s1
      all_goals
        go_enter Tryd.func24, Tryd.ntmps24
        go_wp2
        go_ret
        exact ⟨by rw [HE.out]; rfl, HB0.out⟩
    | true =>
      by_cases hr : nmF pL tR (x.sp, x.lo) = true ∧ n ≤ 32
      · exact right_loop pL tR C1 C2 A n c x w T hB h1 t1 hr.1 hr.2
      · have HE : Hid (rightF pL tR x = false) := Lib.hid (by
          rw [HF.out, if_pos]
          rw [← T.len]
          by_cases q : nmF pL tR (x.sp, x.lo) = true
          · exact .inr (.inr (.inr (Nat.lt_of_not_le fun h => hr ⟨q, h⟩)))
          · exact .inr (.inr (.inl (by simpa using q))))
        have HC := Lib.hid (C1.out x.sp x.lo (w.alloc (.cells #[.int .i64 x.kind, .string x.sp, .string x.lo, .slice A n c, .string x.tx] 52)) hB.sp hB.lo)
        have HR := Lib.hid hr
        clear T hB h2 h3 e2 e3 HF hr
        generalize rightF pL tR x = F at *
        obtain ⟨kind, sp, lo, ats, tx⟩ := x
        dsimp only at *
        subst h1
        clear HL
        rcases emp3 sp lo with ⟨s1, s2⟩ | ⟨s1, s2⟩ | s1
        all_goals
          go_enter Tryd.func24, Tryd.ntmps24
          go_wp2_with fail
          refine HC.out.mono ?_
          rintro e w1 ⟨rfl, b1⟩
          have HB1 := Lib.hid (HB0.out.trans (b1.mono (Nat.le_of_lt HZ.out)))
          obtain ⟨c0, c1, c2, c3, c4⟩ := cells5 ((b1.block _ HZ.out).trans HK.out)
          clear HC b1 c0 c1 c2 c4 HK HZ HB0
          cases g1 : nmF pL tR (sp, lo) with
          | false =>
            clear g1
            go_wp2
            go_ret
            exact ⟨by rw [HE.out]; rfl, HB1.out⟩
          | true =>
            have k32 : (32 : Int) < (n : Int) := by have : ¬ n ≤ 32 := fun h => HR.out ⟨g1, h⟩; omega
            have k33 : decide ((32 : Int) < (n : Int)) = true := by rw [decide_eq_true_eq]; exact k32
            clear g1
            go_wp2
            go_ret
            exact ⟨by rw [HE.out]; rfl, HB1.out⟩
  · have HE : Hid (rightF pL tR x = false) := Lib.hid (by rw [HF.out, if_pos (.inl h1)])
    have e1 : (x.kind != 1) = true := by simpa using h1
    clear T hB h1 h2 h3
    generalize rightF pL tR x = F at *
    obtain ⟨kind, sp, lo, ats, tx⟩ := x
    dsimp only at *
    clear HF HL HK HZ
    rcases emp3 sp lo with ⟨s1, s2⟩ | ⟨s1, s2⟩ | s1
    all_goals
      go_enter Tryd.func24, Tryd.ntmps24
      go_wp2
      go_ret
      exact ⟨by rw [HE.out]; rfl, HB0.out⟩
end Go.Proofs.YtjboglpnpgghiaaDoor.Ev

/- The document's Depth (layer 9) of whatever events. -/
set_option linter.unusedSimpArgs false
set_option linter.unusedVariables false
namespace Go.Proofs.YtjboglpnpgghiaaDoor.Ev
open Go.RowKit

theorem few_rgb {x : RE} (h : FewE x) : RgB x := ⟨by have := h.sp; omega, by have := h.lo; omega, by have := h.tx; omega, fun hn y hy => by
  obtain ⟨k, hk⟩ := List.getElem?_of_mem hy
  have hlt := (List.getElem?_eq_some_iff.1 hk).1
  obtain ⟨a, b, c⟩ := h.at_ k y (by omega) hk
  exact ⟨by omega, by omega, by omega⟩⟩
def EvC (pL tR : ByteArray → Bool) : Prop := ∀ (A : Option Addr) (n c : Nat) (x : RE) (W : World), AttsIn W A n c x.ats → RgB x → Calls Tryd.prog 24 #[.agg #[.int .i64 x.kind, .string x.sp, .string x.lo, .slice A n c, .string x.tx]] W fun e w' => e = .returned (.bool (rightF pL tR x)) ∧ Below W.heap.size W w'
end Go.Proofs.YtjboglpnpgghiaaDoor.Ev

/- What layer 9's statements call, as contracts; WordRights over them. -/
set_option linter.unusedSimpArgs false
set_option linter.unusedVariables false
namespace Go.Proofs.YtjboglpnpgghiaaDoor.Ev
open Go.RowKit

def emB : ByteArray := ⟨#[]⟩
/-- The end of an element; the root that stands for none. -/
def clE : RE := ⟨3, emB, emB, [], emB⟩
def OwnI (W : World) (B : Nat) (v : Value) (l : List Int) : Prop := W.ownsRow B 3 1 v l.length (l.map (Value.int .i64))
end Go.Proofs.YtjboglpnpgghiaaDoor.Ev

/- Trees of events (layer 10), plain: forests by first child and next sibling; their events; a document has a tree. -/
set_option linter.unusedSimpArgs false
set_option linter.unusedVariables false
namespace Go.Proofs.YtjboglpnpgghiaaDoor.Ev
open Go.RowKit

/-- A row of trees: the first one (a text or an element, with all its parts), its children, the trees behind it. -/
inductive Fo where
  | nil : Fo
  | cons (t : Bool) (tx sp lo : ByteArray) (ats : List P3) (ks nx : Fo) : Fo
def Fo.len : Fo → Nat
  | .nil => 0
  | .cons _ _ _ _ _ _ nx => nx.len + 1
def Fo.app : Fo → Fo → Fo
  | .nil, g => g
  | .cons t tx sp lo ats ks nx, g => .cons t tx sp lo ats ks (nx.app g)
def Fo.drop : Nat → Fo → Fo
  | 0, f => f
  | _ + 1, .nil => .nil
  | k + 1, .cons _ _ _ _ _ _ nx => Fo.drop k nx
def Fo.take : Nat → Fo → Fo
  | 0, _ => .nil
  | _ + 1, .nil => .nil
  | k + 1, .cons t tx sp lo ats ks nx => .cons t tx sp lo ats ks (Fo.take k nx)
/-- The events of a row of trees. -/
def Fo.evs : Fo → List RE
  | .nil => []
  | .cons t tx sp lo ats ks nx => (if t = true then [⟨2, emB, emB, [], tx⟩] else ⟨1, sp, lo, ats, emB⟩ :: (ks.evs ++ [clE])) ++ nx.evs
/-- How many nodes (a text has no children). -/
def Fo.cnt : Fo → Nat
  | .nil => 0
  | .cons t _ _ _ _ ks nx => (if t = true then 1 else 1 + ks.cnt) + nx.cnt
/-- How many trees within trees, whatever they are. -/
def Fo.siz : Fo → Nat
  | .nil => 0
  | .cons _ _ _ _ _ ks nx => 1 + ks.siz + nx.siz
theorem evs_app : ∀ f g : Fo, (f.app g).evs = f.evs ++ g.evs
  | .nil, g => rfl
  | .cons t tx sp lo ats ks nx, g => by rw [Fo.app, Fo.evs, Fo.evs, evs_app nx g, List.append_assoc]
theorem len_drop : ∀ (k : Nat) (f : Fo), (f.drop k).len = f.len - k
  | 0, f => rfl
  | k + 1, .nil => by rw [Fo.drop, Fo.len, Nat.zero_sub]
  | k + 1, .cons t tx sp lo ats ks nx => by rw [Fo.drop, Fo.len, len_drop k nx]; omega
theorem take_drop_F : ∀ (k : Nat) (f : Fo), (f.take k).app (f.drop k) = f
  | 0, f => by cases f <;> rfl
  | k + 1, .nil => rfl
  | k + 1, .cons t tx sp lo ats ks nx => by rw [Fo.take, Fo.drop, Fo.app, take_drop_F k nx]
theorem take_all : ∀ (f : Fo), f.take f.len = f
  | .nil => rfl
  | .cons t tx sp lo ats ks nx => by rw [Fo.len, Fo.take, take_all nx]
theorem drop_cons : ∀ {k : Nat} {f : Fo}, k < f.len → ∃ t tx sp lo ats ks, f.drop k = .cons t tx sp lo ats ks (f.drop (k + 1)) ∧ f.take (k + 1) = (f.take k).app (.cons t tx sp lo ats ks .nil)
  | 0, .nil, h => by rw [Fo.len] at h; omega
  | 0, .cons t tx sp lo ats ks nx, _ => ⟨t, tx, sp, lo, ats, ks, by cases nx <;> rfl, by cases nx <;> rfl⟩
  | k + 1, .nil, h => by rw [Fo.len] at h; omega
  | k + 1, .cons t tx sp lo ats ks nx, h => by
    rw [Fo.len] at h
    obtain ⟨t', tx', sp', lo', ats', ks', e1, e2⟩ := drop_cons (k := k) (f := nx) (by omega)
    exact ⟨t', tx', sp', lo', ats', ks', by rw [Fo.drop, e1]; rfl, by rw [Fo.take, e2]; rfl⟩
end Go.Proofs.YtjboglpnpgghiaaDoor.Ev
