/-
  Merged by program out of the texts TgPrint, TgSame, TgFew, TgPrint2, TgAwake, Val of one seat.
-/
import Derived.Test.YtaoklhalkfcpfaaGreatDoorG12
import Derived.Test.YtaoklhalkfcpfaaGreatDoorG04
import Derived.Deep.QuietTactic
import Derived.BigQuiet
import Derived.Lib.Hide

/- The walk of tag.Print. -/
set_option linter.unusedSimpArgs false
set_option linter.unusedVariables false
namespace Go.Proofs.YtaoklhalkfcpfaaGreatDoor
open Go.RowKit

theorem escB_byt (v : Bool) (c : Int) (h0 : 0 ≤ c) (h1 : c ≤ 255) : Byt (escB v c) := by
  unfold escB
  repeat' split
  all_goals intro x hx; simp at hx; omega
theorem escF_byt (v : Bool) (l : List Int) (h : Byt l) : Byt (escF v l) := by
  intro x hx
  unfold escF at hx
  obtain ⟨c, hc, hx⟩ := List.mem_flatMap.1 hx
  exact escB_byt v c (h c hc).1 (h c hc).2 x hx
theorem byts_esc (v : Bool) (s : ByteArray) : byts (strOfNums (escF v (byts s))) = escF v (byts s) :=
  byts_str _ (fun x hx => (escF_byt v _ (Byt.byts s) x hx).1) (fun x hx => (escF_byt v _ (Byt.byts s) x hx).2)
theorem back_ans (v : Bool) (s : ByteArray) (h : Rt (byts s)) : ansF v (byts (strOfNums (escF v (byts s)))) = (byts s, 0, 0) := by
  rw [byts_esc]
  exact ans_ok (back_F v (byts s) (byts_nn s) h)
/-- A tag, printed. -/
def atP (x : ByteArray × ByteArray) : List Int := 32 :: (byts x.1 ++ (61 :: 34 :: (escF true (byts x.2) ++ [34])))
def prF (nm : ByteArray) (l : List (ByteArray × ByteArray)) : List Int := byts nm ++ l.flatMap atP
theorem prF_app (nm : ByteArray) (l : List (ByteArray × ByteArray)) (x : ByteArray × ByteArray) : prF nm (l ++ [x]) = prF nm l ++ atP x := by unfold prF; simp
theorem prF_take (nm : ByteArray) (l : List (ByteArray × ByteArray)) (k : Nat) (x : ByteArray × ByteArray) (h : l[k]? = some x) : prF nm (l.take (k + 1)) = prF nm (l.take k) ++ atP x := by
  rw [List.take_add_one, h, Option.toList_some, prF_app]
def Fit (l : List (ByteArray × ByteArray)) : Prop := ∀ x ∈ l, x.1.size ≤ 1000 ∧ x.2.size ≤ 1000
theorem atP_len (x : ByteArray × ByteArray) (h : x.1.size ≤ 1000 ∧ x.2.size ≤ 1000) : (atP x).length ≤ 7004 := by
  unfold atP
  have := escF_len true (byts x.2)
  rw [byts_len] at this
  simp only [List.length_cons, List.length_append, List.length_nil, byts_len]
  omega
theorem pr_len (nm : ByteArray) (hnm : nm.size ≤ 1000) : ∀ (l : List (ByteArray × ByteArray)), Fit l → (prF nm l).length ≤ 1000 + 7004 * l.length
  | [], _ => by unfold prF; simp only [List.flatMap_nil, List.append_nil, byts_len, List.length_nil]; omega
  | x :: l, h => by
    have h1 := pr_len nm hnm l (fun y hy => h y (List.mem_cons_of_mem _ hy))
    have h2 := atP_len x (h x (List.mem_cons_self ..))
    unfold prF at h1 ⊢
    simp only [List.flatMap_cons, List.length_append, List.length_cons] at h1 ⊢
    omega

/-- A builder in block b (from B on) that holds these bytes. -/
def Bd (B b : Nat) (l : List Int) (w : World) : Prop := ∃ bs : List UInt8, (bs.map fun x => (x.toNat : Int)) = l ∧ Lib.IsBuilderF 55 5 B b (Lib.byteCells bs) w
theorem own_keepF {w w' : World} {B : Nat} {e : TypeId} {size : Nat} {v : Value} {n : Nat} {xs : List Value} (h : w.ownsRowF B e size v n xs) (hb : Below w.heap.size w w') : w'.ownsRowF B e size v n xs := by
  refine ⟨h.1, ?_⟩
  rcases h.2 with hn | ⟨g, cap, cur, fz, rfl, hb1, hgg, rest⟩
  · exact .inl hn
  · refine .inr ⟨g, cap, cur, fz, rfl, hb1, ?_, rest⟩
    rw [hb.block g (Array.getElem?_eq_some_iff.1 hgg).1]
    exact hgg
theorem bdAt_keep {B b : Nat} {p : Value} {bs : List Value} {w w' : World} (h : Lib.BuilderAtF 55 5 B b p bs w) (hb : Below w.heap.size w w') : Lib.BuilderAtF 55 5 B b p bs w' := by
  have hlt := h.lt
  obtain ⟨h1, v, h2, h3, h4⟩ := h
  exact ⟨h1, v, (hb.block b hlt).trans h2, own_keepF h3 hb, h4⟩
theorem Bd.keep {B b : Nat} {l : List Int} {w w' : World} (h : Bd B b l w) (hb : Below w.heap.size w w') : Bd B b l w' := by
  obtain ⟨bs, h1, h2⟩ := h
  exact ⟨bs, h1, h2.elim (fun x => .inl (bdAt_keep x hb)) (fun x => .inr (bdAt_keep x hb))⟩
theorem bd_new (w : World) : Bd w.heap.size w.heap.size [] (w.alloc (.cells #[.pointer none, .slice none 0 0] 55)) := ⟨[], rfl, Lib.IsBuilderF.of (Lib.fresh_isBuilder 55 5 w)⟩
theorem bd_write (B b : Nat) (l : List Int) (s : ByteArray) (w : World) (h : Bd B b l w) (hl : l.length ≤ 100000000) (hs : s.size ≤ 100000000) (hB : B ≤ w.heap.size) :
    Calls Tryz.prog 21 #[.pointer (some ⟨b, 0, none⟩), .string s] w fun e w' => e = .returned (.tuple #[.int .i64 s.size, .nilIface]) ∧ Bd B b (l ++ byts s) w' ∧ Below B w w' ∧ Lib.OthersKept 5 (some b) w w' := by
  obtain ⟨bs, h1, h2⟩ := h
  have hz : bs.length = l.length := by rw [← h1, List.length_map]
  refine (Tryz.Builder_WriteString_k B b (Lib.byteCells bs) s w h2 (by rw [Lib.byteCells_length]; omega) hB).mono ?_
  rintro e w' ⟨rfl, h3, h4, h5⟩
  refine ⟨rfl, ⟨bs ++ s.data.toList, by rw [List.map_append, h1]; rfl, ?_⟩, h4, h5⟩
  rw [Lib.byteCells_append]
  exact .inr h3
theorem bd_string (B b : Nat) (l : List Int) (w : World) (h : Bd B b l w) (hB : B ≤ w.heap.size) :
    Calls Tryz.prog 23 #[.pointer (some ⟨b, 0, none⟩)] w fun e w' => e = .returned (.string (strOfNums l)) ∧ Below B w w' := by
  obtain ⟨bs, h1, h2⟩ := h
  refine (Tryz.Builder_String_any_k B b bs w h2 hB).mono ?_
  rintro e w' ⟨rfl, h3, h4, h5⟩
  refine ⟨?_, h4⟩
  rw [← str_of_byts (s := ⟨bs.toArray⟩) (l := l) (by rw [← h1]; simp [byts])]
end Go.Proofs.YtaoklhalkfcpfaaGreatDoor

/- The walks of the document's Same and Few. -/
set_option linter.unusedSimpArgs false
set_option linter.unusedVariables false
namespace Go.Proofs.YtaoklhalkfcpfaaGreatDoor
open Go.RowKit

/-- A tag of the call's own, as a value. -/
def SmRel (n : Nat) (l : List (ByteArray × ByteArray)) (A1 A2 : Option Addr) (c1 c2 : Value) (w : World) (i : Value) (wr : World) : Prop :=
  ∃ k : Nat, i = .int .i64 k ∧ k ≤ n ∧ Hid (RdR wr A1 l) ∧ Hid (RdR wr A2 l) ∧ Hid (Below w.heap.size w wr) ∧ wr.cell? ⟨w.heap.size, 1, none⟩ = some c1 ∧ wr.cell? ⟨w.heap.size + 1, 1, none⟩ = some c2
set_option maxHeartbeats 4000000 in
set_option maxRecDepth 100000 in
theorem same_any (nm : ByteArray) (l : List (ByteArray × ByteArray)) (n : Nat) (A1 A2 : Option Addr) (k1 k2 : Nat) (w : World) (hn : n = l.length) (hl : n ≤ 10000) (h1 : RdR w A1 l) (h2 : RdR w A2 l) :
    Calls Tryz.prog 11 #[.agg #[.string nm, .slice A1 n k1], .agg #[.string nm, .slice A2 n k2]] w fun e w' => e = .returned (.bool true) ∧ Below w.heap.size w w' := by
  have B1 := (Below.refl w.heap.size w).alloc (Nat.le_refl _) (.cells #[.string nm, .slice A1 n k1] 25)
  have B2 := B1.alloc (Nat.le_trans (Nat.le_refl _) B1.size) (.cells #[.string nm, .slice A2 n k2] 25)
  have H1 := Lib.hid (h1.keep B2)
  have H2 := Lib.hid (h2.keep B2)
  have HB := Lib.hid B2
  have HN := Lib.hid hn
  have hq : (nm.toList == nm.toList) = true := beq_self_eq_true _
  have hq2 : (nm.toList != nm.toList) = false := bne_self_eq_false _
  clear h1 h2 hn B1 B2
  go_enter Tryz.func11, Tryz.ntmps11
  go_wp2_with fail
  go_loopw [5] (fun i wr => SmRel n l A1 A2 (.slice A1 n k1) (.slice A2 n k2) w i wr) (fun i _ => n - (intOf i).toNat)
  case atStart => exact ⟨0, rfl, Nat.zero_le _, H1, H2, HB, by simp, by simp⟩
  case round =>
    clear H1 H2 HB
    obtain ⟨k, rfl, hk, hR1, hR2, hB, g1, g2⟩ := hrel
    by_cases hlt : k < n
    · have hkl : k < l.length := by rw [← HN.out]; exact hlt
      obtain ⟨b1, o1, rfl, hb1, x0, x1⟩ := hR1.out k _ (List.getElem?_eq_getElem hkl)
      obtain ⟨b2, o2, rfl, hb2, y0, y1⟩ := hR2.out k _ (List.getElem?_eq_getElem hkl)
      have d1 : (k : Int) < (n : Int) := by omega
      have d0 : (0 : Int) ≤ (k : Int) := by omega
      generalize l[k] = t at *
      obtain ⟨tn, tv⟩ := t
      dsimp only at x0 x1 y0 y1
      go_wp2_with fail
      go_quiet (fail)
      go_wp2
      go_roundw
      case rel => exact ⟨k + 1, by go_num, by omega, Lib.hid (fun k t h => hR1.out k t h), Lib.hid (fun k t h => hR2.out k t h), Lib.hid (below_drewN hB.out _), g1, g2⟩
      case measure => simp only [intOf]; omega
    · have d1 : ¬ (k : Int) < (n : Int) := by omega
      clear hR1 hR2
      go_wp2_with fail
      go_ret
      exact ⟨rfl, hB.out⟩
end Go.Proofs.YtaoklhalkfcpfaaGreatDoor

/- The walk of the document's Few. -/
set_option linter.unusedSimpArgs false
set_option linter.unusedVariables false
namespace Go.Proofs.YtaoklhalkfcpfaaGreatDoor
open Go.RowKit

def FewP (nm : ByteArray) (l : List (ByteArray × ByteArray)) : Prop := nm.size ≤ 200 ∧ l.length ≤ 60 ∧ ∀ x ∈ l, x.1.size ≤ 200 ∧ x.2.size ≤ 200
def FwPost (P : Prop) (w : World) (e : Ending) (w' : World) : Prop := ∃ b : Bool, e = .returned (.bool b) ∧ (b = true ↔ P) ∧ Below w.heap.size w w'
theorem fw_yes {P : Prop} {w w' : World} (h : P) (hb : Below w.heap.size w w') : FwPost P w (.returned (.bool true)) w' := ⟨true, rfl, ⟨fun _ => h, fun _ => rfl⟩, hb⟩
theorem fw_no {P : Prop} {w w' : World} (h : ¬ P) (hb : Below w.heap.size w w') : FwPost P w (.returned (.bool false)) w' := ⟨false, rfl, ⟨(fun e => by cases e), fun e => absurd e h⟩, hb⟩
def FwRel (n : Nat) (l : List (ByteArray × ByteArray)) (i : Value) : Prop := ∃ k : Nat, i = .int .i64 k ∧ k ≤ n ∧ Hid (∀ j x, j < k → l[j]? = some x → x.1.size ≤ 200 ∧ x.2.size ≤ 200)
set_option maxHeartbeats 4000000 in
set_option maxRecDepth 100000 in
theorem few_any (nm : ByteArray) (l : List (ByteArray × ByteArray)) (n : Nat) (A : Option Addr) (c : Nat) (w : World) (hn : n = l.length) (hm : nm.size ≤ maxLen) (hl : n ≤ maxLen) (hx : ∀ x ∈ l, x.1.size ≤ maxLen ∧ x.2.size ≤ maxLen) (h1 : RdR w A l) :
    Calls Tryz.prog 12 #[.agg #[.string nm, .slice A n c]] w (FwPost (FewP nm l) w) := by
  unfold maxLen at *
  have B1 := (Below.refl w.heap.size w).alloc (Nat.le_refl _) (.cells #[.string nm, .slice A n c] 25)
  have H1 := Lib.hid (h1.keep B1)
  have HB := Lib.hid B1
  have HN := Lib.hid hn
  have HX := Lib.hid hx
  have hsz : (w.alloc (.cells #[.string nm, .slice A n c] 25)).heap.size = w.heap.size + 1 := by simp
  clear h1 hn B1 hx hsz
  by_cases a1 : 200 < nm.size
  · have HF : Hid (¬ FewP nm l) := Lib.hid (fun h => by have := h.1; omega)
    have i1 : decide ((200 : Int) < (nm.size : Int)) = true := by rw [decide_eq_true_eq]; omega
    have j1 : decide (200 < nm.size) = true := by rw [decide_eq_true_eq]; omega
    clear H1 HX a1
    go_enter Tryz.func12, Tryz.ntmps12
    go_wp2
    go_ret
    exact fw_no HF.out HB.out
  have i1 : decide ((200 : Int) < (nm.size : Int)) = false := by rw [decide_eq_false_iff_not]; omega
  have j1 : decide (200 < nm.size) = false := by rw [decide_eq_false_iff_not]; omega
  by_cases a2 : 60 < n
  · have HF : Hid (¬ FewP nm l) := Lib.hid (fun h => by have := h.2.1; have := HN.out; omega)
    have i2 : decide ((60 : Int) < (n : Int)) = true := by rw [decide_eq_true_eq]; omega
    have j2 : decide (60 < n) = true := by rw [decide_eq_true_eq]; omega
    clear H1 HX a1 a2
    go_enter Tryz.func12, Tryz.ntmps12
    go_wp2
    go_ret
    exact fw_no HF.out HB.out
  have i2 : decide ((60 : Int) < (n : Int)) = false := by rw [decide_eq_false_iff_not]; omega
  have j2 : decide (60 < n) = false := by rw [decide_eq_false_iff_not]; omega
  have HA : Hid (nm.size ≤ 200 ∧ l.length ≤ 60) := Lib.hid (by have := HN.out; omega)
  clear a1
  go_enter Tryz.func12, Tryz.ntmps12
  go_wp2_with fail
  go_loop [3] (fun i => FwRel n l i) (fun i => n - (intOf i).toNat)
  case atStart => exact ⟨0, rfl, Nat.zero_le _, Lib.hid (fun j x hj => absurd hj (Nat.not_lt_zero _))⟩
  case round =>
    obtain ⟨k, rfl, hk, hM⟩ := hrel
    by_cases hlt : k < n
    · have hkl : k < l.length := by rw [← HN.out]; exact hlt
      obtain ⟨b1, o1, rfl, hb1, x0, x1⟩ := H1.out k _ (List.getElem?_eq_getElem hkl)
      have hxx := HX.out l[k] (List.getElem_mem _)
      have HK := Lib.hid (List.getElem?_eq_getElem hkl)
      have d1 : (k : Int) < (n : Int) := by omega
      have d0 : (0 : Int) ≤ (k : Int) := by omega
      generalize l[k] = t at *
      obtain ⟨tn, tv⟩ := t
      dsimp only at x0 x1 hxx
      by_cases q1 : 200 < tn.size
      · have HF : Hid (¬ FewP nm l) := Lib.hid (fun h => by have : tn.size ≤ 200 := (h.2.2 _ (List.mem_of_getElem? HK.out)).1; omega)
        have i3 : decide ((200 : Int) < (tn.size : Int)) = true := by rw [decide_eq_true_eq]; omega
        have j3 : decide (200 < tn.size) = true := by rw [decide_eq_true_eq]; omega
        clear hM
        go_wp2_with fail
        go_ret
        exact fw_no HF.out HB.out
      have i3 : decide ((200 : Int) < (tn.size : Int)) = false := by rw [decide_eq_false_iff_not]; omega
      have j3 : decide (200 < tn.size) = false := by rw [decide_eq_false_iff_not]; omega
      by_cases q2 : 200 < tv.size
      · have HF : Hid (¬ FewP nm l) := Lib.hid (fun h => by have : tv.size ≤ 200 := (h.2.2 _ (List.mem_of_getElem? HK.out)).2; omega)
        have i4 : decide ((200 : Int) < (tv.size : Int)) = true := by rw [decide_eq_true_eq]; omega
        have j4 : decide (200 < tv.size) = true := by rw [decide_eq_true_eq]; omega
        clear hM
        go_wp2_with fail
        go_ret
        exact fw_no HF.out HB.out
      have i4 : decide ((200 : Int) < (tv.size : Int)) = false := by rw [decide_eq_false_iff_not]; omega
      have j4 : decide (200 < tv.size) = false := by rw [decide_eq_false_iff_not]; omega
      have HM2 : Hid (∀ j x, j < k + 1 → l[j]? = some x → x.1.size ≤ 200 ∧ x.2.size ≤ 200) := Lib.hid fun j x hj hx => by
        rcases Nat.lt_or_ge j k with g | g
        · exact hM.out j x g hx
        · obtain rfl : j = k := by omega
          have := HK.out
          rw [hx] at this
          injection this with this
          rw [this]
          exact ⟨by show tn.size ≤ 200; omega, by show tv.size ≤ 200; omega⟩
      clear hM
      go_wp2_with fail
      go_round
      case rel => exact ⟨k + 1, by go_num, by omega, HM2⟩
      case measure => simp only [intOf]; omega
    · have d1 : ¬ (k : Int) < (n : Int) := by omega
      have hke : k = n := by omega
      have HF : Hid (FewP nm l) := Lib.hid ⟨HA.out.1, HA.out.2, fun x hx => by
        obtain ⟨j, hj⟩ := List.getElem?_of_mem hx
        exact hM.out j x (by rw [hke, HN.out]; exact (List.getElem?_eq_some_iff.1 hj).1) hj⟩
      clear hM hke
      go_wp2_with fail
      go_ret
      exact fw_yes HF.out HB.out
theorem few_yes (nm : ByteArray) (l : List (ByteArray × ByteArray)) (n : Nat) (A : Option Addr) (c : Nat) (w : World) (hn : n = l.length) (hm : nm.size ≤ maxLen) (hl : n ≤ maxLen) (hx : ∀ x ∈ l, x.1.size ≤ maxLen ∧ x.2.size ≤ maxLen) (h1 : RdR w A l) (h : FewP nm l) :
    Calls Tryz.prog 12 #[.agg #[.string nm, .slice A n c]] w fun e w' => e = .returned (.bool true) ∧ Below w.heap.size w w' :=
  (few_any nm l n A c w hn hm hl hx h1).mono fun e w' ⟨b, h2, h3, h4⟩ => ⟨by rw [h2, h3.2 h], h4⟩
theorem few_no (nm : ByteArray) (l : List (ByteArray × ByteArray)) (n : Nat) (A : Option Addr) (c : Nat) (w : World) (hn : n = l.length) (hm : nm.size ≤ maxLen) (hl : n ≤ maxLen) (hx : ∀ x ∈ l, x.1.size ≤ maxLen ∧ x.2.size ≤ maxLen) (h1 : RdR w A l) (h : ¬ FewP nm l) :
    Calls Tryz.prog 12 #[.agg #[.string nm, .slice A n c]] w fun e w' => e = .returned (.bool false) ∧ Below w.heap.size w w' :=
  (few_any nm l n A c w hn hm hl hx h1).mono fun e w' ⟨b, h2, h3, h4⟩ => ⟨by
    have : b = false := by
      cases hb : b
      · rfl
      · exact absurd (h3.1 hb) h
    rw [h2, this], h4⟩
end Go.Proofs.YtaoklhalkfcpfaaGreatDoor

/- The walk of tag.Print. -/
set_option linter.unusedSimpArgs false
set_option linter.unusedVariables false
namespace Go.Proofs.YtaoklhalkfcpfaaGreatDoor
open Go.RowKit

/-- A round's state: the builder, and the attribute's own block. -/
structure PS (B b K : Nat) (tn tv : ByteArray) (l : List Int) (w0 w : World) : Prop where
  bd : Bd B b l w
  blk : w.heap[K]? = some (.cells #[.string tn, .string tv] 37 (0, 0))
  bel : Below B w0 w
  ne : K ≠ b
  lo : B ≤ w0.heap.size
theorem PS.c0 {B b K : Nat} {tn tv : ByteArray} {l : List Int} {w0 w : World} (h : PS B b K tn tv l w0 w) : w.cell? ⟨K, 0, none⟩ = some (.string tn) := by rw [Lib.cell_of_heap h.blk]; rfl
theorem PS.c1 {B b K : Nat} {tn tv : ByteArray} {l : List Int} {w0 w : World} (h : PS B b K tn tv l w0 w) : w.cell? ⟨K, 1, none⟩ = some (.string tv) := by rw [Lib.cell_of_heap h.blk]; rfl
theorem PS.below {B b K : Nat} {tn tv : ByteArray} {l : List Int} {w0 w w' : World} (h : PS B b K tn tv l w0 w) (hb : Below w.heap.size w w') : PS B b K tn tv l w0 w' :=
  ⟨h.bd.keep hb, (hb.block K (Array.getElem?_eq_some_iff.1 h.blk).1).trans h.blk, h.bel.trans (hb.mono (Nat.le_trans h.lo h.bel.size)), h.ne, h.lo⟩
theorem ps_write (B b K : Nat) (tn tv : ByteArray) (l : List Int) (w0 : World) (s : ByteArray) (w : World) (h : PS B b K tn tv l w0 w) (hl : l.length ≤ 100000000) (hs : s.size ≤ 100000000) :
    Calls Tryz.prog 21 #[.pointer (some ⟨b, 0, none⟩), .string s] w fun e w' => e = .returned (.tuple #[.int .i64 s.size, .nilIface]) ∧ PS B b K tn tv (l ++ byts s) w0 w' := by
  refine (bd_write B b l s w h.bd hl hs (Nat.le_trans h.lo h.bel.size)).mono ?_
  rintro e w' ⟨rfl, h1, h2, h3⟩
  refine ⟨rfl, h1, ?_, h.bel.trans h2, h.ne, h.lo⟩
  exact h3 K _ h.blk (by simpa using h.ne) (fun c fz e => by injection e with _ e2 _; exact absurd e2 (by decide))
def PrRel (nm : ByteArray) (l : List (ByteArray × ByteArray)) (n : Nat) (w0 : World) (i : Value) (wr : World) : Prop :=
  ∃ k : Nat, i = .int .i64 k ∧ k ≤ n ∧ Hid (Bd w0.heap.size w0.heap.size (prF nm (l.take k)) wr) ∧ Hid (Below w0.heap.size w0 wr)
theorem Bd.lt {B b : Nat} {l : List Int} {w : World} (h : Bd B b l w) : b < w.heap.size := by
  obtain ⟨bs, _, h | h⟩ := h
  · exact h.lt
  · exact h.lt
theorem ps_new {w0 wr : World} {l : List Int} (tn tv : ByteArray) (h : Bd w0.heap.size w0.heap.size l wr) (hb : Below w0.heap.size w0 wr) : PS w0.heap.size w0.heap.size wr.heap.size tn tv l w0 (wr.alloc (.cells #[.string tn, .string tv] 37)) :=
  ⟨h.keep ((Below.refl _ wr).alloc (Nat.le_refl _) _), heap_alloc_new wr _, hb.alloc hb.size _, by have := h.lt; omega, Nat.le_refl _⟩
theorem pr_bytes (nm tn tv : ByteArray) (l : List (ByteArray × ByteArray)) (k : Nat) (h : l[k]? = some (tn, tv)) :
    ((((prF nm (l.take k) ++ byts ⟨#[32]⟩) ++ byts tn) ++ byts ⟨#[61, 34]⟩) ++ byts (strOfNums (escF true (byts tv)))) ++ byts ⟨#[34]⟩ = prF nm (l.take (k + 1)) := by
  rw [prF_take nm l k _ h, byts_esc]
  unfold atP
  have e1 : byts ⟨#[32]⟩ = [32] := rfl
  have e2 : byts ⟨#[61, 34]⟩ = [61, 34] := rfl
  have e3 : byts ⟨#[34]⟩ = [34] := rfl
  rw [e1, e2, e3]
  simp only [List.append_assoc, List.cons_append, List.nil_append]
set_option maxHeartbeats 8000000 in
set_option maxRecDepth 100000 in
theorem print_any (nm : ByteArray) (l : List (ByteArray × ByteArray)) (n c : Nat) (A : Option Addr) (w : World) (hn : n = l.length) (hl : n ≤ 1000) (hnm : nm.size ≤ 1000) (hf : Fit l) (hR : RdR w A l) :
    Calls Tryz.prog 13 #[.agg #[.string nm, .slice A n c]] w fun e w' => e = .returned (.string (strOfNums (prF nm l))) ∧ Below w.heap.size w w' := by
  have HN := Lib.hid hn
  have HF := Lib.hid hf
  have HL : Hid (∀ k, (prF nm (l.take k)).length ≤ 10000000) := Lib.hid fun k => by
    have := pr_len nm hnm (l.take k) (fun x hx => hf x (List.mem_of_mem_take hx))
    have h3 : (l.take k).length ≤ l.length := by rw [List.length_take]; omega
    omega
  obtain ⟨W0, hW0⟩ : ∃ W0, W0 = w.alloc (.cells #[.string nm, .slice A n c] 25) := ⟨_, rfl⟩
  have hz0 : W0.heap.size = w.heap.size + 1 := by rw [hW0]; simp
  have HB0 : Hid (Below w.heap.size w W0) := Lib.hid (by rw [hW0]; exact (Below.refl _ w).alloc (Nat.le_refl _) _)
  have t1 : W0.cell? ⟨w.heap.size, 1, none⟩ = some (.slice A n c) := by rw [hW0]; exact Blk0 w 25 _ 1
  have HT1 := Lib.hid t1
  have HBd : Hid (Bd (w.heap.size + 1) (w.heap.size + 1) [] ((w.alloc (.cells #[.string nm, .slice A n c] 25)).alloc (.cells #[.pointer none, .slice none 0 0] 55))) := Lib.hid (by
    have := bd_new W0
    rw [hz0, hW0] at this
    exact this)
  have HBl : Hid (Below (w.heap.size + 1) W0 ((w.alloc (.cells #[.string nm, .slice A n c] 25)).alloc (.cells #[.pointer none, .slice none 0 0] 55))) := Lib.hid (by rw [← hz0, ← hW0]; exact (Below.refl _ W0).alloc (Nat.le_refl _) _)
  have HR := Lib.hid hR
  have HZ0 := Lib.hid hz0
  clear hn hf hR t1 hz0 hW0
  go_enter Tryz.func13, Tryz.ntmps13
  go_wp2_with fail
  refine (bd_write (w.heap.size + 1) (w.heap.size + 1) [] nm _ HBd.out (by simp) (by omega) (by simp)).mono ?_
  rintro e w2 ⟨rfl, hd2, hb2, _⟩
  have HD2 : Hid (Bd W0.heap.size W0.heap.size (prF nm (l.take 0)) w2) := Lib.hid (by rw [HZ0.out]; have e : prF nm (l.take 0) = [] ++ byts nm := by unfold prF; simp
                                                                                      rw [e]; exact hd2)
  have HB2 : Hid (Below W0.heap.size W0 w2) := Lib.hid (by rw [HZ0.out]; exact HBl.out.trans hb2)
  have t2 : w2.cell? ⟨w.heap.size, 1, none⟩ = some (.slice A n c) := (HB2.out.cell (p := ⟨w.heap.size, 1, none⟩) (by rw [HZ0.out]; show w.heap.size < _; omega)).trans HT1.out
  clear hd2 hb2 HBd HBl HT1
  go_wp2_with fail
  go_loopw [5, 12] (fun _ i wr => PrRel nm l n W0 i wr) (fun _ i _ => n - (intOf i).toNat)
  case atStart => exact ⟨0, rfl, Nat.zero_le _, HD2, HB2⟩
  case round =>
    clear HD2 HB2 t2
    obtain ⟨k, rfl, hk, hD, hB⟩ := hrel
    by_cases hlt : k < n
    · have hkl : k < l.length := by rw [← HN.out]; exact hlt
      obtain ⟨b1, o1, rfl, hb1, x0, x1⟩ := (HR.out.keep (HB0.out.trans (hB.out.mono HB0.out.size))) k _ (List.getElem?_eq_getElem hkl)
      have HK := Lib.hid (List.getElem?_eq_getElem hkl)
      have hfit := HF.out l[k] (List.getElem_mem _)
      have d1 : (k : Int) < (n : Int) := by omega
      have d0 : (0 : Int) ≤ (k : Int) := by omega
      have hlen := HL.out k
      generalize l[k] = t at *
      obtain ⟨tn, tv⟩ := t
      dsimp only at x0 x1 hfit
      have HP0 := Lib.hid (ps_new tn tv hD.out hB.out)
      have HQ := Lib.hid (pr_bytes nm tn tv l k HK.out)
      have CQ : Hid (∀ w, Calls Tryz.prog 22 #[.string tv] w fun e w' => e = .returned (.string (strOfNums (escF true (byts tv)))) ∧ Below w.heap.size w w') := Lib.hid (fun w => quote_any tv w (by omega))
      have hes : (strOfNums (escF true (byts tv))).size ≤ 6000 := by
        rw [← byts_len, byts_esc]
        have := escF_len true (byts tv)
        rw [byts_len] at this
        omega
      generalize strOfNums (escF true (byts tv)) = q at *
      generalize prF nm (l.take k) = L at *
      rw [HZ0.out] at HP0
      clear hD
      go_wp2_with fail
      refine (ps_write _ _ _ tn tv L W0 ⟨#[32]⟩ _ HP0.out (by omega) (by decide)).mono ?_
      rintro e w3 ⟨rfl, h3⟩
      have HP3 := Lib.hid h3
      have c3 := h3.c0
      clear h3 HP0
      go_wp2_with fail
      refine (ps_write _ _ _ tn tv (L ++ byts ⟨#[32]⟩) W0 tn _ HP3.out (by rw [List.length_append, byts_len]; have : (⟨#[32]⟩ : ByteArray).size = 1 := rfl; omega) (by omega)).mono ?_
      rintro e w4 ⟨rfl, h4⟩
      have HP4 := Lib.hid h4
      clear h4 HP3 c3
      go_wp2_with fail
      refine (ps_write _ _ _ tn tv ((L ++ byts ⟨#[32]⟩) ++ byts tn) W0 ⟨#[61, 34]⟩ _ HP4.out (by rw [List.length_append, List.length_append, byts_len, byts_len]; have : (⟨#[32]⟩ : ByteArray).size = 1 := rfl; omega) (by decide)).mono ?_
      rintro e w5 ⟨rfl, h5⟩
      have HP5 := Lib.hid h5
      have c5 := h5.c1
      clear h5 HP4
      go_wp2_with fail
      refine (CQ.out _).mono ?_
      rintro e w6 ⟨rfl, hb6⟩
      have HP6 := Lib.hid (HP5.out.below hb6)
      clear hb6 HP5 c5 CQ
      go_wp2_with fail
      refine (ps_write _ _ _ tn tv (((L ++ byts ⟨#[32]⟩) ++ byts tn) ++ byts ⟨#[61, 34]⟩) W0 q _ HP6.out (by rw [List.length_append, List.length_append, List.length_append, byts_len, byts_len, byts_len]; have : (⟨#[32]⟩ : ByteArray).size = 1 := rfl; have : (⟨#[61, 34]⟩ : ByteArray).size = 2 := rfl; omega) (by omega)).mono ?_
      rintro e w7 ⟨rfl, h7⟩
      have HP7 := Lib.hid h7
      clear h7 HP6
      go_wp2_with fail
      refine (ps_write _ _ _ tn tv ((((L ++ byts ⟨#[32]⟩) ++ byts tn) ++ byts ⟨#[61, 34]⟩) ++ byts q) W0 ⟨#[34]⟩ _ HP7.out (by rw [List.length_append, List.length_append, List.length_append, List.length_append, byts_len, byts_len, byts_len, byts_len]; have : (⟨#[32]⟩ : ByteArray).size = 1 := rfl; have : (⟨#[61, 34]⟩ : ByteArray).size = 2 := rfl; omega) (by decide)).mono ?_
      rintro e w8 ⟨rfl, h8⟩
      have HP8 := Lib.hid h8
      clear h8 HP7
      go_wp2
      go_roundw
      case rel => exact ⟨k + 1, by go_num, by omega, Lib.hid (by rw [← HQ.out, HZ0.out]; exact HP8.out.bd), Lib.hid (by rw [HZ0.out]; exact HP8.out.bel)⟩
      case measure => simp only [intOf]; omega
    · have d1 : ¬ (k : Int) < (n : Int) := by omega
      have hkn : k = n := by omega
      have HE : Hid (l.take k = l) := Lib.hid (by rw [hkn, HN.out, List.take_length])
      have CS := Lib.hid (bd_string W0.heap.size W0.heap.size _ wr hD.out hB.out.size)
      rw [HE.out, HZ0.out] at CS
      clear hkn hD
      go_wp2_with fail
      refine CS.out.mono ?_
      rintro e w3 ⟨rfl, hb3⟩
      have HBB := Lib.hid (HB0.out.trans ((hB.out.trans (by rw [HZ0.out]; exact hb3)).mono HB0.out.size))
      clear hb3 CS
      go_wp2
      go_ret
      exact ⟨rfl, HBB.out⟩
end Go.Proofs.YtaoklhalkfcpfaaGreatDoor

/- The walk of awake: answers that the document fixes. -/
set_option linter.unusedSimpArgs false
set_option linter.unusedVariables false
namespace Go.Proofs.YtaoklhalkfcpfaaGreatDoor
open Go.RowKit

set_option maxRecDepth 100000 in
theorem awake_par : parF ⟨#[97, 32, 120, 32, 61, 32, 39, 49, 39, 32, 121, 61, 34, 50, 34]⟩ = (0, ⟨#[97]⟩, [(⟨#[120]⟩, ⟨#[49]⟩), (⟨#[121]⟩, ⟨#[50]⟩)]) := by kernel_rfl
set_option maxRecDepth 100000 in
theorem awake_two : parF ⟨#[97, 32, 120, 61, 39, 49, 39, 32, 120, 61, 39, 50, 39]⟩ = (8, ⟨#[]⟩, []) := by kernel_rfl
set_option maxRecDepth 100000 in
theorem awake_pr : strOfNums (prF ⟨#[97]⟩ [(⟨#[120]⟩, ⟨#[49]⟩), (⟨#[121]⟩, ⟨#[50]⟩)]) = ⟨#[97, 32, 120, 61, 34, 49, 34, 32, 121, 61, 34, 50, 34]⟩ := by rw [strOf_eq]; kernel_rfl
theorem cell_keep {w w' : World} {b j : Nat} {v : Value} (h : w.cell? ⟨b, j, none⟩ = some v) (hlt : b < w.heap.size) (hb : Below w.heap.size w w') : w'.cell? ⟨b, j, none⟩ = some v := (hb.cell (p := ⟨b, j, none⟩) hlt).trans h
set_option maxHeartbeats 4000000 in
set_option maxRecDepth 100000 in
theorem awake_any (w : World) (hV : Vars w) : Calls Tryz.prog 8 #[] w fun e w' => e = .returned (.bool true) ∧ Below w.heap.size w w' := by
  have CA := Lib.hid (tparse_any ⟨#[97, 32, 120, 32, 61, 32, 39, 49, 39, 32, 121, 61, 34, 50, 34]⟩ w hV (by decide))
  rw [awake_par] at CA
  have CB := Lib.hid (fun W (hW : Vars W) => tparse_any ⟨#[97, 32, 120, 61, 39, 49, 39, 32, 120, 61, 39, 50, 39]⟩ W hW (by decide))
  rw [awake_two] at CB
  have CP := Lib.hid (fun A c W h => print_any ⟨#[97]⟩ [(⟨#[120]⟩, ⟨#[49]⟩), (⟨#[121]⟩, ⟨#[50]⟩)] 2 c A W rfl (by decide) (by decide) (by intro x hx; simp only [List.mem_cons, List.not_mem_nil, or_false] at hx; rcases hx with rfl | rfl <;> exact ⟨by decide, by decide⟩) h)
  rw [awake_pr] at CP
  have HV := Lib.hid hV
  have s1 : ((⟨#[97]⟩ : ByteArray).toList == [97]) = true := by rw [Lib.toList_data]; decide
  clear hV
  go_enter Tryz.func8, Tryz.ntmps8
  go_wp2_with fail
  refine CA.out.mono ?_
  rintro e w1 ⟨v, rfl, hown, b1⟩
  obtain ⟨A, c, rfl, hR⟩ := own_rdR hown
  dsimp only [List.length] at *
  have B1 := b1.alloc b1.size (.cells #[.string ⟨#[97]⟩, .slice A 2 c] 25)
  have hR1 := hR.keep ((Below.refl _ w1).alloc (Nat.le_refl _) (.cells #[.string ⟨#[97]⟩, .slice A 2 c] 25))
  have HB1 := Lib.hid B1
  have HV1 := Lib.hid (HV.out.keep B1 HV.out.1)
  have HR1 := Lib.hid hR1
  have q1 := Blk0 w1 25 #[.string ⟨#[97]⟩, .slice A 2 c] 1
  have q0 := Blk0 w1 25 #[.string ⟨#[97]⟩, .slice A 2 c] 0
  have Q0 := Lib.hid q0
  have Q1 := Lib.hid q1
  clear CA hown b1 hR B1 hR1 q0 q1
  go_wp2_with fail
  refine (CB.out _ HV1.out).mono ?_
  rintro e w2 ⟨v, rfl, hown2, b2⟩
  obtain ⟨A2, c2, rfl, _⟩ := own_rdR hown2
  dsimp only [List.length] at *
  have B2 := b2.alloc b2.size (.cells #[.string ⟨#[]⟩, .slice A2 0 c2] 25)
  have hR2 := HR1.out.keep b2
  have g0 := cell_keep Q0.out (by simp) b2
  have g1 := cell_keep Q1.out (by simp) b2
  have hw : w1.heap.size < w2.heap.size := Nat.lt_of_lt_of_le (by simp) b2.size
  have HB2 := Lib.hid (HB1.out.trans (B2.mono HB1.out.size))
  have HR2 := Lib.hid (HR1.out.keep B2)
  obtain ⟨b, o, rfl, hb, x0, x1⟩ := hR2 0 _ rfl
  obtain ⟨b', o', e, _, y0, y1⟩ := hR2 1 _ rfl
  injection e with e
  injection e with e1 e2
  subst e1 e2
  simp only [Nat.zero_mul, Nat.one_mul, Nat.add_zero] at x0 x1 y0 y1
  have n1 : ¬ w1.heap.size = w2.heap.size := by omega
  have n2 : ¬ b = w2.heap.size := by omega
  clear CB hown2 b2 B2 hR2 Q0 Q1 HR1 HB1
  go_wp2_with fail
  refine (CP.out _ c _ HR2.out).mono ?_
  rintro e w3 ⟨rfl, b3⟩
  have HB3 := Lib.hid (HB2.out.trans (b3.mono HB2.out.size))
  clear CP b3
  go_wp2
  go_ret
  exact ⟨rfl, HB3.out⟩
end Go.Proofs.YtaoklhalkfcpfaaGreatDoor

/- The walk of the document's value: the rune that so many bytes would be. -/
set_option linter.unusedSimpArgs false
set_option linter.unusedVariables false
namespace Go.Proofs.YtaoklhalkfcpfaaGreatDoor
open Go.RowKit

def offs (n i : Nat) : Int := if i = 0 then (if n = 2 then 192 else if n = 3 then 224 else if n = 4 then 240 else 0) else 128
def valG (b : Nat → Int) (n : Nat) : Nat → Int
  | 0 => 0
  | i + 1 => valG b n i * 64 + (b i - offs n i)
theorem offs_bd (n i : Nat) : 0 ≤ offs n i ∧ offs n i ≤ 240 := by unfold offs; repeat' split <;> omega
def vb (i : Nat) : Int := if i = 0 then 0 else if i = 1 then 256 else if i = 2 then 16640 else if i = 3 then 1065216 else 68174080
theorem valG_bd (b : Nat → Int) (n : Nat) (h0 : ∀ k, 0 ≤ b k) (h1 : ∀ k, b k < 256) (i : Nat) (hi : i ≤ 4) : -100000000 ≤ valG b n i ∧ valG b n i ≤ 100000000 := by
  have a0 := h0 0; have a1 := h1 0
  have b0 := h0 1; have b1 := h1 1
  have c0 := h0 2; have c1 := h1 2
  have d0 := h0 3; have d1 := h1 3
  have o0 := offs_bd n 0
  have o1 := offs_bd n 1
  have o2 := offs_bd n 2
  have o3 := offs_bd n 3
  have h : i = 0 ∨ i = 1 ∨ i = 2 ∨ i = 3 ∨ i = 4 := by omega
  rcases h with rfl | rfl | rfl | rfl | rfl <;> simp only [valG] <;> omega

set_option maxHeartbeats 1000000 in
set_option maxRecDepth 100000 in
theorem value_any (s : ByteArray) (a n : Nat) (w : World) (hs : s.size ≤ 100000) (h : a + n ≤ s.size) (h2 : 2 ≤ n) (h4 : n ≤ 4) :
    Calls Tryz.prog 48 #[.string s, .int .i64 a, .int .i64 n] w fun e w' => e = .returned (.int .i64 (valG (fun i => bt s (a + i)) n n)) ∧ w = w' := by
  have VB := valG_bd (fun i => bt s (a + i)) n (fun k => bt_lo s _) (fun k => bt_hi s _)
  have VS : ∀ i, valG (fun i => bt s (a + i)) n (i + 1) = valG (fun i => bt s (a + i)) n i * 64 + (bt s (a + i) - offs n i) := fun i => rfl
  have V0 : valG (fun i => bt s (a + i)) n 0 = 0 := rfl
  generalize valG (fun i => bt s (a + i)) n = f at *
  have HB := Lib.hid VB
  have HS := Lib.hid VS
  have H0 := Lib.hid V0
  clear VB VS V0
  go_enter Tryz.func48, Tryz.ntmps48
  go_wp2_with fail
  go_loop [7, 8] (fun v i => ∃ k : Nat, k ≤ n ∧ i = .int .i64 k ∧ v = .int .i64 (f k)) (fun _ i => n - (intOf i).toNat)
  case atStart => exact ⟨0, Nat.zero_le _, rfl, by rw [H0.out]⟩
  case round =>
    obtain ⟨k, hk, rfl, rfl⟩ := hrel
    by_cases hlt : k < n
    · have vb := HB.out k (by omega)
      have hb := bt_eq s (a + k) (by omega)
      have hby : (s[a + k].toNat : Int) < 256 := by have := s[a + k].toNat_lt; omega
      have hst := HS.out k
      rw [← hb] at hst
      have HST := Lib.hid hst
      clear hb hst
      generalize f k = v at *
      by_cases h0 : k = 0
      · have t0 : ((k : Int) == 0) = true := by simp; omega
        have hk0 : k ≤ 0 := by omega
        have HO := Lib.hid h0
        clear h0
        have hn : n = 2 ∨ n = 3 ∨ n = 4 := by omega
        rcases hn with hn | hn | hn
        · have ho : offs n k = 192 := by rw [HO.out, hn]; rfl
          rw [ho] at HST
          have n2 : ((n : Int) == 2) = true := by simp; omega
          have n3 : ((n : Int) == 3) = false := by simp; omega
          have n4 : ((n : Int) == 4) = false := by simp; omega
          clear ho hn
          go_wp2
          go_round
          case rel => exact ⟨k + 1, by omega, by go_num, by rw [HST.out]⟩
          case measure => simp [intOf]; omega
        · have ho : offs n k = 224 := by rw [HO.out, hn]; rfl
          rw [ho] at HST
          have n2 : ((n : Int) == 2) = false := by simp; omega
          have n3 : ((n : Int) == 3) = true := by simp; omega
          have n4 : ((n : Int) == 4) = false := by simp; omega
          clear ho hn
          go_wp2
          go_round
          case rel => exact ⟨k + 1, by omega, by go_num, by rw [HST.out]⟩
          case measure => simp [intOf]; omega
        · have ho : offs n k = 240 := by rw [HO.out, hn]; rfl
          rw [ho] at HST
          have n2 : ((n : Int) == 2) = false := by simp; omega
          have n3 : ((n : Int) == 3) = false := by simp; omega
          have n4 : ((n : Int) == 4) = true := by simp; omega
          clear ho hn
          go_wp2
          go_round
          case rel => exact ⟨k + 1, by omega, by go_num, by rw [HST.out]⟩
          case measure => simp [intOf]; omega
      · have t0 : ((k : Int) == 0) = false := by simp; omega
        have ho : offs n k = 128 := by unfold offs; rw [if_neg h0]
        rw [ho] at HST
        have hk1 : (0 : Int) < (k : Int) := by omega
        clear h0 ho
        go_wp2
        go_round
        case rel => exact ⟨k + 1, by omega, by go_num, by rw [HST.out]⟩
        case measure => simp [intOf]; omega
    · have : k = n := by omega
      subst this
      go_wp2
      go_ret
      exact ⟨rfl, rfl⟩
theorem value_zero (s : ByteArray) (n : Nat) (w : World) (hs : s.size ≤ 100000) (h : n ≤ s.size) (h2 : 2 ≤ n) (h4 : n ≤ 4) :
    Calls Tryz.prog 48 #[.string s, .int .i64 0, .int .i64 n] w fun e w' => e = .returned (.int .i64 (valG (bt s) n n)) ∧ w = w' := by
  have := value_any s 0 n w hs (by omega) h2 h4
  simp only [Nat.zero_add] at this
  exact this
end Go.Proofs.YtaoklhalkfcpfaaGreatDoor
