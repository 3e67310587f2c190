/-
  The walks of the document's Same and Few of a tag (layer 6), of Right, and of few.
-/
import Derived.Test.YtepmleieekpdiaaScDoc
set_option linter.unusedSimpArgs false
set_option linter.unusedVariables false
namespace Go.Proofs.Ytepmleieekpdiaa
open Go.RowKit


/-- A tag of the call's own, as a value. -/
def SmRel (n : Nat) (l : List (ByteArray × ByteArray)) (A1 A2 : Option Addr) (c1 c2 : Value) (w : World) (i : Value) (wr : World) : Prop :=
  ∃ k : Nat, i = .int .i64 k ∧ k ≤ n ∧ Hid (RdR wr A1 l) ∧ Hid (RdR wr A2 l) ∧ Hid (Below w.heap.size w wr) ∧ wr.cell? ⟨w.heap.size, 1, none⟩ = some c1 ∧ wr.cell? ⟨w.heap.size + 1, 1, none⟩ = some c2
set_option maxHeartbeats 4000000 in
set_option maxRecDepth 100000 in
theorem tsame_any (nm : ByteArray) (l : List (ByteArray × ByteArray)) (n : Nat) (A1 A2 : Option Addr) (k1 k2 : Nat) (w : World) (hn : n = l.length) (hl : n ≤ 10000) (h1 : RdR w A1 l) (h2 : RdR w A2 l) :
    Calls Try.prog 19 #[.agg #[.string nm, .slice A1 n k1], .agg #[.string nm, .slice A2 n k2]] w fun e w' => e = .returned (.bool true) ∧ Below w.heap.size w w' := by
  have B1 := (Below.refl w.heap.size w).alloc (Nat.le_refl _) (.cells #[.string nm, .slice A1 n k1] 25)
  have B2 := B1.alloc (Nat.le_trans (Nat.le_refl _) B1.size) (.cells #[.string nm, .slice A2 n k2] 25)
  have H1 := Lib.hid (h1.keep B2)
  have H2 := Lib.hid (h2.keep B2)
  have HB := Lib.hid B2
  have HN := Lib.hid hn
  have hq : (nm.toList == nm.toList) = true := beq_self_eq_true _
  have hq2 : (nm.toList != nm.toList) = false := bne_self_eq_false _
  clear h1 h2 hn B1 B2
  go_enter Try.func19, Try.ntmps19
  go_wp2_with fail
  go_loopw [5] (fun i wr => SmRel n l A1 A2 (.slice A1 n k1) (.slice A2 n k2) w i wr) (fun i _ => n - (intOf i).toNat)
  case atStart => exact ⟨0, rfl, Nat.zero_le _, H1, H2, HB, by simp, by simp⟩
  case round =>
    clear H1 H2 HB
    obtain ⟨k, rfl, hk, hR1, hR2, hB, g1, g2⟩ := hrel
    by_cases hlt : k < n
    · have hkl : k < l.length := by rw [← HN.out]; exact hlt
      obtain ⟨b1, o1, rfl, hb1, x0, x1⟩ := hR1.out k _ (List.getElem?_eq_getElem hkl)
      obtain ⟨b2, o2, rfl, hb2, y0, y1⟩ := hR2.out k _ (List.getElem?_eq_getElem hkl)
      have d1 : (k : Int) < (n : Int) := by omega
      have d0 : (0 : Int) ≤ (k : Int) := by omega
      generalize l[k] = t at *
      obtain ⟨tn, tv⟩ := t
      dsimp only at x0 x1 y0 y1
      go_wp2_with fail
      go_quiet (fail)
      go_wp2
      go_roundw
      case rel => exact ⟨k + 1, by go_num, by omega, Lib.hid (fun k t h => hR1.out k t h), Lib.hid (fun k t h => hR2.out k t h), Lib.hid (below_drewN hB.out _), g1, g2⟩
      case measure => simp only [intOf]; omega
    · have d1 : ¬ (k : Int) < (n : Int) := by omega
      clear hR1 hR2
      go_wp2_with fail
      go_ret
      exact ⟨rfl, hB.out⟩


def FewP (nm : ByteArray) (l : List (ByteArray × ByteArray)) : Prop := nm.size ≤ 200 ∧ l.length ≤ 60 ∧ ∀ x ∈ l, x.1.size ≤ 200 ∧ x.2.size ≤ 200
def FwPost (P : Prop) (w : World) (e : Ending) (w' : World) : Prop := ∃ b : Bool, e = .returned (.bool b) ∧ (b = true ↔ P) ∧ Below w.heap.size w w'
theorem fw_yes {P : Prop} {w w' : World} (h : P) (hb : Below w.heap.size w w') : FwPost P w (.returned (.bool true)) w' := ⟨true, rfl, ⟨fun _ => h, fun _ => rfl⟩, hb⟩
theorem fw_no {P : Prop} {w w' : World} (h : ¬ P) (hb : Below w.heap.size w w') : FwPost P w (.returned (.bool false)) w' := ⟨false, rfl, ⟨(fun e => by cases e), fun e => absurd e h⟩, hb⟩
def FwRel (n : Nat) (l : List (ByteArray × ByteArray)) (i : Value) : Prop := ∃ k : Nat, i = .int .i64 k ∧ k ≤ n ∧ Hid (∀ j x, j < k → l[j]? = some x → x.1.size ≤ 200 ∧ x.2.size ≤ 200)
set_option maxHeartbeats 4000000 in
set_option maxRecDepth 100000 in
theorem few_any (nm : ByteArray) (l : List (ByteArray × ByteArray)) (n : Nat) (A : Option Addr) (c : Nat) (w : World) (hn : n = l.length) (hm : nm.size ≤ maxLen) (hl : n ≤ maxLen) (hx : ∀ x ∈ l, x.1.size ≤ maxLen ∧ x.2.size ≤ maxLen) (h1 : RdR w A l) :
    Calls Try.prog 20 #[.agg #[.string nm, .slice A n c]] w (FwPost (FewP nm l) w) := by
  unfold maxLen at *
  have B1 := (Below.refl w.heap.size w).alloc (Nat.le_refl _) (.cells #[.string nm, .slice A n c] 25)
  have H1 := Lib.hid (h1.keep B1)
  have HB := Lib.hid B1
  have HN := Lib.hid hn
  have HX := Lib.hid hx
  have hsz : (w.alloc (.cells #[.string nm, .slice A n c] 25)).heap.size = w.heap.size + 1 := by simp
  clear h1 hn B1 hx hsz
  by_cases a1 : 200 < nm.size
  · have HF : Hid (¬ FewP nm l) := Lib.hid (fun h => by have := h.1; omega)
    have i1 : decide ((200 : Int) < (nm.size : Int)) = true := by rw [decide_eq_true_eq]; omega
    have j1 : decide (200 < nm.size) = true := by rw [decide_eq_true_eq]; omega
    clear H1 HX a1
    go_enter Try.func20, Try.ntmps20
    go_wp2
    go_ret
    exact fw_no HF.out HB.out
  have i1 : decide ((200 : Int) < (nm.size : Int)) = false := by rw [decide_eq_false_iff_not]; omega
  have j1 : decide (200 < nm.size) = false := by rw [decide_eq_false_iff_not]; omega
  by_cases a2 : 60 < n
  · have HF : Hid (¬ FewP nm l) := Lib.hid (fun h => by have := h.2.1; have := HN.out; omega)
    have i2 : decide ((60 : Int) < (n : Int)) = true := by rw [decide_eq_true_eq]; omega
    have j2 : decide (60 < n) = true := by rw [decide_eq_true_eq]; omega
    clear H1 HX a1 a2
    go_enter Try.func20, Try.ntmps20
    go_wp2
    go_ret
    exact fw_no HF.out HB.out
  have i2 : decide ((60 : Int) < (n : Int)) = false := by rw [decide_eq_false_iff_not]; omega
  have j2 : decide (60 < n) = false := by rw [decide_eq_false_iff_not]; omega
  have HA : Hid (nm.size ≤ 200 ∧ l.length ≤ 60) := Lib.hid (by have := HN.out; omega)
  clear a1
  go_enter Try.func20, Try.ntmps20
  go_wp2_with fail
  go_loop [3] (fun i => FwRel n l i) (fun i => n - (intOf i).toNat)
  case atStart => exact ⟨0, rfl, Nat.zero_le _, Lib.hid (fun j x hj => absurd hj (Nat.not_lt_zero _))⟩
  case round =>
    obtain ⟨k, rfl, hk, hM⟩ := hrel
    by_cases hlt : k < n
    · have hkl : k < l.length := by rw [← HN.out]; exact hlt
      obtain ⟨b1, o1, rfl, hb1, x0, x1⟩ := H1.out k _ (List.getElem?_eq_getElem hkl)
      have hxx := HX.out l[k] (List.getElem_mem _)
      have HK := Lib.hid (List.getElem?_eq_getElem hkl)
      have d1 : (k : Int) < (n : Int) := by omega
      have d0 : (0 : Int) ≤ (k : Int) := by omega
      generalize l[k] = t at *
      obtain ⟨tn, tv⟩ := t
      dsimp only at x0 x1 hxx
      by_cases q1 : 200 < tn.size
      · have HF : Hid (¬ FewP nm l) := Lib.hid (fun h => by have : tn.size ≤ 200 := (h.2.2 _ (List.mem_of_getElem? HK.out)).1; omega)
        have i3 : decide ((200 : Int) < (tn.size : Int)) = true := by rw [decide_eq_true_eq]; omega
        have j3 : decide (200 < tn.size) = true := by rw [decide_eq_true_eq]; omega
        clear hM
        go_wp2_with fail
        go_ret
        exact fw_no HF.out HB.out
      have i3 : decide ((200 : Int) < (tn.size : Int)) = false := by rw [decide_eq_false_iff_not]; omega
      have j3 : decide (200 < tn.size) = false := by rw [decide_eq_false_iff_not]; omega
      by_cases q2 : 200 < tv.size
      · have HF : Hid (¬ FewP nm l) := Lib.hid (fun h => by have : tv.size ≤ 200 := (h.2.2 _ (List.mem_of_getElem? HK.out)).2; omega)
        have i4 : decide ((200 : Int) < (tv.size : Int)) = true := by rw [decide_eq_true_eq]; omega
        have j4 : decide (200 < tv.size) = true := by rw [decide_eq_true_eq]; omega
        clear hM
        go_wp2_with fail
        go_ret
        exact fw_no HF.out HB.out
      have i4 : decide ((200 : Int) < (tv.size : Int)) = false := by rw [decide_eq_false_iff_not]; omega
      have j4 : decide (200 < tv.size) = false := by rw [decide_eq_false_iff_not]; omega
      have HM2 : Hid (∀ j x, j < k + 1 → l[j]? = some x → x.1.size ≤ 200 ∧ x.2.size ≤ 200) := Lib.hid fun j x hj hx => by
        rcases Nat.lt_or_ge j k with g | g
        · exact hM.out j x g hx
        · obtain rfl : j = k := by omega
          have := HK.out
          rw [hx] at this
          injection this with this
          rw [this]
          exact ⟨by show tn.size ≤ 200; omega, by show tv.size ≤ 200; omega⟩
      clear hM
      go_wp2_with fail
      go_round
      case rel => exact ⟨k + 1, by go_num, by omega, HM2⟩
      case measure => simp only [intOf]; omega
    · have d1 : ¬ (k : Int) < (n : Int) := by omega
      have hke : k = n := by omega
      have HF : Hid (FewP nm l) := Lib.hid ⟨HA.out.1, HA.out.2, fun x hx => by
        obtain ⟨j, hj⟩ := List.getElem?_of_mem hx
        exact hM.out j x (by rw [hke, HN.out]; exact (List.getElem?_eq_some_iff.1 hj).1) hj⟩
      clear hM hke
      go_wp2_with fail
      go_ret
      exact fw_yes HF.out HB.out
theorem few_yes (nm : ByteArray) (l : List (ByteArray × ByteArray)) (n : Nat) (A : Option Addr) (c : Nat) (w : World) (hn : n = l.length) (hm : nm.size ≤ maxLen) (hl : n ≤ maxLen) (hx : ∀ x ∈ l, x.1.size ≤ maxLen ∧ x.2.size ≤ maxLen) (h1 : RdR w A l) (h : FewP nm l) :
    Calls Try.prog 20 #[.agg #[.string nm, .slice A n c]] w fun e w' => e = .returned (.bool true) ∧ Below w.heap.size w w' :=
  (few_any nm l n A c w hn hm hl hx h1).mono fun e w' ⟨b, h2, h3, h4⟩ => ⟨by rw [h2, h3.2 h], h4⟩
theorem few_no (nm : ByteArray) (l : List (ByteArray × ByteArray)) (n : Nat) (A : Option Addr) (c : Nat) (w : World) (hn : n = l.length) (hm : nm.size ≤ maxLen) (hl : n ≤ maxLen) (hx : ∀ x ∈ l, x.1.size ≤ maxLen ∧ x.2.size ≤ maxLen) (h1 : RdR w A l) (h : ¬ FewP nm l) :
    Calls Try.prog 20 #[.agg #[.string nm, .slice A n c]] w fun e w' => e = .returned (.bool false) ∧ Below w.heap.size w w' :=
  (few_any nm l n A c w hn hm hl hx h1).mono fun e w' ⟨b, h2, h3, h4⟩ => ⟨by
    have : b = false := by
      cases hb : b
      · rfl
      · exact absurd (h3.1 hb) h
    rw [h2, this], h4⟩

def rightB (nm : ByteArray) (l : List P2) : Bool := (splitA nm).2.2 && l.all (fun x => (splitA x.1).2.2)
theorem right_step (nm : ByteArray) (l : List P2) (k : Nat) (x : P2) (h : l[k]? = some x) : rightB nm (l.take (k + 1)) = (rightB nm (l.take k) && (splitA x.1).2.2) := by
  unfold rightB
  rw [take_snoc l k x h, List.all_append, List.all_cons, List.all_nil, Bool.and_true, Bool.and_assoc]
def RiRel (nm : ByteArray) (l : List P2) (n : Nat) (c : Value) (w : World) (ok i : Value) (wr : World) : Prop :=
  ∃ (k : Nat) (b : Bool), i = .int .i64 k ∧ k ≤ n ∧ ok = .bool b ∧ Hid (b = rightB nm (l.take k)) ∧ Hid (Below w.heap.size w wr) ∧ wr.cell? ⟨w.heap.size, 1, none⟩ = some c ∧ w.heap.size < wr.heap.size
set_option maxHeartbeats 4000000 in
set_option maxRecDepth 100000 in
theorem right_any (nm : ByteArray) (l : List P2) (n : Nat) (A : Option Addr) (c : Nat) (w : World) (hn : n = l.length) (hn1 : n ≤ 1000) (hm : nm.size ≤ 1000) (hx : ∀ x ∈ l, x.1.size ≤ 1000) (h1 : RdR w A l) :
    Calls Try.prog 21 #[.agg #[.string nm, .slice A n c]] w fun e w' => e = .returned (.bool (rightB nm l)) ∧ Below w.heap.size w w' := by
  have B1 := (Below.refl w.heap.size w).alloc (Nat.le_refl _) (.cells #[.string nm, .slice A n c] 25)
  have HB := Lib.hid B1
  have HN := Lib.hid hn
  have HX := Lib.hid hx
  have HR := Lib.hid h1
  have CS := Lib.hid (rsp_any nm hm)
  obtain ⟨p0, l0, ok0, hsp⟩ : ∃ p l ok, splitA nm = (p, l, ok) := ⟨_, _, _, rfl⟩
  have H0 : Hid (ok0 = rightB nm (l.take 0)) := Lib.hid (by unfold rightB; rw [hsp]; simp)
  rw [hsp] at CS
  dsimp only at CS
  clear h1 hn B1 hx hm hsp
  go_enter Try.func21, Try.ntmps21
  go_wp2_with (go_at_call 29; refine (CS.out _).mono ?_; rintro e w1 ⟨rfl, hb⟩)
  have g1 : w1.cell? ⟨w.heap.size, 1, none⟩ = some (.slice A n c) := (hb.cell (p := ⟨w.heap.size, 1, none⟩) (by simp)).trans (by simp)
  have g2 : w.heap.size < w1.heap.size := Nat.lt_of_lt_of_le (by simp) hb.size
  have HB1 := Lib.hid (HB.out.trans (hb.mono (by simp)))
  clear hb CS HB
  go_loopw [5, 6] (fun ok i wr => RiRel nm l n (.slice A n c) w ok i wr) (fun _ i _ => n - (intOf i).toNat)
  case atStart => exact ⟨0, ok0, rfl, Nat.zero_le _, rfl, H0, HB1, g1, g2⟩
  case round =>
    clear HB1 g1 g2 H0
    obtain ⟨k, b, rfl, hk, rfl, HI, hB, g1, g2⟩ := hrel
    by_cases hlt : k < n
    · have hkl : k < l.length := by rw [← HN.out]; exact hlt
      have hxk := List.getElem?_eq_getElem hkl
      obtain ⟨b1, o1, rfl, hb1, x0, x1⟩ := (HR.out.keep hB.out) k _ hxk
      have hs := HX.out _ (List.getElem_mem hkl)
      have HS := Lib.hid (right_step nm l k _ hxk)
      have d1 : (k : Int) < (n : Int) := by omega
      have d0 : (0 : Int) ≤ (k : Int) := by omega
      clear hxk
      generalize l[k] = t at *
      obtain ⟨tn, tv⟩ := t
      dsimp only at x0 x1 hs HS
      have CS := Lib.hid (rsp_any tn hs)
      obtain ⟨p1, l1, ok1, hsp⟩ : ∃ p l ok, splitA tn = (p, l, ok) := ⟨_, _, _, rfl⟩
      rw [hsp] at CS HS
      dsimp only at CS HS
      clear hs hsp
      cases b
      · have HE : Hid (false = rightB nm (l.take (k + 1))) := Lib.hid (by rw [HS.out, ← HI.out]; rfl)
        go_wp2_with (go_at_call 29; refine (CS.out _).mono ?_; rintro e w1 ⟨rfl, hb⟩)
        go_roundw
        case rel => exact ⟨k + 1, false, by go_num, by omega, rfl, HE, Lib.hid (hB.out.trans (hb.mono hB.out.size)), (hb.cell (p := ⟨w.heap.size, 1, none⟩) g2).trans g1, Nat.lt_of_lt_of_le g2 hb.size⟩
        case measure => simp only [intOf]; omega
      · have HE : Hid (ok1 = rightB nm (l.take (k + 1))) := Lib.hid (by rw [HS.out, ← HI.out]; rfl)
        go_wp2_with (go_at_call 29; refine (CS.out _).mono ?_; rintro e w1 ⟨rfl, hb⟩)
        go_roundw
        case rel => exact ⟨k + 1, ok1, by go_num, by omega, rfl, HE, Lib.hid (hB.out.trans (hb.mono hB.out.size)), (hb.cell (p := ⟨w.heap.size, 1, none⟩) g2).trans g1, Nat.lt_of_lt_of_le g2 hb.size⟩
        case measure => simp only [intOf]; omega
    · have d1 : ¬ (k : Int) < (n : Int) := by omega
      have HE : Hid (b = rightB nm l) := Lib.hid (by rw [HI.out, List.take_of_length_le (by rw [← HN.out]; omega)])
      go_wp2_with fail
      go_ret
      rw [← HE.out]
      exact ⟨rfl, hB.out⟩
def SmlP (N : Nat) (nm : ByteArray) (l : List P2) : Prop := N ≤ 60 ∧ FewP nm l ∧ rightB nm l = true
set_option maxHeartbeats 4000000 in
set_option maxRecDepth 100000 in
theorem sml_any (A0 : Option Addr) (N cap : Nat) (nm : ByteArray) (l : List P2) (n : Nat) (A : Option Addr) (c : Nat) (w : World) (hN : N ≤ maxLen) (hn : n = l.length) (hm : nm.size ≤ maxLen) (hl : n ≤ maxLen) (hx : ∀ x ∈ l, x.1.size ≤ maxLen ∧ x.2.size ≤ maxLen) (h1 : RdR w A l) :
    Calls Try.prog 9 #[.slice A0 N cap, .agg #[.string nm, .slice A n c]] w (FwPost (SmlP N nm l) w) := by
  have HB := Lib.hid ((Below.refl w.heap.size w).alloc (Nat.le_refl _) (.cells #[.string nm, .slice A n c] 25))
  unfold maxLen at hN
  by_cases hN6 : N ≤ 60
  · have i1 : decide ((N : Int) ≤ 60) = true := by rw [decide_eq_true_eq]; omega
    have j1 : decide (N ≤ 60) = true := by rw [decide_eq_true_eq]; omega
    by_cases hf : FewP nm l
    · have CF := Lib.hid (fun W (hW : Below w.heap.size w W) => few_yes nm l n A c W hn hm hl hx (h1.keep hW) hf)
      have CR := Lib.hid (fun W (hW : Below w.heap.size w W) => right_any nm l n A c W hn (by have := hf.2.1; omega) (by have := hf.1; omega) (fun x hx => by have := (hf.2.2 x hx).1; omega) (h1.keep hW))
      have HP : Hid (∀ b, rightB nm l = b → (b = true ↔ SmlP N nm l)) := Lib.hid (fun b hb => ⟨fun e => ⟨hN6, hf, hb.trans e⟩, fun e => hb.symm.trans e.2.2⟩)
      generalize hr : rightB nm l = b at *
      have HP2 := Lib.hid (HP.out b rfl)
      clear HP hr hf hx hl hm hn h1 hN hN6
      go_enter Try.func9, Try.ntmps9
      go_wp2_with fail
      refine (CF.out _ HB.out).mono ?_
      rintro e w1 ⟨rfl, hb⟩
      have g0 : w1.cell? ⟨w.heap.size, 0, none⟩ = some (.string nm) := (hb.cell (p := ⟨w.heap.size, 0, none⟩) (by simp)).trans (by simp)
      have g1 : w1.cell? ⟨w.heap.size, 1, none⟩ = some (.slice A n c) := (hb.cell (p := ⟨w.heap.size, 1, none⟩) (by simp)).trans (by simp)
      have HB1 := Lib.hid (HB.out.trans (hb.mono (by simp)))
      clear hb CF HB
      go_wp2_with fail
      refine (CR.out _ HB1.out).mono ?_
      rintro e w2 ⟨rfl, hb⟩
      clear CR
      go_wp2_with fail
      go_ret
      exact ⟨b, rfl, HP2.out, HB1.out.trans (hb.mono HB1.out.size)⟩
    · have CF := Lib.hid (fun W (hW : Below w.heap.size w W) => few_no nm l n A c W hn hm hl hx (h1.keep hW) hf)
      have HP : Hid (¬ SmlP N nm l) := Lib.hid (fun e => hf e.2.1)
      clear hf hx hl hm hn h1 hN hN6
      go_enter Try.func9, Try.ntmps9
      go_wp2_with fail
      refine (CF.out _ HB.out).mono ?_
      rintro e w1 ⟨rfl, hb⟩
      have HB1 := Lib.hid (HB.out.trans (hb.mono (by simp)))
      clear hb CF HB
      go_wp2_with fail
      go_ret
      exact fw_no HP.out HB1.out
  · have i1 : decide ((N : Int) ≤ 60) = false := by rw [decide_eq_false_iff_not]; omega
    have j1 : decide (N ≤ 60) = false := by rw [decide_eq_false_iff_not]; omega
    have HP : Hid (¬ SmlP N nm l) := Lib.hid (fun e => hN6 e.1)
    clear hx hl hm hn h1 hN hN6
    go_enter Try.func9, Try.ntmps9
    go_wp2_with fail
    go_ret
    exact fw_no HP.out HB.out
end Go.Proofs.Ytepmleieekpdiaa
