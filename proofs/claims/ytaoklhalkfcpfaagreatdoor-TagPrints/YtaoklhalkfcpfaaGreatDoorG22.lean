/-
  Merged by program out of the texts TgRight, TgNMath, TgLaws, TgRPrint, TgOpen of one seat.
-/
import Derived.Test.YtaoklhalkfcpfaaGreatDoorG13
import Derived.Test.YtaoklhalkfcpfaaGreatDoorG16
import Derived.Test.YtaoklhalkfcpfaaGreatDoorG21
import Derived.Lib.SmallJoins
import Derived.Deep.SlicePairs
import Derived.Carry
import Derived.ProofKit

/- The walk of the document's Right of a tag. -/
set_option linter.unusedSimpArgs false
set_option linter.unusedVariables false
namespace Go.Proofs.YtaoklhalkfcpfaaGreatDoor
open Go.RowKit

/-- An attribute that may be, behind those ahead of it; a tag that may be. -/
def Rg1 (l : List (ByteArray × ByteArray)) (k : Nat) (x : ByteArray × ByteArray) : Prop := isN x.1 = true ∧ Rt (byts x.2) ∧ ∀ j y, j < k → l[j]? = some y → byts y.1 ≠ byts x.1
def RgP (nm : ByteArray) (l : List (ByteArray × ByteArray)) : Prop := isN nm = true ∧ l.length ≤ 32 ∧ ∀ k x, l[k]? = some x → Rg1 l k x
def RgRel (n : Nat) (l : List (ByteArray × ByteArray)) (A : Option Addr) (c : Nat) (w : World) (i : Value) (wr : World) : Prop :=
  ∃ k : Nat, i = .int .i64 k ∧ k ≤ n ∧ Hid (RdR wr A l) ∧ Hid (Below w.heap.size w wr) ∧ w.heap.size < wr.heap.size ∧ wr.cell? ⟨w.heap.size, 1, none⟩ = some (.slice A n c) ∧ Hid (∀ j x, j < k → l[j]? = some x → Rg1 l j x)
def RgRel2 (k n : Nat) (l : List (ByteArray × ByteArray)) (tn : ByteArray) (A : Option Addr) (c : Nat) (w : World) (i : Value) (wr : World) : Prop :=
  ∃ j : Nat, i = .int .i64 j ∧ j ≤ k ∧ Hid (RdR wr A l) ∧ Hid (Below w.heap.size w wr) ∧ w.heap.size < wr.heap.size ∧ wr.cell? ⟨w.heap.size, 1, none⟩ = some (.slice A n c) ∧ Hid (∀ i y, i < j → l[i]? = some y → byts y.1 ≠ byts tn)
set_option maxHeartbeats 3000000 in
set_option maxRecDepth 100000 in
theorem rgt_any (nm : ByteArray) (l : List (ByteArray × ByteArray)) (n c : Nat) (A : Option Addr) (w : World) (hn : n = l.length) (hl : n ≤ 10000) (hnm : nm.size ≤ 1000) (hf : Fit l) (hR : RdR w A l) :
    Calls Tryz.prog 15 #[.agg #[.string nm, .slice A n c]] w (FwPost (RgP nm l) w) := by
  have HN := Lib.hid hn
  have HF := Lib.hid hf
  have B1 := (Below.refl w.heap.size w).alloc (Nat.le_refl _) (.cells #[.string nm, .slice A n c] 25)
  have HR := Lib.hid (hR.keep B1)
  have HB := Lib.hid B1
  clear hn hf hR B1
  cases hi : isN nm
  · have HX : Hid (¬ RgP nm l) := Lib.hid (fun h => by have := h.1; rw [hi] at this; cases this)
    have CS := Lib.hid (split3 nm hnm false hi)
    clear hi HR
    go_enter Tryz.func15, Tryz.ntmps15
    go_wp2_with fail
    refine (CS.out _).mono ?_
    rintro e w1 ⟨⟨y1, y2, rfl⟩, b1⟩
    have HB1 := Lib.hid (HB.out.trans (b1.mono HB.out.size))
    clear b1 CS
    go_wp2
    go_ret
    exact fw_no HX.out HB1.out
  have CS := Lib.hid (split3 nm hnm true hi)
  by_cases h32 : 32 < n
  · have HX : Hid (¬ RgP nm l) := Lib.hid (fun h => by have := h.2.1; have := HN.out; omega)
    have i2 : decide ((32 : Int) < (n : Int)) = true := by rw [decide_eq_true_eq]; omega
    have j2 : decide (32 < n) = true := by rw [decide_eq_true_eq]; omega
    have hg : (w.alloc (.cells #[.string nm, .slice A n c] 25)).cell? ⟨w.heap.size, 1, none⟩ = some (.slice A n c) := Blk0 w 25 _ 1
    clear hi HR
    go_enter Tryz.func15, Tryz.ntmps15
    go_wp2_with fail
    refine (CS.out _).mono ?_
    rintro e w1 ⟨⟨y1, y2, rfl⟩, b1⟩
    have HB1 := Lib.hid (HB.out.trans (b1.mono HB.out.size))
    have g1 := cell_keep hg (by simp) b1
    clear b1 CS hg
    go_wp2
    go_ret
    exact fw_no HX.out HB1.out
  have i2 : decide ((32 : Int) < (n : Int)) = false := by rw [decide_eq_false_iff_not]; omega
  have j2 : decide (32 < n) = false := by rw [decide_eq_false_iff_not]; omega
  have HA : Hid (isN nm = true ∧ l.length ≤ 32) := Lib.hid ⟨hi, by have := HN.out; omega⟩
  have hg : (w.alloc (.cells #[.string nm, .slice A n c] 25)).cell? ⟨w.heap.size, 1, none⟩ = some (.slice A n c) := Blk0 w 25 _ 1
  clear hi
  go_enter Tryz.func15, Tryz.ntmps15
  go_wp2_with fail
  refine (CS.out _).mono ?_
  rintro e w1 ⟨⟨y1, y2, rfl⟩, b1⟩
  have HB1 := Lib.hid (HB.out.trans (b1.mono HB.out.size))
  have g1 := cell_keep hg (by simp) b1
  have HR1 := Lib.hid (HR.out.keep b1)
  have hz1 : w.heap.size < w1.heap.size := Nat.lt_of_lt_of_le (by simp) b1.size
  clear b1 CS hg HR HB
  go_wp2_with fail
  go_loopw [6] (fun i wr => RgRel n l A c w i wr) (fun i _ => n - (intOf i).toNat)
  case atStart => exact ⟨0, rfl, Nat.zero_le _, HR1, HB1, hz1, g1, Lib.hid (fun j x hj => absurd hj (Nat.not_lt_zero _))⟩
  case round =>
    clear HR1 HB1 hz1 g1
    obtain ⟨k, rfl, hk, hR, hB, hz, g1, hM⟩ := hrel
    by_cases hlt : k < n
    · have hkl : k < l.length := by rw [← HN.out]; exact hlt
      obtain ⟨b1, o1, rfl, hb1, x0, x1⟩ := hR.out k _ (List.getElem?_eq_getElem hkl)
      have HK := Lib.hid (List.getElem?_eq_getElem hkl)
      have hfit := HF.out l[k] (List.getElem_mem _)
      have d1 : (k : Int) < (n : Int) := by omega
      have d0 : (0 : Int) ≤ (k : Int) := by omega
      generalize l[k] = t at *
      obtain ⟨tn, tv⟩ := t
      dsimp only at x0 x1 hfit
      cases ht : isN tn
      · have HX : Hid (¬ RgP nm l) := Lib.hid (fun h => by have := (h.2.2 k _ HK.out).1; dsimp only at this; rw [ht] at this; cases this)
        have CS := Lib.hid (split3 tn hfit.1 false ht)
        clear ht hM
        go_wp2_with fail
        refine (CS.out _).mono ?_
        rintro e w2 ⟨⟨y3, y4, rfl⟩, b2⟩
        have HB2 := Lib.hid (hB.out.trans (b2.mono hB.out.size))
        clear b2 CS
        go_wp2
        go_ret
        exact fw_no HX.out HB2.out
      have CS := Lib.hid (split3 tn hfit.1 true ht)
      by_cases hv : Rt (byts tv)
      · have CV := Lib.hid (right_yes tv hfit.2 hv)
        have HT : Hid (isN tn = true ∧ Rt (byts tv)) := Lib.hid ⟨ht, hv⟩
        clear ht hv
        go_wp2_with fail
        refine (CS.out _).mono ?_
        rintro e w2 ⟨⟨y3, y4, rfl⟩, b2⟩
        have HB2 := Lib.hid (hB.out.trans (b2.mono hB.out.size))
        have HR2 := Lib.hid (hR.out.keep b2)
        have g2 := cell_keep g1 hz b2
        have v2 := cell_keep x1 hb1 b2
        have hz2 : w.heap.size < w2.heap.size := Nat.lt_of_lt_of_le hz b2.size
        have hb2 : b1 < w2.heap.size := Nat.lt_of_lt_of_le hb1 b2.size
        clear b2 CS
        go_wp2_with fail
        refine (CV.out _).mono ?_
        rintro e w3 ⟨rfl, b3⟩
        have HB3 := Lib.hid (HB2.out.trans (b3.mono HB2.out.size))
        have HR3 := Lib.hid (HR2.out.keep b3)
        have g3 := cell_keep g2 hz2 b3
        have hz3 : w.heap.size < w3.heap.size := Nat.lt_of_lt_of_le hz2 b3.size
        clear b3 CV HB2 HR2 g2 v2 hb2 hz2
        go_wp2_with fail
        go_loopw [10] (fun i wr => RgRel2 k n l tn (some ⟨b1, o1, none⟩) c w i wr) (fun i _ => k - (intOf i).toNat)
        case atStart => exact ⟨0, rfl, Nat.zero_le _, HR3, HB3, hz3, g3, Lib.hid (fun j x hj => absurd hj (Nat.not_lt_zero _))⟩
        case round =>
          clear HR3 HB3 hz3 g3 hR hB g1 hz x0 x1 hb1
          obtain ⟨j, rfl, hj, hR, hB, hz, g1, hM2⟩ := hrel
          by_cases hjk : j < k
          · have hjl : j < l.length := by rw [← HN.out]; omega
            obtain ⟨b4, o4, e4, hb4, y0, y1⟩ := hR.out j _ (List.getElem?_eq_getElem hjl)
            obtain ⟨b5, o5, e5, hb5, z0, z1⟩ := hR.out k _ HK.out
            have HJ := Lib.hid (List.getElem?_eq_getElem hjl)
            have d2 : (j : Int) < (k : Int) := by omega
            have d3 : (j : Int) < (n : Int) := by omega
            have d4 : (0 : Int) ≤ (j : Int) := by omega
            generalize l[j] = tt at *
            obtain ⟨sn, sv⟩ := tt
            injection e4 with e4
            injection e4 with e4 e4'
            injection e5 with e5
            injection e5 with e5 e5'
            subst e4 e4' e5 e5'
            dsimp only at y0 y1 z0 z1
            by_cases heq : byts sn = byts tn
            · have HX : Hid (¬ RgP nm l) := Lib.hid (fun h => (h.2.2 k _ HK.out).2.2 j _ hjk HJ.out heq)
              have tq : (sn.toList == tn.toList) = true := (eqS sn tn).trans (decide_eq_true heq)
              clear heq hM hM2
              go_wp2_with fail
              go_quiet (fail)
              go_wp2
              go_ret
              exact fw_no HX.out (below_drewN hB.out _)
            · have HM3 : Hid (∀ i y, i < j + 1 → l[i]? = some y → byts y.1 ≠ byts tn) := Lib.hid fun i y hi hy => by
                rcases Nat.lt_or_ge i j with g | g
                · exact hM2.out i y g hy
                · obtain rfl : i = j := by omega
                  have := HJ.out
                  rw [hy] at this
                  injection this with this
                  rw [this]
                  exact heq
              have tq : (sn.toList == tn.toList) = false := (eqS sn tn).trans (decide_eq_false heq)
              clear heq hM2
              go_wp2_with fail
              go_quiet (fail)
              go_wp2
              go_roundw
              case rel => exact ⟨j + 1, by go_num, by omega, Lib.hid (fun k t h => hR.out k t h), Lib.hid (below_drewN hB.out _), hz, g1, HM3⟩
              case measure => simp only [intOf]; omega
          · have d2 : ¬ (j : Int) < (k : Int) := by omega
            have hjk' : j = k := by omega
            have HM3 : Hid (∀ j x, j < k + 1 → l[j]? = some x → Rg1 l j x) := Lib.hid fun i x hi hx => by
              rcases Nat.lt_or_ge i k with g | g
              · exact hM.out i x g hx
              · obtain rfl : i = k := by omega
                have := HK.out
                rw [hx] at this
                injection this with this
                rw [this]
                exact ⟨HT.out.1, HT.out.2, fun i' y hi' hy => hM2.out i' y (by omega) hy⟩
            clear hM hM2 hjk'
            go_wp2_with fail
            go_roundw
            case rel => exact ⟨k + 1, by go_num, by omega, hR, hB, hz, g1, HM3⟩
            case measure => simp only [intOf]; omega
      · have CV := Lib.hid (right_no tv hfit.2 hv)
        have HX : Hid (¬ RgP nm l) := Lib.hid (fun h => hv (h.2.2 k _ HK.out).2.1)
        clear ht hv hM
        go_wp2_with fail
        refine (CS.out _).mono ?_
        rintro e w2 ⟨⟨y3, y4, rfl⟩, b2⟩
        have HB2 := Lib.hid (hB.out.trans (b2.mono hB.out.size))
        have g2 := cell_keep g1 hz b2
        have v2 := cell_keep x1 hb1 b2
        clear b2 CS
        go_wp2_with fail
        refine (CV.out _).mono ?_
        rintro e w3 ⟨rfl, b3⟩
        have HB3 := Lib.hid (HB2.out.trans (b3.mono HB2.out.size))
        clear b3 CV HB2
        go_wp2
        go_ret
        exact fw_no HX.out HB3.out
    · have d1 : ¬ (k : Int) < (n : Int) := by omega
      have hke : k = n := by omega
      have HX : Hid (RgP nm l) := Lib.hid ⟨HA.out.1, HA.out.2, fun j x hx => hM.out j x (by rw [hke, HN.out]; exact (List.getElem?_eq_some_iff.1 hx).1) hx⟩
      clear hM hke hR
      go_wp2_with fail
      go_ret
      exact fw_yes HX.out hB.out
theorem rgt_yes (nm : ByteArray) (l : List (ByteArray × ByteArray)) (n c : Nat) (A : Option Addr) (w : World) (hn : n = l.length) (hl : n ≤ 10000) (hnm : nm.size ≤ 1000) (hf : Fit l) (hR : RdR w A l) (h : RgP nm l) :
    Calls Tryz.prog 15 #[.agg #[.string nm, .slice A n c]] w fun e w' => e = .returned (.bool true) ∧ Below w.heap.size w w' :=
  (rgt_any nm l n c A w hn hl hnm hf hR).mono fun e w' ⟨b, h2, h3, h4⟩ => ⟨by rw [h2, h3.2 h], h4⟩
theorem rgt_no (nm : ByteArray) (l : List (ByteArray × ByteArray)) (n c : Nat) (A : Option Addr) (w : World) (hn : n = l.length) (hl : n ≤ 10000) (hnm : nm.size ≤ 1000) (hf : Fit l) (hR : RdR w A l) (h : ¬ RgP nm l) :
    Calls Tryz.prog 15 #[.agg #[.string nm, .slice A n c]] w fun e w' => e = .returned (.bool false) ∧ Below w.heap.size w w' :=
  (rgt_any nm l n c A w hn hl hnm hf hR).mono fun e w' ⟨b, h2, h3, h4⟩ => ⟨by
    have : b = false := by
      cases hb : b
      · rfl
      · exact absurd (h3.1 hb) h
    rw [h2, this], h4⟩
end Go.Proofs.YtaoklhalkfcpfaaGreatDoor

/- Plain mathematics: a tag that is read may be. -/
set_option linter.unusedSimpArgs false
set_option linter.unusedVariables false
namespace Go.Proofs.YtaoklhalkfcpfaaGreatDoor
open Go.RowKit

theorem enc_low (r : Int) (h0 : 0 ≤ r) (h : r < 128) : encB r = [r] := by unfold encB; rw [if_pos h]
theorem step_chr (v : Bool) (l : List Int) (hl : l ≠ []) (hn : NN l) (h : (stepF v l).1 = 0) : ∃ r, (stepF v l).2.1 = encB r ∧ Chr r ∧ (encB r).length ≤ 2 * (stepF v l).2.2 := by
  unfold stepF at h ⊢
  by_cases c1 : l.getD 0 0 = 38
  · rw [if_pos c1] at h ⊢
    by_cases c2 : 59 ∈ l.tail ∧ 0 ≤ refV (bodyOf l.tail)
    · rw [if_pos c2]
      refine ⟨_, rfl, refV_chr _ c2.2, ?_⟩
      have := (encB_len (refV (bodyOf l.tail))).2
      show _ ≤ 2 * ((bodyOf l.tail).length + 2)
      omega
    · rw [if_neg c2] at h
      exact absurd h (by decide)
  rw [if_neg c1] at h ⊢
  by_cases c2 : l.getD 0 0 = 13
  · rw [if_pos c2]
    refine ⟨blk v 10, ?_, ?_, ?_⟩
    · cases v <;> rfl
    · cases v <;> decide
    · have : (encB (blk v 10)).length = 1 := by cases v <;> rfl
      show _ ≤ 2 * (if l.getD 1 0 = 10 then 2 else 1)
      split <;> omega
  rw [if_neg c2] at h ⊢
  by_cases c3 : l.getD 0 0 = 9 ∨ l.getD 0 0 = 10
  · rw [if_pos c3]
    refine ⟨blk v (l.getD 0 0), ?_, ?_, ?_⟩
    · rcases c3 with c | c <;> rw [c] <;> cases v <;> rfl
    · rcases c3 with c | c <;> rw [c] <;> cases v <;> decide
    · have : (encB (blk v (l.getD 0 0))).length = 1 := by rcases c3 with c | c <;> rw [c] <;> cases v <;> rfl
      show _ ≤ 2 * 1
      omega
  rw [if_neg c3] at h ⊢
  by_cases c4 : (dec1 l).2.2 ≠ 0
  · rw [if_pos c4] at h
    exact absurd h c4
  rw [if_neg c4] at h ⊢
  by_cases c5 : Chr (dec1 l).1
  · rw [if_pos c5]
    have hi := dec_inv l hl (fun k => hn.getD k) (Decidable.not_not.1 c4)
    refine ⟨_, rfl, c5, ?_⟩
    have h2 := hi.2.1
    show _ ≤ 2 * (dec1 l).2.1.toNat
    omega
  · rw [if_neg c5] at h
    exact absurd h (by decide)
theorem read_rt (v : Bool) : ∀ (n : Nat) (L : List Int), L.length ≤ n → NN L → (readF v L).2.2 = 0 → Rt (readF v L).1 ∧ NN (readF v L).1 ∧ (∀ x ∈ (readF v L).1, x ≤ 255) ∧ (readF v L).1.length ≤ 2 * L.length
  | n, L, h, hn, h0 => by
    by_cases hl : L = []
    · subst hl
      rw [readF_nil]
      exact ⟨⟨rfl, fun r hr => by simp [decF_nil] at hr⟩, fun x hx => by simp at hx, fun x hx => by simp at hx, by simp⟩
    match n with
    | 0 => exact absurd (List.eq_nil_of_length_eq_zero (by omega)) hl
    | n + 1 =>
      by_cases he : (stepF v L).1 = 0
      · have hb := step_bd v L hl hn he
        obtain ⟨r, e1, e2, e3⟩ := step_chr v L hl hn he
        rw [readF_ok v L hl hn he] at h0 ⊢
        obtain ⟨i1, i2, i3, i4⟩ := read_rt v n (L.drop (stepF v L).2.2) (by rw [List.length_drop]; omega) (hn.drop _) h0
        rw [List.length_drop] at i4
        dsimp only
        rw [e1]
        have hg := chr_good e2
        have hq := encB_nn r hg
        refine ⟨?_, ?_, ?_, ?_⟩
        · unfold Rt at i1 ⊢
          rw [decF_enc r _ hg i2]
          refine ⟨i1.1, fun x hx => ?_⟩
          rcases List.mem_cons.1 hx with hx | hx
          · rw [hx]; exact e2
          · exact i1.2 x hx
        · intro x hx
          rcases List.mem_append.1 hx with hx | hx
          · exact hq.1 x hx
          · exact i2 x hx
        · intro x hx
          rcases List.mem_append.1 hx with hx | hx
          · exact hq.2 x hx
          · exact i3 x hx
        · rw [List.length_append]
          omega
      · rw [readF_err v L hl he] at h0
        exact absurd h0 he
theorem ans_rt (a : ByteArray) (h : (ansF true (byts a)).2.2 = 0) : Rt (byts (strOfNums (ansF true (byts a)).1)) ∧ (strOfNums (ansF true (byts a)).1).size ≤ 2 * a.size := by
  have h0 : (readF true (byts a)).2.2 = 0 := by
    unfold ansF at h
    split at h
    · assumption
    · exact h
  have hz : (ansF true (byts a)).1 = (readF true (byts a)).1 := by unfold ansF; rw [if_pos h0]
  obtain ⟨i1, i2, i3, i4⟩ := read_rt true _ (byts a) (Nat.le_refl _) (byts_nn a) h0
  rw [hz]
  have e := byts_str _ i2 i3
  refine ⟨by rw [e]; exact i1, ?_⟩
  rw [← byts_len, e, ← byts_len a]
  exact i4
/-- What is known of an attribute that is read. -/
def PrI (m : Nat) (x : Int × ByteArray × ByteArray × ByteArray) : Prop := x.1 = 0 → isN x.2.1 = true ∧ Rt (byts x.2.2.1) ∧ x.2.1.size ≤ m ∧ x.2.2.1.size ≤ 2 * m
theorem quo_I (q : UInt8) (nm u : ByteArray) (m : Nat) (hn : isN nm = true) (h1 : nm.size ≤ m) (h2 : u.size ≤ m) : PrI m (quoF q nm u) := by
  unfold quoF
  split
  · intro h; exact absurd h (by decide)
  split
  · rename_i h; intro h'; exact absurd h' h
  · rename_i h
    intro _
    have := ans_rt (u.extract 0 (qi q u).toNat) (Decidable.not_not.1 h)
    have hz : (u.extract 0 (qi q u).toNat).size ≤ u.size := by
      rw [← byts_len, byts_to, List.length_take, byts_len]
      omega
    exact ⟨hn, this.1, h1, Nat.le_trans this.2 (by omega)⟩
theorem pair_I (u : ByteArray) : PrI u.size (pairF u) := by
  unfold pairF
  have z0 := sx_le u
  have z1 := Nz.fr_size u (Nz.sn u 0)
  have z2 := sk_size (Nz.fr u (Nz.sn u 0))
  have z3 := Nz.fr_size (sk (Nz.fr u (Nz.sn u 0))) 1
  have z4 := sk_size (Nz.fr (sk (Nz.fr u (Nz.sn u 0))) 1)
  have z5 := Nz.fr_size (sk (Nz.fr (sk (Nz.fr u (Nz.sn u 0))) 1)) 1
  by_cases c1 : isN (Nz.sx u 0) = false
  · rw [if_pos c1]; intro h; exact absurd h (by decide)
  rw [if_neg c1]
  have c1' : isN (Nz.sx u 0) = true := by simpa using c1
  by_cases c2 : hd (sk (Nz.fr u (Nz.sn u 0))) ≠ 61
  · rw [if_pos c2]; intro h; exact absurd h (by decide)
  rw [if_neg c2]
  by_cases c3 : hd (sk (Nz.fr (sk (Nz.fr u (Nz.sn u 0))) 1)) = 34
  · rw [if_pos c3]
    exact quo_I _ _ _ _ c1' z0 (by omega)
  rw [if_neg c3]
  by_cases c4 : hd (sk (Nz.fr (sk (Nz.fr u (Nz.sn u 0))) 1)) = 39
  · rw [if_pos c4]
    exact quo_I _ _ _ _ c1' z0 (by omega)
  rw [if_neg c4]
  intro h; exact absurd h (by decide)
/-- What is known of the attributes read so far. -/
def LsI (m : Nat) (l : List (ByteArray × ByteArray)) : Prop := l.length ≤ 32 ∧ (∀ k x, l[k]? = some x → Rg1 l k x) ∧ ∀ x ∈ l, x.1.size ≤ m ∧ x.2.size ≤ 2 * m
theorem ls_put {m : Nat} {l : List (ByteArray × ByteArray)} {x : ByteArray × ByteArray} (h : LsI m l) (hl : ¬ 32 ≤ l.length) (hn : isN x.1 = true) (hr : Rt (byts x.2)) (hh : hasN x.1 l = false) (h1 : x.1.size ≤ m) (h2 : x.2.size ≤ 2 * m) : LsI m (l ++ [x]) := by
  refine ⟨by rw [List.length_append, List.length_singleton]; omega, fun k y hy => ?_, fun y hy => ?_⟩
  · have hk : k < l.length + 1 := by
      have := (List.getElem?_eq_some_iff.1 hy).1
      rw [List.length_append, List.length_singleton] at this
      exact this
    have key : ∀ j z, j < l.length → (l ++ [x])[j]? = some z → l[j]? = some z := fun j z hj hz => by rw [List.getElem?_append_left hj] at hz; exact hz
    rcases Nat.lt_or_ge k l.length with g | g
    · have := h.2.1 k y (key k y g hy)
      exact ⟨this.1, this.2.1, fun j z hj hz => this.2.2 j z hj (key j z (by omega) hz)⟩
    · obtain rfl : k = l.length := by omega
      have : y = x := by
        rw [List.getElem?_append_right (Nat.le_refl _)] at hy
        simpa using hy.symm
      subst this
      refine ⟨hn, hr, fun j z hj hz => ?_⟩
      have hz' := key j z hj hz
      unfold hasN at hh
      rw [List.any_eq_false] at hh
      have := hh z (List.mem_of_getElem? hz')
      simpa using this
  · rcases List.mem_append.1 hy with hy | hy
    · exact h.2.2 y hy
    · have : y = x := by simpa using hy
      subst this
      exact ⟨h1, h2⟩
theorem goF_I (m : Nat) : ∀ (f : Nat) (nm : ByteArray) (l : List (ByteArray × ByteArray)) (u : ByteArray), u.size ≤ m → LsI m l → (goF f nm l u).1 = 0 → (goF f nm l u).2.1 = nm ∧ LsI m (goF f nm l u).2.2
  | 0, nm, l, u, _, hI, _ => ⟨rfl, hI⟩
  | f + 1, nm, l, u, hu, hI, h => by
    have hpi := pair_I (sk u)
    have hpl := @pair_lt (sk u)
    have hs := sk_size u
    unfold goF at h ⊢
    generalize pairF (sk u) = P at *
    by_cases c1 : (sk u).size = 0
    · rw [if_pos c1]; exact ⟨rfl, hI⟩
    rw [if_neg c1] at h ⊢
    by_cases c2 : bk u = 0
    · rw [if_pos c2] at h; exact absurd (show (6 : Int) = 0 from h) (by decide)
    rw [if_neg c2] at h ⊢
    by_cases c3 : P.1 ≠ 0
    · rw [if_pos c3] at h; exact absurd (show P.1 = 0 from h) c3
    rw [if_neg c3] at h ⊢
    by_cases c4 : hasN P.2.1 l = true
    · rw [if_pos c4] at h; exact absurd (show (8 : Int) = 0 from h) (by decide)
    rw [if_neg c4] at h ⊢
    by_cases c5 : 32 ≤ l.length
    · rw [if_pos c5] at h; exact absurd (show (13 : Int) = 0 from h) (by decide)
    rw [if_neg c5] at h ⊢
    have c3' := Decidable.not_not.1 c3
    obtain ⟨p1, p2, p3, p4⟩ := hpi c3'
    have hlt := hpl c3'
    exact goF_I m f _ _ _ (by omega) (ls_put hI c5 p1 p2 (by simpa using c4) (Nat.le_trans p3 (by omega)) (Nat.le_trans p4 (by omega))) h
theorem par_I (s : ByteArray) (h : (parF s).1 = 0) : RgP (parF s).2.1 (parF s).2.2 ∧ (parF s).2.1.size ≤ s.size ∧ ∀ x ∈ (parF s).2.2, x.1.size ≤ s.size ∧ x.2.size ≤ 2 * s.size := by
  unfold parF at h ⊢
  by_cases c : isN (Nz.sx s 0) = false
  · rw [if_pos c] at h
    exact absurd h (by decide)
  rw [if_neg c] at h ⊢
  unfold GoF at h ⊢
  have hz := Nz.fr_size s (Nz.sn s 0)
  obtain ⟨g1, g2⟩ := goF_I s.size _ _ [] _ (by omega) ⟨by simp, fun k x hx => by simp at hx, fun x hx => by simp at hx⟩ h
  rw [g1]
  exact ⟨⟨by simpa using c, g2.1, g2.2.1⟩, sx_le s, g2.2.2⟩
end Go.Proofs.YtaoklhalkfcpfaaGreatDoor

/- The walks of TagReads and TagNames. -/
set_option linter.unusedSimpArgs false
set_option linter.unusedVariables false
namespace Go.Proofs.YtaoklhalkfcpfaaGreatDoor
open Go.RowKit

theorem Vars.after {w w' : World} (h : Vars w) (hb : Below w.heap.size w w') : Vars w' := h.keep hb h.1
set_option maxHeartbeats 4000000 in
set_option maxRecDepth 100000 in
theorem reads_law (s : ByteArray) (w : World) (hs : s.size ≤ 400) (hV : Vars w) : Calls Tryz.prog 3 #[.string s] w fun e w' => e = .returned (.bool true) ∧ Below w.heap.size w w' := by
  have HV := Lib.hid hV
  have i8 : decide ((400 : Int) < (s.size : Int)) = false := by rw [decide_eq_false_iff_not]; omega
  have j8 : decide (400 < s.size) = false := by rw [decide_eq_false_iff_not]; omega
  have CA := Lib.hid (fun W (hW : Vars W) => tparse_any s W hW (by omega))
  have CB := Lib.hid (fun W => rparse_any s W hs)
  have hI := par_I s
  have hE := @par_err s
  have hlen : (parF s).2.2.length ≤ 32 := by
    by_cases h : (parF s).1 = 0
    · exact (hI h).1.2.1
    · rw [hE h]; simp
  clear hI hE
  generalize parF s = x at *
  obtain ⟨er, xn, l⟩ := x
  dsimp only at hlen
  have CS := Lib.hid (fun (n : Nat) (A1 A2 : Option Addr) (k1 k2 : Nat) W (hn : n = l.length) h1 h2 => same_any xn l n A1 A2 k1 k2 W hn (by omega) h1 h2)
  clear hV
  go_enter Tryz.func3, Tryz.ntmps3
  go_wp2_with fail
  refine (awake_any w HV.out).mono ?_
  rintro e w1 ⟨rfl, b1⟩
  have HB1 := Lib.hid b1
  have HV1 := Lib.hid (HV.out.after b1)
  clear b1
  go_wp2_with fail
  refine (CA.out _ HV1.out).mono ?_
  rintro e w2 ⟨v, rfl, hown, b2⟩
  obtain ⟨A1, k1, rfl, hr⟩ := own_rdR hown
  obtain ⟨n, hn⟩ : ∃ n, n = l.length := ⟨_, rfl⟩
  dsimp only
  rw [← hn]
  have HN := Lib.hid hn
  clear hn
  have a2 := (Below.refl _ w2).alloc (Nat.le_refl _) (.cells #[.string xn, .slice A1 n k1] 25)
  have HR1 := Lib.hid (hr.keep a2)
  have HB2 := Lib.hid (HB1.out.trans ((b2.trans (a2.mono b2.size)).mono HB1.out.size))
  have q0 := Blk0 w2 25 #[.string xn, .slice A1 n k1] 0
  have q1 := Blk0 w2 25 #[.string xn, .slice A1 n k1] 1
  have Q0 := Lib.hid q0
  have Q1 := Lib.hid q1
  clear hown hr b2 a2 q0 q1 CA
  go_wp2_with fail
  refine (CB.out _).mono ?_
  rintro e w3 ⟨v, rfl, hown, b3⟩
  obtain ⟨A2, k2, rfl, hr⟩ := own_rdR hown
  dsimp only at *
  rw [← HN.out]
  have a3 := (Below.refl _ w3).alloc (Nat.le_refl _) (.cells #[.string xn, .slice A2 n k2] 25)
  have HR2 := Lib.hid (hr.keep a3)
  have b3' := b3.trans (a3.mono b3.size)
  have HR3 := Lib.hid (HR1.out.keep b3')
  have HB3 := Lib.hid (HB2.out.trans (b3'.mono HB2.out.size))
  have g0 := cell_keep Q0.out (by simp) b3
  have g1 := cell_keep Q1.out (by simp) b3
  have hw : w2.heap.size < w3.heap.size := Nat.lt_of_lt_of_le (by simp) b3.size
  have n1 : ¬ w2.heap.size = w3.heap.size := by omega
  clear hown hr b3 a3 b3' CB Q0 Q1 HR1
  go_wp2_with fail
  refine (CS.out n A1 A2 k1 k2 _ HN.out HR3.out HR2.out).mono ?_
  rintro e w4 ⟨rfl, b4⟩
  have HB4 := Lib.hid (HB3.out.trans (b4.mono HB3.out.size))
  clear b4
  go_wp2
  go_ret
  exact ⟨rfl, HB4.out⟩
set_option maxHeartbeats 4000000 in
set_option maxRecDepth 100000 in
theorem reads_long (s : ByteArray) (w : World) (h : 400 < s.size) (hm : s.size ≤ maxLen) (hV : Vars w) : Calls Tryz.prog 3 #[.string s] w fun e w' => e = .returned (.bool true) ∧ Below w.heap.size w w' := by
  unfold maxLen at hm
  have HV := Lib.hid hV
  have i8 : decide ((400 : Int) < (s.size : Int)) = true := by rw [decide_eq_true_eq]; omega
  have j8 : decide (400 < s.size) = true := by rw [decide_eq_true_eq]; omega
  clear hV h
  go_enter Tryz.func3, Tryz.ntmps3
  go_wp2_with fail
  refine (awake_any w HV.out).mono ?_
  rintro e w1 ⟨rfl, b1⟩
  have HV1 := Lib.hid (HV.out.after b1)
  go_wp2_with fail
  refine (awake_any w1 HV1.out).mono ?_
  rintro e w2 ⟨rfl, c2⟩
  go_wp2
  go_ret
  exact ⟨rfl, b1.trans (c2.mono b1.size)⟩
set_option maxHeartbeats 4000000 in
set_option maxRecDepth 100000 in
theorem names_long (s : ByteArray) (w : World) (h : 400 < s.size) (hm : s.size ≤ maxLen) (hV : Vars w) : Calls Tryz.prog 7 #[.string s] w fun e w' => e = .returned (.bool true) ∧ Below w.heap.size w w' := by
  unfold maxLen at hm
  have HV := Lib.hid hV
  have i8 : decide ((400 : Int) < (s.size : Int)) = true := by rw [decide_eq_true_eq]; omega
  have j8 : decide (400 < s.size) = true := by rw [decide_eq_true_eq]; omega
  clear hV h
  go_enter Tryz.func7, Tryz.ntmps7
  go_wp2_with fail
  refine (awake_any w HV.out).mono ?_
  rintro e w1 ⟨rfl, b1⟩
  have HV1 := Lib.hid (HV.out.after b1)
  go_wp2_with fail
  refine (awake_any w1 HV1.out).mono ?_
  rintro e w2 ⟨rfl, c2⟩
  go_wp2
  go_ret
  exact ⟨rfl, b1.trans (c2.mono b1.size)⟩
set_option maxHeartbeats 4000000 in
set_option maxRecDepth 100000 in
theorem names_law (s : ByteArray) (w : World) (hs : s.size ≤ 400) (hV : Vars w) : Calls Tryz.prog 7 #[.string s] w fun e w' => e = .returned (.bool true) ∧ Below w.heap.size w w' := by
  have HV := Lib.hid hV
  have i8 : decide ((400 : Int) < (s.size : Int)) = false := by rw [decide_eq_false_iff_not]; omega
  have j8 : decide (400 < s.size) = false := by rw [decide_eq_false_iff_not]; omega
  have CA := Lib.hid (fun W (hW : Vars W) => tparse_any s W hW (by omega))
  have hI := par_I s
  have hE := @par_err s
  generalize parF s = x at *
  obtain ⟨er, xn, l⟩ := x
  dsimp only at hI hE
  clear hV
  by_cases he : er = 0
  · subst he
    obtain ⟨r1, r2, r3⟩ := hI rfl
    have CR := Lib.hid (fun (n : Nat) (c : Nat) (A : Option Addr) W (hn : n = l.length) h => rgt_yes xn l n c A W hn (by have := r1.2.1; omega) (by omega) (fun x hx => by have := r3 x hx; omega) h r1)
    clear hI hE r1 r2 r3
    go_enter Tryz.func7, Tryz.ntmps7
    go_wp2_with fail
    refine (awake_any w HV.out).mono ?_
    rintro e w1 ⟨rfl, b1⟩
    have HB1 := Lib.hid b1
    have HV1 := Lib.hid (HV.out.after b1)
    clear b1
    go_wp2_with fail
    refine (CA.out _ HV1.out).mono ?_
    rintro e w2 ⟨v, rfl, hown, b2⟩
    obtain ⟨A1, k1, rfl, hr⟩ := own_rdR hown
    obtain ⟨n, hn⟩ : ∃ n, n = l.length := ⟨_, rfl⟩
    dsimp only
    rw [← hn]
    have HN := Lib.hid hn
    clear hn
    have a2 := (Below.refl _ w2).alloc (Nat.le_refl _) (.cells #[.string xn, .slice A1 n k1] 25)
    have HR1 := Lib.hid (hr.keep a2)
    have HB2 := Lib.hid (HB1.out.trans ((b2.trans (a2.mono b2.size)).mono HB1.out.size))
    clear hown hr b2 a2 CA
    go_wp2_with fail
    refine (CR.out n k1 A1 _ HN.out HR1.out).mono ?_
    rintro e w3 ⟨rfl, b3⟩
    have HB3 := Lib.hid (HB2.out.trans (b3.mono HB2.out.size))
    clear b3
    go_wp2
    go_ret
    exact ⟨rfl, HB3.out⟩
  · have hx := hE he
    injection hx with hx1 hx2
    subst hx1 hx2
    have t1 : (er != 0) = true := by rw [bne_iff_ne]; exact he
    have CS := Lib.hid (fun (A1 A2 : Option Addr) (k1 k2 : Nat) W h1 h2 => same_any Nz.em [] 0 A1 A2 k1 k2 W rfl (by omega) h1 h2)
    have HNl : Hid (∀ W, RdR W none []) := Lib.hid (fun W k x hk => by simp at hk)
    clear hI hE he
    go_enter Tryz.func7, Tryz.ntmps7
    go_wp2_with fail
    refine (awake_any w HV.out).mono ?_
    rintro e w1 ⟨rfl, b1⟩
    have HB1 := Lib.hid b1
    have HV1 := Lib.hid (HV.out.after b1)
    clear b1
    go_wp2_with fail
    refine (CA.out _ HV1.out).mono ?_
    rintro e w2 ⟨v, rfl, hown, b2⟩
    obtain ⟨A1, k1, rfl, hr⟩ := own_rdR hown
    dsimp only [List.length] at *
    have a2 := (Below.refl _ w2).alloc (Nat.le_refl _) (.cells #[.string Nz.em, .slice A1 0 k1] 25)
    have HR1 := Lib.hid (hr.keep a2)
    have HB2 := Lib.hid (HB1.out.trans ((b2.trans (a2.mono b2.size)).mono HB1.out.size))
    clear hown hr b2 a2 CA
    go_wp2_with fail
    refine (CS.out A1 none k1 0 _ HR1.out (HNl.out _)).mono ?_
    rintro e w3 ⟨rfl, b3⟩
    have HB3 := Lib.hid (HB2.out.trans (b3.mono HB2.out.size))
    clear b3
    go_wp2
    go_ret
    exact ⟨rfl, HB3.out⟩
end Go.Proofs.YtaoklhalkfcpfaaGreatDoor

/- The walk of the document's Print. -/
set_option linter.unusedSimpArgs false
set_option linter.unusedVariables false
namespace Go.Proofs.YtaoklhalkfcpfaaGreatDoor
open Go.RowKit

def RpRel (nm : ByteArray) (l : List (ByteArray × ByteArray)) (n : Nat) (A : Option Addr) (c : Nat) (w : World) (o i : Value) (wr : World) : Prop :=
  ∃ (k : Nat) (O : ByteArray), i = .int .i64 k ∧ k ≤ n ∧ o = .string O ∧ O.size ≤ 10000000 ∧ Hid (byts O = prF nm (l.take k)) ∧ Hid (RdR wr A l) ∧ Hid (Below w.heap.size w wr) ∧ wr.cell? ⟨w.heap.size, 1, none⟩ = some (.slice A n c)
set_option maxHeartbeats 8000000 in
set_option maxRecDepth 100000 in
theorem rprint_any (nm : ByteArray) (l : List (ByteArray × ByteArray)) (n c : Nat) (A : Option Addr) (w : World) (hn : n = l.length) (hl : n ≤ 1000) (hnm : nm.size ≤ 1000) (hf : Fit l) (hR : RdR w A l) :
    Calls Tryz.prog 14 #[.agg #[.string nm, .slice A n c]] w fun e w' => e = .returned (.string (strOfNums (prF nm l))) ∧ Below w.heap.size w w' := by
  have HN := Lib.hid hn
  have HF := Lib.hid hf
  have HL : Hid (∀ k, (prF nm (l.take k)).length ≤ 10000000) := Lib.hid fun k => by
    have := pr_len nm hnm (l.take k) (fun x hx => hf x (List.mem_of_mem_take hx))
    have h3 : (l.take k).length ≤ l.length := by rw [List.length_take]; omega
    omega
  have B1 := (Below.refl w.heap.size w).alloc (Nat.le_refl _) (.cells #[.string nm, .slice A n c] 25)
  have HR := Lib.hid (hR.keep B1)
  have HB := Lib.hid B1
  have HP0 : Hid (byts nm = prF nm (l.take 0)) := Lib.hid (by unfold prF; simp)
  clear hn hf hR B1
  go_enter Tryz.func14, Tryz.ntmps14
  go_wp2_with fail
  go_loopw [3, 4] (fun o i wr => RpRel nm l n A c w o i wr) (fun _ i _ => n - (intOf i).toNat)
  case atStart => exact ⟨0, nm, rfl, Nat.zero_le _, rfl, by omega, HP0, HR, HB, by simp⟩
  case round =>
    clear HP0 HR HB
    obtain ⟨k, O, rfl, hk, rfl, hO, hP, hR, hB, g1⟩ := hrel
    by_cases hlt : k < n
    · have hkl : k < l.length := by rw [← HN.out]; exact hlt
      obtain ⟨b1, o1, rfl, hb1, x0, x1⟩ := hR.out k _ (List.getElem?_eq_getElem hkl)
      have HK := Lib.hid (List.getElem?_eq_getElem hkl)
      have hfit := HF.out l[k] (List.getElem_mem _)
      have d1 : (k : Int) < (n : Int) := by omega
      have d0 : (0 : Int) ≤ (k : Int) := by omega
      have hlen := HL.out (k + 1)
      generalize l[k] = t at *
      obtain ⟨tn, tv⟩ := t
      dsimp only at x0 x1 hfit
      have HQ := Lib.hid (pr_bytes nm tn tv l k HK.out)
      have CQ : Hid (∀ w, Calls Tryz.prog 24 #[.string tv, .bool true] w fun e w' => e = .returned (.string (strOfNums (escF true (byts tv)))) ∧ w' = w) := Lib.hid (fun w => (desc_any tv true w (by omega)).mono fun e w' ⟨h1, h2⟩ => ⟨h1, h2.symm⟩)
      have hes : (strOfNums (escF true (byts tv))).size ≤ 6000 := by
        rw [← byts_len, byts_esc]
        have := escF_len true (byts tv)
        rw [byts_len] at this
        omega
      generalize strOfNums (escF true (byts tv)) = q at *
      have HE : Hid (byts (((((O ++ ⟨#[32]⟩) ++ tn) ++ ⟨#[61, 34]⟩) ++ q) ++ ⟨#[34]⟩) = prF nm (l.take (k + 1))) := Lib.hid (by
        rw [byts_cat, byts_cat, byts_cat, byts_cat, byts_cat, hP.out]
        exact HQ.out)
      have hE : (((((O ++ ⟨#[32]⟩) ++ tn) ++ ⟨#[61, 34]⟩) ++ q) ++ ⟨#[34]⟩).size ≤ 10000000 := by
        rw [← byts_len, HE.out]
        exact hlen
      have z1 : (O ++ ⟨#[32]⟩).size ≤ 20000000 := by rw [size_cat]; have : (⟨#[32]⟩ : ByteArray).size = 1 := rfl; omega
      have z2 : ((O ++ ⟨#[32]⟩) ++ tn).size ≤ 30000000 := by rw [size_cat]; omega
      have z3 : (((O ++ ⟨#[32]⟩) ++ tn) ++ ⟨#[61, 34]⟩).size ≤ 40000000 := by rw [size_cat]; have : (⟨#[61, 34]⟩ : ByteArray).size = 2 := rfl; omega
      have z4 : ((((O ++ ⟨#[32]⟩) ++ tn) ++ ⟨#[61, 34]⟩) ++ q).size ≤ 50000000 := by rw [size_cat]; omega
      have n1 : ¬ 9223372036854775807 < O.size + 1 := by omega
      have n2 : ¬ 9223372036854775807 < (O ++ ⟨#[32]⟩).size + tn.size := by omega
      have n3 : ¬ 9223372036854775807 < ((O ++ ⟨#[32]⟩) ++ tn).size + 2 := by omega
      have n4 : ¬ 9223372036854775807 < (((O ++ ⟨#[32]⟩) ++ tn) ++ ⟨#[61, 34]⟩).size + q.size := by omega
      have n5 : ¬ 9223372036854775807 < ((((O ++ ⟨#[32]⟩) ++ tn) ++ ⟨#[61, 34]⟩) ++ q).size + 1 := by omega
      have m2 : ¬ 9223372036854775807 < O.size + 1 + tn.size := by omega
      have m3 : ¬ 9223372036854775807 < O.size + 1 + tn.size + 2 := by omega
      have m4 : ¬ 9223372036854775807 < O.size + 1 + tn.size + 2 + q.size := by omega
      have m5 : ¬ 9223372036854775807 < O.size + 1 + tn.size + 2 + q.size + 1 := by omega
      clear hP HQ hlen HL z1 z2 z3 z4
      go_wp2_with fail
      go_quiet ((go_at_call 24; exact Calls.quiet_of_same (CQ.out _)))
      go_wp2
      go_roundw
      case rel => exact ⟨k + 1, _, by go_num, by omega, rfl, hE, HE, Lib.hid (fun k t h => hR.out k t h), Lib.hid (below_drewN hB.out _), g1⟩
      case measure => simp only [intOf]; omega
    · have d1 : ¬ (k : Int) < (n : Int) := by omega
      have hke : k = n := by omega
      have HS : Hid (O = strOfNums (prF nm l)) := Lib.hid (str_of_byts (by rw [hP.out, hke, HN.out, List.take_length]))
      clear hP hR hke HL
      go_wp2_with fail
      go_ret
      exact ⟨by rw [HS.out]; rfl, hB.out⟩
end Go.Proofs.YtaoklhalkfcpfaaGreatDoor

/- A tag that is handed in, opened. -/
set_option linter.unusedSimpArgs false
set_option linter.unusedVariables false
namespace Go.Proofs.YtaoklhalkfcpfaaGreatDoor
open Go.Joins Go.ChangeShapes Go.WideShapes Go.RowKit Go.Deep

theorem Tryz.laidOut : laidOutB Tryz.prog = true := by kernel_rfl
theorem Tryz.cells37 : Tryz.prog.cellsOf 37 = 2 := by kernel_rfl
theorem Tryz.cells9 : Tryz.prog.cellsOf 9 = 1 := by kernel_rfl
/-- What is known of a tag that is handed in. -/
structure TagIn (w : World) (nm : ByteArray) (A : Option Addr) (n c : Nat) (l : List (ByteArray × ByteArray)) : Prop where
  len : n = l.length
  nsz : nm.size ≤ maxLen
  lsz : n ≤ maxLen
  xsz : ∀ x ∈ l, x.1.size ≤ maxLen ∧ x.2.size ≤ maxLen
  rd : RdR w A l
  nil : A = none → n = 0 ∧ c = 0
set_option maxRecDepth 100000 in
theorem open_tag {H : Type} {enc : TypeId × Value → H} {w : World} {r : Reach} {b0 : Nat} {v : Value} {d : DataW H} {p : List MemPlace} (hv : Value.okWide Tryz.prog w r b0 25 v) (h : DataW.Trod enc Tryz.prog w 0 (fun _ => true) true 25 v d p) :
    ∃ (nm : ByteArray) (A : Option Addr) (n c : Nat) (l : List (ByteArray × ByteArray)), v = .agg #[.string nm, .slice A n c] ∧ TagIn w nm A n c l := by
  obtain ⟨v0, v1, y0, y1, k, rfl, _, _, t0, t1⟩ := open_agg2 Tryz.underlying25 (by kernel_rfl) (by kernel_rfl) hv h
  obtain ⟨nm, e0, _, hs⟩ := DataW.trod_string Tryz.underlying9 t0
  simp only [List.cons.injEq, and_true] at e0
  subst e0
  rcases open_slice_pairs Tryz.underlying23 Tryz.underlying37 Tryz.cells37 rfl rfl Tryz.cells9 Tryz.cells9 t1 with ⟨hc, _⟩ | ⟨a, len, cap, m, k2, V0, V1, D0, D1, P0, P1, hc, _, hl, hm, hmm, _, hall⟩
  · simp only [List.cons.injEq, and_true] at hc
    subst hc
    exact ⟨nm, none, 0, 0, [], rfl, ⟨rfl, hs, Nat.zero_le _, fun x hx => by simp at hx, fun j x hx => by simp at hx, fun _ => ⟨rfl, rfl⟩⟩⟩
  · simp only [List.cons.injEq, and_true] at hc
    subst hc
    simp only [if_true] at hmm
    subst hmm
    have st : ∀ i, i < m → ∃ s0 s1 : ByteArray, V0 i = .string s0 ∧ V1 i = .string s1 ∧ s0.size ≤ maxLen ∧ s1.size ≤ maxLen := fun i hi => by
      obtain ⟨_, _, u0, u1⟩ := hall i hi
      obtain ⟨s0, g0, _, z0⟩ := DataW.trod_string Tryz.underlying9 u0
      obtain ⟨s1, g1, _, z1⟩ := DataW.trod_string Tryz.underlying9 u1
      simp only [List.cons.injEq, and_true] at g0 g1
      exact ⟨s0, s1, g0, g1, z0, z1⟩
    have st2 : ∀ i, ∃ x : ByteArray × ByteArray, i < m → V0 i = .string x.1 ∧ V1 i = .string x.2 ∧ x.1.size ≤ maxLen ∧ x.2.size ≤ maxLen := fun i => by
      by_cases hi : i < m
      · obtain ⟨s0, s1, h1⟩ := st i hi
        exact ⟨(s0, s1), fun _ => h1⟩
      · exact ⟨(Nz.em, Nz.em), fun h => absurd h hi⟩
    let X := fun i => Classical.choose (st2 i)
    have hX : ∀ i, i < m → V0 i = .string (X i).1 ∧ V1 i = .string (X i).2 ∧ (X i).1.size ≤ maxLen ∧ (X i).2.size ≤ maxLen := fun i => Classical.choose_spec (st2 i)
    have hget : ∀ (k : Nat) x, ((List.range len).map X)[k]? = some x → k < len ∧ x = X k := fun k x hk => by
      rw [List.getElem?_map] at hk
      obtain ⟨j, hj, rfl⟩ := Option.map_eq_some_iff.1 hk
      have hlt := (List.getElem?_eq_some_iff.1 hj).1
      rw [List.length_range] at hlt
      rw [List.getElem?_range hlt] at hj
      injection hj with hj
      exact ⟨hlt, by rw [hj]⟩
    refine ⟨nm, some a, len, m, (List.range len).map X, rfl, ⟨by simp, hs, by omega, fun x hx => ?_, fun k x hk => ?_, fun h => by cases h⟩⟩
    · obtain ⟨i, hi, rfl⟩ := List.mem_map.1 hx
      have := List.mem_range.1 hi
      exact (hX i (by omega)).2.2
    · obtain ⟨hk1, rfl⟩ := hget k x hk
      obtain ⟨b, off, spot⟩ := a
      have c0 := (hall k (by omega)).1
      have c1 := (hall k (by omega)).2.1
      rw [(hX k (by omega)).1] at c0
      rw [(hX k (by omega)).2.1] at c1
      have hspot : spot = none := by
        have := World.cell?_spot (hall 0 (by omega)).1
        simpa [Addr.add] using this
      subst hspot
      rw [Addr.add_lit] at c0 c1
      exact ⟨b, off, rfl, Lib.lt_of_cell c0, c0, by rw [Nat.add_assoc]; exact c1⟩
end Go.Proofs.YtaoklhalkfcpfaaGreatDoor
