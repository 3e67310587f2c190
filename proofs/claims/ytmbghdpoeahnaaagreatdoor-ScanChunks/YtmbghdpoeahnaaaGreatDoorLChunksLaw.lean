/-
  The walk of ScanChunks.
-/
import Derived.Test.YtmbghdpoeahnaaaGreatDoorLNextsLaw
set_option linter.unusedSimpArgs false
set_option linter.unusedVariables false
namespace Go.Proofs.YtmbghdpoeahnaaaGreatDoor
open Go.RowKit

def ChRel (s : ByteArray) (w : World) (i : Value) (wr : World) : Prop := ∃ a : Nat, i = .int .i64 a ∧ a ≤ s.size ∧ Hid (Below w.heap.size w wr) ∧ Hid (Gl wr)
theorem drop_cat (s t : ByteArray) (a : Nat) (ha : a ≤ s.size) : (byts (s ++ t)).drop a = (byts s).drop a ++ byts t := by
  rw [byts_app, List.drop_append_of_le_length (by rw [byts_len]; exact ha)]
set_option maxHeartbeats 8000000 in
set_option maxRecDepth 100000 in
theorem chunks_law (s t : ByteArray) (w : World) (hs : s.size ≤ 400) (ht : t.size ≤ 400) (hG : Gl w) : Calls Tryz.prog 5 #[.string s, .string t] w fun e w' => e = .returned (.bool true) ∧ Below w.heap.size w w' := by
  have HG := Lib.hid hG
  have i8 : decide ((400 : Int) < (s.size : Int)) = false := by rw [decide_eq_false_iff_not]; omega
  have j8 : decide (400 < s.size) = false := by rw [decide_eq_false_iff_not]; omega
  have i9 : decide ((400 : Int) < (t.size : Int)) = false := by rw [decide_eq_false_iff_not]; omega
  have j9 : decide (400 < t.size) = false := by rw [decide_eq_false_iff_not]; omega
  have hst : (s ++ t).size ≤ 1000 := by rw [ByteArray.size_append]; omega
  have hst2 : s.size + t.size ≤ 1000 := by omega
  have HM : Hid (∀ (a : Nat) W, a ≤ s.size → Gl W → Calls Tryz.prog 13 #[.string s, .int .i64 (a : Int)] W (NxPost (frontF (decide (a = 0)) true ((byts s).drop a)) a W)) := Lib.hid fun a W ha hW => More_any s a W hW (by omega) ha
  have HN : Hid (∀ (a : Nat) W, a ≤ s.size → Gl W → Calls Tryz.prog 11 #[.string (s ++ t), .int .i64 (a : Int)] W (NxPost (frontF (decide (a = 0)) false ((byts s).drop a ++ byts t)) a W)) := Lib.hid fun a W ha hW => by
    have := Next_any (s ++ t) a W hW hst (by rw [ByteArray.size_append]; omega)
    unfold nx at this
    rw [drop_cat s t a ha] at this
    exact this
  clear hG
  go_enter Tryz.func5, Tryz.ntmps5
  go_wp2_with fail
  refine (awake_any w HG.out).mono ?_
  rintro e w1 ⟨rfl, b1⟩
  have HB1 := Lib.hid b1
  have HG1 := Lib.hid (HG.out.after b1)
  clear b1
  go_wp2_with fail
  go_loopw [5] (fun i wr => ChRel s w i wr) (fun i _ => s.size + 1 - (intOf i).toNat)
  case atStart => exact ⟨0, rfl, Nat.zero_le _, HB1, HG1⟩
  case round =>
    obtain ⟨a, rfl, ha, hB, hGr⟩ := hrel
    have C1 := Lib.hid (HM.out a wr ha hGr.out)
    by_cases h7 : (frontF (decide (a = 0)) true ((byts s).drop a)).2.2 = 7
    · rw [front_zero _ _ _ (by rw [h7]; decide), h7] at C1
      clear h7 HM HN HB1 HG1
      go_wp2_with fail
      refine C1.out.mono ?_
      rintro e w2 ⟨rfl, b2⟩
      rw [tk0]
      dsimp only
      rw [show (a : Int) + ((0 : Nat) : Int) = (a : Int) by omega]
      have HB2 := Lib.hid (hB.out.trans ((after_put b2 (.cells #[.int .i64 0, .string ⟨#[]⟩, .bool false, .bool false] 33)).mono hB.out.size))
      clear b2
      go_wp2
      go_ret
      exact ⟨rfl, HB2.out⟩
    · have hT := told_front (decide (a = 0)) ((byts s).drop a) (byts t) h7
      have C2 := HN.out a
      rw [hT] at C2
      by_cases h0 : (frontF (decide (a = 0)) true ((byts s).drop a)).2.2 = 0
      · have hlt : a < s.size := by
          rcases Nat.lt_or_ge a s.size with h | h
          · exact h
          · rw [List.drop_of_length_le (by rw [byts_len]; exact h)] at h7
            exact absurd rfl h7
        have hf := (fit_front (decide (a = 0)) true ((byts s).drop a) (drop_ne s a hlt)).size h0
        rw [List.length_drop, byts_len] at hf
        obtain ⟨⟨kd, tx, em, bk⟩, n, er, hx⟩ : ∃ y n er, frontF (decide (a = 0)) true ((byts s).drop a) = (y, n, er) := ⟨_, _, _, rfl⟩
        rw [hx] at C1 C2 hf h0
        dsimp only at hf h0
        subst h0
        have CB := Lib.hid C2
        clear hx h7 hT C2 HM HN HB1 HG1
        have d1 : ¬ (a : Int) + (n : Int) ≤ (a : Int) := by omega
        go_wp2_with fail
        refine C1.out.mono ?_
        rintro e w2 ⟨rfl, b2⟩
        unfold tkV
        dsimp only
        generalize hst9 : strOfNums tx = str
        have HS := Lib.hid hst9
        clear hst9
        have g2 := after_put b2 (.cells #[.int .i64 kd, .string str, .bool em, .bool bk] 33)
        have HB2 := Lib.hid (hB.out.trans (g2.mono hB.out.size))
        have HG2 := Lib.hid (hGr.out.after g2)
        have T2 := Lib.hid (tok_new w2 (.int .i64 kd) (.string str) (.bool em) (.bool bk))
        clear b2 g2
        go_wp2_with fail
        refine (CB.out _ ha HG2.out).mono ?_
        rintro e w3 ⟨rfl, b3⟩
        unfold tkV
        dsimp only
        rw [HS.out]
        have g3 := after_put b3 (.cells #[.int .i64 kd, .string str, .bool em, .bool bk] 33)
        have HB3 := Lib.hid (HB2.out.trans (g3.mono HB2.out.size))
        have HG3 := Lib.hid (HG2.out.after g3)
        obtain ⟨x0, x1, x2, x3⟩ := tok_keep T2.out g3
        obtain ⟨y0, y1, y2, y3⟩ := tok_new w3 (.int .i64 kd) (.string str) (.bool em) (.bool bk)
        clear b3 g3 T2 CB C1
        go_wp2
        go_roundw
        case rel => exact ⟨a + n, by go_num, by omega, HB3, HG3⟩
        case measure => simp only [intOf]; omega
      · rw [front_zero _ _ _ h0] at C1 C2
        generalize (frontF (decide (a = 0)) true ((byts s).drop a)).2.2 = er at *
        have CB := Lib.hid C2
        have t7 : (er == 7) = false := by rw [beq_eq_false_iff_ne]; exact h7
        have t0 : (er != 0) = true := by rw [bne_iff_ne]; exact h0
        clear h7 hT C2 HM HN HB1 HG1 h0
        go_wp2_with fail
        refine C1.out.mono ?_
        rintro e w2 ⟨rfl, b2⟩
        rw [tk0]
        dsimp only
        rw [show (a : Int) + ((0 : Nat) : Int) = (a : Int) by omega]
        have g2 := after_put b2 (.cells #[.int .i64 0, .string ⟨#[]⟩, .bool false, .bool false] 33)
        have HB2 := Lib.hid (hB.out.trans (g2.mono hB.out.size))
        have HG2 := Lib.hid (hGr.out.after g2)
        have T2 := Lib.hid (tok_new w2 (.int .i64 0) (.string ⟨#[]⟩) (.bool false) (.bool false))
        clear b2 g2
        go_wp2_with fail
        refine (CB.out _ ha HG2.out).mono ?_
        rintro e w3 ⟨rfl, b3⟩
        rw [tk0]
        dsimp only
        rw [show (a : Int) + ((0 : Nat) : Int) = (a : Int) by omega]
        have g3 := after_put b3 (.cells #[.int .i64 0, .string ⟨#[]⟩, .bool false, .bool false] 33)
        have HB3 := Lib.hid (HB2.out.trans (g3.mono HB2.out.size))
        obtain ⟨x0, x1, x2, x3⟩ := tok_keep T2.out g3
        obtain ⟨y0, y1, y2, y3⟩ := tok_new w3 (.int .i64 0) (.string ⟨#[]⟩) (.bool false) (.bool false)
        clear b3 g3 T2 CB C1
        go_wp2
        go_ret
        exact ⟨rfl, HB3.out⟩
set_option maxHeartbeats 4000000 in
set_option maxRecDepth 100000 in
theorem chunks_long (s t : ByteArray) (w : World) (h : 400 < s.size ∨ 400 < t.size) (hm : s.size ≤ maxLen) (hm2 : t.size ≤ maxLen) (hG : Gl w) : Calls Tryz.prog 5 #[.string s, .string t] w fun e w' => e = .returned (.bool true) ∧ Below w.heap.size w w' := by
  unfold maxLen at hm hm2
  have HG := Lib.hid hG
  clear hG
  by_cases h1 : 400 < s.size
  · have i8 : decide ((400 : Int) < (s.size : Int)) = true := by rw [decide_eq_true_eq]; omega
    have j8 : decide (400 < s.size) = true := by rw [decide_eq_true_eq]; omega
    clear h h1
    go_enter Tryz.func5, Tryz.ntmps5
    go_wp2_with fail
    refine (awake_any w HG.out).mono ?_
    rintro e w1 ⟨rfl, b1⟩
    have HG1 := Lib.hid (HG.out.after b1)
    go_wp2_with fail
    refine (awake_any w1 HG1.out).mono ?_
    rintro e w2 ⟨rfl, c2⟩
    go_wp2
    go_ret
    exact ⟨rfl, b1.trans (c2.mono b1.size)⟩
  · have h2 : 400 < t.size := h.resolve_left h1
    have i8 : decide ((400 : Int) < (s.size : Int)) = false := by rw [decide_eq_false_iff_not]; omega
    have j8 : decide (400 < s.size) = false := by rw [decide_eq_false_iff_not]; omega
    have i9 : decide ((400 : Int) < (t.size : Int)) = true := by rw [decide_eq_true_eq]; omega
    have j9 : decide (400 < t.size) = true := by rw [decide_eq_true_eq]; omega
    clear h h1 h2
    go_enter Tryz.func5, Tryz.ntmps5
    go_wp2_with fail
    refine (awake_any w HG.out).mono ?_
    rintro e w1 ⟨rfl, b1⟩
    have HG1 := Lib.hid (HG.out.after b1)
    go_wp2_with fail
    refine (awake_any w1 HG1.out).mono ?_
    rintro e w2 ⟨rfl, c2⟩
    go_wp2
    go_ret
    exact ⟨rfl, b1.trans (c2.mono b1.size)⟩
end Go.Proofs.YtmbghdpoeahnaaaGreatDoor
