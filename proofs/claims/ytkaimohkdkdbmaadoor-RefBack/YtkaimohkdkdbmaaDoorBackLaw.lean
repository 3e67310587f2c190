/-
  The walk of RefBack.
-/
import Derived.Test.YtkaimohkdkdbmaaDoorPlainLaw
set_option linter.unusedSimpArgs false
set_option linter.unusedVariables false
namespace Go.Proofs.YtkaimohkdkdbmaaDoor
open Go.RowKit

theorem escB_byt (v : Bool) (c : Int) (h0 : 0 ≤ c) (h1 : c ≤ 255) : Byt (escB v c) := by
  intro x hx
  unfold escB at hx
  repeat' split at hx
  all_goals simp at hx; omega
theorem escF_byt (v : Bool) (l : List Int) (h : Byt l) : Byt (escF v l) := by
  intro x hx
  unfold escF at hx
  obtain ⟨b, hb, hx⟩ := List.mem_flatMap.1 hx
  exact escB_byt v b (h b hb).1 (h b hb).2 x hx
theorem byts_esc (v : Bool) (s : ByteArray) : byts (strOfNums (escF v (byts s))) = escF v (byts s) :=
  byts_str _ (fun x hx => (escF_byt v _ (Byt.byts s) x hx).1) (fun x hx => (escF_byt v _ (Byt.byts s) x hx).2)
theorem size_esc (v : Bool) (s : ByteArray) (hs : s.size ≤ 300) : (strOfNums (escF v (byts s))).size ≤ 10000 := by
  rw [← byts_len, byts_esc]
  have := escF_len v (byts s)
  rw [byts_len] at this
  omega
theorem back_ans (v : Bool) (s : ByteArray) (h : Rt (byts s)) : ansF v (byts (strOfNums (escF v (byts s)))) = (byts s, 0, 0) := by
  rw [byts_esc]
  exact ans_ok (back_F v _ (byts_nn s) h)

set_option maxHeartbeats 4000000 in
set_option maxRecDepth 100000 in
theorem back_not (s : ByteArray) (w : World) (hs : s.size ≤ 300) (hR : ¬ Rt (byts s)) (hV : Vars w) : Calls Tryd.prog 5 #[.string s] w fun e w' => e = .returned (.bool true) ∧ Below w.heap.size w w' := by
  have HV := Lib.hid hV
  have CR := Lib.hid (right_no s (by omega) hR)
  have i8 : decide ((300 : Int) < (s.size : Int)) = false := by rw [decide_eq_false_iff_not]; omega
  have j8 : decide (300 < s.size) = false := by rw [decide_eq_false_iff_not]; omega
  clear hV hR
  go_enter Tryd.func5, Tryd.ntmps5
  go_wp2_with fail
  refine (awake_any w HV.out).mono ?_
  rintro e w1 ⟨rfl, b1⟩
  go_wp2_with fail
  refine (CR.out _).mono ?_
  rintro e w2 ⟨rfl, c2⟩
  have b2 : Below w.heap.size w w2 := b1.trans (c2.mono b1.size)
  clear CR
  go_wp2_with fail
  refine (awake_any w2 (HV.out.keep b2 HV.out.1)).mono ?_
  rintro e w3 ⟨rfl, c3⟩
  go_wp2
  go_ret
  exact ⟨rfl, b2.trans (c3.mono b2.size)⟩
set_option maxHeartbeats 4000000 in
set_option maxRecDepth 100000 in
theorem back_long (s : ByteArray) (w : World) (h : 300 < s.size) (hm : s.size ≤ maxLen) (hV : Vars w) : Calls Tryd.prog 5 #[.string s] w fun e w' => e = .returned (.bool true) ∧ Below w.heap.size w w' := by
  unfold maxLen at hm
  have HV := Lib.hid hV
  have i8 : decide ((300 : Int) < (s.size : Int)) = true := by rw [decide_eq_true_eq]; omega
  have j8 : decide (300 < s.size) = true := by rw [decide_eq_true_eq]; omega
  clear hV h
  go_enter Tryd.func5, Tryd.ntmps5
  go_wp2_with fail
  refine (awake_any w HV.out).mono ?_
  rintro e w1 ⟨rfl, b1⟩
  go_wp2_with fail
  refine (awake_any w1 (HV.out.keep b1 HV.out.1)).mono ?_
  rintro e w2 ⟨rfl, c2⟩
  go_wp2
  go_ret
  exact ⟨rfl, b1.trans (c2.mono b1.size)⟩
set_option maxHeartbeats 8000000 in
set_option maxRecDepth 100000 in
theorem back_of (s x y : ByteArray) (w : World) (hs : s.size ≤ 300) (hV : Vars w) (hR : Rt (byts s))
    (CR : Hid (∀ w, Calls Tryd.prog 15 #[.string s] w fun e w' => e = .returned (.bool true) ∧ Below w.heap.size w w'))
    (K1 : Hid (∀ w, Calls Tryd.prog 12 #[.string s] w fun e w' => e = .returned (.string x) ∧ Below w.heap.size w w'))
    (K2 : Hid (∀ w, Vars w → Calls Tryd.prog 9 #[.string x] w fun e w' => e = .returned (.tuple #[.string s, .int .i64 0, .int .i64 0]) ∧ Below w.heap.size w w'))
    (K3 : Hid (∀ w, Calls Tryd.prog 14 #[.string s] w fun e w' => e = .returned (.string y) ∧ Below w.heap.size w w'))
    (K4 : Hid (∀ w, Vars w → Calls Tryd.prog 10 #[.string y] w fun e w' => e = .returned (.tuple #[.string s, .int .i64 0, .int .i64 0]) ∧ Below w.heap.size w w')) :
    Calls Tryd.prog 5 #[.string s] w fun e w' => e = .returned (.bool true) ∧ Below w.heap.size w w' := by
  have HV := Lib.hid hV
  have HRt := Lib.hid hR
  have i8 : decide ((300 : Int) < (s.size : Int)) = false := by rw [decide_eq_false_iff_not]; omega
  have j8 : decide (300 < s.size) = false := by rw [decide_eq_false_iff_not]; omega
  clear hV hR
  go_enter Tryd.func5, Tryd.ntmps5
  go_wp2_with fail
  refine (awake_any w HV.out).mono ?_
  rintro e w1 ⟨rfl, b1⟩
  go_wp2_with fail
  refine (CR.out _).mono ?_
  rintro e w2 ⟨rfl, c2⟩
  have b2 : Below w.heap.size w w2 := b1.trans (c2.mono b1.size)
  clear CR c2 b1
  go_wp2_with fail
  refine (K1.out _).mono ?_
  rintro e w3 ⟨rfl, c3⟩
  have b3 : Below w.heap.size w w3 := b2.trans (c3.mono b2.size)
  clear c3 b2
  go_wp2_with fail
  refine (K2.out _ (HV.out.keep b3 HV.out.1)).mono ?_
  rintro e w4 ⟨rfl, c4⟩
  have b4 : Below w.heap.size w w4 := b3.trans (c4.mono b3.size)
  clear c4 b3
  go_wp2_with fail
  refine (K3.out _).mono ?_
  rintro e w5 ⟨rfl, c5⟩
  have b5 : Below w.heap.size w w5 := b4.trans (c5.mono b4.size)
  clear c5 b4
  go_wp2_with fail
  refine (K4.out _ (HV.out.keep b5 HV.out.1)).mono ?_
  rintro e w6 ⟨rfl, c6⟩
  have b6 : Below w.heap.size w w6 := b5.trans (c6.mono b5.size)
  clear c6 b5 K1 K2 K3 K4
  go_wp2_with fail
  go_loop [9] (fun vi => ∃ k : Nat, vi = .int .i64 k ∧ k ≤ s.size ∧ Hid (NoB [38, 13] s k)) (fun vi => s.size - (intOf vi).toNat)
  case atStart => exact ⟨0, rfl, by omega, Lib.hid fun j hj => by omega⟩
  case round =>
    obtain ⟨k, rfl, hk, hN⟩ := hrel
    by_cases hlt : k < s.size
    · have hi := at_byt s k hlt
      have hst := Lib.hid hN.out.step
      have c1 : (k : Int) < (s.size : Int) := by omega
      clear hN
      revert hst
      generalize (byts s).getD k 0 = c at hi
      intro hst
      by_cases h38 : c = 38
      · have f1 : (((s[k]).toNat : Int) == 38) = true := by rw [hi]; simpa using h38
        clear hi hst h38
        go_wp2
        go_ret
        exact ⟨rfl, b6⟩
      have f1 : (((s[k]).toNat : Int) == 38) = false := by rw [hi]; simpa using h38
      by_cases h13 : c = 13
      · have f2 : (((s[k]).toNat : Int) == 13) = true := by rw [hi]; simpa using h13
        clear hi hst h38 h13
        go_wp2
        go_ret
        exact ⟨rfl, b6⟩
      have f2 : (((s[k]).toNat : Int) == 13) = false := by rw [hi]; simpa using h13
      have HR := Lib.hid (hst.out (by simp [h38, h13]))
      clear hi hst h38 h13
      go_wp2
      refine ⟨⟨k + 1, by rw [Int.natCast_add]; rfl, by omega, HR⟩, by simp only [intOf]; omega⟩
    · have hkk : k = s.size := by omega
      subst hkk
      have h1 : (38 : Int) ∉ byts s := hN.out.mem (by simp)
      have h2 : (13 : Int) ∉ byts s := hN.out.mem (by simp)
      have K1 := Lib.hid (text_is (s := s) (r := s) (by omega) (ans_self (self_F false _ (byts_nn s) HRt.out h1 h2 (fun h => absurd h (by decide)))))
      clear hN h1 h2 HRt
      go_wp2_with fail
      refine (K1.out _ (HV.out.keep b6 HV.out.1)).mono ?_
      rintro e w7 ⟨rfl, c7⟩
      have b7 : Below w.heap.size w w7 := b6.trans (c7.mono b6.size)
      clear K1 c7 b6
      go_wp2
      go_ret
      exact ⟨rfl, b7⟩
theorem back_yes (s : ByteArray) (w : World) (hs : s.size ≤ 300) (hR : Rt (byts s)) (hV : Vars w) : Calls Tryd.prog 5 #[.string s] w fun e w' => e = .returned (.bool true) ∧ Below w.heap.size w w' :=
  back_of s _ _ w hs hV hR (Lib.hid (right_yes s (by omega) hR)) (Lib.hid fun w => esc_any s w (by omega)) (Lib.hid (text_is (size_esc false s hs) (back_ans false s hR)))
    (Lib.hid fun w => quote_any s w (by omega)) (Lib.hid (value_is (size_esc true s hs) (back_ans true s hR)))
end Go.Proofs.YtkaimohkdkdbmaaDoor
