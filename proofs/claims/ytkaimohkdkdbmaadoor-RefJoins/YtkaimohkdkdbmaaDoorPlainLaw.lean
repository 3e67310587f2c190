/-
  The walk of RefPlain.
-/
import Derived.Test.YtkaimohkdkdbmaaDoorRight
import Derived.Test.YtkaimohkdkdbmaaDoorAwake
import Derived.Test.YtkaimohkdkdbmaaDoorDesc
set_option linter.unusedSimpArgs false
set_option linter.unusedVariables false
namespace Go.Proofs.YtkaimohkdkdbmaaDoor
open Go.RowKit

theorem ans_self {v : Bool} {s : ByteArray} (h : readF v (byts s) = (byts s, (byts s).length, 0)) : ansF v (byts s) = (byts s, 0, 0) := ans_ok h
theorem str_byts (s : ByteArray) : strOfNums (byts s) = s := (str_of_byts rfl).symm
theorem text_is {s r : ByteArray} (hs : s.size ≤ 10000) (h : ansF false (byts s) = (byts r, 0, 0)) (w : World) (hV : Vars w) : Calls Tryd.prog 9 #[.string s] w fun e w' => e = .returned (.tuple #[.string r, .int .i64 0, .int .i64 0]) ∧ Below w.heap.size w w' := by
  have := text_any s w hs hV
  rw [h] at this
  refine this.mono ?_
  rintro e w' ⟨rfl, hb⟩
  exact ⟨by simp only [str_byts], hb⟩
theorem value_is {s r : ByteArray} (hs : s.size ≤ 10000) (h : ansF true (byts s) = (byts r, 0, 0)) (w : World) (hV : Vars w) : Calls Tryd.prog 10 #[.string s] w fun e w' => e = .returned (.tuple #[.string r, .int .i64 0, .int .i64 0]) ∧ Below w.heap.size w w' := by
  have := valu_any s w hs hV
  rw [h] at this
  refine this.mono ?_
  rintro e w' ⟨rfl, hb⟩
  exact ⟨by simp only [str_byts], hb⟩
/-- None of the first k bytes is one of cs. -/
def NoB (cs : List Int) (s : ByteArray) (k : Nat) : Prop := ∀ j, j < k → (byts s).getD j 0 ∉ cs
theorem NoB.step {cs : List Int} {s : ByteArray} {k : Nat} (h : NoB cs s k) (hk : (byts s).getD k 0 ∉ cs) : NoB cs s (k + 1) := fun j hj => by
  by_cases e : j = k
  · rw [e]; exact hk
  · exact h j (by omega)
theorem NoB.mem {cs : List Int} {s : ByteArray} (h : NoB cs s s.size) {x : Int} (hx : x ∈ cs) : x ∉ byts s := fun hm => by
  obtain ⟨j, hj, e⟩ := List.getElem_of_mem hm
  refine h j (by rw [← byts_len]; exact hj) ?_
  have : (byts s).getD j 0 = x := by simp [List.getElem?_eq_getElem hj, e]
  rw [this]; exact hx

set_option maxHeartbeats 4000000 in
set_option maxRecDepth 100000 in
theorem plain_not (s : ByteArray) (w : World) (hs : s.size ≤ 300) (hR : ¬ Rt (byts s)) (hV : Vars w) : Calls Tryd.prog 7 #[.string s] w fun e w' => e = .returned (.bool true) ∧ Below w.heap.size w w' := by
  have HV := Lib.hid hV
  have CR := Lib.hid (right_no s (by omega) hR)
  have i8 : decide ((300 : Int) < (s.size : Int)) = false := by rw [decide_eq_false_iff_not]; omega
  have j8 : decide (300 < s.size) = false := by rw [decide_eq_false_iff_not]; omega
  clear hV hR
  go_enter Tryd.func7, Tryd.ntmps7
  go_wp2_with fail
  refine (awake_any w HV.out).mono ?_
  rintro e w1 ⟨rfl, b1⟩
  go_wp2_with fail
  refine (CR.out _).mono ?_
  rintro e w2 ⟨rfl, c2⟩
  have b2 : Below w.heap.size w w2 := b1.trans (c2.mono b1.size)
  clear CR
  go_wp2_with fail
  refine (awake_any w2 (HV.out.keep b2 HV.out.1)).mono ?_
  rintro e w3 ⟨rfl, c3⟩
  go_wp2
  go_ret
  exact ⟨rfl, b2.trans (c3.mono b2.size)⟩
set_option maxHeartbeats 4000000 in
set_option maxRecDepth 100000 in
theorem plain_long (s : ByteArray) (w : World) (h : 300 < s.size) (hm : s.size ≤ maxLen) (hV : Vars w) : Calls Tryd.prog 7 #[.string s] w fun e w' => e = .returned (.bool true) ∧ Below w.heap.size w w' := by
  unfold maxLen at hm
  have HV := Lib.hid hV
  have i8 : decide ((300 : Int) < (s.size : Int)) = true := by rw [decide_eq_true_eq]; omega
  have j8 : decide (300 < s.size) = true := by rw [decide_eq_true_eq]; omega
  clear hV h
  go_enter Tryd.func7, Tryd.ntmps7
  go_wp2_with fail
  refine (awake_any w HV.out).mono ?_
  rintro e w1 ⟨rfl, b1⟩
  go_wp2_with fail
  refine (awake_any w1 (HV.out.keep b1 HV.out.1)).mono ?_
  rintro e w2 ⟨rfl, c2⟩
  go_wp2
  go_ret
  exact ⟨rfl, b1.trans (c2.mono b1.size)⟩
set_option maxHeartbeats 8000000 in
set_option maxRecDepth 100000 in
theorem plain_yes (s : ByteArray) (w : World) (hs : s.size ≤ 300) (hR : Rt (byts s)) (hV : Vars w) : Calls Tryd.prog 7 #[.string s] w fun e w' => e = .returned (.bool true) ∧ Below w.heap.size w w' := by
  have HV := Lib.hid hV
  have HRt := Lib.hid hR
  have CR := Lib.hid (right_yes s (by omega) hR)
  have i8 : decide ((300 : Int) < (s.size : Int)) = false := by rw [decide_eq_false_iff_not]; omega
  have j8 : decide (300 < s.size) = false := by rw [decide_eq_false_iff_not]; omega
  clear hV hR
  go_enter Tryd.func7, Tryd.ntmps7
  go_wp2_with fail
  refine (awake_any w HV.out).mono ?_
  rintro e w1 ⟨rfl, b1⟩
  go_wp2_with fail
  refine (CR.out _).mono ?_
  rintro e w2 ⟨rfl, c2⟩
  have b2 : Below w.heap.size w w2 := b1.trans (c2.mono b1.size)
  clear CR c2 b1
  go_wp2_with fail
  go_loop [3] (fun vi => ∃ k : Nat, vi = .int .i64 k ∧ k ≤ s.size ∧ Hid (NoB [38, 13, 9, 10] s k)) (fun vi => s.size - (intOf vi).toNat)
  case atStart => exact ⟨0, rfl, by omega, Lib.hid fun j hj => by omega⟩
  case round =>
    obtain ⟨k, rfl, hk, hN⟩ := hrel
    by_cases hlt : k < s.size
    · have hi := at_byt s k hlt
      have hst := Lib.hid hN.out.step
      have c1 : (k : Int) < (s.size : Int) := by omega
      clear hN
      revert hst
      generalize (byts s).getD k 0 = c at hi
      intro hst
      by_cases h38 : c = 38
      · have f1 : (((s[k]).toNat : Int) == 38) = true := by rw [hi]; simpa using h38
        clear hi hst h38
        go_wp2
        go_ret
        exact ⟨rfl, b2⟩
      have f1 : (((s[k]).toNat : Int) == 38) = false := by rw [hi]; simpa using h38
      by_cases h13 : c = 13
      · have f2 : (((s[k]).toNat : Int) == 13) = true := by rw [hi]; simpa using h13
        clear hi hst h38 h13
        go_wp2
        go_ret
        exact ⟨rfl, b2⟩
      have f2 : (((s[k]).toNat : Int) == 13) = false := by rw [hi]; simpa using h13
      by_cases h9 : c = 9
      · have f3 : (((s[k]).toNat : Int) == 9) = true := by rw [hi]; simpa using h9
        clear hi hst h38 h13 h9
        go_wp2
        go_ret
        exact ⟨rfl, b2⟩
      have f3 : (((s[k]).toNat : Int) == 9) = false := by rw [hi]; simpa using h9
      by_cases h10 : c = 10
      · have f4 : (((s[k]).toNat : Int) == 10) = true := by rw [hi]; simpa using h10
        clear hi hst h38 h13 h9 h10
        go_wp2
        go_ret
        exact ⟨rfl, b2⟩
      have f4 : (((s[k]).toNat : Int) == 10) = false := by rw [hi]; simpa using h10
      have HR := Lib.hid (hst.out (by simp [h38, h13, h9, h10]))
      clear hi hst h38 h13 h9 h10
      go_wp2
      refine ⟨⟨k + 1, by rw [Int.natCast_add]; rfl, by omega, HR⟩, by simp only [intOf]; omega⟩
    · have hkk : k = s.size := by omega
      subst hkk
      have h1 : (38 : Int) ∉ byts s := hN.out.mem (by simp)
      have h2 : (13 : Int) ∉ byts s := hN.out.mem (by simp)
      have h3 : (9 : Int) ∉ byts s := hN.out.mem (by simp)
      have h4 : (10 : Int) ∉ byts s := hN.out.mem (by simp)
      have K1 := Lib.hid (text_is (s := s) (r := s) (by omega) (ans_self (self_F false _ (byts_nn s) HRt.out h1 h2 (fun h => absurd h (by decide)))))
      have K2 := Lib.hid (value_is (s := s) (r := s) (by omega) (ans_self (self_F true _ (byts_nn s) HRt.out h1 h2 (fun _ => ⟨h3, h4⟩))))
      clear hN h1 h2 h3 h4 HRt
      go_wp2_with fail
      refine (K1.out _ (HV.out.keep b2 HV.out.1)).mono ?_
      rintro e w3 ⟨rfl, c3⟩
      have b3 : Below w.heap.size w w3 := b2.trans (c3.mono b2.size)
      go_wp2_with fail
      refine (K2.out _ (HV.out.keep b3 HV.out.1)).mono ?_
      rintro e w4 ⟨rfl, c4⟩
      have b4 : Below w.heap.size w w4 := b3.trans (c4.mono b3.size)
      clear K1 K2 c3 c4 b2 b3
      go_wp2
      go_ret
      exact ⟨rfl, b4⟩
end Go.Proofs.YtkaimohkdkdbmaaDoor
