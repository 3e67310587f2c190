/-
  The walk of the document's Escape.
-/
import Derived.Test.YtkaimohkdkdbmaaDoorRead
set_option linter.unusedSimpArgs false
set_option linter.unusedVariables false
namespace Go.Proofs.YtkaimohkdkdbmaaDoor
open Go.RowKit

theorem str_of_byts {s : ByteArray} {l : List Int} (h : byts s = l) : s = strOfNums l := by
  refine byts_inj ?_
  subst h
  rw [byts_str _ (byts_nn s) fun x hx => (Byt.byts s x hx).2]
theorem byts_cat (s t : ByteArray) : byts (s ++ t) = byts s ++ byts t := by
  unfold byts
  rw [ByteArray.data_append, Array.toList_append, List.map_append]
theorem size_cat (s t : ByteArray) : (s ++ t).size = s.size + t.size := by rw [← byts_len, byts_cat, List.length_append, byts_len, byts_len]
theorem ext_one (s : ByteArray) (k : Nat) (h : k < s.size) : byts (s.extract k (k + 1)) = [(byts s).getD k 0] := by
  have h' : k < (byts s).length := by rw [byts_len]; exact h
  rw [byts_extract, List.take_succ_eq_append_getElem h', List.drop_append, List.drop_of_length_le (by rw [List.length_take]; omega), List.nil_append]
  rw [List.length_take, Nat.min_eq_left (by omega), Nat.sub_self, List.drop_zero]
  simp [List.getElem?_eq_getElem h']
theorem ext_is (s : ByteArray) (k : Nat) (h : k < s.size) (c : UInt8) : ((s.extract k (k + 1)).toList == [c]) = decide ((byts s).getD k 0 = (c.toNat : Int)) := by
  rw [eqB _ [c] [(c.toNat : Int)] rfl, ext_one s k h]
  simp
theorem is_yes (s : ByteArray) (k : Nat) (h : k < s.size) (c : UInt8) (hc : (byts s).getD k 0 = (c.toNat : Int)) : ((s.extract k (k + 1)).toList == [c]) = true := by rw [ext_is s k h, decide_eq_true hc]
theorem is_no (s : ByteArray) (k : Nat) (h : k < s.size) (c : UInt8) (hc : (byts s).getD k 0 ≠ (c.toNat : Int)) : ((s.extract k (k + 1)).toList == [c]) = false := by rw [ext_is s k h, decide_eq_false hc]
def DeRel (s : ByteArray) (v : Bool) (O : ByteArray) (k : Nat) : Prop := byts O = escF v ((byts s).take k) ∧ O.size ≤ 6 * k
theorem DeRel.step {s : ByteArray} {v : Bool} {O X : ByteArray} {k : Nat} (h : DeRel s v O k) (hk : k < s.size) (hX : byts X = escB v ((byts s).getD k 0)) : DeRel s v (O ++ X) (k + 1) := by
  have h6 := esc_len v ((byts s).getD k 0)
  rw [← hX, byts_len] at h6
  refine ⟨by rw [byts_cat, escF_take v _ k (by rw [byts_len]; exact hk), h.1, hX], ?_⟩
  rw [size_cat]
  have := h.2
  omega

set_option maxHeartbeats 8000000 in
set_option maxRecDepth 100000 in
theorem desc_any (s : ByteArray) (v : Bool) (w : World) (hs : s.size ≤ 10000) : Calls Tryd.prog 13 #[.string s, .bool v] w fun e w' => e = .returned (.string (strOfNums (escF v (byts s)))) ∧ w = w' := by
  go_enter Tryd.func13, Tryd.ntmps13
  go_wp2_with fail
  go_loop [5, 6] (fun vo vi => ∃ (k : Nat) (O : ByteArray), vo = .string O ∧ vi = .int .i64 k ∧ k ≤ s.size ∧ Hid (DeRel s v O k)) (fun _ vi => s.size - (intOf vi).toNat)
  case atStart => exact ⟨0, ⟨#[]⟩, rfl, rfl, by omega, Lib.hid ⟨rfl, by decide⟩⟩
  case round =>
    obtain ⟨k, O, rfl, rfl, hk, hR⟩ := hrel
    by_cases hlt : k < s.size
    · have hO := hR.out.2
      have hst := Lib.hid (fun X hX => DeRel.step (X := X) hR.out hlt hX)
      have hi := at_byt s k hlt
      have hone := Lib.hid (ext_one s k hlt)
      have c1 : (k : Int) < (s.size : Int) := by omega
      have c2 : (0 : Int) ≤ (k : Int) + 1 := by omega
      have c3 : (k : Int) + 1 ≤ (s.size : Int) := by omega
      have c4 : (k : Int) ≤ (k : Int) + 1 := by omega
      have q2 : IntKind.i64.wrap ((k : Int) + 1) = (k : Int) + 1 := IntWalk.i64_in _ (by omega)
      have q3 : ((k : Int) + 1).toNat = k + 1 := by omega
      have hxs : (s.extract k (k + 1)).size = 1 := by rw [← byts_len, ext_one s k hlt]; rfl
      have y1 := is_yes s k hlt 38
      have y2 := is_yes s k hlt 60
      have y3 := is_yes s k hlt 62
      have n1 := is_no s k hlt 38
      have n2 := is_no s k hlt 60
      have n3 := is_no s k hlt 62
      clear hR
      revert hst hone y1 y2 y3 n1 n2 n3
      generalize (byts s).getD k 0 = c at hi
      intro hst hone y1 y2 y3 n1 n2 n3
      by_cases h38 : c = 38
      · have f38 := y1 h38
        have HR := hst.out ⟨#[38, 97, 109, 112, 59]⟩ (by unfold escB; rw [if_pos h38]; rfl)
        have hsz : (O ++ (⟨#[38, 97, 109, 112, 59]⟩ : ByteArray)).size ≤ 1000000 := by rw [size_cat, show (⟨#[38, 97, 109, 112, 59]⟩ : ByteArray).size = 5 from rfl]; omega
        have hz2 : O.size + 5 ≤ 1000000 := by omega
        have HR2 := Lib.hid HR
        clear hi hst hone y1 y2 y3 n1 n2 n3 HR hxs hO h38
        go_wp2
        refine ⟨⟨k + 1, _, rfl, by rw [Int.natCast_add]; rfl, by omega, HR2⟩, by simp only [intOf]; omega⟩
      by_cases h60 : c = 60
      · have f60 := y2 h60
        have f38 := n1 h38
        have HR := hst.out ⟨#[38, 108, 116, 59]⟩ (by unfold escB; rw [if_neg h38, if_pos h60]; rfl)
        have hsz : (O ++ (⟨#[38, 108, 116, 59]⟩ : ByteArray)).size ≤ 1000000 := by rw [size_cat, show (⟨#[38, 108, 116, 59]⟩ : ByteArray).size = 4 from rfl]; omega
        have hz2 : O.size + 4 ≤ 1000000 := by omega
        have HR2 := Lib.hid HR
        clear hi hst hone y1 y2 y3 n1 n2 n3 HR hxs hO h60
        clear h38
        go_wp2
        refine ⟨⟨k + 1, _, rfl, by rw [Int.natCast_add]; rfl, by omega, HR2⟩, by simp only [intOf]; omega⟩
      by_cases h62 : c = 62
      · have f62 := y3 h62
        have f38 := n1 h38
        have f60 := n2 h60
        have HR := hst.out ⟨#[38, 103, 116, 59]⟩ (by unfold escB; rw [if_neg h38, if_neg h60, if_pos h62]; rfl)
        have hsz : (O ++ (⟨#[38, 103, 116, 59]⟩ : ByteArray)).size ≤ 1000000 := by rw [size_cat, show (⟨#[38, 103, 116, 59]⟩ : ByteArray).size = 4 from rfl]; omega
        have hz2 : O.size + 4 ≤ 1000000 := by omega
        have HR2 := Lib.hid HR
        clear hi hst hone y1 y2 y3 n1 n2 n3 HR hxs hO h62
        clear h38
        clear h60
        go_wp2
        refine ⟨⟨k + 1, _, rfl, by rw [Int.natCast_add]; rfl, by omega, HR2⟩, by simp only [intOf]; omega⟩
      by_cases h13 : c = 13
      · have f13 : (((s[k]).toNat : Int) == 13) = true := by rw [hi]; simpa using h13
        have f38 := n1 h38
        have f60 := n2 h60
        have f62 := n3 h62
        have HR := hst.out ⟨#[38, 35, 120, 68, 59]⟩ (by unfold escB; rw [if_neg h38, if_neg h60, if_neg h62, if_pos h13]; rfl)
        have hsz : (O ++ (⟨#[38, 35, 120, 68, 59]⟩ : ByteArray)).size ≤ 1000000 := by rw [size_cat, show (⟨#[38, 35, 120, 68, 59]⟩ : ByteArray).size = 5 from rfl]; omega
        have hz2 : O.size + 5 ≤ 1000000 := by omega
        have HR2 := Lib.hid HR
        clear hi hst hone y1 y2 y3 n1 n2 n3 HR hxs hO h13
        clear h38
        clear h60
        clear h62
        go_wp2
        refine ⟨⟨k + 1, _, rfl, by rw [Int.natCast_add]; rfl, by omega, HR2⟩, by simp only [intOf]; omega⟩
      cases v
      · have f38 := n1 h38
        have f60 := n2 h60
        have f62 := n3 h62
        have f13 : (((s[k]).toNat : Int) == 13) = false := by rw [hi]; simpa using h13
        have HR := hst.out _ (hone.out.trans (by unfold escB; rw [if_neg h38, if_neg h60, if_neg h62, if_neg h13, if_neg (by simp), if_neg (by simp), if_neg (by simp)]))
        have hsz : (O ++ s.extract k (k + 1)).size ≤ 1000000 := by rw [size_cat]; omega
        have hz2 : O.size + (s.extract k (k + 1)).size ≤ 1000000 := by omega
        have HR2 := Lib.hid HR
        clear hi hst hone y1 y2 y3 n1 n2 n3 HR hxs hO
        clear h38
        clear h60
        clear h62
        clear h13
        go_wp2
        refine ⟨⟨k + 1, _, rfl, by rw [Int.natCast_add]; rfl, by omega, HR2⟩, by simp only [intOf]; omega⟩
      · by_cases h34 : c = 34
        · have f34 : (((s[k]).toNat : Int) == 34) = true := by rw [hi]; simpa using h34
          have f38 := n1 h38
          have f60 := n2 h60
          have f62 := n3 h62
          have f13 : (((s[k]).toNat : Int) == 13) = false := by rw [hi]; simpa using h13
          have HR := hst.out ⟨#[38, 113, 117, 111, 116, 59]⟩ (by unfold escB; rw [if_neg h38, if_neg h60, if_neg h62, if_neg h13, if_pos ⟨rfl, h34⟩]; rfl)
          have hsz : (O ++ (⟨#[38, 113, 117, 111, 116, 59]⟩ : ByteArray)).size ≤ 1000000 := by rw [size_cat, show (⟨#[38, 113, 117, 111, 116, 59]⟩ : ByteArray).size = 6 from rfl]; omega
          have hz2 : O.size + 6 ≤ 1000000 := by omega
          have HR2 := Lib.hid HR
          clear hi hst hone y1 y2 y3 n1 n2 n3 HR hxs hO h34
          clear h38
          clear h60
          clear h62
          clear h13
          go_wp2
          refine ⟨⟨k + 1, _, rfl, by rw [Int.natCast_add]; rfl, by omega, HR2⟩, by simp only [intOf]; omega⟩
        by_cases h9 : c = 9
        · have f9 : (((s[k]).toNat : Int) == 9) = true := by rw [hi]; simpa using h9
          have f38 := n1 h38
          have f60 := n2 h60
          have f62 := n3 h62
          have f13 : (((s[k]).toNat : Int) == 13) = false := by rw [hi]; simpa using h13
          have f34 : (((s[k]).toNat : Int) == 34) = false := by rw [hi]; simpa using h34
          have HR := hst.out ⟨#[38, 35, 120, 57, 59]⟩ (by unfold escB; rw [if_neg h38, if_neg h60, if_neg h62, if_neg h13, if_neg (fun h => h34 h.2), if_pos ⟨rfl, h9⟩]; rfl)
          have hsz : (O ++ (⟨#[38, 35, 120, 57, 59]⟩ : ByteArray)).size ≤ 1000000 := by rw [size_cat, show (⟨#[38, 35, 120, 57, 59]⟩ : ByteArray).size = 5 from rfl]; omega
          have hz2 : O.size + 5 ≤ 1000000 := by omega
          have HR2 := Lib.hid HR
          clear hi hst hone y1 y2 y3 n1 n2 n3 HR hxs hO h9
          clear h38
          clear h60
          clear h62
          clear h13
          clear h34
          go_wp2
          refine ⟨⟨k + 1, _, rfl, by rw [Int.natCast_add]; rfl, by omega, HR2⟩, by simp only [intOf]; omega⟩
        by_cases h10 : c = 10
        · have f10 : (((s[k]).toNat : Int) == 10) = true := by rw [hi]; simpa using h10
          have f38 := n1 h38
          have f60 := n2 h60
          have f62 := n3 h62
          have f13 : (((s[k]).toNat : Int) == 13) = false := by rw [hi]; simpa using h13
          have f34 : (((s[k]).toNat : Int) == 34) = false := by rw [hi]; simpa using h34
          have f9 : (((s[k]).toNat : Int) == 9) = false := by rw [hi]; simpa using h9
          have HR := hst.out ⟨#[38, 35, 120, 65, 59]⟩ (by unfold escB; rw [if_neg h38, if_neg h60, if_neg h62, if_neg h13, if_neg (fun h => h34 h.2), if_neg (fun h => h9 h.2), if_pos ⟨rfl, h10⟩]; rfl)
          have hsz : (O ++ (⟨#[38, 35, 120, 65, 59]⟩ : ByteArray)).size ≤ 1000000 := by rw [size_cat, show (⟨#[38, 35, 120, 65, 59]⟩ : ByteArray).size = 5 from rfl]; omega
          have hz2 : O.size + 5 ≤ 1000000 := by omega
          have HR2 := Lib.hid HR
          clear hi hst hone y1 y2 y3 n1 n2 n3 HR hxs hO h10
          clear h38
          clear h60
          clear h62
          clear h13
          clear h34
          clear h9
          go_wp2
          refine ⟨⟨k + 1, _, rfl, by rw [Int.natCast_add]; rfl, by omega, HR2⟩, by simp only [intOf]; omega⟩
        have f38 := n1 h38
        have f60 := n2 h60
        have f62 := n3 h62
        have f13 : (((s[k]).toNat : Int) == 13) = false := by rw [hi]; simpa using h13
        have f34 : (((s[k]).toNat : Int) == 34) = false := by rw [hi]; simpa using h34
        have f9 : (((s[k]).toNat : Int) == 9) = false := by rw [hi]; simpa using h9
        have f10 : (((s[k]).toNat : Int) == 10) = false := by rw [hi]; simpa using h10
        have HR := hst.out _ (hone.out.trans (by unfold escB; rw [if_neg h38, if_neg h60, if_neg h62, if_neg h13, if_neg (fun h => h34 h.2), if_neg (fun h => h9 h.2), if_neg (fun h => h10 h.2)]))
        have hsz : (O ++ s.extract k (k + 1)).size ≤ 1000000 := by rw [size_cat]; omega
        have hz2 : O.size + (s.extract k (k + 1)).size ≤ 1000000 := by omega
        have HR2 := Lib.hid HR
        clear hi hst hone y1 y2 y3 n1 n2 n3 HR hxs hO
        clear h38
        clear h60
        clear h62
        clear h13
        clear h34
        clear h9
        clear h10
        go_wp2
        refine ⟨⟨k + 1, _, rfl, by rw [Int.natCast_add]; rfl, by omega, HR2⟩, by simp only [intOf]; omega⟩
    · have hkk : k = s.size := by omega
      subst hkk
      have hE : Hid (O = strOfNums (escF v (byts s))) := Lib.hid (by
        refine str_of_byts ?_
        rw [hR.out.1, List.take_of_length_le (by rw [byts_len]; omega)])
      clear hR
      go_wp2
      go_ret
      exact ⟨by rw [← hE.out]; rfl, rfl⟩
end Go.Proofs.YtkaimohkdkdbmaaDoor
