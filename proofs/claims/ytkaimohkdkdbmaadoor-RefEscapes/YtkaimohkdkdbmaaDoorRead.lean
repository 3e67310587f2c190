/-
  The walks of ref.read, ref.escape, and of Text, Value, Escape, Quote.
-/
import Derived.Test.YtkaimohkdkdbmaaDoorNext
set_option linter.unusedSimpArgs false
set_option linter.unusedVariables false
namespace Go.Proofs.YtkaimohkdkdbmaaDoor
open Go.RowKit

theorem step_len (v : Bool) (l : List Int) (h : (stepF v l).1 = 0) : (stepF v l).2.1.length ≤ 4 := by
  unfold stepF
  repeat' split
  all_goals simp
  all_goals exact (encB_len _).2
/-- Where read stands: k bytes are read, bs is gathered of them. -/
def RdRel (s : ByteArray) (v : Bool) (w : World) (i : Value) (wr : World) : Prop :=
  ∃ (k : Nat) (bs : List Int), k ≤ s.size ∧ i = .int .i64 k ∧ Gat w.heap.size w.heap.size v bs wr ∧ Below w.heap.size w wr ∧ bs.length ≤ 4 * k ∧
    readF v (byts s) = (bs ++ (readF v ((byts s).drop k)).1, k + (readF v ((byts s).drop k)).2.1, (readF v ((byts s).drop k)).2.2)
def RdPost (x : List Int × Int × Int) (w : World) (e : Ending) (w' : World) : Prop :=
  e = .returned (.tuple #[.string (strOfNums x.1), .int .i64 x.2.1, .int .i64 x.2.2]) ∧ Below w.heap.size w w'
theorem rd_of {x y : List Int × Int × Int} {w w' : World} {e : Ending} (h : x = y) (hp : RdPost y w e w') : RdPost x w e w' := by rw [h]; exact hp
theorem str_none : strOfNums [] = ⟨#[]⟩ := by rw [strOf_eq]; rfl
theorem ans_ok {v : Bool} {l : List Int} {g : List Int} {n : Nat} (h : readF v l = (g, n, 0)) : ansF v l = (g, 0, 0) := by
  unfold ansF; rw [h]; simp
theorem ans_err {v : Bool} {l : List Int} {g : List Int} {n : Nat} {er : Int} (h : readF v l = (g, n, er)) (he : er ≠ 0) : ansF v l = ([], (n : Int), er) := by
  unfold ansF; rw [h]; simp [he]

set_option maxHeartbeats 4000000 in
set_option maxRecDepth 100000 in
theorem read_any (s : ByteArray) (v : Bool) (w : World) (hs : s.size ≤ 10000) (hV : Vars w) : Calls Tryd.prog 16 #[.string s, .bool v] w (RdPost (ansF v (byts s)) w) := by
  have HV := Lib.hid hV
  clear hV
  go_enter Tryd.func16, Tryd.ntmps16
  go_wp2_with fail
  go_loopw [8] (fun i wr => RdRel s v w i wr) (fun i _ => s.size - (intOf i).toNat)
  case atStart =>
    exact ⟨0, [], Nat.zero_le _, rfl, gat_new w v, (Below.refl _ w).alloc (Nat.le_refl _) _, by simp, by simp⟩
  case round =>
    obtain ⟨k, bs, hk, rfl, hg, hb, hl, hr⟩ := hrel
    by_cases hlt : k < s.size
    · have hsz := hb.size
      have hne : (byts s).drop k ≠ [] := by
        intro e
        have := congrArg List.length e
        rw [List.length_drop, byts_len, List.length_nil] at this
        omega
      have hnn : NN ((byts s).drop k) := (byts_nn s).drop k
      have C := Lib.hid (next_any w.heap.size w.heap.size v bs s k wr hlt (by omega) hg hsz (by omega) (HV.out.keep hb HV.out.1))
      have S1 := step_bd v _ hne hnn
      have S2 := step_len v ((byts s).drop k)
      have R1 := readF_err v _ hne
      have R2 := readF_ok v _ hne hnn
      rw [List.drop_drop] at R2
      rw [List.length_drop, byts_len] at S1
      generalize stepF v ((byts s).drop k) = x at *
      obtain ⟨er, o, n⟩ := x
      simp only at S1 S2 R1 R2
      by_cases he : er = 0
      · subst he
        have S1 := S1 rfl
        have S2 := S2 rfl
        rw [R2 rfl] at hr
        have HR : Hid (readF v (byts s) = (bs ++ o ++ (readF v ((byts s).drop (k + n))).1, k + n + (readF v ((byts s).drop (k + n))).2.1, (readF v ((byts s).drop (k + n))).2.2)) := Lib.hid (by
          rw [hr]; simp only [List.append_assoc, Nat.add_assoc])
        clear R1 R2 hr hg hne hnn
        go_wp2_with fail
        refine C.out.mono ?_
        rintro e w1 ⟨rfl, h1, hb1⟩
        have HG := Lib.hid (h1 rfl)
        clear h1 C
        have q2 : IntKind.i64.wrap ((k : Int) + (n : Int)) = (k : Int) + (n : Int) := IntWalk.i64_in _ (by omega)
        go_wp2_with fail
        go_roundw
        case rel => exact ⟨k + n, bs ++ o, by omega, by rw [Int.natCast_add], HG.out, hb.trans hb1, by rw [List.length_append]; omega, HR.out⟩
        case measure => simp only [intOf]; omega
      · have t1 : (er != 0) = true := by simpa using he
        rw [R1 he] at hr
        have HA : Hid (ansF v (byts s) = ([], (k : Int), er)) := Lib.hid (by
          have := ans_err hr he
          rw [this]; simp)
        clear R1 R2 hr hg hne hnn S1 S2 he
        go_wp2_with fail
        refine C.out.mono ?_
        rintro e w1 ⟨rfl, h1, hb1⟩
        clear h1 C
        go_wp2
        go_ret3
        exact rd_of HA.out ⟨by rw [str_none]; rfl, hb.trans hb1⟩
    · have hkk : k = s.size := by omega
      subst hkk
      rw [List.drop_of_length_le (by rw [byts_len]; omega), readF_nil] at hr
      have HA : Hid (ansF v (byts s) = (bs, 0, 0)) := Lib.hid (by
        have := ans_ok hr
        rw [this]; simp)
      have CS := Lib.hid (str_any w.heap.size w.heap.size v bs wr hg)
      clear hr hg
      go_wp2_with fail
      refine CS.out.mono ?_
      rintro e w1 ⟨rfl, hb1⟩
      go_wp2
      go_ret3
      exact rd_of HA.out ⟨rfl, hb.trans hb1⟩

theorem esc_len (v : Bool) (c : Int) : (escB v c).length ≤ 6 := by
  unfold escB
  repeat' split
  all_goals simp
theorem escF_take (v : Bool) (l : List Int) (k : Nat) (h : k < l.length) : escF v (l.take (k + 1)) = escF v (l.take k) ++ escB v (l.getD k 0) := by
  unfold escF
  rw [List.take_succ_eq_append_getElem h, List.flatMap_append]
  simp [List.getElem?_eq_getElem h]
theorem escF_len (v : Bool) : ∀ (l : List Int), (escF v l).length ≤ 6 * l.length
  | [] => by simp [escF]
  | c :: l => by
    have h1 := esc_len v c
    have h2 := escF_len v l
    unfold escF at *
    rw [List.flatMap_cons, List.length_append, List.length_cons]
    omega
def EsRel (s : ByteArray) (v : Bool) (w : World) (i : Value) (wr : World) : Prop :=
  ∃ k : Nat, k ≤ s.size ∧ i = .int .i64 k ∧ Gat w.heap.size w.heap.size v (escF v ((byts s).take k)) wr ∧ Below w.heap.size w wr
def EsPost (l : List Int) (w : World) (e : Ending) (w' : World) : Prop := e = .returned (.string (strOfNums l)) ∧ Below w.heap.size w w'
set_option maxHeartbeats 4000000 in
set_option maxRecDepth 100000 in
theorem escape_any (s : ByteArray) (v : Bool) (w : World) (hs : s.size ≤ 10000) : Calls Tryd.prog 21 #[.string s, .bool v] w (EsPost (escF v (byts s)) w) := by
  go_enter Tryd.func21, Tryd.ntmps21
  go_wp2_with fail
  go_loopw [11] (fun i wr => EsRel s v w i wr) (fun i _ => s.size - (intOf i).toNat)
  case atStart =>
    exact ⟨0, Nat.zero_le _, rfl, gat_new w v, (Below.refl _ w).alloc (Nat.le_refl _) _⟩
  case round =>
    obtain ⟨k, hk, rfl, hg, hb⟩ := hrel
    by_cases hlt : k < s.size
    · have hsz := hb.size
      have hc := byt_at s k
      have hbe := at_byt s k hlt
      have hn := escF_len v ((byts s).take k)
      rw [List.length_take, byts_len] at hn
      have C := Lib.hid (mask_any w.heap.size w.heap.size v _ _ wr hg hsz (by omega) hc.1 hc.2)
      rw [← escF_take v _ k (by rw [byts_len]; exact hlt), ← hbe] at C
      have c1 : (k : Int) < (s.size : Int) := by omega
      clear hg hc hn hbe
      go_wp2_with fail
      refine C.out.mono ?_
      rintro e w1 ⟨rfl, h1, hb1⟩
      have HG := Lib.hid h1
      clear h1 C
      go_wp2_with fail
      go_roundw
      case rel => exact ⟨k + 1, by omega, by rw [Int.natCast_add]; rfl, HG.out, hb.trans hb1⟩
      case measure => simp only [intOf]; omega
    · have hkk : k = s.size := by omega
      subst hkk
      rw [List.take_of_length_le (by rw [byts_len]; omega)] at hg
      have CS := Lib.hid (str_any w.heap.size w.heap.size v _ wr hg)
      clear hg
      go_wp2_with fail
      refine CS.out.mono ?_
      rintro e w1 ⟨rfl, hb1⟩
      go_wp2
      go_ret
      exact ⟨rfl, hb.trans hb1⟩
set_option maxHeartbeats 1000000 in
set_option maxRecDepth 100000 in
theorem text_of (s : ByteArray) (x : List Int × Int × Int) (w : World) (C : Hid (Calls Tryd.prog 16 #[.string s, .bool false] w (RdPost x w))) : Calls Tryd.prog 9 #[.string s] w (RdPost x w) := by
  go_enter Tryd.func9, Tryd.ntmps9
  go_wp2_with fail
  refine C.out.mono ?_
  rintro e w1 ⟨rfl, hb⟩
  go_wp2
  go_ret3
  exact ⟨rfl, hb⟩
set_option maxHeartbeats 1000000 in
set_option maxRecDepth 100000 in
theorem value_of (s : ByteArray) (x : List Int × Int × Int) (w : World) (C : Hid (Calls Tryd.prog 16 #[.string s, .bool true] w (RdPost x w))) : Calls Tryd.prog 10 #[.string s] w (RdPost x w) := by
  go_enter Tryd.func10, Tryd.ntmps10
  go_wp2_with fail
  refine C.out.mono ?_
  rintro e w1 ⟨rfl, hb⟩
  go_wp2
  go_ret3
  exact ⟨rfl, hb⟩
set_option maxHeartbeats 1000000 in
set_option maxRecDepth 100000 in
theorem escape_of (s : ByteArray) (x : List Int) (w : World) (C : Hid (Calls Tryd.prog 21 #[.string s, .bool false] w (EsPost x w))) : Calls Tryd.prog 12 #[.string s] w (EsPost x w) := by
  go_enter Tryd.func12, Tryd.ntmps12
  go_wp2_with fail
  refine C.out.mono ?_
  rintro e w1 ⟨rfl, hb⟩
  go_wp2
  go_ret
  exact ⟨rfl, hb⟩
set_option maxHeartbeats 1000000 in
set_option maxRecDepth 100000 in
theorem quote_of (s : ByteArray) (x : List Int) (w : World) (C : Hid (Calls Tryd.prog 21 #[.string s, .bool true] w (EsPost x w))) : Calls Tryd.prog 14 #[.string s] w (EsPost x w) := by
  go_enter Tryd.func14, Tryd.ntmps14
  go_wp2_with fail
  refine C.out.mono ?_
  rintro e w1 ⟨rfl, hb⟩
  go_wp2
  go_ret
  exact ⟨rfl, hb⟩
theorem text_any (s : ByteArray) (w : World) (hs : s.size ≤ 10000) (hV : Vars w) : Calls Tryd.prog 9 #[.string s] w (RdPost (ansF false (byts s)) w) := text_of s _ w (Lib.hid (read_any s false w hs hV))
theorem valu_any (s : ByteArray) (w : World) (hs : s.size ≤ 10000) (hV : Vars w) : Calls Tryd.prog 10 #[.string s] w (RdPost (ansF true (byts s)) w) := value_of s _ w (Lib.hid (read_any s true w hs hV))
theorem esc_any (s : ByteArray) (w : World) (hs : s.size ≤ 10000) : Calls Tryd.prog 12 #[.string s] w (EsPost (escF false (byts s)) w) := escape_of s _ w (Lib.hid (escape_any s false w hs))
theorem quote_any (s : ByteArray) (w : World) (hs : s.size ≤ 10000) : Calls Tryd.prog 14 #[.string s] w (EsPost (escF true (byts s)) w) := quote_of s _ w (Lib.hid (escape_any s true w hs))
end Go.Proofs.YtkaimohkdkdbmaaDoor
