/-
  The walk of the law CharAlls.
-/
import Derived.Test.YtooobhdpohnbhaaConv
import Derived.Test.YtooobhdpohnbhaaRef
set_option linter.unusedSimpArgs false
set_option linter.unusedVariables false
namespace Go.Proofs.Ytooobhdpohnbhaa
open Go.RowKit

def AllsRel (l : List Int) (ks : List Nat) (ok i : Value) : Prop :=
  ∃ k : Nat, ∃ o : Bool, k ≤ l.length ∧ i = .int .i64 k ∧ ok = .bool o ∧ o = (l.take k).all (anyP ks)
theorem all_take (l : List Int) (ks : List Nat) (k : Nat) (h : k < l.length) : (l.take (k + 1)).all (anyP ks) = ((l.take k).all (anyP ks) && anyP ks (l.getD k 0)) := by
  rw [List.take_succ_eq_append_getElem h, List.all_append, List.all_cons, List.all_nil, Bool.and_true, List.getD_eq_getElem?_getD, List.getElem?_eq_getElem h]
  rfl
theorem rgo_range (s : ByteArray) : ∀ (b i : Nat) (x : Int), x ∈ rgo s b i → 0 ≤ x ∧ x ≤ 2147483647
  | 0, i, x, h => by simp [rgo] at h
  | b + 1, i, x, h => by
    unfold rgo at h
    split at h
    · rcases List.mem_cons.1 h with rfl | h
      · have := decode_le s i
        omega
      · exact rgo_range s b _ x h
    · simp at h

set_option maxHeartbeats 2000000 in
set_option maxRecDepth 100000 in
theorem alls0 (s : ByteArray) (v : Int) (hs : s.size ≤ 200) (h0 : 0 ≤ v) (h1 : v ≤ 255) (hm : v % 4 = 0) (w : World) :
    Calls Try.prog 4 #[.string s, .int .u8 v] w fun e w' => e = .returned (.bool true) ∧ Below w.heap.size w w' := by
  have t1 : decide ((200 : Int) < (s.size : Int)) = false := by simp; omega
  have q0 : (v % 4 == (0 : Int)) = true := by simp [hm]
  have q1 : (v % 4 == (1 : Int)) = false := by simp [hm]
  have q2 : (v % 4 == (2 : Int)) = false := by simp [hm]
  have q3 : (v % 4 == (3 : Int)) = false := by simp [hm]
  clear hm
  have hC := Lib.hid (fun W => conv_runes W s (by omega))
  have hln := runes_len s
  have HP : Hid (allP [] s = (runes s).all (anyP [])) := Lib.hid rfl
  have HRG := Lib.hid (fun x (hx : x ∈ runes s) => rgo_range s s.size 0 x hx)
  have CA := Lib.hid (fun W => all0 s W)
  generalize allP [] s = res at HP CA
  go_enter Try.func4, Try.ntmps4
  go_wp2_with fail
  refine (awake_any _).mono ?_
  rintro e w1 ⟨rfl, hb1⟩
  obtain ⟨c, w2, hcv, hb2, hzz, hcell⟩ := hC.out w1
  clear hzz
  have hsz := hb1.size
  have hsz2 := hb2.size
  clear hC
  generalize runes s = l at *
  obtain ⟨n, hn⟩ : ∃ n, n = l.length := ⟨_, rfl⟩
  rw [← hn] at hcv
  have hn1 : n ≤ l.length := by omega
  have hn2 : l.length ≤ n := by omega
  have hn3 : n ≤ 200 := by omega
  clear hn
  go_wp2_with fail
  go_loop [6, 7, 8] (fun ok i _ => AllsRel l [] ok i) (fun _ i _ => l.length - (intOf i).toNat)
  case atStart => exact ⟨0, true, Nat.zero_le _, rfl, rfl, by simp⟩
  case round =>
    obtain ⟨k, o, hk, rfl, rfl, ho⟩ := hrel
    have HO := Lib.hid ho
    clear ho
    by_cases hlt : k < n
    · have hc := hcell k (by omega)
      have HT := Lib.hid (all_take l [] k (by omega))
      obtain ⟨hx0, hx1⟩ := HRG.out (l.getD k 0) (by rw [List.getD_eq_getElem?_getD, List.getElem?_eq_getElem (by omega)]; exact List.getElem_mem _)
      generalize l.getD k 0 = x at hc HT hx0 hx1
      clear hcell hcv
      cases o
      · go_wp2_with (first | (go_at_call 10; refine (rchr_any _ _).mono ?_; rintro e w' ⟨rfl, rfl⟩) | (go_at_call 12; refine (rblank_any _ _).mono ?_; rintro e w' ⟨rfl, rfl⟩) | (go_at_call 14; refine (rstart_any _ _).mono ?_; rintro e w' ⟨rfl, rfl⟩) | (go_at_call 16; refine (rpart_any _ _).mono ?_; rintro e w' ⟨rfl, rfl⟩))
        all_goals
          refine ⟨⟨k + 1, _, by omega, by go_num, rfl, ?_⟩, by simp [intOf]; omega⟩
          rw [HT.out, ← HO.out]
          simp_all [anyP, clsP]
      · go_wp2_with (first | (go_at_call 10; refine (rchr_any _ _).mono ?_; rintro e w' ⟨rfl, rfl⟩) | (go_at_call 12; refine (rblank_any _ _).mono ?_; rintro e w' ⟨rfl, rfl⟩) | (go_at_call 14; refine (rstart_any _ _).mono ?_; rintro e w' ⟨rfl, rfl⟩) | (go_at_call 16; refine (rpart_any _ _).mono ?_; rintro e w' ⟨rfl, rfl⟩))
        all_goals
          refine ⟨⟨k + 1, _, by omega, by go_num, rfl, ?_⟩, by simp [intOf]; omega⟩
          rw [HT.out, ← HO.out]
          simp_all [anyP, clsP]
    · clear hcell hcv
      go_wp2_with fail
      refine (CA.out _).mono ?_
      rintro e w3 ⟨rfl, hb3⟩
      go_wp2
      go_ret
      refine ⟨ret_bool ?_, (hb1.trans (hb2.mono hb1.size)).trans (hb3.mono (by omega))⟩
      have hkn : k = l.length := by omega
      subst hkn
      rw [HP.out, HO.out, List.take_length]
      simp

set_option maxHeartbeats 2000000 in
set_option maxRecDepth 100000 in
theorem alls1 (s : ByteArray) (v : Int) (hs : s.size ≤ 200) (h0 : 0 ≤ v) (h1 : v ≤ 255) (hm : v % 4 = 1) (w : World) :
    Calls Try.prog 4 #[.string s, .int .u8 v] w fun e w' => e = .returned (.bool true) ∧ Below w.heap.size w w' := by
  have t1 : decide ((200 : Int) < (s.size : Int)) = false := by simp; omega
  have q0 : (v % 4 == (0 : Int)) = false := by simp [hm]
  have q1 : (v % 4 == (1 : Int)) = true := by simp [hm]
  have q2 : (v % 4 == (2 : Int)) = false := by simp [hm]
  have q3 : (v % 4 == (3 : Int)) = false := by simp [hm]
  clear hm
  have hC := Lib.hid (fun W => conv_runes W s (by omega))
  have hln := runes_len s
  have HP : Hid (allP [13] s = (runes s).all (anyP [13])) := Lib.hid rfl
  have HRG := Lib.hid (fun x (hx : x ∈ runes s) => rgo_range s s.size 0 x hx)
  have CA := Lib.hid (fun W => all1 s 13 (by simp [Known]) W)
  generalize allP [13] s = res at HP CA
  go_enter Try.func4, Try.ntmps4
  go_wp2_with fail
  refine (awake_any _).mono ?_
  rintro e w1 ⟨rfl, hb1⟩
  obtain ⟨c, w2, hcv, hb2, hzz, hcell⟩ := hC.out w1
  clear hzz
  have hsz := hb1.size
  have hsz2 := hb2.size
  clear hC
  generalize runes s = l at *
  obtain ⟨n, hn⟩ : ∃ n, n = l.length := ⟨_, rfl⟩
  rw [← hn] at hcv
  have hn1 : n ≤ l.length := by omega
  have hn2 : l.length ≤ n := by omega
  have hn3 : n ≤ 200 := by omega
  clear hn
  go_wp2_with fail
  go_loop [6, 7, 8] (fun ok i _ => AllsRel l [13] ok i) (fun _ i _ => l.length - (intOf i).toNat)
  case atStart => exact ⟨0, true, Nat.zero_le _, rfl, rfl, by simp⟩
  case round =>
    obtain ⟨k, o, hk, rfl, rfl, ho⟩ := hrel
    have HO := Lib.hid ho
    clear ho
    by_cases hlt : k < n
    · have hc := hcell k (by omega)
      have HT := Lib.hid (all_take l [13] k (by omega))
      obtain ⟨hx0, hx1⟩ := HRG.out (l.getD k 0) (by rw [List.getD_eq_getElem?_getD, List.getElem?_eq_getElem (by omega)]; exact List.getElem_mem _)
      generalize l.getD k 0 = x at hc HT hx0 hx1
      clear hcell hcv
      cases o
      · go_wp2_with (first | (go_at_call 10; refine (rchr_any _ _).mono ?_; rintro e w' ⟨rfl, rfl⟩) | (go_at_call 12; refine (rblank_any _ _).mono ?_; rintro e w' ⟨rfl, rfl⟩) | (go_at_call 14; refine (rstart_any _ _).mono ?_; rintro e w' ⟨rfl, rfl⟩) | (go_at_call 16; refine (rpart_any _ _).mono ?_; rintro e w' ⟨rfl, rfl⟩))
        all_goals
          refine ⟨⟨k + 1, _, by omega, by go_num, rfl, ?_⟩, by simp [intOf]; omega⟩
          rw [HT.out, ← HO.out]
          simp_all [anyP, clsP]
      · go_wp2_with (first | (go_at_call 10; refine (rchr_any _ _).mono ?_; rintro e w' ⟨rfl, rfl⟩) | (go_at_call 12; refine (rblank_any _ _).mono ?_; rintro e w' ⟨rfl, rfl⟩) | (go_at_call 14; refine (rstart_any _ _).mono ?_; rintro e w' ⟨rfl, rfl⟩) | (go_at_call 16; refine (rpart_any _ _).mono ?_; rintro e w' ⟨rfl, rfl⟩))
        all_goals
          refine ⟨⟨k + 1, _, by omega, by go_num, rfl, ?_⟩, by simp [intOf]; omega⟩
          rw [HT.out, ← HO.out]
          simp_all [anyP, clsP]
    · clear hcell hcv
      go_wp2_with fail
      refine (CA.out _).mono ?_
      rintro e w3 ⟨rfl, hb3⟩
      go_wp2
      go_ret
      refine ⟨ret_bool ?_, (hb1.trans (hb2.mono hb1.size)).trans (hb3.mono (by omega))⟩
      have hkn : k = l.length := by omega
      subst hkn
      rw [HP.out, HO.out, List.take_length]
      simp

set_option maxHeartbeats 2000000 in
set_option maxRecDepth 100000 in
theorem alls2 (s : ByteArray) (v : Int) (hs : s.size ≤ 200) (h0 : 0 ≤ v) (h1 : v ≤ 255) (hm : v % 4 = 2) (w : World) :
    Calls Try.prog 4 #[.string s, .int .u8 v] w fun e w' => e = .returned (.bool true) ∧ Below w.heap.size w w' := by
  have t1 : decide ((200 : Int) < (s.size : Int)) = false := by simp; omega
  have q0 : (v % 4 == (0 : Int)) = false := by simp [hm]
  have q1 : (v % 4 == (1 : Int)) = false := by simp [hm]
  have q2 : (v % 4 == (2 : Int)) = true := by simp [hm]
  have q3 : (v % 4 == (3 : Int)) = false := by simp [hm]
  clear hm
  have hC := Lib.hid (fun W => conv_runes W s (by omega))
  have hln := runes_len s
  have HP : Hid (allP [11, 15] s = (runes s).all (anyP [11, 15])) := Lib.hid rfl
  have HRG := Lib.hid (fun x (hx : x ∈ runes s) => rgo_range s s.size 0 x hx)
  have CA := Lib.hid (fun W => all2 s 11 15 (by simp [Known]) (by simp [Known]) W)
  generalize allP [11, 15] s = res at HP CA
  go_enter Try.func4, Try.ntmps4
  go_wp2_with fail
  refine (awake_any _).mono ?_
  rintro e w1 ⟨rfl, hb1⟩
  obtain ⟨c, w2, hcv, hb2, hzz, hcell⟩ := hC.out w1
  clear hzz
  have hsz := hb1.size
  have hsz2 := hb2.size
  clear hC
  generalize runes s = l at *
  obtain ⟨n, hn⟩ : ∃ n, n = l.length := ⟨_, rfl⟩
  rw [← hn] at hcv
  have hn1 : n ≤ l.length := by omega
  have hn2 : l.length ≤ n := by omega
  have hn3 : n ≤ 200 := by omega
  clear hn
  go_wp2_with fail
  go_loop [6, 7, 8] (fun ok i _ => AllsRel l [11, 15] ok i) (fun _ i _ => l.length - (intOf i).toNat)
  case atStart => exact ⟨0, true, Nat.zero_le _, rfl, rfl, by simp⟩
  case round =>
    obtain ⟨k, o, hk, rfl, rfl, ho⟩ := hrel
    have HO := Lib.hid ho
    clear ho
    by_cases hlt : k < n
    · have hc := hcell k (by omega)
      have HT := Lib.hid (all_take l [11, 15] k (by omega))
      obtain ⟨hx0, hx1⟩ := HRG.out (l.getD k 0) (by rw [List.getD_eq_getElem?_getD, List.getElem?_eq_getElem (by omega)]; exact List.getElem_mem _)
      generalize l.getD k 0 = x at hc HT hx0 hx1
      clear hcell hcv
      cases o
      · go_wp2_with (first | (go_at_call 10; refine (rchr_any _ _).mono ?_; rintro e w' ⟨rfl, rfl⟩) | (go_at_call 12; refine (rblank_any _ _).mono ?_; rintro e w' ⟨rfl, rfl⟩) | (go_at_call 14; refine (rstart_any _ _).mono ?_; rintro e w' ⟨rfl, rfl⟩) | (go_at_call 16; refine (rpart_any _ _).mono ?_; rintro e w' ⟨rfl, rfl⟩))
        all_goals
          refine ⟨⟨k + 1, _, by omega, by go_num, rfl, ?_⟩, by simp [intOf]; omega⟩
          rw [HT.out, ← HO.out]
          simp_all [anyP, clsP]
      · go_wp2_with (first | (go_at_call 10; refine (rchr_any _ _).mono ?_; rintro e w' ⟨rfl, rfl⟩) | (go_at_call 12; refine (rblank_any _ _).mono ?_; rintro e w' ⟨rfl, rfl⟩) | (go_at_call 14; refine (rstart_any _ _).mono ?_; rintro e w' ⟨rfl, rfl⟩) | (go_at_call 16; refine (rpart_any _ _).mono ?_; rintro e w' ⟨rfl, rfl⟩))
        all_goals
          refine ⟨⟨k + 1, _, by omega, by go_num, rfl, ?_⟩, by simp [intOf]; omega⟩
          rw [HT.out, ← HO.out]
          simp_all [anyP, clsP]
    · clear hcell hcv
      go_wp2_with fail
      refine (CA.out _).mono ?_
      rintro e w3 ⟨rfl, hb3⟩
      go_wp2
      go_ret
      refine ⟨ret_bool ?_, (hb1.trans (hb2.mono hb1.size)).trans (hb3.mono (by omega))⟩
      have hkn : k = l.length := by omega
      subst hkn
      rw [HP.out, HO.out, List.take_length]
      simp

set_option maxHeartbeats 2000000 in
set_option maxRecDepth 100000 in
theorem alls3 (s : ByteArray) (v : Int) (hs : s.size ≤ 200) (h0 : 0 ≤ v) (h1 : v ≤ 255) (hm : v % 4 = 3) (w : World) :
    Calls Try.prog 4 #[.string s, .int .u8 v] w fun e w' => e = .returned (.bool true) ∧ Below w.heap.size w w' := by
  have t1 : decide ((200 : Int) < (s.size : Int)) = false := by simp; omega
  have q0 : (v % 4 == (0 : Int)) = false := by simp [hm]
  have q1 : (v % 4 == (1 : Int)) = false := by simp [hm]
  have q2 : (v % 4 == (2 : Int)) = false := by simp [hm]
  have q3 : (v % 4 == (3 : Int)) = true := by simp [hm]
  clear hm
  have hC := Lib.hid (fun W => conv_runes W s (by omega))
  have hln := runes_len s
  have HP : Hid (allP [9] s = (runes s).all (anyP [9])) := Lib.hid rfl
  have HRG := Lib.hid (fun x (hx : x ∈ runes s) => rgo_range s s.size 0 x hx)
  have CA := Lib.hid (fun W => all1 s 9 (by simp [Known]) W)
  generalize allP [9] s = res at HP CA
  go_enter Try.func4, Try.ntmps4
  go_wp2_with fail
  refine (awake_any _).mono ?_
  rintro e w1 ⟨rfl, hb1⟩
  obtain ⟨c, w2, hcv, hb2, hzz, hcell⟩ := hC.out w1
  clear hzz
  have hsz := hb1.size
  have hsz2 := hb2.size
  clear hC
  generalize runes s = l at *
  obtain ⟨n, hn⟩ : ∃ n, n = l.length := ⟨_, rfl⟩
  rw [← hn] at hcv
  have hn1 : n ≤ l.length := by omega
  have hn2 : l.length ≤ n := by omega
  have hn3 : n ≤ 200 := by omega
  clear hn
  go_wp2_with fail
  go_loop [6, 7, 8] (fun ok i _ => AllsRel l [9] ok i) (fun _ i _ => l.length - (intOf i).toNat)
  case atStart => exact ⟨0, true, Nat.zero_le _, rfl, rfl, by simp⟩
  case round =>
    obtain ⟨k, o, hk, rfl, rfl, ho⟩ := hrel
    have HO := Lib.hid ho
    clear ho
    by_cases hlt : k < n
    · have hc := hcell k (by omega)
      have HT := Lib.hid (all_take l [9] k (by omega))
      obtain ⟨hx0, hx1⟩ := HRG.out (l.getD k 0) (by rw [List.getD_eq_getElem?_getD, List.getElem?_eq_getElem (by omega)]; exact List.getElem_mem _)
      generalize l.getD k 0 = x at hc HT hx0 hx1
      clear hcell hcv
      cases o
      · go_wp2_with (first | (go_at_call 10; refine (rchr_any _ _).mono ?_; rintro e w' ⟨rfl, rfl⟩) | (go_at_call 12; refine (rblank_any _ _).mono ?_; rintro e w' ⟨rfl, rfl⟩) | (go_at_call 14; refine (rstart_any _ _).mono ?_; rintro e w' ⟨rfl, rfl⟩) | (go_at_call 16; refine (rpart_any _ _).mono ?_; rintro e w' ⟨rfl, rfl⟩))
        all_goals
          refine ⟨⟨k + 1, _, by omega, by go_num, rfl, ?_⟩, by simp [intOf]; omega⟩
          rw [HT.out, ← HO.out]
          simp_all [anyP, clsP]
      · go_wp2_with (first | (go_at_call 10; refine (rchr_any _ _).mono ?_; rintro e w' ⟨rfl, rfl⟩) | (go_at_call 12; refine (rblank_any _ _).mono ?_; rintro e w' ⟨rfl, rfl⟩) | (go_at_call 14; refine (rstart_any _ _).mono ?_; rintro e w' ⟨rfl, rfl⟩) | (go_at_call 16; refine (rpart_any _ _).mono ?_; rintro e w' ⟨rfl, rfl⟩))
        all_goals
          refine ⟨⟨k + 1, _, by omega, by go_num, rfl, ?_⟩, by simp [intOf]; omega⟩
          rw [HT.out, ← HO.out]
          simp_all [anyP, clsP]
    · clear hcell hcv
      go_wp2_with fail
      refine (CA.out _).mono ?_
      rintro e w3 ⟨rfl, hb3⟩
      go_wp2
      go_ret
      refine ⟨ret_bool ?_, (hb1.trans (hb2.mono hb1.size)).trans (hb3.mono (by omega))⟩
      have hkn : k = l.length := by omega
      subst hkn
      rw [HP.out, HO.out, List.take_length]
      simp

end Go.Proofs.Ytooobhdpohnbhaa
