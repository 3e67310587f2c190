/-
  Merged by program out of the texts TgFew, Val, RefMath, RefPut, CutLem of one seat.
-/
import Derived.Test.YtnomcldpbkinmaaGreatDoorG12
import Derived.Test.YtnomcldpbkinmaaGreatDoorG02
import Derived.Test.YtnomcldpbkinmaaGreatDoorG04
import Derived.Test.YtnomcldpbkinmaaGreatDoorG03
import Derived.Lib.Hide
import Derived.Deep.DeepCutAuto

/- The walk of the document's Few. -/
set_option linter.unusedSimpArgs false
set_option linter.unusedVariables false
namespace Go.Proofs.YtnomcldpbkinmaaGreatDoor.Tg
open Go.RowKit

def FewP (nm : ByteArray) (l : List (ByteArray × ByteArray)) : Prop := nm.size ≤ 200 ∧ l.length ≤ 60 ∧ ∀ x ∈ l, x.1.size ≤ 200 ∧ x.2.size ≤ 200
def FwPost (P : Prop) (w : World) (e : Ending) (w' : World) : Prop := ∃ b : Bool, e = .returned (.bool b) ∧ (b = true ↔ P) ∧ Below w.heap.size w w'
theorem fw_yes {P : Prop} {w w' : World} (h : P) (hb : Below w.heap.size w w') : FwPost P w (.returned (.bool true)) w' := ⟨true, rfl, ⟨fun _ => h, fun _ => rfl⟩, hb⟩
theorem fw_no {P : Prop} {w w' : World} (h : ¬ P) (hb : Below w.heap.size w w') : FwPost P w (.returned (.bool false)) w' := ⟨false, rfl, ⟨(fun e => by cases e), fun e => absurd e h⟩, hb⟩
def FwRel (n : Nat) (l : List (ByteArray × ByteArray)) (i : Value) : Prop := ∃ k : Nat, i = .int .i64 k ∧ k ≤ n ∧ Hid (∀ j x, j < k → l[j]? = some x → x.1.size ≤ 200 ∧ x.2.size ≤ 200)
set_option maxHeartbeats 4000000 in
set_option maxRecDepth 100000 in
theorem few_any (nm : ByteArray) (l : List (ByteArray × ByteArray)) (n : Nat) (A : Option Addr) (c : Nat) (w : World) (hn : n = l.length) (hm : nm.size ≤ maxLen) (hl : n ≤ maxLen) (hx : ∀ x ∈ l, x.1.size ≤ maxLen ∧ x.2.size ≤ maxLen) (h1 : RdR w A l) :
    Calls Tryz.prog 19 #[.agg #[.string nm, .slice A n c]] w (FwPost (FewP nm l) w) := by
  unfold maxLen at *
  have B1 := (Below.refl w.heap.size w).alloc (Nat.le_refl _) (.cells #[.string nm, .slice A n c] 53)
  have H1 := Lib.hid (h1.keep B1)
  have HB := Lib.hid B1
  have HN := Lib.hid hn
  have HX := Lib.hid hx
  have hsz : (w.alloc (.cells #[.string nm, .slice A n c] 53)).heap.size = w.heap.size + 1 := by simp
  clear h1 hn B1 hx hsz
  by_cases a1 : 200 < nm.size
  · have HF : Hid (¬ FewP nm l) := Lib.hid (fun h => by have := h.1; omega)
    have i1 : decide ((200 : Int) < (nm.size : Int)) = true := by rw [decide_eq_true_eq]; omega
    have j1 : decide (200 < nm.size) = true := by rw [decide_eq_true_eq]; omega
    clear H1 HX a1
    go_enter Tryz.func19, Tryz.ntmps19
    go_wp2
    go_ret
    exact fw_no HF.out HB.out
  have i1 : decide ((200 : Int) < (nm.size : Int)) = false := by rw [decide_eq_false_iff_not]; omega
  have j1 : decide (200 < nm.size) = false := by rw [decide_eq_false_iff_not]; omega
  by_cases a2 : 60 < n
  · have HF : Hid (¬ FewP nm l) := Lib.hid (fun h => by have := h.2.1; have := HN.out; omega)
    have i2 : decide ((60 : Int) < (n : Int)) = true := by rw [decide_eq_true_eq]; omega
    have j2 : decide (60 < n) = true := by rw [decide_eq_true_eq]; omega
    clear H1 HX a1 a2
    go_enter Tryz.func19, Tryz.ntmps19
    go_wp2
    go_ret
    exact fw_no HF.out HB.out
  have i2 : decide ((60 : Int) < (n : Int)) = false := by rw [decide_eq_false_iff_not]; omega
  have j2 : decide (60 < n) = false := by rw [decide_eq_false_iff_not]; omega
  have HA : Hid (nm.size ≤ 200 ∧ l.length ≤ 60) := Lib.hid (by have := HN.out; omega)
  clear a1
  go_enter Tryz.func19, Tryz.ntmps19
  go_wp2_with fail
  go_loop [3] (fun i => FwRel n l i) (fun i => n - (intOf i).toNat)
  case atStart => exact ⟨0, rfl, Nat.zero_le _, Lib.hid (fun j x hj => absurd hj (Nat.not_lt_zero _))⟩
  case round =>
    obtain ⟨k, rfl, hk, hM⟩ := hrel
    by_cases hlt : k < n
    · have hkl : k < l.length := by rw [← HN.out]; exact hlt
      obtain ⟨b1, o1, rfl, hb1, x0, x1⟩ := H1.out k _ (List.getElem?_eq_getElem hkl)
      have hxx := HX.out l[k] (List.getElem_mem _)
      have HK := Lib.hid (List.getElem?_eq_getElem hkl)
      have d1 : (k : Int) < (n : Int) := by omega
      have d0 : (0 : Int) ≤ (k : Int) := by omega
      generalize l[k] = t at *
      obtain ⟨tn, tv⟩ := t
      dsimp only at x0 x1 hxx
      by_cases q1 : 200 < tn.size
      · have HF : Hid (¬ FewP nm l) := Lib.hid (fun h => by have : tn.size ≤ 200 := (h.2.2 _ (List.mem_of_getElem? HK.out)).1; omega)
        have i3 : decide ((200 : Int) < (tn.size : Int)) = true := by rw [decide_eq_true_eq]; omega
        have j3 : decide (200 < tn.size) = true := by rw [decide_eq_true_eq]; omega
        clear hM
        go_wp2_with fail
        go_ret
        exact fw_no HF.out HB.out
      have i3 : decide ((200 : Int) < (tn.size : Int)) = false := by rw [decide_eq_false_iff_not]; omega
      have j3 : decide (200 < tn.size) = false := by rw [decide_eq_false_iff_not]; omega
      by_cases q2 : 200 < tv.size
      · have HF : Hid (¬ FewP nm l) := Lib.hid (fun h => by have : tv.size ≤ 200 := (h.2.2 _ (List.mem_of_getElem? HK.out)).2; omega)
        have i4 : decide ((200 : Int) < (tv.size : Int)) = true := by rw [decide_eq_true_eq]; omega
        have j4 : decide (200 < tv.size) = true := by rw [decide_eq_true_eq]; omega
        clear hM
        go_wp2_with fail
        go_ret
        exact fw_no HF.out HB.out
      have i4 : decide ((200 : Int) < (tv.size : Int)) = false := by rw [decide_eq_false_iff_not]; omega
      have j4 : decide (200 < tv.size) = false := by rw [decide_eq_false_iff_not]; omega
      have HM2 : Hid (∀ j x, j < k + 1 → l[j]? = some x → x.1.size ≤ 200 ∧ x.2.size ≤ 200) := Lib.hid fun j x hj hx => by
        rcases Nat.lt_or_ge j k with g | g
        · exact hM.out j x g hx
        · obtain rfl : j = k := by omega
          have := HK.out
          rw [hx] at this
          injection this with this
          rw [this]
          exact ⟨by show tn.size ≤ 200; omega, by show tv.size ≤ 200; omega⟩
      clear hM
      go_wp2_with fail
      go_round
      case rel => exact ⟨k + 1, by go_num, by omega, HM2⟩
      case measure => simp only [intOf]; omega
    · have d1 : ¬ (k : Int) < (n : Int) := by omega
      have hke : k = n := by omega
      have HF : Hid (FewP nm l) := Lib.hid ⟨HA.out.1, HA.out.2, fun x hx => by
        obtain ⟨j, hj⟩ := List.getElem?_of_mem hx
        exact hM.out j x (by rw [hke, HN.out]; exact (List.getElem?_eq_some_iff.1 hj).1) hj⟩
      clear hM hke
      go_wp2_with fail
      go_ret
      exact fw_yes HF.out HB.out
theorem few_yes (nm : ByteArray) (l : List (ByteArray × ByteArray)) (n : Nat) (A : Option Addr) (c : Nat) (w : World) (hn : n = l.length) (hm : nm.size ≤ maxLen) (hl : n ≤ maxLen) (hx : ∀ x ∈ l, x.1.size ≤ maxLen ∧ x.2.size ≤ maxLen) (h1 : RdR w A l) (h : FewP nm l) :
    Calls Tryz.prog 19 #[.agg #[.string nm, .slice A n c]] w fun e w' => e = .returned (.bool true) ∧ Below w.heap.size w w' :=
  (few_any nm l n A c w hn hm hl hx h1).mono fun e w' ⟨b, h2, h3, h4⟩ => ⟨by rw [h2, h3.2 h], h4⟩
theorem few_no (nm : ByteArray) (l : List (ByteArray × ByteArray)) (n : Nat) (A : Option Addr) (c : Nat) (w : World) (hn : n = l.length) (hm : nm.size ≤ maxLen) (hl : n ≤ maxLen) (hx : ∀ x ∈ l, x.1.size ≤ maxLen ∧ x.2.size ≤ maxLen) (h1 : RdR w A l) (h : ¬ FewP nm l) :
    Calls Tryz.prog 19 #[.agg #[.string nm, .slice A n c]] w fun e w' => e = .returned (.bool false) ∧ Below w.heap.size w w' :=
  (few_any nm l n A c w hn hm hl hx h1).mono fun e w' ⟨b, h2, h3, h4⟩ => ⟨by
    have : b = false := by
      cases hb : b
      · rfl
      · exact absurd (h3.1 hb) h
    rw [h2, this], h4⟩
end Go.Proofs.YtnomcldpbkinmaaGreatDoor.Tg

/- The walk of the document's value: the rune that so many bytes would be. -/
set_option linter.unusedSimpArgs false
set_option linter.unusedVariables false
namespace Go.Proofs.YtnomcldpbkinmaaGreatDoor
open Go.RowKit

def offs (n i : Nat) : Int := if i = 0 then (if n = 2 then 192 else if n = 3 then 224 else if n = 4 then 240 else 0) else 128
def valG (b : Nat → Int) (n : Nat) : Nat → Int
  | 0 => 0
  | i + 1 => valG b n i * 64 + (b i - offs n i)
theorem offs_bd (n i : Nat) : 0 ≤ offs n i ∧ offs n i ≤ 240 := by unfold offs; repeat' split <;> omega
def vb (i : Nat) : Int := if i = 0 then 0 else if i = 1 then 256 else if i = 2 then 16640 else if i = 3 then 1065216 else 68174080
theorem valG_bd (b : Nat → Int) (n : Nat) (h0 : ∀ k, 0 ≤ b k) (h1 : ∀ k, b k < 256) (i : Nat) (hi : i ≤ 4) : -100000000 ≤ valG b n i ∧ valG b n i ≤ 100000000 := by
  have a0 := h0 0; have a1 := h1 0
  have b0 := h0 1; have b1 := h1 1
  have c0 := h0 2; have c1 := h1 2
  have d0 := h0 3; have d1 := h1 3
  have o0 := offs_bd n 0
  have o1 := offs_bd n 1
  have o2 := offs_bd n 2
  have o3 := offs_bd n 3
  have h : i = 0 ∨ i = 1 ∨ i = 2 ∨ i = 3 ∨ i = 4 := by omega
  rcases h with rfl | rfl | rfl | rfl | rfl <;> simp only [valG] <;> omega

set_option maxHeartbeats 1000000 in
set_option maxRecDepth 100000 in
theorem value_any (s : ByteArray) (a n : Nat) (w : World) (hs : s.size ≤ 100000) (h : a + n ≤ s.size) (h2 : 2 ≤ n) (h4 : n ≤ 4) :
    Calls Tryz.prog 73 #[.string s, .int .i64 a, .int .i64 n] w fun e w' => e = .returned (.int .i64 (valG (fun i => bt s (a + i)) n n)) ∧ w = w' := by
  have VB := valG_bd (fun i => bt s (a + i)) n (fun k => bt_lo s _) (fun k => bt_hi s _)
  have VS : ∀ i, valG (fun i => bt s (a + i)) n (i + 1) = valG (fun i => bt s (a + i)) n i * 64 + (bt s (a + i) - offs n i) := fun i => rfl
  have V0 : valG (fun i => bt s (a + i)) n 0 = 0 := rfl
  generalize valG (fun i => bt s (a + i)) n = f at *
  have HB := Lib.hid VB
  have HS := Lib.hid VS
  have H0 := Lib.hid V0
  clear VB VS V0
  go_enter Tryz.func73, Tryz.ntmps73
  go_wp2_with fail
  go_loop [7, 8] (fun v i => ∃ k : Nat, k ≤ n ∧ i = .int .i64 k ∧ v = .int .i64 (f k)) (fun _ i => n - (intOf i).toNat)
  case atStart => exact ⟨0, Nat.zero_le _, rfl, by rw [H0.out]⟩
  case round =>
    obtain ⟨k, hk, rfl, rfl⟩ := hrel
    by_cases hlt : k < n
    · have vb := HB.out k (by omega)
      have hb := bt_eq s (a + k) (by omega)
      have hby : (s[a + k].toNat : Int) < 256 := by have := s[a + k].toNat_lt; omega
      have hst := HS.out k
      rw [← hb] at hst
      have HST := Lib.hid hst
      clear hb hst
      generalize f k = v at *
      by_cases h0 : k = 0
      · have t0 : ((k : Int) == 0) = true := by simp; omega
        have hk0 : k ≤ 0 := by omega
        have HO := Lib.hid h0
        clear h0
        have hn : n = 2 ∨ n = 3 ∨ n = 4 := by omega
        rcases hn with hn | hn | hn
        · have ho : offs n k = 192 := by rw [HO.out, hn]; rfl
          rw [ho] at HST
          have n2 : ((n : Int) == 2) = true := by simp; omega
          have n3 : ((n : Int) == 3) = false := by simp; omega
          have n4 : ((n : Int) == 4) = false := by simp; omega
          clear ho hn
          go_wp2
          go_round
          case rel => exact ⟨k + 1, by omega, by go_num, by rw [HST.out]⟩
          case measure => simp [intOf]; omega
        · have ho : offs n k = 224 := by rw [HO.out, hn]; rfl
          rw [ho] at HST
          have n2 : ((n : Int) == 2) = false := by simp; omega
          have n3 : ((n : Int) == 3) = true := by simp; omega
          have n4 : ((n : Int) == 4) = false := by simp; omega
          clear ho hn
          go_wp2
          go_round
          case rel => exact ⟨k + 1, by omega, by go_num, by rw [HST.out]⟩
          case measure => simp [intOf]; omega
        · have ho : offs n k = 240 := by rw [HO.out, hn]; rfl
          rw [ho] at HST
          have n2 : ((n : Int) == 2) = false := by simp; omega
          have n3 : ((n : Int) == 3) = false := by simp; omega
          have n4 : ((n : Int) == 4) = true := by simp; omega
          clear ho hn
          go_wp2
          go_round
          case rel => exact ⟨k + 1, by omega, by go_num, by rw [HST.out]⟩
          case measure => simp [intOf]; omega
      · have t0 : ((k : Int) == 0) = false := by simp; omega
        have ho : offs n k = 128 := by unfold offs; rw [if_neg h0]
        rw [ho] at HST
        have hk1 : (0 : Int) < (k : Int) := by omega
        clear h0 ho
        go_wp2
        go_round
        case rel => exact ⟨k + 1, by omega, by go_num, by rw [HST.out]⟩
        case measure => simp [intOf]; omega
    · have : k = n := by omega
      subst this
      go_wp2
      go_ret
      exact ⟨rfl, rfl⟩
theorem value_zero (s : ByteArray) (n : Nat) (w : World) (hs : s.size ≤ 100000) (h : n ≤ s.size) (h2 : 2 ≤ n) (h4 : n ≤ 4) :
    Calls Tryz.prog 73 #[.string s, .int .i64 0, .int .i64 n] w fun e w' => e = .returned (.int .i64 (valG (bt s) n n)) ∧ w = w' := by
  have := value_any s 0 n w hs (by omega) h2 h4
  simp only [Nat.zero_add] at this
  exact this
end Go.Proofs.YtnomcldpbkinmaaGreatDoor

/- The document's way to a rune, and to what is cut off: by trying. It comes to the same as the table of first bytes. -/
set_option linter.unusedSimpArgs false
set_option linter.unusedVariables false
namespace Go.Proofs.YtnomcldpbkinmaaGreatDoor

def valL (L : List Int) (n : Nat) : Int := valG (fun k => L.getD k 0) n n
theorem val2 (L : List Int) : valL L 2 = (L.getD 0 0 - 192) * 64 + (L.getD 1 0 - 128) := by simp [valL, valG, offs]
theorem val3 (L : List Int) : valL L 3 = ((L.getD 0 0 - 224) * 64 + (L.getD 1 0 - 128)) * 64 + (L.getD 2 0 - 128) := by simp [valL, valG, offs]
theorem val4 (L : List Int) : valL L 4 = (((L.getD 0 0 - 240) * 64 + (L.getD 1 0 - 128)) * 64 + (L.getD 2 0 - 128)) * 64 + (L.getD 3 0 - 128) := by simp [valL, valG, offs]
/-- What is tried at n bytes. -/
def vAt (L : List Int) (n : Nat) : Int := if n = 1 then L.getD 0 0 else valL L n

theorem refPut_ok {r : Int} (h : ¬ Bad r) : refPut r = encB r := by rw [refPut, if_neg h]
theorem refPut_pos {r : Int} (h : 0 < (refPut r).length) : ¬ Bad r := fun hb => by
  rw [refPut, if_pos hb] at h
  simp at h

/-- A try that succeeds. -/
def Try1 (L : List Int) (n : Nat) : Prop := (refPut (vAt L n)).length = n ∧ L.take n = refPut (vAt L n)
theorem try_dec (L : List Int) (n : Nat) (hn : 1 ≤ n) (h : Try1 L n) : dec1 L = (vAt L n, (n : Int), 0) := by
  obtain ⟨h1, h2⟩ := h
  have hb : ¬ Bad (vAt L n) := refPut_pos (by omega)
  rw [refPut_ok hb] at h1 h2
  have hL : L = encB (vAt L n) ++ L.drop n := by rw [← h2, List.take_append_drop]
  generalize vAt L n = r at *
  have := dec_enc r (L.drop n) hb
  rw [← hL, h1] at this
  exact this
theorem getD_of_take {L T : List Int} {n k : Nat} (h : L.take n = T) (hk : k < n) : L.getD k 0 = T.getD k 0 := by
  subst h
  simp [List.getD_eq_getElem?_getD, List.getElem?_take, hk]
/-- Where a rune stands, the try of its length succeeds. -/
theorem dec_try (L : List Int) (hl : L ≠ []) (hn : NN L) (h : (dec1 L).2.2 = 0) : ∃ n, 1 ≤ n ∧ n ≤ 4 ∧ n ≤ L.length ∧ Try1 L n := by
  obtain ⟨hb, h1, h2, h3⟩ := dec_inv L hl hn.getD h
  generalize (dec1 L).1 = r at *
  have h4 := encB_len r
  refine ⟨(encB r).length, by omega, by omega, h3, ?_⟩
  have key : vAt L (encB r).length = r := by
    have hb' := hb
    unfold Bad at hb'
    by_cases q1 : r < 128
    · rw [enc1 q1] at h2 ⊢
      have g0 := getD_of_take (k := 0) h2 (by simp)
      simp at g0
      simp [vAt, g0]
    by_cases q2 : r < 2048
    · rw [enc2 (by omega) q2] at h2 ⊢
      have g0 := getD_of_take (k := 0) h2 (by simp)
      have g1 := getD_of_take (k := 1) h2 (by simp)
      simp only [List.getD_cons_zero, List.getD_cons_succ] at g0 g1
      show vAt L 2 = r
      rw [vAt, if_neg (by omega), val2, g0, g1]
      omega
    by_cases q3 : r < 65536
    · rw [enc3 (by omega) q3] at h2 ⊢
      have g0 := getD_of_take (k := 0) h2 (by simp)
      have g1 := getD_of_take (k := 1) h2 (by simp)
      have g2 := getD_of_take (k := 2) h2 (by simp)
      simp only [List.getD_cons_zero, List.getD_cons_succ] at g0 g1 g2
      show vAt L 3 = r
      rw [vAt, if_neg (by omega), val3, g0, g1, g2]
      omega
    · rw [enc4 (by omega)] at h2 ⊢
      have g0 := getD_of_take (k := 0) h2 (by simp)
      have g1 := getD_of_take (k := 1) h2 (by simp)
      have g2 := getD_of_take (k := 2) h2 (by simp)
      have g3 := getD_of_take (k := 3) h2 (by simp)
      simp only [List.getD_cons_zero, List.getD_cons_succ] at g0 g1 g2 g3
      show vAt L 4 = r
      rw [vAt, if_neg (by omega), val4, g0, g1, g2, g3]
      omega
  refine ⟨?_, ?_⟩
  · rw [key, refPut_ok hb]
  · rw [key, refPut_ok hb, h2]

/-- The steps between the least rune and the greatest that bytes begin, so many bytes missing. -/
def stp (j : Nat) : Int := if j = 1 then 1 else if j = 2 then 65 else 4161
def loV (F : List Int) (t : Nat) : Int := valL (F ++ List.replicate (t - F.length) 128) t
def hiV (F : List Int) (t : Nat) : Int := valL (F ++ List.replicate (t - F.length) 191) t
def rK (F : List Int) (t k : Nat) : Int := loV F t + stp (t - F.length) * k
def Tl (F : List Int) : Prop := ∀ i, 1 ≤ i → i < F.length → 128 ≤ F.getD i 0 ∧ F.getD i 0 ≤ 191
def Fst (F : List Int) (t : Nat) : Prop := (t = 2 ∧ 192 ≤ F.getD 0 0 ∧ F.getD 0 0 < 224) ∨ (t = 3 ∧ 224 ≤ F.getD 0 0 ∧ F.getD 0 0 < 240) ∨ (t = 4 ∧ 240 ≤ F.getD 0 0 ∧ F.getD 0 0 < 248)
def Hit (F : List Int) (t k : Nat) : Prop := (refPut (rK F t k)).length = t ∧ (refPut (rK F t k)).take F.length = F
def Srch (F : List Int) (t : Nat) : Prop := Tl F ∧ Fst F t ∧ ∃ k, k < 64 ∧ Hit F t k

theorem hi_lo (F : List Int) (t : Nat) (h1 : 1 ≤ F.length) (h2 : F.length < t) (h3 : t ≤ 4) : hiV F t = loV F t + stp (t - F.length) * 63 := by
  match F, h1, h2 with
  | [a], _, h2 =>
    have : t = 2 ∨ t = 3 ∨ t = 4 := by simp only [List.length_cons, List.length_nil] at h2; omega
    rcases this with rfl | rfl | rfl
    · simp [hiV, loV, val2, stp, List.replicate] <;> try omega
    · simp [hiV, loV, val3, stp, List.replicate] <;> try omega
    · simp [hiV, loV, val4, stp, List.replicate] <;> try omega
  | [a, b], _, h2 =>
    have : t = 3 ∨ t = 4 := by simp at h2; omega
    rcases this with rfl | rfl
    · simp [hiV, loV, val3, stp, List.replicate] <;> try omega
    · simp [hiV, loV, val4, stp, List.replicate] <;> try omega
  | [a, b, c], _, h2 =>
    have : t = 4 := by simp at h2; omega
    subst this
    simp [hiV, loV, val4, stp, List.replicate] <;> try omega
  | a :: b :: c :: d :: F, _, h2 => simp at h2; omega

theorem hit_cut (F : List Int) (t k : Nat) (h1 : 1 ≤ F.length) (h2 : F.length < t) (h : Hit F t k) : (dec1 F).2.2 = 7 := by
  obtain ⟨a, b⟩ := h
  have hb : ¬ Bad (rK F t k) := refPut_pos (by omega)
  rw [refPut_ok hb] at a b
  have := dec_cut (rK F t k) F.length hb h1 (by omega)
  rw [b] at this
  rw [this]

theorem hit2 (F : List Int) (k : Nat) (hF : F.length = 1) (h0 : 194 ≤ F.getD 0 0) (h1 : F.getD 0 0 < 224) : Hit F 2 0 := by
  match F, hF with
  | [a], _ =>
    simp at h0 h1
    have hr : rK [a] 2 0 = (a - 192) * 64 := by simp [rK, loV, val2, stp, List.replicate]
    unfold Hit
    rw [hr, refPut_ok (by unfold Bad; omega), enc2 (by omega) (by omega)]
    refine ⟨rfl, ?_⟩
    exact cons_eq (by omega) rfl
theorem hit3 (a : Int) (h0 : 224 ≤ a) (h1 : a < 240) : ∃ k, k < 64 ∧ Hit [a] 3 k := by
  by_cases e : a = 224
  · subst e
    refine ⟨32, by omega, ?_⟩
    have hr : rK [224] 3 32 = 2080 := by decide
    unfold Hit
    rw [hr]
    decide
  · refine ⟨0, by omega, ?_⟩
    have hr : rK [a] 3 0 = (a - 224) * 64 * 64 := by simp [rK, loV, val3, stp, List.replicate]
    unfold Hit
    rw [hr, refPut_ok (by unfold Bad; omega), enc3 (by omega) (by omega)]
    refine ⟨rfl, ?_⟩
    exact cons_eq (by omega) rfl
theorem hit4 (a : Int) (h0 : 240 ≤ a) (h1 : a < 245) : ∃ k, k < 64 ∧ Hit [a] 4 k := by
  by_cases e : a = 240
  · subst e
    refine ⟨16, by omega, ?_⟩
    have hr : rK [240] 4 16 = 66576 := by decide
    unfold Hit
    rw [hr]
    decide
  · refine ⟨0, by omega, ?_⟩
    have hr : rK [a] 4 0 = (a - 240) * 64 * 64 * 64 := by simp [rK, loV, val4, stp, List.replicate]
    unfold Hit
    rw [hr, refPut_ok (by unfold Bad; omega), enc4 (by omega)]
    refine ⟨rfl, ?_⟩
    exact cons_eq (by omega) rfl
theorem hit32 (a b : Int) (h0 : 224 ≤ a) (h1 : a < 240) (h2 : 128 ≤ b) (h3 : b ≤ 191) (h4 : a = 224 → 160 ≤ b) (h5 : a = 237 → b ≤ 159) : Hit [a, b] 3 0 := by
  have hr : rK [a, b] 3 0 = ((a - 224) * 64 + (b - 128)) * 64 := by simp [rK, loV, val3, stp, List.replicate]
  unfold Hit
  rw [hr, refPut_ok (by unfold Bad; omega), enc3 (by omega) (by omega)]
  refine ⟨rfl, ?_⟩
  exact cons_eq (by omega) (cons_eq (by omega) rfl)
theorem hit42 (a b : Int) (h0 : 240 ≤ a) (h1 : a < 245) (h2 : 128 ≤ b) (h3 : b ≤ 191) (h4 : a = 240 → 144 ≤ b) (h5 : a = 244 → b ≤ 143) : Hit [a, b] 4 0 := by
  have hr : rK [a, b] 4 0 = ((a - 240) * 64 + (b - 128)) * 64 * 64 := by simp [rK, loV, val4, stp, List.replicate]
  unfold Hit
  rw [hr, refPut_ok (by unfold Bad; omega), enc4 (by omega)]
  refine ⟨rfl, ?_⟩
  exact cons_eq (by omega) (cons_eq (by omega) rfl)
theorem hit43 (a b c : Int) (h0 : 240 ≤ a) (h1 : a < 245) (h2 : 128 ≤ b) (h3 : b ≤ 191) (h4 : a = 240 → 144 ≤ b) (h5 : a = 244 → b ≤ 143) (h6 : 128 ≤ c) (h7 : c ≤ 191) : Hit [a, b, c] 4 0 := by
  have hr : rK [a, b, c] 4 0 = (((a - 240) * 64 + (b - 128)) * 64 + (c - 128)) * 64 := by simp [rK, loV, val4, stp, List.replicate]
  unfold Hit
  rw [hr, refPut_ok (by unfold Bad; omega), enc4 (by omega)]
  refine ⟨rfl, ?_⟩
  exact cons_eq (by omega) (cons_eq (by omega) (cons_eq (by omega) rfl))

/-- What canon says of so few bytes, where it says that they are cut off. -/
theorem cut_1 (a : Int) (h : (dec1 [a]).2.2 = 7) : 194 ≤ a ∧ a < 245 := by
  by_cases q : 194 ≤ a ∧ a < 245
  · exact q
  · exfalso
    simp [dec1, canon] at h
    repeat' split at h
    all_goals first | omega | simp at h
def C7 (P : Prop) (x : Int × Int × Int) : Prop := x.2.2 = 7 → P
theorem c7_ite {P : Prop} {c : Prop} [Decidable c] {x y : Int × Int × Int} (h1 : c → C7 P x) (h2 : ¬ c → C7 P y) : C7 P (if c then x else y) := by
  by_cases h : c
  · rw [if_pos h]; exact h1 h
  · rw [if_neg h]; exact h2 h
theorem c7_2 {P : Prop} : C7 P (0, 0, 2) := fun h => by simp at h
theorem c7_0 {P : Prop} {r n : Int} : C7 P (r, n, 0) := fun h => by simp at h
theorem c7_7 {P : Prop} (h : P) : C7 P (0, 0, 7) := fun _ => h
theorem cut_2 (a b : Int) (h : (dec1 [a, b]).2.2 = 7) : (224 ≤ a ∧ a < 240 ∧ 128 ≤ b ∧ b ≤ 191 ∧ (a = 224 → 160 ≤ b) ∧ (a = 237 → b ≤ 159)) ∨ (240 ≤ a ∧ a < 245 ∧ 128 ≤ b ∧ b ≤ 191 ∧ (a = 240 → 144 ≤ b) ∧ (a = 244 → b ≤ 143)) := by
  refine (?_ : C7 _ (dec1 [a, b])) h
  unfold dec1 canon
  simp only [List.getD_cons_zero, List.getD_cons_succ, List.length_cons, List.length_nil]
  refine c7_ite (fun _ => c7_0) fun n1 => c7_ite (fun _ => c7_2) fun n2 => ?_
  refine c7_ite (fun q => c7_ite (fun q => by omega) fun _ => c7_ite (fun _ => c7_2) fun _ => c7_0) fun n3 => ?_
  refine c7_ite (fun q => c7_ite (fun q => by omega) fun _ => c7_ite (fun _ => c7_2) fun n4 => c7_ite (fun _ => c7_7 (.inl ?_)) fun q => by omega) fun n4 => ?_
  · refine ⟨by omega, by omega, ?_, ?_, ?_, ?_⟩
    · by_cases e : a = 224
      · rw [if_pos e] at n4; omega
      · rw [if_neg e] at n4; omega
    · by_cases e : a = 237
      · rw [if_pos e] at n4; omega
      · rw [if_neg e] at n4; omega
    · intro e; rw [if_pos e] at n4; omega
    · intro e; rw [if_pos e] at n4; omega
  refine c7_ite (fun q => c7_ite (fun q => by omega) fun _ => c7_ite (fun _ => c7_2) fun n5 => c7_ite (fun _ => c7_7 (.inr ?_)) fun q => by omega) fun _ => c7_2
  refine ⟨by omega, by omega, ?_, ?_, ?_, ?_⟩
  · by_cases e : a = 240
    · rw [if_pos e] at n5; omega
    · rw [if_neg e] at n5; omega
  · by_cases e : a = 244
    · rw [if_pos e] at n5; omega
    · rw [if_neg e] at n5; omega
  · intro e; rw [if_pos e] at n5; omega
  · intro e; rw [if_pos e] at n5; omega
theorem cut_3 (a b c : Int) (h : (dec1 [a, b, c]).2.2 = 7) : 240 ≤ a ∧ a < 245 ∧ 128 ≤ b ∧ b ≤ 191 ∧ (a = 240 → 144 ≤ b) ∧ (a = 244 → b ≤ 143) ∧ 128 ≤ c ∧ c ≤ 191 := by
  refine (?_ : C7 _ (dec1 [a, b, c])) h
  unfold dec1 canon
  simp only [List.getD_cons_zero, List.getD_cons_succ, List.length_cons, List.length_nil]
  refine c7_ite (fun _ => c7_0) fun n1 => c7_ite (fun _ => c7_2) fun n2 => ?_
  refine c7_ite (fun q => c7_ite (fun q => by omega) fun _ => c7_ite (fun _ => c7_2) fun _ => c7_0) fun n3 => ?_
  refine c7_ite (fun q => c7_ite (fun q => by omega) fun _ => c7_ite (fun _ => c7_2) fun n4 => c7_ite (fun q => by omega) fun q => c7_ite (fun _ => c7_2) fun _ => c7_0) fun n4 => ?_
  refine c7_ite (fun q => c7_ite (fun q => by omega) fun _ => c7_ite (fun _ => c7_2) fun n5 => c7_ite (fun q => by omega) fun q => c7_ite (fun _ => c7_2) fun n6 => c7_ite (fun _ => c7_7 ?_) fun q => by omega) fun _ => c7_2
  refine ⟨by omega, by omega, ?_, ?_, ?_, ?_, by omega, by omega⟩
  · by_cases e : a = 240
    · rw [if_pos e] at n5; omega
    · rw [if_neg e] at n5; omega
  · by_cases e : a = 244
    · rw [if_pos e] at n5; omega
    · rw [if_neg e] at n5; omega
  · intro e; rw [if_pos e] at n5; omega
  · intro e; rw [if_pos e] at n5; omega
theorem cut_4 (L : List Int) (h : 4 ≤ L.length) : (dec1 L).2.2 ≠ 7 := by
  intro h7
  refine (?_ : C7 False (dec1 L)) h7
  unfold dec1 canon
  refine c7_ite (fun _ => c7_0) fun n1 => c7_ite (fun _ => c7_2) fun n2 => ?_
  refine c7_ite (fun q => c7_ite (fun q => by omega) fun _ => c7_ite (fun _ => c7_2) fun _ => c7_0) fun n3 => ?_
  refine c7_ite (fun q => c7_ite (fun q => by omega) fun _ => c7_ite (fun _ => c7_2) fun n4 => c7_ite (fun q => by omega) fun q => c7_ite (fun _ => c7_2) fun _ => c7_0) fun n4 => ?_
  exact c7_ite (fun q => c7_ite (fun q => by omega) fun _ => c7_ite (fun _ => c7_2) fun n5 => c7_ite (fun q => by omega) fun q => c7_ite (fun _ => c7_2) fun n6 => c7_ite (fun q => by omega) fun _ => c7_ite (fun _ => c7_2) fun _ => c7_0) fun _ => c7_2

/-- Bytes, few of them: they are cut off just where the search finds a rune. -/
theorem srch_iff (F : List Int) (h1 : 1 ≤ F.length) (h3 : F.length ≤ 3) : (∃ t, F.length < t ∧ t ≤ 4 ∧ Srch F t) ↔ (dec1 F).2.2 = 7 := by
  refine ⟨fun ⟨t, a, b, _, _, k, _, hk⟩ => hit_cut F t k h1 a hk, fun h => ?_⟩
  match F, h1, h3, h with
  | [a], _, _, h =>
    obtain ⟨q1, q2⟩ := cut_1 a h
    have ht : Tl [a] := fun i i1 i2 => by simp at i2; omega
    by_cases c1 : a < 224
    · exact ⟨2, by simp, by omega, ht, .inl ⟨rfl, by simp; omega, by simpa using c1⟩, 0, by omega, hit2 [a] 0 rfl (by simpa using q1) (by simpa using c1)⟩
    by_cases c2 : a < 240
    · exact ⟨3, by simp, by omega, ht, .inr (.inl ⟨rfl, by simp; omega, by simpa using c2⟩), hit3 a (by omega) c2⟩
    · exact ⟨4, by simp, by omega, ht, .inr (.inr ⟨rfl, by simp; omega, by simp; omega⟩), hit4 a (by omega) q2⟩
  | [a, b], _, _, h =>
    have ht : 128 ≤ b → b ≤ 191 → Tl [a, b] := fun b1 b2 i i1 i2 => by
      have : i = 1 := by simp at i2; omega
      subst this
      simp; omega
    rcases cut_2 a b h with ⟨q1, q2, q3, q4, q5, q6⟩ | ⟨q1, q2, q3, q4, q5, q6⟩
    · exact ⟨3, by simp, by omega, ht q3 q4, .inr (.inl ⟨rfl, by simpa using q1, by simpa using q2⟩), 0, by omega, hit32 a b q1 q2 q3 q4 q5 q6⟩
    · exact ⟨4, by simp, by omega, ht q3 q4, .inr (.inr ⟨rfl, by simpa using q1, by simp; omega⟩), 0, by omega, hit42 a b q1 q2 q3 q4 q5 q6⟩
  | [a, b, c], _, _, h =>
    obtain ⟨q1, q2, q3, q4, q5, q6, q7, q8⟩ := cut_3 a b c h
    have ht : Tl [a, b, c] := fun i i1 i2 => by
      have : i = 1 ∨ i = 2 := by simp at i2; omega
      rcases this with rfl | rfl
      · simp; omega
      · simp; omega
    exact ⟨4, by simp, by omega, ht, .inr (.inr ⟨rfl, by simpa using q1, by simp; omega⟩), 0, by omega, hit43 a b c q1 q2 q3 q4 q5 q6 q7 q8⟩
end Go.Proofs.YtnomcldpbkinmaaGreatDoor

/- The walk of the document's Put. -/
set_option linter.unusedSimpArgs false
set_option linter.unusedVariables false
namespace Go.Proofs.YtnomcldpbkinmaaGreatDoor
open Go.RowKit

def RefPutPost (w : World) (l : List Int) (e : Ending) (w' : World) : Prop := ∃ v, e = .returned v ∧ OwnB w' w.heap.size v l ∧ Below w.heap.size w w'

theorem refput_post (w : World) (ys : List Int) (cs : Array Value) (h : cs.toList = ys.map (Value.int .u8)) (hl : ys.length ≤ 10000) :
    RefPutPost w ys (.returned (.slice (some ⟨w.heap.size, 0, none⟩) ys.length ys.length)) (w.alloc (.cells cs 5)) := by
  refine ⟨_, rfl, ?_, (Below.refl _ w).alloc (Nat.le_refl _) _⟩
  unfold OwnB
  have := World.ownsRow_lit (base := w.heap.size) (e := 5) (size := 1) w cs ys.length (Nat.le_refl _) (by unfold maxLen; omega) (by rw [← Array.length_toList, h]; simp)
  rw [h] at this
  exact this

set_option maxHeartbeats 1000000 in
set_option maxRecDepth 100000 in
theorem refput1 (r : Int) (w : World) (h0 : 0 ≤ r) (h1 : r < 128) : Calls Tryz.prog 52 #[.int .i64 r] w (RefPutPost w [r]) := by
  go_enter Tryz.func52, Tryz.ntmps52
  go_wp2
  go_ret
  exact refput_post w [r] #[.int .u8 (r)] rfl (by simp)

set_option maxHeartbeats 1000000 in
set_option maxRecDepth 100000 in
theorem refput2 (r : Int) (w : World) (h0 : 128 ≤ r) (h1 : r < 2048) : Calls Tryz.prog 52 #[.int .i64 r] w (RefPutPost w [192 + r / 64, 128 + r % 64]) := by
  go_enter Tryz.func52, Tryz.ntmps52
  go_wp2
  go_ret
  exact refput_post w [192 + r / 64, 128 + r % 64] #[.int .u8 (192 + r / 64), .int .u8 (128 + r % 64)] rfl (by simp)

set_option maxHeartbeats 1000000 in
set_option maxRecDepth 100000 in
theorem refput3a (r : Int) (w : World) (h0 : 2048 ≤ r) (h1 : r < 55296) : Calls Tryz.prog 52 #[.int .i64 r] w (RefPutPost w [224 + r / 4096, 128 + r / 64 % 64, 128 + r % 64]) := by
  go_enter Tryz.func52, Tryz.ntmps52
  go_wp2
  go_ret
  exact refput_post w [224 + r / 4096, 128 + r / 64 % 64, 128 + r % 64] #[.int .u8 (224 + r / 4096), .int .u8 (128 + r / 64 % 64), .int .u8 (128 + r % 64)] rfl (by simp)

set_option maxHeartbeats 1000000 in
set_option maxRecDepth 100000 in
theorem refput3b (r : Int) (w : World) (h0 : 57343 < r) (h1 : r < 65536) : Calls Tryz.prog 52 #[.int .i64 r] w (RefPutPost w [224 + r / 4096, 128 + r / 64 % 64, 128 + r % 64]) := by
  go_enter Tryz.func52, Tryz.ntmps52
  go_wp2
  go_ret
  exact refput_post w [224 + r / 4096, 128 + r / 64 % 64, 128 + r % 64] #[.int .u8 (224 + r / 4096), .int .u8 (128 + r / 64 % 64), .int .u8 (128 + r % 64)] rfl (by simp)

set_option maxHeartbeats 1000000 in
set_option maxRecDepth 100000 in
theorem refput4 (r : Int) (w : World) (h0 : 65536 ≤ r) (h1 : r ≤ 1114111) : Calls Tryz.prog 52 #[.int .i64 r] w (RefPutPost w [240 + r / 262144, 128 + r / 4096 % 64, 128 + r / 64 % 64, 128 + r % 64]) := by
  go_enter Tryz.func52, Tryz.ntmps52
  go_wp2
  go_ret
  exact refput_post w [240 + r / 262144, 128 + r / 4096 % 64, 128 + r / 64 % 64, 128 + r % 64] #[.int .u8 (240 + r / 262144), .int .u8 (128 + r / 4096 % 64), .int .u8 (128 + r / 64 % 64), .int .u8 (128 + r % 64)] rfl (by simp)

set_option maxHeartbeats 1000000 in
set_option maxRecDepth 100000 in
theorem refputbad1 (r : Int) (w : World) (h0 : r < 0) : Calls Tryz.prog 52 #[.int .i64 r] w (RefPutPost w []) := by
  go_enter Tryz.func52, Tryz.ntmps52
  go_wp2
  go_ret
  exact ⟨_, rfl, World.ownsRow_nil _ _ _ _, Below.refl _ _⟩

set_option maxHeartbeats 1000000 in
set_option maxRecDepth 100000 in
theorem refputbad2 (r : Int) (w : World) (h0 : 1114111 < r) : Calls Tryz.prog 52 #[.int .i64 r] w (RefPutPost w []) := by
  go_enter Tryz.func52, Tryz.ntmps52
  go_wp2
  go_ret
  exact ⟨_, rfl, World.ownsRow_nil _ _ _ _, Below.refl _ _⟩

set_option maxHeartbeats 1000000 in
set_option maxRecDepth 100000 in
theorem refputbad3 (r : Int) (w : World) (h0 : 55296 ≤ r) (h1 : r ≤ 57343) : Calls Tryz.prog 52 #[.int .i64 r] w (RefPutPost w []) := by
  go_enter Tryz.func52, Tryz.ntmps52
  go_wp2
  go_ret
  exact ⟨_, rfl, World.ownsRow_nil _ _ _ _, Below.refl _ _⟩

theorem refput_any (r : Int) (w : World) : Calls Tryz.prog 52 #[.int .i64 r] w (RefPutPost w (refPut r)) := by
  by_cases hb : Bad r
  · rw [refPut, if_pos hb]
    rcases hb with h | h | ⟨h, h2⟩
    · exact refputbad1 r w h
    · exact refputbad2 r w h
    · exact refputbad3 r w h h2
  · rw [refPut, if_neg hb]
    unfold Bad at hb
    by_cases h1 : r < 128
    · rw [enc1 h1]; exact refput1 r w (by omega) h1
    by_cases h2 : r < 2048
    · rw [enc2 (by omega) h2]; exact refput2 r w (by omega) h2
    by_cases h3 : r < 55296
    · rw [enc3 (by omega) (by omega)]; exact refput3a r w (by omega) h3
    by_cases h4 : r < 65536
    · rw [enc3 (by omega) (by omega)]; exact refput3b r w (by omega) h4
    · rw [enc4 (by omega)]; exact refput4 r w (by omega) (by omega)
end Go.Proofs.YtnomcldpbkinmaaGreatDoor

/- What the walk of the document's cut needs. -/
set_option linter.unusedSimpArgs false
set_option linter.unusedVariables false
namespace Go.Proofs.YtnomcldpbkinmaaGreatDoor
open Go.RowKit

def CutPost (F : List Int) (w : World) (e : Ending) (w' : World) : Prop :=
  ∃ b : Bool, e = .returned (.bool b) ∧ (b = true ↔ (dec1 F).2.2 = 7) ∧ Below w.heap.size w w'
def CutRel (F : List Int) (w : World) (t : Value) (wr : World) : Prop :=
  ∃ k : Nat, F.length < k ∧ k ≤ 5 ∧ t = .int .i64 k ∧ (∀ j, F.length < j → j < k → ¬ Srch F j) ∧ Below w.heap.size w wr
def LowRel (F : List Int) (t : Nat) (l h : Value) : Prop :=
  ∃ (j : Nat) (lo hi : ByteArray), F.length + j ≤ t ∧ l = .string lo ∧ h = .string hi ∧ byts lo = F ++ List.replicate j 128 ∧ byts hi = F ++ List.replicate j 191
theorem byts_app (a b : ByteArray) : byts (a ++ b) = byts a ++ byts b := by
  unfold byts
  rw [ByteArray.data_append, Array.toList_append, List.map_append]
theorem rep_snoc (j : Nat) (x : Int) : List.replicate j x ++ [x] = List.replicate (j + 1) x := by
  rw [List.replicate_succ']

theorem val_bt (s : ByteArray) (n : Nat) : valG (bt s) n n = valL (byts s) n := by
  unfold valL
  congr 1
  funext k
  exact bt_byts s k
theorem F_get {s : ByteArray} {a : Nat} {F : List Int} (h : F = (byts s).drop a) (k : Nat) (hk : a + k < s.size) : ((s[a + k]'hk).toNat : Int) = F.getD k 0 := by
  rw [bt_eq s (a + k) hk, bt_byts, h]
  simp [List.getD_eq_getElem?_getD, List.getElem?_drop]
theorem tl_step {F : List Int} {k : Nat} {c d : Bool} (hc : c = true ↔ ∀ j, 1 ≤ j → j < k → 128 ≤ F.getD j 0 ∧ F.getD j 0 ≤ 191) (hk : 1 ≤ k)
    (hd : d = true ↔ c = true ∧ 128 ≤ F.getD k 0 ∧ F.getD k 0 ≤ 191) : d = true ↔ ∀ j, 1 ≤ j → j < k + 1 → 128 ≤ F.getD j 0 ∧ F.getD j 0 ≤ 191 := by
  rw [hd, hc]
  refine ⟨fun ⟨h1, h2⟩ j j1 j2 => ?_, fun h => ⟨fun j j1 j2 => h j j1 (by omega), h k hk (by omega)⟩⟩
  rcases Nat.lt_or_ge j k with h | h
  · exact h1 j j1 h
  · obtain rfl : j = k := by omega
    exact h2
theorem F_get0 {s : ByteArray} {a : Nat} {F : List Int} (h : F = (byts s).drop a) (hk : a < s.size) : ((s[a]'hk).toNat : Int) = F.getD 0 0 := F_get h 0 hk
def TlRel (F : List Int) (b i : Value) : Prop :=
  ∃ (k : Nat) (c : Bool), 1 ≤ k ∧ k ≤ F.length ∧ i = .int .i64 k ∧ b = .bool c ∧ (c = true ↔ ∀ j, 1 ≤ j → j < k → 128 ≤ F.getD j 0 ∧ F.getD j 0 ≤ 191)

theorem stp_bd (j : Nat) : 1 ≤ stp j ∧ stp j ≤ 4161 := by unfold stp; repeat' split <;> omega
theorem stp_mul (j k : Nat) (hk : k ≤ 64) : 0 ≤ stp j * (k : Int) ∧ stp j * (k : Int) ≤ 300000 := by
  have h := stp_bd j
  refine ⟨Int.mul_nonneg (by omega) (by omega), ?_⟩
  have : stp j * (k : Int) ≤ 4161 * 64 := Int.mul_le_mul h.2 (by omega) (by omega) (by omega)
  omega
/-- What the search compares, where the lengths agree. -/
theorem begP_hit (q F : List Int) (h0 : NN q) (h1 : ∀ x ∈ q, x ≤ 255) (hF : 0 < F.length) (hlt : F.length < q.length) :
    begP (strOfNums q ++ ⟨#[120]⟩) 0 F ↔ q.take F.length = F := by
  have hb : byts (strOfNums q ++ (⟨#[120]⟩ : ByteArray)) = q ++ [120] := by rw [byts_app, byts_str q h0 h1]; rfl
  have hz : (strOfNums q ++ (⟨#[120]⟩ : ByteArray)).size = q.length + 1 := by rw [← byts_len, hb]; simp
  have hg : ∀ j, j < F.length → bt (strOfNums q ++ (⟨#[120]⟩ : ByteArray)) (0 + j) = q.getD j 0 := fun j hj => by
    rw [bt_byts, hb, Nat.zero_add]
    rw [List.getD_eq_getElem?_getD, List.getElem?_append_left (by omega), List.getD_eq_getElem?_getD]
  refine ⟨fun ⟨_, _, h⟩ => ?_, fun h => ⟨hF, by omega, fun j hj => ?_⟩⟩
  · refine List.ext_getElem (by rw [List.length_take]; omega) fun i i1 i2 => ?_
    have := h i i2
    rw [hg i i2] at this
    simp only [List.getD_eq_getElem?_getD, List.getElem?_eq_getElem i2, List.getElem?_eq_getElem (show i < q.length by omega), Option.getD_some] at this
    rw [List.getElem_take]
    exact this
  · rw [hg j hj]
    have := congrArg (fun l => l.getD j 0) h
    simp only [List.getD_eq_getElem?_getD, List.getElem?_take, hj, if_true] at this ⊢
    exact this
theorem begins0 (s : ByteArray) (A : Option Addr) (c m : Nat) (L : List Int) (w : World) (h : Rd .u8 w w.heap.size A L) (hs : s.size ≤ 100000) (hL : L.length ≤ 100000) (hm : m = L.length) (b : Bool) (hp : b = true ↔ begP s 0 L) :
    Calls Tryz.prog 74 #[.string s, .int .i64 0, .slice A m c] w fun e w' => e = .returned (.bool b) ∧ Below w.heap.size w w' := by
  subst hm
  cases b with
  | true => exact begins_yes s 0 A c L w h hs hL (by omega) (hp.1 rfl)
  | false => exact begins_no s 0 A c L w h hs hL (by omega) fun hq => by cases hp.2 hq
/-- The bytes that '[]byte(s)' lays. -/
theorem rd_bytes (w : World) (E : ByteArray) (c : Nat) (fr : Nat × Nat) : Rd .u8 (w.alloc (.cells (bytesRow E c) 5 fr)) (w.alloc (.cells (bytesRow E c) 5 fr)).heap.size (some ⟨w.heap.size, 0, none⟩) (byts E) := by
  refine .inr ⟨w.heap.size, 0, rfl, by simp, fun j hj => ?_⟩
  rw [Nat.zero_add]
  have := cell_of_row (w.alloc (.cells (bytesRow E c) 5 fr)) w.heap.size j (bytesRow E c) 5 fr (heap_alloc_new w _)
  rw [this]
  rw [byts_len] at hj
  have hj' : j < E.data.size := hj
  simp only [bytesRow, byts, Array.getElem?_append, List.getD_eq_getElem?_getD, Array.size_map, hj', if_true, Array.getElem?_map, List.getElem?_map, Array.getElem?_toList, Array.getElem?_eq_getElem hj', Option.map_some, Option.getD_some]
def SrRel (F : List Int) (t : Nat) (w : World) (i : Value) (wr : World) : Prop :=
  ∃ k : Nat, k ≤ 64 ∧ i = .int .i64 k ∧ (∀ j, j < k → ¬ Hit F t j) ∧ Below w.heap.size w wr
theorem no_more {F : List Int} {t : Nat} (h : ∀ j, F.length < j → j < t → ¬ Srch F j) (hn : ¬ Srch F t) : ∀ j, F.length < j → j < t + 1 → ¬ Srch F j := fun j j1 j2 => by
  rcases Nat.lt_or_ge j t with h' | h'
  · exact h j j1 h'
  · obtain rfl : j = t := by omega
    exact hn

theorem refPut_nn (r : Int) : NN (refPut r) ∧ ∀ x ∈ refPut r, x ≤ 255 := by
  by_cases h : Bad r
  · rw [refPut, if_pos h]
    exact ⟨fun x hx => by simp at hx, fun x hx => by simp at hx⟩
  · rw [refPut_ok h]
    exact encB_nn r h
theorem hit_more {F : List Int} {t k : Nat} (h : ∀ j, j < k → ¬ Hit F t j) (hn : ¬ Hit F t k) : ∀ j, j < k + 1 → ¬ Hit F t j := fun j j2 => by
  rcases Nat.lt_or_ge j k with h' | h'
  · exact h j h'
  · obtain rfl : j = k := by omega
    exact hn
end Go.Proofs.YtnomcldpbkinmaaGreatDoor
