/-
  The walk of the document's Rune.
-/
import Derived.Test.YtkaimohkdkdbmaaDoorCut
set_option linter.unusedSimpArgs false
set_option linter.unusedVariables false
namespace Go.Proofs.YtkaimohkdkdbmaaDoor
open Go.RowKit

set_option maxHeartbeats 1000000 in
set_option maxRecDepth 100000 in
theorem cut_long (s : ByteArray) (a : Nat) (w : World) (hs : s.size ≤ 1000) (h : a + 4 ≤ s.size) :
    Calls Tryd.prog 28 #[.string s, .int .i64 a] w fun e w' => e = .returned (.bool false) ∧ Below w.heap.size w w' := by
  have t1 : decide ((s.size : Int) - (a : Int) < 1) = false := by simp; omega
  have t2 : decide ((3 : Int) < (s.size : Int) - (a : Int)) = true := by simp; omega
  go_enter Tryd.func28, Tryd.ntmps28
  go_wp2
  go_ret
  exact ⟨rfl, Below.refl _ _⟩
/-- cut, at a place within the text: is all from there on cut off? -/
theorem cut_at_any (s : ByteArray) (a : Nat) (w : World) (hs : s.size ≤ 1000) (h : a < s.size) : Calls Tryd.prog 28 #[.string s, .int .i64 a] w (CutPost ((byts s).drop a) w) := by
  have hl : ((byts s).drop a).length = s.size - a := by rw [List.length_drop, byts_len]
  by_cases h4 : s.size - a ≤ 3
  · exact cut_any s a _ w hs rfl (by omega) (by omega)
  · exact (cut_long s a w hs (by omega)).mono fun e w' ⟨h1, h2⟩ => ⟨false, h1, ⟨(fun h => by cases h), fun h => absurd h (cut_4 _ (by omega))⟩, h2⟩
theorem cut_yes (s : ByteArray) (a : Nat) (w : World) (hs : s.size ≤ 1000) (h : a < s.size) (h7 : (runeF s a).2.2 = 7) : Calls Tryd.prog 28 #[.string s, .int .i64 a] w fun e w' => e = .returned (.bool true) ∧ Below w.heap.size w w' :=
  (cut_at_any s a w hs h).mono fun e w' ⟨b, h1, h2, h3⟩ => ⟨by rw [h1, h2.2 (by rw [← runeF_dec s a h]; exact h7)], h3⟩
theorem cut_no (s : ByteArray) (a : Nat) (w : World) (hs : s.size ≤ 1000) (h : a < s.size) (h7 : (runeF s a).2.2 ≠ 7) : Calls Tryd.prog 28 #[.string s, .int .i64 a] w fun e w' => e = .returned (.bool false) ∧ Below w.heap.size w w' :=
  (cut_at_any s a w hs h).mono fun e w' ⟨b, h1, h2, h3⟩ => by
    have hb : b = false := Bool.eq_false_iff.2 fun hb => h7 (by rw [runeF_dec s a h]; exact h2.1 hb)
    exact ⟨by rw [h1, hb], h3⟩

def R3i (x : Int × Int × Int) : Value := .tuple #[.int .i64 x.1, .int .i64 x.2.1, .int .i64 x.2.2]
def RefPost (x : Int × Int × Int) (w : World) (e : Ending) (w' : World) : Prop := e = .returned (R3i x) ∧ Below w.heap.size w w'
def RefRel (L : List Int) (w : World) (i : Value) (wr : World) : Prop :=
  ∃ n : Nat, 1 ≤ n ∧ n ≤ 5 ∧ n ≤ L.length + 1 ∧ i = .int .i64 n ∧ (∀ m, 1 ≤ m → m < n → ¬ Try1 L m) ∧ Below w.heap.size w wr
theorem begP_at (s : ByteArray) (a : Nat) (q : List Int) (hq : 0 < q.length) (h : a + q.length ≤ s.size) : begP s a q ↔ ((byts s).drop a).take q.length = q := by
  have hg : ∀ j, bt s (a + j) = ((byts s).drop a).getD j 0 := fun j => by
    rw [bt_byts]
    simp [List.getD_eq_getElem?_getD, List.getElem?_drop]
  have hl : ((byts s).drop a).length = s.size - a := by rw [List.length_drop, byts_len]
  generalize (byts s).drop a = L at *
  refine ⟨fun ⟨_, _, h1⟩ => ?_, fun h1 => ⟨hq, h, fun j hj => ?_⟩⟩
  · refine List.ext_getElem (by rw [List.length_take]; omega) fun i i1 i2 => ?_
    have := h1 i i2
    rw [hg i] at this
    simp only [List.getD_eq_getElem?_getD, List.getElem?_eq_getElem i2, List.getElem?_eq_getElem (show i < L.length by omega), Option.getD_some] at this
    rw [List.getElem_take]
    exact this
  · rw [hg j]
    have := congrArg (fun l => l.getD j 0) h1
    simp only [List.getD_eq_getElem?_getD, List.getElem?_take, hj, if_true] at this ⊢
    exact this
theorem try_more {L : List Int} {n : Nat} (h : ∀ m, 1 ≤ m → m < n → ¬ Try1 L m) (hn : ¬ Try1 L n) : ∀ m, 1 ≤ m → m < n + 1 → ¬ Try1 L m := fun j j1 j2 => by
  rcases Nat.lt_or_ge j n with h' | h'
  · exact h j j1 h'
  · obtain rfl : j = n := by omega
    exact hn
/-- The value that is tried at n bytes, where it is walked. -/
theorem value_at (s : ByteArray) (a n : Nat) (h2 : 2 ≤ n) : valG (fun i => bt s (a + i)) n n = vAt ((byts s).drop a) n := by
  rw [vAt, if_neg (by omega)]
  unfold valL
  congr 1
  funext j
  rw [bt_byts]
  simp [List.getD_eq_getElem?_getD, List.getElem?_drop]
theorem err_of {L : List Int} (hl : L ≠ []) (hn : NN L) (h : ∀ m, 1 ≤ m → m ≤ 4 → m ≤ L.length → ¬ Try1 L m) : (dec1 L).2.2 ≠ 0 := fun h0 => by
  obtain ⟨n, n1, n4, nl, ht⟩ := dec_try L hl hn h0
  exact h n n1 n4 nl ht

set_option maxHeartbeats 4000000 in
set_option maxRecDepth 100000 in
theorem ref_rune_in (s : ByteArray) (a : Nat) (L : List Int) (w : World) (hs : s.size ≤ 1000) (ha : a < s.size) (hL : L = (byts s).drop a) :
    Calls Tryd.prog 19 #[.string s, .int .i64 a] w (RefPost (runeF s a) w) := by
  have hlen : L.length = s.size - a := by rw [hL, List.length_drop, byts_len]
  have hdec := runeF_dec s a ha
  rw [← hL] at hdec
  have hne : L ≠ [] := fun e => by rw [e] at hlen; simp at hlen; omega
  have hnn : NN L := by rw [hL]; exact (byts_nn s).drop a
  have hk := runeF_okay s a ha
  have HL := Lib.hid hL
  have HD := Lib.hid hdec
  have HE := Lib.hid (fun h => err_of hne hnn h)
  have HK := Lib.hid hk
  have hl1 : L.length ≤ s.size - a := by omega
  have hl2 : s.size - a ≤ L.length := by omega
  clear hlen hdec hne hnn hk hL
  have t1 : decide ((a : Int) < 0) = false := by simp
  have t2 : decide (s.size ≤ a) = false := by simp; omega
  go_enter Tryd.func19, Tryd.ntmps19
  go_wp2_with fail
  go_loopw [7] (fun i wr => RefRel L w i wr) (fun i _ => 5 - (intOf i).toNat)
  case atStart => exact ⟨1, by omega, by omega, by omega, rfl, fun m m1 m2 => by omega, Below.refl _ _⟩
  case round =>
    obtain ⟨n, hn1, hn5, hnl, rfl, hno, hbel⟩ := hrel
    have HNO := Lib.hid hno
    clear hno
    have hsz := hbel.size
    by_cases h4 : n ≤ 4
    · have t4 : decide ((n : Int) ≤ 4) = true := by simp; omega
      by_cases hfit : a + n ≤ s.size
      · have t5 : decide ((a : Int) + (n : Int) ≤ (s.size : Int)) = true := by simp; omega
        have hx := bt_eq s a ha
        have HX := Lib.hid hx
        clear hx
        by_cases hone : n = 1
        · have tgt : decide ((1 : Int) < (n : Int)) = false := by simp; omega
          have hv : ((s[a].toNat : Nat) : Int) = vAt L n := by
            rw [HX.out, bt_byts, hone, vAt, if_pos rfl, HL.out]
            simp [List.getD_eq_getElem?_getD, List.getElem?_drop]
          have HV := Lib.hid hv
          have hby : (s[a].toNat : Int) < 256 := by have := s[a].toNat_lt; omega
          clear hv hone
          go_wp2_with fail
          rw [HV.out]
          clear HV
          have HT := Lib.hid (show Try1 L n ↔ ((refPut (vAt L n)).length = n ∧ L.take n = refPut (vAt L n)) from Iff.rfl)
          have HTD := Lib.hid (fun h => try_dec L n hn1 h)
          generalize vAt L n = V at *
          have C1 := Lib.hid (fun W => refput_any V W)
          generalize refPut V = q at HT C1
          refine (C1.out _).mono ?_
          rintro e w5 ⟨p, rfl, hown5, hbel5⟩
          obtain ⟨A5, c5, rfl, rd5⟩ := own_rd hown5
          clear hown5 C1
          have hb6 : Below w.heap.size w w5 := hbel.trans (hbel5.mono hsz)
          by_cases hql : q.length = n
          · have tq : ((q.length : Int) == (n : Int)) = true := by simp; omega
            have HP := Lib.hid (begP_at s a q (by omega) (by omega))
            by_cases hit : L.take n = q
            · have CB := begins_yes s a A5 c5 q w5 rd5 (by omega) (by omega) (by omega) (by rw [HP.out, ← HL.out, hql]; exact hit)
              have HB := Lib.hid CB
              have HR : Hid (runeF s a = (V, (n : Int), 0)) := by show _ = _; rw [HD.out]; exact HTD.out (HT.out.2 ⟨hql, hit⟩)
              have HQ := Lib.hid hql
              clear CB hit hql HT HTD
              go_wp2_with (go_at_call 27; refine HB.out.mono ?_; rintro e w9 ⟨rfl, hb9⟩)
              go_ret3
              exact ⟨by rw [HR.out]; rfl, hb6.trans (hb9.mono hb6.size)⟩
            · have CB := begins_no s a A5 c5 q w5 rd5 (by omega) (by omega) (by omega) (by rw [HP.out, ← HL.out, hql]; exact hit)
              have HB := Lib.hid CB
              have HNT : Hid (∀ m, 1 ≤ m → m < n + 1 → ¬ Try1 L m) := try_more HNO.out fun h => hit (HT.out.1 h).2
              have HQ := Lib.hid hql
              clear CB hit hql HT HTD HNO
              go_wp2_with (go_at_call 27; refine HB.out.mono ?_; rintro e w9 ⟨rfl, hb9⟩)
              go_roundw
              case rel => exact ⟨n + 1, by omega, by omega, by omega, by go_num, HNT.out, hb6.trans (hb9.mono hb6.size)⟩
              case measure => simp [intOf]; omega
          · have tq : ((q.length : Int) == (n : Int)) = false := by simp; omega
            have HNT : Hid (∀ m, 1 ≤ m → m < n + 1 → ¬ Try1 L m) := try_more HNO.out fun h => hql (HT.out.1 h).1
            clear hql HT HTD HNO
            go_wp2
            go_roundw
            case rel => exact ⟨n + 1, by omega, by omega, by omega, by go_num, HNT.out, hb6⟩
            case measure => simp [intOf]; omega
        · have tgt : decide ((1 : Int) < (n : Int)) = true := by simp; omega
          have CV := value_any s a n wr (by omega) hfit (by omega) h4
          rw [value_at s a n (by omega), ← HL.out] at CV
          have HV := Lib.hid CV
          clear CV hone
          go_wp2_with fail
          refine HV.out.mono ?_
          rintro e w4 ⟨rfl, rfl⟩
          clear HV
          go_wp2_with fail
          have HT := Lib.hid (show Try1 L n ↔ ((refPut (vAt L n)).length = n ∧ L.take n = refPut (vAt L n)) from Iff.rfl)
          have HTD := Lib.hid (fun h => try_dec L n hn1 h)
          generalize vAt L n = V at *
          have C1 := Lib.hid (fun W => refput_any V W)
          generalize refPut V = q at HT C1
          refine (C1.out _).mono ?_
          rintro e w5 ⟨p, rfl, hown5, hbel5⟩
          obtain ⟨A5, c5, rfl, rd5⟩ := own_rd hown5
          clear hown5 C1
          have hb6 : Below w.heap.size w w5 := hbel.trans (hbel5.mono hsz)
          by_cases hql : q.length = n
          · have tq : ((q.length : Int) == (n : Int)) = true := by simp; omega
            have HP := Lib.hid (begP_at s a q (by omega) (by omega))
            by_cases hit : L.take n = q
            · have CB := begins_yes s a A5 c5 q w5 rd5 (by omega) (by omega) (by omega) (by rw [HP.out, ← HL.out, hql]; exact hit)
              have HB := Lib.hid CB
              have HR : Hid (runeF s a = (V, (n : Int), 0)) := by show _ = _; rw [HD.out]; exact HTD.out (HT.out.2 ⟨hql, hit⟩)
              have HQ := Lib.hid hql
              clear CB hit hql HT HTD
              go_wp2_with (go_at_call 27; refine HB.out.mono ?_; rintro e w9 ⟨rfl, hb9⟩)
              go_ret3
              exact ⟨by rw [HR.out]; rfl, hb6.trans (hb9.mono hb6.size)⟩
            · have CB := begins_no s a A5 c5 q w5 rd5 (by omega) (by omega) (by omega) (by rw [HP.out, ← HL.out, hql]; exact hit)
              have HB := Lib.hid CB
              have HNT : Hid (∀ m, 1 ≤ m → m < n + 1 → ¬ Try1 L m) := try_more HNO.out fun h => hit (HT.out.1 h).2
              have HQ := Lib.hid hql
              clear CB hit hql HT HTD HNO
              go_wp2_with (go_at_call 27; refine HB.out.mono ?_; rintro e w9 ⟨rfl, hb9⟩)
              go_roundw
              case rel => exact ⟨n + 1, by omega, by omega, by omega, by go_num, HNT.out, hb6.trans (hb9.mono hb6.size)⟩
              case measure => simp [intOf]; omega
          · have tq : ((q.length : Int) == (n : Int)) = false := by simp; omega
            have HNT : Hid (∀ m, 1 ≤ m → m < n + 1 → ¬ Try1 L m) := try_more HNO.out fun h => hql (HT.out.1 h).1
            clear hql HT HTD HNO
            go_wp2
            go_roundw
            case rel => exact ⟨n + 1, by omega, by omega, by omega, by go_num, HNT.out, hb6⟩
            case measure => simp [intOf]; omega
      · have t5 : decide ((a : Int) + (n : Int) ≤ (s.size : Int)) = false := by simp; omega
        have HR : Hid ((runeF s a).2.2 ≠ 0) := by
          show _ ≠ _
          rw [HD.out]
          exact HE.out fun m m1 m4 ml => HNO.out m m1 (by omega)
        have hk := HK.out
        have hr2 := HR.out
        clear HR HK HNO HE HD
        obtain ⟨x1, x2, x3, hx⟩ : ∃ x1 x2 x3, runeF s a = (x1, x2, x3) := ⟨_, _, _, rfl⟩
        rw [hx] at hk hr2
        unfold Okay at hk
        dsimp only at hk hr2
        have z1 : x1 = 0 := by omega
        have z2 : x2 = 0 := by omega
        have z3 : x3 = 2 ∨ x3 = 7 := by omega
        subst z1 z2
        clear hk hr2
        rcases z3 with rfl | rfl
        · have CC := cut_no s a wr hs ha (by rw [hx]; simp)
          have HC := Lib.hid CC
          have HXX := Lib.hid hx
          clear CC hx
          go_wp2_with (go_at_call 28; refine HC.out.mono ?_; rintro e w9 ⟨rfl, hb9⟩)
          go_ret3
          exact ⟨by rw [HXX.out]; rfl, hbel.trans (hb9.mono hsz)⟩
        · have CC := cut_yes s a wr hs ha (by rw [hx])
          have HC := Lib.hid CC
          have HXX := Lib.hid hx
          clear CC hx
          go_wp2_with (go_at_call 28; refine HC.out.mono ?_; rintro e w9 ⟨rfl, hb9⟩)
          go_ret3
          exact ⟨by rw [HXX.out]; rfl, hbel.trans (hb9.mono hsz)⟩
    · have t4 : decide ((n : Int) ≤ 4) = false := by simp; omega
      have HR : Hid ((runeF s a).2.2 ≠ 0) := by
        show _ ≠ _
        rw [HD.out]
        exact HE.out fun m m1 m4 ml => HNO.out m m1 (by omega)
      have hk := HK.out
      have hr2 := HR.out
      clear HR HK HNO HE HD
      obtain ⟨x1, x2, x3, hx⟩ : ∃ x1 x2 x3, runeF s a = (x1, x2, x3) := ⟨_, _, _, rfl⟩
      rw [hx] at hk hr2
      unfold Okay at hk
      dsimp only at hk hr2
      have z1 : x1 = 0 := by omega
      have z2 : x2 = 0 := by omega
      have z3 : x3 = 2 ∨ x3 = 7 := by omega
      subst z1 z2
      clear hk hr2
      rcases z3 with rfl | rfl
      · have CC := cut_no s a wr hs ha (by rw [hx]; simp)
        have HC := Lib.hid CC
        have HXX := Lib.hid hx
        clear CC hx
        go_wp2_with (go_at_call 28; refine HC.out.mono ?_; rintro e w9 ⟨rfl, hb9⟩)
        go_ret3
        exact ⟨by rw [HXX.out]; rfl, hbel.trans (hb9.mono hsz)⟩
      · have CC := cut_yes s a wr hs ha (by rw [hx])
        have HC := Lib.hid CC
        have HXX := Lib.hid hx
        clear CC hx
        go_wp2_with (go_at_call 28; refine HC.out.mono ?_; rintro e w9 ⟨rfl, hb9⟩)
        go_ret3
        exact ⟨by rw [HXX.out]; rfl, hbel.trans (hb9.mono hsz)⟩

set_option maxHeartbeats 400000 in
theorem ref_rune_out (s : ByteArray) (a : Int) (w : World) (hs : s.size ≤ 1000) (ha : a < 0 ∨ (s.size : Int) ≤ a) :
    Calls Tryd.prog 19 #[.string s, .int .i64 a] w (RefPost (0, 0, 7) w) := by
  by_cases h : a < 0
  · clear ha
    go_enter Tryd.func19, Tryd.ntmps19
    go_wp2
    go_ret3
    exact ⟨rfl, Below.refl _ _⟩
  · have h2 : (s.size : Int) ≤ a := by omega
    clear ha
    go_enter Tryd.func19, Tryd.ntmps19
    go_wp2
    go_ret3
    exact ⟨rfl, Below.refl _ _⟩
theorem ref_rune_any (s : ByteArray) (a : Int) (w : World) (hs : s.size ≤ 1000) :
    Calls Tryd.prog 19 #[.string s, .int .i64 a] w (RefPost (runeF s a) w) := by
  by_cases h : a < 0 ∨ (s.size : Int) ≤ a
  · have : runeF s a = (0, 0, 7) := by unfold runeF; rw [if_pos h]
    rw [this]
    exact ref_rune_out s a w hs h
  · obtain ⟨n, rfl⟩ := Int.eq_ofNat_of_zero_le (show 0 ≤ a by omega)
    exact ref_rune_in s n _ w hs (by omega) rfl
end Go.Proofs.YtkaimohkdkdbmaaDoor
