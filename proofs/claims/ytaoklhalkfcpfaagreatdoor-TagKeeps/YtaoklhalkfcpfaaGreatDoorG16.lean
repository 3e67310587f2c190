/-
  Merged by program out of the texts RefRune, RefAll, CRef, Right, TgDoc, NzWidth of one seat.
-/
import Derived.Test.YtaoklhalkfcpfaaGreatDoorG15
import Derived.Test.YtaoklhalkfcpfaaGreatDoorG02
import Derived.Test.YtaoklhalkfcpfaaGreatDoorG11
import Derived.Test.YtaoklhalkfcpfaaGreatDoorG04
import Derived.Laws.AppendOwn

/- The walk of the document's Rune. -/
set_option linter.unusedSimpArgs false
set_option linter.unusedVariables false
namespace Go.Proofs.YtaoklhalkfcpfaaGreatDoor
open Go.RowKit

set_option maxHeartbeats 1000000 in
set_option maxRecDepth 100000 in
theorem cut_long (s : ByteArray) (a : Nat) (w : World) (hs : s.size ≤ 1000) (h : a + 4 ≤ s.size) :
    Calls Tryz.prog 50 #[.string s, .int .i64 a] w fun e w' => e = .returned (.bool false) ∧ Below w.heap.size w w' := by
  have t1 : decide ((s.size : Int) - (a : Int) < 1) = false := by simp; omega
  have t2 : decide ((3 : Int) < (s.size : Int) - (a : Int)) = true := by simp; omega
  go_enter Tryz.func50, Tryz.ntmps50
  go_wp2
  go_ret
  exact ⟨rfl, Below.refl _ _⟩
/-- cut, at a place within the text: is all from there on cut off? -/
theorem cut_at_any (s : ByteArray) (a : Nat) (w : World) (hs : s.size ≤ 1000) (h : a < s.size) : Calls Tryz.prog 50 #[.string s, .int .i64 a] w (CutPost ((byts s).drop a) w) := by
  have hl : ((byts s).drop a).length = s.size - a := by rw [List.length_drop, byts_len]
  by_cases h4 : s.size - a ≤ 3
  · exact cut_any s a _ w hs rfl (by omega) (by omega)
  · exact (cut_long s a w hs (by omega)).mono fun e w' ⟨h1, h2⟩ => ⟨false, h1, ⟨(fun h => by cases h), fun h => absurd h (cut_4 _ (by omega))⟩, h2⟩
theorem cut_yes (s : ByteArray) (a : Nat) (w : World) (hs : s.size ≤ 1000) (h : a < s.size) (h7 : (runeF s a).2.2 = 7) : Calls Tryz.prog 50 #[.string s, .int .i64 a] w fun e w' => e = .returned (.bool true) ∧ Below w.heap.size w w' :=
  (cut_at_any s a w hs h).mono fun e w' ⟨b, h1, h2, h3⟩ => ⟨by rw [h1, h2.2 (by rw [← runeF_dec s a h]; exact h7)], h3⟩
theorem cut_no (s : ByteArray) (a : Nat) (w : World) (hs : s.size ≤ 1000) (h : a < s.size) (h7 : (runeF s a).2.2 ≠ 7) : Calls Tryz.prog 50 #[.string s, .int .i64 a] w fun e w' => e = .returned (.bool false) ∧ Below w.heap.size w w' :=
  (cut_at_any s a w hs h).mono fun e w' ⟨b, h1, h2, h3⟩ => by
    have hb : b = false := Bool.eq_false_iff.2 fun hb => h7 (by rw [runeF_dec s a h]; exact h2.1 hb)
    exact ⟨by rw [h1, hb], h3⟩

def R3i (x : Int × Int × Int) : Value := .tuple #[.int .i64 x.1, .int .i64 x.2.1, .int .i64 x.2.2]
def RefPost (x : Int × Int × Int) (w : World) (e : Ending) (w' : World) : Prop := e = .returned (R3i x) ∧ Below w.heap.size w w'
def RefRel (L : List Int) (w : World) (i : Value) (wr : World) : Prop :=
  ∃ n : Nat, 1 ≤ n ∧ n ≤ 5 ∧ n ≤ L.length + 1 ∧ i = .int .i64 n ∧ (∀ m, 1 ≤ m → m < n → ¬ Try1 L m) ∧ Below w.heap.size w wr
theorem begP_at (s : ByteArray) (a : Nat) (q : List Int) (hq : 0 < q.length) (h : a + q.length ≤ s.size) : begP s a q ↔ ((byts s).drop a).take q.length = q := by
  have hg : ∀ j, bt s (a + j) = ((byts s).drop a).getD j 0 := fun j => by
    rw [bt_byts]
    simp [List.getD_eq_getElem?_getD, List.getElem?_drop]
  have hl : ((byts s).drop a).length = s.size - a := by rw [List.length_drop, byts_len]
  generalize (byts s).drop a = L at *
  refine ⟨fun ⟨_, _, h1⟩ => ?_, fun h1 => ⟨hq, h, fun j hj => ?_⟩⟩
  · refine List.ext_getElem (by rw [List.length_take]; omega) fun i i1 i2 => ?_
    have := h1 i i2
    rw [hg i] at this
    simp only [List.getD_eq_getElem?_getD, List.getElem?_eq_getElem i2, List.getElem?_eq_getElem (show i < L.length by omega), Option.getD_some] at this
    rw [List.getElem_take]
    exact this
  · rw [hg j]
    have := congrArg (fun l => l.getD j 0) h1
    simp only [List.getD_eq_getElem?_getD, List.getElem?_take, hj, if_true] at this ⊢
    exact this
theorem try_more {L : List Int} {n : Nat} (h : ∀ m, 1 ≤ m → m < n → ¬ Try1 L m) (hn : ¬ Try1 L n) : ∀ m, 1 ≤ m → m < n + 1 → ¬ Try1 L m := fun j j1 j2 => by
  rcases Nat.lt_or_ge j n with h' | h'
  · exact h j j1 h'
  · obtain rfl : j = n := by omega
    exact hn
/-- The value that is tried at n bytes, where it is walked. -/
theorem value_at (s : ByteArray) (a n : Nat) (h2 : 2 ≤ n) : valG (fun i => bt s (a + i)) n n = vAt ((byts s).drop a) n := by
  rw [vAt, if_neg (by omega)]
  unfold valL
  congr 1
  funext j
  rw [bt_byts]
  simp [List.getD_eq_getElem?_getD, List.getElem?_drop]
theorem err_of {L : List Int} (hl : L ≠ []) (hn : NN L) (h : ∀ m, 1 ≤ m → m ≤ 4 → m ≤ L.length → ¬ Try1 L m) : (dec1 L).2.2 ≠ 0 := fun h0 => by
  obtain ⟨n, n1, n4, nl, ht⟩ := dec_try L hl hn h0
  exact h n n1 n4 nl ht

set_option maxHeartbeats 4000000 in
set_option maxRecDepth 100000 in
theorem ref_rune_in (s : ByteArray) (a : Nat) (L : List Int) (w : World) (hs : s.size ≤ 1000) (ha : a < s.size) (hL : L = (byts s).drop a) :
    Calls Tryz.prog 34 #[.string s, .int .i64 a] w (RefPost (runeF s a) w) := by
  have hlen : L.length = s.size - a := by rw [hL, List.length_drop, byts_len]
  have hdec := runeF_dec s a ha
  rw [← hL] at hdec
  have hne : L ≠ [] := fun e => by rw [e] at hlen; simp at hlen; omega
  have hnn : NN L := by rw [hL]; exact (byts_nn s).drop a
  have hk := runeF_okay s a ha
  have HL := Lib.hid hL
  have HD := Lib.hid hdec
  have HE := Lib.hid (fun h => err_of hne hnn h)
  have HK := Lib.hid hk
  have hl1 : L.length ≤ s.size - a := by omega
  have hl2 : s.size - a ≤ L.length := by omega
  clear hlen hdec hne hnn hk hL
  have t1 : decide ((a : Int) < 0) = false := by simp
  have t2 : decide (s.size ≤ a) = false := by simp; omega
  go_enter Tryz.func34, Tryz.ntmps34
  go_wp2_with fail
  go_loopw [7] (fun i wr => RefRel L w i wr) (fun i _ => 5 - (intOf i).toNat)
  case atStart => exact ⟨1, by omega, by omega, by omega, rfl, fun m m1 m2 => by omega, Below.refl _ _⟩
  case round =>
    obtain ⟨n, hn1, hn5, hnl, rfl, hno, hbel⟩ := hrel
    have HNO := Lib.hid hno
    clear hno
    have hsz := hbel.size
    by_cases h4 : n ≤ 4
    · have t4 : decide ((n : Int) ≤ 4) = true := by simp; omega
      by_cases hfit : a + n ≤ s.size
      · have t5 : decide ((a : Int) + (n : Int) ≤ (s.size : Int)) = true := by simp; omega
        have hx := bt_eq s a ha
        have HX := Lib.hid hx
        clear hx
        by_cases hone : n = 1
        · have tgt : decide ((1 : Int) < (n : Int)) = false := by simp; omega
          have hv : ((s[a].toNat : Nat) : Int) = vAt L n := by
            rw [HX.out, bt_byts, hone, vAt, if_pos rfl, HL.out]
            simp [List.getD_eq_getElem?_getD, List.getElem?_drop]
          have HV := Lib.hid hv
          have hby : (s[a].toNat : Int) < 256 := by have := s[a].toNat_lt; omega
          clear hv hone
          go_wp2_with fail
          rw [HV.out]
          clear HV
          have HT := Lib.hid (show Try1 L n ↔ ((refPut (vAt L n)).length = n ∧ L.take n = refPut (vAt L n)) from Iff.rfl)
          have HTD := Lib.hid (fun h => try_dec L n hn1 h)
          generalize vAt L n = V at *
          have C1 := Lib.hid (fun W => refput_any V W)
          generalize refPut V = q at HT C1
          refine (C1.out _).mono ?_
          rintro e w5 ⟨p, rfl, hown5, hbel5⟩
          obtain ⟨A5, c5, rfl, rd5⟩ := own_rd hown5
          clear hown5 C1
          have hb6 : Below w.heap.size w w5 := hbel.trans (hbel5.mono hsz)
          by_cases hql : q.length = n
          · have tq : ((q.length : Int) == (n : Int)) = true := by simp; omega
            have HP := Lib.hid (begP_at s a q (by omega) (by omega))
            by_cases hit : L.take n = q
            · have CB := begins_yes s a A5 c5 q w5 rd5 (by omega) (by omega) (by omega) (by rw [HP.out, ← HL.out, hql]; exact hit)
              have HB := Lib.hid CB
              have HR : Hid (runeF s a = (V, (n : Int), 0)) := by show _ = _; rw [HD.out]; exact HTD.out (HT.out.2 ⟨hql, hit⟩)
              have HQ := Lib.hid hql
              clear CB hit hql HT HTD
              go_wp2_with (go_at_call 49; refine HB.out.mono ?_; rintro e w9 ⟨rfl, hb9⟩)
              go_ret3
              exact ⟨by rw [HR.out]; rfl, hb6.trans (hb9.mono hb6.size)⟩
            · have CB := begins_no s a A5 c5 q w5 rd5 (by omega) (by omega) (by omega) (by rw [HP.out, ← HL.out, hql]; exact hit)
              have HB := Lib.hid CB
              have HNT : Hid (∀ m, 1 ≤ m → m < n + 1 → ¬ Try1 L m) := try_more HNO.out fun h => hit (HT.out.1 h).2
              have HQ := Lib.hid hql
              clear CB hit hql HT HTD HNO
              go_wp2_with (go_at_call 49; refine HB.out.mono ?_; rintro e w9 ⟨rfl, hb9⟩)
              go_roundw
              case rel => exact ⟨n + 1, by omega, by omega, by omega, by go_num, HNT.out, hb6.trans (hb9.mono hb6.size)⟩
              case measure => simp [intOf]; omega
          · have tq : ((q.length : Int) == (n : Int)) = false := by simp; omega
            have HNT : Hid (∀ m, 1 ≤ m → m < n + 1 → ¬ Try1 L m) := try_more HNO.out fun h => hql (HT.out.1 h).1
            clear hql HT HTD HNO
            go_wp2
            go_roundw
            case rel => exact ⟨n + 1, by omega, by omega, by omega, by go_num, HNT.out, hb6⟩
            case measure => simp [intOf]; omega
        · have tgt : decide ((1 : Int) < (n : Int)) = true := by simp; omega
          have CV := value_any s a n wr (by omega) hfit (by omega) h4
          rw [value_at s a n (by omega), ← HL.out] at CV
          have HV := Lib.hid CV
          clear CV hone
          go_wp2_with fail
          refine HV.out.mono ?_
          rintro e w4 ⟨rfl, rfl⟩
          clear HV
          go_wp2_with fail
          have HT := Lib.hid (show Try1 L n ↔ ((refPut (vAt L n)).length = n ∧ L.take n = refPut (vAt L n)) from Iff.rfl)
          have HTD := Lib.hid (fun h => try_dec L n hn1 h)
          generalize vAt L n = V at *
          have C1 := Lib.hid (fun W => refput_any V W)
          generalize refPut V = q at HT C1
          refine (C1.out _).mono ?_
          rintro e w5 ⟨p, rfl, hown5, hbel5⟩
          obtain ⟨A5, c5, rfl, rd5⟩ := own_rd hown5
          clear hown5 C1
          have hb6 : Below w.heap.size w w5 := hbel.trans (hbel5.mono hsz)
          by_cases hql : q.length = n
          · have tq : ((q.length : Int) == (n : Int)) = true := by simp; omega
            have HP := Lib.hid (begP_at s a q (by omega) (by omega))
            by_cases hit : L.take n = q
            · have CB := begins_yes s a A5 c5 q w5 rd5 (by omega) (by omega) (by omega) (by rw [HP.out, ← HL.out, hql]; exact hit)
              have HB := Lib.hid CB
              have HR : Hid (runeF s a = (V, (n : Int), 0)) := by show _ = _; rw [HD.out]; exact HTD.out (HT.out.2 ⟨hql, hit⟩)
              have HQ := Lib.hid hql
              clear CB hit hql HT HTD
              go_wp2_with (go_at_call 49; refine HB.out.mono ?_; rintro e w9 ⟨rfl, hb9⟩)
              go_ret3
              exact ⟨by rw [HR.out]; rfl, hb6.trans (hb9.mono hb6.size)⟩
            · have CB := begins_no s a A5 c5 q w5 rd5 (by omega) (by omega) (by omega) (by rw [HP.out, ← HL.out, hql]; exact hit)
              have HB := Lib.hid CB
              have HNT : Hid (∀ m, 1 ≤ m → m < n + 1 → ¬ Try1 L m) := try_more HNO.out fun h => hit (HT.out.1 h).2
              have HQ := Lib.hid hql
              clear CB hit hql HT HTD HNO
              go_wp2_with (go_at_call 49; refine HB.out.mono ?_; rintro e w9 ⟨rfl, hb9⟩)
              go_roundw
              case rel => exact ⟨n + 1, by omega, by omega, by omega, by go_num, HNT.out, hb6.trans (hb9.mono hb6.size)⟩
              case measure => simp [intOf]; omega
          · have tq : ((q.length : Int) == (n : Int)) = false := by simp; omega
            have HNT : Hid (∀ m, 1 ≤ m → m < n + 1 → ¬ Try1 L m) := try_more HNO.out fun h => hql (HT.out.1 h).1
            clear hql HT HTD HNO
            go_wp2
            go_roundw
            case rel => exact ⟨n + 1, by omega, by omega, by omega, by go_num, HNT.out, hb6⟩
            case measure => simp [intOf]; omega
      · have t5 : decide ((a : Int) + (n : Int) ≤ (s.size : Int)) = false := by simp; omega
        have HR : Hid ((runeF s a).2.2 ≠ 0) := by
          show _ ≠ _
          rw [HD.out]
          exact HE.out fun m m1 m4 ml => HNO.out m m1 (by omega)
        have hk := HK.out
        have hr2 := HR.out
        clear HR HK HNO HE HD
        obtain ⟨x1, x2, x3, hx⟩ : ∃ x1 x2 x3, runeF s a = (x1, x2, x3) := ⟨_, _, _, rfl⟩
        rw [hx] at hk hr2
        unfold Okay at hk
        dsimp only at hk hr2
        have z1 : x1 = 0 := by omega
        have z2 : x2 = 0 := by omega
        have z3 : x3 = 2 ∨ x3 = 7 := by omega
        subst z1 z2
        clear hk hr2
        rcases z3 with rfl | rfl
        · have CC := cut_no s a wr hs ha (by rw [hx]; simp)
          have HC := Lib.hid CC
          have HXX := Lib.hid hx
          clear CC hx
          go_wp2_with (go_at_call 50; refine HC.out.mono ?_; rintro e w9 ⟨rfl, hb9⟩)
          go_ret3
          exact ⟨by rw [HXX.out]; rfl, hbel.trans (hb9.mono hsz)⟩
        · have CC := cut_yes s a wr hs ha (by rw [hx])
          have HC := Lib.hid CC
          have HXX := Lib.hid hx
          clear CC hx
          go_wp2_with (go_at_call 50; refine HC.out.mono ?_; rintro e w9 ⟨rfl, hb9⟩)
          go_ret3
          exact ⟨by rw [HXX.out]; rfl, hbel.trans (hb9.mono hsz)⟩
    · have t4 : decide ((n : Int) ≤ 4) = false := by simp; omega
      have HR : Hid ((runeF s a).2.2 ≠ 0) := by
        show _ ≠ _
        rw [HD.out]
        exact HE.out fun m m1 m4 ml => HNO.out m m1 (by omega)
      have hk := HK.out
      have hr2 := HR.out
      clear HR HK HNO HE HD
      obtain ⟨x1, x2, x3, hx⟩ : ∃ x1 x2 x3, runeF s a = (x1, x2, x3) := ⟨_, _, _, rfl⟩
      rw [hx] at hk hr2
      unfold Okay at hk
      dsimp only at hk hr2
      have z1 : x1 = 0 := by omega
      have z2 : x2 = 0 := by omega
      have z3 : x3 = 2 ∨ x3 = 7 := by omega
      subst z1 z2
      clear hk hr2
      rcases z3 with rfl | rfl
      · have CC := cut_no s a wr hs ha (by rw [hx]; simp)
        have HC := Lib.hid CC
        have HXX := Lib.hid hx
        clear CC hx
        go_wp2_with (go_at_call 50; refine HC.out.mono ?_; rintro e w9 ⟨rfl, hb9⟩)
        go_ret3
        exact ⟨by rw [HXX.out]; rfl, hbel.trans (hb9.mono hsz)⟩
      · have CC := cut_yes s a wr hs ha (by rw [hx])
        have HC := Lib.hid CC
        have HXX := Lib.hid hx
        clear CC hx
        go_wp2_with (go_at_call 50; refine HC.out.mono ?_; rintro e w9 ⟨rfl, hb9⟩)
        go_ret3
        exact ⟨by rw [HXX.out]; rfl, hbel.trans (hb9.mono hsz)⟩

set_option maxHeartbeats 400000 in
theorem ref_rune_out (s : ByteArray) (a : Int) (w : World) (hs : s.size ≤ 1000) (ha : a < 0 ∨ (s.size : Int) ≤ a) :
    Calls Tryz.prog 34 #[.string s, .int .i64 a] w (RefPost (0, 0, 7) w) := by
  by_cases h : a < 0
  · clear ha
    go_enter Tryz.func34, Tryz.ntmps34
    go_wp2
    go_ret3
    exact ⟨rfl, Below.refl _ _⟩
  · have h2 : (s.size : Int) ≤ a := by omega
    clear ha
    go_enter Tryz.func34, Tryz.ntmps34
    go_wp2
    go_ret3
    exact ⟨rfl, Below.refl _ _⟩
theorem ref_rune_any (s : ByteArray) (a : Int) (w : World) (hs : s.size ≤ 1000) :
    Calls Tryz.prog 34 #[.string s, .int .i64 a] w (RefPost (runeF s a) w) := by
  by_cases h : a < 0 ∨ (s.size : Int) ≤ a
  · have : runeF s a = (0, 0, 7) := by unfold runeF; rw [if_pos h]
    rw [this]
    exact ref_rune_out s a w hs h
  · obtain ⟨n, rfl⟩ := Int.eq_ofNat_of_zero_le (show 0 ≤ a by omega)
    exact ref_rune_in s n _ w hs (by omega) rfl
end Go.Proofs.YtaoklhalkfcpfaaGreatDoor

/- The walks of the document's All and Whole. -/
set_option linter.unusedSimpArgs false
set_option linter.unusedVariables false
namespace Go.Proofs.YtaoklhalkfcpfaaGreatDoor
open Go.RowKit

theorem Tryz.info21 : (Tryz.prog.info? 21).map (fun i => (i.zero, i.size, i.bytes)) = some (some (.int .i32 0), 1, 4) := by kernel_rfl
/-- A slice of runes of the call's own: from block B on. -/
def Own (w : World) (B : Nat) (v : Value) (l : List Int) : Prop := w.ownsRow B 21 1 v l.length (l.map (Value.int .i32))

def AllPost (s : ByteArray) (w : World) (x : List Int × Int × Int) (e : Ending) (w' : World) : Prop :=
  ∃ v, e = .returned (.tuple #[v, .int .i64 x.2.1, .int .i64 x.2.2]) ∧ Own w' w.heap.size v x.1 ∧ Below w.heap.size w w'

def AllRel (s : ByteArray) (w : World) (v i : Value) (wr : World) : Prop :=
  ∃ (a : Nat) (pre : List Int), a ≤ s.size ∧ i = .int .i64 a ∧ Own wr w.heap.size v pre ∧ Below w.heap.size w wr ∧ pre.length ≤ a ∧ allF s = (pre ++ (allAt s a).1, (allAt s a).2)

theorem runeF_bd (s : ByteArray) (a : Int) : 0 ≤ (runeF s a).1 ∧ (runeF s a).1 ≤ 1114111 := by
  by_cases h : a < 0 ∨ (s.size : Int) ≤ a
  · have : runeF s a = (0, 0, 7) := by unfold runeF; rw [if_pos h]
    rw [this]
    simp
  · obtain ⟨n, rfl⟩ := Int.eq_ofNat_of_zero_le (show 0 ≤ a by omega)
    have := runeF_okay s n (by omega)
    unfold Okay at this
    omega
theorem own_later {w w' : World} {B : Nat} {e : TypeId} {size : Nat} {v : Value} {n : Nat} {xs : List Value} (h : w.ownsRow B e size v n xs) (hb : Below w.heap.size w w') : w'.ownsRow B e size v n xs := by
  rcases h with ⟨h1, ⟨rfl, h0⟩ | ⟨g, cap, cur, rfl, hg, hh, h3, h4, h5, h6⟩⟩
  · exact ⟨h1, .inl ⟨rfl, h0⟩⟩
  · refine ⟨h1, .inr ⟨g, cap, cur, rfl, hg, ?_, h3, h4, h5, h6⟩⟩
    rw [hb.block g (by
      rcases Nat.lt_or_ge g w.heap.size with hlt | hge
      · exact hlt
      · rw [Array.getElem?_eq_none hge] at hh; cases hh)]
    exact hh

set_option maxHeartbeats 1000000 in
set_option maxRecDepth 100000 in
theorem ref_all_any (s : ByteArray) (w : World) (hs : s.size ≤ 1000) :
    Calls Tryz.prog 38 #[.string s] w (AllPost s w (allF s)) := by
  obtain ⟨i0, hi, hz0, hz1, hz2⟩ := info_parts Tryz.info21
  go_enter Tryz.func38, Tryz.ntmps38
  go_wp2_with fail
  go_loopw [5, 6] (fun v i wr => AllRel s w v i wr) (fun _ i _ => s.size - (intOf i).toNat)
  case atStart => exact ⟨0, [], Nat.zero_le _, rfl, World.ownsRow_nil _ _ _ _, Below.refl _ _, Nat.le_refl _, by simp [allF_eq]⟩
  case round =>
    obtain ⟨a, pre, ha, rfl, hown, hbel, hpre, hall⟩ := hrel
    by_cases hlt : a < s.size
    · have hk := runeF_okay s a hlt
      obtain ⟨r, n, er, hx⟩ : ∃ r n er, runeF s a = (r, n, er) := ⟨_, _, _, rfl⟩
      have hc := ref_rune_any s a wr hs
      have H0 := allAt_err s a hlt
      have H1 := allAt_ok s a hlt
      rw [hx] at hk hc H0 H1
      clear hx
      unfold Okay at hk
      unfold RefPost R3i at hc
      dsimp only at hk hc H0 H1
      have HC := Lib.hid hc
      clear hc
      by_cases he : er = 0
      · subst he
        have hn : 1 ≤ n ∧ n ≤ (s.size - a : Nat) := by omega
        have hr1 : 0 ≤ r ∧ r ≤ 1114111 := by omega
        have HF : Hid (allF s = ((pre ++ [r]) ++ (allAt s (a + n.toNat)).1, (allAt s (a + n.toNat)).2)) := by
          rw [H1 rfl] at hall
          show allF s = _
          rw [hall]
          simp
        obtain ⟨n, rfl⟩ := Int.eq_ofNat_of_zero_le (show 0 ≤ n by omega)
        rw [Int.toNat_natCast] at HF
        have hl2 := hbel.size
        clear H0 H1 hall hk
        go_wp2_with fail
        refine HC.out.mono ?_
        rintro e w1 ⟨rfl, hb1⟩
        have hown1 := own_later hown hb1
        have hbel1 := hbel.trans (hb1.mono hl2)
        have hl3 := hbel1.size
        have hown' := hown1.alloc (.cells #[.int .i32 r] 21)
        go_wp2_with (at_builtin; refine wpList_append_own _ rfl _ _ 66 rfl w.heap.size 21 i0 (.int .i32 0) 1 4 Tryz.underlying66 hi hz0 hz1 hz2 rfl (by decide) _ _ _ rfl hown' ⟨w1.heap.size, 0, none⟩ 1 1 [.int .i32 r] rfl rfl (lit_cells w1 #[.int .i32 r] 21) (ints_oneCell .i32 [r]) (by unfold maxLen; omega) (by omega) (by simp; omega) ?_)
        intro v' w2 hown2 hgrow _
        go_wp2
        go_roundw
        case rel =>
          refine ⟨a + n, pre ++ [r], by omega, by go_num, ?_, ?_, by simp; omega, HF.out⟩
          · unfold Own; rw [List.map_append, List.length_append]; exact hown2
          · exact (hbel1.alloc hl3 _).grown hgrow (by simp; omega) (fun g hg => (hown.lt g hg).1)
        case measure => simp [intOf]; omega
      · have HF : Hid (allF s = (pre, (a : Int), er)) := by
          rw [H0 he] at hall
          show allF s = _
          rw [hall]
          simp
        have te : (er != 0) = true := by simpa using he
        clear H0 H1 hall hk he
        go_wp2_with fail
        refine HC.out.mono ?_
        rintro e w1 ⟨rfl, hb1⟩
        have hown1 := own_later hown hb1
        have hbel1 := hbel.trans (hb1.mono hbel.size)
        go_wp2
        go_ret3
        rw [HF.out]
        exact ⟨_, rfl, hown1, hbel1⟩
    · have HF : Hid (allF s = (pre, (a : Int), 0)) := by
        rw [allAt_done s a (by omega)] at hall
        show allF s = _
        rw [hall]
        simp
      clear hall
      go_wp2
      go_ret3
      rw [HF.out]
      exact ⟨_, rfl, hown, hbel⟩
end Go.Proofs.YtaoklhalkfcpfaaGreatDoor

/- Walks: what the document's own classes return (Blank, Char, Start, Part), whatever the world. -/
set_option linter.unusedSimpArgs false
set_option linter.unusedVariables false
namespace Go.Proofs.YtaoklhalkfcpfaaGreatDoor
open Go.RowKit

set_option maxHeartbeats 400000 in
set_option maxRecDepth 100000 in
theorem rblank_any (r : Int) (w : World) : Calls Tryz.prog 51 #[.int .i64 r] w fun e w' => e = .returned (.bool (decide (Blank r))) ∧ w = w' := by
  go_enter Tryz.func51, Tryz.ntmps51
  go_wp2
  all_goals
    go_ret
    refine ⟨cret_bool ?_, rfl⟩
    first
      | refine cbt ?_
      | refine cbf ?_
      | (refine Bool.eq_iff_iff.2 ?_; simp only [decide_eq_true_eq, Bool.or_eq_true, beq_iff_eq])
    try simp only [beq_iff_eq, Bool.or_eq_true, Bool.and_eq_true, decide_eq_true_eq, decide_eq_false_iff_not, beq_eq_false_iff_ne] at *
    simp only [Part, Start, Chr, Blank, Btw] at *
    first
      | omega
      | (constructor <;> intro hq <;> omega)

set_option maxHeartbeats 1000000 in
set_option maxRecDepth 100000 in
theorem rchr_any (r : Int) (w : World) : Calls Tryz.prog 35 #[.int .i64 r] w fun e w' => e = .returned (.bool (decide (Chr r))) ∧ w = w' := by
  go_enter Tryz.func35, Tryz.ntmps35
  go_wp2_with (first | (go_at_call 51; refine (rblank_any _ _).mono ?_; rintro e w' ⟨rfl, rfl⟩))
  all_goals
    go_ret
    refine ⟨cret_bool ?_, rfl⟩
    first
      | refine cbt ?_
      | refine cbf ?_
      | (refine Bool.eq_iff_iff.2 ?_; simp only [decide_eq_true_eq, Bool.or_eq_true, beq_iff_eq])
    try simp only [beq_iff_eq, Bool.or_eq_true, Bool.and_eq_true, decide_eq_true_eq, decide_eq_false_iff_not, beq_eq_false_iff_ne] at *
    simp only [Part, Start, Chr, Blank, Btw] at *
    first
      | omega
      | (constructor <;> intro hq <;> omega)

end Go.Proofs.YtaoklhalkfcpfaaGreatDoor

/- The walk of the document's Right. -/
set_option linter.unusedSimpArgs false
set_option linter.unusedVariables false
namespace Go.Proofs.YtaoklhalkfcpfaaGreatDoor
open Go.RowKit

def RtPost (P : Prop) (w : World) (e : Ending) (w' : World) : Prop := ∃ b : Bool, e = .returned (.bool b) ∧ (b = true ↔ P) ∧ Below w.heap.size w w'
theorem chr_take {l : List Int} {k : Nat} (h : ∀ x ∈ l.take k, Chr x) (hk : k < l.length) (hc : Chr (l.getD k 0)) : ∀ x ∈ l.take (k + 1), Chr x := by
  intro x hx
  rw [List.take_succ_eq_append_getElem hk] at hx
  rcases List.mem_append.1 hx with hx | hx
  · exact h x hx
  · simp only [List.mem_singleton] at hx
    rw [hx]
    simpa [List.getElem?_eq_getElem hk] using hc
theorem mem_getD {l : List Int} {k : Nat} (hk : k < l.length) : l.getD k 0 ∈ l := by
  simp [List.getElem?_eq_getElem hk]

set_option maxHeartbeats 4000000 in
set_option maxRecDepth 100000 in
theorem right_of (s : ByteArray) (l : List Int) (at_ er : Int) (w : World) (hg : Good l) (hn : l.length ≤ 100000)
    (C : Hid (Calls Tryz.prog 38 #[.string s] w (AllPost s w (l, at_, er)))) :
    Calls Tryz.prog 25 #[.string s] w (RtPost (er = 0 ∧ ∀ r ∈ l, Chr r) w) := by
  go_enter Tryz.func25, Tryz.ntmps25
  go_wp2_with fail
  refine C.out.mono ?_
  rintro e w1 ⟨v, rfl, hown, hb⟩
  obtain ⟨A, c, hv, hrd⟩ := own_rd (k := .i32) hown
  simp only at hv hrd
  subst hv
  clear hown C
  obtain ⟨n, hnl⟩ : ∃ n, n = l.length := ⟨_, rfl⟩
  rw [← hnl]
  have HN := Lib.hid hnl
  have hn2 : n ≤ 100000 := by omega
  clear hnl
  go_wp2_with fail
  go_loop [6] (fun vi => ∃ k : Nat, vi = .int .i64 k ∧ k ≤ n ∧ Hid (∀ x ∈ l.take k, Chr x)) (fun vi => n - (intOf vi).toNat)
  case atStart => exact ⟨0, rfl, by omega, Lib.hid fun x hx => by simp at hx⟩
  case round =>
    obtain ⟨k, rfl, hk, hR⟩ := hrel
    by_cases hlt : k < n
    · have hkl : k < l.length := by rw [← HN.out]; exact hlt
      obtain ⟨b, off, rfl, hbl, hc⟩ := hrd.at_ (j := k) hkl
      have hgd := hg _ (mem_getD hkl)
      have hm := mem_getD hkl
      have hct := Lib.hid (chr_take hR.out hkl)
      have x0 : 0 ≤ l.getD k 0 := by unfold Bad at hgd; omega
      have x1 : l.getD k 0 ≤ 1114111 := by unfold Bad at hgd; omega
      have hi2 : (k : Int) < (n : Int) := by omega
      have CC := rchr_any (l.getD k 0)
      have HM := Lib.hid hm
      clear hm hgd hkl
      by_cases hch : Chr (l.getD k 0)
      · have HR := Lib.hid (hct.out hch)
        rw [decide_eq_true hch] at CC
        have CCH := Lib.hid CC
        clear hch hct hR CC HM
        generalize l.getD k 0 = x at *
        go_wp2_with (go_at_call 35; refine (CCH.out _).mono ?_; rintro e w' ⟨rfl, rfl⟩)
        refine ⟨⟨k + 1, by rw [Int.natCast_add]; rfl, by omega, HR⟩, by simp only [intOf]; omega⟩
      · rw [decide_eq_false hch] at CC
        have CCH := Lib.hid CC
        have HX : Hid (¬ (er = 0 ∧ ∀ r ∈ l, Chr r)) := Lib.hid fun h => hch (h.2 _ HM.out)
        clear hch hct hR CC HM
        generalize l.getD k 0 = x at *
        go_wp2_with (go_at_call 35; refine (CCH.out _).mono ?_; rintro e w' ⟨rfl, rfl⟩)
        go_ret
        exact ⟨false, rfl, ⟨fun h => absurd h (by decide), fun h => absurd h HX.out⟩, hb⟩
    · have hkk : k = n := by omega
      subst hkk
      have HA : Hid (∀ x ∈ l, Chr x) := Lib.hid (by
        have := hR.out
        rw [HN.out, List.take_length] at this
        exact this)
      clear hR
      go_wp2
      go_ret
      refine ⟨(er == 0), rfl, ⟨fun h => ⟨by simpa using h, HA.out⟩, fun h => by simpa using h.1⟩, hb⟩
theorem right_any (s : ByteArray) (w : World) (hs : s.size ≤ 1000) : Calls Tryz.prog 25 #[.string s] w (RtPost (Rt (byts s)) w) := by
  have C := ref_all_any s w hs
  rw [allF_dec] at C
  have B := decF_back (byts s).length (byts s) (Nat.le_refl _) (byts_nn s)
  have hlen : (decF (byts s)).1.length ≤ 100000 := by
    obtain ⟨_, hp, h3, _, _⟩ := B
    rw [byts_len] at h3
    have : ∀ (m : List Int), m.length ≤ (m.flatMap putI).length := by
      intro m
      induction m with
      | nil => simp
      | cons x m ih =>
        have := (putI_len x).1
        rw [List.flatMap_cons, List.length_append, List.length_cons]
        omega
    have := this (decF (byts s)).1
    rw [hp, List.length_take] at this
    omega
  exact right_of s _ _ _ w B.1 hlen (Lib.hid C)
theorem right_yes (s : ByteArray) (hs : s.size ≤ 1000) (h : Rt (byts s)) (w : World) : Calls Tryz.prog 25 #[.string s] w fun e w' => e = .returned (.bool true) ∧ Below w.heap.size w w' := by
  refine (right_any s w hs).mono ?_
  rintro e w' ⟨b, rfl, hb, hB⟩
  rw [hb.2 h]
  exact ⟨rfl, hB⟩
theorem right_no (s : ByteArray) (hs : s.size ≤ 1000) (h : ¬ Rt (byts s)) (w : World) : Calls Tryz.prog 25 #[.string s] w fun e w' => e = .returned (.bool false) ∧ Below w.heap.size w w' := by
  refine (right_any s w hs).mono ?_
  rintro e w' ⟨b, rfl, hb, hB⟩
  cases b with
  | false => exact ⟨rfl, hB⟩
  | true => exact absurd (hb.1 rfl) h
end Go.Proofs.YtaoklhalkfcpfaaGreatDoor

/- The walk of the document's skip. -/
set_option linter.unusedSimpArgs false
set_option linter.unusedVariables false
namespace Go.Proofs.YtaoklhalkfcpfaaGreatDoor
open Go.RowKit

/-- The first place from one on where no blank stands. -/
def pk (s : ByteArray) (k : Nat) : Nat := k + bk (Nz.fr s k)
theorem drop_at (l : List Int) (k : Nat) (h : k < l.length) : l.drop k = l.getD k 0 :: l.drop (k + 1) := by
  rw [List.drop_eq_getElem_cons h, List.getD_eq_getElem?_getD, List.getElem?_eq_getElem h]
  rfl
theorem pk_yes (s : ByteArray) (k : Nat) (h : k < s.size) (hb : blk? ((byts s).getD k 0) = true) : pk s k = pk s (k + 1) := by
  unfold pk bk
  rw [byts_fr, byts_fr, drop_at (byts s) k (by rw [byts_len]; exact h), List.takeWhile_cons_of_pos hb, List.length_cons]
  omega
theorem pk_no (s : ByteArray) (k : Nat) (h : k < s.size) (hb : blk? ((byts s).getD k 0) = false) : pk s k = k := by
  unfold pk bk
  rw [byts_fr, drop_at (byts s) k (by rw [byts_len]; exact h), List.takeWhile_cons_of_neg (by rw [hb]; decide), List.length_nil]
  omega
theorem pk_end (s : ByteArray) : pk s s.size = s.size := by
  unfold pk bk
  rw [byts_fr, List.drop_of_length_le (by rw [byts_len]; omega)]
  rfl
theorem pk_le (s : ByteArray) (k : Nat) (h : k ≤ s.size) : pk s k ≤ s.size := by
  unfold pk
  have := bk_le (Nz.fr s k)
  rw [Nz.fr_size] at this
  omega
set_option maxHeartbeats 2000000 in
set_option maxRecDepth 100000 in
theorem rskip_any (s : ByteArray) (a : Nat) (w : World) (hs : s.size ≤ 1000000) (ha : a ≤ s.size) :
    Calls Tryz.prog 19 #[.string s, .int .i64 a] w fun e w' => e = .returned (.int .i64 (pk s a : Int)) ∧ w = w' := by
  have HY := Lib.hid (pk_yes s)
  have HO := Lib.hid (pk_no s)
  have HE := Lib.hid (pk_end s)
  obtain ⟨res, hres⟩ : ∃ res, res = pk s a := ⟨_, rfl⟩
  rw [← hres]
  have HQ := Lib.hid hres
  clear hres
  go_enter Tryz.func19, Tryz.ntmps19
  go_wp2_with fail
  go_loop [1] (fun i => ∃ k : Nat, i = .int .i64 k ∧ k ≤ s.size ∧ Hid (res = pk s k)) (fun i => s.size - (intOf i).toNat)
  case atStart => exact ⟨a, rfl, ha, HQ⟩
  case round =>
    obtain ⟨k, rfl, hk, hr⟩ := hrel
    by_cases hlt : k < s.size
    · have hb := at_byt s k hlt
      have d1 : (k : Int) < (s.size : Int) := by omega
      have d0 : (0 : Int) ≤ (k : Int) := by omega
      have hY := HY.out k hlt
      have hO := HO.out k hlt
      rw [← hb] at hY hO
      by_cases h9 : ((s[k].toNat : Nat) : Int) = 9
      · have HR : Hid (res = pk s (k + 1)) := Lib.hid (by rw [hr.out, hY (by rw [h9]; rfl)])
        have t9 : (((s[k].toNat : Nat) : Int) == 9) = true := by rw [beq_iff_eq]; exact h9
        clear hY hO hr hb HY HO HE HQ h9
        go_wp2_with fail
        go_round
        case rel => exact ⟨k + 1, by go_num, by omega, HR⟩
        case measure => simp only [intOf]; omega
      have t9 : (((s[k].toNat : Nat) : Int) == 9) = false := by rw [beq_eq_false_iff_ne]; exact h9
      by_cases h10 : ((s[k].toNat : Nat) : Int) = 10
      · have HR : Hid (res = pk s (k + 1)) := Lib.hid (by rw [hr.out, hY (by rw [h10]; rfl)])
        have t10 : (((s[k].toNat : Nat) : Int) == 10) = true := by rw [beq_iff_eq]; exact h10
        clear hY hO hr hb HY HO HE HQ h9 h10
        go_wp2_with fail
        go_round
        case rel => exact ⟨k + 1, by go_num, by omega, HR⟩
        case measure => simp only [intOf]; omega
      have t10 : (((s[k].toNat : Nat) : Int) == 10) = false := by rw [beq_eq_false_iff_ne]; exact h10
      by_cases h13 : ((s[k].toNat : Nat) : Int) = 13
      · have HR : Hid (res = pk s (k + 1)) := Lib.hid (by rw [hr.out, hY (by rw [h13]; rfl)])
        have t13 : (((s[k].toNat : Nat) : Int) == 13) = true := by rw [beq_iff_eq]; exact h13
        clear hY hO hr hb HY HO HE HQ h9 h10 h13
        go_wp2_with fail
        go_round
        case rel => exact ⟨k + 1, by go_num, by omega, HR⟩
        case measure => simp only [intOf]; omega
      have t13 : (((s[k].toNat : Nat) : Int) == 13) = false := by rw [beq_eq_false_iff_ne]; exact h13
      by_cases h32 : ((s[k].toNat : Nat) : Int) = 32
      · have HR : Hid (res = pk s (k + 1)) := Lib.hid (by rw [hr.out, hY (by rw [h32]; rfl)])
        have t32 : (((s[k].toNat : Nat) : Int) == 32) = true := by rw [beq_iff_eq]; exact h32
        clear hY hO hr hb HY HO HE HQ h9 h10 h13 h32
        go_wp2_with fail
        go_round
        case rel => exact ⟨k + 1, by go_num, by omega, HR⟩
        case measure => simp only [intOf]; omega
      have t32 : (((s[k].toNat : Nat) : Int) == 32) = false := by rw [beq_eq_false_iff_ne]; exact h32
      have HR : Hid (res = k) := Lib.hid (by
        rw [hr.out, hO (by unfold blk?; rw [decide_eq_false_iff_not]; unfold Blank; omega)])
      clear hY hO hr hb HY HO HE HQ h9 h10 h13 h32
      go_wp2_with fail
      go_ret
      exact ⟨by rw [HR.out]; rfl, rfl⟩
    · have d1 : ¬ (k : Int) < (s.size : Int) := by omega
      have HR : Hid (res = k) := Lib.hid (by rw [hr.out, show k = s.size by omega, HE.out])
      clear hr HY HO HE HQ
      go_wp2_with fail
      go_ret
      exact ⟨by rw [HR.out]; rfl, rfl⟩
end Go.Proofs.YtaoklhalkfcpfaaGreatDoor

/- How many bytes a decoded rune has: as many as it is encoded to, but one where fffd stands for bytes that are no rune's. -/
set_option linter.unusedSimpArgs false
set_option linter.unusedVariables false
namespace Go.Proofs.YtaoklhalkfcpfaaGreatDoor.Nz
open Go.RowKit

def eS (c : Nat) : Nat := if c < 128 then 1 else if c < 2048 then 2 else if c < 65536 then 3 else 4
theorem enc_size (c : Nat) (h : Val (c : Int)) : (Utf8.encode (c : Int)).size = eS c := by
  have hv := val_utf h
  unfold Utf8.encode eS
  simp only [hv, if_true, Int.toNat_natCast]
  by_cases h1 : c < 128
  · simp only [h1, if_true]
    rfl
  · by_cases h2 : c < 2048
    · simp only [h1, h2, if_true, if_false]
      rfl
    · by_cases h3 : c < 65536
      · simp only [h1, h2, h3, if_true, if_false]
        rfl
      · simp only [h1, h2, h3, if_true, if_false]
        rfl
/-- The bytes of fffd stand first. -/
def Fd (n b0 b1 b2 : Nat) : Prop := 3 ≤ n ∧ b0 = 239 ∧ b1 = 191 ∧ b2 = 189
instance (n b0 b1 b2 : Nat) : Decidable (Fd n b0 b1 b2) := inferInstanceAs (Decidable (3 ≤ n ∧ b0 = 239 ∧ b1 = 191 ∧ b2 = 189))

set_option maxHeartbeats 1000000 in
theorem decN_w (n b0 b1 b2 b3 : Nat) (h0 : b0 < 256) : (Lib.decodeN n b0 b1 b2 b3).2 = if (Lib.decodeN n b0 b1 b2 b3).1 = 65533 ∧ ¬ Fd n b0 b1 b2 then 1 else eS (Lib.decodeN n b0 b1 b2 b3).1 := by
  have hfd : ∀ {α : Type} (p : Prop) [Decidable p] (x y : α), (if p ∧ ¬ Fd n b0 b1 b2 then x else y) = if p ∧ ¬ (3 ≤ n ∧ b0 = 239 ∧ b1 = 191 ∧ b2 = 189) then x else y := fun p _ x y => rfl
  rw [hfd]
  unfold Lib.decodeN eS
  by_cases g0 : b0 < 128
  · simp only [g0, if_true]
    rw [if_neg (by omega)]
  · simp only [g0, if_false]
    by_cases g1 : b0 / 32 = 6 ∧ (1 < n ∧ b1 / 64 = 2)
    · rw [if_pos g1]
      by_cases v1 : b0 % 32 * 64 + b1 % 64 ≥ 128
      · rw [if_pos v1]
        dsimp only
        rw [if_neg (by omega), if_neg (by omega), if_pos (by omega)]
      · rw [if_neg v1]
        dsimp only
        rw [if_pos ⟨rfl, by omega⟩]
    · rw [if_neg g1]
      by_cases g2 : b0 / 16 = 14 ∧ (1 < n ∧ b1 / 64 = 2) ∧ (2 < n ∧ b2 / 64 = 2)
      · rw [if_pos g2]
        by_cases v2 : b0 % 16 * 4096 + b1 % 64 * 64 + b2 % 64 ≥ 2048 ∧ (b0 % 16 * 4096 + b1 % 64 * 64 + b2 % 64 < 55296 ∨ (57344 ≤ b0 % 16 * 4096 + b1 % 64 * 64 + b2 % 64 ∧ b0 % 16 * 4096 + b1 % 64 * 64 + b2 % 64 ≤ 1114111))
        · rw [if_pos v2]
          dsimp only
          rw [if_neg (by omega), if_neg (by omega), if_neg (by omega), if_pos (by omega)]
        · rw [if_neg v2]
          dsimp only
          rw [if_pos ⟨rfl, by omega⟩]
      · rw [if_neg g2]
        have nf : ¬ (3 ≤ n ∧ b0 = 239 ∧ b1 = 191 ∧ b2 = 189) := by omega
        by_cases g3 : b0 / 8 = 30 ∧ (1 < n ∧ b1 / 64 = 2) ∧ (2 < n ∧ b2 / 64 = 2) ∧ (3 < n ∧ b3 / 64 = 2)
        · rw [if_pos g3]
          by_cases v3 : b0 % 8 * 262144 + b1 % 64 * 4096 + b2 % 64 * 64 + b3 % 64 ≥ 65536 ∧ (b0 % 8 * 262144 + b1 % 64 * 4096 + b2 % 64 * 64 + b3 % 64 < 55296 ∨ (57344 ≤ b0 % 8 * 262144 + b1 % 64 * 4096 + b2 % 64 * 64 + b3 % 64 ∧ b0 % 8 * 262144 + b1 % 64 * 4096 + b2 % 64 * 64 + b3 % 64 ≤ 1114111))
          · rw [if_pos v3]
            dsimp only
            rw [if_neg (by omega), if_neg (by omega), if_neg (by omega), if_neg (by omega)]
          · rw [if_neg v3]
            dsimp only
            rw [if_pos ⟨rfl, nf⟩]
        · rw [if_neg g3]
          dsimp only
          rw [if_pos ⟨rfl, nf⟩]
theorem bl_lt (s : ByteArray) : ∀ x ∈ bl s, x < 256 := by
  intro x hx
  unfold bl at hx
  obtain ⟨y, _, rfl⟩ := List.mem_map.1 hx
  exact y.toNat_lt
theorem take3 (L : List Nat) : (L.take 3 = [239, 191, 189]) ↔ Fd L.length (L.getD 0 0) (L.getD 1 0) (L.getD 2 0) := by
  unfold Fd
  match L with
  | [] => simp
  | [a] => simp
  | [a, b] => simp
  | a :: b :: c :: L => simp
/-- The width of what stands at a place. -/
theorem dN_w (L : List Nat) (h : ∀ x ∈ L, x < 256) : (dN L).2 = if (dN L).1 = 65533 ∧ ¬ L.take 3 = [239, 191, 189] then 1 else eS (dN L).1 := by
  have h0 : L.getD 0 0 < 256 := by
    match L with
    | [] => decide
    | a :: L => exact h a (by simp)
  have := decN_w L.length (L.getD 0 0) (L.getD 1 0) (L.getD 2 0) (L.getD 3 0) h0
  have e : (if (dN L).1 = 65533 ∧ ¬ L.take 3 = [239, 191, 189] then 1 else eS (dN L).1) = if (dN L).1 = 65533 ∧ ¬ Fd L.length (L.getD 0 0) (L.getD 1 0) (L.getD 2 0) then 1 else eS (dN L).1 := by
    by_cases hf : Fd L.length (L.getD 0 0) (L.getD 1 0) (L.getD 2 0)
    · rw [if_neg (fun h => h.2 ((take3 L).2 hf)), if_neg (fun h => h.2 hf)]
    · by_cases hr : (dN L).1 = 65533
      · rw [if_pos ⟨hr, fun h => hf ((take3 L).1 h)⟩, if_pos ⟨hr, hf⟩]
      · rw [if_neg (fun h => hr h.1), if_neg (fun h => hr h.1)]
  rw [e]
  exact this

set_option maxRecDepth 100000 in
theorem conv_cap (w : World) (s : ByteArray) (hs : s.size ≤ 1000) : ∃ c w1, ConvPost w s c w1 ∧ (runes s).length ≤ c := by
  have hl := runes_len s
  have hrun := run_runes_of_string (P := Tryz.prog) w 9 66 21 s Tryz.underlying9 Tryz.underlying66 Tryz.underlying21 (by rw [runesFrom_runes]; simp; omega)
  rw [runesFrom_runes] at hrun
  have hz : ((runes s).map (Value.int .i32)).toArray.size = (runes s).length := by simp
  rw [hz] at hrun
  obtain ⟨c, w1, h1, h2⟩ := conv_runes w s hs
  refine ⟨c, w1, ⟨h1, h2⟩, ?_⟩
  rw [h1] at hrun
  have hc : c = grownCap w (runes s).length 0 21 := by
    injection hrun with e1 e2
    injection e1
  rw [hc]
  exact grownCap_ge _ _ _ _
set_option maxRecDepth 100000 in
theorem conv_one (w : World) (b j c : Nat) (x : Int) (h : w.cell? ⟨b, j, none⟩ = some (.int .i32 x)) :
    (convert 66 9 (.slice (some ⟨b, j, none⟩) 1 c)).run Tryz.prog w = .ok (.string (Utf8.encode x)) w := by
  have hc := run_convert_runes (P := Tryz.prog) w 66 9 21 ⟨b, j, none⟩ 1 c [x] (by simp) Tryz.underlying66 Tryz.underlying21 Tryz.underlying9 (fun i hi => by
    obtain rfl : i = 0 := by simpa using hi
    simpa [Addr.add] using h)
  rw [hc]
  have : runesBytes ([x].take 1) = Utf8.encode x := by
    apply bl_inj
    rw [bl_runesBytes]
    simp
  rw [this]
end Go.Proofs.YtaoklhalkfcpfaaGreatDoor.Nz
