/-
  Merged by program out of the texts RefRune, RefAll, CRef, TgR4, TgDoc, NzWidth, NzRcut, NzRsplit, DRef, DRead of one seat.
-/
import Derived.Test.YtnomcldpbkinmaaGreatDoorG14
import Derived.Test.YtnomcldpbkinmaaGreatDoorG03
import Derived.Test.YtnomcldpbkinmaaGreatDoorG07
import Derived.Test.YtnomcldpbkinmaaGreatDoorG12
import Derived.Test.YtnomcldpbkinmaaGreatDoorG08
import Derived.Test.YtnomcldpbkinmaaGreatDoorG09
import Derived.Laws.AppendOwn

/- The walk of the document's Rune. -/
set_option linter.unusedSimpArgs false
set_option linter.unusedVariables false
namespace Go.Proofs.YtnomcldpbkinmaaGreatDoor
open Go.RowKit

set_option maxHeartbeats 1000000 in
set_option maxRecDepth 100000 in
theorem cut_long (s : ByteArray) (a : Nat) (w : World) (hs : s.size ≤ 10000) (h : a + 4 ≤ s.size) :
    Calls Tryz.prog 75 #[.string s, .int .i64 a] w fun e w' => e = .returned (.bool false) ∧ Below w.heap.size w w' := by
  have t1 : decide ((s.size : Int) - (a : Int) < 1) = false := by simp; omega
  have t2 : decide ((3 : Int) < (s.size : Int) - (a : Int)) = true := by simp; omega
  go_enter Tryz.func75, Tryz.ntmps75
  go_wp2
  go_ret
  exact ⟨rfl, Below.refl _ _⟩
/-- cut, at a place within the text: is all from there on cut off? -/
theorem cut_at_any (s : ByteArray) (a : Nat) (w : World) (hs : s.size ≤ 10000) (h : a < s.size) : Calls Tryz.prog 75 #[.string s, .int .i64 a] w (CutPost ((byts s).drop a) w) := by
  have hl : ((byts s).drop a).length = s.size - a := by rw [List.length_drop, byts_len]
  by_cases h4 : s.size - a ≤ 3
  · exact cut_any s a _ w hs rfl (by omega) (by omega)
  · exact (cut_long s a w hs (by omega)).mono fun e w' ⟨h1, h2⟩ => ⟨false, h1, ⟨(fun h => by cases h), fun h => absurd h (cut_4 _ (by omega))⟩, h2⟩
theorem cut_yes (s : ByteArray) (a : Nat) (w : World) (hs : s.size ≤ 10000) (h : a < s.size) (h7 : (runeF s a).2.2 = 7) : Calls Tryz.prog 75 #[.string s, .int .i64 a] w fun e w' => e = .returned (.bool true) ∧ Below w.heap.size w w' :=
  (cut_at_any s a w hs h).mono fun e w' ⟨b, h1, h2, h3⟩ => ⟨by rw [h1, h2.2 (by rw [← runeF_dec s a h]; exact h7)], h3⟩
theorem cut_no (s : ByteArray) (a : Nat) (w : World) (hs : s.size ≤ 10000) (h : a < s.size) (h7 : (runeF s a).2.2 ≠ 7) : Calls Tryz.prog 75 #[.string s, .int .i64 a] w fun e w' => e = .returned (.bool false) ∧ Below w.heap.size w w' :=
  (cut_at_any s a w hs h).mono fun e w' ⟨b, h1, h2, h3⟩ => by
    have hb : b = false := Bool.eq_false_iff.2 fun hb => h7 (by rw [runeF_dec s a h]; exact h2.1 hb)
    exact ⟨by rw [h1, hb], h3⟩

def R3i (x : Int × Int × Int) : Value := .tuple #[.int .i64 x.1, .int .i64 x.2.1, .int .i64 x.2.2]
def RefPost (x : Int × Int × Int) (w : World) (e : Ending) (w' : World) : Prop := e = .returned (R3i x) ∧ Below w.heap.size w w'
def RefRel (L : List Int) (w : World) (i : Value) (wr : World) : Prop :=
  ∃ n : Nat, 1 ≤ n ∧ n ≤ 5 ∧ n ≤ L.length + 1 ∧ i = .int .i64 n ∧ (∀ m, 1 ≤ m → m < n → ¬ Try1 L m) ∧ Below w.heap.size w wr
theorem begP_at (s : ByteArray) (a : Nat) (q : List Int) (hq : 0 < q.length) (h : a + q.length ≤ s.size) : begP s a q ↔ ((byts s).drop a).take q.length = q := by
  have hg : ∀ j, bt s (a + j) = ((byts s).drop a).getD j 0 := fun j => by
    rw [bt_byts]
    simp [List.getD_eq_getElem?_getD, List.getElem?_drop]
  have hl : ((byts s).drop a).length = s.size - a := by rw [List.length_drop, byts_len]
  generalize (byts s).drop a = L at *
  refine ⟨fun ⟨_, _, h1⟩ => ?_, fun h1 => ⟨hq, h, fun j hj => ?_⟩⟩
  · refine List.ext_getElem (by rw [List.length_take]; omega) fun i i1 i2 => ?_
    have := h1 i i2
    rw [hg i] at this
    simp only [List.getD_eq_getElem?_getD, List.getElem?_eq_getElem i2, List.getElem?_eq_getElem (show i < L.length by omega), Option.getD_some] at this
    rw [List.getElem_take]
    exact this
  · rw [hg j]
    have := congrArg (fun l => l.getD j 0) h1
    simp only [List.getD_eq_getElem?_getD, List.getElem?_take, hj, if_true] at this ⊢
    exact this
theorem try_more {L : List Int} {n : Nat} (h : ∀ m, 1 ≤ m → m < n → ¬ Try1 L m) (hn : ¬ Try1 L n) : ∀ m, 1 ≤ m → m < n + 1 → ¬ Try1 L m := fun j j1 j2 => by
  rcases Nat.lt_or_ge j n with h' | h'
  · exact h j j1 h'
  · obtain rfl : j = n := by omega
    exact hn
/-- The value that is tried at n bytes, where it is walked. -/
theorem value_at (s : ByteArray) (a n : Nat) (h2 : 2 ≤ n) : valG (fun i => bt s (a + i)) n n = vAt ((byts s).drop a) n := by
  rw [vAt, if_neg (by omega)]
  unfold valL
  congr 1
  funext j
  rw [bt_byts]
  simp [List.getD_eq_getElem?_getD, List.getElem?_drop]
theorem err_of {L : List Int} (hl : L ≠ []) (hn : NN L) (h : ∀ m, 1 ≤ m → m ≤ 4 → m ≤ L.length → ¬ Try1 L m) : (dec1 L).2.2 ≠ 0 := fun h0 => by
  obtain ⟨n, n1, n4, nl, ht⟩ := dec_try L hl hn h0
  exact h n n1 n4 nl ht

set_option maxHeartbeats 4000000 in
set_option maxRecDepth 100000 in
theorem ref_rune_in (s : ByteArray) (a : Nat) (L : List Int) (w : World) (hs : s.size ≤ 10000) (ha : a < s.size) (hL : L = (byts s).drop a) :
    Calls Tryz.prog 53 #[.string s, .int .i64 a] w (RefPost (runeF s a) w) := by
  have hlen : L.length = s.size - a := by rw [hL, List.length_drop, byts_len]
  have hdec := runeF_dec s a ha
  rw [← hL] at hdec
  have hne : L ≠ [] := fun e => by rw [e] at hlen; simp at hlen; omega
  have hnn : NN L := by rw [hL]; exact (byts_nn s).drop a
  have hk := runeF_okay s a ha
  have HL := Lib.hid hL
  have HD := Lib.hid hdec
  have HE := Lib.hid (fun h => err_of hne hnn h)
  have HK := Lib.hid hk
  have hl1 : L.length ≤ s.size - a := by omega
  have hl2 : s.size - a ≤ L.length := by omega
  clear hlen hdec hne hnn hk hL
  have t1 : decide ((a : Int) < 0) = false := by simp
  have t2 : decide (s.size ≤ a) = false := by simp; omega
  go_enter Tryz.func53, Tryz.ntmps53
  go_wp2_with fail
  go_loopw [7] (fun i wr => RefRel L w i wr) (fun i _ => 5 - (intOf i).toNat)
  case atStart => exact ⟨1, by omega, by omega, by omega, rfl, fun m m1 m2 => by omega, Below.refl _ _⟩
  case round =>
    obtain ⟨n, hn1, hn5, hnl, rfl, hno, hbel⟩ := hrel
    have HNO := Lib.hid hno
    clear hno
    have hsz := hbel.size
    by_cases h4 : n ≤ 4
    · have t4 : decide ((n : Int) ≤ 4) = true := by simp; omega
      by_cases hfit : a + n ≤ s.size
      · have t5 : decide ((a : Int) + (n : Int) ≤ (s.size : Int)) = true := by simp; omega
        have hx := bt_eq s a ha
        have HX := Lib.hid hx
        clear hx
        by_cases hone : n = 1
        · have tgt : decide ((1 : Int) < (n : Int)) = false := by simp; omega
          have hv : ((s[a].toNat : Nat) : Int) = vAt L n := by
            rw [HX.out, bt_byts, hone, vAt, if_pos rfl, HL.out]
            simp [List.getD_eq_getElem?_getD, List.getElem?_drop]
          have HV := Lib.hid hv
          have hby : (s[a].toNat : Int) < 256 := by have := s[a].toNat_lt; omega
          clear hv hone
          go_wp2_with fail
          rw [HV.out]
          clear HV
          have HT := Lib.hid (show Try1 L n ↔ ((refPut (vAt L n)).length = n ∧ L.take n = refPut (vAt L n)) from Iff.rfl)
          have HTD := Lib.hid (fun h => try_dec L n hn1 h)
          generalize vAt L n = V at *
          have C1 := Lib.hid (fun W => refput_any V W)
          generalize refPut V = q at HT C1
          refine (C1.out _).mono ?_
          rintro e w5 ⟨p, rfl, hown5, hbel5⟩
          obtain ⟨A5, c5, rfl, rd5⟩ := own_rd hown5
          clear hown5 C1
          have hb6 : Below w.heap.size w w5 := hbel.trans (hbel5.mono hsz)
          by_cases hql : q.length = n
          · have tq : ((q.length : Int) == (n : Int)) = true := by simp; omega
            have HP := Lib.hid (begP_at s a q (by omega) (by omega))
            by_cases hit : L.take n = q
            · have CB := begins_yes s a A5 c5 q w5 rd5 (by omega) (by omega) (by omega) (by rw [HP.out, ← HL.out, hql]; exact hit)
              have HB := Lib.hid CB
              have HR : Hid (runeF s a = (V, (n : Int), 0)) := by show _ = _; rw [HD.out]; exact HTD.out (HT.out.2 ⟨hql, hit⟩)
              have HQ := Lib.hid hql
              clear CB hit hql HT HTD
              go_wp2_with (go_at_call 74; refine HB.out.mono ?_; rintro e w9 ⟨rfl, hb9⟩)
              go_ret3
              exact ⟨by rw [HR.out]; rfl, hb6.trans (hb9.mono hb6.size)⟩
            · have CB := begins_no s a A5 c5 q w5 rd5 (by omega) (by omega) (by omega) (by rw [HP.out, ← HL.out, hql]; exact hit)
              have HB := Lib.hid CB
              have HNT : Hid (∀ m, 1 ≤ m → m < n + 1 → ¬ Try1 L m) := try_more HNO.out fun h => hit (HT.out.1 h).2
              have HQ := Lib.hid hql
              clear CB hit hql HT HTD HNO
              go_wp2_with (go_at_call 74; refine HB.out.mono ?_; rintro e w9 ⟨rfl, hb9⟩)
              go_roundw
              case rel => exact ⟨n + 1, by omega, by omega, by omega, by go_num, HNT.out, hb6.trans (hb9.mono hb6.size)⟩
              case measure => simp [intOf]; omega
          · have tq : ((q.length : Int) == (n : Int)) = false := by simp; omega
            have HNT : Hid (∀ m, 1 ≤ m → m < n + 1 → ¬ Try1 L m) := try_more HNO.out fun h => hql (HT.out.1 h).1
            clear hql HT HTD HNO
            go_wp2
            go_roundw
            case rel => exact ⟨n + 1, by omega, by omega, by omega, by go_num, HNT.out, hb6⟩
            case measure => simp [intOf]; omega
        · have tgt : decide ((1 : Int) < (n : Int)) = true := by simp; omega
          have CV := value_any s a n wr (by omega) hfit (by omega) h4
          rw [value_at s a n (by omega), ← HL.out] at CV
          have HV := Lib.hid CV
          clear CV hone
          go_wp2_with fail
          refine HV.out.mono ?_
          rintro e w4 ⟨rfl, rfl⟩
          clear HV
          go_wp2_with fail
          have HT := Lib.hid (show Try1 L n ↔ ((refPut (vAt L n)).length = n ∧ L.take n = refPut (vAt L n)) from Iff.rfl)
          have HTD := Lib.hid (fun h => try_dec L n hn1 h)
          generalize vAt L n = V at *
          have C1 := Lib.hid (fun W => refput_any V W)
          generalize refPut V = q at HT C1
          refine (C1.out _).mono ?_
          rintro e w5 ⟨p, rfl, hown5, hbel5⟩
          obtain ⟨A5, c5, rfl, rd5⟩ := own_rd hown5
          clear hown5 C1
          have hb6 : Below w.heap.size w w5 := hbel.trans (hbel5.mono hsz)
          by_cases hql : q.length = n
          · have tq : ((q.length : Int) == (n : Int)) = true := by simp; omega
            have HP := Lib.hid (begP_at s a q (by omega) (by omega))
            by_cases hit : L.take n = q
            · have CB := begins_yes s a A5 c5 q w5 rd5 (by omega) (by omega) (by omega) (by rw [HP.out, ← HL.out, hql]; exact hit)
              have HB := Lib.hid CB
              have HR : Hid (runeF s a = (V, (n : Int), 0)) := by show _ = _; rw [HD.out]; exact HTD.out (HT.out.2 ⟨hql, hit⟩)
              have HQ := Lib.hid hql
              clear CB hit hql HT HTD
              go_wp2_with (go_at_call 74; refine HB.out.mono ?_; rintro e w9 ⟨rfl, hb9⟩)
              go_ret3
              exact ⟨by rw [HR.out]; rfl, hb6.trans (hb9.mono hb6.size)⟩
            · have CB := begins_no s a A5 c5 q w5 rd5 (by omega) (by omega) (by omega) (by rw [HP.out, ← HL.out, hql]; exact hit)
              have HB := Lib.hid CB
              have HNT : Hid (∀ m, 1 ≤ m → m < n + 1 → ¬ Try1 L m) := try_more HNO.out fun h => hit (HT.out.1 h).2
              have HQ := Lib.hid hql
              clear CB hit hql HT HTD HNO
              go_wp2_with (go_at_call 74; refine HB.out.mono ?_; rintro e w9 ⟨rfl, hb9⟩)
              go_roundw
              case rel => exact ⟨n + 1, by omega, by omega, by omega, by go_num, HNT.out, hb6.trans (hb9.mono hb6.size)⟩
              case measure => simp [intOf]; omega
          · have tq : ((q.length : Int) == (n : Int)) = false := by simp; omega
            have HNT : Hid (∀ m, 1 ≤ m → m < n + 1 → ¬ Try1 L m) := try_more HNO.out fun h => hql (HT.out.1 h).1
            clear hql HT HTD HNO
            go_wp2
            go_roundw
            case rel => exact ⟨n + 1, by omega, by omega, by omega, by go_num, HNT.out, hb6⟩
            case measure => simp [intOf]; omega
      · have t5 : decide ((a : Int) + (n : Int) ≤ (s.size : Int)) = false := by simp; omega
        have HR : Hid ((runeF s a).2.2 ≠ 0) := by
          show _ ≠ _
          rw [HD.out]
          exact HE.out fun m m1 m4 ml => HNO.out m m1 (by omega)
        have hk := HK.out
        have hr2 := HR.out
        clear HR HK HNO HE HD
        obtain ⟨x1, x2, x3, hx⟩ : ∃ x1 x2 x3, runeF s a = (x1, x2, x3) := ⟨_, _, _, rfl⟩
        rw [hx] at hk hr2
        unfold Okay at hk
        dsimp only at hk hr2
        have z1 : x1 = 0 := by omega
        have z2 : x2 = 0 := by omega
        have z3 : x3 = 2 ∨ x3 = 7 := by omega
        subst z1 z2
        clear hk hr2
        rcases z3 with rfl | rfl
        · have CC := cut_no s a wr hs ha (by rw [hx]; simp)
          have HC := Lib.hid CC
          have HXX := Lib.hid hx
          clear CC hx
          go_wp2_with (go_at_call 75; refine HC.out.mono ?_; rintro e w9 ⟨rfl, hb9⟩)
          go_ret3
          exact ⟨by rw [HXX.out]; rfl, hbel.trans (hb9.mono hsz)⟩
        · have CC := cut_yes s a wr hs ha (by rw [hx])
          have HC := Lib.hid CC
          have HXX := Lib.hid hx
          clear CC hx
          go_wp2_with (go_at_call 75; refine HC.out.mono ?_; rintro e w9 ⟨rfl, hb9⟩)
          go_ret3
          exact ⟨by rw [HXX.out]; rfl, hbel.trans (hb9.mono hsz)⟩
    · have t4 : decide ((n : Int) ≤ 4) = false := by simp; omega
      have HR : Hid ((runeF s a).2.2 ≠ 0) := by
        show _ ≠ _
        rw [HD.out]
        exact HE.out fun m m1 m4 ml => HNO.out m m1 (by omega)
      have hk := HK.out
      have hr2 := HR.out
      clear HR HK HNO HE HD
      obtain ⟨x1, x2, x3, hx⟩ : ∃ x1 x2 x3, runeF s a = (x1, x2, x3) := ⟨_, _, _, rfl⟩
      rw [hx] at hk hr2
      unfold Okay at hk
      dsimp only at hk hr2
      have z1 : x1 = 0 := by omega
      have z2 : x2 = 0 := by omega
      have z3 : x3 = 2 ∨ x3 = 7 := by omega
      subst z1 z2
      clear hk hr2
      rcases z3 with rfl | rfl
      · have CC := cut_no s a wr hs ha (by rw [hx]; simp)
        have HC := Lib.hid CC
        have HXX := Lib.hid hx
        clear CC hx
        go_wp2_with (go_at_call 75; refine HC.out.mono ?_; rintro e w9 ⟨rfl, hb9⟩)
        go_ret3
        exact ⟨by rw [HXX.out]; rfl, hbel.trans (hb9.mono hsz)⟩
      · have CC := cut_yes s a wr hs ha (by rw [hx])
        have HC := Lib.hid CC
        have HXX := Lib.hid hx
        clear CC hx
        go_wp2_with (go_at_call 75; refine HC.out.mono ?_; rintro e w9 ⟨rfl, hb9⟩)
        go_ret3
        exact ⟨by rw [HXX.out]; rfl, hbel.trans (hb9.mono hsz)⟩

set_option maxHeartbeats 400000 in
theorem ref_rune_out (s : ByteArray) (a : Int) (w : World) (hs : s.size ≤ 10000) (ha : a < 0 ∨ (s.size : Int) ≤ a) :
    Calls Tryz.prog 53 #[.string s, .int .i64 a] w (RefPost (0, 0, 7) w) := by
  by_cases h : a < 0
  · clear ha
    go_enter Tryz.func53, Tryz.ntmps53
    go_wp2
    go_ret3
    exact ⟨rfl, Below.refl _ _⟩
  · have h2 : (s.size : Int) ≤ a := by omega
    clear ha
    go_enter Tryz.func53, Tryz.ntmps53
    go_wp2
    go_ret3
    exact ⟨rfl, Below.refl _ _⟩
theorem ref_rune_any (s : ByteArray) (a : Int) (w : World) (hs : s.size ≤ 10000) :
    Calls Tryz.prog 53 #[.string s, .int .i64 a] w (RefPost (runeF s a) w) := by
  by_cases h : a < 0 ∨ (s.size : Int) ≤ a
  · have : runeF s a = (0, 0, 7) := by unfold runeF; rw [if_pos h]
    rw [this]
    exact ref_rune_out s a w hs h
  · obtain ⟨n, rfl⟩ := Int.eq_ofNat_of_zero_le (show 0 ≤ a by omega)
    exact ref_rune_in s n _ w hs (by omega) rfl
end Go.Proofs.YtnomcldpbkinmaaGreatDoor

/- The walks of the document's All and Whole. -/
set_option linter.unusedSimpArgs false
set_option linter.unusedVariables false
namespace Go.Proofs.YtnomcldpbkinmaaGreatDoor
open Go.RowKit

theorem Tryz.info21 : (Tryz.prog.info? 21).map (fun i => (i.zero, i.size, i.bytes)) = some (some (.int .i32 0), 1, 4) := by kernel_rfl
/-- A slice of runes of the call's own: from block B on. -/
def Own (w : World) (B : Nat) (v : Value) (l : List Int) : Prop := w.ownsRow B 21 1 v l.length (l.map (Value.int .i32))

def AllPost (s : ByteArray) (w : World) (x : List Int × Int × Int) (e : Ending) (w' : World) : Prop :=
  ∃ v, e = .returned (.tuple #[v, .int .i64 x.2.1, .int .i64 x.2.2]) ∧ Own w' w.heap.size v x.1 ∧ Below w.heap.size w w'

def AllRel (s : ByteArray) (w : World) (v i : Value) (wr : World) : Prop :=
  ∃ (a : Nat) (pre : List Int), a ≤ s.size ∧ i = .int .i64 a ∧ Own wr w.heap.size v pre ∧ Below w.heap.size w wr ∧ pre.length ≤ a ∧ allF s = (pre ++ (allAt s a).1, (allAt s a).2)

theorem own_later {w w' : World} {B : Nat} {e : TypeId} {size : Nat} {v : Value} {n : Nat} {xs : List Value} (h : w.ownsRow B e size v n xs) (hb : Below w.heap.size w w') : w'.ownsRow B e size v n xs := by
  rcases h with ⟨h1, ⟨rfl, h0⟩ | ⟨g, cap, cur, rfl, hg, hh, h3, h4, h5, h6⟩⟩
  · exact ⟨h1, .inl ⟨rfl, h0⟩⟩
  · refine ⟨h1, .inr ⟨g, cap, cur, rfl, hg, ?_, h3, h4, h5, h6⟩⟩
    rw [hb.block g (by
      rcases Nat.lt_or_ge g w.heap.size with hlt | hge
      · exact hlt
      · rw [Array.getElem?_eq_none hge] at hh; cases hh)]
    exact hh

set_option maxHeartbeats 1000000 in
set_option maxRecDepth 100000 in
theorem ref_all_any (s : ByteArray) (w : World) (hs : s.size ≤ 10000) :
    Calls Tryz.prog 48 #[.string s] w (AllPost s w (allF s)) := by
  obtain ⟨i0, hi, hz0, hz1, hz2⟩ := info_parts Tryz.info21
  go_enter Tryz.func48, Tryz.ntmps48
  go_wp2_with fail
  go_loopw [5, 6] (fun v i wr => AllRel s w v i wr) (fun _ i _ => s.size - (intOf i).toNat)
  case atStart => exact ⟨0, [], Nat.zero_le _, rfl, World.ownsRow_nil _ _ _ _, Below.refl _ _, Nat.le_refl _, by simp [allF_eq]⟩
  case round =>
    obtain ⟨a, pre, ha, rfl, hown, hbel, hpre, hall⟩ := hrel
    by_cases hlt : a < s.size
    · have hk := runeF_okay s a hlt
      obtain ⟨r, n, er, hx⟩ : ∃ r n er, runeF s a = (r, n, er) := ⟨_, _, _, rfl⟩
      have hc := ref_rune_any s a wr hs
      have H0 := allAt_err s a hlt
      have H1 := allAt_ok s a hlt
      rw [hx] at hk hc H0 H1
      clear hx
      unfold Okay at hk
      unfold RefPost R3i at hc
      dsimp only at hk hc H0 H1
      have HC := Lib.hid hc
      clear hc
      by_cases he : er = 0
      · subst he
        have hn : 1 ≤ n ∧ n ≤ (s.size - a : Nat) := by omega
        have hr1 : 0 ≤ r ∧ r ≤ 1114111 := by omega
        have HF : Hid (allF s = ((pre ++ [r]) ++ (allAt s (a + n.toNat)).1, (allAt s (a + n.toNat)).2)) := by
          rw [H1 rfl] at hall
          show allF s = _
          rw [hall]
          simp
        obtain ⟨n, rfl⟩ := Int.eq_ofNat_of_zero_le (show 0 ≤ n by omega)
        rw [Int.toNat_natCast] at HF
        have hl2 := hbel.size
        clear H0 H1 hall hk
        go_wp2_with fail
        refine HC.out.mono ?_
        rintro e w1 ⟨rfl, hb1⟩
        have hown1 := own_later hown hb1
        have hbel1 := hbel.trans (hb1.mono hl2)
        have hl3 := hbel1.size
        have hown' := hown1.alloc (.cells #[.int .i32 r] 21)
        go_wp2_with (at_builtin; refine wpList_append_own _ rfl _ _ 101 rfl w.heap.size 21 i0 (.int .i32 0) 1 4 Tryz.underlying101 hi hz0 hz1 hz2 rfl (by decide) _ _ _ rfl hown' ⟨w1.heap.size, 0, none⟩ 1 1 [.int .i32 r] rfl rfl (lit_cells w1 #[.int .i32 r] 21) (ints_oneCell .i32 [r]) (by unfold maxLen; omega) (by omega) (by simp; omega) ?_)
        intro v' w2 hown2 hgrow _
        go_wp2
        go_roundw
        case rel =>
          refine ⟨a + n, pre ++ [r], by omega, by go_num, ?_, ?_, by simp; omega, HF.out⟩
          · unfold Own; rw [List.map_append, List.length_append]; exact hown2
          · exact (hbel1.alloc hl3 _).grown hgrow (by simp; omega) (fun g hg => (hown.lt g hg).1)
        case measure => simp [intOf]; omega
      · have HF : Hid (allF s = (pre, (a : Int), er)) := by
          rw [H0 he] at hall
          show allF s = _
          rw [hall]
          simp
        have te : (er != 0) = true := by simpa using he
        clear H0 H1 hall hk he
        go_wp2_with fail
        refine HC.out.mono ?_
        rintro e w1 ⟨rfl, hb1⟩
        have hown1 := own_later hown hb1
        have hbel1 := hbel.trans (hb1.mono hbel.size)
        go_wp2
        go_ret3
        rw [HF.out]
        exact ⟨_, rfl, hown1, hbel1⟩
    · have HF : Hid (allF s = (pre, (a : Int), 0)) := by
        rw [allAt_done s a (by omega)] at hall
        show allF s = _
        rw [hall]
        simp
      clear hall
      go_wp2
      go_ret3
      rw [HF.out]
      exact ⟨_, rfl, hown, hbel⟩
end Go.Proofs.YtnomcldpbkinmaaGreatDoor

/- Walks: what the document's own classes return (Blank, Char, Start, Part), whatever the world. -/
set_option linter.unusedSimpArgs false
set_option linter.unusedVariables false
namespace Go.Proofs.YtnomcldpbkinmaaGreatDoor
open Go.RowKit

set_option maxHeartbeats 400000 in
set_option maxRecDepth 100000 in
theorem rblank_any (r : Int) (w : World) : Calls Tryz.prog 69 #[.int .i64 r] w fun e w' => e = .returned (.bool (decide (Blank r))) ∧ w = w' := by
  go_enter Tryz.func69, Tryz.ntmps69
  go_wp2
  all_goals
    go_ret
    refine ⟨cret_bool ?_, rfl⟩
    first
      | refine cbt ?_
      | refine cbf ?_
      | (refine Bool.eq_iff_iff.2 ?_; simp only [decide_eq_true_eq, Bool.or_eq_true, beq_iff_eq])
    try simp only [beq_iff_eq, Bool.or_eq_true, Bool.and_eq_true, decide_eq_true_eq, decide_eq_false_iff_not, beq_eq_false_iff_ne] at *
    simp only [Part, Start, Chr, Blank, Btw] at *
    first
      | omega
      | (constructor <;> intro hq <;> omega)

set_option maxHeartbeats 1000000 in
set_option maxRecDepth 100000 in
theorem rchr_any (r : Int) (w : World) : Calls Tryz.prog 49 #[.int .i64 r] w fun e w' => e = .returned (.bool (decide (Chr r))) ∧ w = w' := by
  go_enter Tryz.func49, Tryz.ntmps49
  go_wp2_with (first | (go_at_call 69; refine (rblank_any _ _).mono ?_; rintro e w' ⟨rfl, rfl⟩))
  all_goals
    go_ret
    refine ⟨cret_bool ?_, rfl⟩
    first
      | refine cbt ?_
      | refine cbf ?_
      | (refine Bool.eq_iff_iff.2 ?_; simp only [decide_eq_true_eq, Bool.or_eq_true, beq_iff_eq])
    try simp only [beq_iff_eq, Bool.or_eq_true, Bool.and_eq_true, decide_eq_true_eq, decide_eq_false_iff_not, beq_eq_false_iff_ne] at *
    simp only [Part, Start, Chr, Blank, Btw] at *
    first
      | omega
      | (constructor <;> intro hq <;> omega)

end Go.Proofs.YtnomcldpbkinmaaGreatDoor

/- The walk of the document's Right. -/
set_option linter.unusedSimpArgs false
set_option linter.unusedVariables false
namespace Go.Proofs.YtnomcldpbkinmaaGreatDoor.Tg
open Go.RowKit

def RtPost (P : Prop) (w : World) (e : Ending) (w' : World) : Prop := ∃ b : Bool, e = .returned (.bool b) ∧ (b = true ↔ P) ∧ Below w.heap.size w w'
theorem chr_take {l : List Int} {k : Nat} (h : ∀ x ∈ l.take k, Chr x) (hk : k < l.length) (hc : Chr (l.getD k 0)) : ∀ x ∈ l.take (k + 1), Chr x := by
  intro x hx
  rw [List.take_succ_eq_append_getElem hk] at hx
  rcases List.mem_append.1 hx with hx | hx
  · exact h x hx
  · simp only [List.mem_singleton] at hx
    rw [hx]
    simpa [List.getElem?_eq_getElem hk] using hc
theorem mem_getD {l : List Int} {k : Nat} (hk : k < l.length) : l.getD k 0 ∈ l := by
  simp [List.getElem?_eq_getElem hk]

set_option maxHeartbeats 4000000 in
set_option maxRecDepth 100000 in
theorem right_of (s : ByteArray) (l : List Int) (at_ er : Int) (w : World) (hg : Good l) (hn : l.length ≤ 100000)
    (C : Hid (Calls Tryz.prog 48 #[.string s] w (AllPost s w (l, at_, er)))) :
    Calls Tryz.prog 31 #[.string s] w (RtPost (er = 0 ∧ ∀ r ∈ l, Chr r) w) := by
  go_enter Tryz.func31, Tryz.ntmps31
  go_wp2_with fail
  refine C.out.mono ?_
  rintro e w1 ⟨v, rfl, hown, hb⟩
  obtain ⟨A, c, hv, hrd⟩ := own_rd (k := .i32) hown
  simp only at hv hrd
  subst hv
  clear hown C
  obtain ⟨n, hnl⟩ : ∃ n, n = l.length := ⟨_, rfl⟩
  rw [← hnl]
  have HN := Lib.hid hnl
  have hn2 : n ≤ 100000 := by omega
  clear hnl
  go_wp2_with fail
  go_loop [6] (fun vi => ∃ k : Nat, vi = .int .i64 k ∧ k ≤ n ∧ Hid (∀ x ∈ l.take k, Chr x)) (fun vi => n - (intOf vi).toNat)
  case atStart => exact ⟨0, rfl, by omega, Lib.hid fun x hx => by simp at hx⟩
  case round =>
    obtain ⟨k, rfl, hk, hR⟩ := hrel
    by_cases hlt : k < n
    · have hkl : k < l.length := by rw [← HN.out]; exact hlt
      obtain ⟨b, off, rfl, hbl, hc⟩ := hrd.at_ (j := k) hkl
      have hgd := hg _ (mem_getD hkl)
      have hm := mem_getD hkl
      have hct := Lib.hid (chr_take hR.out hkl)
      have x0 : 0 ≤ l.getD k 0 := by unfold Bad at hgd; omega
      have x1 : l.getD k 0 ≤ 1114111 := by unfold Bad at hgd; omega
      have hi2 : (k : Int) < (n : Int) := by omega
      have CC := rchr_any (l.getD k 0)
      have HM := Lib.hid hm
      clear hm hgd hkl
      by_cases hch : Chr (l.getD k 0)
      · have HR := Lib.hid (hct.out hch)
        rw [decide_eq_true hch] at CC
        have CCH := Lib.hid CC
        clear hch hct hR CC HM
        generalize l.getD k 0 = x at *
        go_wp2_with (go_at_call 49; refine (CCH.out _).mono ?_; rintro e w' ⟨rfl, rfl⟩)
        refine ⟨⟨k + 1, by rw [Int.natCast_add]; rfl, by omega, HR⟩, by simp only [intOf]; omega⟩
      · rw [decide_eq_false hch] at CC
        have CCH := Lib.hid CC
        have HX : Hid (¬ (er = 0 ∧ ∀ r ∈ l, Chr r)) := Lib.hid fun h => hch (h.2 _ HM.out)
        clear hch hct hR CC HM
        generalize l.getD k 0 = x at *
        go_wp2_with (go_at_call 49; refine (CCH.out _).mono ?_; rintro e w' ⟨rfl, rfl⟩)
        go_ret
        exact ⟨false, rfl, ⟨fun h => absurd h (by decide), fun h => absurd h HX.out⟩, hb⟩
    · have hkk : k = n := by omega
      subst hkk
      have HA : Hid (∀ x ∈ l, Chr x) := Lib.hid (by
        have := hR.out
        rw [HN.out, List.take_length] at this
        exact this)
      clear hR
      go_wp2
      go_ret
      refine ⟨(er == 0), rfl, ⟨fun h => ⟨by simpa using h, HA.out⟩, fun h => by simpa using h.1⟩, hb⟩
theorem right_any (s : ByteArray) (w : World) (hs : s.size ≤ 10000) : Calls Tryz.prog 31 #[.string s] w (RtPost (Rt (byts s)) w) := by
  have C := ref_all_any s w hs
  rw [allF_dec] at C
  have B := decF_back (byts s).length (byts s) (Nat.le_refl _) (byts_nn s)
  have hlen : (decF (byts s)).1.length ≤ 100000 := by
    obtain ⟨_, hp, h3, _, _⟩ := B
    rw [byts_len] at h3
    have : ∀ (m : List Int), m.length ≤ (m.flatMap putI).length := by
      intro m
      induction m with
      | nil => simp
      | cons x m ih =>
        have := (putI_len x).1
        rw [List.flatMap_cons, List.length_append, List.length_cons]
        omega
    have := this (decF (byts s)).1
    rw [hp, List.length_take] at this
    omega
  exact right_of s _ _ _ w B.1 hlen (Lib.hid C)
theorem right_yes (s : ByteArray) (hs : s.size ≤ 10000) (h : Rt (byts s)) (w : World) : Calls Tryz.prog 31 #[.string s] w fun e w' => e = .returned (.bool true) ∧ Below w.heap.size w w' := by
  refine (right_any s w hs).mono ?_
  rintro e w' ⟨b, rfl, hb, hB⟩
  rw [hb.2 h]
  exact ⟨rfl, hB⟩
theorem right_no (s : ByteArray) (hs : s.size ≤ 10000) (h : ¬ Rt (byts s)) (w : World) : Calls Tryz.prog 31 #[.string s] w fun e w' => e = .returned (.bool false) ∧ Below w.heap.size w w' := by
  refine (right_any s w hs).mono ?_
  rintro e w' ⟨b, rfl, hb, hB⟩
  cases b with
  | false => exact ⟨rfl, hB⟩
  | true => exact absurd (hb.1 rfl) h
end Go.Proofs.YtnomcldpbkinmaaGreatDoor.Tg

/- The walk of the document's skip. -/
set_option linter.unusedSimpArgs false
set_option linter.unusedVariables false
namespace Go.Proofs.YtnomcldpbkinmaaGreatDoor.Tg
open Go.RowKit

/-- The first place from one on where no blank stands. -/
def pk (s : ByteArray) (k : Nat) : Nat := k + bk (Nz.fr s k)
end Go.Proofs.YtnomcldpbkinmaaGreatDoor.Tg

/- How many bytes a decoded rune has: as many as it is encoded to, but one where fffd stands for bytes that are no rune's. -/
set_option linter.unusedSimpArgs false
set_option linter.unusedVariables false
namespace Go.Proofs.YtnomcldpbkinmaaGreatDoor.Nz
open Go.RowKit

/-- The bytes of fffd stand first. -/
def Fd (n b0 b1 b2 : Nat) : Prop := 3 ≤ n ∧ b0 = 239 ∧ b1 = 191 ∧ b2 = 189
instance (n b0 b1 b2 : Nat) : Decidable (Fd n b0 b1 b2) := inferInstanceAs (Decidable (3 ≤ n ∧ b0 = 239 ∧ b1 = 191 ∧ b2 = 189))

theorem take3 (L : List Nat) : (L.take 3 = [239, 191, 189]) ↔ Fd L.length (L.getD 0 0) (L.getD 1 0) (L.getD 2 0) := by
  unfold Fd
  match L with
  | [] => simp
  | [a] => simp
  | [a, b] => simp
  | a :: b :: c :: L => simp
end Go.Proofs.YtnomcldpbkinmaaGreatDoor.Nz

/- The walk of the document's own Cut. -/
set_option linter.unusedSimpArgs false
set_option linter.unusedVariables false
namespace Go.Proofs.YtnomcldpbkinmaaGreatDoor.Nz
open Go.RowKit

end Go.Proofs.YtnomcldpbkinmaaGreatDoor.Nz

/- The walk of the document's own Split. -/
set_option linter.unusedSimpArgs false
set_option linter.unusedVariables false
namespace Go.Proofs.YtnomcldpbkinmaaGreatDoor.Nz
open Go.RowKit

def RsRel (s : ByteArray) (w : World) (i : Value) (wr : World) : Prop :=
  ∃ k : Nat, k ≤ s.size ∧ i = .int .i64 k ∧ Below w.heap.size w wr ∧ ∀ j, j < k → ¬ Hit s j
theorem bl_get (s : ByteArray) (k : Nat) (h : k < s.size) : (bl s).getD k 0 = (s[k]'h).toNat := by
  have := get_bl s k 0
  rw [List.getD_eq_getElem?_getD, List.getElem?_drop, Nat.add_zero, ← List.getD_eq_getElem?_getD] at this
  rw [← this]
  simp [ByteArray.get!, getElem!_pos, h]
  rfl
theorem ret_split {r : ByteArray × ByteArray × Bool} {a b : ByteArray} {c : Bool} (h : r = (a, b, c)) : Ending.returned (.tuple #[.string a, .string b, .bool c]) = .returned (.tuple #[.string r.1, .string r.2.1, .bool r.2.2]) := by rw [h]

set_option maxHeartbeats 1000000 in
set_option maxRecDepth 100000 in
theorem rsplit_any (s : ByteArray) (hs : s.size ≤ 10000) (w : World) :
    Calls Tryz.prog 30 #[.string s] w fun e w' => e = .returned (.tuple #[.string (splitA s).1, .string (splitA s).2.1, .bool (splitA s).2.2]) ∧ Below w.heap.size w w' := by
  have CP := Lib.hid (rplain_any s hs)
  cases hp : pl (bl s)
  · rw [hp] at CP
    have HN := Lib.hid (@nohit_split s hp)
    have HH := Lib.hid (fun i (h : Hit s i) => hit_split h)
    clear hp
    generalize splitA s = res at *
    go_enter Tryz.func30, Tryz.ntmps30
    go_wp2_with fail
    refine (CP.out _).mono ?_
    rintro e w1 ⟨rfl, hb1⟩
    go_wp2_with fail
    go_loopw [5] (fun i wr => RsRel s w i wr) (fun i _ => s.size - (intOf i).toNat)
    case atStart => exact ⟨0, Nat.zero_le _, rfl, hb1, fun j hj => by omega⟩
    case round =>
      obtain ⟨k, hk, rfl, hb, ho⟩ := hrel
      have HO := Lib.hid ho
      clear ho hb1
      by_cases hlt : k < s.size
      · have hbe := bl_get s k hlt
        by_cases h58 : (bl s).getD k 0 = 58
        · have c1 : ((s[k].toNat : Int) == 58) = true := by rw [← hbe, h58]; rfl
          have i1 : (0 : Int) ≤ (k : Int) := by omega
          have i2 : (k : Int) ≤ (s.size : Int) := by omega
          have H58 := Lib.hid h58
          have C1 := Lib.hid (rplain_any (s.extract 0 k) (by rw [ByteArray.size_extract]; omega))
          have C2 := Lib.hid (rplain_any (s.extract (k + 1) s.size) (by rw [ByteArray.size_extract]; omega))
          clear hbe h58
          cases h1 : pl (bl (s.extract 0 k))
          · have HQ : Hid (¬ Hit s k) := Lib.hid (by
              rintro ⟨g1, g2, g3, g4⟩
              rw [← bl_pre, h1] at g3
              exact absurd g3 (by simp))
            rw [h1] at C1
            clear h1
            go_wp2_with fail
            refine (C1.out _).mono ?_
            rintro e w2 ⟨rfl, hb2⟩
            go_wp2_with fail
            go_roundw
            case rel =>
              refine ⟨k + 1, by omega, by go_num, hb.trans (hb2.mono hb.size), fun j hj => ?_⟩
              rcases Nat.lt_or_ge j k with h | h
              · exact HO.out j h
              · obtain rfl : j = k := by omega
                exact HQ.out
            case measure => simp [intOf]; omega
          · have H1 := Lib.hid h1
            rw [h1] at C1
            clear h1
            cases h2 : pl (bl (s.extract (k + 1) s.size))
            · have HQ : Hid (¬ Hit s k) := Lib.hid (by
                rintro ⟨g1, g2, g3, g4⟩
                rw [← bl_post, h2] at g4
                exact absurd g4 (by simp))
              rw [h2] at C2
              clear h2
              have i3 : (0 : Int) ≤ (k : Int) + 1 := by omega
              have i4 : (k : Int) + 1 ≤ (s.size : Int) := by omega
              have q3 : ((k : Int) + 1).toNat = k + 1 := by omega
              go_wp2_with fail
              refine (C1.out _).mono ?_
              rintro e w2 ⟨rfl, hb2⟩
              go_wp2_with fail
              refine (C2.out _).mono ?_
              rintro e w3 ⟨rfl, hb3⟩
              have hbb := (hb.trans (hb2.mono hb.size)).trans (hb3.mono (by have := hb.size; have := hb2.size; omega))
              go_wp2_with fail
              go_roundw
              case rel =>
                refine ⟨k + 1, by omega, by go_num, hbb, fun j hj => ?_⟩
                rcases Nat.lt_or_ge j k with h | h
                · exact HO.out j h
                · obtain rfl : j = k := by omega
                  exact HQ.out
              case measure => simp [intOf]; omega
            · have HQ : Hid (Hit s k) := Lib.hid ⟨hlt, H58.out, by rw [← bl_pre]; exact H1.out, by rw [← bl_post]; exact h2⟩
              rw [h2] at C2
              clear h2
              have i3 : (0 : Int) ≤ (k : Int) + 1 := by omega
              have i4 : (k : Int) + 1 ≤ (s.size : Int) := by omega
              have q3 : ((k : Int) + 1).toNat = k + 1 := by omega
              have q2 : IntKind.i64.wrap ((k : Int) + 1) = (k : Int) + 1 := IntWalk.i64_in _ (by omega)
              go_wp2_with fail
              refine (C1.out _).mono ?_
              rintro e w2 ⟨rfl, hb2⟩
              go_wp2_with fail
              refine (C2.out _).mono ?_
              rintro e w3 ⟨rfl, hb3⟩
              have hbb := (hb.trans (hb2.mono hb.size)).trans (hb3.mono (by have := hb.size; have := hb2.size; omega))
              go_wp2_with fail
              go_quiet (fail)
              go_wp2
              go_ret3
              exact ⟨ret_split (HH.out _ HQ.out), below_drewN hbb _⟩
        · have c1 : ((s[k].toNat : Int) == 58) = false := by
            rw [beq_eq_false_iff_ne, ← hbe]
            omega
          have HQ : Hid (¬ Hit s k) := Lib.hid (fun h => h58 h.2.1)
          clear hbe h58
          go_wp2_with fail
          go_roundw
          case rel =>
            refine ⟨k + 1, by omega, by go_num, hb, fun j hj => ?_⟩
            rcases Nat.lt_or_ge j k with h | h
            · exact HO.out j h
            · obtain rfl : j = k := by omega
              exact HQ.out
          case measure => simp [intOf]; omega
      · go_wp2_with fail
        go_ret3
        exact ⟨ret_split (HN.out (fun i hi => HO.out i (by omega))), hb⟩
  · rw [hp] at CP
    have HS := Lib.hid (plain_split hp)
    clear hp
    generalize splitA s = res at *
    go_enter Tryz.func30, Tryz.ntmps30
    go_wp2_with fail
    refine (CP.out _).mono ?_
    rintro e w1 ⟨rfl, hb1⟩
    go_wp2_with fail
    go_ret3
    exact ⟨ret_split HS.out, hb1⟩
end Go.Proofs.YtnomcldpbkinmaaGreatDoor.Nz

/- The walks of the document's hex and Ref. -/
set_option linter.unusedSimpArgs false
set_option linter.unusedVariables false
namespace Go.Proofs.YtnomcldpbkinmaaGreatDoor
open Go.RowKit

theorem drop_ne (t : ByteArray) (k : Nat) (h : k < t.size) : (byts t).drop k ≠ [] := by
  intro e
  have := congrArg List.length e
  rw [List.length_drop, byts_len, List.length_nil] at this
  omega
end Go.Proofs.YtnomcldpbkinmaaGreatDoor

/- The walk of the document's Read. -/
set_option linter.unusedSimpArgs false
set_option linter.unusedVariables false
namespace Go.Proofs.YtnomcldpbkinmaaGreatDoor
open Go.RowKit

end Go.Proofs.YtnomcldpbkinmaaGreatDoor
