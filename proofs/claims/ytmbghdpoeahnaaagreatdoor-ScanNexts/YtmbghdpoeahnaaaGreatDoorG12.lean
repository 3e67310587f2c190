/-
  Merged by program out of the texts RefRune, RefAll, Desc of one seat.
-/
import Derived.Test.YtmbghdpoeahnaaaGreatDoorG11
import Derived.Test.YtmbghdpoeahnaaaGreatDoorG08

/- The walk of the document's Rune. -/
set_option linter.unusedSimpArgs false
set_option linter.unusedVariables false
namespace Go.Proofs.YtmbghdpoeahnaaaGreatDoor
open Go.RowKit

set_option maxHeartbeats 1000000 in
set_option maxRecDepth 100000 in
theorem cut_long (s : ByteArray) (a : Nat) (w : World) (hs : s.size ≤ 1000) (h : a + 4 ≤ s.size) :
    Calls Tryz.prog 41 #[.string s, .int .i64 a] w fun e w' => e = .returned (.bool false) ∧ Below w.heap.size w w' := by
  have t1 : decide ((s.size : Int) - (a : Int) < 1) = false := by simp; omega
  have t2 : decide ((3 : Int) < (s.size : Int) - (a : Int)) = true := by simp; omega
  go_enter Tryz.func41, Tryz.ntmps41
  go_wp2
  go_ret
  exact ⟨rfl, Below.refl _ _⟩
/-- cut, at a place within the text: is all from there on cut off? -/
theorem cut_at_any (s : ByteArray) (a : Nat) (w : World) (hs : s.size ≤ 1000) (h : a < s.size) : Calls Tryz.prog 41 #[.string s, .int .i64 a] w (CutPost ((byts s).drop a) w) := by
  have hl : ((byts s).drop a).length = s.size - a := by rw [List.length_drop, byts_len]
  by_cases h4 : s.size - a ≤ 3
  · exact cut_any s a _ w hs rfl (by omega) (by omega)
  · exact (cut_long s a w hs (by omega)).mono fun e w' ⟨h1, h2⟩ => ⟨false, h1, ⟨(fun h => by cases h), fun h => absurd h (cut_4 _ (by omega))⟩, h2⟩
theorem cut_yes (s : ByteArray) (a : Nat) (w : World) (hs : s.size ≤ 1000) (h : a < s.size) (h7 : (runeF s a).2.2 = 7) : Calls Tryz.prog 41 #[.string s, .int .i64 a] w fun e w' => e = .returned (.bool true) ∧ Below w.heap.size w w' :=
  (cut_at_any s a w hs h).mono fun e w' ⟨b, h1, h2, h3⟩ => ⟨by rw [h1, h2.2 (by rw [← runeF_dec s a h]; exact h7)], h3⟩
theorem cut_no (s : ByteArray) (a : Nat) (w : World) (hs : s.size ≤ 1000) (h : a < s.size) (h7 : (runeF s a).2.2 ≠ 7) : Calls Tryz.prog 41 #[.string s, .int .i64 a] w fun e w' => e = .returned (.bool false) ∧ Below w.heap.size w w' :=
  (cut_at_any s a w hs h).mono fun e w' ⟨b, h1, h2, h3⟩ => by
    have hb : b = false := Bool.eq_false_iff.2 fun hb => h7 (by rw [runeF_dec s a h]; exact h2.1 hb)
    exact ⟨by rw [h1, hb], h3⟩

def R3i (x : Int × Int × Int) : Value := .tuple #[.int .i64 x.1, .int .i64 x.2.1, .int .i64 x.2.2]
def RefPost (x : Int × Int × Int) (w : World) (e : Ending) (w' : World) : Prop := e = .returned (R3i x) ∧ Below w.heap.size w w'
def RefRel (L : List Int) (w : World) (i : Value) (wr : World) : Prop :=
  ∃ n : Nat, 1 ≤ n ∧ n ≤ 5 ∧ n ≤ L.length + 1 ∧ i = .int .i64 n ∧ (∀ m, 1 ≤ m → m < n → ¬ Try1 L m) ∧ Below w.heap.size w wr
theorem begP_at (s : ByteArray) (a : Nat) (q : List Int) (hq : 0 < q.length) (h : a + q.length ≤ s.size) : begP s a q ↔ ((byts s).drop a).take q.length = q := by
  have hg : ∀ j, bt s (a + j) = ((byts s).drop a).getD j 0 := fun j => by
    rw [bt_byts]
    simp [List.getD_eq_getElem?_getD, List.getElem?_drop]
  have hl : ((byts s).drop a).length = s.size - a := by rw [List.length_drop, byts_len]
  generalize (byts s).drop a = L at *
  refine ⟨fun ⟨_, _, h1⟩ => ?_, fun h1 => ⟨hq, h, fun j hj => ?_⟩⟩
  · refine List.ext_getElem (by rw [List.length_take]; omega) fun i i1 i2 => ?_
    have := h1 i i2
    rw [hg i] at this
    simp only [List.getD_eq_getElem?_getD, List.getElem?_eq_getElem i2, List.getElem?_eq_getElem (show i < L.length by omega), Option.getD_some] at this
    rw [List.getElem_take]
    exact this
  · rw [hg j]
    have := congrArg (fun l => l.getD j 0) h1
    simp only [List.getD_eq_getElem?_getD, List.getElem?_take, hj, if_true] at this ⊢
    exact this
theorem try_more {L : List Int} {n : Nat} (h : ∀ m, 1 ≤ m → m < n → ¬ Try1 L m) (hn : ¬ Try1 L n) : ∀ m, 1 ≤ m → m < n + 1 → ¬ Try1 L m := fun j j1 j2 => by
  rcases Nat.lt_or_ge j n with h' | h'
  · exact h j j1 h'
  · obtain rfl : j = n := by omega
    exact hn
/-- The value that is tried at n bytes, where it is walked. -/
theorem value_at (s : ByteArray) (a n : Nat) (h2 : 2 ≤ n) : valG (fun i => bt s (a + i)) n n = vAt ((byts s).drop a) n := by
  rw [vAt, if_neg (by omega)]
  unfold valL
  congr 1
  funext j
  rw [bt_byts]
  simp [List.getD_eq_getElem?_getD, List.getElem?_drop]
theorem err_of {L : List Int} (hl : L ≠ []) (hn : NN L) (h : ∀ m, 1 ≤ m → m ≤ 4 → m ≤ L.length → ¬ Try1 L m) : (dec1 L).2.2 ≠ 0 := fun h0 => by
  obtain ⟨n, n1, n4, nl, ht⟩ := dec_try L hl hn h0
  exact h n n1 n4 nl ht

set_option maxHeartbeats 4000000 in
set_option maxRecDepth 100000 in
theorem ref_rune_in (s : ByteArray) (a : Nat) (L : List Int) (w : World) (hs : s.size ≤ 1000) (ha : a < s.size) (hL : L = (byts s).drop a) :
    Calls Tryz.prog 26 #[.string s, .int .i64 a] w (RefPost (runeF s a) w) := by
  have hlen : L.length = s.size - a := by rw [hL, List.length_drop, byts_len]
  have hdec := runeF_dec s a ha
  rw [← hL] at hdec
  have hne : L ≠ [] := fun e => by rw [e] at hlen; simp at hlen; omega
  have hnn : NN L := by rw [hL]; exact (byts_nn s).drop a
  have hk := runeF_okay s a ha
  have HL := Lib.hid hL
  have HD := Lib.hid hdec
  have HE := Lib.hid (fun h => err_of hne hnn h)
  have HK := Lib.hid hk
  have hl1 : L.length ≤ s.size - a := by omega
  have hl2 : s.size - a ≤ L.length := by omega
  clear hlen hdec hne hnn hk hL
  have t1 : decide ((a : Int) < 0) = false := by simp
  have t2 : decide (s.size ≤ a) = false := by simp; omega
  go_enter Tryz.func26, Tryz.ntmps26
  go_wp2_with fail
  go_loopw [7] (fun i wr => RefRel L w i wr) (fun i _ => 5 - (intOf i).toNat)
  case atStart => exact ⟨1, by omega, by omega, by omega, rfl, fun m m1 m2 => by omega, Below.refl _ _⟩
  case round =>
    obtain ⟨n, hn1, hn5, hnl, rfl, hno, hbel⟩ := hrel
    have HNO := Lib.hid hno
    clear hno
    have hsz := hbel.size
    by_cases h4 : n ≤ 4
    · have t4 : decide ((n : Int) ≤ 4) = true := by simp; omega
      by_cases hfit : a + n ≤ s.size
      · have t5 : decide ((a : Int) + (n : Int) ≤ (s.size : Int)) = true := by simp; omega
        have hx := bt_eq s a ha
        have HX := Lib.hid hx
        clear hx
        by_cases hone : n = 1
        · have tgt : decide ((1 : Int) < (n : Int)) = false := by simp; omega
          have hv : ((s[a].toNat : Nat) : Int) = vAt L n := by
            rw [HX.out, bt_byts, hone, vAt, if_pos rfl, HL.out]
            simp [List.getD_eq_getElem?_getD, List.getElem?_drop]
          have HV := Lib.hid hv
          have hby : (s[a].toNat : Int) < 256 := by have := s[a].toNat_lt; omega
          clear hv hone
          go_wp2_with fail
          rw [HV.out]
          clear HV
          have HT := Lib.hid (show Try1 L n ↔ ((refPut (vAt L n)).length = n ∧ L.take n = refPut (vAt L n)) from Iff.rfl)
          have HTD := Lib.hid (fun h => try_dec L n hn1 h)
          generalize vAt L n = V at *
          have C1 := Lib.hid (fun W => refput_any V W)
          generalize refPut V = q at HT C1
          refine (C1.out _).mono ?_
          rintro e w5 ⟨p, rfl, hown5, hbel5⟩
          obtain ⟨A5, c5, rfl, rd5⟩ := own_rd hown5
          clear hown5 C1
          have hb6 : Below w.heap.size w w5 := hbel.trans (hbel5.mono hsz)
          by_cases hql : q.length = n
          · have tq : ((q.length : Int) == (n : Int)) = true := by simp; omega
            have HP := Lib.hid (begP_at s a q (by omega) (by omega))
            by_cases hit : L.take n = q
            · have CB := begins_yes s a A5 c5 q w5 rd5 (by omega) (by omega) (by omega) (by rw [HP.out, ← HL.out, hql]; exact hit)
              have HB := Lib.hid CB
              have HR : Hid (runeF s a = (V, (n : Int), 0)) := by show _ = _; rw [HD.out]; exact HTD.out (HT.out.2 ⟨hql, hit⟩)
              have HQ := Lib.hid hql
              clear CB hit hql HT HTD
              go_wp2_with (go_at_call 40; refine HB.out.mono ?_; rintro e w9 ⟨rfl, hb9⟩)
              go_ret3
              exact ⟨by rw [HR.out]; rfl, hb6.trans (hb9.mono hb6.size)⟩
            · have CB := begins_no s a A5 c5 q w5 rd5 (by omega) (by omega) (by omega) (by rw [HP.out, ← HL.out, hql]; exact hit)
              have HB := Lib.hid CB
              have HNT : Hid (∀ m, 1 ≤ m → m < n + 1 → ¬ Try1 L m) := try_more HNO.out fun h => hit (HT.out.1 h).2
              have HQ := Lib.hid hql
              clear CB hit hql HT HTD HNO
              go_wp2_with (go_at_call 40; refine HB.out.mono ?_; rintro e w9 ⟨rfl, hb9⟩)
              go_roundw
              case rel => exact ⟨n + 1, by omega, by omega, by omega, by go_num, HNT.out, hb6.trans (hb9.mono hb6.size)⟩
              case measure => simp [intOf]; omega
          · have tq : ((q.length : Int) == (n : Int)) = false := by simp; omega
            have HNT : Hid (∀ m, 1 ≤ m → m < n + 1 → ¬ Try1 L m) := try_more HNO.out fun h => hql (HT.out.1 h).1
            clear hql HT HTD HNO
            go_wp2
            go_roundw
            case rel => exact ⟨n + 1, by omega, by omega, by omega, by go_num, HNT.out, hb6⟩
            case measure => simp [intOf]; omega
        · have tgt : decide ((1 : Int) < (n : Int)) = true := by simp; omega
          have CV := value_any s a n wr (by omega) hfit (by omega) h4
          rw [value_at s a n (by omega), ← HL.out] at CV
          have HV := Lib.hid CV
          clear CV hone
          go_wp2_with fail
          refine HV.out.mono ?_
          rintro e w4 ⟨rfl, rfl⟩
          clear HV
          go_wp2_with fail
          have HT := Lib.hid (show Try1 L n ↔ ((refPut (vAt L n)).length = n ∧ L.take n = refPut (vAt L n)) from Iff.rfl)
          have HTD := Lib.hid (fun h => try_dec L n hn1 h)
          generalize vAt L n = V at *
          have C1 := Lib.hid (fun W => refput_any V W)
          generalize refPut V = q at HT C1
          refine (C1.out _).mono ?_
          rintro e w5 ⟨p, rfl, hown5, hbel5⟩
          obtain ⟨A5, c5, rfl, rd5⟩ := own_rd hown5
          clear hown5 C1
          have hb6 : Below w.heap.size w w5 := hbel.trans (hbel5.mono hsz)
          by_cases hql : q.length = n
          · have tq : ((q.length : Int) == (n : Int)) = true := by simp; omega
            have HP := Lib.hid (begP_at s a q (by omega) (by omega))
            by_cases hit : L.take n = q
            · have CB := begins_yes s a A5 c5 q w5 rd5 (by omega) (by omega) (by omega) (by rw [HP.out, ← HL.out, hql]; exact hit)
              have HB := Lib.hid CB
              have HR : Hid (runeF s a = (V, (n : Int), 0)) := by show _ = _; rw [HD.out]; exact HTD.out (HT.out.2 ⟨hql, hit⟩)
              have HQ := Lib.hid hql
              clear CB hit hql HT HTD
              go_wp2_with (go_at_call 40; refine HB.out.mono ?_; rintro e w9 ⟨rfl, hb9⟩)
              go_ret3
              exact ⟨by rw [HR.out]; rfl, hb6.trans (hb9.mono hb6.size)⟩
            · have CB := begins_no s a A5 c5 q w5 rd5 (by omega) (by omega) (by omega) (by rw [HP.out, ← HL.out, hql]; exact hit)
              have HB := Lib.hid CB
              have HNT : Hid (∀ m, 1 ≤ m → m < n + 1 → ¬ Try1 L m) := try_more HNO.out fun h => hit (HT.out.1 h).2
              have HQ := Lib.hid hql
              clear CB hit hql HT HTD HNO
              go_wp2_with (go_at_call 40; refine HB.out.mono ?_; rintro e w9 ⟨rfl, hb9⟩)
              go_roundw
              case rel => exact ⟨n + 1, by omega, by omega, by omega, by go_num, HNT.out, hb6.trans (hb9.mono hb6.size)⟩
              case measure => simp [intOf]; omega
          · have tq : ((q.length : Int) == (n : Int)) = false := by simp; omega
            have HNT : Hid (∀ m, 1 ≤ m → m < n + 1 → ¬ Try1 L m) := try_more HNO.out fun h => hql (HT.out.1 h).1
            clear hql HT HTD HNO
            go_wp2
            go_roundw
            case rel => exact ⟨n + 1, by omega, by omega, by omega, by go_num, HNT.out, hb6⟩
            case measure => simp [intOf]; omega
      · have t5 : decide ((a : Int) + (n : Int) ≤ (s.size : Int)) = false := by simp; omega
        have HR : Hid ((runeF s a).2.2 ≠ 0) := by
          show _ ≠ _
          rw [HD.out]
          exact HE.out fun m m1 m4 ml => HNO.out m m1 (by omega)
        have hk := HK.out
        have hr2 := HR.out
        clear HR HK HNO HE HD
        obtain ⟨x1, x2, x3, hx⟩ : ∃ x1 x2 x3, runeF s a = (x1, x2, x3) := ⟨_, _, _, rfl⟩
        rw [hx] at hk hr2
        unfold Okay at hk
        dsimp only at hk hr2
        have z1 : x1 = 0 := by omega
        have z2 : x2 = 0 := by omega
        have z3 : x3 = 2 ∨ x3 = 7 := by omega
        subst z1 z2
        clear hk hr2
        rcases z3 with rfl | rfl
        · have CC := cut_no s a wr hs ha (by rw [hx]; simp)
          have HC := Lib.hid CC
          have HXX := Lib.hid hx
          clear CC hx
          go_wp2_with (go_at_call 41; refine HC.out.mono ?_; rintro e w9 ⟨rfl, hb9⟩)
          go_ret3
          exact ⟨by rw [HXX.out]; rfl, hbel.trans (hb9.mono hsz)⟩
        · have CC := cut_yes s a wr hs ha (by rw [hx])
          have HC := Lib.hid CC
          have HXX := Lib.hid hx
          clear CC hx
          go_wp2_with (go_at_call 41; refine HC.out.mono ?_; rintro e w9 ⟨rfl, hb9⟩)
          go_ret3
          exact ⟨by rw [HXX.out]; rfl, hbel.trans (hb9.mono hsz)⟩
    · have t4 : decide ((n : Int) ≤ 4) = false := by simp; omega
      have HR : Hid ((runeF s a).2.2 ≠ 0) := by
        show _ ≠ _
        rw [HD.out]
        exact HE.out fun m m1 m4 ml => HNO.out m m1 (by omega)
      have hk := HK.out
      have hr2 := HR.out
      clear HR HK HNO HE HD
      obtain ⟨x1, x2, x3, hx⟩ : ∃ x1 x2 x3, runeF s a = (x1, x2, x3) := ⟨_, _, _, rfl⟩
      rw [hx] at hk hr2
      unfold Okay at hk
      dsimp only at hk hr2
      have z1 : x1 = 0 := by omega
      have z2 : x2 = 0 := by omega
      have z3 : x3 = 2 ∨ x3 = 7 := by omega
      subst z1 z2
      clear hk hr2
      rcases z3 with rfl | rfl
      · have CC := cut_no s a wr hs ha (by rw [hx]; simp)
        have HC := Lib.hid CC
        have HXX := Lib.hid hx
        clear CC hx
        go_wp2_with (go_at_call 41; refine HC.out.mono ?_; rintro e w9 ⟨rfl, hb9⟩)
        go_ret3
        exact ⟨by rw [HXX.out]; rfl, hbel.trans (hb9.mono hsz)⟩
      · have CC := cut_yes s a wr hs ha (by rw [hx])
        have HC := Lib.hid CC
        have HXX := Lib.hid hx
        clear CC hx
        go_wp2_with (go_at_call 41; refine HC.out.mono ?_; rintro e w9 ⟨rfl, hb9⟩)
        go_ret3
        exact ⟨by rw [HXX.out]; rfl, hbel.trans (hb9.mono hsz)⟩

set_option maxHeartbeats 400000 in
theorem ref_rune_out (s : ByteArray) (a : Int) (w : World) (hs : s.size ≤ 1000) (ha : a < 0 ∨ (s.size : Int) ≤ a) :
    Calls Tryz.prog 26 #[.string s, .int .i64 a] w (RefPost (0, 0, 7) w) := by
  by_cases h : a < 0
  · clear ha
    go_enter Tryz.func26, Tryz.ntmps26
    go_wp2
    go_ret3
    exact ⟨rfl, Below.refl _ _⟩
  · have h2 : (s.size : Int) ≤ a := by omega
    clear ha
    go_enter Tryz.func26, Tryz.ntmps26
    go_wp2
    go_ret3
    exact ⟨rfl, Below.refl _ _⟩
theorem ref_rune_any (s : ByteArray) (a : Int) (w : World) (hs : s.size ≤ 1000) :
    Calls Tryz.prog 26 #[.string s, .int .i64 a] w (RefPost (runeF s a) w) := by
  by_cases h : a < 0 ∨ (s.size : Int) ≤ a
  · have : runeF s a = (0, 0, 7) := by unfold runeF; rw [if_pos h]
    rw [this]
    exact ref_rune_out s a w hs h
  · obtain ⟨n, rfl⟩ := Int.eq_ofNat_of_zero_le (show 0 ≤ a by omega)
    exact ref_rune_in s n _ w hs (by omega) rfl
end Go.Proofs.YtmbghdpoeahnaaaGreatDoor

/- The walks of the document's All and Whole. -/
set_option linter.unusedSimpArgs false
set_option linter.unusedVariables false
namespace Go.Proofs.YtmbghdpoeahnaaaGreatDoor
open Go.RowKit

theorem Tryz.info21 : (Tryz.prog.info? 21).map (fun i => (i.zero, i.size, i.bytes)) = some (some (.int .i32 0), 1, 4) := by kernel_rfl
/-- A slice of runes of the call's own: from block B on. -/
def Own (w : World) (B : Nat) (v : Value) (l : List Int) : Prop := w.ownsRow B 21 1 v l.length (l.map (Value.int .i32))

def AllPost (s : ByteArray) (w : World) (x : List Int × Int × Int) (e : Ending) (w' : World) : Prop :=
  ∃ v, e = .returned (.tuple #[v, .int .i64 x.2.1, .int .i64 x.2.2]) ∧ Own w' w.heap.size v x.1 ∧ Below w.heap.size w w'

def AllRel (s : ByteArray) (w : World) (v i : Value) (wr : World) : Prop :=
  ∃ (a : Nat) (pre : List Int), a ≤ s.size ∧ i = .int .i64 a ∧ Own wr w.heap.size v pre ∧ Below w.heap.size w wr ∧ pre.length ≤ a ∧ allF s = (pre ++ (allAt s a).1, (allAt s a).2)

theorem runeF_bd (s : ByteArray) (a : Int) : 0 ≤ (runeF s a).1 ∧ (runeF s a).1 ≤ 1114111 := by
  by_cases h : a < 0 ∨ (s.size : Int) ≤ a
  · have : runeF s a = (0, 0, 7) := by unfold runeF; rw [if_pos h]
    rw [this]
    simp
  · obtain ⟨n, rfl⟩ := Int.eq_ofNat_of_zero_le (show 0 ≤ a by omega)
    have := runeF_okay s n (by omega)
    unfold Okay at this
    omega
theorem own_later {w w' : World} {B : Nat} {e : TypeId} {size : Nat} {v : Value} {n : Nat} {xs : List Value} (h : w.ownsRow B e size v n xs) (hb : Below w.heap.size w w') : w'.ownsRow B e size v n xs := by
  rcases h with ⟨h1, ⟨rfl, h0⟩ | ⟨g, cap, cur, rfl, hg, hh, h3, h4, h5, h6⟩⟩
  · exact ⟨h1, .inl ⟨rfl, h0⟩⟩
  · refine ⟨h1, .inr ⟨g, cap, cur, rfl, hg, ?_, h3, h4, h5, h6⟩⟩
    rw [hb.block g (by
      rcases Nat.lt_or_ge g w.heap.size with hlt | hge
      · exact hlt
      · rw [Array.getElem?_eq_none hge] at hh; cases hh)]
    exact hh

set_option maxHeartbeats 1000000 in
set_option maxRecDepth 100000 in
theorem ref_all_any (s : ByteArray) (w : World) (hs : s.size ≤ 1000) :
    Calls Tryz.prog 22 #[.string s] w (AllPost s w (allF s)) := by
  obtain ⟨i0, hi, hz0, hz1, hz2⟩ := info_parts Tryz.info21
  go_enter Tryz.func22, Tryz.ntmps22
  go_wp2_with fail
  go_loopw [5, 6] (fun v i wr => AllRel s w v i wr) (fun _ i _ => s.size - (intOf i).toNat)
  case atStart => exact ⟨0, [], Nat.zero_le _, rfl, World.ownsRow_nil _ _ _ _, Below.refl _ _, Nat.le_refl _, by simp [allF_eq]⟩
  case round =>
    obtain ⟨a, pre, ha, rfl, hown, hbel, hpre, hall⟩ := hrel
    by_cases hlt : a < s.size
    · have hk := runeF_okay s a hlt
      obtain ⟨r, n, er, hx⟩ : ∃ r n er, runeF s a = (r, n, er) := ⟨_, _, _, rfl⟩
      have hc := ref_rune_any s a wr hs
      have H0 := allAt_err s a hlt
      have H1 := allAt_ok s a hlt
      rw [hx] at hk hc H0 H1
      clear hx
      unfold Okay at hk
      unfold RefPost R3i at hc
      dsimp only at hk hc H0 H1
      have HC := Lib.hid hc
      clear hc
      by_cases he : er = 0
      · subst he
        have hn : 1 ≤ n ∧ n ≤ (s.size - a : Nat) := by omega
        have hr1 : 0 ≤ r ∧ r ≤ 1114111 := by omega
        have HF : Hid (allF s = ((pre ++ [r]) ++ (allAt s (a + n.toNat)).1, (allAt s (a + n.toNat)).2)) := by
          rw [H1 rfl] at hall
          show allF s = _
          rw [hall]
          simp
        obtain ⟨n, rfl⟩ := Int.eq_ofNat_of_zero_le (show 0 ≤ n by omega)
        rw [Int.toNat_natCast] at HF
        have hl2 := hbel.size
        clear H0 H1 hall hk
        go_wp2_with fail
        refine HC.out.mono ?_
        rintro e w1 ⟨rfl, hb1⟩
        have hown1 := own_later hown hb1
        have hbel1 := hbel.trans (hb1.mono hl2)
        have hl3 := hbel1.size
        have hown' := hown1.alloc (.cells #[.int .i32 r] 21)
        go_wp2_with (at_builtin; refine wpList_append_own _ rfl _ _ 49 rfl w.heap.size 21 i0 (.int .i32 0) 1 4 Tryz.underlying49 hi hz0 hz1 hz2 rfl (by decide) _ _ _ rfl hown' ⟨w1.heap.size, 0, none⟩ 1 1 [.int .i32 r] rfl rfl (lit_cells w1 #[.int .i32 r] 21) (ints_oneCell .i32 [r]) (by unfold maxLen; omega) (by omega) (by simp; omega) ?_)
        intro v' w2 hown2 hgrow _
        go_wp2
        go_roundw
        case rel =>
          refine ⟨a + n, pre ++ [r], by omega, by go_num, ?_, ?_, by simp; omega, HF.out⟩
          · unfold Own; rw [List.map_append, List.length_append]; exact hown2
          · exact (hbel1.alloc hl3 _).grown hgrow (by simp; omega) (fun g hg => (hown.lt g hg).1)
        case measure => simp [intOf]; omega
      · have HF : Hid (allF s = (pre, (a : Int), er)) := by
          rw [H0 he] at hall
          show allF s = _
          rw [hall]
          simp
        have te : (er != 0) = true := by simpa using he
        clear H0 H1 hall hk he
        go_wp2_with fail
        refine HC.out.mono ?_
        rintro e w1 ⟨rfl, hb1⟩
        have hown1 := own_later hown hb1
        have hbel1 := hbel.trans (hb1.mono hbel.size)
        go_wp2
        go_ret3
        rw [HF.out]
        exact ⟨_, rfl, hown1, hbel1⟩
    · have HF : Hid (allF s = (pre, (a : Int), 0)) := by
        rw [allAt_done s a (by omega)] at hall
        show allF s = _
        rw [hall]
        simp
      clear hall
      go_wp2
      go_ret3
      rw [HF.out]
      exact ⟨_, rfl, hown, hbel⟩
end Go.Proofs.YtmbghdpoeahnaaaGreatDoor

/- The walk of the document's Escape. -/
set_option linter.unusedSimpArgs false
set_option linter.unusedVariables false
namespace Go.Proofs.YtmbghdpoeahnaaaGreatDoor
open Go.RowKit

theorem str_of_byts {s : ByteArray} {l : List Int} (h : byts s = l) : s = strOfNums l := by
  refine byts_inj ?_
  subst h
  rw [byts_str _ (byts_nn s) fun x hx => (Byt.byts s x hx).2]
theorem byts_cat (s t : ByteArray) : byts (s ++ t) = byts s ++ byts t := by
  unfold byts
  rw [ByteArray.data_append, Array.toList_append, List.map_append]
theorem size_cat (s t : ByteArray) : (s ++ t).size = s.size + t.size := by rw [← byts_len, byts_cat, List.length_append, byts_len, byts_len]
theorem ext_one (s : ByteArray) (k : Nat) (h : k < s.size) : byts (s.extract k (k + 1)) = [(byts s).getD k 0] := by
  have h' : k < (byts s).length := by rw [byts_len]; exact h
  rw [byts_extract, List.take_succ_eq_append_getElem h', List.drop_append, List.drop_of_length_le (by rw [List.length_take]; omega), List.nil_append]
  rw [List.length_take, Nat.min_eq_left (by omega), Nat.sub_self, List.drop_zero]
  simp [List.getElem?_eq_getElem h']
theorem ext_is (s : ByteArray) (k : Nat) (h : k < s.size) (c : UInt8) : ((s.extract k (k + 1)).toList == [c]) = decide ((byts s).getD k 0 = (c.toNat : Int)) := by
  rw [eqB _ [c] [(c.toNat : Int)] rfl, ext_one s k h]
  simp
theorem is_yes (s : ByteArray) (k : Nat) (h : k < s.size) (c : UInt8) (hc : (byts s).getD k 0 = (c.toNat : Int)) : ((s.extract k (k + 1)).toList == [c]) = true := by rw [ext_is s k h, decide_eq_true hc]
theorem is_no (s : ByteArray) (k : Nat) (h : k < s.size) (c : UInt8) (hc : (byts s).getD k 0 ≠ (c.toNat : Int)) : ((s.extract k (k + 1)).toList == [c]) = false := by rw [ext_is s k h, decide_eq_false hc]
end Go.Proofs.YtmbghdpoeahnaaaGreatDoor
