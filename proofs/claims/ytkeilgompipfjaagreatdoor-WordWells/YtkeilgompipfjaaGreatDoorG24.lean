/-
  Merged by program out of the texts WdWel of one seat.
-/
import Derived.Test.YtkeilgompipfjaaGreatDoorG20
import Derived.Test.YtkeilgompipfjaaGreatDoorG21
import Derived.Test.YtkeilgompipfjaaGreatDoorG23

/- WordWells: the events of whatever bytes are a beginning; where there is no error, a document. -/
set_option linter.unusedSimpArgs false
set_option linter.unusedVariables false
namespace Go.Proofs.YtkeilgompipfjaaGreatDoor.Ev
open Go.RowKit

theorem own_most {W : World} {B : Nat} {e : TypeId} {z n : Nat} {v : Value} {xs : List Value} (h : W.ownsRow B e z v n xs) : n ≤ maxLen := by
  rcases h.2 with ⟨_, h0⟩ | ⟨g, cap, cur, q, hB, hh, h4, h5, _⟩
  · omega
  · omega
theorem own_room {W : World} {B : Nat} {e : TypeId} {z n c : Nat} {A : Option Addr} {xs : List Value} (h : W.ownsRow B e z (.slice A n c) n xs) : n ≤ c ∧ c ≤ maxLen := by
  rcases h.2 with ⟨q, h0⟩ | ⟨g, cap, cur, q, hB, hh, h4, h5, _⟩
  · injection q with _ _ q3
    omega
  · injection q with _ _ q3
    omega
theorem toR_ats (x : Wl.Ev) : (Wl.toR x).ats = Wl.atts x := by cases x <;> rfl
theorem toR_kd (x : Wl.Ev) : (Wl.toR x).kind = Wl.kd x := by cases x <;> rfl
theorem toR_sp (x : Wl.Ev) : (Wl.toR x).sp = Wl.sp x := by cases x <;> rfl
theorem toR_lo (x : Wl.Ev) : (Wl.toR x).lo = Wl.lo x := by cases x <;> rfl
theorem toR_tx (x : Wl.Ev) : (Wl.toR x).tx = Wl.tx x := by cases x <;> rfl
theorem em_sz : emB.size ≤ 10000 := by decide
theorem toR_sz {x : Wl.Ev} {M : Nat} (hM : M ≤ 10000) (h : Wl.EvZ M x) : (Wl.toR x).sp.size ≤ 10000 ∧ (Wl.toR x).lo.size ≤ 10000 ∧ (Wl.toR x).tx.size ≤ 10000 ∧ ∀ y ∈ (Wl.toR x).ats, y.1.1.size ≤ 10000 ∧ y.1.2.size ≤ 10000 ∧ y.2.size ≤ 10000 := by
  cases x with
  | opn n f => exact ⟨Nat.le_trans h.1.1 hM, Nat.le_trans h.1.2 hM, em_sz, fun y hy => ⟨Nat.le_trans (h.2 y hy).1.1 hM, Nat.le_trans (h.2 y hy).1.2 hM, Nat.le_trans (h.2 y hy).2 hM⟩⟩
  | txt s => exact ⟨em_sz, em_sz, Nat.le_trans h hM, fun y hy => by cases hy⟩
  | cls => exact ⟨em_sz, em_sz, em_sz, fun y hy => by cases hy⟩
theorem att_few {x : Wl.Ev} (h : Wl.EvG x) : (Wl.atts x).length ≤ 32 := by
  cases x with
  | opn n f => exact h.2.2
  | txt s => exact Nat.zero_le _
  | cls => exact Nat.zero_le _
/-- What well answered, as events that are handed in. -/
theorem evs_of {W : World} {B : Nat} {v : Value} {l : List Wl.Ev} (h : Wl.EvOwn W B v l) {M : Nat} (hM : M ≤ 10000) (hl : l.length ≤ 100000) (hz : ∀ x ∈ l, Wl.EvZ M x) (hg : ∀ x ∈ l, Wl.EvG x) : ∃ A c, v = .slice A l.length c ∧ EvsIn W A l.length c (l.map Wl.toR) ∧ ∀ x ∈ l.map Wl.toR, RgB x := by
  obtain ⟨es, h1, h2, h3⟩ := h
  have hes : es.length = l.length := by rw [← h1, List.length_map]
  obtain ⟨A, c, hv⟩ := Nz.Sc.own_slice h2
  subst hv
  have h10 : (10000 : Nat) ≤ maxLen := by decide
  refine ⟨A, c, by rw [hes], ⟨by rw [List.length_map], by rw [← hes]; exact own_most h2, by omega, fun x hx => ?_, fun k x hk => ?_, fun hA => ?_, by rw [← hes]; exact own_room h2⟩, fun x hx => ?_⟩
  · obtain ⟨y, hy, rfl⟩ := List.mem_map.1 hx
    have hs := toR_sz hM (hz y hy)
    exact ⟨Nat.le_trans hs.1 h10, Nat.le_trans hs.2.1 h10, Nat.le_trans hs.2.2.1 h10⟩
  · rw [List.getElem?_map] at hk
    obtain ⟨y, hy, rfl⟩ := Option.map_eq_some_iff.1 hk
    have hs := toR_sz hM (hz y (List.mem_of_getElem? hy))
    have h32 := att_few (hg y (List.mem_of_getElem? hy))
    rw [← h1, List.getElem?_map] at hy
    obtain ⟨t, ht, rfl⟩ := Option.map_eq_some_iff.1 hy
    have hlt := (List.getElem?_eq_some_iff.1 ht).1
    have hO := h3 t (List.mem_of_getElem? ht)
    obtain ⟨Aa, ca, ea, ra, na, _⟩ := Nz.Sc.own_rdT hO
    rcases h2.2 with ⟨q, h0⟩ | ⟨g, cap, cur, q, hB, hh, hr⟩
    · omega
    injection q with q1 q2 q3
    subst q1
    have cel : ∀ i, i < 5 → W.cell? ⟨g, k * 5 + i, none⟩ = (Wl.evC t)[i]? := fun i hi => (h2.cellAt (k * 5 + i) (by omega)).trans (Wl.evL_get es k i t ht hi)
    rw [toR_kd, toR_sp, toR_lo, toR_tx]
    refine ⟨g, 0, Aa, _, ca, rfl, (Array.getElem?_eq_some_iff.1 hh).1, ⟨?_, own_most hO, by omega, fun y hy => ?_, ?_, na⟩, ?_, ?_, ?_, ?_, ?_⟩
    · rw [toR_ats]
    · have := hs.2.2.2 y hy
      exact ⟨Nat.le_trans this.1 h10, Nat.le_trans this.2.1 h10, Nat.le_trans this.2.2 h10⟩
    · rw [toR_ats]
      exact ra
    all_goals rw [Nat.zero_add]
    · exact cel 0 (by omega)
    · exact cel 1 (by omega)
    · exact cel 2 (by omega)
    · refine (cel 3 (by omega)).trans ?_
      show some t.2 = _
      rw [ea]
    · exact cel 4 (by omega)
  · have := own_src h2
    have h := this.1 hA
    exact ⟨by omega, h.2⟩
  · obtain ⟨y, hy, rfl⟩ := List.mem_map.1 hx
    have hs := toR_sz hM (hz y hy)
    exact ⟨hs.1, hs.2.1, hs.2.2.1, fun _ => hs.2.2.2⟩
theorem byts_by (s : ByteArray) : Wl.By (byts s) := fun x hx => by
  obtain ⟨b, _, rfl⟩ := List.mem_map.1 hx
  have := b.toNat_lt
  omega
set_option maxHeartbeats 4000000 in
set_option maxRecDepth 100000 in
theorem wells_law (s : ByteArray) (w : World) (hs : s.size ≤ maxLen) (hG : Gl w) : Calls Tryz.prog 3 #[.string s] w fun e w' => e = .returned (.bool true) ∧ Below w.heap.size w w' := by
  have CE : Hid (EvP plF rtF) := Lib.hid (pright_c plF rtF (Lib.hid plainP_c) (Lib.hid allow_c))
  have CM : Hid (MsC plF rtF) := Lib.hid (ms_c CE)
  have CA : Hid (∀ W, Calls Tryz.prog 4 #[] W fun e w' => e = .returned (.bool true) ∧ Below W.heap.size W w') := Lib.hid fun W => awake_c CM op_right tx_right W
  have hs0 := hs
  unfold maxLen at hs0
  clear CE hs
  by_cases h600 : s.size ≤ 600
  · have k1 : ¬ (600 : Int) < (s.size : Int) := by omega
    have HB := byts_by s
    have hlen : (byts s).length = s.size := byts_len s
    have HZ := Lib.hid (Wl.evF_Z (M := 2400) (byts s) HB (by omega) (by omega))
    have HG := Lib.hid (Wl.evF_G (byts s) HB)
    have HD := Lib.hid (Wl.evF_dep (byts s) HB)
    have CV : Hid (∀ W, Gl W → Calls Tryz.prog 5 #[.string s] W (Wl.EvPost (Wl.evF (byts s)) W)) := Lib.hid fun W hW => Wl.events_any s W hW (by omega)
    have HGl : Hid (∀ W, Below w.heap.size w W → Gl W) := Lib.hid fun W hb => hG.after hb
    clear HB hG
    go_enter Tryz.func3, Tryz.ntmps3
    go_wp2_with fail
    refine (CA.out _).mono ?_
    rintro e w1 ⟨rfl, b1⟩
    have B1 := Lib.hid b1
    clear b1 CA
    go_wp2_with fail
    refine (CV.out _ (HGl.out _ B1.out)).mono ?_
    rintro e w2 ⟨v, rfl, o2, b2⟩
    have B2 := Lib.hid (B1.out.trans (b2.mono B1.out.size))
    have hl2 : (Wl.evF (byts s)).1.length ≤ 100000 := by
      have := HZ.out.2
      omega
    obtain ⟨A, c, rfl, T, hR⟩ := evs_of o2 (M := 2400) (by omega) hl2 HZ.out.1 HG.out
    have C6 := Lib.hid (begins_c CM A _ c _ w2 T hl2 hR)
    have C7 : Hid (∀ W, Below w2.heap.size w2 W → Calls Tryz.prog 7 #[.slice A (Wl.evF (byts s)).1.length c] W fun e w' => e = .returned (.bool (decide (depF plF rtF ((Wl.evF (byts s)).1.map Wl.toR) = 0 ∧ 0 < (Wl.evF (byts s)).1.length))) ∧ Below W.heap.size W w') := Lib.hid fun W hb => whole_c CM A _ c _ W (T.keep hb) hl2 hR
    rw [decide_eq_true HD.out.1] at C6
    have HD2 : Hid ((Wl.evF (byts s)).2.2 = 0 → decide (depF plF rtF ((Wl.evF (byts s)).1.map Wl.toR) = 0 ∧ 0 < (Wl.evF (byts s)).1.length) = true) := Lib.hid fun h => decide_eq_true ⟨(HD.out.2 h).1, List.length_pos_iff.2 (HD.out.2 h).2⟩
    clear o2 b2 T hR hl2 HZ HG HD CV HGl CM hlen
    generalize decide (depF plF rtF ((Wl.evF (byts s)).1.map Wl.toR) = 0 ∧ 0 < (Wl.evF (byts s)).1.length) = wb at *
    generalize (Wl.evF (byts s)).1.length = n at *
    generalize Wl.evF (byts s) = x at *
    obtain ⟨x1, x2, x3⟩ := x
    dsimp only at *
    by_cases hx : x3 = 0
    · have hw := HD2.out hx
      subst hx hw
      clear HD2
      go_wp2_with fail
      refine C6.out.mono ?_
      rintro e w3 ⟨rfl, b3⟩
      have C8 := Lib.hid (C7.out _ b3)
      have B3 := Lib.hid (B2.out.trans (b3.mono B2.out.size))
      clear b3 C7 C6
      go_wp2_with fail
      refine C8.out.mono ?_
      rintro e w4 ⟨rfl, b4⟩
      go_wp2
      go_ret
      exact ⟨rfl, B3.out.trans (b4.mono B3.out.size)⟩
    · have e1 : (x3 != 0) = true := bne_iff_ne.2 hx
      clear HD2 C7 hx
      go_wp2_with fail
      refine C6.out.mono ?_
      rintro e w3 ⟨rfl, b3⟩
      have B3 := Lib.hid (B2.out.trans (b3.mono B2.out.size))
      clear b3 C6
      go_wp2
      go_ret
      exact ⟨rfl, B3.out⟩
  · have k1 : (600 : Int) < (s.size : Int) := by omega
    clear h600 CM hG
    go_enter Tryz.func3, Tryz.ntmps3
    go_wp2_with fail
    refine (CA.out _).mono ?_
    rintro e w1 ⟨rfl, b1⟩
    have B1 := Lib.hid b1
    clear b1
    go_wp2_with fail
    refine (CA.out _).mono ?_
    rintro e w2 ⟨rfl, b2⟩
    go_wp2
    go_ret
    exact ⟨rfl, B1.out.trans (b2.mono B1.out.size)⟩
end Go.Proofs.YtkeilgompipfjaaGreatDoor.Ev
