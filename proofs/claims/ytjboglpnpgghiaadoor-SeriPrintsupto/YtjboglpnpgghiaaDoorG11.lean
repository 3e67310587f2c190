/-
  Merged by program out of the texts SrWi of one seat.
-/
import Derived.Test.YtjboglpnpgghiaaDoorG07

/- The document's Within (layer 11) of whatever tree. -/
set_option linter.unusedVariables false
set_option linter.unusedSimpArgs false
namespace Go.Proofs.YtjboglpnpgghiaaDoor.Ev
open Go.RowKit

def WiC (N : Nat) : Prop := ∀ (t : Bool) (tx sp lo : ByteArray) (ats : List P3) (ks : Fo) (Aa : Option Addr) (na ca : Nat) (Ak : Option Addr) (nk ck : Nat) (d : ByteArray) (P : Nat → Prop) (w : World), ks.siz < N → Tr1 P w tx sp lo ats ks Aa na ca Ak nk ck →
    (Fo.cons t tx sp lo ats ks .nil).szM → (Fo.cons t tx sp lo ats ks .nil).atN → d.size ≤ 1048576 → (txB (Fo.cons t tx sp lo ats ks .nil) d).length ≤ 17592186044416 →
    Calls Tryd.prog 9 #[.agg #[.bool t, .string tx, .string sp, .string lo, .slice Aa na ca, .slice Ak nk ck], .string d] w fun e w' => (∃ O, e = .returned (.string O) ∧ byts O = txB (Fo.cons t tx sp lo ats ks .nil) d) ∧ Below w.heap.size w w'
theorem bd_pre (l : List P3) (k : Nat) : (bdB 0 (spL (l.take k))).length ≤ (bdB 0 (spL l)).length := by
  obtain ⟨t, ht⟩ := spL_pre l k
  rw [ht, bdB_cat, List.length_append]
  omega
theorem as_pre (sp : List ByteArray) (l : List P3) (k : Nat) : (asB sp (l.take k)).length ≤ (asB sp l).length := by
  have h := asB_app sp (l.take k) (l.drop k)
  rw [List.take_append_drop] at h
  rw [h, List.length_append]
  omega
/-- Where the document's Within stands: its box. -/
structure WiI (xb : Nat) (cs : Array Value) (w wr : World) : Prop where
  box : wr.heap[xb]? = some (.cells cs 27 (0, 0))
  bel : Below w.heap.size w wr
theorem WiI.keep {xb : Nat} {cs : Array Value} {w wr w' : World} (h : WiI xb cs w wr) (hb : Below wr.heap.size wr w') : WiI xb cs w w' := ⟨(hb.block _ (Array.getElem?_eq_some_iff.1 h.box).1).trans h.box, h.bel.trans (hb.mono h.bel.size)⟩
set_option maxHeartbeats 16000000 in
set_option maxRecDepth 100000 in
theorem wi_step (N : Nat) (hIH : Hid (WiC N)) : WiC (N + 1) := by
  intro t tx sp lo ats ks Aa na ca Ak nk ck d P w hN T hM hA hd hl
  have X0 : Hid (WiI w.heap.size #[.bool t, .string tx, .string sp, .string lo, .slice Aa na ca, .slice Ak nk ck] w (w.alloc (.cells #[.bool t, .string tx, .string sp, .string lo, .slice Aa na ca, .slice Ak nk ck] 27))) := Lib.hid ⟨nblk w 27 _, (Below.refl _ w).alloc (Nat.le_refl _) _⟩
  cases t with
  | true =>
    have CD := Lib.hid (fun W => desc_any tx false W hM.1.1)
    have HE := Lib.hid (byts_esc false tx)
    rw [txB_text]
    clear hl hM hA T
    generalize strOfNums (escF false (byts tx)) = O at *
    go_enter Tryd.func9, Tryd.ntmps9
    go_wp2_with fail
    refine (CD.out _).mono ?_
    rintro e w1 ⟨rfl, rfl⟩
    go_wp2
    go_ret
    exact ⟨⟨O, rfl, HE.out⟩, X0.out.bel⟩
  | false =>
    have hnk := T.ks.2.1
    have hnl := T.ks.1
    have hal := T.at_.len
    have ha4 := (hA.1 rfl).1
    have hlo := hM.1.2.2.1
    have hsp := hM.1.2.1
    have HatM := Lib.hid hM.1.2.2.2
    have HMk := Lib.hid hM.2.1
    have HAk := Lib.hid (hA.1 rfl).2
    have HT : Hid (∀ W, WiI w.heap.size #[.bool false, .string tx, .string sp, .string lo, .slice Aa na ca, .slice Ak nk ck] w W → Tr1 P W tx sp lo ats ks Aa na ca Ak nk ck) := Lib.hid fun W hW => T.keep hW.bel
    obtain ⟨TX, hTX⟩ : ∃ x, x = txB (Fo.cons false tx sp lo ats ks .nil) d := ⟨_, rfl⟩
    rw [← hTX] at hl ⊢
    obtain ⟨TL, hTL⟩ : ∃ x, x = (if ks.len = 0 then [47, 62] else [62] ++ txB ks (dfS sp d) ++ [60, 47] ++ nmB sp lo ++ [62] : List Int) := ⟨_, rfl⟩
    obtain ⟨H1, hH1⟩ : ∃ x, x = ([60] ++ nmB sp lo ++ (if sp ≠ xmlB ∧ sp ≠ d then prB (byts xnsB) sp else []) : List Int) := ⟨_, rfl⟩
    have HTX : Hid (TX = H1 ++ (bdB 0 (spL ats) ++ asB (spL ats) ats) ++ TL) := Lib.hid (by
      rw [hTX, hTL, hH1, txB, if_neg (by decide), txB, List.append_nil]
      unfold hdB
      simp only [List.append_assoc])
    have HL : Hid (H1.length + (bdB 0 (spL ats)).length + (asB (spL ats) ats).length + TL.length ≤ 17592186044416) := Lib.hid (by
      have := hl
      rw [HTX.out] at this
      simp only [List.length_append] at this
      omega)
    have HH1 : Hid (H1 = [60] ++ nmB sp lo ++ (if sp ≠ xmlB ∧ sp ≠ d then prB (byts xnsB) sp else [])) := Lib.hid hH1
    have HTL : Hid (TL = if ks.len = 0 then [47, 62] else [62] ++ txB ks (dfS sp d) ++ [60, 47] ++ nmB sp lo ++ [62]) := Lib.hid hTL
    have CN : Hid (∀ (u : ByteArray) W, okS u = true → (∃ y ∈ ats, y.1.1 = u) → WiI w.heap.size #[.bool false, .string tx, .string sp, .string lo, .slice Aa na ca, .slice Ak nk ck] w W → Calls Tryd.prog 20 #[.slice Aa na ca, .string u] W fun e w' => e = .returned (.int .i64 (ixS (spL ats) u)) ∧ W = w') := Lib.hid fun u W h1 h2 hW => number_any Aa na ca ats u W (HT.out W hW).at_ h1 h2
    have CP : Hid (∀ (n v : ByteArray) W, n.size ≤ 1073741824 → v.size ≤ 1048576 → Calls Tryd.prog 19 #[.string n, .string v] W fun e w' => (∃ O, e = .returned (.string O) ∧ byts O = prB (byts n) v) ∧ W = w') := Lib.hid fun n v W h1 h2 => pairD_any n v W h1 h2
    have CDg : Hid (∀ (m : Nat) W, m < 1000 → Calls Tryd.prog 21 #[.int .i64 m] W fun e w' => (∃ O, e = .returned (.string O) ∧ byts O = dgB m) ∧ Below W.heap.size W w') := Lib.hid fun m W h => dig_any 2 m W (by omega) h
    have CS : Hid (∀ (D : ByteArray) (u : Bool) (ux us ul : ByteArray) (ua : List P3) (uk : Fo) (u1 : Option Addr) (u2 u3 : Nat) (u4 : Option Addr) (u5 u6 k : Nat) W, D = dfS sp d → k < nk → ks.drop k = .cons u ux us ul ua uk (ks.drop (k + 1)) → Tr1 P W ux us ul ua uk u1 u2 u3 u4 u5 u6 →
        Calls Tryd.prog 9 #[.agg #[.bool u, .string ux, .string us, .string ul, .slice u1 u2 u3, .slice u4 u5 u6], .string D] W fun e w' => (∃ O, e = .returned (.string O) ∧ txB (ks.take (k + 1)) (dfS sp d) = txB (ks.take k) (dfS sp d) ++ byts O ∧ (txB (ks.take (k + 1)) (dfS sp d)).length ≤ (txB ks (dfS sp d)).length) ∧ Below W.heap.size W w') := Lib.hid fun D u ux us ul ua uk u1 u2 u3 u4 u5 u6 k W hD hk ed hX => by
      have hk2 : k < ks.len := by rw [← hnl]; exact hk
      have hsk := siz_kid ed
      obtain ⟨m1, m2⟩ := szM_kid HMk.out HAk.out ed
      obtain ⟨t1, t2⟩ := tx_take hk2 ed (dfS sp d)
      have hne0 : ¬ ks.len = 0 := by omega
      have hds : (dfS sp d).size ≤ 1048576 := by unfold dfS; split <;> assumption
      rw [hD]
      have := hIH.out u ux us ul ua uk u1 u2 u3 u4 u5 u6 (dfS sp d) P W (by omega) hX m1 m2 hds (by
        have := HL.out
        rw [HTL.out, if_neg hne0] at this
        rw [t1] at t2
        simp only [List.length_append] at this t2 ⊢
        omega)
      refine this.mono fun e w' ⟨⟨O, h1, h2⟩, h3⟩ => ⟨⟨O, h1, by rw [t1, h2], t2⟩, h3⟩
    have HTlen : Hid (TL.length = (if ks.len = 0 then 2 else 1 + (txB ks (dfS sp d)).length + 2 + (nmB sp lo).length + 1)) := Lib.hid (by
      rw [hTL]
      split
      · rfl
      · simp only [List.length_append, List.length_cons, List.length_nil])
    have HNL := Lib.hid hnl
    have HAL := Lib.hid hal
    have hna4 : na ≤ 400 := by omega
    clear hTX hTL hH1 hl hM hA T hnl hal ha4
    rcases Classical.em (sp = xmlB) with hx | hx
    · have K := spK sp
      rw [decide_eq_true hx, decide_eq_false (p := sp = emB) (by rw [hx]; decide)] at K
      have hQ : ¬ (sp ≠ xmlB ∧ sp ≠ d) := fun q => q.1 hx
      have HD : Hid (d = dfS sp d) := Lib.hid (by unfold dfS; rw [if_pos hx])
      have HN : Hid (byts ((⟨#[120, 109, 108, 58]⟩ ++ lo)) = nmB sp lo) := Lib.hid (by rw [byts_cat]; unfold nmB; rw [if_pos hx]; rfl)
      have z4 : (⟨#[120, 109, 108, 58]⟩ ++ lo : ByteArray).size = 4 + lo.size := size_cat _ _
      have hNz : ((⟨#[120, 109, 108, 58]⟩ ++ lo)).size ≤ 1048580 := by rw [z4]; omega
      obtain ⟨ke, kx⟩ : ∃ q : Bool, SpK sp q true := ⟨_, K⟩
      have x1 := kx.x1
      have x2 := kx.x2
      simp only [Bool.not_true, Bool.not_false] at x2
      have HHq : Hid (byts (⟨#[60]⟩ ++ (⟨#[120, 109, 108, 58]⟩ ++ lo)) = H1) := Lib.hid (by rw [HH1.out, if_neg hQ, List.append_nil, byts_cat, HN.out]; rfl)
      obtain ⟨O1, hO⟩ : ∃ O, O = ⟨#[60]⟩ ++ (⟨#[120, 109, 108, 58]⟩ ++ lo) := ⟨_, rfl⟩
      have HO1 : Hid (byts O1 = H1) := Lib.hid (by rw [hO]; exact HHq.out)
      have hO1 : O1.size ≤ 17592186044416 := by rw [hO, size_cat]; show 1 + _ ≤ _; omega
      have HOE := Lib.hid hO
      clear K kx hQ hx z4 hO
      have X := X0
      clear X0
      obtain ⟨c0, c1, c2, c3, c4, c5⟩ := cells6 X.out.box
      go_enter Tryd.func9, Tryd.ntmps9
      have H0 : Hid (byts O1 = H1 ++ bdB 0 (spL (ats.take 0)) ∧ 0 = (spL (ats.take 0)).length) := Lib.hid ⟨by rw [HO1.out]; exact (List.append_nil _).symm, rfl⟩
      clear HO1
      go_wp2_with fail
      go_loopw [6, 7, 8, 9] (fun v6 v7 v8 _ wr => ∃ (k m : Nat) (O : ByteArray), v6 = .string O ∧ v7 = .int .i64 m ∧ v8 = .int .i64 k ∧ k ≤ na ∧ m ≤ k ∧ O.size ≤ 17592186044416 ∧ Hid (byts O = H1 ++ bdB 0 (spL (ats.take k)) ∧ m = (spL (ats.take k)).length) ∧ Hid (WiI w.heap.size #[.bool false, .string tx, .string sp, .string lo, .slice Aa na ca, .slice Ak nk ck] w wr)) (fun _ _ i _ _ => na - (intOf i).toNat)
      case atStart => exact ⟨0, 0, O1, (by first | rfl | rw [HOE.out]), rfl, rfl, Nat.zero_le _, Nat.le_refl _, hO1, H0, X⟩
      case round =>
        clear X H0 hO1 c0 c1 c2 c3 c4 c5
        obtain ⟨k, m, O, rfl, rfl, rfl, hk, hmk, hO, HR, X⟩ := hrel
        obtain ⟨c0, c1, c2, c3, c4, c5⟩ := cells6 X.out.box
        by_cases hlt : k < na
        · have k1 : (k : Int) < (na : Int) := by omega
          have k2 : (0 : Int) ≤ (k : Int) := by omega
          have hkl : k < ats.length := by rw [← HAL.out]; exact hlt
          have hx := List.getElem?_eq_getElem hkl
          have hsz := HatM.out _ (List.getElem_mem hkl)
          have hmem := List.getElem_mem hkl
          obtain ⟨b', off, hA, hbl, d0, d1, d2⟩ := (HT.out wr X.out).at_.rd k _ hx
          have HX := Lib.hid hx
          generalize ats[k] = y at *
          subst hA
          obtain ⟨⟨u, ylo⟩, yv⟩ := y
          dsimp only at d0 d1 d2 hsz
          have HTk := Lib.hid (spL_take HX.out)
          have HBk := Lib.hid (bdB_take HX.out)
          have HPre := Lib.hid (bd_pre ats (k + 1))
          have hu := hsz.1
          clear hx hkl hbl hsz d1 d2
          rcases sp_cases u with ⟨-, ho, K⟩ | ⟨-, ho, K⟩ | ⟨-, -, ho, K⟩
          all_goals
            obtain ⟨e1, e2, e3, x1, x2⟩ := K
            simp only [Bool.not_true, Bool.not_false] at e3 x2
          iterate 2
            · have HR2 : Hid (byts O = H1 ++ bdB 0 (spL (ats.take (k + 1))) ∧ m = (spL (ats.take (k + 1))).length) := Lib.hid ⟨by rw [HBk.out, if_neg (fun q => by rw [ho] at q; exact Bool.false_ne_true q.1), List.append_nil]; exact HR.out.1, by rw [HTk.out, if_neg (fun q => by rw [ho] at q; exact Bool.false_ne_true q.1)]; exact HR.out.2⟩
              clear HR HTk HBk HPre ho hmem HX
              go_wp2_with fail
              go_roundw
              case rel => exact ⟨k + 1, m, O, rfl, rfl, by go_num, by omega, by omega, hO, HR2, X⟩
              case measure => simp only [intOf]; omega
          · have C1 := Lib.hid (CN.out u wr ho ⟨_, hmem, rfl⟩ X.out)
            rcases Classical.em (u ∈ spL (ats.take k)) with hin | hin
            · have hq : ixS (spL ats) u < m := by rw [ixS_take hin, HR.out.2]; exact ixS_lt hin
              have HR2 : Hid (byts O = H1 ++ bdB 0 (spL (ats.take (k + 1))) ∧ m = (spL (ats.take (k + 1))).length) := Lib.hid ⟨by rw [HBk.out, if_neg (fun q => q.2 hin), List.append_nil]; exact HR.out.1, by rw [HTk.out, if_neg (fun q => q.2 hin)]; exact HR.out.2⟩
              generalize ixS (spL ats) u = q at *
              have g1 : ((q : Int) == (m : Int)) = false := by rw [beq_eq_false_iff_ne]; omega
              clear HR HTk HBk HPre ho hmem HX hin hq
              go_wp2_with fail
              refine C1.out.mono ?_
              rintro e w2 ⟨rfl, rfl⟩
              clear C1
              go_wp2_with fail
              go_roundw
              case rel => exact ⟨k + 1, m, O, rfl, rfl, by go_num, by omega, by omega, hO, HR2, X⟩
              case measure => simp only [intOf]; omega
            · have hq : ixS (spL ats) u = m := by rw [ixS_first HX.out ho hin, HR.out.2]
              rw [hq] at C1
              have hm4 : m < 1000 := by omega
              have HR2 : Hid (bdB 0 (spL (ats.take (k + 1))) = bdB 0 (spL (ats.take k)) ++ prB (xnB m) u ∧ m + 1 = (spL (ats.take (k + 1))).length) := Lib.hid ⟨by rw [HBk.out, if_pos ⟨ho, hin⟩, ← HR.out.2], by rw [HTk.out, if_pos ⟨ho, hin⟩, List.length_append, ← HR.out.2]; rfl⟩
              have C2 := Lib.hid (CDg.out m wr hm4)
              clear HTk HBk ho hmem HX hin hq
              go_wp2_with fail
              refine C1.out.mono ?_
              rintro e w2 ⟨rfl, rfl⟩
              clear C1
              go_wp2_with fail
              refine C2.out.mono ?_
              rintro e w3 ⟨⟨G, rfl, hG⟩, b3⟩
              have hGs : G.size ≤ 3 := by rw [← byts_len, hG]; exact dgB_len hm4
              have HG : Hid (byts (⟨#[120, 109, 108, 110, 115, 58, 110]⟩ ++ G) = xnB m) := Lib.hid (by rw [byts_cat, hG]; rfl)
              have C3 := Lib.hid (CP.out (⟨#[120, 109, 108, 110, 115, 58, 110]⟩ ++ G) u w3 (by rw [size_cat]; show 7 + _ ≤ _; omega) hu)
              have X3 := Lib.hid (X.out.keep b3)
              clear hG b3 C2
              go_wp2_with fail
              refine C3.out.mono ?_
              rintro e w4 ⟨⟨Q, rfl, hQ⟩, rfl⟩
              have HQ : Hid (byts (O ++ Q) = H1 ++ bdB 0 (spL (ats.take (k + 1)))) := Lib.hid (by rw [byts_cat, hQ, HG.out, HR.out.1, HR2.out.1, List.append_assoc])
              have hsum : O.size + Q.size ≤ 17592186044416 := by
                have h1 := HL.out
                have h2 := HPre.out
                rw [← size_cat, ← byts_len, HQ.out, List.length_append]
                omega
              have hOQ : (O ++ Q).size ≤ 17592186044416 := by rw [size_cat]; exact hsum
              have HR3 : Hid (byts (O ++ Q) = H1 ++ bdB 0 (spL (ats.take (k + 1))) ∧ m + 1 = (spL (ats.take (k + 1))).length) := Lib.hid ⟨HQ.out, HR2.out.2⟩
              clear hQ C3 HQ HG HR HR2 HPre X
              go_wp2_with fail
              go_roundw
              case rel => exact ⟨k + 1, m + 1, O ++ Q, rfl, by go_num, by go_num, by omega, by omega, hOQ, HR3, X3⟩
              case measure => simp only [intOf]; omega
        · have hke : na = k := by omega
          subst hke
          have k1 : ¬ (na : Int) < (na : Int) := by omega
          have hsl : (spL ats).length ≤ 400 := Nat.le_trans (spL_len _) (by rw [← HAL.out]; omega)
          have H2 : Hid (byts O = H1 ++ bdB 0 (spL ats) ++ asB (spL ats) (ats.take 0)) := Lib.hid (by
            have h := HR.out.1
            rw [List.take_of_length_le (by rw [HAL.out]; exact Nat.le_refl _)] at h
            rw [h]
            exact (List.append_nil _).symm)
          clear HR
          go_wp2_with fail
          clear c0 c1 c2 c3 c4 c5
          go_loopw [6, 10, 11, 12] (fun v6 v10 _ _ wr => ∃ (j : Nat) (O : ByteArray), v6 = .string O ∧ v10 = .int .i64 j ∧ j ≤ na ∧ O.size ≤ 17592186044416 ∧ Hid (byts O = H1 ++ bdB 0 (spL ats) ++ asB (spL ats) (ats.take j)) ∧ Hid (WiI w.heap.size #[.bool false, .string tx, .string sp, .string lo, .slice Aa na ca, .slice Ak nk ck] w wr)) (fun _ i _ _ _ => na - (intOf i).toNat)
          case atStart => exact ⟨0, O, rfl, rfl, Nat.zero_le _, hO, H2, X⟩
          case round =>
            clear X H2 hO
            obtain ⟨j, O, rfl, rfl, hj, hO, HR, X⟩ := hrel
            obtain ⟨c0, c1, c2, c3, c4, c5⟩ := cells6 X.out.box
            by_cases hjk : j < na
            · have k1 : (j : Int) < (na : Int) := by omega
              have k2 : (0 : Int) ≤ (j : Int) := by omega
              have hkl : j < ats.length := by rw [← HAL.out]; exact hjk
              have hx := List.getElem?_eq_getElem hkl
              have hsz := HatM.out _ (List.getElem_mem hkl)
              have hmem := List.getElem_mem hkl
              obtain ⟨b', off, hA, hbl, d0, d1, d2⟩ := (HT.out wr X.out).at_.rd j _ hx
              have HX := Lib.hid hx
              generalize ats[j] = y at *
              subst hA
              obtain ⟨⟨u, ylo⟩, yv⟩ := y
              dsimp only at d0 d1 d2 hsz
              have nn1 : wr.heap.size ≠ w.heap.size := World.new_ne wr _ c3
              have nn2 : wr.heap.size ≠ b' := World.new_ne wr _ d0
              have nn3 : w.heap.size ≠ wr.heap.size := nn1.symm
              have nn4 : b' ≠ wr.heap.size := nn2.symm
              have a4 : (wr.alloc (.cells #[.string u, .string ylo] 23)).cell? ⟨w.heap.size, 4, none⟩ = some (.slice (some ⟨b', off, none⟩) na ca) := cell_lt c4 ((Below.refl _ wr).alloc (Nat.le_refl _) _)
              have a5 : (wr.alloc (.cells #[.string u, .string ylo] 23)).cell? ⟨b', off + j * 3 + 2, none⟩ = some (.string yv) := cell_lt d2 ((Below.refl _ wr).alloc (Nat.le_refl _) _)
              have HTk := Lib.hid (asB_take (spL ats) HX.out)
              have HPre := Lib.hid (as_pre (spL ats) ats (j + 1))
              have X1 := Lib.hid (X.out.keep ((Below.refl _ wr).alloc (Nat.le_refl _) (.cells #[.string u, .string ylo] 23)))
              have HLO := hsz.2.1
              have HV := hsz.2.2
              clear hx hkl hbl hsz HX
              have CW : Hid (∀ (nm Q : ByteArray), byts nm = aNm (spL ats) ((u, ylo), yv) → byts Q = prB (byts nm) yv → byts (O ++ Q) = H1 ++ bdB 0 (spL ats) ++ asB (spL ats) (ats.take (j + 1)) ∧ O.size + Q.size ≤ 17592186044416) := Lib.hid fun nm Q h1 h2 => by
                have h3 : byts (O ++ Q) = H1 ++ bdB 0 (spL ats) ++ asB (spL ats) (ats.take (j + 1)) := by
                  rw [byts_cat, HR.out, HTk.out, h2, h1, ← List.append_assoc]
                  rfl
                refine ⟨h3, ?_⟩
                have h4 := HL.out
                have h5 := HPre.out
                rw [← size_cat, ← byts_len, h3, List.length_append, List.length_append]
                omega
              clear HTk HPre HR
              rcases sp_cases u with ⟨q, -, K⟩ | ⟨q, -, K⟩ | ⟨q1, q2, ho, K⟩
              · obtain ⟨e1, e2, e3, x1, x2⟩ := K
                simp only [Bool.not_true, Bool.not_false] at e3 x2
                have HN1 : Hid (byts ylo = aNm (spL ats) ((u, ylo), yv)) := Lib.hid (by unfold aNm; rw [if_pos q])
                have C3 := Lib.hid (fun W => CP.out ylo yv W (by omega) HV)
                clear q hmem
                go_wp2_with fail
                refine (C3.out _).mono ?_
                rintro e w4 ⟨⟨Q, rfl, hQ⟩, rfl⟩
                obtain ⟨hr, hsum⟩ := CW.out ylo Q HN1.out hQ
                have HR3 := Lib.hid hr
                have hOQ : (O ++ Q).size ≤ 17592186044416 := by rw [size_cat]; exact hsum
                clear hr hQ C3 X CW
                go_wp2_with fail
                go_roundw
                case rel => exact ⟨j + 1, O ++ Q, rfl, by go_num, by omega, hOQ, HR3, X1⟩
                case measure => simp only [intOf]; omega
              · obtain ⟨e1, e2, e3, x1, x2⟩ := K
                simp only [Bool.not_true, Bool.not_false] at e3 x2
                have HN1 : Hid (byts (⟨#[120, 109, 108, 58]⟩ ++ ylo) = aNm (spL ats) ((u, ylo), yv)) := Lib.hid (by unfold aNm; rw [if_neg (by dsimp only; rw [q]; decide), if_pos q, byts_cat]; rfl)
                have C3 := Lib.hid (fun W => CP.out (⟨#[120, 109, 108, 58]⟩ ++ ylo) yv W (by rw [size_cat]; show 4 + _ ≤ _; omega) HV)
                clear q hmem
                go_wp2_with fail
                refine (C3.out _).mono ?_
                rintro e w4 ⟨⟨Q, rfl, hQ⟩, rfl⟩
                obtain ⟨hr, hsum⟩ := CW.out _ Q HN1.out hQ
                have HR3 := Lib.hid hr
                have hOQ : (O ++ Q).size ≤ 17592186044416 := by rw [size_cat]; exact hsum
                clear hr hQ C3 X CW
                go_wp2_with fail
                go_roundw
                case rel => exact ⟨j + 1, O ++ Q, rfl, by go_num, by omega, hOQ, HR3, X1⟩
                case measure => simp only [intOf]; omega
              · obtain ⟨e1, e2, e3, x1, x2⟩ := K
                simp only [Bool.not_true, Bool.not_false] at e3 x2
                have hin : u ∈ spL ats := spL_mem.2 ⟨ho, _, hmem, rfl⟩
                have hm4 : ixS (spL ats) u < 1000 := by have := ixS_lt hin; omega
                have C1 := Lib.hid (CN.out u _ ho ⟨_, hmem, rfl⟩ X1.out)
                have HN1 : Hid (∀ G : ByteArray, byts G = dgB (ixS (spL ats) u) → byts (((⟨#[110]⟩ ++ G) ++ ⟨#[58]⟩) ++ ylo) = aNm (spL ats) ((u, ylo), yv)) := Lib.hid (fun G hG => by unfold aNm; rw [if_neg (by exact q1), if_neg (by exact q2), byts_cat, byts_cat, byts_cat, hG]; rfl)
                generalize ixS (spL ats) u = m at *
                have C2 := Lib.hid (CDg.out m (wr.alloc (.cells #[.string u, .string ylo] 23)) hm4)
                clear q1 q2 hmem hin ho
                go_wp2_with fail
                refine C1.out.mono ?_
                rintro e w2 ⟨rfl, rfl⟩
                clear C1
                go_wp2_with fail
                refine C2.out.mono ?_
                rintro e w3 ⟨⟨G, rfl, hG⟩, b3⟩
                have hGs : G.size ≤ 3 := by rw [← byts_len, hG]; exact dgB_len hm4
                have HNm := Lib.hid (HN1.out G hG)
                have hnz : (((⟨#[110]⟩ ++ G) ++ ⟨#[58]⟩) ++ ylo : ByteArray).size ≤ 1073741824 := by rw [size_cat, size_cat, size_cat]; show 1 + _ + 1 + _ ≤ _; omega
                have X3 := Lib.hid (X1.out.keep b3)
                have D2 := Lib.hid ((HT.out w3 X3.out).at_)
                have C3 := Lib.hid (CP.out (((⟨#[110]⟩ ++ G) ++ ⟨#[58]⟩) ++ ylo) yv w3 hnz HV)
                have dv : w3.cell? ⟨b', off + j * 3 + 2, none⟩ = some (.string yv) := cell_lt (cell_lt d2 ((Below.refl _ wr).alloc (Nat.le_refl _) _)) b3
                obtain ⟨c0, c1, c2, c3, c4, c5⟩ := cells6 X3.out.box
                clear hG b3 C2 hnz HN1
                go_wp2_with fail
                refine C3.out.mono ?_
                rintro e w4 ⟨⟨Q, rfl, hQ⟩, rfl⟩
                obtain ⟨hr, hsum⟩ := CW.out _ Q HNm.out hQ
                have HR3 := Lib.hid hr
                have hOQ : (O ++ Q).size ≤ 17592186044416 := by rw [size_cat]; exact hsum
                clear hr hQ C3 X CW
                go_wp2_with fail
                go_roundw
                case rel => exact ⟨j + 1, O ++ Q, rfl, by go_num, by omega, hOQ, HR3, X3⟩
                case measure => simp only [intOf]; omega
            · have hke : na = j := by omega
              subst hke
              have k1 : ¬ (na : Int) < (na : Int) := by omega
              have H3 : Hid (byts O = H1 ++ (bdB 0 (spL ats) ++ asB (spL ats) ats)) := Lib.hid (by
                have h := HR.out
                rw [List.take_of_length_le (by rw [HAL.out]; exact Nat.le_refl _), List.append_assoc] at h
                exact h)
              have hO3 : O.size + TL.length ≤ 17592186044416 := by
                have := HL.out
                rw [← byts_len, H3.out, List.length_append, List.length_append]
                omega
              clear HR
              rcases Classical.em (nk = 0) with h0 | h0
              · have hE : Hid (TX = byts (O ++ ⟨#[47, 62]⟩)) := Lib.hid (by rw [HTX.out, HTL.out, if_pos (by rw [← HNL.out]; exact h0), byts_cat, H3.out]; rfl)
                have g0 : ((nk : Int) == 0) = true := by simpa using h0
                clear h0
                go_wp2
                go_ret
                exact ⟨⟨_, rfl, hE.out.symm⟩, X.out.bel⟩
              · have hk0 : ¬ ks.len = 0 := by rw [← HNL.out]; exact h0
                have hTl := HTlen.out
                rw [if_neg hk0] at hTl
                have hO4 : O.size + 1 + (txB ks (dfS sp d)).length + 2 + (nmB sp lo).length + 1 ≤ 17592186044416 := by omega
                have HE : Hid (∀ S : ByteArray, byts S = byts O ++ [62] ++ txB (ks.take nk) (dfS sp d) → byts (((S ++ ⟨#[60, 47]⟩) ++ (⟨#[120, 109, 108, 58]⟩ ++ lo)) ++ ⟨#[62]⟩) = TX ∧ S.size + 2 + ((⟨#[120, 109, 108, 58]⟩ ++ lo)).size + 1 ≤ 17592186044416) := Lib.hid fun S hS => by
                  rw [HNL.out, take_full] at hS
                  refine ⟨?_, ?_⟩
                  · rw [byts_cat, byts_cat, byts_cat, HN.out, hS, H3.out, HTX.out, HTL.out, if_neg hk0, show byts (⟨#[60, 47]⟩ : ByteArray) = [60, 47] from rfl, show byts (⟨#[62]⟩ : ByteArray) = [62] from rfl]
                    simp only [List.append_assoc]
                  · rw [← byts_len S, hS, ← byts_len ((⟨#[120, 109, 108, 58]⟩ ++ lo)), HN.out]
                    simp only [List.length_append, byts_len]
                    show O.size + 1 + _ + 2 + _ + 1 ≤ _
                    exact hO4
                have HLk : Hid (∀ (k : Nat) (S : ByteArray), (txB (ks.take k) (dfS sp d)).length ≤ (txB ks (dfS sp d)).length → byts S = byts O ++ [62] ++ txB (ks.take k) (dfS sp d) → S.size ≤ 17592186044416) := Lib.hid fun k S h1 hS => by
                  rw [← byts_len S, hS]
                  simp only [List.length_append, byts_len]
                  show O.size + 1 + _ ≤ _
                  omega
                have H5 : Hid (byts (O ++ ⟨#[62]⟩) = byts O ++ [62] ++ txB (ks.take 0) (dfS sp d)) := Lib.hid (by
                  rw [show (ks.take 0) = Fo.nil by cases ks <;> rfl, byts_cat]
                  exact (List.append_nil _).symm)
                have hOs : (O ++ ⟨#[62]⟩ : ByteArray).size ≤ 17592186044416 := by rw [size_cat]; show O.size + 1 ≤ _; omega
                have g0 : ((nk : Int) == 0) = false := by simpa using h0
                clear h0 hk0 hTl hO4 hO3
                go_wp2_with fail
                clear c0 c1 c2 c3 c4 c5
                go_loopw [6, 13] (fun v6 v13 wr => ∃ (q : Nat) (S : ByteArray), v6 = .string S ∧ v13 = .int .i64 q ∧ q ≤ nk ∧ S.size ≤ 17592186044416 ∧ Hid (byts S = byts O ++ [62] ++ txB (ks.take q) (dfS sp d)) ∧ Hid (WiI w.heap.size #[.bool false, .string tx, .string sp, .string lo, .slice Aa na ca, .slice Ak nk ck] w wr)) (fun _ i _ => nk - (intOf i).toNat)
                case atStart => exact ⟨0, _, rfl, rfl, Nat.zero_le _, hOs, H5, X⟩
                case round =>
                  clear X H5 hOs
                  obtain ⟨q, S, rfl, rfl, hq, hS, HS, X⟩ := hrel
                  obtain ⟨c0, c1, c2, c3, c4, c5⟩ := cells6 X.out.box
                  by_cases hlt : q < nk
                  · have g1 : (q : Int) < (nk : Int) := by omega
                    have g2 : (0 : Int) ≤ (q : Int) := by omega
                    obtain ⟨u, ux, us, ul, ua, uk, b1, o1, u1, u2, u3, u4, u5, u6, ed, hAk, hb1, x6, Y⟩ := (HT.out wr X.out).ks.at_ (k := q) hlt
                    subst hAk
                    have C9 := Lib.hid (CS.out _ u ux us ul ua uk u1 u2 u3 u4 u5 u6 q wr HD.out hlt ed Y)
                    obtain ⟨x1, x2, x3, x4, x5, x7⟩ := x6
                    clear Y ed hb1
                    go_wp2_with fail
                    refine C9.out.mono ?_
                    rintro e w8 ⟨⟨G, rfl, h8, h9⟩, b8⟩
                    have HG : Hid (byts (S ++ G) = byts O ++ [62] ++ txB (ks.take (q + 1)) (dfS sp d)) := Lib.hid (by rw [byts_cat, HS.out, h8, ← List.append_assoc])
                    have hSG := HLk.out (q + 1) (S ++ G) h9 HG.out
                    have hsum : S.size + G.size ≤ 17592186044416 := by rw [← size_cat]; exact hSG
                    have X8 := Lib.hid (X.out.keep b8)
                    clear h8 h9 b8 C9 X x1 x2 x3 x4 x5 x7 c0 c1 c2 c3 c4 c5 HS
                    go_wp2_with fail
                    go_roundw
                    case rel => exact ⟨q + 1, S ++ G, rfl, by go_num, by omega, hSG, HG, X8⟩
                    case measure => simp only [intOf]; omega
                  · have hke : q = nk := by omega
                    subst hke
                    have g1 : ¬ (q : Int) < (q : Int) := by omega
                    obtain ⟨hE, hz⟩ := HE.out S HS.out
                    have HE2 := Lib.hid hE
                    clear hE HE HS
                    go_wp2
                    go_ret
                    exact ⟨⟨_, rfl, HE2.out⟩, X.out.bel⟩
    · rcases Classical.em (sp = d) with hsd | hsd
      · have K := spK sp
        rw [decide_eq_false hx] at K
        have hQ : ¬ (sp ≠ xmlB ∧ sp ≠ d) := fun q => q.2 hsd
        have HD : Hid (d = dfS sp d) := Lib.hid (by unfold dfS; rw [if_neg hx, hsd])
        have f1 := eq_yes hsd
        have f2 := ne_no hsd
        have HN : Hid (byts (lo) = nmB sp lo) := Lib.hid (by unfold nmB; rw [if_neg hx])
        have hNz : (lo).size ≤ 1048580 := by omega
        obtain ⟨ke, kx⟩ : ∃ q : Bool, SpK sp q false := ⟨_, K⟩
        have x1 := kx.x1
        have x2 := kx.x2
        simp only [Bool.not_true, Bool.not_false] at x2
        have HHq : Hid (byts (⟨#[60]⟩ ++ lo) = H1) := Lib.hid (by rw [HH1.out, if_neg hQ, List.append_nil, byts_cat, HN.out]; rfl)
        obtain ⟨O1, hO⟩ : ∃ O, O = ⟨#[60]⟩ ++ lo := ⟨_, rfl⟩
        have HO1 : Hid (byts O1 = H1) := Lib.hid (by rw [hO]; exact HHq.out)
        have hO1 : O1.size ≤ 17592186044416 := by rw [hO, size_cat]; show 1 + _ ≤ _; omega
        have HOE := Lib.hid hO
        clear K kx hQ hx hsd hO
        have X := X0
        clear X0
        obtain ⟨c0, c1, c2, c3, c4, c5⟩ := cells6 X.out.box
        go_enter Tryd.func9, Tryd.ntmps9
        have H0 : Hid (byts O1 = H1 ++ bdB 0 (spL (ats.take 0)) ∧ 0 = (spL (ats.take 0)).length) := Lib.hid ⟨by rw [HO1.out]; exact (List.append_nil _).symm, rfl⟩
        clear HO1
        go_wp2_with fail
        go_loopw [6, 7, 8, 9] (fun v6 v7 v8 _ wr => ∃ (k m : Nat) (O : ByteArray), v6 = .string O ∧ v7 = .int .i64 m ∧ v8 = .int .i64 k ∧ k ≤ na ∧ m ≤ k ∧ O.size ≤ 17592186044416 ∧ Hid (byts O = H1 ++ bdB 0 (spL (ats.take k)) ∧ m = (spL (ats.take k)).length) ∧ Hid (WiI w.heap.size #[.bool false, .string tx, .string sp, .string lo, .slice Aa na ca, .slice Ak nk ck] w wr)) (fun _ _ i _ _ => na - (intOf i).toNat)
        case atStart => exact ⟨0, 0, O1, (by first | rfl | rw [HOE.out]), rfl, rfl, Nat.zero_le _, Nat.le_refl _, hO1, H0, X⟩
        case round =>
          clear X H0 hO1 c0 c1 c2 c3 c4 c5
          obtain ⟨k, m, O, rfl, rfl, rfl, hk, hmk, hO, HR, X⟩ := hrel
          obtain ⟨c0, c1, c2, c3, c4, c5⟩ := cells6 X.out.box
          by_cases hlt : k < na
          · have k1 : (k : Int) < (na : Int) := by omega
            have k2 : (0 : Int) ≤ (k : Int) := by omega
            have hkl : k < ats.length := by rw [← HAL.out]; exact hlt
            have hx := List.getElem?_eq_getElem hkl
            have hsz := HatM.out _ (List.getElem_mem hkl)
            have hmem := List.getElem_mem hkl
            obtain ⟨b', off, hA, hbl, d0, d1, d2⟩ := (HT.out wr X.out).at_.rd k _ hx
            have HX := Lib.hid hx
            generalize ats[k] = y at *
            subst hA
            obtain ⟨⟨u, ylo⟩, yv⟩ := y
            dsimp only at d0 d1 d2 hsz
            have HTk := Lib.hid (spL_take HX.out)
            have HBk := Lib.hid (bdB_take HX.out)
            have HPre := Lib.hid (bd_pre ats (k + 1))
            have hu := hsz.1
            clear hx hkl hbl hsz d1 d2
            rcases sp_cases u with ⟨-, ho, K⟩ | ⟨-, ho, K⟩ | ⟨-, -, ho, K⟩
            all_goals
              obtain ⟨e1, e2, e3, x1, x2⟩ := K
              simp only [Bool.not_true, Bool.not_false] at e3 x2
            iterate 2
              · have HR2 : Hid (byts O = H1 ++ bdB 0 (spL (ats.take (k + 1))) ∧ m = (spL (ats.take (k + 1))).length) := Lib.hid ⟨by rw [HBk.out, if_neg (fun q => by rw [ho] at q; exact Bool.false_ne_true q.1), List.append_nil]; exact HR.out.1, by rw [HTk.out, if_neg (fun q => by rw [ho] at q; exact Bool.false_ne_true q.1)]; exact HR.out.2⟩
                clear HR HTk HBk HPre ho hmem HX
                go_wp2_with fail
                go_roundw
                case rel => exact ⟨k + 1, m, O, rfl, rfl, by go_num, by omega, by omega, hO, HR2, X⟩
                case measure => simp only [intOf]; omega
            · have C1 := Lib.hid (CN.out u wr ho ⟨_, hmem, rfl⟩ X.out)
              rcases Classical.em (u ∈ spL (ats.take k)) with hin | hin
              · have hq : ixS (spL ats) u < m := by rw [ixS_take hin, HR.out.2]; exact ixS_lt hin
                have HR2 : Hid (byts O = H1 ++ bdB 0 (spL (ats.take (k + 1))) ∧ m = (spL (ats.take (k + 1))).length) := Lib.hid ⟨by rw [HBk.out, if_neg (fun q => q.2 hin), List.append_nil]; exact HR.out.1, by rw [HTk.out, if_neg (fun q => q.2 hin)]; exact HR.out.2⟩
                generalize ixS (spL ats) u = q at *
                have g1 : ((q : Int) == (m : Int)) = false := by rw [beq_eq_false_iff_ne]; omega
                clear HR HTk HBk HPre ho hmem HX hin hq
                go_wp2_with fail
                refine C1.out.mono ?_
                rintro e w2 ⟨rfl, rfl⟩
                clear C1
                go_wp2_with fail
                go_roundw
                case rel => exact ⟨k + 1, m, O, rfl, rfl, by go_num, by omega, by omega, hO, HR2, X⟩
                case measure => simp only [intOf]; omega
              · have hq : ixS (spL ats) u = m := by rw [ixS_first HX.out ho hin, HR.out.2]
                rw [hq] at C1
                have hm4 : m < 1000 := by omega
                have HR2 : Hid (bdB 0 (spL (ats.take (k + 1))) = bdB 0 (spL (ats.take k)) ++ prB (xnB m) u ∧ m + 1 = (spL (ats.take (k + 1))).length) := Lib.hid ⟨by rw [HBk.out, if_pos ⟨ho, hin⟩, ← HR.out.2], by rw [HTk.out, if_pos ⟨ho, hin⟩, List.length_append, ← HR.out.2]; rfl⟩
                have C2 := Lib.hid (CDg.out m wr hm4)
                clear HTk HBk ho hmem HX hin hq
                go_wp2_with fail
                refine C1.out.mono ?_
                rintro e w2 ⟨rfl, rfl⟩
                clear C1
                go_wp2_with fail
                refine C2.out.mono ?_
                rintro e w3 ⟨⟨G, rfl, hG⟩, b3⟩
                have hGs : G.size ≤ 3 := by rw [← byts_len, hG]; exact dgB_len hm4
                have HG : Hid (byts (⟨#[120, 109, 108, 110, 115, 58, 110]⟩ ++ G) = xnB m) := Lib.hid (by rw [byts_cat, hG]; rfl)
                have C3 := Lib.hid (CP.out (⟨#[120, 109, 108, 110, 115, 58, 110]⟩ ++ G) u w3 (by rw [size_cat]; show 7 + _ ≤ _; omega) hu)
                have X3 := Lib.hid (X.out.keep b3)
                clear hG b3 C2
                go_wp2_with fail
                refine C3.out.mono ?_
                rintro e w4 ⟨⟨Q, rfl, hQ⟩, rfl⟩
                have HQ : Hid (byts (O ++ Q) = H1 ++ bdB 0 (spL (ats.take (k + 1)))) := Lib.hid (by rw [byts_cat, hQ, HG.out, HR.out.1, HR2.out.1, List.append_assoc])
                have hsum : O.size + Q.size ≤ 17592186044416 := by
                  have h1 := HL.out
                  have h2 := HPre.out
                  rw [← size_cat, ← byts_len, HQ.out, List.length_append]
                  omega
                have hOQ : (O ++ Q).size ≤ 17592186044416 := by rw [size_cat]; exact hsum
                have HR3 : Hid (byts (O ++ Q) = H1 ++ bdB 0 (spL (ats.take (k + 1))) ∧ m + 1 = (spL (ats.take (k + 1))).length) := Lib.hid ⟨HQ.out, HR2.out.2⟩
                clear hQ C3 HQ HG HR HR2 HPre X
                go_wp2_with fail
                go_roundw
                case rel => exact ⟨k + 1, m + 1, O ++ Q, rfl, by go_num, by go_num, by omega, by omega, hOQ, HR3, X3⟩
                case measure => simp only [intOf]; omega
          · have hke : na = k := by omega
            subst hke
            have k1 : ¬ (na : Int) < (na : Int) := by omega
            have hsl : (spL ats).length ≤ 400 := Nat.le_trans (spL_len _) (by rw [← HAL.out]; omega)
            have H2 : Hid (byts O = H1 ++ bdB 0 (spL ats) ++ asB (spL ats) (ats.take 0)) := Lib.hid (by
              have h := HR.out.1
              rw [List.take_of_length_le (by rw [HAL.out]; exact Nat.le_refl _)] at h
              rw [h]
              exact (List.append_nil _).symm)
            clear HR
            go_wp2_with fail
            clear c0 c1 c2 c3 c4 c5
            go_loopw [6, 10, 11, 12] (fun v6 v10 _ _ wr => ∃ (j : Nat) (O : ByteArray), v6 = .string O ∧ v10 = .int .i64 j ∧ j ≤ na ∧ O.size ≤ 17592186044416 ∧ Hid (byts O = H1 ++ bdB 0 (spL ats) ++ asB (spL ats) (ats.take j)) ∧ Hid (WiI w.heap.size #[.bool false, .string tx, .string sp, .string lo, .slice Aa na ca, .slice Ak nk ck] w wr)) (fun _ i _ _ _ => na - (intOf i).toNat)
            case atStart => exact ⟨0, O, rfl, rfl, Nat.zero_le _, hO, H2, X⟩
            case round =>
              clear X H2 hO
              obtain ⟨j, O, rfl, rfl, hj, hO, HR, X⟩ := hrel
              obtain ⟨c0, c1, c2, c3, c4, c5⟩ := cells6 X.out.box
              by_cases hjk : j < na
              · have k1 : (j : Int) < (na : Int) := by omega
                have k2 : (0 : Int) ≤ (j : Int) := by omega
                have hkl : j < ats.length := by rw [← HAL.out]; exact hjk
                have hx := List.getElem?_eq_getElem hkl
                have hsz := HatM.out _ (List.getElem_mem hkl)
                have hmem := List.getElem_mem hkl
                obtain ⟨b', off, hA, hbl, d0, d1, d2⟩ := (HT.out wr X.out).at_.rd j _ hx
                have HX := Lib.hid hx
                generalize ats[j] = y at *
                subst hA
                obtain ⟨⟨u, ylo⟩, yv⟩ := y
                dsimp only at d0 d1 d2 hsz
                have nn1 : wr.heap.size ≠ w.heap.size := World.new_ne wr _ c3
                have nn2 : wr.heap.size ≠ b' := World.new_ne wr _ d0
                have nn3 : w.heap.size ≠ wr.heap.size := nn1.symm
                have nn4 : b' ≠ wr.heap.size := nn2.symm
                have a4 : (wr.alloc (.cells #[.string u, .string ylo] 23)).cell? ⟨w.heap.size, 4, none⟩ = some (.slice (some ⟨b', off, none⟩) na ca) := cell_lt c4 ((Below.refl _ wr).alloc (Nat.le_refl _) _)
                have a5 : (wr.alloc (.cells #[.string u, .string ylo] 23)).cell? ⟨b', off + j * 3 + 2, none⟩ = some (.string yv) := cell_lt d2 ((Below.refl _ wr).alloc (Nat.le_refl _) _)
                have HTk := Lib.hid (asB_take (spL ats) HX.out)
                have HPre := Lib.hid (as_pre (spL ats) ats (j + 1))
                have X1 := Lib.hid (X.out.keep ((Below.refl _ wr).alloc (Nat.le_refl _) (.cells #[.string u, .string ylo] 23)))
                have HLO := hsz.2.1
                have HV := hsz.2.2
                clear hx hkl hbl hsz HX
                have CW : Hid (∀ (nm Q : ByteArray), byts nm = aNm (spL ats) ((u, ylo), yv) → byts Q = prB (byts nm) yv → byts (O ++ Q) = H1 ++ bdB 0 (spL ats) ++ asB (spL ats) (ats.take (j + 1)) ∧ O.size + Q.size ≤ 17592186044416) := Lib.hid fun nm Q h1 h2 => by
                  have h3 : byts (O ++ Q) = H1 ++ bdB 0 (spL ats) ++ asB (spL ats) (ats.take (j + 1)) := by
                    rw [byts_cat, HR.out, HTk.out, h2, h1, ← List.append_assoc]
                    rfl
                  refine ⟨h3, ?_⟩
                  have h4 := HL.out
                  have h5 := HPre.out
                  rw [← size_cat, ← byts_len, h3, List.length_append, List.length_append]
                  omega
                clear HTk HPre HR
                rcases sp_cases u with ⟨q, -, K⟩ | ⟨q, -, K⟩ | ⟨q1, q2, ho, K⟩
                · obtain ⟨e1, e2, e3, x1, x2⟩ := K
                  simp only [Bool.not_true, Bool.not_false] at e3 x2
                  have HN1 : Hid (byts ylo = aNm (spL ats) ((u, ylo), yv)) := Lib.hid (by unfold aNm; rw [if_pos q])
                  have C3 := Lib.hid (fun W => CP.out ylo yv W (by omega) HV)
                  clear q hmem
                  go_wp2_with fail
                  refine (C3.out _).mono ?_
                  rintro e w4 ⟨⟨Q, rfl, hQ⟩, rfl⟩
                  obtain ⟨hr, hsum⟩ := CW.out ylo Q HN1.out hQ
                  have HR3 := Lib.hid hr
                  have hOQ : (O ++ Q).size ≤ 17592186044416 := by rw [size_cat]; exact hsum
                  clear hr hQ C3 X CW
                  go_wp2_with fail
                  go_roundw
                  case rel => exact ⟨j + 1, O ++ Q, rfl, by go_num, by omega, hOQ, HR3, X1⟩
                  case measure => simp only [intOf]; omega
                · obtain ⟨e1, e2, e3, x1, x2⟩ := K
                  simp only [Bool.not_true, Bool.not_false] at e3 x2
                  have HN1 : Hid (byts (⟨#[120, 109, 108, 58]⟩ ++ ylo) = aNm (spL ats) ((u, ylo), yv)) := Lib.hid (by unfold aNm; rw [if_neg (by dsimp only; rw [q]; decide), if_pos q, byts_cat]; rfl)
                  have C3 := Lib.hid (fun W => CP.out (⟨#[120, 109, 108, 58]⟩ ++ ylo) yv W (by rw [size_cat]; show 4 + _ ≤ _; omega) HV)
                  clear q hmem
                  go_wp2_with fail
                  refine (C3.out _).mono ?_
                  rintro e w4 ⟨⟨Q, rfl, hQ⟩, rfl⟩
                  obtain ⟨hr, hsum⟩ := CW.out _ Q HN1.out hQ
                  have HR3 := Lib.hid hr
                  have hOQ : (O ++ Q).size ≤ 17592186044416 := by rw [size_cat]; exact hsum
                  clear hr hQ C3 X CW
                  go_wp2_with fail
                  go_roundw
                  case rel => exact ⟨j + 1, O ++ Q, rfl, by go_num, by omega, hOQ, HR3, X1⟩
                  case measure => simp only [intOf]; omega
                · obtain ⟨e1, e2, e3, x1, x2⟩ := K
                  simp only [Bool.not_true, Bool.not_false] at e3 x2
                  have hin : u ∈ spL ats := spL_mem.2 ⟨ho, _, hmem, rfl⟩
                  have hm4 : ixS (spL ats) u < 1000 := by have := ixS_lt hin; omega
                  have C1 := Lib.hid (CN.out u _ ho ⟨_, hmem, rfl⟩ X1.out)
                  have HN1 : Hid (∀ G : ByteArray, byts G = dgB (ixS (spL ats) u) → byts (((⟨#[110]⟩ ++ G) ++ ⟨#[58]⟩) ++ ylo) = aNm (spL ats) ((u, ylo), yv)) := Lib.hid (fun G hG => by unfold aNm; rw [if_neg (by exact q1), if_neg (by exact q2), byts_cat, byts_cat, byts_cat, hG]; rfl)
                  generalize ixS (spL ats) u = m at *
                  have C2 := Lib.hid (CDg.out m (wr.alloc (.cells #[.string u, .string ylo] 23)) hm4)
                  clear q1 q2 hmem hin ho
                  go_wp2_with fail
                  refine C1.out.mono ?_
                  rintro e w2 ⟨rfl, rfl⟩
                  clear C1
                  go_wp2_with fail
                  refine C2.out.mono ?_
                  rintro e w3 ⟨⟨G, rfl, hG⟩, b3⟩
                  have hGs : G.size ≤ 3 := by rw [← byts_len, hG]; exact dgB_len hm4
                  have HNm := Lib.hid (HN1.out G hG)
                  have hnz : (((⟨#[110]⟩ ++ G) ++ ⟨#[58]⟩) ++ ylo : ByteArray).size ≤ 1073741824 := by rw [size_cat, size_cat, size_cat]; show 1 + _ + 1 + _ ≤ _; omega
                  have X3 := Lib.hid (X1.out.keep b3)
                  have D2 := Lib.hid ((HT.out w3 X3.out).at_)
                  have C3 := Lib.hid (CP.out (((⟨#[110]⟩ ++ G) ++ ⟨#[58]⟩) ++ ylo) yv w3 hnz HV)
                  have dv : w3.cell? ⟨b', off + j * 3 + 2, none⟩ = some (.string yv) := cell_lt (cell_lt d2 ((Below.refl _ wr).alloc (Nat.le_refl _) _)) b3
                  obtain ⟨c0, c1, c2, c3, c4, c5⟩ := cells6 X3.out.box
                  clear hG b3 C2 hnz HN1
                  go_wp2_with fail
                  refine C3.out.mono ?_
                  rintro e w4 ⟨⟨Q, rfl, hQ⟩, rfl⟩
                  obtain ⟨hr, hsum⟩ := CW.out _ Q HNm.out hQ
                  have HR3 := Lib.hid hr
                  have hOQ : (O ++ Q).size ≤ 17592186044416 := by rw [size_cat]; exact hsum
                  clear hr hQ C3 X CW
                  go_wp2_with fail
                  go_roundw
                  case rel => exact ⟨j + 1, O ++ Q, rfl, by go_num, by omega, hOQ, HR3, X3⟩
                  case measure => simp only [intOf]; omega
              · have hke : na = j := by omega
                subst hke
                have k1 : ¬ (na : Int) < (na : Int) := by omega
                have H3 : Hid (byts O = H1 ++ (bdB 0 (spL ats) ++ asB (spL ats) ats)) := Lib.hid (by
                  have h := HR.out
                  rw [List.take_of_length_le (by rw [HAL.out]; exact Nat.le_refl _), List.append_assoc] at h
                  exact h)
                have hO3 : O.size + TL.length ≤ 17592186044416 := by
                  have := HL.out
                  rw [← byts_len, H3.out, List.length_append, List.length_append]
                  omega
                clear HR
                rcases Classical.em (nk = 0) with h0 | h0
                · have hE : Hid (TX = byts (O ++ ⟨#[47, 62]⟩)) := Lib.hid (by rw [HTX.out, HTL.out, if_pos (by rw [← HNL.out]; exact h0), byts_cat, H3.out]; rfl)
                  have g0 : ((nk : Int) == 0) = true := by simpa using h0
                  clear h0
                  go_wp2
                  go_ret
                  exact ⟨⟨_, rfl, hE.out.symm⟩, X.out.bel⟩
                · have hk0 : ¬ ks.len = 0 := by rw [← HNL.out]; exact h0
                  have hTl := HTlen.out
                  rw [if_neg hk0] at hTl
                  have hO4 : O.size + 1 + (txB ks (dfS sp d)).length + 2 + (nmB sp lo).length + 1 ≤ 17592186044416 := by omega
                  have HE : Hid (∀ S : ByteArray, byts S = byts O ++ [62] ++ txB (ks.take nk) (dfS sp d) → byts (((S ++ ⟨#[60, 47]⟩) ++ lo) ++ ⟨#[62]⟩) = TX ∧ S.size + 2 + (lo).size + 1 ≤ 17592186044416) := Lib.hid fun S hS => by
                    rw [HNL.out, take_full] at hS
                    refine ⟨?_, ?_⟩
                    · rw [byts_cat, byts_cat, byts_cat, HN.out, hS, H3.out, HTX.out, HTL.out, if_neg hk0, show byts (⟨#[60, 47]⟩ : ByteArray) = [60, 47] from rfl, show byts (⟨#[62]⟩ : ByteArray) = [62] from rfl]
                      simp only [List.append_assoc]
                    · rw [← byts_len S, hS, ← byts_len (lo), HN.out]
                      simp only [List.length_append, byts_len]
                      show O.size + 1 + _ + 2 + _ + 1 ≤ _
                      exact hO4
                  have HLk : Hid (∀ (k : Nat) (S : ByteArray), (txB (ks.take k) (dfS sp d)).length ≤ (txB ks (dfS sp d)).length → byts S = byts O ++ [62] ++ txB (ks.take k) (dfS sp d) → S.size ≤ 17592186044416) := Lib.hid fun k S h1 hS => by
                    rw [← byts_len S, hS]
                    simp only [List.length_append, byts_len]
                    show O.size + 1 + _ ≤ _
                    omega
                  have H5 : Hid (byts (O ++ ⟨#[62]⟩) = byts O ++ [62] ++ txB (ks.take 0) (dfS sp d)) := Lib.hid (by
                    rw [show (ks.take 0) = Fo.nil by cases ks <;> rfl, byts_cat]
                    exact (List.append_nil _).symm)
                  have hOs : (O ++ ⟨#[62]⟩ : ByteArray).size ≤ 17592186044416 := by rw [size_cat]; show O.size + 1 ≤ _; omega
                  have g0 : ((nk : Int) == 0) = false := by simpa using h0
                  clear h0 hk0 hTl hO4 hO3
                  go_wp2_with fail
                  clear c0 c1 c2 c3 c4 c5
                  go_loopw [6, 13] (fun v6 v13 wr => ∃ (q : Nat) (S : ByteArray), v6 = .string S ∧ v13 = .int .i64 q ∧ q ≤ nk ∧ S.size ≤ 17592186044416 ∧ Hid (byts S = byts O ++ [62] ++ txB (ks.take q) (dfS sp d)) ∧ Hid (WiI w.heap.size #[.bool false, .string tx, .string sp, .string lo, .slice Aa na ca, .slice Ak nk ck] w wr)) (fun _ i _ => nk - (intOf i).toNat)
                  case atStart => exact ⟨0, _, rfl, rfl, Nat.zero_le _, hOs, H5, X⟩
                  case round =>
                    clear X H5 hOs
                    obtain ⟨q, S, rfl, rfl, hq, hS, HS, X⟩ := hrel
                    obtain ⟨c0, c1, c2, c3, c4, c5⟩ := cells6 X.out.box
                    by_cases hlt : q < nk
                    · have g1 : (q : Int) < (nk : Int) := by omega
                      have g2 : (0 : Int) ≤ (q : Int) := by omega
                      obtain ⟨u, ux, us, ul, ua, uk, b1, o1, u1, u2, u3, u4, u5, u6, ed, hAk, hb1, x6, Y⟩ := (HT.out wr X.out).ks.at_ (k := q) hlt
                      subst hAk
                      have C9 := Lib.hid (CS.out _ u ux us ul ua uk u1 u2 u3 u4 u5 u6 q wr HD.out hlt ed Y)
                      obtain ⟨x1, x2, x3, x4, x5, x7⟩ := x6
                      clear Y ed hb1
                      go_wp2_with fail
                      refine C9.out.mono ?_
                      rintro e w8 ⟨⟨G, rfl, h8, h9⟩, b8⟩
                      have HG : Hid (byts (S ++ G) = byts O ++ [62] ++ txB (ks.take (q + 1)) (dfS sp d)) := Lib.hid (by rw [byts_cat, HS.out, h8, ← List.append_assoc])
                      have hSG := HLk.out (q + 1) (S ++ G) h9 HG.out
                      have hsum : S.size + G.size ≤ 17592186044416 := by rw [← size_cat]; exact hSG
                      have X8 := Lib.hid (X.out.keep b8)
                      clear h8 h9 b8 C9 X x1 x2 x3 x4 x5 x7 c0 c1 c2 c3 c4 c5 HS
                      go_wp2_with fail
                      go_roundw
                      case rel => exact ⟨q + 1, S ++ G, rfl, by go_num, by omega, hSG, HG, X8⟩
                      case measure => simp only [intOf]; omega
                    · have hke : q = nk := by omega
                      subst hke
                      have g1 : ¬ (q : Int) < (q : Int) := by omega
                      obtain ⟨hE, hz⟩ := HE.out S HS.out
                      have HE2 := Lib.hid hE
                      clear hE HE HS
                      go_wp2
                      go_ret
                      exact ⟨⟨_, rfl, HE2.out⟩, X.out.bel⟩
      · have K := spK sp
        rw [decide_eq_false hx] at K
        have hQ : sp ≠ xmlB ∧ sp ≠ d := ⟨hx, hsd⟩
        have HD : Hid (sp = dfS sp d) := Lib.hid (by unfold dfS; rw [if_neg hx])
        have f1 := eq_no hsd
        have f2 := ne_yes hsd
        have HN : Hid (byts (lo) = nmB sp lo) := Lib.hid (by unfold nmB; rw [if_neg hx])
        have hNz : (lo).size ≤ 1048580 := by omega
        obtain ⟨ke, kx⟩ : ∃ q : Bool, SpK sp q false := ⟨_, K⟩
        have x1 := kx.x1
        have x2 := kx.x2
        simp only [Bool.not_true, Bool.not_false] at x2
        have HHq : Hid (H1 = [60] ++ nmB sp lo ++ prB (byts xnsB) sp) := Lib.hid (by rw [HH1.out, if_pos hQ])
        have C0 := Lib.hid (fun W => CP.out ⟨#[120, 109, 108, 110, 115]⟩ sp W (by decide) hsp)
        clear K kx hQ hx hsd
        have X := X0
        clear X0
        obtain ⟨c0, c1, c2, c3, c4, c5⟩ := cells6 X.out.box
        go_enter Tryd.func9, Tryd.ntmps9
        go_wp2_with fail
        refine (C0.out _).mono ?_
        rintro e w2 ⟨⟨Q, rfl, hQ⟩, rfl⟩
        have hb : byts ((⟨#[60]⟩ ++ lo) ++ Q) = H1 := by rw [byts_cat, byts_cat, hQ, HN.out, HHq.out]; rfl
        have hsum : (⟨#[60]⟩ ++ lo : ByteArray).size + Q.size ≤ 17592186044416 := by
          have := HL.out
          rw [← size_cat, ← byts_len, hb]
          omega
        have hsum2 : 1 + (lo).size + Q.size ≤ 17592186044416 := by rw [size_cat] at hsum; exact hsum
        obtain ⟨O1, hO⟩ : ∃ O, O = (⟨#[60]⟩ ++ lo) ++ Q := ⟨_, rfl⟩
        have HO1 : Hid (byts O1 = H1) := Lib.hid (by rw [hO]; exact hb)
        have hO1 : O1.size ≤ 17592186044416 := by rw [hO, size_cat]; exact hsum
        have HOE := Lib.hid hO
        clear hb hO hQ C0
        go_wp2_with fail
        rw [← HOE.out]
        clear hsum hsum2 HOE
        have H0 : Hid (byts O1 = H1 ++ bdB 0 (spL (ats.take 0)) ∧ 0 = (spL (ats.take 0)).length) := Lib.hid ⟨by rw [HO1.out]; exact (List.append_nil _).symm, rfl⟩
        clear HO1
        go_wp2_with fail
        go_loopw [6, 7, 8, 9] (fun v6 v7 v8 _ wr => ∃ (k m : Nat) (O : ByteArray), v6 = .string O ∧ v7 = .int .i64 m ∧ v8 = .int .i64 k ∧ k ≤ na ∧ m ≤ k ∧ O.size ≤ 17592186044416 ∧ Hid (byts O = H1 ++ bdB 0 (spL (ats.take k)) ∧ m = (spL (ats.take k)).length) ∧ Hid (WiI w.heap.size #[.bool false, .string tx, .string sp, .string lo, .slice Aa na ca, .slice Ak nk ck] w wr)) (fun _ _ i _ _ => na - (intOf i).toNat)
        case atStart => exact ⟨0, 0, O1, (by first | rfl | rw [HOE.out]), rfl, rfl, Nat.zero_le _, Nat.le_refl _, hO1, H0, X⟩
        case round =>
          clear X H0 hO1 c0 c1 c2 c3 c4 c5
          obtain ⟨k, m, O, rfl, rfl, rfl, hk, hmk, hO, HR, X⟩ := hrel
          obtain ⟨c0, c1, c2, c3, c4, c5⟩ := cells6 X.out.box
          by_cases hlt : k < na
          · have k1 : (k : Int) < (na : Int) := by omega
            have k2 : (0 : Int) ≤ (k : Int) := by omega
            have hkl : k < ats.length := by rw [← HAL.out]; exact hlt
            have hx := List.getElem?_eq_getElem hkl
            have hsz := HatM.out _ (List.getElem_mem hkl)
            have hmem := List.getElem_mem hkl
            obtain ⟨b', off, hA, hbl, d0, d1, d2⟩ := (HT.out wr X.out).at_.rd k _ hx
            have HX := Lib.hid hx
            generalize ats[k] = y at *
            subst hA
            obtain ⟨⟨u, ylo⟩, yv⟩ := y
            dsimp only at d0 d1 d2 hsz
            have HTk := Lib.hid (spL_take HX.out)
            have HBk := Lib.hid (bdB_take HX.out)
            have HPre := Lib.hid (bd_pre ats (k + 1))
            have hu := hsz.1
            clear hx hkl hbl hsz d1 d2
            rcases sp_cases u with ⟨-, ho, K⟩ | ⟨-, ho, K⟩ | ⟨-, -, ho, K⟩
            all_goals
              obtain ⟨e1, e2, e3, x1, x2⟩ := K
              simp only [Bool.not_true, Bool.not_false] at e3 x2
            iterate 2
              · have HR2 : Hid (byts O = H1 ++ bdB 0 (spL (ats.take (k + 1))) ∧ m = (spL (ats.take (k + 1))).length) := Lib.hid ⟨by rw [HBk.out, if_neg (fun q => by rw [ho] at q; exact Bool.false_ne_true q.1), List.append_nil]; exact HR.out.1, by rw [HTk.out, if_neg (fun q => by rw [ho] at q; exact Bool.false_ne_true q.1)]; exact HR.out.2⟩
                clear HR HTk HBk HPre ho hmem HX
                go_wp2_with fail
                go_roundw
                case rel => exact ⟨k + 1, m, O, rfl, rfl, by go_num, by omega, by omega, hO, HR2, X⟩
                case measure => simp only [intOf]; omega
            · have C1 := Lib.hid (CN.out u wr ho ⟨_, hmem, rfl⟩ X.out)
              rcases Classical.em (u ∈ spL (ats.take k)) with hin | hin
              · have hq : ixS (spL ats) u < m := by rw [ixS_take hin, HR.out.2]; exact ixS_lt hin
                have HR2 : Hid (byts O = H1 ++ bdB 0 (spL (ats.take (k + 1))) ∧ m = (spL (ats.take (k + 1))).length) := Lib.hid ⟨by rw [HBk.out, if_neg (fun q => q.2 hin), List.append_nil]; exact HR.out.1, by rw [HTk.out, if_neg (fun q => q.2 hin)]; exact HR.out.2⟩
                generalize ixS (spL ats) u = q at *
                have g1 : ((q : Int) == (m : Int)) = false := by rw [beq_eq_false_iff_ne]; omega
                clear HR HTk HBk HPre ho hmem HX hin hq
                go_wp2_with fail
                refine C1.out.mono ?_
                rintro e w2 ⟨rfl, rfl⟩
                clear C1
                go_wp2_with fail
                go_roundw
                case rel => exact ⟨k + 1, m, O, rfl, rfl, by go_num, by omega, by omega, hO, HR2, X⟩
                case measure => simp only [intOf]; omega
              · have hq : ixS (spL ats) u = m := by rw [ixS_first HX.out ho hin, HR.out.2]
                rw [hq] at C1
                have hm4 : m < 1000 := by omega
                have HR2 : Hid (bdB 0 (spL (ats.take (k + 1))) = bdB 0 (spL (ats.take k)) ++ prB (xnB m) u ∧ m + 1 = (spL (ats.take (k + 1))).length) := Lib.hid ⟨by rw [HBk.out, if_pos ⟨ho, hin⟩, ← HR.out.2], by rw [HTk.out, if_pos ⟨ho, hin⟩, List.length_append, ← HR.out.2]; rfl⟩
                have C2 := Lib.hid (CDg.out m wr hm4)
                clear HTk HBk ho hmem HX hin hq
                go_wp2_with fail
                refine C1.out.mono ?_
                rintro e w2 ⟨rfl, rfl⟩
                clear C1
                go_wp2_with fail
                refine C2.out.mono ?_
                rintro e w3 ⟨⟨G, rfl, hG⟩, b3⟩
                have hGs : G.size ≤ 3 := by rw [← byts_len, hG]; exact dgB_len hm4
                have HG : Hid (byts (⟨#[120, 109, 108, 110, 115, 58, 110]⟩ ++ G) = xnB m) := Lib.hid (by rw [byts_cat, hG]; rfl)
                have C3 := Lib.hid (CP.out (⟨#[120, 109, 108, 110, 115, 58, 110]⟩ ++ G) u w3 (by rw [size_cat]; show 7 + _ ≤ _; omega) hu)
                have X3 := Lib.hid (X.out.keep b3)
                clear hG b3 C2
                go_wp2_with fail
                refine C3.out.mono ?_
                rintro e w4 ⟨⟨Q, rfl, hQ⟩, rfl⟩
                have HQ : Hid (byts (O ++ Q) = H1 ++ bdB 0 (spL (ats.take (k + 1)))) := Lib.hid (by rw [byts_cat, hQ, HG.out, HR.out.1, HR2.out.1, List.append_assoc])
                have hsum : O.size + Q.size ≤ 17592186044416 := by
                  have h1 := HL.out
                  have h2 := HPre.out
                  rw [← size_cat, ← byts_len, HQ.out, List.length_append]
                  omega
                have hOQ : (O ++ Q).size ≤ 17592186044416 := by rw [size_cat]; exact hsum
                have HR3 : Hid (byts (O ++ Q) = H1 ++ bdB 0 (spL (ats.take (k + 1))) ∧ m + 1 = (spL (ats.take (k + 1))).length) := Lib.hid ⟨HQ.out, HR2.out.2⟩
                clear hQ C3 HQ HG HR HR2 HPre X
                go_wp2_with fail
                go_roundw
                case rel => exact ⟨k + 1, m + 1, O ++ Q, rfl, by go_num, by go_num, by omega, by omega, hOQ, HR3, X3⟩
                case measure => simp only [intOf]; omega
          · have hke : na = k := by omega
            subst hke
            have k1 : ¬ (na : Int) < (na : Int) := by omega
            have hsl : (spL ats).length ≤ 400 := Nat.le_trans (spL_len _) (by rw [← HAL.out]; omega)
            have H2 : Hid (byts O = H1 ++ bdB 0 (spL ats) ++ asB (spL ats) (ats.take 0)) := Lib.hid (by
              have h := HR.out.1
              rw [List.take_of_length_le (by rw [HAL.out]; exact Nat.le_refl _)] at h
              rw [h]
              exact (List.append_nil _).symm)
            clear HR
            go_wp2_with fail
            clear c0 c1 c2 c3 c4 c5
            go_loopw [6, 10, 11, 12] (fun v6 v10 _ _ wr => ∃ (j : Nat) (O : ByteArray), v6 = .string O ∧ v10 = .int .i64 j ∧ j ≤ na ∧ O.size ≤ 17592186044416 ∧ Hid (byts O = H1 ++ bdB 0 (spL ats) ++ asB (spL ats) (ats.take j)) ∧ Hid (WiI w.heap.size #[.bool false, .string tx, .string sp, .string lo, .slice Aa na ca, .slice Ak nk ck] w wr)) (fun _ i _ _ _ => na - (intOf i).toNat)
            case atStart => exact ⟨0, O, rfl, rfl, Nat.zero_le _, hO, H2, X⟩
            case round =>
              clear X H2 hO
              obtain ⟨j, O, rfl, rfl, hj, hO, HR, X⟩ := hrel
              obtain ⟨c0, c1, c2, c3, c4, c5⟩ := cells6 X.out.box
              by_cases hjk : j < na
              · have k1 : (j : Int) < (na : Int) := by omega
                have k2 : (0 : Int) ≤ (j : Int) := by omega
                have hkl : j < ats.length := by rw [← HAL.out]; exact hjk
                have hx := List.getElem?_eq_getElem hkl
                have hsz := HatM.out _ (List.getElem_mem hkl)
                have hmem := List.getElem_mem hkl
                obtain ⟨b', off, hA, hbl, d0, d1, d2⟩ := (HT.out wr X.out).at_.rd j _ hx
                have HX := Lib.hid hx
                generalize ats[j] = y at *
                subst hA
                obtain ⟨⟨u, ylo⟩, yv⟩ := y
                dsimp only at d0 d1 d2 hsz
                have nn1 : wr.heap.size ≠ w.heap.size := World.new_ne wr _ c3
                have nn2 : wr.heap.size ≠ b' := World.new_ne wr _ d0
                have nn3 : w.heap.size ≠ wr.heap.size := nn1.symm
                have nn4 : b' ≠ wr.heap.size := nn2.symm
                have a4 : (wr.alloc (.cells #[.string u, .string ylo] 23)).cell? ⟨w.heap.size, 4, none⟩ = some (.slice (some ⟨b', off, none⟩) na ca) := cell_lt c4 ((Below.refl _ wr).alloc (Nat.le_refl _) _)
                have a5 : (wr.alloc (.cells #[.string u, .string ylo] 23)).cell? ⟨b', off + j * 3 + 2, none⟩ = some (.string yv) := cell_lt d2 ((Below.refl _ wr).alloc (Nat.le_refl _) _)
                have HTk := Lib.hid (asB_take (spL ats) HX.out)
                have HPre := Lib.hid (as_pre (spL ats) ats (j + 1))
                have X1 := Lib.hid (X.out.keep ((Below.refl _ wr).alloc (Nat.le_refl _) (.cells #[.string u, .string ylo] 23)))
                have HLO := hsz.2.1
                have HV := hsz.2.2
                clear hx hkl hbl hsz HX
                have CW : Hid (∀ (nm Q : ByteArray), byts nm = aNm (spL ats) ((u, ylo), yv) → byts Q = prB (byts nm) yv → byts (O ++ Q) = H1 ++ bdB 0 (spL ats) ++ asB (spL ats) (ats.take (j + 1)) ∧ O.size + Q.size ≤ 17592186044416) := Lib.hid fun nm Q h1 h2 => by
                  have h3 : byts (O ++ Q) = H1 ++ bdB 0 (spL ats) ++ asB (spL ats) (ats.take (j + 1)) := by
                    rw [byts_cat, HR.out, HTk.out, h2, h1, ← List.append_assoc]
                    rfl
                  refine ⟨h3, ?_⟩
                  have h4 := HL.out
                  have h5 := HPre.out
                  rw [← size_cat, ← byts_len, h3, List.length_append, List.length_append]
                  omega
                clear HTk HPre HR
                rcases sp_cases u with ⟨q, -, K⟩ | ⟨q, -, K⟩ | ⟨q1, q2, ho, K⟩
                · obtain ⟨e1, e2, e3, x1, x2⟩ := K
                  simp only [Bool.not_true, Bool.not_false] at e3 x2
                  have HN1 : Hid (byts ylo = aNm (spL ats) ((u, ylo), yv)) := Lib.hid (by unfold aNm; rw [if_pos q])
                  have C3 := Lib.hid (fun W => CP.out ylo yv W (by omega) HV)
                  clear q hmem
                  go_wp2_with fail
                  refine (C3.out _).mono ?_
                  rintro e w4 ⟨⟨Q, rfl, hQ⟩, rfl⟩
                  obtain ⟨hr, hsum⟩ := CW.out ylo Q HN1.out hQ
                  have HR3 := Lib.hid hr
                  have hOQ : (O ++ Q).size ≤ 17592186044416 := by rw [size_cat]; exact hsum
                  clear hr hQ C3 X CW
                  go_wp2_with fail
                  go_roundw
                  case rel => exact ⟨j + 1, O ++ Q, rfl, by go_num, by omega, hOQ, HR3, X1⟩
                  case measure => simp only [intOf]; omega
                · obtain ⟨e1, e2, e3, x1, x2⟩ := K
                  simp only [Bool.not_true, Bool.not_false] at e3 x2
                  have HN1 : Hid (byts (⟨#[120, 109, 108, 58]⟩ ++ ylo) = aNm (spL ats) ((u, ylo), yv)) := Lib.hid (by unfold aNm; rw [if_neg (by dsimp only; rw [q]; decide), if_pos q, byts_cat]; rfl)
                  have C3 := Lib.hid (fun W => CP.out (⟨#[120, 109, 108, 58]⟩ ++ ylo) yv W (by rw [size_cat]; show 4 + _ ≤ _; omega) HV)
                  clear q hmem
                  go_wp2_with fail
                  refine (C3.out _).mono ?_
                  rintro e w4 ⟨⟨Q, rfl, hQ⟩, rfl⟩
                  obtain ⟨hr, hsum⟩ := CW.out _ Q HN1.out hQ
                  have HR3 := Lib.hid hr
                  have hOQ : (O ++ Q).size ≤ 17592186044416 := by rw [size_cat]; exact hsum
                  clear hr hQ C3 X CW
                  go_wp2_with fail
                  go_roundw
                  case rel => exact ⟨j + 1, O ++ Q, rfl, by go_num, by omega, hOQ, HR3, X1⟩
                  case measure => simp only [intOf]; omega
                · obtain ⟨e1, e2, e3, x1, x2⟩ := K
                  simp only [Bool.not_true, Bool.not_false] at e3 x2
                  have hin : u ∈ spL ats := spL_mem.2 ⟨ho, _, hmem, rfl⟩
                  have hm4 : ixS (spL ats) u < 1000 := by have := ixS_lt hin; omega
                  have C1 := Lib.hid (CN.out u _ ho ⟨_, hmem, rfl⟩ X1.out)
                  have HN1 : Hid (∀ G : ByteArray, byts G = dgB (ixS (spL ats) u) → byts (((⟨#[110]⟩ ++ G) ++ ⟨#[58]⟩) ++ ylo) = aNm (spL ats) ((u, ylo), yv)) := Lib.hid (fun G hG => by unfold aNm; rw [if_neg (by exact q1), if_neg (by exact q2), byts_cat, byts_cat, byts_cat, hG]; rfl)
                  generalize ixS (spL ats) u = m at *
                  have C2 := Lib.hid (CDg.out m (wr.alloc (.cells #[.string u, .string ylo] 23)) hm4)
                  clear q1 q2 hmem hin ho
                  go_wp2_with fail
                  refine C1.out.mono ?_
                  rintro e w2 ⟨rfl, rfl⟩
                  clear C1
                  go_wp2_with fail
                  refine C2.out.mono ?_
                  rintro e w3 ⟨⟨G, rfl, hG⟩, b3⟩
                  have hGs : G.size ≤ 3 := by rw [← byts_len, hG]; exact dgB_len hm4
                  have HNm := Lib.hid (HN1.out G hG)
                  have hnz : (((⟨#[110]⟩ ++ G) ++ ⟨#[58]⟩) ++ ylo : ByteArray).size ≤ 1073741824 := by rw [size_cat, size_cat, size_cat]; show 1 + _ + 1 + _ ≤ _; omega
                  have X3 := Lib.hid (X1.out.keep b3)
                  have D2 := Lib.hid ((HT.out w3 X3.out).at_)
                  have C3 := Lib.hid (CP.out (((⟨#[110]⟩ ++ G) ++ ⟨#[58]⟩) ++ ylo) yv w3 hnz HV)
                  have dv : w3.cell? ⟨b', off + j * 3 + 2, none⟩ = some (.string yv) := cell_lt (cell_lt d2 ((Below.refl _ wr).alloc (Nat.le_refl _) _)) b3
                  obtain ⟨c0, c1, c2, c3, c4, c5⟩ := cells6 X3.out.box
                  clear hG b3 C2 hnz HN1
                  go_wp2_with fail
                  refine C3.out.mono ?_
                  rintro e w4 ⟨⟨Q, rfl, hQ⟩, rfl⟩
                  obtain ⟨hr, hsum⟩ := CW.out _ Q HNm.out hQ
                  have HR3 := Lib.hid hr
                  have hOQ : (O ++ Q).size ≤ 17592186044416 := by rw [size_cat]; exact hsum
                  clear hr hQ C3 X CW
                  go_wp2_with fail
                  go_roundw
                  case rel => exact ⟨j + 1, O ++ Q, rfl, by go_num, by omega, hOQ, HR3, X3⟩
                  case measure => simp only [intOf]; omega
              · have hke : na = j := by omega
                subst hke
                have k1 : ¬ (na : Int) < (na : Int) := by omega
                have H3 : Hid (byts O = H1 ++ (bdB 0 (spL ats) ++ asB (spL ats) ats)) := Lib.hid (by
                  have h := HR.out
                  rw [List.take_of_length_le (by rw [HAL.out]; exact Nat.le_refl _), List.append_assoc] at h
                  exact h)
                have hO3 : O.size + TL.length ≤ 17592186044416 := by
                  have := HL.out
                  rw [← byts_len, H3.out, List.length_append, List.length_append]
                  omega
                clear HR
                rcases Classical.em (nk = 0) with h0 | h0
                · have hE : Hid (TX = byts (O ++ ⟨#[47, 62]⟩)) := Lib.hid (by rw [HTX.out, HTL.out, if_pos (by rw [← HNL.out]; exact h0), byts_cat, H3.out]; rfl)
                  have g0 : ((nk : Int) == 0) = true := by simpa using h0
                  clear h0
                  go_wp2
                  go_ret
                  exact ⟨⟨_, rfl, hE.out.symm⟩, X.out.bel⟩
                · have hk0 : ¬ ks.len = 0 := by rw [← HNL.out]; exact h0
                  have hTl := HTlen.out
                  rw [if_neg hk0] at hTl
                  have hO4 : O.size + 1 + (txB ks (dfS sp d)).length + 2 + (nmB sp lo).length + 1 ≤ 17592186044416 := by omega
                  have HE : Hid (∀ S : ByteArray, byts S = byts O ++ [62] ++ txB (ks.take nk) (dfS sp d) → byts (((S ++ ⟨#[60, 47]⟩) ++ lo) ++ ⟨#[62]⟩) = TX ∧ S.size + 2 + (lo).size + 1 ≤ 17592186044416) := Lib.hid fun S hS => by
                    rw [HNL.out, take_full] at hS
                    refine ⟨?_, ?_⟩
                    · rw [byts_cat, byts_cat, byts_cat, HN.out, hS, H3.out, HTX.out, HTL.out, if_neg hk0, show byts (⟨#[60, 47]⟩ : ByteArray) = [60, 47] from rfl, show byts (⟨#[62]⟩ : ByteArray) = [62] from rfl]
                      simp only [List.append_assoc]
                    · rw [← byts_len S, hS, ← byts_len (lo), HN.out]
                      simp only [List.length_append, byts_len]
                      show O.size + 1 + _ + 2 + _ + 1 ≤ _
                      exact hO4
                  have HLk : Hid (∀ (k : Nat) (S : ByteArray), (txB (ks.take k) (dfS sp d)).length ≤ (txB ks (dfS sp d)).length → byts S = byts O ++ [62] ++ txB (ks.take k) (dfS sp d) → S.size ≤ 17592186044416) := Lib.hid fun k S h1 hS => by
                    rw [← byts_len S, hS]
                    simp only [List.length_append, byts_len]
                    show O.size + 1 + _ ≤ _
                    omega
                  have H5 : Hid (byts (O ++ ⟨#[62]⟩) = byts O ++ [62] ++ txB (ks.take 0) (dfS sp d)) := Lib.hid (by
                    rw [show (ks.take 0) = Fo.nil by cases ks <;> rfl, byts_cat]
                    exact (List.append_nil _).symm)
                  have hOs : (O ++ ⟨#[62]⟩ : ByteArray).size ≤ 17592186044416 := by rw [size_cat]; show O.size + 1 ≤ _; omega
                  have g0 : ((nk : Int) == 0) = false := by simpa using h0
                  clear h0 hk0 hTl hO4 hO3
                  go_wp2_with fail
                  clear c0 c1 c2 c3 c4 c5
                  go_loopw [6, 13] (fun v6 v13 wr => ∃ (q : Nat) (S : ByteArray), v6 = .string S ∧ v13 = .int .i64 q ∧ q ≤ nk ∧ S.size ≤ 17592186044416 ∧ Hid (byts S = byts O ++ [62] ++ txB (ks.take q) (dfS sp d)) ∧ Hid (WiI w.heap.size #[.bool false, .string tx, .string sp, .string lo, .slice Aa na ca, .slice Ak nk ck] w wr)) (fun _ i _ => nk - (intOf i).toNat)
                  case atStart => exact ⟨0, _, rfl, rfl, Nat.zero_le _, hOs, H5, X⟩
                  case round =>
                    clear X H5 hOs
                    obtain ⟨q, S, rfl, rfl, hq, hS, HS, X⟩ := hrel
                    obtain ⟨c0, c1, c2, c3, c4, c5⟩ := cells6 X.out.box
                    by_cases hlt : q < nk
                    · have g1 : (q : Int) < (nk : Int) := by omega
                      have g2 : (0 : Int) ≤ (q : Int) := by omega
                      obtain ⟨u, ux, us, ul, ua, uk, b1, o1, u1, u2, u3, u4, u5, u6, ed, hAk, hb1, x6, Y⟩ := (HT.out wr X.out).ks.at_ (k := q) hlt
                      subst hAk
                      have C9 := Lib.hid (CS.out _ u ux us ul ua uk u1 u2 u3 u4 u5 u6 q wr HD.out hlt ed Y)
                      obtain ⟨x1, x2, x3, x4, x5, x7⟩ := x6
                      clear Y ed hb1
                      go_wp2_with fail
                      refine C9.out.mono ?_
                      rintro e w8 ⟨⟨G, rfl, h8, h9⟩, b8⟩
                      have HG : Hid (byts (S ++ G) = byts O ++ [62] ++ txB (ks.take (q + 1)) (dfS sp d)) := Lib.hid (by rw [byts_cat, HS.out, h8, ← List.append_assoc])
                      have hSG := HLk.out (q + 1) (S ++ G) h9 HG.out
                      have hsum : S.size + G.size ≤ 17592186044416 := by rw [← size_cat]; exact hSG
                      have X8 := Lib.hid (X.out.keep b8)
                      clear h8 h9 b8 C9 X x1 x2 x3 x4 x5 x7 c0 c1 c2 c3 c4 c5 HS
                      go_wp2_with fail
                      go_roundw
                      case rel => exact ⟨q + 1, S ++ G, rfl, by go_num, by omega, hSG, HG, X8⟩
                      case measure => simp only [intOf]; omega
                    · have hke : q = nk := by omega
                      subst hke
                      have g1 : ¬ (q : Int) < (q : Int) := by omega
                      obtain ⟨hE, hz⟩ := HE.out S HS.out
                      have HE2 := Lib.hid hE
                      clear hE HE HS
                      go_wp2
                      go_ret
                      exact ⟨⟨_, rfl, HE2.out⟩, X.out.bel⟩
theorem wi_all : ∀ N, WiC N
  | 0 => fun t tx sp lo ats ks Aa na ca Ak nk ck d P w h => by omega
  | N + 1 => wi_step N (Lib.hid (wi_all N))
end Go.Proofs.YtjboglpnpgghiaaDoor.Ev
