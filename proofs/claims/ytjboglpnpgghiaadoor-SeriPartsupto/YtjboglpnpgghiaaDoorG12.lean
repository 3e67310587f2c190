/-
  Merged by program out of the texts SrDLi, SrL1, SrOpen, SrLaid, SrL3 of one seat.
-/
import Derived.Test.YtjboglpnpgghiaaDoorG10
import Derived.Test.YtjboglpnpgghiaaDoorG11
import Derived.Test.YtjboglpnpgghiaaDoorRows
import Derived.Test.YtjboglpnpgghiaaDoorG03
import Derived.Test.YtjboglpnpgghiaaDoorG04
import Derived.Deep.RegionHeld3
import Derived.Lay
import Derived.LaidLaws
import Derived.LaidMore
import Derived.Stop.LaidErr
import Derived.Stop.Joined

/- The document's Light (layer 11). -/
set_option linter.unusedVariables false
set_option linter.unusedSimpArgs false
namespace Go.Proofs.YtjboglpnpgghiaaDoor.Ev
open Go.RowKit

/-- Is the tree ahead of place k a text? -/
def preT (ks : Fo) : Nat → Bool
  | 0 => false
  | k + 1 => match ks.drop k with
    | .nil => false
    | .cons t _ _ _ _ _ _ => t
theorem preT_at {ks nx : Fo} {k : Nat} {u : Bool} {ux us ul : ByteArray} {ua : List P3} {uk : Fo} (e : ks.drop k = .cons u ux us ul ua uk nx) : preT ks (k + 1) = u := by
  show (match ks.drop k with
    | .nil => false
    | .cons t _ _ _ _ _ _ => t) = u
  rw [e]
set_option maxHeartbeats 8000000 in
set_option maxRecDepth 100000 in
theorem dli_step (N : Nat) (hIH : Hid (LiC 12 N)) : LiC 12 (N + 1) := by
  intro t tx sp lo ats ks Aa na ca Ak nk ck P w hN T hR
  have HK0 := Lib.hid (nblk w 27 #[.bool t, .string tx, .string sp, .string lo, .slice Aa na ca, .slice Ak nk ck])
  have HB0 := Lib.hid ((Below.refl w.heap.size w).alloc (Nat.le_refl _) (.cells #[.bool t, .string tx, .string sp, .string lo, .slice Aa na ca, .slice Ak nk ck] 27))
  cases t with
  | true =>
    rw [li_text]
    have C := Lib.hid (ev_all none 0 0 ⟨2, emB, emB, [], tx⟩ (w.alloc (.cells #[.bool true, .string tx, .string sp, .string lo, .slice Aa na ca, .slice Ak nk ck] 27)) (attsNil _) (rg_tx hR))
    clear T hR
    generalize rightF plF rtF ⟨2, emB, emB, [], tx⟩ = F at *
    go_enter Tryd.func12, Tryd.ntmps12
    go_wp2_with fail
    refine C.out.mono ?_
    rintro e w1 ⟨rfl, b1⟩
    have HB1 := Lib.hid (HB0.out.trans (b1.mono HB0.out.size))
    clear C b1
    go_wp2
    go_ret
    exact ⟨rfl, HB1.out⟩
  | false =>
    rw [li_el]
    have hnk := T.ks.2.1
    have hna := T.at_.cnt
    have HNL := Lib.hid T.ks.1
    have HAL := Lib.hid T.at_.len
    have HT : Hid (∀ W, Below w.heap.size w W → Tr1 P W tx sp lo ats ks Aa na ca Ak nk ck) := Lib.hid fun W hW => T.keep hW
    have HZ := Lib.hid (show w.heap.size < (w.alloc (.cells #[.bool false, .string tx, .string sp, .string lo, .slice Aa na ca, .slice Ak nk ck] 27)).heap.size by simp)
    have C1 := Lib.hid (ev_all Aa na ca ⟨1, sp, lo, ats, emB⟩ (w.alloc (.cells #[.bool false, .string tx, .string sp, .string lo, .slice Aa na ca, .slice Ak nk ck] 27)) (T.keep HB0.out).at_ (rg_own hR))
    have CS : Hid (∀ (u : Bool) (ux us ul : ByteArray) (ua : List P3) (uk : Fo) (u1 : Option Addr) (u2 u3 : Nat) (u4 : Option Addr) (u5 u6 k : Nat) W, ks.drop k = .cons u ux us ul ua uk (ks.drop (k + 1)) → Tr1 P W ux us ul ua uk u1 u2 u3 u4 u5 u6 → Calls Tryd.prog 12 #[.agg #[.bool u, .string ux, .string us, .string ul, .slice u1 u2 u3, .slice u4 u5 u6]] W fun e w' => e = .returned (.bool (liK plF rtF false (Fo.cons u ux us ul ua uk .nil))) ∧ Below W.heap.size W w') := Lib.hid fun u ux us ul ua uk u1 u2 u3 u4 u5 u6 k W ed hX => by
      have hsk := siz_kid ed
      exact hIH.out u ux us ul ua uk u1 u2 u3 u4 u5 u6 P W (by omega) hX (rg_kid hR ed)
    clear T hR
    generalize rightF plF rtF ⟨1, sp, lo, ats, emB⟩ = r at *
    obtain ⟨F, hF⟩ : ∃ F, F = (r && (noX ats && decide (ats.length ≤ 15)) && liK plF rtF false ks) := ⟨_, rfl⟩
    rw [← hF]
    have HF0 := Lib.hid hF
    clear hF
    by_cases h15 : 15 < na
    · have HE : Hid (F = false) := Lib.hid (by
        have : decide (ats.length ≤ 15) = false := by rw [decide_eq_false_iff_not, ← HAL.out]; omega
        rw [HF0.out, this]
        simp)
      have g15 : (15 : Int) < (na : Int) := by omega
      clear C1 CS
      go_enter Tryd.func12, Tryd.ntmps12
      go_wp2
      go_ret
      exact ⟨by rw [HE.out] <;> rfl, HB0.out⟩
    have g15 : ¬ (15 : Int) < (na : Int) := by omega
    have H15 : Hid (decide (ats.length ≤ 15) = true) := Lib.hid (by rw [decide_eq_true_eq, ← HAL.out]; omega)
    clear h15
    go_enter Tryd.func12, Tryd.ntmps12
    go_wp2_with fail
    refine C1.out.mono ?_
    rintro e w1 ⟨rfl, b1⟩
    have HB1 := Lib.hid (HB0.out.trans (b1.mono HB0.out.size))
    have HK1 := Lib.hid ((b1.block _ HZ.out).trans HK0.out)
    have HZ1 := Lib.hid (Nat.lt_of_lt_of_le HZ.out b1.size)
    obtain ⟨c0, c1, c2, c3, c4, c5⟩ := cells6 HK1.out
    clear b1 C1 HK0 HB0 HZ
    cases r with
    | false =>
      have HE : Hid (F = false) := Lib.hid (by rw [HF0.out]; rfl)
      go_wp2
      go_ret
      exact ⟨by rw [HE.out] <;> rfl, HB1.out⟩
    | true =>
      have HF : Hid (F = (noX ats && liK plF rtF false ks)) := Lib.hid (by rw [HF0.out, H15.out, Bool.and_true]; rfl)
      clear HF0
      go_wp2_with fail
      go_loopw [3, 4] (fun v i wr => ∃ k : Nat, v = .bool (noX (ats.take k)) ∧ i = .int .i64 k ∧ k ≤ na ∧ w1 = wr) (fun _ i _ => na - (intOf i).toNat)
      case atStart => exact ⟨0, rfl, rfl, Nat.zero_le _, rfl⟩
      case round =>
        obtain ⟨k, rfl, rfl, hk, rfl⟩ := hrel
        by_cases hlt : k < na
        · have k1 : (k : Int) < (na : Int) := by omega
          have k2 : (0 : Int) ≤ (k : Int) := by omega
          have hkl : k < ats.length := by rw [← HAL.out]; exact hlt
          have hx := List.getElem?_eq_getElem hkl
          obtain ⟨b', off, hA, hbl, d0, d1, d2⟩ := (HT.out w1 HB1.out).at_.rd k _ hx
          have HX := Lib.hid hx
          generalize ats[k] = y at *
          subst hA
          obtain ⟨⟨u, ylo⟩, yv⟩ := y
          dsimp only at d0 d1 d2
          have HTk := Lib.hid (noX_take HX.out)
          clear hx hkl hbl
          generalize noX (ats.take k) = o at *
          rcases xn_cases u ylo with ⟨q1, q2, ⟨e1, e2, e3⟩, y1, y2⟩ | ⟨q, ⟨e1, e2, e3⟩, y1, y2⟩ | ⟨q, e1, e2, e3⟩
          · have HA2 : Hid (noX (ats.take (k + 1)) = false) := Lib.hid (by rw [HTk.out, decide_eq_true q1, decide_eq_true q2]; simp)
            clear q1 q2 HTk HX
            cases o
            all_goals
              go_wp2_with fail
              go_roundw
              case rel => exact ⟨k + 1, by rw [HA2.out], by go_num, by omega, by first | trivial | rfl⟩
              case measure => simp only [intOf]; omega
          · have HA2 : Hid (noX (ats.take (k + 1)) = o) := Lib.hid (by rw [HTk.out, q]; simp)
            clear q HTk HX
            cases o
            all_goals
              go_wp2_with fail
              go_roundw
              case rel => exact ⟨k + 1, by rw [HA2.out], by go_num, by omega, by first | trivial | rfl⟩
              case measure => simp only [intOf]; omega
          · have HA2 : Hid (noX (ats.take (k + 1)) = o) := Lib.hid (by rw [HTk.out, q]; simp)
            clear q HTk HX
            cases o
            all_goals
              go_wp2_with fail
              go_roundw
              case rel => exact ⟨k + 1, by rw [HA2.out], by go_num, by omega, by first | trivial | rfl⟩
              case measure => simp only [intOf]; omega
        · have hke : na = k := by omega
          subst hke
          have k1 : ¬ (na : Int) < (na : Int) := by omega
          have HF2 : Hid (F = (noX (ats.take na) && liK plF rtF (preT ks 0) (ks.drop 0))) := Lib.hid (by
            rw [HF.out, List.take_of_length_le (by rw [HAL.out]; exact Nat.le_refl _)]
            rfl)
          clear HF
          generalize noX (ats.take na) = o0 at *
          go_wp2_with fail
          clear c0 c1 c2 c3 c4 c5
          go_loopw [3, 5] (fun v i wr => ∃ (k : Nat) (o : Bool), v = .bool o ∧ i = .int .i64 k ∧ k ≤ nk ∧ Hid (Below w1.heap.size w1 wr) ∧ Hid (F = (o && liK plF rtF (preT ks k) (ks.drop k)))) (fun _ i _ => nk - (intOf i).toNat)
          case atStart => exact ⟨0, o0, rfl, rfl, Nat.zero_le _, Lib.hid (Below.refl _ _), HF2⟩
          case round =>
            clear HF2
            obtain ⟨k, o, rfl, rfl, hk, HB, HA⟩ := hrel
            obtain ⟨c0, c1, c2, c3, c4, c5⟩ := cells6 ((HB.out.block _ HZ1.out).trans HK1.out)
            by_cases hlt : k < nk
            · have g1 : (k : Int) < (nk : Int) := by omega
              have g2 : (0 : Int) ≤ (k : Int) := by omega
              cases o with
              | false =>
                have HA2 : Hid (F = (false && liK plF rtF (preT ks (k + 1)) (ks.drop (k + 1)))) := Lib.hid (by rw [HA.out]; rfl)
                clear HA
                go_wp2_with fail
                go_roundw
                case rel => exact ⟨k + 1, false, rfl, by go_num, by omega, HB, HA2⟩
                case measure => simp only [intOf]; omega
              | true =>
                obtain ⟨u, ux, us, ul, ua, uk, b1, o1, u1, u2, u3, u4, u5, u6, ed, hAk, hb1, x6, Y⟩ := (HT.out wr (HB1.out.trans (HB.out.mono HB1.out.size))).ks.at_ (k := k) hlt
                subst hAk
                have C9 := Lib.hid (CS.out u ux us ul ua uk u1 u2 u3 u4 u5 u6 k wr ed Y)
                have HP : Hid (preT ks (k + 1) = u) := Lib.hid (preT_at ed)
                have HA2 : Hid (F = (!(preT ks k && u) && liK plF rtF false (Fo.cons u ux us ul ua uk .nil) && liK plF rtF u (ks.drop (k + 1)))) := Lib.hid (by rw [HA.out, ed, li_cons]; simp)
                obtain ⟨x1, x2, x3, x4, x5, x7⟩ := x6
                clear Y ed hb1 HA
                generalize liK plF rtF false (Fo.cons u ux us ul ua uk .nil) = g at *
                go_wp2_with fail
                refine C9.out.mono ?_
                rintro e w8 ⟨rfl, b8⟩
                have HB8 := Lib.hid (HB.out.trans (b8.mono HB.out.size))
                clear c0 c1 c2 c3 c4 c5
                obtain ⟨c0, c1, c2, c3, c4, c5⟩ := cells6 ((HB8.out.block _ HZ1.out).trans HK1.out)
                have z1 := cell_lt x1 b8
                clear C9 x1 x2 x3 x4 x5 x7
                cases g with
                | false =>
                  have HA3 : Hid (F = (false && liK plF rtF (preT ks (k + 1)) (ks.drop (k + 1)))) := Lib.hid (by rw [HA2.out, HP.out]; simp)
                  clear HA2 b8
                  go_wp2_with fail
                  go_roundw
                  case rel => exact ⟨k + 1, false, rfl, by go_num, by omega, HB8, HA3⟩
                  case measure => simp only [intOf]; omega
                | true =>
                  rcases Nat.eq_zero_or_pos k with h0 | h0
                  · have HA3 : Hid (F = (true && liK plF rtF (preT ks (k + 1)) (ks.drop (k + 1)))) := Lib.hid (by
                      have hp0 : preT ks k = false := by rw [h0]; rfl
                      rw [HA2.out, HP.out, hp0]
                      simp)
                    have e0 : ((k : Int) == 0) = true := by rw [h0]; rfl
                    clear HA2 b8 h0
                    go_wp2_with fail
                    go_roundw
                    case rel => exact ⟨k + 1, true, rfl, by go_num, by omega, HB8, HA3⟩
                    case measure => simp only [intOf]; omega
                  · have e0 : ((k : Int) == 0) = false := by rw [beq_eq_false_iff_ne]; omega
                    obtain ⟨q, hq⟩ : ∃ q, k = q + 1 := ⟨k - 1, by omega⟩
                    obtain ⟨v, vx, vs, vl, va, vk, b2, o2, v1, v2, v3, v4, v5, v6, ed2, hAk2, hb2, y6, _⟩ := (HT.out w8 (HB1.out.trans (HB8.out.mono HB1.out.size))).ks.at_ (k := q) (by omega)
                    injection hAk2 with hAk2
                    injection hAk2 with e1' e2' _
                    subst e1' e2'
                    have HP2 : Hid (preT ks k = v) := Lib.hid (by rw [hq]; exact preT_at ed2)
                    have w0 := y6.1
                    rw [show q * 6 = (k - 1) * 6 by omega] at w0
                    have qk : IntKind.i64.wrap ((k : Int) - 1) = ((k - 1 : Nat) : Int) := by rw [IntWalk.i64_in _ (by omega)]; omega
                    have qk1 : ((k - 1 : Nat) : Int) < (nk : Int) := by omega
                    have qk2 : (0 : Int) ≤ ((k - 1 : Nat) : Int) := by omega
                    clear hq ed2 hb2 y6 b8
                    generalize k - 1 = km at *
                    cases u with
                    | false =>
                      have HA3 : Hid (F = (true && liK plF rtF (preT ks (k + 1)) (ks.drop (k + 1)))) := Lib.hid (by rw [HA2.out, HP.out]; simp)
                      clear HA2
                      go_wp2_with fail
                      go_roundw
                      case rel => exact ⟨k + 1, true, rfl, by go_num, by omega, HB8, HA3⟩
                      case measure => simp only [intOf]; omega
                    | true =>
                      have HA3 : Hid (F = ((!v) && liK plF rtF (preT ks (k + 1)) (ks.drop (k + 1)))) := Lib.hid (by rw [HA2.out, HP.out, HP2.out]; simp)
                      clear HA2
                      cases v
                      all_goals
                        go_wp2_with fail
                        go_roundw
                        case rel => exact ⟨k + 1, _, rfl, by go_num, by omega, HB8, HA3⟩
                        case measure => simp only [intOf]; omega
            · have hke : k = nk := by omega
              have HE : Hid (F = o) := Lib.hid (by rw [HA.out, hke, drop_full HNL.out]; simp [liK])
              have g1 : ¬ (k : Int) < (nk : Int) := by omega
              have HB9 := Lib.hid (HB1.out.trans (HB.out.mono HB1.out.size))
              clear hke HA
              go_wp2
              go_ret
              exact ⟨by rw [HE.out] <;> rfl, HB9.out⟩
theorem dli_all : ∀ N, LiC 12 N
  | 0 => fun t tx sp lo ats ks Aa na ca Ak nk ck P w h => by omega
  | N + 1 => dli_step N (Lib.hid (dli_all N))
end Go.Proofs.YtjboglpnpgghiaaDoor.Ev

/- SeriPrints, over the contracts. -/
set_option linter.unusedVariables false
set_option linter.unusedSimpArgs false
namespace Go.Proofs.YtjboglpnpgghiaaDoor.Ev
open Go.RowKit

theorem dwithin_any (t : Bool) (tx sp lo : ByteArray) (ats : List P3) (ks : Fo) (Aa : Option Addr) (na ca : Nat) (Ak : Option Addr) (nk ck : Nat) (d : ByteArray) (P : Nat → Prop) (w : World) (T : Tr1 P w tx sp lo ats ks Aa na ca Ak nk ck) (O : PrOk (Fo.cons t tx sp lo ats ks .nil) d) :
    Calls Tryd.prog 9 #[.agg #[.bool t, .string tx, .string sp, .string lo, .slice Aa na ca, .slice Ak nk ck], .string d] w fun e w' => e = .returned (.string (strOfNums (txB (Fo.cons t tx sp lo ats ks .nil) d))) ∧ Below w.heap.size w w' := by
  refine (wi_all (ks.siz + 1) t tx sp lo ats ks Aa na ca Ak nk ck d P w (Nat.lt_succ_self _) T O.szM O.atN O.ds O.lim).mono ?_
  rintro e w' ⟨⟨S, rfl, hS⟩, hb⟩
  exact ⟨by rw [str_of_byts hS], hb⟩
theorem few_room {f : Fo} (h : FewT f) (hM : f.szM) {d : ByteArray} (hd : d.size ≤ 100) : PrOk f d := h.pr hM (by omega)
set_option maxHeartbeats 8000000 in
set_option maxRecDepth 100000 in
theorem prints_law (t : Bool) (tx sp lo : ByteArray) (ats : List P3) (ks : Fo) (Aa : Option Addr) (na ca : Nat) (Ak : Option Addr) (nk ck : Nat) (a : ByteArray) (w : World) (T : Tr1 (· < w.heap.size) w tx sp lo ats ks Aa na ca Ak nk ck) (hM : (Fo.cons t tx sp lo ats ks .nil).szM) (ha : a.size ≤ maxLen) (hT : TbI w) :
    Calls Tryd.prog 3 #[.agg #[.bool t, .string tx, .string sp, .string lo, .slice Aa na ca, .slice Ak nk ck], .string a] w fun e w' => e = .returned (.bool true) ∧ Below w.heap.size w w' := by
  have HAw : Hid (∀ W, Below w.heap.size w W → Calls Tryd.prog 6 #[] W fun e w' => e = .returned (.bool true) ∧ Below W.heap.size W w') := Lib.hid fun W hW => awake_any W (hT.keep hW)
  have HTb := Lib.hid hT
  have HM := Lib.hid hM
  have X0 : Hid (TbX w t tx sp lo ats ks Aa na ca Ak nk ck w.heap.size (w.alloc (.cells #[.bool t, .string tx, .string sp, .string lo, .slice Aa na ca, .slice Ak nk ck] 27))) := Lib.hid (TbX.mk' (Below.refl _ _) T)
  clear T hM hT
  go_enter Tryd.func3, Tryd.ntmps3
  go_upto_region 1 with fail
  generalize w.alloc (.cells #[.bool t, .string tx, .string sp, .string lo, .slice Aa na ca, .slice Ak nk ck] 27) = W0 at *
  have C0 := Lib.hid (HAw.out W0 X0.out.bel)
  go_wp2_with fail
  refine C0.out.mono ?_
  rintro e w1 ⟨rfl, b1⟩
  have X1 := Lib.hid (X0.out.keep b1)
  clear b1 X0 C0
  obtain ⟨d0, d1, d2, d3, d4, d5⟩ := X1.out.s6
  have CF := Lib.hid (lfew_any t tx sp lo ats ks Aa na ca Ak nk ck w1 X1.out.tr)
  go_wp2_with fail
  refine CF.out.mono ?_
  rintro e w2 ⟨bf, rfl, hf, b2⟩
  have X2 := Lib.hid (X1.out.keep b2)
  clear b2 CF X1 d0 d1 d2 d3 d4 d5
  have C2 := Lib.hid (HAw.out w2 X2.out.bel)
  cases bf with
  | false =>
    clear hf
    go_wp2_with fail
    refine C2.out.mono ?_
    rintro e w3 ⟨rfl, b3⟩
    have X3 := Lib.hid (X2.out.keep b3)
    clear b3
    go_wp2
    go_ret
    exact ⟨rfl, X3.out.bel⟩
  | true =>
    by_cases h100 : a.size ≤ 100
    · have HF := Lib.hid (hf rfl)
      have g1 : ¬ (100 : Int) < (a.size : Int) := by omega
      obtain ⟨G, hG⟩ : ∃ G : ByteArray → ByteArray, ∀ d, G d = strOfNums (txB (Fo.cons t tx sp lo ats ks .nil) d) := ⟨_, fun _ => rfl⟩
      obtain ⟨L, hL⟩ : ∃ L, L = liK plF rtF false (Fo.cons t tx sp lo ats ks .nil) := ⟨_, rfl⟩
      have C8 : Hid (∀ d W, d.size ≤ 100 → TbX w t tx sp lo ats ks Aa na ca Ak nk ck w.heap.size W → Calls Tryd.prog 8 #[.agg #[.bool t, .string tx, .string sp, .string lo, .slice Aa na ca, .slice Ak nk ck], .string d] W fun e w' => e = .returned (.string (G d)) ∧ Below W.heap.size W w') := Lib.hid fun d W hd hX => by
        rw [hG]
        exact within_any t tx sp lo ats ks Aa na ca Ak nk ck d W hX.tr (few_room HF.out HM.out hd) (HTb.out.keep hX.bel)
      have C9 : Hid (∀ d W, d.size ≤ 100 → TbX w t tx sp lo ats ks Aa na ca Ak nk ck w.heap.size W → Calls Tryd.prog 9 #[.agg #[.bool t, .string tx, .string sp, .string lo, .slice Aa na ca, .slice Ak nk ck], .string d] W fun e w' => e = .returned (.string (G d)) ∧ Below W.heap.size W w') := Lib.hid fun d W hd hX => by
        rw [hG]
        exact dwithin_any t tx sp lo ats ks Aa na ca Ak nk ck d _ W hX.tr (few_room HF.out HM.out hd)
      have C10 : Hid (∀ W, TbX w t tx sp lo ats ks Aa na ca Ak nk ck w.heap.size W → Calls Tryd.prog 10 #[.agg #[.bool t, .string tx, .string sp, .string lo, .slice Aa na ca, .slice Ak nk ck]] W fun e w' => e = .returned (.string (G ⟨#[]⟩)) ∧ Below W.heap.size W w') := Lib.hid fun W hX => by
        rw [hG]
        exact print_any t tx sp lo ats ks Aa na ca Ak nk ck W hX.tr (few_room HF.out HM.out (by decide)) (HTb.out.keep hX.bel)
      have C11 : Hid (∀ W, TbX w t tx sp lo ats ks Aa na ca Ak nk ck w.heap.size W → Calls Tryd.prog 11 #[.agg #[.bool t, .string tx, .string sp, .string lo, .slice Aa na ca, .slice Ak nk ck]] W fun e w' => e = .returned (.bool L) ∧ Below W.heap.size W w') := Lib.hid fun W hX => by
        rw [hL]
        exact li_all (ks.siz + 1) t tx sp lo ats ks Aa na ca Ak nk ck _ W (Nat.lt_succ_self _) hX.tr HF.out.rg
      have C12 : Hid (∀ W, TbX w t tx sp lo ats ks Aa na ca Ak nk ck w.heap.size W → Calls Tryd.prog 12 #[.agg #[.bool t, .string tx, .string sp, .string lo, .slice Aa na ca, .slice Ak nk ck]] W fun e w' => e = .returned (.bool L) ∧ Below W.heap.size W w') := Lib.hid fun W hX => by
        rw [hL]
        exact dli_all (ks.siz + 1) t tx sp lo ats ks Aa na ca Ak nk ck _ W (Nat.lt_succ_self _) hX.tr HF.out.rg
      have X : Hid (TbX w t tx sp lo ats ks Aa na ca Ak nk ck w.heap.size w2.drew) := Lib.hid (X2.out.keep (Below.drew (Below.refl _ _)))
      clear hf hG hL HF C2 X2 HAw HM HTb
      generalize hw0 : w.heap.size = tb at *
      clear hw0
      go_wp2_with fail
      go_region_held3 (fun W => W.cell? ⟨tb, 0, none⟩ = some (.bool t) ∧ W.cell? ⟨tb, 1, none⟩ = some (.string tx) ∧ W.cell? ⟨tb, 2, none⟩ = some (.string sp) ∧ W.cell? ⟨tb, 3, none⟩ = some (.string lo) ∧ W.cell? ⟨tb, 4, none⟩ = some (.slice Aa na ca) ∧ W.cell? ⟨tb, 5, none⟩ = some (.slice Ak nk ck))
        (first | with_reducible exact X.out.s6 | fail)
        (first
          | (go_at_call 8; refine (C8.out _ _ h100 X.out).mono ?_; rintro e w3 ⟨rfl, b3⟩; replace X := Lib.hid (X.out.keep b3); clear b3)
          | (go_at_call 9; refine (C9.out _ _ (by first | assumption | decide) X.out).mono ?_; rintro e w3 ⟨rfl, b3⟩; replace X := Lib.hid (X.out.keep b3); clear b3)
          | (go_at_call 10; refine (C10.out _ X.out).mono ?_; rintro e w3 ⟨rfl, b3⟩; replace X := Lib.hid (X.out.keep b3); clear b3)
          | (go_at_call 11; refine (C11.out _ X.out).mono ?_; rintro e w3 ⟨rfl, b3⟩; replace X := Lib.hid (X.out.keep b3); clear b3)
          | (go_at_call 12; refine (C12.out _ X.out).mono ?_; rintro e w3 ⟨rfl, b3⟩; replace X := Lib.hid (X.out.keep b3); clear b3)
          | fail)
      all_goals
        go_wp2
        go_ret
        exact ⟨rfl, X.out.bel⟩
    · have g1 : (100 : Int) < (a.size : Int) := by omega
      clear hf
      go_wp2_with fail
      refine C2.out.mono ?_
      rintro e w3 ⟨rfl, b3⟩
      have X3 := Lib.hid (X2.out.keep b3)
      clear b3
      go_wp2
      go_ret
      exact ⟨rfl, X3.out.bel⟩
end Go.Proofs.YtjboglpnpgghiaaDoor.Ev

/- A tree that is handed in, opened, with the bound on all that is handed in. -/
set_option linter.unusedSimpArgs false
set_option linter.unusedVariables false
namespace Go.Proofs.YtjboglpnpgghiaaDoor.Ev
open Go.Joins Go.ChangeShapes Go.WideShapes Go.RowKit Go.Deep

theorem bulk_mem {H : Type} {d : DataW H} : ∀ {l : List (DataW H)}, d ∈ l → Rows.uptoBulk d ≤ Rows.uptoBulkAll l
  | [], h => by cases h
  | x :: r, h => by
    simp only [Rows.uptoBulkAll]
    rcases List.mem_cons.1 h with e | e
    · rw [e]; omega
    · have := bulk_mem e; omega
theorem bulk_slice {H : Type} (a b : List (DataW H)) : Rows.uptoBulkAll a ≤ Rows.uptoBulk (.slice a b) := by
  simp only [Rows.uptoBulk]
  omega
theorem foT_szM : ∀ l : List TT, (∀ (k : Nat) x, l[k]? = some x → (Fo.cons x.t x.tx x.sp x.lo x.ats x.ks .nil).szM) → (foT l).szM
  | [], _ => trivial
  | x :: l, h => by
    have h0 := h 0 x rfl
    exact ⟨h0.1, h0.2.1, foT_szM l fun k y hk => h (k + 1) y (by rw [List.getElem?_cons_succ]; exact hk)⟩
set_option maxRecDepth 100000 in
theorem open_ats3 {H : Type} {enc : TypeId × Value → H} {w : World} {fuel : Nat} {v : Value} {y : DataW H × List MemPlace} (h : DataW.trod enc Tryd.prog w 0 (fun _ => true) true fuel 24 [v] = some y) (hw : ∀ m ∈ y.1.weights Tryd.prog 24, m ≤ reachBytes) :
    ∃ (A : Option Addr) (n c : Nat) (l : List P3), v = .slice A n c ∧ AttsIn w A n c l ∧ LimA l ∧ (Rows.uptoBulk y.1 ≤ 1048576 → atM l) := by
  rcases open_slice Tryd.underlying24 h with ⟨hc, _⟩ | ⟨a, len, cap, m, n, D, Pl, hc, hb, hl, hm, hmm, hx, hall⟩
  · obtain rfl : v = .slice none 0 0 := by simpa using hc
    exact ⟨none, 0, 0, [], rfl, attsNil w, (fun x hx => by cases hx), fun _ x hx => by cases hx⟩
  · obtain rfl : v = .slice (some a) len cap := by simpa using hc
    simp only [if_true] at hmm
    subst hmm
    rw [Tryd.cells34] at hall
    rw [hx] at hw
    obtain ⟨hz, hwi⟩ := slice_sizes Tryd.underlying24 Tryd.bytes34 hw
    unfold reachBytes at hz
    have st : ∀ i, i < len → ∃ x : P3, (w.cell? (a.add (i * 3)) = some (.string x.1.1) ∧ w.cell? (a.add (i * 3 + 1)) = some (.string x.1.2) ∧ w.cell? (a.add (i * 3 + 2)) = some (.string x.2)) ∧ (x.1.1.size ≤ LimS ∧ x.1.2.size ≤ LimS ∧ x.2.size ≤ LimS) ∧ (Rows.uptoBulk (D i) ≤ 1048576 → x.1.1.size ≤ 1048576 ∧ x.1.2.size ≤ 1048576 ∧ x.2.size ≤ 1048576) := fun i hi => by
      obtain ⟨cs', h1, h2⟩ := hall i (by omega)
      obtain ⟨_, hlen, hcell⟩ := World.cells?_some h1
      obtain ⟨y0, y1, k, hD, _, g0, g1⟩ := trod_struct2 Tryd.underlying34 h2
      match cs', hlen, hcell, g0, g1 with
      | [v0, v1, v2], _, hcell, g0, g1 =>
        simp [Tryd.cells23, Tryd.cells9] at g0 g1
        obtain ⟨z0, z1, k2, hE, _, f0, f1⟩ := trod_struct2 Tryd.underlying23 g0
        simp [Tryd.cells9] at f0 f1
        obtain ⟨s0, e0, w0, _⟩ := DataW.trod_string Tryd.underlying9 f0
        obtain ⟨s1, e1, w1, _⟩ := DataW.trod_string Tryd.underlying9 f1
        obtain ⟨s2, e2, w2, _⟩ := DataW.trod_string Tryd.underlying9 g1
        simp only [List.cons.injEq, and_true] at e0 e1 e2
        subst e0 e1 e2
        have c0 := hcell 0 (by omega)
        have c1 := hcell 1 (by omega)
        have c2 := hcell 2 (by omega)
        rw [add_add] at c0 c1 c2
        have hd : D i = .agg [.agg [.lit (.string s0.data.toList), .lit (.string s1.data.toList)], .lit (.string s2.data.toList)] := by
          have := congrArg Prod.fst hD
          rw [hE, w0, w1, w2] at this
          exact this
        have hq := hwi i hi
        rw [hd] at hq
        have hwt : (DataW.agg [DataW.agg [.lit (.string s0.data.toList), .lit (.string s1.data.toList)], .lit (.string s2.data.toList)] : DataW H).weights Tryd.prog 34 = [s0.data.toList.length, s1.data.toList.length, s2.data.toList.length] := by
          simp [DataW.weights, Tryd.underlying34, Tryd.underlying23, DataW.weightsEach]
        rw [hwt] at hq
        exact ⟨((s0, s1), s2), ⟨by simpa using c0, by simpa using c1, by simpa using c2⟩, ⟨lim_of (hq _ (by simp)), lim_of (hq _ (by simp)), lim_of (hq _ (by simp))⟩, fun hb => by
          rw [hd] at hb
          simp only [Rows.uptoBulk, Rows.uptoBulkAll] at hb
          rw [Lib.size_eq s0, Lib.size_eq s1, Lib.size_eq s2]
          omega⟩
    obtain ⟨l, hll, hX⟩ := pick_list (n := len) (fun i hi => st i hi)
    have hL : LimA l := pick_mem hX (fun k x h => h.2.1)
    refine ⟨some a, len, m, l, rfl, ⟨hll.symm, by unfold maxLen; omega, by omega, fun x hx => by
      obtain ⟨a1, a2, a3⟩ := hL x hx
      unfold LimS at a1 a2 a3
      unfold maxLen
      omega, fun k x hk => ?_, fun h => by cases h⟩, hL, fun hb x hx' => ?_⟩
    rotate_left
    · obtain ⟨k, hk⟩ := List.getElem?_of_mem hx'
      refine (hX k x hk).2.2 (Nat.le_trans (bulk_mem (l := (List.range len).map D) (List.mem_map.2 ⟨k, List.mem_range.2 ?_, rfl⟩)) ?_)
      · rw [← hll]; exact (List.getElem?_eq_some_iff.1 hk).1
      · rw [hx] at hb
        exact Nat.le_trans (bulk_slice _ _) hb
    obtain ⟨⟨c0, c1, c2⟩, _⟩ := hX k x hk
    obtain ⟨b, off, spot⟩ := a
    have hspot : spot = none := by
      obtain ⟨_, h0⟩ := st 0 (by have := (List.getElem?_eq_some_iff.1 hk).1; omega)
      have := World.cell?_spot h0.1.1
      simpa [Addr.add] using this
    subst hspot
    rw [Addr.add_lit] at c0 c1 c2
    exact ⟨b, off, rfl, Lib.lt_of_cell c0, c0, by rw [Nat.add_assoc]; exact c1, by rw [Nat.add_assoc]; exact c2⟩
set_option maxHeartbeats 1000000 in
set_option maxRecDepth 100000 in
theorem open_tr3 {H : Type} {enc : TypeId × Value → H} {w : World} : ∀ (N : Nat) {fuel : Nat} {cs : List Value} {y : DataW H × List MemPlace}, SizeOf.sizeOf y.1 < N → cs.length = 6 → DataW.trod enc Tryd.prog w 0 (fun _ => true) true fuel 27 cs = some y → (∀ m ∈ y.1.weights Tryd.prog 27, m ≤ reachBytes) →
    ∃ x : TT, cs = [.bool x.t, .string x.tx, .string x.sp, .string x.lo, .slice x.Aa x.na x.ca, .slice x.Ak x.nk x.ck] ∧ TTok w x ∧ (Rows.uptoBulk y.1 ≤ 1048576 → (Fo.cons x.t x.tx x.sp x.lo x.ats x.ks .nil).szM)
  | 0, _, _, _, h, _, _, _ => by omega
  | N + 1, fuel, cs, y, hN, hl, h, hw => by
    obtain ⟨xs, k, _, hx, _, hlen, hf⟩ := DataW.trod_struct Tryd.underlying27 h
    match xs, hlen with
    | [y0, y1, y2, y3, y4], _ =>
    have g0 := hf 0 _ rfl
    have g1 := hf 1 _ rfl
    have g2 := hf 2 _ rfl
    have g3 := hf 3 _ rfl
    have g4 := hf 4 _ rfl
    have hy : y.1 = .agg [y0.1, y1.1, y2.1, y3.1, y4.1] := by rw [hx]; rfl
    have hwt : (DataW.agg [y0.1, y1.1, y2.1, y3.1, y4.1]).weights Tryd.prog 27 = y0.1.weights Tryd.prog 4 ++ (y1.1.weights Tryd.prog 9 ++ (y2.1.weights Tryd.prog 23 ++ (y3.1.weights Tryd.prog 24 ++ (y4.1.weights Tryd.prog 25 ++ [])))) := by
      simp [DataW.weights, Tryd.underlying27, DataW.weightsEach]
    rw [hy, hwt] at hw
    have hw1 : ∀ m ∈ y1.1.weights Tryd.prog 9, m ≤ reachBytes := fun m hm => hw m (by simp [hm])
    have hw2 : ∀ m ∈ y2.1.weights Tryd.prog 23, m ≤ reachBytes := fun m hm => hw m (by simp [hm])
    have hw3 : ∀ m ∈ y3.1.weights Tryd.prog 24, m ≤ reachBytes := fun m hm => hw m (by simp [hm])
    have hw4 : ∀ m ∈ y4.1.weights Tryd.prog 25, m ≤ reachBytes := fun m hm => hw m (by simp [hm])
    match cs, hl, g0, g1, g2, g3, g4 with
    | [v0, v1, v2, v3, v4, v5], _, g0, g1, g2, g3, g4 =>
      simp [Tryd.cells4, Tryd.cells9, Tryd.cells23, Tryd.cells24, Tryd.cells25] at g0 g1 g2 g3 g4
      obtain ⟨b0, e0, _⟩ := DataW.trod_bool Tryd.underlying4 g0
      obtain ⟨s1, e1, w1, _⟩ := DataW.trod_string Tryd.underlying9 g1
      obtain ⟨z0, z1, k2, hE, _, f0, f1⟩ := trod_struct2 Tryd.underlying23 g2
      simp [Tryd.cells9] at f0 f1
      obtain ⟨s2, e2, w2, _⟩ := DataW.trod_string Tryd.underlying9 f0
      obtain ⟨s3, e3, w3, _⟩ := DataW.trod_string Tryd.underlying9 f1
      obtain ⟨Aa, na, ca, ats, rfl, TA, LA, MA⟩ := open_ats3 g3 hw3
      simp only [List.cons.injEq, and_true] at e0 e1 e2 e3
      subst e0 e1 e2 e3
      have l1 : s1.size ≤ LimS := lim_of (hw1 _ (by rw [w1]; simp [DataW.weights]))
      have hd2 : y2.1 = .agg [.lit (.string s2.data.toList), .lit (.string s3.data.toList)] := by
        rw [hE, w2, w3]
      rw [hd2] at hw2
      have hwt2 : (DataW.agg [.lit (.string s2.data.toList), .lit (.string s3.data.toList)] : DataW H).weights Tryd.prog 23 = [s2.data.toList.length, s3.data.toList.length] := by
        simp [DataW.weights, Tryd.underlying23, DataW.weightsEach]
      rw [hwt2] at hw2
      have l2 : s2.size ≤ LimS := lim_of (hw2 _ (by simp))
      have l3 : s3.size ≤ LimS := lim_of (hw2 _ (by simp))
      have hb5 : Rows.uptoBulk y.1 ≤ 1048576 → s1.size ≤ 1048576 ∧ s2.size ≤ 1048576 ∧ s3.size ≤ 1048576 ∧ atM ats ∧ Rows.uptoBulk y4.1 ≤ 1048576 := fun hb => by
        rw [hy] at hb
        simp only [Rows.uptoBulk, Rows.uptoBulkAll] at hb
        have w1' : Rows.uptoBulk y1.1 = s1.data.toList.length + 1 := by rw [w1]; simp only [Rows.uptoBulk]
        have w2' : Rows.uptoBulk y2.1 = (s2.data.toList.length + 1 + (s3.data.toList.length + 1 + 0)) + 1 := by rw [hd2]; simp only [Rows.uptoBulk, Rows.uptoBulkAll]
        rw [w1', w2'] at hb
        rw [Lib.size_eq s1, Lib.size_eq s2, Lib.size_eq s3]
        exact ⟨by omega, by omega, by omega, MA (by omega), by omega⟩
      rcases open_slice Tryd.underlying25 g4 with ⟨hc, _⟩ | ⟨a, len, cap, m, n, D, Pl, hc, hb, hlc, hm, hmm, hx4, hall⟩
      · obtain rfl : v5 = .slice none 0 0 := by simpa using hc
        exact ⟨⟨b0, s1, s2, s3, ats, .nil, Aa, na, ca, none, 0, 0⟩, rfl, ⟨⟨⟨lim_maxLen l1, lim_maxLen l2, lim_maxLen l3⟩, TA, TA.low, ksNil _ _⟩, ⟨l1, l2, l3, LA⟩, trivial, trivial⟩, fun hb => ⟨⟨(hb5 hb).1, (hb5 hb).2.1, (hb5 hb).2.2.1, (hb5 hb).2.2.2.1⟩, trivial, trivial⟩⟩
      · obtain rfl : v5 = .slice (some a) len cap := by simpa using hc
        simp only [if_true] at hmm
        subst hmm
        rw [Tryd.cells27] at hall
        rw [hx4] at hw4
        obtain ⟨hz, hwi⟩ := slice_sizes Tryd.underlying25 Tryd.bytes27 hw4
        unfold reachBytes at hz
        have hs4 : SizeOf.sizeOf y4.1 < N + 1 := by
          have := size_five (a := y0.1) (b := y1.1) (c := y2.1) (d := y3.1) (e := y4.1)
          rw [← hy] at this
          omega
        have st : ∀ i, i < len → ∃ x : TT, (w.cell? (a.add (i * 6)) = some (.bool x.t) ∧ w.cell? (a.add (i * 6 + 1)) = some (.string x.tx) ∧ w.cell? (a.add (i * 6 + 2)) = some (.string x.sp) ∧ w.cell? (a.add (i * 6 + 3)) = some (.string x.lo) ∧ w.cell? (a.add (i * 6 + 4)) = some (.slice x.Aa x.na x.ca) ∧ w.cell? (a.add (i * 6 + 5)) = some (.slice x.Ak x.nk x.ck)) ∧ TTok w x ∧ (Rows.uptoBulk (D i) ≤ 1048576 → (Fo.cons x.t x.tx x.sp x.lo x.ats x.ks .nil).szM) := fun i hi => by
          obtain ⟨cs', h1, h2⟩ := hall i (by omega)
          obtain ⟨_, hlen', hcell⟩ := World.cells?_some h1
          have hDi : SizeOf.sizeOf (D i) < SizeOf.sizeOf y4.1 := by
            rw [hx4]
            exact size_mem (List.mem_map.2 ⟨i, List.mem_range.2 hi, rfl⟩)
          obtain ⟨x, rfl, ok, okM⟩ := open_tr3 N (y := (D i, Pl i)) (by show SizeOf.sizeOf (D i) < N; omega) hlen' h2 (hwi i hi)
          have c0 := hcell 0 (by omega)
          have c1 := hcell 1 (by omega)
          have c2 := hcell 2 (by omega)
          have c3 := hcell 3 (by omega)
          have c4 := hcell 4 (by omega)
          have c5 := hcell 5 (by omega)
          rw [add_add] at c0 c1 c2 c3 c4 c5
          exact ⟨x, ⟨by simpa using c0, by simpa using c1, by simpa using c2, by simpa using c3, by simpa using c4, by simpa using c5⟩, ok, okM⟩
        obtain ⟨l, hll, hX⟩ := pick_list (n := len) (fun i hi => st i hi)
        have hat : ∃ b off, 0 < len → a = ⟨b, off, none⟩ ∧ b < w.heap.size := by
          by_cases h0 : 0 < len
          · obtain ⟨x, h1, _⟩ := st 0 h0
            obtain ⟨b, off, spot⟩ := a
            have hspot : spot = none := by
              have := World.cell?_spot h1.1
              simpa [Addr.add] using this
            subst hspot
            have h2 := h1.1
            rw [Addr.add_lit] at h2
            exact ⟨b, off, fun _ => ⟨rfl, Lib.lt_of_cell h2⟩⟩
          · exact ⟨0, 0, fun h => absurd h h0⟩
        obtain ⟨b, off, hao⟩ := hat
        have hks : 0 < len → KsAt (· < w.heap.size) w (foT l) b off ∧ (foT l).szs := fun h0 => by
          obtain ⟨ha, hblt⟩ := hao h0
          subst ha
          refine foT_at l off fun k x hk => ?_
          obtain ⟨⟨c0, c1, c2, c3, c4, c5⟩, ok, _⟩ := hX k x hk
          rw [Addr.add_lit] at c0 c1 c2 c3 c4 c5
          exact ⟨⟨c0, by rw [Nat.add_assoc]; exact c1, by rw [Nat.add_assoc]; exact c2, by rw [Nat.add_assoc]; exact c3, by rw [Nat.add_assoc]; exact c4, by rw [Nat.add_assoc]; exact c5⟩, ok⟩
        have hsz : (foT l).szs := by
          by_cases h0 : 0 < len
          · exact (hks h0).2
          · have : l = [] := List.eq_nil_of_length_eq_zero (by omega)
            rw [this]
            trivial
        exact ⟨⟨b0, s1, s2, s3, ats, foT l, Aa, na, ca, some a, len, m⟩, rfl, ⟨⟨⟨lim_maxLen l1, lim_maxLen l2, lim_maxLen l3⟩, TA, TA.low, (show len = (foT l).len by rw [foT_len, hll]), (show len ≤ 4398046511104 by omega), hlc, hm, (fun h => by cases h), fun h0 => ⟨b, off, by rw [(hao h0).1], (hao h0).2, (hao h0).2, (hks h0).1⟩⟩, ⟨l1, l2, l3, LA⟩, hsz, trivial⟩, fun hb => ⟨⟨(hb5 hb).1, (hb5 hb).2.1, (hb5 hb).2.2.1, (hb5 hb).2.2.2.1⟩, foT_szM l (fun k x hk => (hX k x hk).2.2 (Nat.le_trans (bulk_mem (l := (List.range len).map D) (List.mem_map.2 ⟨k, List.mem_range.2 (by rw [← hll]; exact (List.getElem?_eq_some_iff.1 hk).1), rfl⟩)) (by
          have h5 := (hb5 hb).2.2.2.2
          rw [hx4] at h5
          exact Nat.le_trans (bulk_slice _ _) h5))), trivial⟩⟩
set_option maxRecDepth 100000 in
/-- A tree, by value. -/
theorem open_tree3 {H : Type} {enc : TypeId × Value → H} {w : World} {r : Reach} {b0 : Nat} {v : Value} {d : DataW H} {p : List MemPlace} (hv : Value.okWide Tryd.prog w r b0 27 v) (h : DataW.Trod enc Tryd.prog w 0 (fun _ => true) true 27 v d p) (hw : ∀ m ∈ d.weights Tryd.prog 27, m ≤ reachBytes) :
    ∃ x : TT, v = .agg #[.bool x.t, .string x.tx, .string x.sp, .string x.lo, .slice x.Aa x.na x.ca, .slice x.Ak x.nk x.ck] ∧ TTok w x ∧ (Rows.uptoBulk d ≤ 1048576 → (Fo.cons x.t x.tx x.sp x.lo x.ats x.ks .nil).szM) := by
  obtain ⟨cs, rfl, hsz⟩ := okWide_struct Tryd.underlying27 hv
  obtain ⟨fuel, hf⟩ := h
  obtain ⟨l⟩ := cs
  have hf' : DataW.trod enc Tryd.prog w 0 (fun _ => true) true fuel 27 l = some (d, p) := hf
  obtain ⟨x, rfl, ok, okM⟩ := open_tr3 (SizeOf.sizeOf d + 1) (y := (d, p)) (Nat.lt_succ_self _) (by have := hsz.trans Tryd.cells27; simpa using this) hf' hw
  exact ⟨x, rfl, ok, okM⟩
end Go.Proofs.YtjboglpnpgghiaaDoor.Ev

/- What the rows' listed variables give; a world in which they are so. -/
set_option linter.unusedSimpArgs false
set_option linter.unusedVariables false
namespace Go.Proofs.YtjboglpnpgghiaaDoor.Ev
open Go.ChangeShapes Go.WideShapes Go.ChangeAt Go.RowKit

theorem gTab : Tryd.prog.globalNamed TbN = some 0 := by kernel_rfl
theorem gTabType : (Tryd.prog.globals[0]?).map (·.type) = some 106 := by kernel_rfl
theorem Tryd.cells106 : Tryd.prog.cellsOf 106 = 20 := by kernel_rfl
theorem Tryd.cells99 : Tryd.prog.cellsOf 99 = 1 := by kernel_rfl
theorem of_laid {W : World} (h : laidMetH Tryd.prog Rows.seriPrintsRow.laid W) : TbI W := by
  rw [MakeChecks.laidMetH_plain _ _ _ (by kernel_rfl)] at h
  have h2 : laidMet Tryd.prog [(TbN, Lib.tabData .u64 Lib.pow10Tab)] W := (laidMet.tail (laidMet.tail h))
  exact Lib.tabIs_of_head (rest := []) gTab gTabType Tryd.underlying106 Tryd.underlying99 Tryd.cells99 Tryd.cells106 h2
noncomputable def laidW (os : Os) : World := World.laidAll Tryd.prog os Rows.seriPrintsRow.laid
theorem laid_met (os : Os) (args : Array Value) : laidMetH Tryd.prog Rows.seriPrintsRow.laid ((laidW os).forCall (fun _ _ => 0) ⟨#[], args, []⟩).memory := by
  rw [MakeChecks.laidMetH_plain _ _ _ (by kernel_rfl)]
  exact laidMet_laidAll _ (by kernel_rfl) (by kernel_rfl)
end Go.Proofs.YtjboglpnpgghiaaDoor.Ev

/- SeriParts, over the contracts. -/
set_option linter.unusedVariables false
set_option linter.unusedSimpArgs false
namespace Go.Proofs.YtjboglpnpgghiaaDoor.Ev
open Go.RowKit

theorem str_txB (f : Fo) (d : ByteArray) : byts (strOfNums (txB f d)) = txB f d := byts_strB (byt_txB f d)
set_option maxHeartbeats 8000000 in
set_option maxRecDepth 100000 in
theorem parts_law (t : Bool) (tx sp lo : ByteArray) (ats : List P3) (ks : Fo) (Aa : Option Addr) (na ca : Nat) (Ak : Option Addr) (nk ck : Nat) (w : World) (T : Tr1 (· < w.heap.size) w tx sp lo ats ks Aa na ca Ak nk ck) (hM : (Fo.cons t tx sp lo ats ks .nil).szM) (hT : TbI w) :
    Calls Tryd.prog 4 #[.agg #[.bool t, .string tx, .string sp, .string lo, .slice Aa na ca, .slice Ak nk ck]] w fun e w' => e = .returned (.bool true) ∧ Below w.heap.size w w' := by
  have HAw : Hid (∀ W, Below w.heap.size w W → Calls Tryd.prog 6 #[] W fun e w' => e = .returned (.bool true) ∧ Below W.heap.size W w') := Lib.hid fun W hW => awake_any W (hT.keep hW)
  have HTb := Lib.hid hT
  have HM := Lib.hid hM
  have HNL := Lib.hid T.ks.1
  have hnk := T.ks.2.1
  have X0 : Hid (TbX w t tx sp lo ats ks Aa na ca Ak nk ck w.heap.size (w.alloc (.cells #[.bool t, .string tx, .string sp, .string lo, .slice Aa na ca, .slice Ak nk ck] 27))) := Lib.hid (TbX.mk' (Below.refl _ _) T)
  clear T hM hT
  go_enter Tryd.func4, Tryd.ntmps4
  go_upto_region 1 with fail
  generalize w.alloc (.cells #[.bool t, .string tx, .string sp, .string lo, .slice Aa na ca, .slice Ak nk ck] 27) = W0 at *
  have C0 := Lib.hid (HAw.out W0 X0.out.bel)
  go_wp2_with fail
  refine C0.out.mono ?_
  rintro e w1 ⟨rfl, b1⟩
  have X1 := Lib.hid (X0.out.keep b1)
  clear b1 X0 C0
  obtain ⟨d0, d1, d2, d3, d4, d5⟩ := X1.out.s6
  have CF := Lib.hid (lfew_any t tx sp lo ats ks Aa na ca Ak nk ck w1 X1.out.tr)
  go_wp2_with fail
  refine CF.out.mono ?_
  rintro e w2 ⟨bf, rfl, hf, b2⟩
  have X2 := Lib.hid (X1.out.keep b2)
  clear b2 CF X1 d0 d1 d2 d3 d4 d5
  obtain ⟨d0, d1, d2, d3, d4, d5⟩ := X2.out.s6
  have C2 := Lib.hid (HAw.out w2 X2.out.bel)
  cases bf with
  | false =>
    clear hf
    go_wp2_with fail
    refine C2.out.mono ?_
    rintro e w3 ⟨rfl, b3⟩
    have X3 := Lib.hid (X2.out.keep b3)
    clear b3
    go_wp2
    go_ret
    exact ⟨rfl, X3.out.bel⟩
  | true =>
    cases t with
    | true =>
      clear hf
      go_wp2_with fail
      refine C2.out.mono ?_
      rintro e w3 ⟨rfl, b3⟩
      have X3 := Lib.hid (X2.out.keep b3)
      clear b3
      go_wp2
      go_ret
      exact ⟨rfl, X3.out.bel⟩
    | false =>
      rcases Classical.em (nk = 0) with h0 | h0
      · have g0 : ((nk : Int) == 0) = true := by simpa using h0
        clear hf h0
        go_wp2_with fail
        refine C2.out.mono ?_
        rintro e w3 ⟨rfl, b3⟩
        have X3 := Lib.hid (X2.out.keep b3)
        clear b3
        go_wp2
        go_ret
        exact ⟨rfl, X3.out.bel⟩
      · have hk0 : ¬ ks.len = 0 := by rw [← HNL.out]; exact h0
        have g0 : ((nk : Int) == 0) = false := by simpa using h0
        have HF := Lib.hid (hf rfl)
        have hPr : PrOk (Fo.cons false tx sp lo ats ks .nil) emB := HF.out.pr HM.out (by decide)
        have HPr := Lib.hid hPr
        have hMb : (Fo.cons false tx sp lo ats .nil .nil).szM := ⟨HM.out.1, trivial, trivial⟩
        have hab : (Fo.cons false tx sp lo ats .nil .nil).atN := ⟨fun h => ⟨(hPr.atN.1 h).1, trivial⟩, trivial⟩
        have hPb : PrOk (Fo.cons false tx sp lo ats .nil .nil) emB := ⟨hMb, hab, by decide, by
          have h := txB_len (Fo.cons false tx sp lo ats .nil .nil) emB hMb hab
          rw [show (Fo.cons false tx sp lo ats .nil .nil).siz = 1 from rfl] at h
          exact Nat.le_trans h (by decide +kernel)⟩
        have HTX : Hid (txB (Fo.cons false tx sp lo ats ks .nil) emB = hdB sp lo emB ats ++ [62] ++ txB ks (dfS sp emB) ++ [60, 47] ++ nmB sp lo ++ [62]) := Lib.hid (txB_full _ _ _ _ _ _ hk0)
        have HTB : Hid (txB (Fo.cons false tx sp lo ats .nil .nil) emB = hdB sp lo emB ats ++ [47, 62]) := Lib.hid (txB_empty _ _ _ _ _ _ rfl)
        have hlen : (hdB sp lo emB ats).length + 1 + (txB ks (dfS sp emB)).length + 2 + (nmB sp lo).length + 1 ≤ 17592186044416 := by
          have := hPr.lim
          rw [HTX.out] at this
          simp only [List.length_append, List.length_cons, List.length_nil] at this
          omega
        have HLen := Lib.hid hlen
        have hlo : lo.size ≤ 1048576 := HM.out.1.2.2.1
        have C10b : Hid (∀ W, TbX w false tx sp lo ats ks Aa na ca Ak nk ck w.heap.size W → Calls Tryd.prog 10 #[.agg #[.bool false, .string tx, .string sp, .string lo, .slice Aa na ca, .slice none 0 0]] W fun e w' => e = .returned (.string (strOfNums (hdB sp lo emB ats ++ [47, 62]))) ∧ Below W.heap.size W w') := Lib.hid fun W hX => by
          rw [← HTB.out]
          exact print_any false tx sp lo ats .nil Aa na ca none 0 0 W ⟨hX.tr.sz, hX.tr.at_, hX.tr.ap, ksNil _ _⟩ hPb (HTb.out.keep hX.bel)
        have C10 : Hid (∀ W, TbX w false tx sp lo ats ks Aa na ca Ak nk ck w.heap.size W → Calls Tryd.prog 10 #[.agg #[.bool false, .string tx, .string sp, .string lo, .slice Aa na ca, .slice Ak nk ck]] W fun e w' => e = .returned (.string (strOfNums (txB (Fo.cons false tx sp lo ats ks .nil) emB))) ∧ Below W.heap.size W w') := Lib.hid fun W hX => print_any false tx sp lo ats ks Aa na ca Ak nk ck W hX.tr HPr.out (HTb.out.keep hX.bel)
        have CK : Hid (∀ (D : ByteArray) (u : Bool) (ux us ul : ByteArray) (ua : List P3) (uk : Fo) (u1 : Option Addr) (u2 u3 : Nat) (u4 : Option Addr) (u5 u6 k : Nat) W, D = dfS sp emB → k < nk → ks.drop k = .cons u ux us ul ua uk (ks.drop (k + 1)) → Tr1 (· < W.heap.size) W ux us ul ua uk u1 u2 u3 u4 u5 u6 → TbI W →
            Calls Tryd.prog 8 #[.agg #[.bool u, .string ux, .string us, .string ul, .slice u1 u2 u3, .slice u4 u5 u6], .string D] W fun e w' => (∃ S, e = .returned (.string S) ∧ txB (ks.take (k + 1)) (dfS sp emB) = txB (ks.take k) (dfS sp emB) ++ byts S ∧ (txB (ks.take (k + 1)) (dfS sp emB)).length ≤ (txB ks (dfS sp emB)).length) ∧ Below W.heap.size W w') := Lib.hid fun D u ux us ul ua uk u1 u2 u3 u4 u5 u6 k W hD hk ed hX hTW => by
          have hk2 : k < ks.len := by rw [← HNL.out]; exact hk
          obtain ⟨m1, m2⟩ := szM_kid HM.out.2.1 (HPr.out.atN.1 rfl).2 ed
          obtain ⟨t1, t2⟩ := tx_take hk2 ed (dfS sp emB)
          have hds : (dfS sp emB).size ≤ 1048576 := by
            unfold dfS
            split
            · decide
            · exact HM.out.1.2.1
          rw [hD]
          have hl2 : (txB (Fo.cons u ux us ul ua uk .nil) (dfS sp emB)).length ≤ 17592186044416 := by
            rw [t1, List.length_append] at t2
            have := HLen.out
            omega
          refine (within_any u ux us ul ua uk u1 u2 u3 u4 u5 u6 (dfS sp emB) W hX ⟨m1, m2, hds, hl2⟩ hTW).mono fun e w' ⟨h1, h2⟩ => ⟨⟨_, h1, ?_, t2⟩, h2⟩
          rw [t1, str_txB]
        have HBy : Hid (byts (strOfNums (hdB sp lo emB ats ++ [47, 62])) = hdB sp lo emB ats ++ [47, 62]) := Lib.hid (by rw [← HTB.out]; exact str_txB _ _)
        have hOz : (strOfNums (hdB sp lo emB ats ++ [47, 62])).size = (hdB sp lo emB ats).length + 2 := by rw [← byts_len, HBy.out, List.length_append]; rfl
        have HOz := Lib.hid hOz
        have X : Hid (TbX w false tx sp lo ats ks Aa na ca Ak nk ck w.heap.size (w2.alloc (.cells #[.bool false, .string tx, .string sp, .string lo, .slice Aa na ca, .slice none 0 0] 27))) := Lib.hid (X2.out.keep ((Below.refl _ w2).alloc (Nat.le_refl _) _))
        have HK := Lib.hid (nblk w2 27 #[.bool false, .string tx, .string sp, .string lo, .slice Aa na ca, .slice none 0 0])
        clear hf h0 hPr hPb hMb hab C2 X2 HAw hOz hk0
        obtain ⟨O, hO⟩ : ∃ O, O = strOfNums (hdB sp lo emB ats ++ [47, 62]) := ⟨_, rfl⟩
        rw [← hO] at HOz HBy C10b
        clear hO
        have z2 : 2 ≤ O.size := by rw [HOz.out]; omega
        have z3 : O.size ≤ 17592186044416 := by rw [HOz.out]; omega
        have c1 : (0 : Int) ≤ (O.size : Int) - 2 := by omega
        have c2 : (O.size : Int) - 2 ≤ (O.size : Int) := by omega
        have q1 : IntKind.i64.wrap ((O.size : Int) - 2) = (O.size : Int) - 2 := IntWalk.i64_in _ (by omega)
        have q2 : ((O.size : Int) - 2).toNat = O.size - 2 := by omega
        have HQ : Hid (byts (O.extract 0 (O.size - 2) ++ ⟨#[62]⟩) = hdB sp lo emB ats ++ [62]) := Lib.hid (by
          rw [byts_cat, byts_extract, List.drop_zero, HBy.out, HOz.out, Nat.add_sub_cancel, List.take_left']
          · rfl
          · rfl)
        have hxz : (O.extract 0 (O.size - 2)).size ≤ 17592186044416 := by
          rw [← byts_len, byts_extract, List.drop_zero, List.length_take, byts_len]
          omega
        go_upto_region 5 with fail
        generalize w2.alloc (.cells #[.bool false, .string tx, .string sp, .string lo, .slice Aa na ca, .slice none 0 0] 27) = V at *
        have CB := Lib.hid (C10b.out V X.out)
        clear d0 d1 d2 d3 d4 d5
        obtain ⟨e0, e1, e2, e3, e4, e5⟩ := cells6 HK.out
        go_wp2_with fail
        refine CB.out.mono ?_
        rintro e w3 ⟨rfl, b3⟩
        replace X := Lib.hid (X.out.keep b3)
        clear b3 CB C10b HK e0 e1 e2 e3 e4 e5
        obtain ⟨d0, d1, d2, d3, d4, d5⟩ := X.out.s6
        have hS0 : (O.extract 0 (O.size - 2) ++ ⟨#[62]⟩ : ByteArray).size ≤ 17592186044416 := by
          rw [← byts_len, HQ.out, List.length_append]
          have := HLen.out
          show _ + 1 ≤ _
          omega
        have HS0 : Hid (byts (O.extract 0 (O.size - 2) ++ ⟨#[62]⟩) = hdB sp lo emB ats ++ [62] ++ txB (ks.take 0) (dfS sp emB)) := Lib.hid (by
          rw [show (ks.take 0) = Fo.nil by cases ks <;> rfl, HQ.out]
          exact (List.append_nil _).symm)
        have K := spK sp
        rcases Classical.em (sp = xmlB) with hx | hx
        · rw [decide_eq_true hx, decide_eq_false (p := sp = emB) (by rw [hx]; decide)] at K
          have HN : Hid (byts (⟨#[120, 109, 108, 58]⟩ ++ lo) = nmB sp lo) := Lib.hid (by rw [byts_cat]; unfold nmB; rw [if_pos hx]; rfl)
          have HD : Hid ((⟨#[]⟩ : ByteArray) = dfS sp emB) := Lib.hid (by unfold dfS; rw [if_pos hx]; rfl)
          have x1 := K.x1
          have nz : 4 + lo.size ≤ 1048580 := by omega
          have nz2 : (⟨#[120, 109, 108, 58]⟩ ++ lo : ByteArray).size ≤ 1048580 := by rw [size_cat]; exact nz
          have HE : Hid (∀ S : ByteArray, byts S = hdB sp lo emB ats ++ [62] ++ txB (ks.take nk) (dfS sp emB) → (strOfNums (txB (Fo.cons false tx sp lo ats ks .nil) emB)).toList == (((S ++ ⟨#[60, 47]⟩) ++ (⟨#[120, 109, 108, 58]⟩ ++ lo)) ++ ⟨#[62]⟩ : ByteArray).toList ∧ S.size + 2 + ((⟨#[120, 109, 108, 58]⟩ ++ lo)).size + 1 ≤ 17592186044416) := Lib.hid fun S hS => by
            rw [HNL.out, take_full] at hS
            refine ⟨eq_yes (byts_inj ?_), ?_⟩
            · rw [str_txB, HTX.out, byts_cat, byts_cat, byts_cat, HN.out, hS, show byts (⟨#[60, 47]⟩ : ByteArray) = [60, 47] from rfl, show byts (⟨#[62]⟩ : ByteArray) = [62] from rfl]
            · rw [← byts_len S, hS, ← byts_len ((⟨#[120, 109, 108, 58]⟩ ++ lo)), HN.out]
              simp only [List.length_append, List.length_cons, List.length_nil]
              have := HLen.out
              omega
          clear K hx
          go_wp2_with fail
          clear d0 d1 d2 d3 d4 d5
          go_loopw [4, 7] (fun v4 v7 wr => ∃ (k : Nat) (S : ByteArray), v4 = .string S ∧ v7 = .int .i64 k ∧ k ≤ nk ∧ S.size ≤ 17592186044416 ∧ Hid (byts S = hdB sp lo emB ats ++ [62] ++ txB (ks.take k) (dfS sp emB)) ∧ Hid (TbX w false tx sp lo ats ks Aa na ca Ak nk ck w.heap.size wr)) (fun _ i _ => nk - (intOf i).toNat)
          case atStart => exact ⟨0, _, rfl, rfl, Nat.zero_le _, hS0, HS0, X⟩
          case round =>
            clear X HS0 hS0
            obtain ⟨k, S, rfl, rfl, hk, hSz, HS, X⟩ := hrel
            obtain ⟨d0, d1, d2, d3, d4, d5⟩ := X.out.s6
            by_cases hlt : k < nk
            · have g1 : (k : Int) < (nk : Int) := by omega
              have g2 : (0 : Int) ≤ (k : Int) := by omega
              obtain ⟨u, ux, us, ul, ua, uk, b1, o1, u1, u2, u3, u4, u5, u6, ed, hAk, hb1, x6, Y⟩ := X.out.tr.ks.at_ (k := k) hlt
              subst hAk
              have C9 := Lib.hid (CK.out _ u ux us ul ua uk u1 u2 u3 u4 u5 u6 k wr HD.out hlt ed Y (HTb.out.keep X.out.bel))
              obtain ⟨y1, y2, y3, y4, y5, y7⟩ := x6
              clear Y ed hb1
              go_wp2_with fail
              refine C9.out.mono ?_
              rintro e w8 ⟨⟨P, rfl, h8, h9⟩, b8⟩
              have HG : Hid (byts (S ++ P) = hdB sp lo emB ats ++ [62] ++ txB (ks.take (k + 1)) (dfS sp emB)) := Lib.hid (by rw [byts_cat, HS.out, h8, ← List.append_assoc])
              have hSG : (S ++ P).size ≤ 17592186044416 := by
                rw [← byts_len, HG.out]
                simp only [List.length_append, List.length_cons, List.length_nil]
                have := HLen.out
                omega
              have hsum : S.size + P.size ≤ 17592186044416 := by rw [← size_cat]; exact hSG
              have X8 := Lib.hid (X.out.keep b8)
              clear h8 h9 b8 C9 X y1 y2 y3 y4 y5 y7 d0 d1 d2 d3 d4 d5 HS
              go_wp2_with fail
              go_roundw
              case rel => exact ⟨k + 1, S ++ P, rfl, by go_num, by omega, hSG, HG, X8⟩
              case measure => simp only [intOf]; omega
            · have hke : k = nk := by omega
              have g1 : ¬ (k : Int) < (nk : Int) := by omega
              obtain ⟨hE, hz⟩ := HE.out S (by rw [← hke]; exact HS.out)
              have CP := Lib.hid (C10.out wr X.out)
              clear hke HE HS
              generalize strOfNums (txB (Fo.cons false tx sp lo ats ks .nil) emB) = R at *
              go_wp2_with fail
              refine CP.out.mono ?_
              rintro e w9 ⟨rfl, b9⟩
              have HB9 := Lib.hid (X.out.bel.trans (b9.mono X.out.bel.size))
              clear b9 CP X
              go_wp2
              go_ret
              exact ⟨rfl, HB9.out⟩
        · rw [decide_eq_false hx] at K
          have HN : Hid (byts lo = nmB sp lo) := Lib.hid (by unfold nmB; rw [if_neg hx])
          have HD : Hid (sp = dfS sp emB) := Lib.hid (by unfold dfS; rw [if_neg hx])
          have x1 := K.x1
          have HE : Hid (∀ S : ByteArray, byts S = hdB sp lo emB ats ++ [62] ++ txB (ks.take nk) (dfS sp emB) → (strOfNums (txB (Fo.cons false tx sp lo ats ks .nil) emB)).toList == (((S ++ ⟨#[60, 47]⟩) ++ lo) ++ ⟨#[62]⟩ : ByteArray).toList ∧ S.size + 2 + (lo).size + 1 ≤ 17592186044416) := Lib.hid fun S hS => by
            rw [HNL.out, take_full] at hS
            refine ⟨eq_yes (byts_inj ?_), ?_⟩
            · rw [str_txB, HTX.out, byts_cat, byts_cat, byts_cat, HN.out, hS, show byts (⟨#[60, 47]⟩ : ByteArray) = [60, 47] from rfl, show byts (⟨#[62]⟩ : ByteArray) = [62] from rfl]
            · rw [← byts_len S, hS, ← byts_len (lo), HN.out]
              simp only [List.length_append, List.length_cons, List.length_nil]
              have := HLen.out
              omega
          clear K hx
          go_wp2_with fail
          clear d0 d1 d2 d3 d4 d5
          go_loopw [4, 7] (fun v4 v7 wr => ∃ (k : Nat) (S : ByteArray), v4 = .string S ∧ v7 = .int .i64 k ∧ k ≤ nk ∧ S.size ≤ 17592186044416 ∧ Hid (byts S = hdB sp lo emB ats ++ [62] ++ txB (ks.take k) (dfS sp emB)) ∧ Hid (TbX w false tx sp lo ats ks Aa na ca Ak nk ck w.heap.size wr)) (fun _ i _ => nk - (intOf i).toNat)
          case atStart => exact ⟨0, _, rfl, rfl, Nat.zero_le _, hS0, HS0, X⟩
          case round =>
            clear X HS0 hS0
            obtain ⟨k, S, rfl, rfl, hk, hSz, HS, X⟩ := hrel
            obtain ⟨d0, d1, d2, d3, d4, d5⟩ := X.out.s6
            by_cases hlt : k < nk
            · have g1 : (k : Int) < (nk : Int) := by omega
              have g2 : (0 : Int) ≤ (k : Int) := by omega
              obtain ⟨u, ux, us, ul, ua, uk, b1, o1, u1, u2, u3, u4, u5, u6, ed, hAk, hb1, x6, Y⟩ := X.out.tr.ks.at_ (k := k) hlt
              subst hAk
              have C9 := Lib.hid (CK.out _ u ux us ul ua uk u1 u2 u3 u4 u5 u6 k wr HD.out hlt ed Y (HTb.out.keep X.out.bel))
              obtain ⟨y1, y2, y3, y4, y5, y7⟩ := x6
              clear Y ed hb1
              go_wp2_with fail
              refine C9.out.mono ?_
              rintro e w8 ⟨⟨P, rfl, h8, h9⟩, b8⟩
              have HG : Hid (byts (S ++ P) = hdB sp lo emB ats ++ [62] ++ txB (ks.take (k + 1)) (dfS sp emB)) := Lib.hid (by rw [byts_cat, HS.out, h8, ← List.append_assoc])
              have hSG : (S ++ P).size ≤ 17592186044416 := by
                rw [← byts_len, HG.out]
                simp only [List.length_append, List.length_cons, List.length_nil]
                have := HLen.out
                omega
              have hsum : S.size + P.size ≤ 17592186044416 := by rw [← size_cat]; exact hSG
              have X8 := Lib.hid (X.out.keep b8)
              clear h8 h9 b8 C9 X y1 y2 y3 y4 y5 y7 d0 d1 d2 d3 d4 d5 HS
              go_wp2_with fail
              go_roundw
              case rel => exact ⟨k + 1, S ++ P, rfl, by go_num, by omega, hSG, HG, X8⟩
              case measure => simp only [intOf]; omega
            · have hke : k = nk := by omega
              have g1 : ¬ (k : Int) < (nk : Int) := by omega
              obtain ⟨hE, hz⟩ := HE.out S (by rw [← hke]; exact HS.out)
              have CP := Lib.hid (C10.out wr X.out)
              clear hke HE HS
              generalize strOfNums (txB (Fo.cons false tx sp lo ats ks .nil) emB) = R at *
              go_wp2_with fail
              refine CP.out.mono ?_
              rintro e w9 ⟨rfl, b9⟩
              have HB9 := Lib.hid (X.out.bel.trans (b9.mono X.out.bel.size))
              clear b9 CP X
              go_wp2
              go_ret
              exact ⟨rfl, HB9.out⟩
end Go.Proofs.YtjboglpnpgghiaaDoor.Ev
