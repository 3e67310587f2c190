/-
  Merged by program out of the texts Cut, RefRune, RefAll, CRef, BMath, TgR4, EvInst of one seat.
-/
import Derived.Test.YtjboglpnpgghiaaDoorG08
import Derived.Test.YtjboglpnpgghiaaDoorG07
import Derived.Test.YtjboglpnpgghiaaDoorG02
import Derived.Test.YtjboglpnpgghiaaDoorG01

/- The walk of the document's cut. -/
set_option linter.unusedSimpArgs false
set_option linter.unusedVariables false
namespace Go.Proofs.YtjboglpnpgghiaaDoor
open Go.RowKit

set_option maxHeartbeats 8000000 in
set_option maxRecDepth 100000 in
theorem cut_any (s : ByteArray) (a : Nat) (F : List Int) (w : World) (hs : s.size ≤ 10000) (hF : F = (byts s).drop a) (h1 : 1 ≤ F.length) (h3 : F.length ≤ 3) :
    Calls Tryd.prog 65 #[.string s, .int .i64 a] w (CutPost F w) := by
  obtain ⟨n, hn⟩ : ∃ n, n = F.length := ⟨_, rfl⟩
  have hlen : n = s.size - a := by rw [hn, hF, List.length_drop, byts_len]
  have hE : byts (s.extract a s.size) = F := by rw [byts_extract, List.take_of_length_le (by rw [byts_len]; exact Nat.le_refl _), hF]
  have hz : (s.extract a s.size).size = n := by rw [← byts_len, hE, hn]
  have HN := Lib.hid hn
  have HL := Lib.hid hlen
  have HE := Lib.hid hE
  have HF := Lib.hid hF
  have HZ := Lib.hid hz
  have g1 : 1 ≤ n := by omega
  have g3 : n ≤ 3 := by omega
  have ha : a + n ≤ s.size := by omega
  have ha2 : s.size ≤ a + n := by omega
  have gn1 : n ≤ F.length := by omega
  have gn2 : F.length ≤ n := by omega
  clear hn hlen hE hF hz h1 h3
  have t1 : decide ((s.size : Int) - (a : Int) < 1) = false := by simp; omega
  have t2 : decide ((3 : Int) < (s.size : Int) - (a : Int)) = false := by simp; omega
  go_enter Tryd.func65, Tryd.ntmps65
  go_wp2_with fail
  go_loopw [6] (fun t wr => CutRel F w t wr) (fun t _ => 5 - (intOf t).toNat)
  case atStart => exact ⟨n + 1, by omega, by omega, by first | go_num | (congr 1; omega), fun j h1 h2 => by omega, Below.refl _ _⟩
  case round =>
    obtain ⟨t, ht1, ht5, rfl, hno, hbel⟩ := hrel
    have HNO := Lib.hid hno
    clear hno
    by_cases h4 : t ≤ 4
    · have t4 : decide ((t : Int) ≤ 4) = true := by simp; omega
      go_wp2_with fail
      generalize s.extract a s.size = E at *
      go_loop [8, 9] (fun l h => LowRel F t l h) (fun l _ => t - (match l with | .string q => q.size | _ => 0))
      case atStart => exact ⟨0, E, E, by omega, rfl, rfl, by rw [HE.out]; simp, by rw [HE.out]; simp⟩
      case round =>
        obtain ⟨j, lo, hi, hj, rfl, rfl, hlo, hhi⟩ := hrel
        have hls : lo.size = F.length + j := by rw [← byts_len, hlo]; simp
        have hhs : hi.size = F.length + j := by rw [← byts_len, hhi]; simp
        by_cases hlt : F.length + j < t
        · have tl : decide (lo.size < t) = true := by simp; omega
          have hb1 : lo.size ≤ 10000 := by omega
          have hb2 : hi.size ≤ 10000 := by omega
          have HLo := Lib.hid hlo
          have HHi := Lib.hid hhi
          have HLs := Lib.hid hls
          clear hlo hhi hls hhs
          go_wp2
          go_round
          case rel =>
            refine ⟨j + 1, _, _, by omega, rfl, rfl, ?_, ?_⟩
            · rw [byts_app, HLo.out, ← rep_snoc, List.append_assoc]; rfl
            · rw [byts_app, HHi.out, ← rep_snoc, List.append_assoc]; rfl
          case measure =>
            have e1 : (lo ++ (⟨#[128]⟩ : ByteArray)).size = lo.size + 1 := by rw [← byts_len, byts_app, List.length_append, byts_len]; rfl
            have := HLs.out
            show t - (lo ++ (⟨#[128]⟩ : ByteArray)).size < t - lo.size
            omega
        · have tl : decide (lo.size < t) = false := by simp; omega
          have ej : j = t - F.length := by omega
          subst ej
          have hv1 := value_zero lo t wr (by omega) (by omega) (by omega) h4
          have hv2 := value_zero hi t wr (by omega) (by omega) (by omega) h4
          have vb1 := valG_bd (bt lo) t (fun k => bt_lo lo k) (fun k => bt_hi lo k) t h4
          have vb2 := valG_bd (bt hi) t (fun k => bt_lo hi k) (fun k => bt_hi hi k) t h4
          rw [val_bt, hlo] at hv1 vb1
          rw [val_bt, hhi] at hv2 vb2
          have hhl := hi_lo F t (by omega) ht1 h4
          unfold hiV loV at hhl
          have HRK := Lib.hid (show ∀ k, rK F t k = valL (F ++ List.replicate (t - F.length) 128) t + stp (t - F.length) * k from fun k => rfl)
          generalize valL (F ++ List.replicate (t - F.length) 128) t = av at *
          generalize valL (F ++ List.replicate (t - F.length) 191) t = bv at *
          have HV1 := Lib.hid hv1
          have HV2 := Lib.hid hv2
          have HHL := Lib.hid hhl
          clear hv1 hv2 hhl hlo hhi hls hhs hj hlt
          go_wp2_with fail
          refine HV1.out.mono ?_
          rintro e w1 ⟨rfl, rfl⟩
          go_wp2_with fail
          refine HV2.out.mono ?_
          rintro e w1 ⟨rfl, rfl⟩
          clear HV1 HV2
          go_wp2_with fail
          go_loop [12, 13] (fun b i => TlRel F b i) (fun _ i => F.length - (intOf i).toNat)
          case atStart => exact ⟨1, true, Nat.le_refl _, by omega, rfl, rfl, by simp; omega⟩
          case round =>
            obtain ⟨k, c, hk1, hk2, rfl, rfl, hc⟩ := hrel
            have HC := Lib.hid hc
            clear hc
            by_cases hkl : k < F.length
            · have tk : decide ((k : Int) < (s.size : Int) - (a : Int)) = true := by simp; omega
              have hx := F_get HF.out k (by omega)
              have HX := Lib.hid hx
              clear hx
              have hi0 : (a : Int) + (k : Int) < (s.size : Int) := by omega
              have hi1 : a + k < s.size := by omega
              cases c with
              | false =>
                go_wp2
                go_round
                case rel => exact ⟨k + 1, false, by omega, by omega, by go_num, rfl, tl_step HC.out hk1 (by simp)⟩
                case measure => simp [intOf]; omega
              | true =>
                by_cases c1 : (128 : Int) ≤ (s[a + k].toNat : Int)
                · have d1 : decide ((128 : Int) ≤ (s[a + k].toNat : Int)) = true := by simpa using c1
                  by_cases c2 : (s[a + k].toNat : Int) ≤ 191
                  · have d2 : decide ((s[a + k].toNat : Int) ≤ 191) = true := by simpa using c2
                    have HD : Hid (true = true ↔ true = true ∧ 128 ≤ F.getD k 0 ∧ F.getD k 0 ≤ 191) := by rw [HX.out] at c1 c2; show _ ↔ _; simp; exact ⟨by simpa using c1, by simpa using c2⟩
                    have HR : Hid (∀ j, 1 ≤ j → j < k + 1 → 128 ≤ F.getD j 0 ∧ F.getD j 0 ≤ 191) := (tl_step HC.out hk1 HD.out).1 rfl
                    clear c1 c2 HC HD
                    go_wp2
                    go_round
                    case rel => exact ⟨k + 1, true, by omega, by omega, by go_num, rfl, ⟨fun _ => HR.out, fun _ => rfl⟩⟩
                    case measure => simp [intOf]; omega
                  · have d2 : decide ((s[a + k].toNat : Int) ≤ 191) = false := by simpa using c2
                    have HD : Hid (false = true ↔ true = true ∧ 128 ≤ F.getD k 0 ∧ F.getD k 0 ≤ 191) := by rw [HX.out] at c2; show _ ↔ _; constructor; (intro h; cases h); (intro h; exact absurd h.2.2 c2)
                    have HR : Hid (¬ ∀ j, 1 ≤ j → j < k + 1 → 128 ≤ F.getD j 0 ∧ F.getD j 0 ≤ 191) := fun h => by cases (tl_step HC.out hk1 HD.out).2 h
                    clear c1 c2 HC HD
                    go_wp2
                    go_round
                    case rel => exact ⟨k + 1, false, by omega, by omega, by go_num, rfl, ⟨(fun h => by cases h), fun h => absurd h HR.out⟩⟩
                    case measure => simp [intOf]; omega
                · have d1 : decide ((128 : Int) ≤ (s[a + k].toNat : Int)) = false := by simpa using c1
                  have HD : Hid (false = true ↔ true = true ∧ 128 ≤ F.getD k 0 ∧ F.getD k 0 ≤ 191) := by rw [HX.out] at c1; show _ ↔ _; constructor; (intro h; cases h); (intro h; exact absurd h.2.1 c1)
                  have HR : Hid (¬ ∀ j, 1 ≤ j → j < k + 1 → 128 ≤ F.getD j 0 ∧ F.getD j 0 ≤ 191) := fun h => by cases (tl_step HC.out hk1 HD.out).2 h
                  clear c1 HC HD
                  go_wp2
                  go_round
                  case rel => exact ⟨k + 1, false, by omega, by omega, by go_num, rfl, ⟨(fun h => by cases h), fun h => absurd h HR.out⟩⟩
                  case measure => simp [intOf]; omega
            · have tk : decide ((k : Int) < (s.size : Int) - (a : Int)) = false := by simp; omega
              have ht : c = true ↔ Tl F := by
                rw [HC.out]
                have : k = F.length := by omega
                rw [this]
                rfl
              have HT := Lib.hid ht
              clear HC ht
              have hx0 := F_get0 HF.out (by omega)
              have HX0 := Lib.hid hx0
              clear hx0
              have hi1 : a < s.size := by omega
              go_upto_region 20 with fail
              go_cut [14] (fun f wx => wx = wr ∧ ∃ fb : Bool, f = .bool fb ∧ (fb = true ↔ Fst F t))
              case first =>
                have htt : t = 2 ∨ t = 3 ∨ t = 4 := by omega
                rcases htt with htt | htt | htt
                · have HT2 : Hid (t = 2) := htt
                  have n2 : ((t : Int) == 2) = true := by simp; omega
                  have n3 : ((t : Int) == 3) = false := by simp; omega
                  have n4 : ((t : Int) == 4) = false := by simp; omega
                  clear htt
                  by_cases c1 : (192 : Int) ≤ (s[a].toNat : Int)
                  · have d1 : decide ((192 : Int) ≤ (s[a].toNat : Int)) = true := by simpa using c1
                    by_cases c2 : (s[a].toNat : Int) < 224
                    · have d2 : decide ((s[a].toNat : Int) < 224) = true := by simpa using c2
                      have HR : Hid (Fst F t) := by rw [HX0.out] at c1 c2; have := HT2.out; show Fst F t; unfold Fst; omega
                      clear c1 c2
                      go_wp2_with fail
                      go_meet
                      exact ⟨rfl, true, rfl, ⟨fun _ => HR.out, fun _ => rfl⟩⟩
                    · have d2 : decide ((s[a].toNat : Int) < 224) = false := by simpa using c2
                      have HR : Hid (¬ Fst F t) := by rw [HX0.out] at c1 c2; have := HT2.out; show ¬ Fst F t; unfold Fst; omega
                      clear c1 c2
                      go_wp2_with fail
                      go_meet
                      exact ⟨rfl, false, rfl, ⟨(fun h => by cases h), fun h => absurd h HR.out⟩⟩
                  · have d1 : decide ((192 : Int) ≤ (s[a].toNat : Int)) = false := by simpa using c1
                    have HR : Hid (¬ Fst F t) := by rw [HX0.out] at c1; have := HT2.out; show ¬ Fst F t; unfold Fst; omega
                    clear c1
                    go_wp2_with fail
                    go_meet
                    exact ⟨rfl, false, rfl, ⟨(fun h => by cases h), fun h => absurd h HR.out⟩⟩
                · have HT2 : Hid (t = 3) := htt
                  have n2 : ((t : Int) == 2) = false := by simp; omega
                  have n3 : ((t : Int) == 3) = true := by simp; omega
                  have n4 : ((t : Int) == 4) = false := by simp; omega
                  clear htt
                  by_cases c1 : (224 : Int) ≤ (s[a].toNat : Int)
                  · have d1 : decide ((224 : Int) ≤ (s[a].toNat : Int)) = true := by simpa using c1
                    by_cases c2 : (s[a].toNat : Int) < 240
                    · have d2 : decide ((s[a].toNat : Int) < 240) = true := by simpa using c2
                      have HR : Hid (Fst F t) := by rw [HX0.out] at c1 c2; have := HT2.out; show Fst F t; unfold Fst; omega
                      clear c1 c2
                      go_wp2_with fail
                      go_meet
                      exact ⟨rfl, true, rfl, ⟨fun _ => HR.out, fun _ => rfl⟩⟩
                    · have d2 : decide ((s[a].toNat : Int) < 240) = false := by simpa using c2
                      have HR : Hid (¬ Fst F t) := by rw [HX0.out] at c1 c2; have := HT2.out; show ¬ Fst F t; unfold Fst; omega
                      clear c1 c2
                      go_wp2_with fail
                      go_meet
                      exact ⟨rfl, false, rfl, ⟨(fun h => by cases h), fun h => absurd h HR.out⟩⟩
                  · have d1 : decide ((224 : Int) ≤ (s[a].toNat : Int)) = false := by simpa using c1
                    have HR : Hid (¬ Fst F t) := by rw [HX0.out] at c1; have := HT2.out; show ¬ Fst F t; unfold Fst; omega
                    clear c1
                    go_wp2_with fail
                    go_meet
                    exact ⟨rfl, false, rfl, ⟨(fun h => by cases h), fun h => absurd h HR.out⟩⟩
                · have HT2 : Hid (t = 4) := htt
                  have n2 : ((t : Int) == 2) = false := by simp; omega
                  have n3 : ((t : Int) == 3) = false := by simp; omega
                  have n4 : ((t : Int) == 4) = true := by simp; omega
                  clear htt
                  by_cases c1 : (240 : Int) ≤ (s[a].toNat : Int)
                  · have d1 : decide ((240 : Int) ≤ (s[a].toNat : Int)) = true := by simpa using c1
                    by_cases c2 : (s[a].toNat : Int) < 248
                    · have d2 : decide ((s[a].toNat : Int) < 248) = true := by simpa using c2
                      have HR : Hid (Fst F t) := by rw [HX0.out] at c1 c2; have := HT2.out; show Fst F t; unfold Fst; omega
                      clear c1 c2
                      go_wp2_with fail
                      go_meet
                      exact ⟨rfl, true, rfl, ⟨fun _ => HR.out, fun _ => rfl⟩⟩
                    · have d2 : decide ((s[a].toNat : Int) < 248) = false := by simpa using c2
                      have HR : Hid (¬ Fst F t) := by rw [HX0.out] at c1 c2; have := HT2.out; show ¬ Fst F t; unfold Fst; omega
                      clear c1 c2
                      go_wp2_with fail
                      go_meet
                      exact ⟨rfl, false, rfl, ⟨(fun h => by cases h), fun h => absurd h HR.out⟩⟩
                  · have d1 : decide ((240 : Int) ≤ (s[a].toNat : Int)) = false := by simpa using c1
                    have HR : Hid (¬ Fst F t) := by rw [HX0.out] at c1; have := HT2.out; show ¬ Fst F t; unfold Fst; omega
                    clear c1
                    go_wp2_with fail
                    go_meet
                    exact ⟨rfl, false, rfl, ⟨(fun h => by cases h), fun h => absurd h HR.out⟩⟩
              case rest =>
                obtain ⟨rfl, fb, rfl, hf⟩ := hcut
                have HFS := Lib.hid hf
                clear hf
                cases c with
                | false =>
                  have HNS : Hid (∀ j, F.length < j → j < t + 1 → ¬ Srch F j) := no_more HNO.out fun h => by cases HT.out.2 h.1
                  clear HNO HT HFS
                  go_wp2
                  go_roundw
                  case rel => exact ⟨t + 1, by omega, by omega, by go_num, HNS.out, hbel⟩
                  case measure => simp [intOf]; omega
                | true =>
                  cases fb with
                  | false =>
                    have HNS : Hid (∀ j, F.length < j → j < t + 1 → ¬ Srch F j) := no_more HNO.out fun h => by cases HFS.out.2 h.2.1
                    clear HNO HT HFS
                    go_wp2
                    go_roundw
                    case rel => exact ⟨t + 1, by omega, by omega, by go_num, HNS.out, hbel⟩
                    case measure => simp [intOf]; omega
                  | true =>
                    have HTL : Hid (Tl F) := HT.out.1 rfl
                    have HFT : Hid (Fst F t) := HFS.out.1 rfl
                    clear HT HFS
                    have hst := stp_bd (t - F.length)
                    have HM := Lib.hid (fun k hk => stp_mul (t - F.length) k hk)
                    generalize stp (t - F.length) = st at *
                    have hq : (bv - av) / 63 = st := by have := HHL.out; omega
                    have hd : 0 ≤ bv - av := by have := HHL.out; omega
                    go_wp2_with fail
                    go_loopw [15] (fun i wr => SrRel F t w i wr) (fun i _ => 64 - (intOf i).toNat)
                    case atStart => exact ⟨0, by omega, rfl, fun j hj => by omega, hbel⟩
                    case round =>
                      obtain ⟨k2, hk64, rfl, hmiss, hbel2⟩ := hrel
                      have HMS := Lib.hid hmiss
                      clear hmiss
                      by_cases hlt : k2 < 64
                      · have tk2 : decide ((k2 : Int) < 64) = true := by simp; omega
                        have hm := HM.out k2 (by omega)
                        obtain ⟨hm1, hm2⟩ := hm
                        have hrk := HRK.out k2
                        have HHIT := Lib.hid (show Hit F t k2 ↔ ((refPut (rK F t k2)).length = t ∧ (refPut (rK F t k2)).take F.length = F) from Iff.rfl)
                        rw [hrk] at HHIT
                        clear hrk
                        by_cases h63 : k2 = 63
                        · have t63 : ((k2 : Int) == 63) = true := by simp; omega
                          have hbk : bv = av + st * (k2 : Int) := by have := HHL.out; rw [h63]; exact this
                          rw [← hbk] at HHIT
                          clear hbk h63
                          have C1 := Lib.hid (fun W => refput_any (bv) W)
                          have hqb := refPut_nn (bv)
                          generalize refPut (bv) = q at HHIT C1 hqb
                          have HQB := Lib.hid hqb
                          clear hqb
                          go_wp2_with fail
                          refine (C1.out _).mono ?_
                          rintro e w5 ⟨p, rfl, hown5, hbel5⟩
                          obtain ⟨A5, c5, rfl, rd5⟩ := own_rd hown5
                          clear hown5 C1
                          have hb6 : Below w.heap.size w w5 := hbel2.trans (hbel5.mono hbel2.size)
                          by_cases hql : q.length = t
                          · have tq : ((q.length : Int) == (t : Int)) = true := by simp; omega
                            have hcv := conv_rd (c := c5) rd5
                            have hbs := run_bytes_of_string (P := Tryd.prog) w5 9 39 5 E Tryd.underlying9 Tryd.underlying39 Tryd.underlying5
                            have hrb := rd_bytes w5.drew E (grownCap w5 E.size 0 5) ((bytesRow E (grownCap w5 E.size 0 5)).size, (bytesRow E (grownCap w5 E.size 0 5)).size + 1)
                            rw [HE.out] at hrb
                            have hb8 : Below w.heap.size w (w5.drew.alloc (.cells (bytesRow E (grownCap w5 E.size 0 5)) 5 ((bytesRow E (grownCap w5 E.size 0 5)).size, (bytesRow E (grownCap w5 E.size 0 5)).size + 1))) := (hb6.drew).alloc hb6.size _
                            have hss : (strOfNums q).size ≤ 10000 := by rw [strOfNums_size]; omega
                            have hsq : (strOfNums q ++ (⟨#[120]⟩ : ByteArray)).size ≤ 100000 := by rw [← byts_len, byts_app, List.length_append, byts_len, strOfNums_size]; show q.length + 1 ≤ _; omega
                            have HP := Lib.hid (begP_hit q F HQB.out.1 HQB.out.2 (by omega) (by omega))
                            have heF : E.size = F.length := by have := HZ.out; have := HN.out; omega
                            have hEs : E.size ≤ 3 := by omega
                            by_cases hit : q.take F.length = F
                            · have CB := begins0 (strOfNums q ++ (⟨#[120]⟩ : ByteArray)) (some ⟨w5.heap.size, 0, none⟩) (grownCap w5 E.size 0 5) E.size F _ hrb hsq (by omega) heF true (by rw [HP.out]; simp; exact hit)
                              have HB := Lib.hid CB
                              have HY : Hid ((dec1 F).2.2 = 7) := (srch_iff F (by omega) (by omega)).1 ⟨t, ht1, h4, HTL.out, HFT.out, k2, hlt, HHIT.out.2 ⟨hql, hit⟩⟩
                              have HQ := Lib.hid hql
                              clear CB hit hql heF hrb HHIT
                              go_wp2_with (go_at_call 64; refine HB.out.mono ?_; rintro e w9 ⟨rfl, hb9⟩)
                              go_ret
                              exact ⟨true, rfl, ⟨fun _ => HY.out, fun _ => rfl⟩, hb8.trans (hb9.mono hb8.size)⟩
                            · have CB := begins0 (strOfNums q ++ (⟨#[120]⟩ : ByteArray)) (some ⟨w5.heap.size, 0, none⟩) (grownCap w5 E.size 0 5) E.size F _ hrb hsq (by omega) heF false (by rw [HP.out]; simp; exact hit)
                              have HB := Lib.hid CB
                              have HNH : Hid (∀ j, j < k2 + 1 → ¬ Hit F t j) := hit_more HMS.out fun h => hit (HHIT.out.1 h).2
                              have HQ := Lib.hid hql
                              clear CB hit hql heF hrb HHIT HMS
                              go_wp2_with (go_at_call 64; refine HB.out.mono ?_; rintro e w9 ⟨rfl, hb9⟩)
                              go_roundw
                              case rel => exact ⟨k2 + 1, by omega, by go_num, HNH.out, hb8.trans (hb9.mono hb8.size)⟩
                              case measure => simp [intOf]; omega
                          · have tq : ((q.length : Int) == (t : Int)) = false := by simp; omega
                            have HNH : Hid (∀ j, j < k2 + 1 → ¬ Hit F t j) := hit_more HMS.out fun h => hql (HHIT.out.1 h).1
                            clear hql HHIT HMS
                            go_wp2
                            go_roundw
                            case rel => exact ⟨k2 + 1, by omega, by go_num, HNH.out, hb6⟩
                            case measure => simp [intOf]; omega
                        · have t63 : ((k2 : Int) == 63) = false := by simp; omega
                          clear h63
                          have C1 := Lib.hid (fun W => refput_any (av + st * (k2 : Int)) W)
                          have hqb := refPut_nn (av + st * (k2 : Int))
                          generalize refPut (av + st * (k2 : Int)) = q at HHIT C1 hqb
                          have HQB := Lib.hid hqb
                          clear hqb
                          go_wp2_with fail
                          refine (C1.out _).mono ?_
                          rintro e w5 ⟨p, rfl, hown5, hbel5⟩
                          obtain ⟨A5, c5, rfl, rd5⟩ := own_rd hown5
                          clear hown5 C1
                          have hb6 : Below w.heap.size w w5 := hbel2.trans (hbel5.mono hbel2.size)
                          by_cases hql : q.length = t
                          · have tq : ((q.length : Int) == (t : Int)) = true := by simp; omega
                            have hcv := conv_rd (c := c5) rd5
                            have hbs := run_bytes_of_string (P := Tryd.prog) w5 9 39 5 E Tryd.underlying9 Tryd.underlying39 Tryd.underlying5
                            have hrb := rd_bytes w5.drew E (grownCap w5 E.size 0 5) ((bytesRow E (grownCap w5 E.size 0 5)).size, (bytesRow E (grownCap w5 E.size 0 5)).size + 1)
                            rw [HE.out] at hrb
                            have hb8 : Below w.heap.size w (w5.drew.alloc (.cells (bytesRow E (grownCap w5 E.size 0 5)) 5 ((bytesRow E (grownCap w5 E.size 0 5)).size, (bytesRow E (grownCap w5 E.size 0 5)).size + 1))) := (hb6.drew).alloc hb6.size _
                            have hss : (strOfNums q).size ≤ 10000 := by rw [strOfNums_size]; omega
                            have hsq : (strOfNums q ++ (⟨#[120]⟩ : ByteArray)).size ≤ 100000 := by rw [← byts_len, byts_app, List.length_append, byts_len, strOfNums_size]; show q.length + 1 ≤ _; omega
                            have HP := Lib.hid (begP_hit q F HQB.out.1 HQB.out.2 (by omega) (by omega))
                            have heF : E.size = F.length := by have := HZ.out; have := HN.out; omega
                            have hEs : E.size ≤ 3 := by omega
                            by_cases hit : q.take F.length = F
                            · have CB := begins0 (strOfNums q ++ (⟨#[120]⟩ : ByteArray)) (some ⟨w5.heap.size, 0, none⟩) (grownCap w5 E.size 0 5) E.size F _ hrb hsq (by omega) heF true (by rw [HP.out]; simp; exact hit)
                              have HB := Lib.hid CB
                              have HY : Hid ((dec1 F).2.2 = 7) := (srch_iff F (by omega) (by omega)).1 ⟨t, ht1, h4, HTL.out, HFT.out, k2, hlt, HHIT.out.2 ⟨hql, hit⟩⟩
                              have HQ := Lib.hid hql
                              clear CB hit hql heF hrb HHIT
                              go_wp2_with (go_at_call 64; refine HB.out.mono ?_; rintro e w9 ⟨rfl, hb9⟩)
                              go_ret
                              exact ⟨true, rfl, ⟨fun _ => HY.out, fun _ => rfl⟩, hb8.trans (hb9.mono hb8.size)⟩
                            · have CB := begins0 (strOfNums q ++ (⟨#[120]⟩ : ByteArray)) (some ⟨w5.heap.size, 0, none⟩) (grownCap w5 E.size 0 5) E.size F _ hrb hsq (by omega) heF false (by rw [HP.out]; simp; exact hit)
                              have HB := Lib.hid CB
                              have HNH : Hid (∀ j, j < k2 + 1 → ¬ Hit F t j) := hit_more HMS.out fun h => hit (HHIT.out.1 h).2
                              have HQ := Lib.hid hql
                              clear CB hit hql heF hrb HHIT HMS
                              go_wp2_with (go_at_call 64; refine HB.out.mono ?_; rintro e w9 ⟨rfl, hb9⟩)
                              go_roundw
                              case rel => exact ⟨k2 + 1, by omega, by go_num, HNH.out, hb8.trans (hb9.mono hb8.size)⟩
                              case measure => simp [intOf]; omega
                          · have tq : ((q.length : Int) == (t : Int)) = false := by simp; omega
                            have HNH : Hid (∀ j, j < k2 + 1 → ¬ Hit F t j) := hit_more HMS.out fun h => hql (HHIT.out.1 h).1
                            clear hql HHIT HMS
                            go_wp2
                            go_roundw
                            case rel => exact ⟨k2 + 1, by omega, by go_num, HNH.out, hb6⟩
                            case measure => simp [intOf]; omega
                      · have tk2 : decide ((k2 : Int) < 64) = false := by simp; omega
                        have HNS : Hid (∀ j, F.length < j → j < t + 1 → ¬ Srch F j) := no_more HNO.out fun ⟨_, _, k3, h3, h4⟩ => HMS.out k3 (by omega) h4
                        clear HMS
                        go_wp2
                        go_roundw
                        case rel => exact ⟨t + 1, by omega, by omega, by go_num, HNS.out, hbel2⟩
                        case measure => simp [intOf]; omega
    · have t4 : decide ((t : Int) ≤ 4) = false := by simp; omega
      have HY : Hid (¬ (dec1 F).2.2 = 7) := fun h => by
        obtain ⟨j, j1, j2, j3⟩ := (srch_iff F (by omega) (by omega)).2 h
        exact HNO.out j j1 (by omega) j3
      go_wp2
      go_ret
      exact ⟨false, rfl, ⟨(fun h => by cases h), fun h => absurd h HY.out⟩, hbel⟩
end Go.Proofs.YtjboglpnpgghiaaDoor

/- The walk of the document's Rune. -/
set_option linter.unusedSimpArgs false
set_option linter.unusedVariables false
namespace Go.Proofs.YtjboglpnpgghiaaDoor
open Go.RowKit

set_option maxHeartbeats 1000000 in
set_option maxRecDepth 100000 in
theorem cut_long (s : ByteArray) (a : Nat) (w : World) (hs : s.size ≤ 10000) (h : a + 4 ≤ s.size) :
    Calls Tryd.prog 65 #[.string s, .int .i64 a] w fun e w' => e = .returned (.bool false) ∧ Below w.heap.size w w' := by
  have t1 : decide ((s.size : Int) - (a : Int) < 1) = false := by simp; omega
  have t2 : decide ((3 : Int) < (s.size : Int) - (a : Int)) = true := by simp; omega
  go_enter Tryd.func65, Tryd.ntmps65
  go_wp2
  go_ret
  exact ⟨rfl, Below.refl _ _⟩
/-- cut, at a place within the text: is all from there on cut off? -/
theorem cut_at_any (s : ByteArray) (a : Nat) (w : World) (hs : s.size ≤ 10000) (h : a < s.size) : Calls Tryd.prog 65 #[.string s, .int .i64 a] w (CutPost ((byts s).drop a) w) := by
  have hl : ((byts s).drop a).length = s.size - a := by rw [List.length_drop, byts_len]
  by_cases h4 : s.size - a ≤ 3
  · exact cut_any s a _ w hs rfl (by omega) (by omega)
  · exact (cut_long s a w hs (by omega)).mono fun e w' ⟨h1, h2⟩ => ⟨false, h1, ⟨(fun h => by cases h), fun h => absurd h (cut_4 _ (by omega))⟩, h2⟩
theorem cut_yes (s : ByteArray) (a : Nat) (w : World) (hs : s.size ≤ 10000) (h : a < s.size) (h7 : (runeF s a).2.2 = 7) : Calls Tryd.prog 65 #[.string s, .int .i64 a] w fun e w' => e = .returned (.bool true) ∧ Below w.heap.size w w' :=
  (cut_at_any s a w hs h).mono fun e w' ⟨b, h1, h2, h3⟩ => ⟨by rw [h1, h2.2 (by rw [← runeF_dec s a h]; exact h7)], h3⟩
theorem cut_no (s : ByteArray) (a : Nat) (w : World) (hs : s.size ≤ 10000) (h : a < s.size) (h7 : (runeF s a).2.2 ≠ 7) : Calls Tryd.prog 65 #[.string s, .int .i64 a] w fun e w' => e = .returned (.bool false) ∧ Below w.heap.size w w' :=
  (cut_at_any s a w hs h).mono fun e w' ⟨b, h1, h2, h3⟩ => by
    have hb : b = false := Bool.eq_false_iff.2 fun hb => h7 (by rw [runeF_dec s a h]; exact h2.1 hb)
    exact ⟨by rw [h1, hb], h3⟩

def R3i (x : Int × Int × Int) : Value := .tuple #[.int .i64 x.1, .int .i64 x.2.1, .int .i64 x.2.2]
def RefPost (x : Int × Int × Int) (w : World) (e : Ending) (w' : World) : Prop := e = .returned (R3i x) ∧ Below w.heap.size w w'
def RefRel (L : List Int) (w : World) (i : Value) (wr : World) : Prop :=
  ∃ n : Nat, 1 ≤ n ∧ n ≤ 5 ∧ n ≤ L.length + 1 ∧ i = .int .i64 n ∧ (∀ m, 1 ≤ m → m < n → ¬ Try1 L m) ∧ Below w.heap.size w wr
theorem begP_at (s : ByteArray) (a : Nat) (q : List Int) (hq : 0 < q.length) (h : a + q.length ≤ s.size) : begP s a q ↔ ((byts s).drop a).take q.length = q := by
  have hg : ∀ j, bt s (a + j) = ((byts s).drop a).getD j 0 := fun j => by
    rw [bt_byts]
    simp [List.getD_eq_getElem?_getD, List.getElem?_drop]
  have hl : ((byts s).drop a).length = s.size - a := by rw [List.length_drop, byts_len]
  generalize (byts s).drop a = L at *
  refine ⟨fun ⟨_, _, h1⟩ => ?_, fun h1 => ⟨hq, h, fun j hj => ?_⟩⟩
  · refine List.ext_getElem (by rw [List.length_take]; omega) fun i i1 i2 => ?_
    have := h1 i i2
    rw [hg i] at this
    simp only [List.getD_eq_getElem?_getD, List.getElem?_eq_getElem i2, List.getElem?_eq_getElem (show i < L.length by omega), Option.getD_some] at this
    rw [List.getElem_take]
    exact this
  · rw [hg j]
    have := congrArg (fun l => l.getD j 0) h1
    simp only [List.getD_eq_getElem?_getD, List.getElem?_take, hj, if_true] at this ⊢
    exact this
theorem try_more {L : List Int} {n : Nat} (h : ∀ m, 1 ≤ m → m < n → ¬ Try1 L m) (hn : ¬ Try1 L n) : ∀ m, 1 ≤ m → m < n + 1 → ¬ Try1 L m := fun j j1 j2 => by
  rcases Nat.lt_or_ge j n with h' | h'
  · exact h j j1 h'
  · obtain rfl : j = n := by omega
    exact hn
/-- The value that is tried at n bytes, where it is walked. -/
theorem value_at (s : ByteArray) (a n : Nat) (h2 : 2 ≤ n) : valG (fun i => bt s (a + i)) n n = vAt ((byts s).drop a) n := by
  rw [vAt, if_neg (by omega)]
  unfold valL
  congr 1
  funext j
  rw [bt_byts]
  simp [List.getD_eq_getElem?_getD, List.getElem?_drop]
theorem err_of {L : List Int} (hl : L ≠ []) (hn : NN L) (h : ∀ m, 1 ≤ m → m ≤ 4 → m ≤ L.length → ¬ Try1 L m) : (dec1 L).2.2 ≠ 0 := fun h0 => by
  obtain ⟨n, n1, n4, nl, ht⟩ := dec_try L hl hn h0
  exact h n n1 n4 nl ht

set_option maxHeartbeats 4000000 in
set_option maxRecDepth 100000 in
theorem ref_rune_in (s : ByteArray) (a : Nat) (L : List Int) (w : World) (hs : s.size ≤ 10000) (ha : a < s.size) (hL : L = (byts s).drop a) :
    Calls Tryd.prog 55 #[.string s, .int .i64 a] w (RefPost (runeF s a) w) := by
  have hlen : L.length = s.size - a := by rw [hL, List.length_drop, byts_len]
  have hdec := runeF_dec s a ha
  rw [← hL] at hdec
  have hne : L ≠ [] := fun e => by rw [e] at hlen; simp at hlen; omega
  have hnn : NN L := by rw [hL]; exact (byts_nn s).drop a
  have hk := runeF_okay s a ha
  have HL := Lib.hid hL
  have HD := Lib.hid hdec
  have HE := Lib.hid (fun h => err_of hne hnn h)
  have HK := Lib.hid hk
  have hl1 : L.length ≤ s.size - a := by omega
  have hl2 : s.size - a ≤ L.length := by omega
  clear hlen hdec hne hnn hk hL
  have t1 : decide ((a : Int) < 0) = false := by simp
  have t2 : decide (s.size ≤ a) = false := by simp; omega
  go_enter Tryd.func55, Tryd.ntmps55
  go_wp2_with fail
  go_loopw [7] (fun i wr => RefRel L w i wr) (fun i _ => 5 - (intOf i).toNat)
  case atStart => exact ⟨1, by omega, by omega, by omega, rfl, fun m m1 m2 => by omega, Below.refl _ _⟩
  case round =>
    obtain ⟨n, hn1, hn5, hnl, rfl, hno, hbel⟩ := hrel
    have HNO := Lib.hid hno
    clear hno
    have hsz := hbel.size
    by_cases h4 : n ≤ 4
    · have t4 : decide ((n : Int) ≤ 4) = true := by simp; omega
      by_cases hfit : a + n ≤ s.size
      · have t5 : decide ((a : Int) + (n : Int) ≤ (s.size : Int)) = true := by simp; omega
        have hx := bt_eq s a ha
        have HX := Lib.hid hx
        clear hx
        by_cases hone : n = 1
        · have tgt : decide ((1 : Int) < (n : Int)) = false := by simp; omega
          have hv : ((s[a].toNat : Nat) : Int) = vAt L n := by
            rw [HX.out, bt_byts, hone, vAt, if_pos rfl, HL.out]
            simp [List.getD_eq_getElem?_getD, List.getElem?_drop]
          have HV := Lib.hid hv
          have hby : (s[a].toNat : Int) < 256 := by have := s[a].toNat_lt; omega
          clear hv hone
          go_wp2_with fail
          rw [HV.out]
          clear HV
          have HT := Lib.hid (show Try1 L n ↔ ((refPut (vAt L n)).length = n ∧ L.take n = refPut (vAt L n)) from Iff.rfl)
          have HTD := Lib.hid (fun h => try_dec L n hn1 h)
          generalize vAt L n = V at *
          have C1 := Lib.hid (fun W => refput_any V W)
          generalize refPut V = q at HT C1
          refine (C1.out _).mono ?_
          rintro e w5 ⟨p, rfl, hown5, hbel5⟩
          obtain ⟨A5, c5, rfl, rd5⟩ := own_rd hown5
          clear hown5 C1
          have hb6 : Below w.heap.size w w5 := hbel.trans (hbel5.mono hsz)
          by_cases hql : q.length = n
          · have tq : ((q.length : Int) == (n : Int)) = true := by simp; omega
            have HP := Lib.hid (begP_at s a q (by omega) (by omega))
            by_cases hit : L.take n = q
            · have CB := begins_yes s a A5 c5 q w5 rd5 (by omega) (by omega) (by omega) (by rw [HP.out, ← HL.out, hql]; exact hit)
              have HB := Lib.hid CB
              have HR : Hid (runeF s a = (V, (n : Int), 0)) := by show _ = _; rw [HD.out]; exact HTD.out (HT.out.2 ⟨hql, hit⟩)
              have HQ := Lib.hid hql
              clear CB hit hql HT HTD
              go_wp2_with (go_at_call 64; refine HB.out.mono ?_; rintro e w9 ⟨rfl, hb9⟩)
              go_ret3
              exact ⟨by rw [HR.out]; rfl, hb6.trans (hb9.mono hb6.size)⟩
            · have CB := begins_no s a A5 c5 q w5 rd5 (by omega) (by omega) (by omega) (by rw [HP.out, ← HL.out, hql]; exact hit)
              have HB := Lib.hid CB
              have HNT : Hid (∀ m, 1 ≤ m → m < n + 1 → ¬ Try1 L m) := try_more HNO.out fun h => hit (HT.out.1 h).2
              have HQ := Lib.hid hql
              clear CB hit hql HT HTD HNO
              go_wp2_with (go_at_call 64; refine HB.out.mono ?_; rintro e w9 ⟨rfl, hb9⟩)
              go_roundw
              case rel => exact ⟨n + 1, by omega, by omega, by omega, by go_num, HNT.out, hb6.trans (hb9.mono hb6.size)⟩
              case measure => simp [intOf]; omega
          · have tq : ((q.length : Int) == (n : Int)) = false := by simp; omega
            have HNT : Hid (∀ m, 1 ≤ m → m < n + 1 → ¬ Try1 L m) := try_more HNO.out fun h => hql (HT.out.1 h).1
            clear hql HT HTD HNO
            go_wp2
            go_roundw
            case rel => exact ⟨n + 1, by omega, by omega, by omega, by go_num, HNT.out, hb6⟩
            case measure => simp [intOf]; omega
        · have tgt : decide ((1 : Int) < (n : Int)) = true := by simp; omega
          have CV := value_any s a n wr (by omega) hfit (by omega) h4
          rw [value_at s a n (by omega), ← HL.out] at CV
          have HV := Lib.hid CV
          clear CV hone
          go_wp2_with fail
          refine HV.out.mono ?_
          rintro e w4 ⟨rfl, rfl⟩
          clear HV
          go_wp2_with fail
          have HT := Lib.hid (show Try1 L n ↔ ((refPut (vAt L n)).length = n ∧ L.take n = refPut (vAt L n)) from Iff.rfl)
          have HTD := Lib.hid (fun h => try_dec L n hn1 h)
          generalize vAt L n = V at *
          have C1 := Lib.hid (fun W => refput_any V W)
          generalize refPut V = q at HT C1
          refine (C1.out _).mono ?_
          rintro e w5 ⟨p, rfl, hown5, hbel5⟩
          obtain ⟨A5, c5, rfl, rd5⟩ := own_rd hown5
          clear hown5 C1
          have hb6 : Below w.heap.size w w5 := hbel.trans (hbel5.mono hsz)
          by_cases hql : q.length = n
          · have tq : ((q.length : Int) == (n : Int)) = true := by simp; omega
            have HP := Lib.hid (begP_at s a q (by omega) (by omega))
            by_cases hit : L.take n = q
            · have CB := begins_yes s a A5 c5 q w5 rd5 (by omega) (by omega) (by omega) (by rw [HP.out, ← HL.out, hql]; exact hit)
              have HB := Lib.hid CB
              have HR : Hid (runeF s a = (V, (n : Int), 0)) := by show _ = _; rw [HD.out]; exact HTD.out (HT.out.2 ⟨hql, hit⟩)
              have HQ := Lib.hid hql
              clear CB hit hql HT HTD
              go_wp2_with (go_at_call 64; refine HB.out.mono ?_; rintro e w9 ⟨rfl, hb9⟩)
              go_ret3
              exact ⟨by rw [HR.out]; rfl, hb6.trans (hb9.mono hb6.size)⟩
            · have CB := begins_no s a A5 c5 q w5 rd5 (by omega) (by omega) (by omega) (by rw [HP.out, ← HL.out, hql]; exact hit)
              have HB := Lib.hid CB
              have HNT : Hid (∀ m, 1 ≤ m → m < n + 1 → ¬ Try1 L m) := try_more HNO.out fun h => hit (HT.out.1 h).2
              have HQ := Lib.hid hql
              clear CB hit hql HT HTD HNO
              go_wp2_with (go_at_call 64; refine HB.out.mono ?_; rintro e w9 ⟨rfl, hb9⟩)
              go_roundw
              case rel => exact ⟨n + 1, by omega, by omega, by omega, by go_num, HNT.out, hb6.trans (hb9.mono hb6.size)⟩
              case measure => simp [intOf]; omega
          · have tq : ((q.length : Int) == (n : Int)) = false := by simp; omega
            have HNT : Hid (∀ m, 1 ≤ m → m < n + 1 → ¬ Try1 L m) := try_more HNO.out fun h => hql (HT.out.1 h).1
            clear hql HT HTD HNO
            go_wp2
            go_roundw
            case rel => exact ⟨n + 1, by omega, by omega, by omega, by go_num, HNT.out, hb6⟩
            case measure => simp [intOf]; omega
      · have t5 : decide ((a : Int) + (n : Int) ≤ (s.size : Int)) = false := by simp; omega
        have HR : Hid ((runeF s a).2.2 ≠ 0) := by
          show _ ≠ _
          rw [HD.out]
          exact HE.out fun m m1 m4 ml => HNO.out m m1 (by omega)
        have hk := HK.out
        have hr2 := HR.out
        clear HR HK HNO HE HD
        obtain ⟨x1, x2, x3, hx⟩ : ∃ x1 x2 x3, runeF s a = (x1, x2, x3) := ⟨_, _, _, rfl⟩
        rw [hx] at hk hr2
        unfold Okay at hk
        dsimp only at hk hr2
        have z1 : x1 = 0 := by omega
        have z2 : x2 = 0 := by omega
        have z3 : x3 = 2 ∨ x3 = 7 := by omega
        subst z1 z2
        clear hk hr2
        rcases z3 with rfl | rfl
        · have CC := cut_no s a wr hs ha (by rw [hx]; simp)
          have HC := Lib.hid CC
          have HXX := Lib.hid hx
          clear CC hx
          go_wp2_with (go_at_call 65; refine HC.out.mono ?_; rintro e w9 ⟨rfl, hb9⟩)
          go_ret3
          exact ⟨by rw [HXX.out]; rfl, hbel.trans (hb9.mono hsz)⟩
        · have CC := cut_yes s a wr hs ha (by rw [hx])
          have HC := Lib.hid CC
          have HXX := Lib.hid hx
          clear CC hx
          go_wp2_with (go_at_call 65; refine HC.out.mono ?_; rintro e w9 ⟨rfl, hb9⟩)
          go_ret3
          exact ⟨by rw [HXX.out]; rfl, hbel.trans (hb9.mono hsz)⟩
    · have t4 : decide ((n : Int) ≤ 4) = false := by simp; omega
      have HR : Hid ((runeF s a).2.2 ≠ 0) := by
        show _ ≠ _
        rw [HD.out]
        exact HE.out fun m m1 m4 ml => HNO.out m m1 (by omega)
      have hk := HK.out
      have hr2 := HR.out
      clear HR HK HNO HE HD
      obtain ⟨x1, x2, x3, hx⟩ : ∃ x1 x2 x3, runeF s a = (x1, x2, x3) := ⟨_, _, _, rfl⟩
      rw [hx] at hk hr2
      unfold Okay at hk
      dsimp only at hk hr2
      have z1 : x1 = 0 := by omega
      have z2 : x2 = 0 := by omega
      have z3 : x3 = 2 ∨ x3 = 7 := by omega
      subst z1 z2
      clear hk hr2
      rcases z3 with rfl | rfl
      · have CC := cut_no s a wr hs ha (by rw [hx]; simp)
        have HC := Lib.hid CC
        have HXX := Lib.hid hx
        clear CC hx
        go_wp2_with (go_at_call 65; refine HC.out.mono ?_; rintro e w9 ⟨rfl, hb9⟩)
        go_ret3
        exact ⟨by rw [HXX.out]; rfl, hbel.trans (hb9.mono hsz)⟩
      · have CC := cut_yes s a wr hs ha (by rw [hx])
        have HC := Lib.hid CC
        have HXX := Lib.hid hx
        clear CC hx
        go_wp2_with (go_at_call 65; refine HC.out.mono ?_; rintro e w9 ⟨rfl, hb9⟩)
        go_ret3
        exact ⟨by rw [HXX.out]; rfl, hbel.trans (hb9.mono hsz)⟩

set_option maxHeartbeats 400000 in
theorem ref_rune_out (s : ByteArray) (a : Int) (w : World) (hs : s.size ≤ 10000) (ha : a < 0 ∨ (s.size : Int) ≤ a) :
    Calls Tryd.prog 55 #[.string s, .int .i64 a] w (RefPost (0, 0, 7) w) := by
  by_cases h : a < 0
  · clear ha
    go_enter Tryd.func55, Tryd.ntmps55
    go_wp2
    go_ret3
    exact ⟨rfl, Below.refl _ _⟩
  · have h2 : (s.size : Int) ≤ a := by omega
    clear ha
    go_enter Tryd.func55, Tryd.ntmps55
    go_wp2
    go_ret3
    exact ⟨rfl, Below.refl _ _⟩
theorem ref_rune_any (s : ByteArray) (a : Int) (w : World) (hs : s.size ≤ 10000) :
    Calls Tryd.prog 55 #[.string s, .int .i64 a] w (RefPost (runeF s a) w) := by
  by_cases h : a < 0 ∨ (s.size : Int) ≤ a
  · have : runeF s a = (0, 0, 7) := by unfold runeF; rw [if_pos h]
    rw [this]
    exact ref_rune_out s a w hs h
  · obtain ⟨n, rfl⟩ := Int.eq_ofNat_of_zero_le (show 0 ≤ a by omega)
    exact ref_rune_in s n _ w hs (by omega) rfl
end Go.Proofs.YtjboglpnpgghiaaDoor

/- The walks of the document's All and Whole. -/
set_option linter.unusedSimpArgs false
set_option linter.unusedVariables false
namespace Go.Proofs.YtjboglpnpgghiaaDoor
open Go.RowKit

theorem Tryd.info21 : (Tryd.prog.info? 21).map (fun i => (i.zero, i.size, i.bytes)) = some (some (.int .i32 0), 1, 4) := by kernel_rfl
/-- A slice of runes of the call's own: from block B on. -/
def Own (w : World) (B : Nat) (v : Value) (l : List Int) : Prop := w.ownsRow B 21 1 v l.length (l.map (Value.int .i32))

def AllPost (s : ByteArray) (w : World) (x : List Int × Int × Int) (e : Ending) (w' : World) : Prop :=
  ∃ v, e = .returned (.tuple #[v, .int .i64 x.2.1, .int .i64 x.2.2]) ∧ Own w' w.heap.size v x.1 ∧ Below w.heap.size w w'

def AllRel (s : ByteArray) (w : World) (v i : Value) (wr : World) : Prop :=
  ∃ (a : Nat) (pre : List Int), a ≤ s.size ∧ i = .int .i64 a ∧ Own wr w.heap.size v pre ∧ Below w.heap.size w wr ∧ pre.length ≤ a ∧ allF s = (pre ++ (allAt s a).1, (allAt s a).2)

theorem own_later {w w' : World} {B : Nat} {e : TypeId} {size : Nat} {v : Value} {n : Nat} {xs : List Value} (h : w.ownsRow B e size v n xs) (hb : Below w.heap.size w w') : w'.ownsRow B e size v n xs := by
  rcases h with ⟨h1, ⟨rfl, h0⟩ | ⟨g, cap, cur, rfl, hg, hh, h3, h4, h5, h6⟩⟩
  · exact ⟨h1, .inl ⟨rfl, h0⟩⟩
  · refine ⟨h1, .inr ⟨g, cap, cur, rfl, hg, ?_, h3, h4, h5, h6⟩⟩
    rw [hb.block g (by
      rcases Nat.lt_or_ge g w.heap.size with hlt | hge
      · exact hlt
      · rw [Array.getElem?_eq_none hge] at hh; cases hh)]
    exact hh

set_option maxHeartbeats 1000000 in
set_option maxRecDepth 100000 in
theorem ref_all_any (s : ByteArray) (w : World) (hs : s.size ≤ 10000) :
    Calls Tryd.prog 43 #[.string s] w (AllPost s w (allF s)) := by
  obtain ⟨i0, hi, hz0, hz1, hz2⟩ := info_parts Tryd.info21
  go_enter Tryd.func43, Tryd.ntmps43
  go_wp2_with fail
  go_loopw [5, 6] (fun v i wr => AllRel s w v i wr) (fun _ i _ => s.size - (intOf i).toNat)
  case atStart => exact ⟨0, [], Nat.zero_le _, rfl, World.ownsRow_nil _ _ _ _, Below.refl _ _, Nat.le_refl _, by simp [allF_eq]⟩
  case round =>
    obtain ⟨a, pre, ha, rfl, hown, hbel, hpre, hall⟩ := hrel
    by_cases hlt : a < s.size
    · have hk := runeF_okay s a hlt
      obtain ⟨r, n, er, hx⟩ : ∃ r n er, runeF s a = (r, n, er) := ⟨_, _, _, rfl⟩
      have hc := ref_rune_any s a wr hs
      have H0 := allAt_err s a hlt
      have H1 := allAt_ok s a hlt
      rw [hx] at hk hc H0 H1
      clear hx
      unfold Okay at hk
      unfold RefPost R3i at hc
      dsimp only at hk hc H0 H1
      have HC := Lib.hid hc
      clear hc
      by_cases he : er = 0
      · subst he
        have hn : 1 ≤ n ∧ n ≤ (s.size - a : Nat) := by omega
        have hr1 : 0 ≤ r ∧ r ≤ 1114111 := by omega
        have HF : Hid (allF s = ((pre ++ [r]) ++ (allAt s (a + n.toNat)).1, (allAt s (a + n.toNat)).2)) := by
          rw [H1 rfl] at hall
          show allF s = _
          rw [hall]
          simp
        obtain ⟨n, rfl⟩ := Int.eq_ofNat_of_zero_le (show 0 ≤ n by omega)
        rw [Int.toNat_natCast] at HF
        have hl2 := hbel.size
        clear H0 H1 hall hk
        go_wp2_with fail
        refine HC.out.mono ?_
        rintro e w1 ⟨rfl, hb1⟩
        have hown1 := own_later hown hb1
        have hbel1 := hbel.trans (hb1.mono hl2)
        have hl3 := hbel1.size
        have hown' := hown1.alloc (.cells #[.int .i32 r] 21)
        go_wp2_with (at_builtin; refine wpList_append_own _ rfl _ _ 73 rfl w.heap.size 21 i0 (.int .i32 0) 1 4 Tryd.underlying73 hi hz0 hz1 hz2 rfl (by decide) _ _ _ rfl hown' ⟨w1.heap.size, 0, none⟩ 1 1 [.int .i32 r] rfl rfl (lit_cells w1 #[.int .i32 r] 21) (ints_oneCell .i32 [r]) (by unfold maxLen; omega) (by omega) (by simp; omega) ?_)
        intro v' w2 hown2 hgrow _
        go_wp2
        go_roundw
        case rel =>
          refine ⟨a + n, pre ++ [r], by omega, by go_num, ?_, ?_, by simp; omega, HF.out⟩
          · unfold Own; rw [List.map_append, List.length_append]; exact hown2
          · exact (hbel1.alloc hl3 _).grown hgrow (by simp; omega) (fun g hg => (hown.lt g hg).1)
        case measure => simp [intOf]; omega
      · have HF : Hid (allF s = (pre, (a : Int), er)) := by
          rw [H0 he] at hall
          show allF s = _
          rw [hall]
          simp
        have te : (er != 0) = true := by simpa using he
        clear H0 H1 hall hk he
        go_wp2_with fail
        refine HC.out.mono ?_
        rintro e w1 ⟨rfl, hb1⟩
        have hown1 := own_later hown hb1
        have hbel1 := hbel.trans (hb1.mono hbel.size)
        go_wp2
        go_ret3
        rw [HF.out]
        exact ⟨_, rfl, hown1, hbel1⟩
    · have HF : Hid (allF s = (pre, (a : Int), 0)) := by
        rw [allAt_done s a (by omega)] at hall
        show allF s = _
        rw [hall]
        simp
      clear hall
      go_wp2
      go_ret3
      rw [HF.out]
      exact ⟨_, rfl, hown, hbel⟩
end Go.Proofs.YtjboglpnpgghiaaDoor

/- Walks: what the document's own classes return (Blank, Char, Start, Part), whatever the world. -/
set_option linter.unusedSimpArgs false
set_option linter.unusedVariables false
namespace Go.Proofs.YtjboglpnpgghiaaDoor
open Go.RowKit

set_option maxHeartbeats 400000 in
set_option maxRecDepth 100000 in
theorem rblank_any (r : Int) (w : World) : Calls Tryd.prog 56 #[.int .i64 r] w fun e w' => e = .returned (.bool (decide (Blank r))) ∧ w = w' := by
  go_enter Tryd.func56, Tryd.ntmps56
  go_wp2
  all_goals
    go_ret
    refine ⟨cret_bool ?_, rfl⟩
    first
      | refine cbt ?_
      | refine cbf ?_
      | (refine Bool.eq_iff_iff.2 ?_; simp only [decide_eq_true_eq, Bool.or_eq_true, beq_iff_eq])
    try simp only [beq_iff_eq, Bool.or_eq_true, Bool.and_eq_true, decide_eq_true_eq, decide_eq_false_iff_not, beq_eq_false_iff_ne] at *
    simp only [Part, Start, Chr, Blank, Btw] at *
    first
      | omega
      | (constructor <;> intro hq <;> omega)

set_option maxHeartbeats 1000000 in
set_option maxRecDepth 100000 in
theorem rchr_any (r : Int) (w : World) : Calls Tryd.prog 44 #[.int .i64 r] w fun e w' => e = .returned (.bool (decide (Chr r))) ∧ w = w' := by
  go_enter Tryd.func44, Tryd.ntmps44
  go_wp2_with (first | (go_at_call 56; refine (rblank_any _ _).mono ?_; rintro e w' ⟨rfl, rfl⟩))
  all_goals
    go_ret
    refine ⟨cret_bool ?_, rfl⟩
    first
      | refine cbt ?_
      | refine cbf ?_
      | (refine Bool.eq_iff_iff.2 ?_; simp only [decide_eq_true_eq, Bool.or_eq_true, beq_iff_eq])
    try simp only [beq_iff_eq, Bool.or_eq_true, Bool.and_eq_true, decide_eq_true_eq, decide_eq_false_iff_not, beq_eq_false_iff_ne] at *
    simp only [Part, Start, Chr, Blank, Btw] at *
    first
      | omega
      | (constructor <;> intro hq <;> omega)

end Go.Proofs.YtjboglpnpgghiaaDoor

/- Plain mathematics: what is escaped is read as it was; texts behind one another. -/
set_option linter.unusedSimpArgs false
set_option linter.unusedVariables false
namespace Go.Proofs.YtjboglpnpgghiaaDoor

/-- May all of a text stand in a text? -/
def Rt (l : List Int) : Prop := (decF l).2.2 = 0 ∧ ∀ r ∈ (decF l).1, Chr r

end Go.Proofs.YtjboglpnpgghiaaDoor

/- The walk of the document's Right. -/
set_option linter.unusedSimpArgs false
set_option linter.unusedVariables false
namespace Go.Proofs.YtjboglpnpgghiaaDoor.Tg
open Go.RowKit

def RtPost (P : Prop) (w : World) (e : Ending) (w' : World) : Prop := ∃ b : Bool, e = .returned (.bool b) ∧ (b = true ↔ P) ∧ Below w.heap.size w w'
theorem chr_take {l : List Int} {k : Nat} (h : ∀ x ∈ l.take k, Chr x) (hk : k < l.length) (hc : Chr (l.getD k 0)) : ∀ x ∈ l.take (k + 1), Chr x := by
  intro x hx
  rw [List.take_succ_eq_append_getElem hk] at hx
  rcases List.mem_append.1 hx with hx | hx
  · exact h x hx
  · simp only [List.mem_singleton] at hx
    rw [hx]
    simpa [List.getElem?_eq_getElem hk] using hc
theorem mem_getD {l : List Int} {k : Nat} (hk : k < l.length) : l.getD k 0 ∈ l := by
  simp [List.getElem?_eq_getElem hk]

set_option maxHeartbeats 4000000 in
set_option maxRecDepth 100000 in
theorem right_of (s : ByteArray) (l : List Int) (at_ er : Int) (w : World) (hg : Good l) (hn : l.length ≤ 100000)
    (C : Hid (Calls Tryd.prog 43 #[.string s] w (AllPost s w (l, at_, er)))) :
    Calls Tryd.prog 34 #[.string s] w (RtPost (er = 0 ∧ ∀ r ∈ l, Chr r) w) := by
  go_enter Tryd.func34, Tryd.ntmps34
  go_wp2_with fail
  refine C.out.mono ?_
  rintro e w1 ⟨v, rfl, hown, hb⟩
  obtain ⟨A, c, hv, hrd⟩ := own_rd (k := .i32) hown
  simp only at hv hrd
  subst hv
  clear hown C
  obtain ⟨n, hnl⟩ : ∃ n, n = l.length := ⟨_, rfl⟩
  rw [← hnl]
  have HN := Lib.hid hnl
  have hn2 : n ≤ 100000 := by omega
  clear hnl
  go_wp2_with fail
  go_loop [6] (fun vi => ∃ k : Nat, vi = .int .i64 k ∧ k ≤ n ∧ Hid (∀ x ∈ l.take k, Chr x)) (fun vi => n - (intOf vi).toNat)
  case atStart => exact ⟨0, rfl, by omega, Lib.hid fun x hx => by simp at hx⟩
  case round =>
    obtain ⟨k, rfl, hk, hR⟩ := hrel
    by_cases hlt : k < n
    · have hkl : k < l.length := by rw [← HN.out]; exact hlt
      obtain ⟨b, off, rfl, hbl, hc⟩ := hrd.at_ (j := k) hkl
      have hgd := hg _ (mem_getD hkl)
      have hm := mem_getD hkl
      have hct := Lib.hid (chr_take hR.out hkl)
      have x0 : 0 ≤ l.getD k 0 := by unfold Bad at hgd; omega
      have x1 : l.getD k 0 ≤ 1114111 := by unfold Bad at hgd; omega
      have hi2 : (k : Int) < (n : Int) := by omega
      have CC := rchr_any (l.getD k 0)
      have HM := Lib.hid hm
      clear hm hgd hkl
      by_cases hch : Chr (l.getD k 0)
      · have HR := Lib.hid (hct.out hch)
        rw [decide_eq_true hch] at CC
        have CCH := Lib.hid CC
        clear hch hct hR CC HM
        generalize l.getD k 0 = x at *
        go_wp2_with (go_at_call 44; refine (CCH.out _).mono ?_; rintro e w' ⟨rfl, rfl⟩)
        refine ⟨⟨k + 1, by rw [Int.natCast_add]; rfl, by omega, HR⟩, by simp only [intOf]; omega⟩
      · rw [decide_eq_false hch] at CC
        have CCH := Lib.hid CC
        have HX : Hid (¬ (er = 0 ∧ ∀ r ∈ l, Chr r)) := Lib.hid fun h => hch (h.2 _ HM.out)
        clear hch hct hR CC HM
        generalize l.getD k 0 = x at *
        go_wp2_with (go_at_call 44; refine (CCH.out _).mono ?_; rintro e w' ⟨rfl, rfl⟩)
        go_ret
        exact ⟨false, rfl, ⟨fun h => absurd h (by decide), fun h => absurd h HX.out⟩, hb⟩
    · have hkk : k = n := by omega
      subst hkk
      have HA : Hid (∀ x ∈ l, Chr x) := Lib.hid (by
        have := hR.out
        rw [HN.out, List.take_length] at this
        exact this)
      clear hR
      go_wp2
      go_ret
      refine ⟨(er == 0), rfl, ⟨fun h => ⟨by simpa using h, HA.out⟩, fun h => by simpa using h.1⟩, hb⟩
theorem right_any (s : ByteArray) (w : World) (hs : s.size ≤ 10000) : Calls Tryd.prog 34 #[.string s] w (RtPost (Rt (byts s)) w) := by
  have C := ref_all_any s w hs
  rw [allF_dec] at C
  have B := decF_back (byts s).length (byts s) (Nat.le_refl _) (byts_nn s)
  have hlen : (decF (byts s)).1.length ≤ 100000 := by
    obtain ⟨_, hp, h3, _, _⟩ := B
    rw [byts_len] at h3
    have : ∀ (m : List Int), m.length ≤ (m.flatMap putI).length := by
      intro m
      induction m with
      | nil => simp
      | cons x m ih =>
        have := (putI_len x).1
        rw [List.flatMap_cons, List.length_append, List.length_cons]
        omega
    have := this (decF (byts s)).1
    rw [hp, List.length_take] at this
    omega
  exact right_of s _ _ _ w B.1 hlen (Lib.hid C)
theorem right_yes (s : ByteArray) (hs : s.size ≤ 10000) (h : Rt (byts s)) (w : World) : Calls Tryd.prog 34 #[.string s] w fun e w' => e = .returned (.bool true) ∧ Below w.heap.size w w' := by
  refine (right_any s w hs).mono ?_
  rintro e w' ⟨b, rfl, hb, hB⟩
  rw [hb.2 h]
  exact ⟨rfl, hB⟩
theorem right_no (s : ByteArray) (hs : s.size ≤ 10000) (h : ¬ Rt (byts s)) (w : World) : Calls Tryd.prog 34 #[.string s] w fun e w' => e = .returned (.bool false) ∧ Below w.heap.size w w' := by
  refine (right_any s w hs).mono ?_
  rintro e w' ⟨b, rfl, hb, hB⟩
  cases b with
  | false => exact ⟨rfl, hB⟩
  | true => exact absurd (hb.1 rfl) h
end Go.Proofs.YtjboglpnpgghiaaDoor.Tg

/- What the document's Right (layer 9) calls of the document, by its own walks: layer 3's Plain, layer 4's Right. -/
namespace Go.Proofs.YtjboglpnpgghiaaDoor.Ev
open Go.RowKit

/-- The document's Plain, by a text's bytes. -/
def plF (s : ByteArray) : Bool := Nz.pl (Nz.bl s)
/-- The document's Right of a reference, by a text's bytes. -/
def rtF (s : ByteArray) : Bool := decide ((decF (byts s)).2.2 = 0 ∧ ∀ r ∈ (decF (byts s)).1, Chr r)

theorem plain_c : StrC 45 plF := fun s W hs => Nz.rplain_any s hs W
theorem right_c : StrC 34 rtF := fun s W hs => by
  by_cases h : Rt (byts s)
  · have := Tg.right_yes s hs h W
    rw [show rtF s = true from decide_eq_true h]
    exact this
  · have := Tg.right_no s hs h W
    rw [show rtF s = false from decide_eq_false h]
    exact this
end Go.Proofs.YtjboglpnpgghiaaDoor.Ev
