/-
  Merged by program out of the texts Cut of one seat.
-/
import Derived.Test.YtnomcldpbkinmaaGreatDoorG13

/- The walk of the document's cut. -/
set_option linter.unusedSimpArgs false
set_option linter.unusedVariables false
namespace Go.Proofs.YtnomcldpbkinmaaGreatDoor
open Go.RowKit

set_option maxHeartbeats 8000000 in
set_option maxRecDepth 100000 in
theorem cut_any (s : ByteArray) (a : Nat) (F : List Int) (w : World) (hs : s.size ≤ 10000) (hF : F = (byts s).drop a) (h1 : 1 ≤ F.length) (h3 : F.length ≤ 3) :
    Calls Tryz.prog 75 #[.string s, .int .i64 a] w (CutPost F w) := by
  obtain ⟨n, hn⟩ : ∃ n, n = F.length := ⟨_, rfl⟩
  have hlen : n = s.size - a := by rw [hn, hF, List.length_drop, byts_len]
  have hE : byts (s.extract a s.size) = F := by rw [byts_extract, List.take_of_length_le (by rw [byts_len]; exact Nat.le_refl _), hF]
  have hz : (s.extract a s.size).size = n := by rw [← byts_len, hE, hn]
  have HN := Lib.hid hn
  have HL := Lib.hid hlen
  have HE := Lib.hid hE
  have HF := Lib.hid hF
  have HZ := Lib.hid hz
  have g1 : 1 ≤ n := by omega
  have g3 : n ≤ 3 := by omega
  have ha : a + n ≤ s.size := by omega
  have ha2 : s.size ≤ a + n := by omega
  have gn1 : n ≤ F.length := by omega
  have gn2 : F.length ≤ n := by omega
  clear hn hlen hE hF hz h1 h3
  have t1 : decide ((s.size : Int) - (a : Int) < 1) = false := by simp; omega
  have t2 : decide ((3 : Int) < (s.size : Int) - (a : Int)) = false := by simp; omega
  go_enter Tryz.func75, Tryz.ntmps75
  go_wp2_with fail
  go_loopw [6] (fun t wr => CutRel F w t wr) (fun t _ => 5 - (intOf t).toNat)
  case atStart => exact ⟨n + 1, by omega, by omega, by first | go_num | (congr 1; omega), fun j h1 h2 => by omega, Below.refl _ _⟩
  case round =>
    obtain ⟨t, ht1, ht5, rfl, hno, hbel⟩ := hrel
    have HNO := Lib.hid hno
    clear hno
    by_cases h4 : t ≤ 4
    · have t4 : decide ((t : Int) ≤ 4) = true := by simp; omega
      go_wp2_with fail
      generalize s.extract a s.size = E at *
      go_loop [8, 9] (fun l h => LowRel F t l h) (fun l _ => t - (match l with | .string q => q.size | _ => 0))
      case atStart => exact ⟨0, E, E, by omega, rfl, rfl, by rw [HE.out]; simp, by rw [HE.out]; simp⟩
      case round =>
        obtain ⟨j, lo, hi, hj, rfl, rfl, hlo, hhi⟩ := hrel
        have hls : lo.size = F.length + j := by rw [← byts_len, hlo]; simp
        have hhs : hi.size = F.length + j := by rw [← byts_len, hhi]; simp
        by_cases hlt : F.length + j < t
        · have tl : decide (lo.size < t) = true := by simp; omega
          have hb1 : lo.size ≤ 10000 := by omega
          have hb2 : hi.size ≤ 10000 := by omega
          have HLo := Lib.hid hlo
          have HHi := Lib.hid hhi
          have HLs := Lib.hid hls
          clear hlo hhi hls hhs
          go_wp2
          go_round
          case rel =>
            refine ⟨j + 1, _, _, by omega, rfl, rfl, ?_, ?_⟩
            · rw [byts_app, HLo.out, ← rep_snoc, List.append_assoc]; rfl
            · rw [byts_app, HHi.out, ← rep_snoc, List.append_assoc]; rfl
          case measure =>
            have e1 : (lo ++ (⟨#[128]⟩ : ByteArray)).size = lo.size + 1 := by rw [← byts_len, byts_app, List.length_append, byts_len]; rfl
            have := HLs.out
            show t - (lo ++ (⟨#[128]⟩ : ByteArray)).size < t - lo.size
            omega
        · have tl : decide (lo.size < t) = false := by simp; omega
          have ej : j = t - F.length := by omega
          subst ej
          have hv1 := value_zero lo t wr (by omega) (by omega) (by omega) h4
          have hv2 := value_zero hi t wr (by omega) (by omega) (by omega) h4
          have vb1 := valG_bd (bt lo) t (fun k => bt_lo lo k) (fun k => bt_hi lo k) t h4
          have vb2 := valG_bd (bt hi) t (fun k => bt_lo hi k) (fun k => bt_hi hi k) t h4
          rw [val_bt, hlo] at hv1 vb1
          rw [val_bt, hhi] at hv2 vb2
          have hhl := hi_lo F t (by omega) ht1 h4
          unfold hiV loV at hhl
          have HRK := Lib.hid (show ∀ k, rK F t k = valL (F ++ List.replicate (t - F.length) 128) t + stp (t - F.length) * k from fun k => rfl)
          generalize valL (F ++ List.replicate (t - F.length) 128) t = av at *
          generalize valL (F ++ List.replicate (t - F.length) 191) t = bv at *
          have HV1 := Lib.hid hv1
          have HV2 := Lib.hid hv2
          have HHL := Lib.hid hhl
          clear hv1 hv2 hhl hlo hhi hls hhs hj hlt
          go_wp2_with fail
          refine HV1.out.mono ?_
          rintro e w1 ⟨rfl, rfl⟩
          go_wp2_with fail
          refine HV2.out.mono ?_
          rintro e w1 ⟨rfl, rfl⟩
          clear HV1 HV2
          go_wp2_with fail
          go_loop [12, 13] (fun b i => TlRel F b i) (fun _ i => F.length - (intOf i).toNat)
          case atStart => exact ⟨1, true, Nat.le_refl _, by omega, rfl, rfl, by simp; omega⟩
          case round =>
            obtain ⟨k, c, hk1, hk2, rfl, rfl, hc⟩ := hrel
            have HC := Lib.hid hc
            clear hc
            by_cases hkl : k < F.length
            · have tk : decide ((k : Int) < (s.size : Int) - (a : Int)) = true := by simp; omega
              have hx := F_get HF.out k (by omega)
              have HX := Lib.hid hx
              clear hx
              have hi0 : (a : Int) + (k : Int) < (s.size : Int) := by omega
              have hi1 : a + k < s.size := by omega
              cases c with
              | false =>
                go_wp2
                go_round
                case rel => exact ⟨k + 1, false, by omega, by omega, by go_num, rfl, tl_step HC.out hk1 (by simp)⟩
                case measure => simp [intOf]; omega
              | true =>
                by_cases c1 : (128 : Int) ≤ (s[a + k].toNat : Int)
                · have d1 : decide ((128 : Int) ≤ (s[a + k].toNat : Int)) = true := by simpa using c1
                  by_cases c2 : (s[a + k].toNat : Int) ≤ 191
                  · have d2 : decide ((s[a + k].toNat : Int) ≤ 191) = true := by simpa using c2
                    have HD : Hid (true = true ↔ true = true ∧ 128 ≤ F.getD k 0 ∧ F.getD k 0 ≤ 191) := by rw [HX.out] at c1 c2; show _ ↔ _; simp; exact ⟨by simpa using c1, by simpa using c2⟩
                    have HR : Hid (∀ j, 1 ≤ j → j < k + 1 → 128 ≤ F.getD j 0 ∧ F.getD j 0 ≤ 191) := (tl_step HC.out hk1 HD.out).1 rfl
                    clear c1 c2 HC HD
                    go_wp2
                    go_round
                    case rel => exact ⟨k + 1, true, by omega, by omega, by go_num, rfl, ⟨fun _ => HR.out, fun _ => rfl⟩⟩
                    case measure => simp [intOf]; omega
                  · have d2 : decide ((s[a + k].toNat : Int) ≤ 191) = false := by simpa using c2
                    have HD : Hid (false = true ↔ true = true ∧ 128 ≤ F.getD k 0 ∧ F.getD k 0 ≤ 191) := by rw [HX.out] at c2; show _ ↔ _; constructor; (intro h; cases h); (intro h; exact absurd h.2.2 c2)
                    have HR : Hid (¬ ∀ j, 1 ≤ j → j < k + 1 → 128 ≤ F.getD j 0 ∧ F.getD j 0 ≤ 191) := fun h => by cases (tl_step HC.out hk1 HD.out).2 h
                    clear c1 c2 HC HD
                    go_wp2
                    go_round
                    case rel => exact ⟨k + 1, false, by omega, by omega, by go_num, rfl, ⟨(fun h => by cases h), fun h => absurd h HR.out⟩⟩
                    case measure => simp [intOf]; omega
                · have d1 : decide ((128 : Int) ≤ (s[a + k].toNat : Int)) = false := by simpa using c1
                  have HD : Hid (false = true ↔ true = true ∧ 128 ≤ F.getD k 0 ∧ F.getD k 0 ≤ 191) := by rw [HX.out] at c1; show _ ↔ _; constructor; (intro h; cases h); (intro h; exact absurd h.2.1 c1)
                  have HR : Hid (¬ ∀ j, 1 ≤ j → j < k + 1 → 128 ≤ F.getD j 0 ∧ F.getD j 0 ≤ 191) := fun h => by cases (tl_step HC.out hk1 HD.out).2 h
                  clear c1 HC HD
                  go_wp2
                  go_round
                  case rel => exact ⟨k + 1, false, by omega, by omega, by go_num, rfl, ⟨(fun h => by cases h), fun h => absurd h HR.out⟩⟩
                  case measure => simp [intOf]; omega
            · have tk : decide ((k : Int) < (s.size : Int) - (a : Int)) = false := by simp; omega
              have ht : c = true ↔ Tl F := by
                rw [HC.out]
                have : k = F.length := by omega
                rw [this]
                rfl
              have HT := Lib.hid ht
              clear HC ht
              have hx0 := F_get0 HF.out (by omega)
              have HX0 := Lib.hid hx0
              clear hx0
              have hi1 : a < s.size := by omega
              go_upto_region 20 with fail
              go_cut [14] (fun f wx => wx = wr ∧ ∃ fb : Bool, f = .bool fb ∧ (fb = true ↔ Fst F t))
              case first =>
                have htt : t = 2 ∨ t = 3 ∨ t = 4 := by omega
                rcases htt with htt | htt | htt
                · have HT2 : Hid (t = 2) := htt
                  have n2 : ((t : Int) == 2) = true := by simp; omega
                  have n3 : ((t : Int) == 3) = false := by simp; omega
                  have n4 : ((t : Int) == 4) = false := by simp; omega
                  clear htt
                  by_cases c1 : (192 : Int) ≤ (s[a].toNat : Int)
                  · have d1 : decide ((192 : Int) ≤ (s[a].toNat : Int)) = true := by simpa using c1
                    by_cases c2 : (s[a].toNat : Int) < 224
                    · have d2 : decide ((s[a].toNat : Int) < 224) = true := by simpa using c2
                      have HR : Hid (Fst F t) := by rw [HX0.out] at c1 c2; have := HT2.out; show Fst F t; unfold Fst; omega
                      clear c1 c2
                      go_wp2_with fail
                      go_meet
                      exact ⟨rfl, true, rfl, ⟨fun _ => HR.out, fun _ => rfl⟩⟩
                    · have d2 : decide ((s[a].toNat : Int) < 224) = false := by simpa using c2
                      have HR : Hid (¬ Fst F t) := by rw [HX0.out] at c1 c2; have := HT2.out; show ¬ Fst F t; unfold Fst; omega
                      clear c1 c2
                      go_wp2_with fail
                      go_meet
                      exact ⟨rfl, false, rfl, ⟨(fun h => by cases h), fun h => absurd h HR.out⟩⟩
                  · have d1 : decide ((192 : Int) ≤ (s[a].toNat : Int)) = false := by simpa using c1
                    have HR : Hid (¬ Fst F t) := by rw [HX0.out] at c1; have := HT2.out; show ¬ Fst F t; unfold Fst; omega
                    clear c1
                    go_wp2_with fail
                    go_meet
                    exact ⟨rfl, false, rfl, ⟨(fun h => by cases h), fun h => absurd h HR.out⟩⟩
                · have HT2 : Hid (t = 3) := htt
                  have n2 : ((t : Int) == 2) = false := by simp; omega
                  have n3 : ((t : Int) == 3) = true := by simp; omega
                  have n4 : ((t : Int) == 4) = false := by simp; omega
                  clear htt
                  by_cases c1 : (224 : Int) ≤ (s[a].toNat : Int)
                  · have d1 : decide ((224 : Int) ≤ (s[a].toNat : Int)) = true := by simpa using c1
                    by_cases c2 : (s[a].toNat : Int) < 240
                    · have d2 : decide ((s[a].toNat : Int) < 240) = true := by simpa using c2
                      have HR : Hid (Fst F t) := by rw [HX0.out] at c1 c2; have := HT2.out; show Fst F t; unfold Fst; omega
                      clear c1 c2
                      go_wp2_with fail
                      go_meet
                      exact ⟨rfl, true, rfl, ⟨fun _ => HR.out, fun _ => rfl⟩⟩
                    · have d2 : decide ((s[a].toNat : Int) < 240) = false := by simpa using c2
                      have HR : Hid (¬ Fst F t) := by rw [HX0.out] at c1 c2; have := HT2.out; show ¬ Fst F t; unfold Fst; omega
                      clear c1 c2
                      go_wp2_with fail
                      go_meet
                      exact ⟨rfl, false, rfl, ⟨(fun h => by cases h), fun h => absurd h HR.out⟩⟩
                  · have d1 : decide ((224 : Int) ≤ (s[a].toNat : Int)) = false := by simpa using c1
                    have HR : Hid (¬ Fst F t) := by rw [HX0.out] at c1; have := HT2.out; show ¬ Fst F t; unfold Fst; omega
                    clear c1
                    go_wp2_with fail
                    go_meet
                    exact ⟨rfl, false, rfl, ⟨(fun h => by cases h), fun h => absurd h HR.out⟩⟩
                · have HT2 : Hid (t = 4) := htt
                  have n2 : ((t : Int) == 2) = false := by simp; omega
                  have n3 : ((t : Int) == 3) = false := by simp; omega
                  have n4 : ((t : Int) == 4) = true := by simp; omega
                  clear htt
                  by_cases c1 : (240 : Int) ≤ (s[a].toNat : Int)
                  · have d1 : decide ((240 : Int) ≤ (s[a].toNat : Int)) = true := by simpa using c1
                    by_cases c2 : (s[a].toNat : Int) < 248
                    · have d2 : decide ((s[a].toNat : Int) < 248) = true := by simpa using c2
                      have HR : Hid (Fst F t) := by rw [HX0.out] at c1 c2; have := HT2.out; show Fst F t; unfold Fst; omega
                      clear c1 c2
                      go_wp2_with fail
                      go_meet
                      exact ⟨rfl, true, rfl, ⟨fun _ => HR.out, fun _ => rfl⟩⟩
                    · have d2 : decide ((s[a].toNat : Int) < 248) = false := by simpa using c2
                      have HR : Hid (¬ Fst F t) := by rw [HX0.out] at c1 c2; have := HT2.out; show ¬ Fst F t; unfold Fst; omega
                      clear c1 c2
                      go_wp2_with fail
                      go_meet
                      exact ⟨rfl, false, rfl, ⟨(fun h => by cases h), fun h => absurd h HR.out⟩⟩
                  · have d1 : decide ((240 : Int) ≤ (s[a].toNat : Int)) = false := by simpa using c1
                    have HR : Hid (¬ Fst F t) := by rw [HX0.out] at c1; have := HT2.out; show ¬ Fst F t; unfold Fst; omega
                    clear c1
                    go_wp2_with fail
                    go_meet
                    exact ⟨rfl, false, rfl, ⟨(fun h => by cases h), fun h => absurd h HR.out⟩⟩
              case rest =>
                obtain ⟨rfl, fb, rfl, hf⟩ := hcut
                have HFS := Lib.hid hf
                clear hf
                cases c with
                | false =>
                  have HNS : Hid (∀ j, F.length < j → j < t + 1 → ¬ Srch F j) := no_more HNO.out fun h => by cases HT.out.2 h.1
                  clear HNO HT HFS
                  go_wp2
                  go_roundw
                  case rel => exact ⟨t + 1, by omega, by omega, by go_num, HNS.out, hbel⟩
                  case measure => simp [intOf]; omega
                | true =>
                  cases fb with
                  | false =>
                    have HNS : Hid (∀ j, F.length < j → j < t + 1 → ¬ Srch F j) := no_more HNO.out fun h => by cases HFS.out.2 h.2.1
                    clear HNO HT HFS
                    go_wp2
                    go_roundw
                    case rel => exact ⟨t + 1, by omega, by omega, by go_num, HNS.out, hbel⟩
                    case measure => simp [intOf]; omega
                  | true =>
                    have HTL : Hid (Tl F) := HT.out.1 rfl
                    have HFT : Hid (Fst F t) := HFS.out.1 rfl
                    clear HT HFS
                    have hst := stp_bd (t - F.length)
                    have HM := Lib.hid (fun k hk => stp_mul (t - F.length) k hk)
                    generalize stp (t - F.length) = st at *
                    have hq : (bv - av) / 63 = st := by have := HHL.out; omega
                    have hd : 0 ≤ bv - av := by have := HHL.out; omega
                    go_wp2_with fail
                    go_loopw [15] (fun i wr => SrRel F t w i wr) (fun i _ => 64 - (intOf i).toNat)
                    case atStart => exact ⟨0, by omega, rfl, fun j hj => by omega, hbel⟩
                    case round =>
                      obtain ⟨k2, hk64, rfl, hmiss, hbel2⟩ := hrel
                      have HMS := Lib.hid hmiss
                      clear hmiss
                      by_cases hlt : k2 < 64
                      · have tk2 : decide ((k2 : Int) < 64) = true := by simp; omega
                        have hm := HM.out k2 (by omega)
                        obtain ⟨hm1, hm2⟩ := hm
                        have hrk := HRK.out k2
                        have HHIT := Lib.hid (show Hit F t k2 ↔ ((refPut (rK F t k2)).length = t ∧ (refPut (rK F t k2)).take F.length = F) from Iff.rfl)
                        rw [hrk] at HHIT
                        clear hrk
                        by_cases h63 : k2 = 63
                        · have t63 : ((k2 : Int) == 63) = true := by simp; omega
                          have hbk : bv = av + st * (k2 : Int) := by have := HHL.out; rw [h63]; exact this
                          rw [← hbk] at HHIT
                          clear hbk h63
                          have C1 := Lib.hid (fun W => refput_any (bv) W)
                          have hqb := refPut_nn (bv)
                          generalize refPut (bv) = q at HHIT C1 hqb
                          have HQB := Lib.hid hqb
                          clear hqb
                          go_wp2_with fail
                          refine (C1.out _).mono ?_
                          rintro e w5 ⟨p, rfl, hown5, hbel5⟩
                          obtain ⟨A5, c5, rfl, rd5⟩ := own_rd hown5
                          clear hown5 C1
                          have hb6 : Below w.heap.size w w5 := hbel2.trans (hbel5.mono hbel2.size)
                          by_cases hql : q.length = t
                          · have tq : ((q.length : Int) == (t : Int)) = true := by simp; omega
                            have hcv := conv_rd (c := c5) rd5
                            have hbs := run_bytes_of_string (P := Tryz.prog) w5 9 65 5 E Tryz.underlying9 Tryz.underlying65 Tryz.underlying5
                            have hrb := rd_bytes w5.drew E (grownCap w5 E.size 0 5) ((bytesRow E (grownCap w5 E.size 0 5)).size, (bytesRow E (grownCap w5 E.size 0 5)).size + 1)
                            rw [HE.out] at hrb
                            have hb8 : Below w.heap.size w (w5.drew.alloc (.cells (bytesRow E (grownCap w5 E.size 0 5)) 5 ((bytesRow E (grownCap w5 E.size 0 5)).size, (bytesRow E (grownCap w5 E.size 0 5)).size + 1))) := (hb6.drew).alloc hb6.size _
                            have hss : (strOfNums q).size ≤ 10000 := by rw [strOfNums_size]; omega
                            have hsq : (strOfNums q ++ (⟨#[120]⟩ : ByteArray)).size ≤ 100000 := by rw [← byts_len, byts_app, List.length_append, byts_len, strOfNums_size]; show q.length + 1 ≤ _; omega
                            have HP := Lib.hid (begP_hit q F HQB.out.1 HQB.out.2 (by omega) (by omega))
                            have heF : E.size = F.length := by have := HZ.out; have := HN.out; omega
                            have hEs : E.size ≤ 3 := by omega
                            by_cases hit : q.take F.length = F
                            · have CB := begins0 (strOfNums q ++ (⟨#[120]⟩ : ByteArray)) (some ⟨w5.heap.size, 0, none⟩) (grownCap w5 E.size 0 5) E.size F _ hrb hsq (by omega) heF true (by rw [HP.out]; simp; exact hit)
                              have HB := Lib.hid CB
                              have HY : Hid ((dec1 F).2.2 = 7) := (srch_iff F (by omega) (by omega)).1 ⟨t, ht1, h4, HTL.out, HFT.out, k2, hlt, HHIT.out.2 ⟨hql, hit⟩⟩
                              have HQ := Lib.hid hql
                              clear CB hit hql heF hrb HHIT
                              go_wp2_with (go_at_call 74; refine HB.out.mono ?_; rintro e w9 ⟨rfl, hb9⟩)
                              go_ret
                              exact ⟨true, rfl, ⟨fun _ => HY.out, fun _ => rfl⟩, hb8.trans (hb9.mono hb8.size)⟩
                            · have CB := begins0 (strOfNums q ++ (⟨#[120]⟩ : ByteArray)) (some ⟨w5.heap.size, 0, none⟩) (grownCap w5 E.size 0 5) E.size F _ hrb hsq (by omega) heF false (by rw [HP.out]; simp; exact hit)
                              have HB := Lib.hid CB
                              have HNH : Hid (∀ j, j < k2 + 1 → ¬ Hit F t j) := hit_more HMS.out fun h => hit (HHIT.out.1 h).2
                              have HQ := Lib.hid hql
                              clear CB hit hql heF hrb HHIT HMS
                              go_wp2_with (go_at_call 74; refine HB.out.mono ?_; rintro e w9 ⟨rfl, hb9⟩)
                              go_roundw
                              case rel => exact ⟨k2 + 1, by omega, by go_num, HNH.out, hb8.trans (hb9.mono hb8.size)⟩
                              case measure => simp [intOf]; omega
                          · have tq : ((q.length : Int) == (t : Int)) = false := by simp; omega
                            have HNH : Hid (∀ j, j < k2 + 1 → ¬ Hit F t j) := hit_more HMS.out fun h => hql (HHIT.out.1 h).1
                            clear hql HHIT HMS
                            go_wp2
                            go_roundw
                            case rel => exact ⟨k2 + 1, by omega, by go_num, HNH.out, hb6⟩
                            case measure => simp [intOf]; omega
                        · have t63 : ((k2 : Int) == 63) = false := by simp; omega
                          clear h63
                          have C1 := Lib.hid (fun W => refput_any (av + st * (k2 : Int)) W)
                          have hqb := refPut_nn (av + st * (k2 : Int))
                          generalize refPut (av + st * (k2 : Int)) = q at HHIT C1 hqb
                          have HQB := Lib.hid hqb
                          clear hqb
                          go_wp2_with fail
                          refine (C1.out _).mono ?_
                          rintro e w5 ⟨p, rfl, hown5, hbel5⟩
                          obtain ⟨A5, c5, rfl, rd5⟩ := own_rd hown5
                          clear hown5 C1
                          have hb6 : Below w.heap.size w w5 := hbel2.trans (hbel5.mono hbel2.size)
                          by_cases hql : q.length = t
                          · have tq : ((q.length : Int) == (t : Int)) = true := by simp; omega
                            have hcv := conv_rd (c := c5) rd5
                            have hbs := run_bytes_of_string (P := Tryz.prog) w5 9 65 5 E Tryz.underlying9 Tryz.underlying65 Tryz.underlying5
                            have hrb := rd_bytes w5.drew E (grownCap w5 E.size 0 5) ((bytesRow E (grownCap w5 E.size 0 5)).size, (bytesRow E (grownCap w5 E.size 0 5)).size + 1)
                            rw [HE.out] at hrb
                            have hb8 : Below w.heap.size w (w5.drew.alloc (.cells (bytesRow E (grownCap w5 E.size 0 5)) 5 ((bytesRow E (grownCap w5 E.size 0 5)).size, (bytesRow E (grownCap w5 E.size 0 5)).size + 1))) := (hb6.drew).alloc hb6.size _
                            have hss : (strOfNums q).size ≤ 10000 := by rw [strOfNums_size]; omega
                            have hsq : (strOfNums q ++ (⟨#[120]⟩ : ByteArray)).size ≤ 100000 := by rw [← byts_len, byts_app, List.length_append, byts_len, strOfNums_size]; show q.length + 1 ≤ _; omega
                            have HP := Lib.hid (begP_hit q F HQB.out.1 HQB.out.2 (by omega) (by omega))
                            have heF : E.size = F.length := by have := HZ.out; have := HN.out; omega
                            have hEs : E.size ≤ 3 := by omega
                            by_cases hit : q.take F.length = F
                            · have CB := begins0 (strOfNums q ++ (⟨#[120]⟩ : ByteArray)) (some ⟨w5.heap.size, 0, none⟩) (grownCap w5 E.size 0 5) E.size F _ hrb hsq (by omega) heF true (by rw [HP.out]; simp; exact hit)
                              have HB := Lib.hid CB
                              have HY : Hid ((dec1 F).2.2 = 7) := (srch_iff F (by omega) (by omega)).1 ⟨t, ht1, h4, HTL.out, HFT.out, k2, hlt, HHIT.out.2 ⟨hql, hit⟩⟩
                              have HQ := Lib.hid hql
                              clear CB hit hql heF hrb HHIT
                              go_wp2_with (go_at_call 74; refine HB.out.mono ?_; rintro e w9 ⟨rfl, hb9⟩)
                              go_ret
                              exact ⟨true, rfl, ⟨fun _ => HY.out, fun _ => rfl⟩, hb8.trans (hb9.mono hb8.size)⟩
                            · have CB := begins0 (strOfNums q ++ (⟨#[120]⟩ : ByteArray)) (some ⟨w5.heap.size, 0, none⟩) (grownCap w5 E.size 0 5) E.size F _ hrb hsq (by omega) heF false (by rw [HP.out]; simp; exact hit)
                              have HB := Lib.hid CB
                              have HNH : Hid (∀ j, j < k2 + 1 → ¬ Hit F t j) := hit_more HMS.out fun h => hit (HHIT.out.1 h).2
                              have HQ := Lib.hid hql
                              clear CB hit hql heF hrb HHIT HMS
                              go_wp2_with (go_at_call 74; refine HB.out.mono ?_; rintro e w9 ⟨rfl, hb9⟩)
                              go_roundw
                              case rel => exact ⟨k2 + 1, by omega, by go_num, HNH.out, hb8.trans (hb9.mono hb8.size)⟩
                              case measure => simp [intOf]; omega
                          · have tq : ((q.length : Int) == (t : Int)) = false := by simp; omega
                            have HNH : Hid (∀ j, j < k2 + 1 → ¬ Hit F t j) := hit_more HMS.out fun h => hql (HHIT.out.1 h).1
                            clear hql HHIT HMS
                            go_wp2
                            go_roundw
                            case rel => exact ⟨k2 + 1, by omega, by go_num, HNH.out, hb6⟩
                            case measure => simp [intOf]; omega
                      · have tk2 : decide ((k2 : Int) < 64) = false := by simp; omega
                        have HNS : Hid (∀ j, F.length < j → j < t + 1 → ¬ Srch F j) := no_more HNO.out fun ⟨_, _, k3, h3, h4⟩ => HMS.out k3 (by omega) h4
                        clear HMS
                        go_wp2
                        go_roundw
                        case rel => exact ⟨t + 1, by omega, by omega, by go_num, HNS.out, hbel2⟩
                        case measure => simp [intOf]; omega
    · have t4 : decide ((t : Int) ≤ 4) = false := by simp; omega
      have HY : Hid (¬ (dec1 F).2.2 = 7) := fun h => by
        obtain ⟨j, j1, j2, j3⟩ := (srch_iff F (by omega) (by omega)).2 h
        exact HNO.out j j1 (by omega) j3
      go_wp2
      go_ret
      exact ⟨false, rfl, ⟨(fun h => by cases h), fun h => absurd h HY.out⟩, hbel⟩
end Go.Proofs.YtnomcldpbkinmaaGreatDoor
