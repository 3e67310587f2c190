/-
  The walk of ScanCovers.
-/
import Derived.Test.YtmbghdpoeahnaaaGreatDoorLSameT
import Derived.Test.YtmbghdpoeahnaaaGreatDoorLNextsLaw
set_option linter.unusedSimpArgs false
set_option linter.unusedVariables false
namespace Go.Proofs.YtmbghdpoeahnaaaGreatDoor
open Go.RowKit

/-- Where the loop over the tokens stands: ahead of the k-th one, at place a; or all is done. -/
def Cov (L : List Int) (l : List Tk) (to_ : Nat) (er : Int) (k a : Nat) : Prop :=
  (a ≤ L.length ∧ ∃ pre, pre.length = k ∧ (l, to_, er) = (pre ++ (allAtT L a).1, (allAtT L a).2)) ∨ (k = l.length ∧ a = to_ ∧ a = L.length ∧ er = 0)
theorem cov_step {L : List Int} {l : List Tk} {to_ : Nat} {er : Int} {k a : Nat} (h : Cov L l to_ er k a) (hk : k < l.length) :
    a ≤ L.length ∧ (nx L a).2.2 = 0 ∧ l[k]? = some (nx L a).1 ∧ Cov L l to_ er (k + 1) (a + (nx L a).2.1) ∧
    ((a < L.length ∧ 1 ≤ (nx L a).2.1 ∧ a + (nx L a).2.1 ≤ L.length ∧ (nx L a).1.kind ≠ 6 ∧ (k ≠ l.length - 1 ∨ er ≠ 0)) ∨ (a = L.length ∧ nx L a = (⟨6, [], false, false⟩, 0, 0) ∧ k = l.length - 1 ∧ er = 0)) := by
  rcases h with ⟨ha, pre, hp, hl⟩ | ⟨h1, _⟩
  · by_cases he : (nx L a).2.2 = 0
    · by_cases h2 : a = L.length
      · have hN := nx_last L a (by omega)
        have hA := at_last L
        rw [← h2] at hA
        rw [hA] at hl
        obtain ⟨e1, e2⟩ := Prod.mk.inj hl
        obtain ⟨e3, e4⟩ := Prod.mk.inj e2
        have hlen : l.length = k + 1 := by rw [e1, List.length_append, hp]; rfl
        refine ⟨ha, he, ?_, ?_, .inr ⟨h2, hN, by omega, e4⟩⟩
        · rw [hN, e1, List.getElem?_append_right (by omega), hp]
          simp
        · rw [hN]
          exact .inr ⟨by omega, by show a + 0 = to_; rw [e3]; rfl, by show a + 0 = L.length; omega, e4⟩
      · have hlt : a < L.length := by omega
        have hf := (nx_fit L a hlt).size he
        rw [List.length_drop] at hf
        have hA := at_ok L a hlt he
        rw [hA] at hl
        have hl' : (l, to_, er) = ((pre ++ [(nx L a).1]) ++ (allAtT L (a + (nx L a).2.1)).1, (allAtT L (a + (nx L a).2.1)).2) := by rw [hl]; simp
        obtain ⟨e1, e2⟩ := Prod.mk.inj hl
        refine ⟨ha, he, ?_, .inl ⟨by omega, pre ++ [(nx L a).1], by simp [hp], hl'⟩, .inl ⟨hlt, hf.1, by omega, hf.2.2.1, ?_⟩⟩
        · rw [e1, List.getElem?_append_right (by omega), hp]
          simp
        · by_cases hlast : k = l.length - 1
          · right
            have hnil : (allAtT L (a + (nx L a).2.1)).1 = [] := by
              refine List.eq_nil_of_length_eq_zero ?_
              have := congrArg List.length e1
              rw [List.length_append, List.length_cons, hp] at this
              omega
            by_cases he2 : (nx L (a + (nx L a).2.1)).2.2 = 0
            · by_cases h3 : a + (nx L a).2.1 = L.length
              · rw [h3, at_last L] at hnil
                cases hnil
              · rw [at_ok L _ (by omega) he2] at hnil
                cases hnil
            · rw [at_err L _ (by omega) he2] at e2
              have e3 : er = _ := (Prod.mk.inj e2).2
              rw [e3]
              exact he2
          · exact .inl hlast
    · rw [at_err L a ha he, List.append_nil] at hl
      have := (Prod.mk.inj hl).1
      rw [this, hp] at hk
      omega
  · omega
theorem cov_end {L : List Int} {l : List Tk} {to_ : Nat} {er : Int} {k a : Nat} (h : Cov L l to_ er k a) (hk : ¬ k < l.length) : a = to_ ∧ (er ≠ 0 ∨ (er = 0 ∧ a = L.length)) := by
  rcases h with ⟨ha, pre, hp, hl⟩ | ⟨_, h2, h3, h4⟩
  · obtain ⟨e1, e2⟩ := Prod.mk.inj hl
    have hnil : (allAtT L a).1 = [] := by
      refine List.eq_nil_of_length_eq_zero ?_
      have := congrArg List.length e1
      rw [List.length_append, hp] at this
      omega
    by_cases he : (nx L a).2.2 = 0
    · by_cases h2 : a = L.length
      · rw [h2, at_last L] at hnil
        cases hnil
      · rw [at_ok L a (by omega) he] at hnil
        cases hnil
    · rw [at_err L a ha he] at e2
      obtain ⟨e3, e4⟩ := Prod.mk.inj e2
      exact ⟨e3.symm, .inl (by rw [e4]; exact he)⟩
  · exact ⟨h2, .inr ⟨h4, h3⟩⟩
theorem cov_start (L : List Int) : Cov L (allAtT L 0).1 (allAtT L 0).2.1 (allAtT L 0).2.2 0 0 := .inl ⟨Nat.zero_le _, [], rfl, by simp⟩
def CvRel (L : List Int) (l : List Tk) (to_ : Nat) (er : Int) (n : Nat) (A : Option Addr) (w : World) (va vi : Value) (wr : World) : Prop :=
  ∃ a k : Nat, va = .int .i64 a ∧ vi = .int .i64 k ∧ k ≤ n ∧ a ≤ 1000 ∧ Hid (Cov L l to_ er k a) ∧ Hid (RdT wr A l) ∧ Hid (Below w.heap.size w wr) ∧ Hid (Gl wr)
set_option maxHeartbeats 8000000 in
set_option maxRecDepth 100000 in
theorem covers_of (s : ByteArray) (l : List Tk) (to_ : Nat) (er : Int) (w : World) (hs : s.size ≤ 400) (hln : l.length ≤ 1000) (HC : Hid (Cov (byts s) l to_ er 0 0)) (hG : Gl w) (CA : Hid (∀ W, Gl W → Calls Tryz.prog 8 #[.string s] W (ATPost (l, to_, er) W))) :
    Calls Tryz.prog 6 #[.string s] w fun e w' => e = .returned (.bool true) ∧ Below w.heap.size w w' := by
  have HG := Lib.hid hG
  have i8 : decide ((400 : Int) < (s.size : Int)) = false := by rw [decide_eq_false_iff_not]; omega
  have j8 : decide (400 < s.size) = false := by rw [decide_eq_false_iff_not]; omega
  have CN : Hid (∀ (a : Nat) W, a ≤ s.size → Gl W → Calls Tryz.prog 11 #[.string s, .int .i64 (a : Int)] W (NxPost (nx (byts s) a) a W)) := Lib.hid fun a W ha hW => Next_any s a W hW (by omega) ha
  clear hG
  go_enter Tryz.func6, Tryz.ntmps6
  go_wp2_with fail
  refine (awake_any w HG.out).mono ?_
  rintro e w1 ⟨rfl, b1⟩
  have HB1 := Lib.hid b1
  have HG1 := Lib.hid (HG.out.after b1)
  clear b1
  go_wp2_with fail
  refine (CA.out _ HG1.out).mono ?_
  rintro e w2 ⟨v, rfl, hown, b2⟩
  obtain ⟨A, cap, rfl, hr⟩ := own_rdT hown
  have HR := Lib.hid hr
  have HB2 := Lib.hid (HB1.out.trans (b2.mono HB1.out.size))
  have HG2 := Lib.hid (HG1.out.after b2)
  clear hown hr b2 CA HB1 HG1
  dsimp only
  obtain ⟨n, hn⟩ : ∃ n, n = l.length := ⟨_, rfl⟩
  rw [← hn]
  have HN := Lib.hid hn
  have hn2 : n ≤ 1000 := by omega
  clear hn
  go_wp2_with fail
  go_loopw [6, 7] (fun va vi wr => CvRel (byts s) l to_ er n A w va vi wr) (fun _ vi _ => n - (intOf vi).toNat)
  case atStart => exact ⟨0, 0, rfl, rfl, Nat.zero_le _, by omega, HC, HR, HB2, HG2⟩
  case round =>
    obtain ⟨a, k, rfl, rfl, hk, ha1000, hCov, hR, hB, hGr⟩ := hrel
    by_cases hlt : k < n
    · obtain ⟨ha, he, hlk, hnext, hcase⟩ := cov_step hCov.out (by rw [← HN.out]; exact hlt)
      rw [byts_len] at ha hcase
      rw [← HN.out] at hcase
      obtain ⟨b, rfl, hbl, x0, x1, x2, x3⟩ := hR.out k _ hlk
      have C := Lib.hid (CN.out a wr ha hGr.out)
      obtain ⟨⟨kd, tx, em, bk⟩, m, er0, hx⟩ : ∃ y m er, nx (byts s) a = (y, m, er) := ⟨_, _, _, rfl⟩
      rw [hx] at C he hnext hcase x0 x1 x2 x3
      dsimp only at he hnext hcase x0 x1 x2 x3
      subst he
      have HNX := Lib.hid hnext
      have d1 : (k : Int) < (n : Int) := by omega
      have d0 : (0 : Int) ≤ (k : Int) := by omega
      have q1 : IntKind.i64.wrap ((n : Int) - 1) = (n : Int) - 1 := IntWalk.i64_in _ (by omega)
      have HX := Lib.hid (And.intro x0 (And.intro x1 (And.intro x2 x3)))
      clear x0 x1 x2 x3 hnext hx CN HC HR HB2 HG2 hlk
      go_wp2_with fail
      refine C.out.mono ?_
      rintro e w3 ⟨rfl, b3⟩
      unfold tkV
      dsimp only
      generalize strOfNums tx = str at *
      have g3 := after_put b3 (.cells #[.int .i64 kd, .string str, .bool em, .bool bk] 33)
      have HB3 := Lib.hid (hB.out.trans (g3.mono hB.out.size))
      have HG3 := Lib.hid (hGr.out.after g3)
      have HR3 := Lib.hid (hR.out.keep g3)
      have z0 := (g3.cell (p := ⟨b, k * 4, none⟩) hbl).trans HX.out.1
      have z1 := (g3.cell (p := ⟨b, k * 4 + 1, none⟩) hbl).trans HX.out.2.1
      have z2 := (g3.cell (p := ⟨b, k * 4 + 2, none⟩) hbl).trans HX.out.2.2.1
      have z3 := (g3.cell (p := ⟨b, k * 4 + 3, none⟩) hbl).trans HX.out.2.2.2
      obtain ⟨y0, y1, y2, y3⟩ := tok_new w3 (.int .i64 kd) (.string str) (.bool em) (.bool bk)
      clear b3 g3 C hGr hR HX hB
      have e1 : ¬ (a : Int) + (m : Int) < (a : Int) := by omega
      rcases hcase with ⟨hA1, hA2, hA3, hA4, hA5⟩ | ⟨hA1, hA2, hA3, hA4⟩
      · have e2 : ¬ (s.size : Int) < (a : Int) + (m : Int) := by omega
        have e3 : ((a : Int) + (m : Int) == (a : Int)) = false := by rw [beq_eq_false_iff_ne]; omega
        have e4 : (kd == 6) = false := by rw [beq_eq_false_iff_ne]; exact hA4
        rcases (show k ≠ n - 1 ∨ (k = n - 1 ∧ er ≠ 0) by omega) with h9 | ⟨h9, h8⟩
        · have e5 : ((k : Int) == (n : Int) - 1) = false := by rw [beq_eq_false_iff_ne]; omega
          clear hA1 hA2 hA4 hA5 h9
          go_wp2_with fail
          go_quiet (fail)
          go_wp2
          go_roundw
          case rel => exact ⟨a + m, k + 1, by go_num, by go_num, by omega, by omega, HNX, Lib.hid (fun k t h => HR3.out k t h), Lib.hid (below_drewN' HB3.out _), Lib.hid (HG3.out.after (below_drewN' (Below.refl _ _) _))⟩
          case measure => simp only [intOf]; omega
        · have e5 : ((k : Int) == (n : Int) - 1) = true := by rw [beq_iff_eq]; omega
          have e6 : (er == 0) = false := by rw [beq_eq_false_iff_ne]; exact h8
          clear hA1 hA2 hA4 hA5 h9 h8
          go_wp2_with fail
          go_quiet (fail)
          go_wp2
          go_roundw
          case rel => exact ⟨a + m, k + 1, by go_num, by go_num, by omega, by omega, HNX, Lib.hid (fun k t h => HR3.out k t h), Lib.hid (below_drewN' HB3.out _), Lib.hid (HG3.out.after (below_drewN' (Below.refl _ _) _))⟩
          case measure => simp only [intOf]; omega
      · obtain ⟨hT, hM⟩ := Prod.mk.inj hA2
        have hm0 : m = 0 := (Prod.mk.inj hM).1
        have hkd : kd = 6 := congrArg Tk.kind hT
        have e2 : ¬ (s.size : Int) < (a : Int) + (m : Int) := by omega
        have e3 : ((a : Int) + (m : Int) == (a : Int)) = true := by rw [beq_iff_eq]; omega
        have e4 : (kd == 6) = true := by rw [beq_iff_eq]; exact hkd
        have e5 : ((k : Int) == (n : Int) - 1) = true := by rw [beq_iff_eq]; omega
        have e6 : (er == 0) = true := by rw [beq_iff_eq]; exact hA4
        have hab : a + m ≤ 1000 := by omega
        clear hA1 hA2 hA3 hA4 hT hM hm0 hkd
        go_wp2_with fail
        go_quiet (fail)
        go_wp2
        go_roundw
        case rel => exact ⟨a + m, k + 1, by go_num, by go_num, by omega, hab, HNX, Lib.hid (fun k t h => HR3.out k t h), Lib.hid (below_drewN' HB3.out _), Lib.hid (HG3.out.after (below_drewN' (Below.refl _ _) _))⟩
        case measure => simp only [intOf]; omega
    · obtain ⟨h1, h2⟩ := cov_end hCov.out (by rw [← HN.out]; exact hlt)
      have d1 : ¬ (k : Int) < (n : Int) := by omega
      have e1 : ((a : Int) == (to_ : Int)) = true := by rw [beq_iff_eq]; omega
      rw [byts_len] at h2
      rcases h2 with h2 | ⟨h2, h3⟩
      · have e2 : (er != 0) = true := by rw [bne_iff_ne]; exact h2
        clear h1 h2 hCov hR hGr CN HC HR HB2 HG2
        go_wp2
        go_ret
        exact ⟨rfl, hB.out⟩
      · have e2 : (er != 0) = false := by rw [h2]; rfl
        have e3 : ((a : Int) == (s.size : Int)) = true := by rw [beq_iff_eq]; omega
        clear h1 h2 h3 hCov hR hGr CN HC HR HB2 HG2
        go_wp2
        go_ret
        exact ⟨rfl, hB.out⟩
theorem covers_law (s : ByteArray) (w : World) (hs : s.size ≤ 400) (hG : Gl w) : Calls Tryz.prog 6 #[.string s] w fun e w' => e = .returned (.bool true) ∧ Below w.heap.size w w' := by
  have hln := (allAtT_len _ 0 (byts s) (Nat.le_refl _) (Nat.zero_le _)).1
  rw [byts_len] at hln
  exact covers_of s _ _ _ w hs (by omega) (Lib.hid (cov_start (byts s))) hG (Lib.hid fun W hW => all_any s W hW (by omega))
set_option maxHeartbeats 4000000 in
set_option maxRecDepth 100000 in
theorem covers_long (s : ByteArray) (w : World) (h : 400 < s.size) (hm : s.size ≤ maxLen) (hG : Gl w) : Calls Tryz.prog 6 #[.string s] w fun e w' => e = .returned (.bool true) ∧ Below w.heap.size w w' := by
  unfold maxLen at hm
  have HG := Lib.hid hG
  have i8 : decide ((400 : Int) < (s.size : Int)) = true := by rw [decide_eq_true_eq]; omega
  have j8 : decide (400 < s.size) = true := by rw [decide_eq_true_eq]; omega
  clear hG h
  go_enter Tryz.func6, Tryz.ntmps6
  go_wp2_with fail
  refine (awake_any w HG.out).mono ?_
  rintro e w1 ⟨rfl, b1⟩
  have HG1 := Lib.hid (HG.out.after b1)
  go_wp2_with fail
  refine (awake_any w1 HG1.out).mono ?_
  rintro e w2 ⟨rfl, c2⟩
  go_wp2
  go_ret
  exact ⟨rfl, b1.trans (c2.mono b1.size)⟩
end Go.Proofs.YtmbghdpoeahnaaaGreatDoor
