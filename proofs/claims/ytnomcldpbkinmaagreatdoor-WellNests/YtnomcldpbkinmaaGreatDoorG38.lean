/-
  Merged by program out of the texts WlNs3, WlNs4, WlNs5 of one seat.
-/
import Derived.Test.YtnomcldpbkinmaaGreatDoorG37

/- The walk of WellNests where it ends early. (Made by a generator.) -/
set_option linter.unusedSimpArgs false
set_option linter.unusedVariables false
namespace Go.Proofs.YtnomcldpbkinmaaGreatDoor.Wl
open Go.RowKit

set_option maxHeartbeats 8000000 in
set_option maxRecDepth 100000 in
theorem nests_long (s nm : ByteArray) (A : Option Addr) (n c : Nat) (w : World) (hG : Gl w) (hs : s.size ≤ maxLen) (h6 : 600 < s.size) : Calls Tryz.prog 6 #[.string s, .agg #[.string nm, .slice A n c]] w fun e w' => e = .returned (.bool true) ∧ Below w.heap.size w w' := by
  have d6 : (600 : Int) < (s.size : Int) := by omega
  unfold maxLen at hs
  have HT := Lib.hid (tb0 (nm := nm) (A := A) (n := n) (c := c) hG)
  have CA := Lib.hid (awake_any _ HT.out.gl)
  clear hG
  go_enter Tryz.func6, Tryz.ntmps6
  go_wp2_with fail
  refine CA.out.mono ?_
  rintro e w1 ⟨rfl, b1⟩
  have H1 := Lib.hid (HT.out.keep b1)
  clear b1 CA HT
  have CZ := Lib.hid (awake_any _ H1.out.gl)
  go_wp2_with fail
  refine CZ.out.mono ?_
  rintro e wz ⟨rfl, bz⟩
  have HB := Lib.hid (H1.out.keep bz).bel
  clear bz CZ
  go_wp2
  go_ret
  exact ⟨rfl, HB.out⟩
set_option maxHeartbeats 8000000 in
set_option maxRecDepth 100000 in
theorem nests_many (s nm : ByteArray) (A : Option Addr) (n c : Nat) (l : List (ByteArray × ByteArray)) (w : World) (hG : Gl w) (hs : s.size ≤ 600) (hT : Tg.TagIn w nm A n c l) (hF : ¬ Tg.FewP nm l) : Calls Tryz.prog 6 #[.string s, .agg #[.string nm, .slice A n c]] w fun e w' => e = .returned (.bool true) ∧ Below w.heap.size w w' := by
  have d6 : ¬ (600 : Int) < (s.size : Int) := by omega
  have CF : Hid (∀ W, Below w.heap.size w W → Calls Tryz.prog 19 #[.agg #[.string nm, .slice A n c]] W fun e w' => e = .returned (.bool false) ∧ Below W.heap.size W w') := Lib.hid fun W hW => Tg.few_no nm l n A c W hT.len hT.nsz hT.lsz hT.xsz (hT.rd.keep hW) hF
  clear hT hF
  have HT := Lib.hid (tb0 (nm := nm) (A := A) (n := n) (c := c) hG)
  have CA := Lib.hid (awake_any _ HT.out.gl)
  clear hG
  go_enter Tryz.func6, Tryz.ntmps6
  go_wp2_with fail
  refine CA.out.mono ?_
  rintro e w1 ⟨rfl, b1⟩
  have H1 := Lib.hid (HT.out.keep b1)
  clear b1 CA HT
  have q0 := H1.out.c0
  have q1 := H1.out.c1
  go_wp2_with fail
  refine (CF.out _ H1.out.bel).mono ?_
  rintro e w2 ⟨rfl, b2⟩
  have H2 := Lib.hid (H1.out.keep b2)
  have r0 := H2.out.c0
  have r1 := H2.out.c1
  clear b2 q0 q1 H1 CF
  have CZ := Lib.hid (awake_any _ H2.out.gl)
  go_wp2_with fail
  refine CZ.out.mono ?_
  rintro e wz ⟨rfl, bz⟩
  have HB := Lib.hid (H2.out.keep bz).bel
  clear bz CZ
  go_wp2
  go_ret
  exact ⟨rfl, HB.out⟩
set_option maxHeartbeats 8000000 in
set_option maxRecDepth 100000 in
theorem nests_attrs (s nm : ByteArray) (A : Option Addr) (n c : Nat) (l : List (ByteArray × ByteArray)) (w : World) (hG : Gl w) (hs : s.size ≤ 600) (hT : Tg.TagIn w nm A n c l) (hF : Tg.FewP nm l) (hn : 0 < n) : Calls Tryz.prog 6 #[.string s, .agg #[.string nm, .slice A n c]] w fun e w' => e = .returned (.bool true) ∧ Below w.heap.size w w' := by
  have d6 : ¬ (600 : Int) < (s.size : Int) := by omega
  have d7 : (0 : Int) < (n : Int) := by omega
  have CF : Hid (∀ W, Below w.heap.size w W → Calls Tryz.prog 19 #[.agg #[.string nm, .slice A n c]] W fun e w' => e = .returned (.bool true) ∧ Below W.heap.size W w') := Lib.hid fun W hW => Tg.few_yes nm l n A c W hT.len hT.nsz hT.lsz hT.xsz (hT.rd.keep hW) hF
  clear hT hF
  have HT := Lib.hid (tb0 (nm := nm) (A := A) (n := n) (c := c) hG)
  have CA := Lib.hid (awake_any _ HT.out.gl)
  clear hG
  go_enter Tryz.func6, Tryz.ntmps6
  go_wp2_with fail
  refine CA.out.mono ?_
  rintro e w1 ⟨rfl, b1⟩
  have H1 := Lib.hid (HT.out.keep b1)
  clear b1 CA HT
  have q0 := H1.out.c0
  have q1 := H1.out.c1
  go_wp2_with fail
  refine (CF.out _ H1.out.bel).mono ?_
  rintro e w2 ⟨rfl, b2⟩
  have H2 := Lib.hid (H1.out.keep b2)
  have r0 := H2.out.c0
  have r1 := H2.out.c1
  clear b2 q0 q1 H1 CF
  have CZ := Lib.hid (awake_any _ H2.out.gl)
  go_wp2_with fail
  refine CZ.out.mono ?_
  rintro e wz ⟨rfl, bz⟩
  have HB := Lib.hid (H2.out.keep bz).bel
  clear bz CZ
  go_wp2
  go_ret
  exact ⟨rfl, HB.out⟩
set_option maxHeartbeats 8000000 in
set_option maxRecDepth 100000 in
theorem nests_wrong (s nm : ByteArray) (A : Option Addr) (c : Nat) (w : World) (hG : Gl w) (hs : s.size ≤ 600) (hT : Tg.TagIn w nm A 0 c []) (hF : Tg.FewP nm []) (hR : ¬ Tg.RgP nm []) : Calls Tryz.prog 6 #[.string s, .agg #[.string nm, .slice A 0 c]] w fun e w' => e = .returned (.bool true) ∧ Below w.heap.size w w' := by
  have d6 : ¬ (600 : Int) < (s.size : Int) := by omega
  have CF : Hid (∀ W, Below w.heap.size w W → Calls Tryz.prog 19 #[.agg #[.string nm, .slice A 0 c]] W fun e w' => e = .returned (.bool true) ∧ Below W.heap.size W w') := Lib.hid fun W hW => Tg.few_yes nm [] 0 A c W hT.len hT.nsz hT.lsz hT.xsz (hT.rd.keep hW) hF
  have CR : Hid (∀ W, Below w.heap.size w W → Calls Tryz.prog 20 #[.agg #[.string nm, .slice A 0 c]] W fun e w' => e = .returned (.bool false) ∧ Below W.heap.size W w') := Lib.hid fun W hW => Tg.rgt_no nm [] 0 c A W hT.len (by omega) (by have := hF.1; omega) (fun x hx => by cases hx) (hT.rd.keep hW) hR
  clear hT hF hR
  have HT := Lib.hid (tb0 (nm := nm) (A := A) (n := 0) (c := c) hG)
  have CA := Lib.hid (awake_any _ HT.out.gl)
  clear hG
  go_enter Tryz.func6, Tryz.ntmps6
  go_wp2_with fail
  refine CA.out.mono ?_
  rintro e w1 ⟨rfl, b1⟩
  have H1 := Lib.hid (HT.out.keep b1)
  clear b1 CA HT
  have q0 := H1.out.c0
  have q1 := H1.out.c1
  go_wp2_with fail
  refine (CF.out _ H1.out.bel).mono ?_
  rintro e w2 ⟨rfl, b2⟩
  have H2 := Lib.hid (H1.out.keep b2)
  have r0 := H2.out.c0
  have r1 := H2.out.c1
  clear b2 q0 q1 H1 CF
  go_wp2_with fail
  refine (CR.out _ H2.out.bel).mono ?_
  rintro e w3 ⟨rfl, b3⟩
  have H3 := Lib.hid (H2.out.keep b3)
  have p0 := H3.out.c0
  have p1 := H3.out.c1
  clear b3 r0 r1 H2 CR
  have CZ := Lib.hid (awake_any _ H3.out.gl)
  go_wp2_with fail
  refine CZ.out.mono ?_
  rintro e wz ⟨rfl, bz⟩
  have HB := Lib.hid (H3.out.keep bz).bel
  clear bz CZ
  go_wp2
  go_ret
  exact ⟨rfl, HB.out⟩
end Go.Proofs.YtnomcldpbkinmaaGreatDoor.Wl

/- The walk of WellNests where the tag may be. (Made by a generator.) -/
set_option linter.unusedSimpArgs false
set_option linter.unusedVariables false
namespace Go.Proofs.YtnomcldpbkinmaaGreatDoor.Wl
open Go.RowKit

set_option maxHeartbeats 8000000 in
set_option maxRecDepth 100000 in
theorem nests_bad (s nm : ByteArray) (A : Option Addr) (c : Nat) (w : World) (hG : Gl w) (hs : s.size ≤ 600) (hT : Tg.TagIn w nm A 0 c []) (hF : Tg.FewP nm []) (hR : Tg.RgP nm []) (he : (evF (byts s)).2.2 ≠ 0) : Calls Tryz.prog 6 #[.string s, .agg #[.string nm, .slice A 0 c]] w fun e w' => e = .returned (.bool true) ∧ Below w.heap.size w w' := by
  have d6 : ¬ (600 : Int) < (s.size : Int) := by omega
  have CF : Hid (∀ W, Below w.heap.size w W → Calls Tryz.prog 19 #[.agg #[.string nm, .slice A 0 c]] W fun e w' => e = .returned (.bool true) ∧ Below W.heap.size W w') := Lib.hid fun W hW => Tg.few_yes nm [] 0 A c W hT.len hT.nsz hT.lsz hT.xsz (hT.rd.keep hW) hF
  have CR : Hid (∀ W, Below w.heap.size w W → Calls Tryz.prog 20 #[.agg #[.string nm, .slice A 0 c]] W fun e w' => e = .returned (.bool true) ∧ Below W.heap.size W w') := Lib.hid fun W hW => Tg.rgt_yes nm [] 0 c A W hT.len (by omega) (by have := hF.1; omega) (fun x hx => by cases hx) (hT.rd.keep hW) hR
  have CE : Hid (∀ W, Gl W → Calls Tryz.prog 10 #[.string s] W (EvPost (evF (byts s)) W)) := Lib.hid fun W hW => events_any s W hW (by omega)
  generalize evF (byts s) = x at *
  obtain ⟨l, at_, er⟩ := x
  dsimp only at he
  have t1 : (er != 0) = true := bne_iff_ne.2 he
  clear hT hF hR he
  have HT := Lib.hid (tb0 (nm := nm) (A := A) (n := 0) (c := c) hG)
  have CA := Lib.hid (awake_any _ HT.out.gl)
  clear hG
  go_enter Tryz.func6, Tryz.ntmps6
  go_wp2_with fail
  refine CA.out.mono ?_
  rintro e w1 ⟨rfl, b1⟩
  have H1 := Lib.hid (HT.out.keep b1)
  clear b1 CA HT
  have q0 := H1.out.c0
  have q1 := H1.out.c1
  go_wp2_with fail
  refine (CF.out _ H1.out.bel).mono ?_
  rintro e w2 ⟨rfl, b2⟩
  have H2 := Lib.hid (H1.out.keep b2)
  have r0 := H2.out.c0
  have r1 := H2.out.c1
  clear b2 q0 q1 H1 CF
  go_wp2_with fail
  refine (CR.out _ H2.out.bel).mono ?_
  rintro e w3 ⟨rfl, b3⟩
  have H3 := Lib.hid (H2.out.keep b3)
  have p0 := H3.out.c0
  have p1 := H3.out.c1
  clear b3 r0 r1 H2 CR
  go_wp2_with fail
  refine (CE.out _ H3.out.gl).mono ?_
  rintro e w4 ⟨vl, rfl, evl, b4⟩
  obtain ⟨Al, cl, rfl, Rl, Ml⟩ := evl.rde
  have H4 := Lib.hid (H3.out.keep b4)
  have Ll := Lib.hid Rl
  have HB := Lib.hid H4.out.bel
  clear evl b4 Rl Ml CE H3 p0 p1
  go_wp2
  go_ret
  exact ⟨rfl, HB.out⟩
set_option maxHeartbeats 8000000 in
set_option maxRecDepth 100000 in
theorem nests_decl (s nm : ByteArray) (A : Option Addr) (c : Nat) (w : World) (hG : Gl w) (hs : s.size ≤ 600) (hT : Tg.TagIn w nm A 0 c []) (hF : Tg.FewP nm []) (hR : Tg.RgP nm []) (he : (evF (byts s)).2.2 = 0) (h5 : 5 ≤ s.size ∧ (s.extract 0 5).toList = [60, 63, 120, 109, 108]) : Calls Tryz.prog 6 #[.string s, .agg #[.string nm, .slice A 0 c]] w fun e w' => e = .returned (.bool true) ∧ Below w.heap.size w w' := by
  have d6 : ¬ (600 : Int) < (s.size : Int) := by omega
  have CF : Hid (∀ W, Below w.heap.size w W → Calls Tryz.prog 19 #[.agg #[.string nm, .slice A 0 c]] W fun e w' => e = .returned (.bool true) ∧ Below W.heap.size W w') := Lib.hid fun W hW => Tg.few_yes nm [] 0 A c W hT.len hT.nsz hT.lsz hT.xsz (hT.rd.keep hW) hF
  have CR : Hid (∀ W, Below w.heap.size w W → Calls Tryz.prog 20 #[.agg #[.string nm, .slice A 0 c]] W fun e w' => e = .returned (.bool true) ∧ Below W.heap.size W w') := Lib.hid fun W hW => Tg.rgt_yes nm [] 0 c A W hT.len (by omega) (by have := hF.1; omega) (fun x hx => by cases hx) (hT.rd.keep hW) hR
  have CE : Hid (∀ W, Gl W → Calls Tryz.prog 10 #[.string s] W (EvPost (evF (byts s)) W)) := Lib.hid fun W hW => events_any s W hW (by omega)
  generalize evF (byts s) = x at *
  obtain ⟨l, at_, er⟩ := x
  dsimp only at he
  subst he
  have t2 : (5 : Int) ≤ (s.size : Int) := by omega
  have t3 := h5.2
  clear hT hF hR h5
  have HT := Lib.hid (tb0 (nm := nm) (A := A) (n := 0) (c := c) hG)
  have CA := Lib.hid (awake_any _ HT.out.gl)
  clear hG
  go_enter Tryz.func6, Tryz.ntmps6
  go_wp2_with fail
  refine CA.out.mono ?_
  rintro e w1 ⟨rfl, b1⟩
  have H1 := Lib.hid (HT.out.keep b1)
  clear b1 CA HT
  have q0 := H1.out.c0
  have q1 := H1.out.c1
  go_wp2_with fail
  refine (CF.out _ H1.out.bel).mono ?_
  rintro e w2 ⟨rfl, b2⟩
  have H2 := Lib.hid (H1.out.keep b2)
  have r0 := H2.out.c0
  have r1 := H2.out.c1
  clear b2 q0 q1 H1 CF
  go_wp2_with fail
  refine (CR.out _ H2.out.bel).mono ?_
  rintro e w3 ⟨rfl, b3⟩
  have H3 := Lib.hid (H2.out.keep b3)
  have p0 := H3.out.c0
  have p1 := H3.out.c1
  clear b3 r0 r1 H2 CR
  go_wp2_with fail
  refine (CE.out _ H3.out.gl).mono ?_
  rintro e w4 ⟨vl, rfl, evl, b4⟩
  obtain ⟨Al, cl, rfl, Rl, Ml⟩ := evl.rde
  have H4 := Lib.hid (H3.out.keep b4)
  have Ll := Lib.hid Rl
  have HB := Lib.hid H4.out.bel
  clear evl b4 Rl Ml CE H3 p0 p1
  go_wp2
  go_ret
  exact ⟨rfl, HB.out⟩
set_option maxHeartbeats 8000000 in
set_option maxRecDepth 100000 in
theorem nests_go (s nm : ByteArray) (A : Option Addr) (c : Nat) (w : World) (hG : Gl w) (hs : s.size ≤ 600) (hT : Tg.TagIn w nm A 0 c []) (hF : Tg.FewP nm []) (hR : Tg.RgP nm []) (he : (evF (byts s)).2.2 = 0) (h5 : ¬ (5 ≤ s.size ∧ (s.extract 0 5).toList = [60, 63, 120, 109, 108])) : Calls Tryz.prog 6 #[.string s, .agg #[.string nm, .slice A 0 c]] w fun e w' => e = .returned (.bool true) ∧ Below w.heap.size w w' := by
  have d6 : ¬ (600 : Int) < (s.size : Int) := by omega
  have CF : Hid (∀ W, Below w.heap.size w W → Calls Tryz.prog 19 #[.agg #[.string nm, .slice A 0 c]] W fun e w' => e = .returned (.bool true) ∧ Below W.heap.size W w') := Lib.hid fun W hW => Tg.few_yes nm [] 0 A c W hT.len hT.nsz hT.lsz hT.xsz (hT.rd.keep hW) hF
  have CR : Hid (∀ W, Below w.heap.size w W → Calls Tryz.prog 20 #[.agg #[.string nm, .slice A 0 c]] W fun e w' => e = .returned (.bool true) ∧ Below W.heap.size W w') := Lib.hid fun W hW => Tg.rgt_yes nm [] 0 c A W hT.len (by omega) (by have := hF.1; omega) (fun x hx => by cases hx) (hT.rd.keep hW) hR
  have CE : Hid (∀ W, Gl W → Calls Tryz.prog 10 #[.string s] W (EvPost (evF (byts s)) W)) := Lib.hid fun W hW => events_any s W hW (by omega)
  have hN := hR.1
  have hz : nm.size ≤ 200 := hF.1
  obtain ⟨nd, zd, pd, hrun, hfin⟩ := evF_word (byts s)
  have hfn := hfin he
  have htw := ev_two (L := byts s) [97, 47, 62] (tk := ⟨1, [97], true, false⟩) (n := 4) rfl (fun z => by cases z <;> kernel_rfl) _ 0 st0 [] (Nat.le_refl _) (Nat.zero_le _) he
  have hnest := nest_of hN (decl_five h5) he
  have eM : byts (⟨#[60]⟩ ++ nm ++ ⟨#[62]⟩ ++ s ++ ⟨#[60, 47]⟩ ++ nm ++ ⟨#[62]⟩) = lstN (byts nm) (byts s) (47 :: (byts nm ++ [62])) := by
    rw [byts_cat, byts_cat, byts_cat, byts_cat, byts_cat, byts_cat]
    show [60] ++ byts nm ++ [62] ++ byts s ++ [60, 47] ++ byts nm ++ [62] = _
    simp [lstN]
  have eT : byts (s ++ ⟨#[60, 97, 47, 62]⟩) = byts s ++ 60 :: [97, 47, 62] := by rw [byts_cat]; rfl
  have eF : byts (⟨#[60]⟩ ++ nm ++ ⟨#[47, 62]⟩) = 60 :: ((byts nm ++ [47]) ++ 62 :: []) := by
    rw [byts_cat, byts_cat]
    show [60] ++ byts nm ++ [47, 62] = _
    simp
  have sz1 : (⟨#[60]⟩ : ByteArray).size = 1 := rfl
  have sz2 : (⟨#[62]⟩ : ByteArray).size = 1 := rfl
  have sz3 : (⟨#[60, 47]⟩ : ByteArray).size = 2 := rfl
  have sz4 : (⟨#[60, 97, 47, 62]⟩ : ByteArray).size = 4 := rfl
  have sz5 : (⟨#[47, 62]⟩ : ByteArray).size = 2 := rfl
  have CM : Hid (∀ W, Gl W → Calls Tryz.prog 10 #[.string (⟨#[60]⟩ ++ nm ++ ⟨#[62]⟩ ++ s ++ ⟨#[60, 47]⟩ ++ nm ++ ⟨#[62]⟩)] W (EvPost (evF (lstN (byts nm) (byts s) (47 :: (byts nm ++ [62])))) W)) := Lib.hid fun W hW => by rw [← eM]; exact events_any _ W hW (by rw [size_cat, size_cat, size_cat, size_cat, size_cat, size_cat]; omega)
  have CT : Hid (∀ W, Gl W → Calls Tryz.prog 10 #[.string (s ++ ⟨#[60, 97, 47, 62]⟩)] W (EvPost ((evF (byts s ++ 60 :: [97, 47, 62])).1, s.size, 11) W)) := Lib.hid fun W hW => by
    have h := events_any (s ++ ⟨#[60, 97, 47, 62]⟩) W hW (by rw [size_cat]; omega)
    rw [eT] at h
    refine h.mono fun e w' hp => ?_
    have e2 : evF (byts s ++ 60 :: [97, 47, 62]) = ((evF (byts s ++ 60 :: [97, 47, 62])).1, s.size, 11) := by
      refine Prod.ext rfl ?_
      rw [← byts_len]
      exact htw
    rw [e2] at hp
    exact hp
  have CFi : Hid (∀ W, Gl W → Calls Tryz.prog 10 #[.string (⟨#[60]⟩ ++ nm ++ ⟨#[47, 62]⟩)] W (EvPost (evF (60 :: ((byts nm ++ [47]) ++ 62 :: []))) W)) := Lib.hid fun W hW => by rw [← eF]; exact events_any _ W hW (by rw [size_cat, size_cat]; omega)
  have n1 : (⟨#[60]⟩ ++ nm).size ≤ 1000 := by rw [size_cat]; omega
  have n2 : (⟨#[60]⟩ ++ nm ++ ⟨#[62]⟩).size ≤ 1000 := by rw [size_cat, size_cat]; omega
  have n3 : (⟨#[60]⟩ ++ nm ++ ⟨#[62]⟩ ++ s).size ≤ 1000 := by rw [size_cat, size_cat, size_cat]; omega
  have n4 : (⟨#[60]⟩ ++ nm ++ ⟨#[62]⟩ ++ s ++ ⟨#[60, 47]⟩).size ≤ 1000 := by rw [size_cat, size_cat, size_cat, size_cat]; omega
  have n5 : (⟨#[60]⟩ ++ nm ++ ⟨#[62]⟩ ++ s ++ ⟨#[60, 47]⟩ ++ nm).size ≤ 2000 := by rw [size_cat, size_cat, size_cat, size_cat, size_cat]; omega
  clear eM eT eF sz1 sz2 sz3 sz4 sz5 htw hfin
  have hfew := evF_few (byts s)
  rw [byts_len] at hfew
  generalize (evF (byts s ++ 60 :: [97, 47, 62])).1 = l2 at *
  have t5 : ¬ ((5 : Int) ≤ (s.size : Int)) ∨ ((5 : Int) ≤ (s.size : Int) ∧ ((s.extract 0 5).toList == [60, 63, 120, 109, 108]) = false) := by
    by_cases c5 : 5 ≤ s.size
    · exact .inr ⟨by omega, by rw [beq_eq_false_iff_ne]; exact fun e => h5 ⟨c5, e⟩⟩
    · exact .inl (by omega)
  generalize evF (lstN (byts nm) (byts s) (47 :: (byts nm ++ [62]))) = y at *
  generalize evF (60 :: ((byts nm ++ [47]) ++ 62 :: [])) = z at *
  generalize evF (byts s) = x at *
  obtain ⟨l, at_, er⟩ := x
  obtain ⟨m, atm, erm⟩ := y
  obtain ⟨f, atf, erf⟩ := z
  dsimp only at he hnest hrun hfn hfew
  subst he
  clear hT hF hR h5 hN n1 n2 n3 n4 n5
  rcases hnest with hnest | hnest
  · obtain ⟨e0, he0, h1, h2⟩ := hnest
    obtain rfl : erm = e0 := h1
    obtain rfl : erf = erm := h2
    have t6 : (erf != 0) = true := bne_iff_ne.2 he0
    have t7 : (erf == erf) = true := beq_self_eq_true _
    clear hrun hfn he0
    rcases t5 with t5 | ⟨t5, t8⟩
    all_goals
      have HT := Lib.hid (tb0 (nm := nm) (A := A) (n := 0) (c := c) hG)
      have CA := Lib.hid (awake_any _ HT.out.gl)
      clear hG
      go_enter Tryz.func6, Tryz.ntmps6
      go_wp2_with fail
      refine CA.out.mono ?_
      rintro e w1 ⟨rfl, b1⟩
      have H1 := Lib.hid (HT.out.keep b1)
      clear b1 CA HT
      have q0 := H1.out.c0
      have q1 := H1.out.c1
      go_wp2_with fail
      refine (CF.out _ H1.out.bel).mono ?_
      rintro e w2 ⟨rfl, b2⟩
      have H2 := Lib.hid (H1.out.keep b2)
      have r0 := H2.out.c0
      have r1 := H2.out.c1
      clear b2 q0 q1 H1 CF
      go_wp2_with fail
      refine (CR.out _ H2.out.bel).mono ?_
      rintro e w3 ⟨rfl, b3⟩
      have H3 := Lib.hid (H2.out.keep b3)
      have p0 := H3.out.c0
      have p1 := H3.out.c1
      clear b3 r0 r1 H2 CR
      go_wp2_with fail
      refine (CE.out _ H3.out.gl).mono ?_
      rintro e w4 ⟨vl, rfl, evl, b4⟩
      obtain ⟨Al, cl, rfl, Rl, Ml⟩ := evl.rde
      have H4 := Lib.hid (H3.out.keep b4)
      have Ll := Lib.hid Rl
      clear evl b4 Rl CE H3 p0 p1
      have s0 := H4.out.c0
      have s1 := H4.out.c1
      go_wp2_with fail
      refine (CM.out _ H4.out.gl).mono ?_
      rintro e w5 ⟨vm, rfl, evm, b5⟩
      obtain ⟨Am, cm, rfl, Rm, Mm⟩ := evm.rde
      have H5 := Lib.hid (H4.out.keep b5)
      have Lm := Lib.hid Rm
      have Ll := Lib.hid (Ll.out.keep b5)
      clear evm b5 Rm CM H4 s0 s1
      go_wp2_with fail
      refine (CT.out _ H5.out.gl).mono ?_
      rintro e w6 ⟨vt, rfl, evt, b6⟩
      obtain ⟨At, ct, rfl, Rt, Mt⟩ := evt.rde
      have H6 := Lib.hid (H5.out.keep b6)
      have Lt := Lib.hid Rt
      have Ll := Lib.hid (Ll.out.keep b6)
      have Lm := Lib.hid (Lm.out.keep b6)
      clear evt b6 Rt Lt Mt CT H5
      have s0 := H6.out.c0
      have s1 := H6.out.c1
      go_wp2_with fail
      refine (CFi.out _ H6.out.gl).mono ?_
      rintro e w7 ⟨vf, rfl, evf, b7⟩
      obtain ⟨Af, cf, rfl, Rf, Mf⟩ := evf.rde
      have H7 := Lib.hid (H6.out.keep b7)
      have Lf := Lib.hid Rf
      have Ll := Lib.hid (Ll.out.keep b7)
      have Lm := Lib.hid (Lm.out.keep b7)
      clear evf b7 Rf CFi H6 s0 s1
      have HB := Lib.hid H7.out.bel
      clear H7 Ll Lm Lf Ml Mm Mf
      go_wp2
      go_ret
      exact ⟨rfl, HB.out⟩
  · obtain ⟨nn, kk, hf, hm⟩ := hnest
    injection hf with hf1 hf2
    injection hf2 with hf2 hf3
    subst hf1 hf3
    clear hf2
    obtain ⟨rfl, rfl⟩ := hfn
    rcases hm with hm | ⟨u, v, mm, hm⟩
    · obtain rfl : erm = 13 := hm
      have HRun := Lib.hid hrun
      clear hrun
      rcases t5 with t5 | ⟨t5, t8⟩
      all_goals
        have HT := Lib.hid (tb0 (nm := nm) (A := A) (n := 0) (c := c) hG)
        have CA := Lib.hid (awake_any _ HT.out.gl)
        clear hG
        go_enter Tryz.func6, Tryz.ntmps6
        go_wp2_with fail
        refine CA.out.mono ?_
        rintro e w1 ⟨rfl, b1⟩
        have H1 := Lib.hid (HT.out.keep b1)
        clear b1 CA HT
        have q0 := H1.out.c0
        have q1 := H1.out.c1
        go_wp2_with fail
        refine (CF.out _ H1.out.bel).mono ?_
        rintro e w2 ⟨rfl, b2⟩
        have H2 := Lib.hid (H1.out.keep b2)
        have r0 := H2.out.c0
        have r1 := H2.out.c1
        clear b2 q0 q1 H1 CF
        go_wp2_with fail
        refine (CR.out _ H2.out.bel).mono ?_
        rintro e w3 ⟨rfl, b3⟩
        have H3 := Lib.hid (H2.out.keep b3)
        have p0 := H3.out.c0
        have p1 := H3.out.c1
        clear b3 r0 r1 H2 CR
        go_wp2_with fail
        refine (CE.out _ H3.out.gl).mono ?_
        rintro e w4 ⟨vl, rfl, evl, b4⟩
        obtain ⟨Al, cl, rfl, Rl, Ml⟩ := evl.rde
        have H4 := Lib.hid (H3.out.keep b4)
        have Ll := Lib.hid Rl
        clear evl b4 Rl CE H3 p0 p1
        have s0 := H4.out.c0
        have s1 := H4.out.c1
        go_wp2_with fail
        refine (CM.out _ H4.out.gl).mono ?_
        rintro e w5 ⟨vm, rfl, evm, b5⟩
        obtain ⟨Am, cm, rfl, Rm, Mm⟩ := evm.rde
        have H5 := Lib.hid (H4.out.keep b5)
        have Lm := Lib.hid Rm
        have Ll := Lib.hid (Ll.out.keep b5)
        clear evm b5 Rm CM H4 s0 s1
        go_wp2_with fail
        refine (CT.out _ H5.out.gl).mono ?_
        rintro e w6 ⟨vt, rfl, evt, b6⟩
        obtain ⟨At, ct, rfl, Rt, Mt⟩ := evt.rde
        have H6 := Lib.hid (H5.out.keep b6)
        have Lt := Lib.hid Rt
        have Ll := Lib.hid (Ll.out.keep b6)
        have Lm := Lib.hid (Lm.out.keep b6)
        clear evt b6 Rt Lt Mt CT H5
        have s0 := H6.out.c0
        have s1 := H6.out.c1
        go_wp2_with fail
        refine (CFi.out _ H6.out.gl).mono ?_
        rintro e w7 ⟨vf, rfl, evf, b7⟩
        obtain ⟨Af, cf, rfl, Rf, Mf⟩ := evf.rde
        have H7 := Lib.hid (H6.out.keep b7)
        have Lf := Lib.hid Rf
        have Ll := Lib.hid (Ll.out.keep b7)
        have Lm := Lib.hid (Lm.out.keep b7)
        clear evf b7 Rf CFi H6 s0 s1
        have CD := Lib.hid (rdep_any l l.length Al cl w7 rfl (Nat.le_trans Ml.1 Ml.2) Ll.out _ _ _ HRun.out)
        have HB := Lib.hid H7.out.bel
        clear H7 Ll Lm Lf Ml Mm Mf HRun
        go_wp2_with fail
        refine CD.out.mono ?_
        rintro e w8 ⟨rfl, rfl⟩
        clear CD
        go_wp2
        go_ret
        exact ⟨rfl, HB.out⟩
    · injection hm with hm1 hm2
      injection hm2 with hm2 hm3
      subst hm3
      clear hm2
      have HRun := Lib.hid hrun
      have HM := Lib.hid hm1
      clear hrun hm1
      rcases t5 with t5 | ⟨t5, t8⟩
      all_goals
        have HT := Lib.hid (tb0 (nm := nm) (A := A) (n := 0) (c := c) hG)
        have CA := Lib.hid (awake_any _ HT.out.gl)
        clear hG
        go_enter Tryz.func6, Tryz.ntmps6
        go_wp2_with fail
        refine CA.out.mono ?_
        rintro e w1 ⟨rfl, b1⟩
        have H1 := Lib.hid (HT.out.keep b1)
        clear b1 CA HT
        have q0 := H1.out.c0
        have q1 := H1.out.c1
        go_wp2_with fail
        refine (CF.out _ H1.out.bel).mono ?_
        rintro e w2 ⟨rfl, b2⟩
        have H2 := Lib.hid (H1.out.keep b2)
        have r0 := H2.out.c0
        have r1 := H2.out.c1
        clear b2 q0 q1 H1 CF
        go_wp2_with fail
        refine (CR.out _ H2.out.bel).mono ?_
        rintro e w3 ⟨rfl, b3⟩
        have H3 := Lib.hid (H2.out.keep b3)
        have p0 := H3.out.c0
        have p1 := H3.out.c1
        clear b3 r0 r1 H2 CR
        go_wp2_with fail
        refine (CE.out _ H3.out.gl).mono ?_
        rintro e w4 ⟨vl, rfl, evl, b4⟩
        obtain ⟨Al, cl, rfl, Rl, Ml⟩ := evl.rde
        have H4 := Lib.hid (H3.out.keep b4)
        have Ll := Lib.hid Rl
        clear evl b4 Rl CE H3 p0 p1
        have s0 := H4.out.c0
        have s1 := H4.out.c1
        go_wp2_with fail
        refine (CM.out _ H4.out.gl).mono ?_
        rintro e w5 ⟨vm, rfl, evm, b5⟩
        obtain ⟨Am, cm, rfl, Rm, Mm⟩ := evm.rde
        have H5 := Lib.hid (H4.out.keep b5)
        have Lm := Lib.hid Rm
        have Ll := Lib.hid (Ll.out.keep b5)
        clear evm b5 Rm CM H4 s0 s1
        go_wp2_with fail
        refine (CT.out _ H5.out.gl).mono ?_
        rintro e w6 ⟨vt, rfl, evt, b6⟩
        obtain ⟨At, ct, rfl, Rt, Mt⟩ := evt.rde
        have H6 := Lib.hid (H5.out.keep b6)
        have Lt := Lib.hid Rt
        have Ll := Lib.hid (Ll.out.keep b6)
        have Lm := Lib.hid (Lm.out.keep b6)
        clear evt b6 Rt Lt Mt CT H5
        have s0 := H6.out.c0
        have s1 := H6.out.c1
        go_wp2_with fail
        refine (CFi.out _ H6.out.gl).mono ?_
        rintro e w7 ⟨vf, rfl, evf, b7⟩
        obtain ⟨Af, cf, rfl, Rf, Mf⟩ := evf.rde
        have H7 := Lib.hid (H6.out.keep b7)
        have Lf := Lib.hid Rf
        have Ll := Lib.hid (Ll.out.keep b7)
        have Lm := Lib.hid (Lm.out.keep b7)
        clear evf b7 Rf CFi H6 s0 s1
        have CD := Lib.hid (rdep_any l l.length Al cl w7 rfl (Nat.le_trans Ml.1 Ml.2) Ll.out _ _ _ HRun.out)
        have hlm : m.length = 1 + ((toldF u).length + l.length) + ((toldF v).length + 1) := by rw [HM.out]; simp; omega
        have hu1 := told_len u
        have hv1 := told_len v
        have HM0 : Hid (m[0]? = some (.opn nn [])) := Lib.hid (by rw [HM.out]; rfl)
        have HHd := Lib.hid (run_head HRun.out)
        have HB := Lib.hid H7.out.bel
        obtain ⟨gm, om, _, _, _, rfl, _, _, _, _, _, y1, y2, _, _⟩ := Lm.out 0 _ HM0.out
        obtain ⟨x0, hx0, _⟩ := HHd.out
        obtain ⟨gl, ol, _, _, _, rfl, _⟩ := Ll.out 0 _ hx0
        obtain ⟨gf, of, _, _, _, rfl, _, _, _, _, _, z1, z2, _, _⟩ := Lf.out 0 (.opn nn []) rfl
        have y1' : w7.cell? ⟨gm, om + 1, none⟩ = some (.string nn.1) := by rw [Nat.zero_mul, Nat.add_zero] at y1; exact y1
        have y2' : w7.cell? ⟨gm, om + 2, none⟩ = some (.string nn.2) := by rw [Nat.zero_mul, Nat.add_zero] at y2; exact y2
        have z1' : w7.cell? ⟨gf, of + 1, none⟩ = some (.string nn.1) := by rw [Nat.zero_mul, Nat.add_zero] at z1; exact z1
        have z2' : w7.cell? ⟨gf, of + 2, none⟩ = some (.string nn.2) := by rw [Nat.zero_mul, Nat.add_zero] at z2; exact z2
        have hlo1 : gm < w7.heap.size := Lib.lt_of_cell y1'
        have hlo2 : gf < w7.heap.size := Lib.lt_of_cell z1'
        clear y1 y2 z1 z2 hx0 H7 Mf Lf
        obtain ⟨qn, hqn⟩ : ∃ qn, m.length = qn + 1 := ⟨m.length - 1, by omega⟩
        obtain ⟨ln, hln⟩ : ∃ ln, l.length = ln := ⟨_, rfl⟩
        have HQN := Lib.hid hqn
        have HLN := Lib.hid hln
        rw [hqn] at hlm Mm ⊢
        rw [hln] at hlm hfew Ml CD ⊢
        have e1 : IntKind.i64.wrap ((ln : Int) + 2) = (ln : Int) + 2 := IntWalk.i64_in _ (by omega)
        have e2 : ¬ (((qn + 1 : Nat) : Int) < (ln : Int) + 2) := by omega
        have e3 : IntKind.i64.wrap (((qn + 1 : Nat) : Int) - 1) = (qn : Int) := by rw [IntWalk.i64_in _ (by omega)]; omega
        have hqb : qn ≤ 5000 := by omega
        have hlb : ln ≤ 5000 := by omega
        have hq0 : 0 < qn := by omega
        have hm1 := Mm.1
        have hm2 := Mm.2
        have hl1 := Ml.1
        have hl2 := Ml.2
        unfold maxLen at hm2 hl2
        clear hqn hln hlm hu1 hv1 hfew Mm Ml
        go_wp2_with fail
        refine CD.out.mono ?_
        rintro e w8 ⟨rfl, rfl⟩
        clear CD
        go_wp2_with fail
        go_loopw [17, 18] (fun kv iv wr => NsRel qn ln (toldF u) l w8 kv iv wr) (fun _ iv _ => qn - (intOf iv).toNat)
        case atStart => exact ⟨1, 0, rfl, rfl, by omega, Nat.zero_le _, Lib.hid (nsk0 _ _), Lib.hid (Below.refl _ _)⟩
        case round =>
          obtain ⟨i, k, rfl, rfl, hi, hk, hK, hBr⟩ := hrel
          clear e1 e2 hq0
          by_cases hlt : i < qn
          · obtain ⟨x, hx, hcase⟩ := ns_step HM.out HHd.out hK.out (by rw [HQN.out]; omega)
            have Rm := Lib.hid ((Lm.out.keep hBr.out).one hx)
            have j1 : (i : Int) < (qn : Int) := by omega
            have j2 : (0 : Int) ≤ (i : Int) := by omega
            have j7 : (i : Int) < ((qn + 1 : Nat) : Int) := by omega
            have jc : i + 1 ≤ cm := by omega
            clear hK
            rw [HLN.out] at hcase
            rcases hcase with ⟨y, hkl, hy, rfl, hK2⟩ | ⟨hk2, hK2, ⟨y, hkl, hy, hne⟩ | hkl⟩
            · have Rl := Lib.hid ((Ll.out.keep hBr.out).one hy)
              have CS : Hid (∀ W k1 k2, Below wr.heap.size wr W → Calls Tryz.prog 12 #[.slice (some ⟨gm, om + i * 5, none⟩) 1 k1, .slice (some ⟨gl, ol + k * 5, none⟩) 1 k2] W fun e w' => e = .returned (.bool true) ∧ Below W.heap.size W w') := Lib.hid fun W k1 k2 hW => same_any [x] 1 _ _ k1 k2 W rfl (by decide) (Rm.out.keep hW) (Rl.out.keep hW)
              have HK2 := Lib.hid hK2
              have kc : k + 1 ≤ cl := by omega
              clear Rm Rl hx hy hK2 hk
              go_wp2_with fail
              have hci : ¬ cm = i := by omega
              have hck : ¬ cl = k := by omega
              have i1 : (k : Int) < (ln : Int) := by omega
              have i0 : decide (k < ln) = true := decide_eq_true (by omega)
              have ii : decide ((k : Int) < (ln : Int)) = true := decide_eq_true (by omega)
              have i2 : (0 : Int) ≤ (k : Int) := by omega
              have i5 : (k : Int) + 1 ≤ (cl : Int) := by omega
              have i6 : (0 : Int) ≤ (k : Int) + 1 := by omega
              have i8 : ((k : Int) + 1).toNat = k + 1 := by omega
              have i9 : k + 1 - k = 1 := by omega
              have j5 : (i : Int) + 1 ≤ (cm : Int) := by omega
              have j6 : (0 : Int) ≤ (i : Int) + 1 := by omega
              have j8 : ((i : Int) + 1).toNat = i + 1 := by omega
              have j9 : i + 1 - i = 1 := by omega
              have i4 : (k : Int) ≤ (k : Int) + 1 := by omega
              have j4 : (i : Int) ≤ (i : Int) + 1 := by omega
              have i3 : IntKind.i64.wrap ((k : Int) + 1) = (k : Int) + 1 := IntWalk.i64_in _ (by omega)
              have j3 : IntKind.i64.wrap ((i : Int) + 1) = (i : Int) + 1 := IntWalk.i64_in _ (by omega)
              go_region_held3 (fun _ => True) (trivial) (first | (go_at_call 12; refine (CS.out _ _ _ (Below.refl _ wr).drew).mono ?_; rintro e w9 ⟨rfl, hb9⟩; have B9 := Lib.hid (hBr.out.trans (((Below.refl _ wr).drew.trans hb9).mono hBr.out.size)); clear hb9) | fail)
              clear i3 j3
              go_wp2
              go_roundw
              case rel => exact ⟨i + 1, k + 1, by go_num, by go_num, by omega, by omega, HK2, B9⟩
              case measure => simp only [intOf]; omega
            · have Rl := Lib.hid ((Ll.out.keep hBr.out).one hy)
              have CS : Hid (∀ W k1 k2, Below wr.heap.size wr W → Calls Tryz.prog 12 #[.slice (some ⟨gm, om + i * 5, none⟩) 1 k1, .slice (some ⟨gl, ol + k * 5, none⟩) 1 k2] W fun e w' => e = .returned (.bool false) ∧ Below W.heap.size W w') := Lib.hid fun W k1 k2 hW => same_no x y _ _ k1 k2 W (by rw [hk2]; exact fun e => hne e.symm) (Rm.out.keep hW) (Rl.out.keep hW)
              have HK2 := Lib.hid hK2
              have CX : Hid (∀ W, Below wr.heap.size wr W → W.cell? ⟨gm, om + i * 5, none⟩ = some (.int .i64 2)) := Lib.hid fun W hW => by
                obtain ⟨b9, o9, _, _, _, q9, _, _, _, _, q0, _⟩ := (Rm.out.keep hW) 0 x rfl
                injection q9 with q9
                injection q9 with q91 q92
                subst q91 q92
                rw [hk2] at q0
                simpa using q0
              have kc : k + 1 ≤ cl := by omega
              clear Rm Rl hx hy hK2 hk hk2 hne
              go_wp2_with fail
              have hci : ¬ cm = i := by omega
              have hck : ¬ cl = k := by omega
              have i1 : (k : Int) < (ln : Int) := by omega
              have i0 : decide (k < ln) = true := decide_eq_true (by omega)
              have ii : decide ((k : Int) < (ln : Int)) = true := decide_eq_true (by omega)
              have i2 : (0 : Int) ≤ (k : Int) := by omega
              have i5 : (k : Int) + 1 ≤ (cl : Int) := by omega
              have i6 : (0 : Int) ≤ (k : Int) + 1 := by omega
              have i8 : ((k : Int) + 1).toNat = k + 1 := by omega
              have i9 : k + 1 - k = 1 := by omega
              have j5 : (i : Int) + 1 ≤ (cm : Int) := by omega
              have j6 : (0 : Int) ≤ (i : Int) + 1 := by omega
              have j8 : ((i : Int) + 1).toNat = i + 1 := by omega
              have j9 : i + 1 - i = 1 := by omega
              have i4 : (k : Int) ≤ (k : Int) + 1 := by omega
              have j4 : (i : Int) ≤ (i : Int) + 1 := by omega
              have i3 : IntKind.i64.wrap ((k : Int) + 1) = (k : Int) + 1 := IntWalk.i64_in _ (by omega)
              have j3 : IntKind.i64.wrap ((i : Int) + 1) = (i : Int) + 1 := IntWalk.i64_in _ (by omega)
              go_region_held3 (fun _ => True) (trivial) (first | (go_at_call 12; refine (CS.out _ _ _ (Below.refl _ wr).drew).mono ?_; rintro e w9 ⟨rfl, hb9⟩; have B9 := Lib.hid (hBr.out.trans (((Below.refl _ wr).drew.trans hb9).mono hBr.out.size)); have x9 := CX.out _ ((Below.refl _ wr).drew.trans hb9); clear hb9) | fail)
              clear i3 j3
              go_wp2
              go_roundw
              case rel => exact ⟨i + 1, k, rfl, by go_num, by omega, by omega, HK2, B9⟩
              case measure => simp only [intOf]; omega
            · have HK2 := Lib.hid hK2
              obtain ⟨b9, o9, _, _, _, q9, _, _, _, _, q0, _⟩ := Rm.out 0 x rfl
              injection q9 with q9
              injection q9 with q91 q92
              subst q91 q92
              rw [hk2] at q0
              have x9 : wr.cell? ⟨gm, om + i * 5, none⟩ = some (.int .i64 2) := by simpa using q0
              have hkl2 : ln ≤ k := by omega
              clear Rm hx hK2 hk2 q0 hkl
              go_wp2_with fail
              have i1 : decide ((k : Int) < (ln : Int)) = false := decide_eq_false (by omega)
              have i0 : decide (k < ln) = false := decide_eq_false (by omega)
              clear hkl2
              go_quiet (fail)
              go_wp2
              go_roundw
              case rel => exact ⟨i + 1, k, rfl, by go_num, by omega, by omega, HK2, Lib.hid (below_drewN hBr.out _)⟩
              case measure => simp only [intOf]; omega
          · have hke := ns_end HM.out hK.out (by rw [HQN.out]; omega) (by rw [HQN.out]; omega)
            rw [HLN.out] at hke
            have j1 : ¬ ((i : Int) < (qn : Int)) := by omega
            have j2 : ((k : Int) == (ln : Int)) = true := by rw [beq_iff_eq]; omega
            have j3 : (0 : Int) < ((qn + 1 : Nat) : Int) := by omega
            have s1 := (hBr.out.cell (p := ⟨gm, om + 1, none⟩) hlo1).trans y1'
            have s2 := (hBr.out.cell (p := ⟨gm, om + 2, none⟩) hlo1).trans y2'
            have s3 := (hBr.out.cell (p := ⟨gf, of + 1, none⟩) hlo2).trans z1'
            have s4 := (hBr.out.cell (p := ⟨gf, of + 2, none⟩) hlo2).trans z2'
            have HBB := Lib.hid (HB.out.trans (hBr.out.mono HB.out.size))
            clear hke hK y1' y2' z1' z2' hlo1 hlo2 hk hi hlt
            go_wp2_with fail
            go_quiet (fail)
            go_wp2
            go_ret
            exact ⟨rfl, below_drewN HBB.out _⟩
end Go.Proofs.YtnomcldpbkinmaaGreatDoor.Wl

/- WellNests, whole. -/
set_option linter.unusedSimpArgs false
set_option linter.unusedVariables false
namespace Go.Proofs.YtnomcldpbkinmaaGreatDoor.Wl
open Go.RowKit

theorem nests_top (s nm : ByteArray) (A : Option Addr) (n c : Nat) (l : List (ByteArray × ByteArray)) (w : World) (hs : s.size ≤ maxLen) (hT : Tg.TagIn w nm A n c l) (hG : Gl w) :
    Calls Tryz.prog 6 #[.string s, .agg #[.string nm, .slice A n c]] w fun e w' => e = .returned (.bool true) ∧ Below w.heap.size w w' := by
  by_cases h6 : 600 < s.size
  · exact nests_long s nm A n c w hG hs h6
  have h6' : s.size ≤ 600 := by omega
  by_cases hF : Tg.FewP nm l
  · by_cases hn : 0 < n
    · exact nests_attrs s nm A n c l w hG h6' hT hF hn
    · have hl : l = [] := List.eq_nil_of_length_eq_zero (by have := hT.len; omega)
      have hn0 : n = 0 := by omega
      subst hl hn0
      by_cases hR : Tg.RgP nm []
      · by_cases he : (evF (byts s)).2.2 = 0
        · by_cases h5 : 5 ≤ s.size ∧ (s.extract 0 5).toList = [60, 63, 120, 109, 108]
          · exact nests_decl s nm A c w hG h6' hT hF hR he h5
          · exact nests_go s nm A c w hG h6' hT hF hR he h5
        · exact nests_bad s nm A c w hG h6' hT hF hR he
      · exact nests_wrong s nm A c w hG h6' hT hF hR
  · exact nests_many s nm A n c l w hG h6' hT hF
end Go.Proofs.YtnomcldpbkinmaaGreatDoor.Wl
