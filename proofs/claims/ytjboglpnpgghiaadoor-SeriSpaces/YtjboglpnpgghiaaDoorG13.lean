/-
  Merged by program out of the texts SrL2 of one seat.
-/
import Derived.Test.YtjboglpnpgghiaaDoorG10
import Derived.Deep.RegionHeld3

/- SeriSpaces, over the contracts. -/
set_option linter.unusedVariables false
set_option linter.unusedSimpArgs false
namespace Go.Proofs.YtjboglpnpgghiaaDoor.Ev
open Go.RowKit

theorem tx_bare (sp lo d : ByteArray) : txB (.cons false emB sp lo [] .nil .nil) d = [60] ++ nmB sp lo ++ (if sp ≠ xmlB ∧ sp ≠ d then prB (byts xnsB) sp else []) ++ [47, 62] := by
  rw [txB_empty _ _ _ _ _ _ rfl]
  unfold hdB
  rw [show spL [] = [] from rfl]
  simp only [bdB, asB, List.append_nil]
theorem bare_pr {sp lo d : ByteArray} (h1 : sp.size ≤ 100) (h2 : lo.size ≤ 100) (h3 : d.size ≤ 100) : PrOk (.cons false emB sp lo [] .nil .nil) d := by
  have hM : (Fo.cons false emB sp lo [] .nil .nil).szM := ⟨⟨by decide, by omega, by omega, fun x hx => by cases hx⟩, trivial, trivial⟩
  have ha : (Fo.cons false emB sp lo [] .nil .nil).atN := ⟨fun _ => ⟨by decide, trivial⟩, trivial⟩
  refine ⟨hM, ha, by omega, ?_⟩
  have h := txB_len (Fo.cons false emB sp lo [] .nil .nil) d hM ha
  rw [show (Fo.cons false emB sp lo [] .nil .nil).siz = 1 from rfl] at h
  exact Nat.le_trans h (by decide +kernel)
theorem bare_tr {P : Nat → Prop} {W : World} {sp lo : ByteArray} (h1 : sp.size ≤ maxLen) (h2 : lo.size ≤ maxLen) : Tr1 P W emB sp lo [] .nil none 0 0 none 0 0 := ⟨⟨by decide, h1, h2⟩, attsNil _, fun h => absurd h (Nat.lt_irrefl 0), ksNil _ _⟩
theorem pr_ne {sp : ByteArray} (l : List Int) : l ++ prB (byts xnsB) sp ++ [47, 62] ≠ l ++ [47, 62] := fun h => by
  have := congrArg List.length h
  unfold prB at this
  simp only [List.length_append, List.length_cons, List.length_nil] at this
  omega
/-- Two boxes with trees. -/
structure Tb2 (w : World) (u : Bool) (tx sp lo : ByteArray) (ats : List P3) (ks : Fo) (Aa : Option Addr) (na ca : Nat) (Ak : Option Addr) (nk ck tb bb : Nat) (W : World) : Prop where
  tb : TbX w u tx sp lo ats ks Aa na ca Ak nk ck tb W
  bb : W.heap[bb]? = some (.cells #[.bool false, .string emB, .string sp, .string lo, .slice none 0 0, .slice none 0 0] 27 (0, 0))
theorem Tb2.keep {w : World} {u : Bool} {tx sp lo : ByteArray} {ats : List P3} {ks : Fo} {Aa : Option Addr} {na ca : Nat} {Ak : Option Addr} {nk ck tb bb : Nat} {W W' : World} (h : Tb2 w u tx sp lo ats ks Aa na ca Ak nk ck tb bb W) (hb : Below W.heap.size W W') : Tb2 w u tx sp lo ats ks Aa na ca Ak nk ck tb bb W' := ⟨h.tb.keep hb, (hb.block _ (Array.getElem?_eq_some_iff.1 h.bb).1).trans h.bb⟩
theorem Tb2.s12 {w : World} {u : Bool} {tx sp lo : ByteArray} {ats : List P3} {ks : Fo} {Aa : Option Addr} {na ca : Nat} {Ak : Option Addr} {nk ck tb bb : Nat} {W : World} (h : Tb2 w u tx sp lo ats ks Aa na ca Ak nk ck tb bb W) : (W.cell? ⟨tb, 2, none⟩ = some (.string sp) ∧ W.cell? ⟨tb, 3, none⟩ = some (.string lo)) ∧ W.cell? ⟨bb, 0, none⟩ = some (.bool false) ∧ W.cell? ⟨bb, 1, none⟩ = some (.string emB) ∧ W.cell? ⟨bb, 2, none⟩ = some (.string sp) ∧ W.cell? ⟨bb, 3, none⟩ = some (.string lo) ∧ W.cell? ⟨bb, 4, none⟩ = some (.slice none 0 0) ∧ W.cell? ⟨bb, 5, none⟩ = some (.slice none 0 0) := ⟨⟨h.tb.s6.2.2.1, h.tb.s6.2.2.2.1⟩, cells6 h.bb⟩
set_option maxHeartbeats 8000000 in
set_option maxRecDepth 100000 in
theorem spaces_law (t : Bool) (tx sp lo : ByteArray) (ats : List P3) (ks : Fo) (Aa : Option Addr) (na ca : Nat) (Ak : Option Addr) (nk ck : Nat) (a : ByteArray) (w : World) (T : Tr1 (· < w.heap.size) w tx sp lo ats ks Aa na ca Ak nk ck) (ha : a.size ≤ maxLen) (hT : TbI w) :
    Calls Tryd.prog 5 #[.agg #[.bool t, .string tx, .string sp, .string lo, .slice Aa na ca, .slice Ak nk ck], .string a] w fun e w' => e = .returned (.bool true) ∧ Below w.heap.size w w' := by
  have HAw : Hid (∀ W, Below w.heap.size w W → Calls Tryd.prog 6 #[] W fun e w' => e = .returned (.bool true) ∧ Below W.heap.size W w') := Lib.hid fun W hW => awake_any W (hT.keep hW)
  have HTb := Lib.hid hT
  have X0 : Hid (TbX w t tx sp lo ats ks Aa na ca Ak nk ck w.heap.size (w.alloc (.cells #[.bool t, .string tx, .string sp, .string lo, .slice Aa na ca, .slice Ak nk ck] 27))) := Lib.hid (TbX.mk' (Below.refl _ _) T)
  clear T hT
  go_enter Tryd.func5, Tryd.ntmps5
  go_upto_region 1 with fail
  generalize w.alloc (.cells #[.bool t, .string tx, .string sp, .string lo, .slice Aa na ca, .slice Ak nk ck] 27) = W0 at *
  have C0 := Lib.hid (HAw.out W0 X0.out.bel)
  go_wp2_with fail
  refine C0.out.mono ?_
  rintro e w1 ⟨rfl, b1⟩
  have X1 := Lib.hid (X0.out.keep b1)
  clear b1 X0 C0
  obtain ⟨d0, d1, d2, d3, d4, d5⟩ := X1.out.s6
  have CF := Lib.hid (lfew_any t tx sp lo ats ks Aa na ca Ak nk ck w1 X1.out.tr)
  go_wp2_with fail
  refine CF.out.mono ?_
  rintro e w2 ⟨bf, rfl, hf, b2⟩
  have X2 := Lib.hid (X1.out.keep b2)
  clear b2 CF X1 d0 d1 d2 d3 d4 d5
  obtain ⟨d0, d1, d2, d3, d4, d5⟩ := X2.out.s6
  have C2 := Lib.hid (HAw.out w2 X2.out.bel)
  cases bf with
  | false =>
    clear hf
    go_wp2_with fail
    refine C2.out.mono ?_
    rintro e w3 ⟨rfl, b3⟩
    have X3 := Lib.hid (X2.out.keep b3)
    clear b3
    go_wp2
    go_ret
    exact ⟨rfl, X3.out.bel⟩
  | true =>
    cases t with
    | true =>
      clear hf
      go_wp2_with fail
      refine C2.out.mono ?_
      rintro e w3 ⟨rfl, b3⟩
      have X3 := Lib.hid (X2.out.keep b3)
      clear b3
      go_wp2
      go_ret
      exact ⟨rfl, X3.out.bel⟩
    | false =>
      by_cases h100 : a.size ≤ 100
      · have g1 : ¬ (100 : Int) < (a.size : Int) := by omega
        have hE : FewE ⟨1, sp, lo, ats, emB⟩ := (hf rfl).all _ (by rw [evs_el]; simp)
        have hsp : sp.size ≤ 100 := hE.sp
        have hlo : lo.size ≤ 100 := hE.lo
        obtain ⟨G, hG⟩ : ∃ G : ByteArray → ByteArray, ∀ d, G d = strOfNums (txB (Fo.cons false emB sp lo [] .nil .nil) d) := ⟨_, fun _ => rfl⟩
        have C8 : Hid (∀ d W, d.size ≤ 100 → TbX w false tx sp lo ats ks Aa na ca Ak nk ck w.heap.size W → Calls Tryd.prog 8 #[.agg #[.bool false, .string emB, .string sp, .string lo, .slice none 0 0, .slice none 0 0], .string d] W fun e w' => e = .returned (.string (G d)) ∧ Below W.heap.size W w') := Lib.hid fun d W hd hX => by
          rw [hG]
          exact within_any false emB sp lo [] .nil none 0 0 none 0 0 d W (bare_tr (by unfold maxLen; omega) (by unfold maxLen; omega)) (bare_pr hsp hlo hd) (HTb.out.keep hX.bel)
        have HG : Hid (∀ d, byts (G d) = [60] ++ nmB sp lo ++ (if sp ≠ xmlB ∧ sp ≠ d then prB (byts xnsB) sp else []) ++ [47, 62]) := Lib.hid fun d => by
          rw [hG, byts_strB (byt_txB _ _), tx_bare]
        have X : Hid (Tb2 w false tx sp lo ats ks Aa na ca Ak nk ck w.heap.size w2.heap.size (w2.alloc (.cells #[.bool false, .string emB, .string sp, .string lo, .slice none 0 0, .slice none 0 0] 27))) := Lib.hid ⟨X2.out.keep ((Below.refl _ w2).alloc (Nat.le_refl _) _), nblk w2 27 _⟩
        clear hf hG hE C2 X2 HAw HTb
        have K := spK sp
        rcases Classical.em (sp = xmlB) with hx | hx
        · rw [decide_eq_true hx, decide_eq_false (p := sp = emB) (by rw [hx]; decide)] at K
          have HE : Hid (G a = (⟨#[60, 120, 109, 108, 58]⟩ ++ lo) ++ ⟨#[47, 62]⟩) := Lib.hid (byts_inj (by
            rw [HG.out, if_neg (fun q => q.1 hx), byts_cat, byts_cat]
            unfold nmB
            rw [if_pos hx, List.append_nil]
            rfl))
          have HC : Hid (∀ W, TbX w false tx sp lo ats ks Aa na ca Ak nk ck w.heap.size W → Calls Tryd.prog 8 #[.agg #[.bool false, .string emB, .string sp, .string lo, .slice none 0 0, .slice none 0 0], .string a] W fun e w' => e = .returned (.string ((⟨#[60, 120, 109, 108, 58]⟩ ++ lo) ++ ⟨#[47, 62]⟩)) ∧ Below W.heap.size W w') := Lib.hid fun W hX => by
            have := C8.out a W h100 hX
            rw [HE.out] at this
            exact this
          have x1 := K.x1
          have x2 := K.x2
          simp only [Bool.not_true] at x2
          have n1 : ¬ 9223372036854775807 < 5 + lo.size := by omega
          have n2 : ¬ 9223372036854775807 < 5 + lo.size + 2 := by omega
          clear K hx HE HG C8
          change Hid (Tb2 w false tx sp lo ats ks Aa na ca Ak nk ck w.heap.size w2.heap.size (w2.alloc (.cells #[.bool false, .string ⟨#[]⟩, .string sp, .string lo, .slice none 0 0, .slice none 0 0] 27))) at X
          go_upto_region 4 with fail
          generalize w2.alloc (.cells #[.bool false, .string ⟨#[]⟩, .string sp, .string lo, .slice none 0 0, .slice none 0 0] 27) = V at *
          clear d0 d1 d2 d3 d4 d5
          obtain ⟨⟨d2, d3⟩, e0, e1, e2, e3, e4, e5⟩ := X.out.s12
          go_wp2_with fail
          clear d2 d3 e0 e1 e2 e3 e4 e5
          replace X := Lib.hid (X.out.keep (Below.drew (Below.refl _ V)))
          go_region_held3 (fun W => (W.cell? ⟨w.heap.size, 2, none⟩ = some (.string sp) ∧ W.cell? ⟨w.heap.size, 3, none⟩ = some (.string lo)) ∧ W.cell? ⟨w2.heap.size, 0, none⟩ = some (.bool false) ∧ W.cell? ⟨w2.heap.size, 1, none⟩ = some (.string emB) ∧ W.cell? ⟨w2.heap.size, 2, none⟩ = some (.string sp) ∧ W.cell? ⟨w2.heap.size, 3, none⟩ = some (.string lo) ∧ W.cell? ⟨w2.heap.size, 4, none⟩ = some (.slice none 0 0) ∧ W.cell? ⟨w2.heap.size, 5, none⟩ = some (.slice none 0 0))
            (first | with_reducible exact X.out.s12 | fail)
            (first
              | (go_at_call 8; refine (HC.out _ X.out.tb).mono ?_; rintro e w3 ⟨rfl, b3⟩; replace X := Lib.hid (X.out.keep b3); clear b3)
              | fail)
          all_goals
            go_wp2
            go_ret
            exact ⟨rfl, X.out.tb.bel⟩
        · rw [decide_eq_false hx] at K
          have x1 := K.x1
          have x2 := K.x2
          simp only [Bool.not_false] at x2
          have HO : Hid (G sp = (⟨#[60]⟩ ++ lo) ++ ⟨#[47, 62]⟩) := Lib.hid (byts_inj (by
            rw [HG.out, if_neg (fun q => q.2 rfl), byts_cat, byts_cat]
            unfold nmB
            rw [if_neg hx, List.append_nil]
            rfl))
          have C8s : Hid (∀ W, TbX w false tx sp lo ats ks Aa na ca Ak nk ck w.heap.size W → Calls Tryd.prog 8 #[.agg #[.bool false, .string emB, .string sp, .string lo, .slice none 0 0, .slice none 0 0], .string sp] W fun e w' => e = .returned (.string ((⟨#[60]⟩ ++ lo) ++ ⟨#[47, 62]⟩)) ∧ Below W.heap.size W w') := Lib.hid fun W hX => by
            have := C8.out sp W hsp hX
            rw [HO.out] at this
            exact this
          obtain ⟨q, Ga, C8a, q1, q2⟩ : ∃ (q : Bool) (Ga : ByteArray), Hid (∀ W, TbX w false tx sp lo ats ks Aa na ca Ak nk ck w.heap.size W → Calls Tryd.prog 8 #[.agg #[.bool false, .string emB, .string sp, .string lo, .slice none 0 0, .slice none 0 0], .string a] W fun e w' => e = .returned (.string Ga) ∧ Below W.heap.size W w') ∧ (Ga.toList == ((⟨#[60]⟩ ++ lo) ++ ⟨#[47, 62]⟩ : ByteArray).toList) = q ∧ (a.toList == sp.toList) = q := by
            refine ⟨decide (a = sp), G a, Lib.hid fun W hX => C8.out a W h100 hX, ?_, eq_dec a sp⟩
            rw [← HO.out, eq_dec]
            rcases Classical.em (a = sp) with e | e
            · rw [e, decide_eq_true rfl, decide_eq_true rfl]
            · rw [decide_eq_false e, decide_eq_false]
              intro h
              have h2 : byts (G a) = byts (G sp) := by rw [h]
              rw [HG.out, HG.out, if_pos ⟨hx, fun q => e q.symm⟩, if_neg (fun q => q.2 rfl), List.append_nil] at h2
              exact pr_ne _ h2
          have n1 : ¬ 9223372036854775807 < 1 + lo.size := by omega
          have n2 : ¬ 9223372036854775807 < 1 + lo.size + 2 := by omega
          clear K hx HO HG C8
          change Hid (Tb2 w false tx sp lo ats ks Aa na ca Ak nk ck w.heap.size w2.heap.size (w2.alloc (.cells #[.bool false, .string ⟨#[]⟩, .string sp, .string lo, .slice none 0 0, .slice none 0 0] 27))) at X
          go_upto_region 4 with fail
          generalize w2.alloc (.cells #[.bool false, .string ⟨#[]⟩, .string sp, .string lo, .slice none 0 0, .slice none 0 0] 27) = V at *
          clear d0 d1 d2 d3 d4 d5
          obtain ⟨⟨d2, d3⟩, e0, e1, e2, e3, e4, e5⟩ := X.out.s12
          have CA := Lib.hid (C8s.out V X.out.tb)
          go_wp2_with fail
          refine CA.out.mono ?_
          rintro e w3 ⟨rfl, b3⟩
          replace X := Lib.hid (X.out.keep b3)
          have CB := Lib.hid (C8a.out w3 X.out.tb)
          clear b3 CA C8s C8a d2 d3 e0 e1 e2 e3 e4 e5
          obtain ⟨⟨d2, d3⟩, e0, e1, e2, e3, e4, e5⟩ := X.out.s12
          go_wp2_with fail
          refine CB.out.mono ?_
          rintro e w4 ⟨rfl, b4⟩
          replace X := Lib.hid (X.out.keep b4)
          clear b4 CB d2 d3 e0 e1 e2 e3 e4 e5
          obtain ⟨⟨d2, d3⟩, e0, e1, e2, e3, e4, e5⟩ := X.out.s12
          cases q
          all_goals
            go_wp2
            go_ret
            exact ⟨rfl, X.out.tb.bel⟩
      · have g1 : (100 : Int) < (a.size : Int) := by omega
        clear hf
        go_wp2_with fail
        refine C2.out.mono ?_
        rintro e w3 ⟨rfl, b3⟩
        have X3 := Lib.hid (X2.out.keep b3)
        clear b3
        go_wp2
        go_ret
        exact ⟨rfl, X3.out.bel⟩
end Go.Proofs.YtjboglpnpgghiaaDoor.Ev
