/-
  Merged by program out of the texts TpL4 of one seat.
-/
import Derived.Test.YtaoggciebkaakaaG14
import Derived.Test.YtaoggciebkaakaaG15
import Derived.Test.YtaoggciebkaakaaG04
import Derived.Test.YtaoggciebkaakaaG03

/- TreeWords, over the contracts. -/
set_option linter.unusedSimpArgs false
set_option linter.unusedVariables false
namespace Go.Proofs.Ytaoggciebkaakaa.Ev
open Go.RowKit

/-- What the document's Word answers. -/
theorem dword_any (t : Bool) (tx sp lo : ByteArray) (ats : List P3) (ks : Fo) (Aa : Option Addr) (na ca : Nat) (Ak : Option Addr) (nk ck : Nat) (W : World) (hs : ks.siz ≤ 1000) (T : Tr1 (· < W.heap.size) W tx sp lo ats ks Aa na ca Ak nk ck) : Calls Try.prog 15 #[.agg #[.bool t, .string tx, .string sp, .string lo, .slice Aa na ca, .slice Ak nk ck]] W fun e w' => ∃ A c, e = .returned (.slice A (Fo.cons t tx sp lo ats ks .nil).evs.length c) ∧ EvsIn w' A (Fo.cons t tx sp lo ats ks .nil).evs.length c (Fo.cons t tx sp lo ats ks .nil).evs ∧ Below W.heap.size W w' := by
  refine (word_all (ks.siz + 1) t tx sp lo ats ks Aa na ca Ak nk ck W.heap.size W (Nat.lt_succ_self _) hs (Nat.le_refl _) T).mono fun e w' h => ?_
  obtain ⟨v, ps, rfl, o, m, b⟩ := h
  obtain ⟨A, c, rfl⟩ := own_slice o.own
  have hl : ps.length = (Fo.cons t tx sp lo ats ks .nil).evs.length := by rw [← m, List.length_map]
  have hle := evs_len (Fo.cons t tx sp lo ats ks .nil)
  rw [Fo.siz, Fo.siz] at hle
  have h1 := own_evs o.own rfl o.atO (by omega)
  rw [m, hl] at h1
  exact ⟨A, c, by rw [hl], h1, b⟩
theorem few_spok {f : Fo} (hs : f.siz ≤ 1000) (hl : f.evs.length ≤ 400) (hf : ∀ (k : Nat) (x : RE), f.evs[k]? = some x → FewE x) (hz : f.szs) : SpOk f := ⟨hs, by omega, fun x hx => by
  obtain ⟨a, b, c, d⟩ := szs_evs f hz x hx
  obtain ⟨k, hk⟩ := List.getElem?_of_mem hx
  exact ⟨a, b, c, by have := (hf k x hk).ats; omega, d⟩⟩
/-- The tree's box, and the document's events of it. -/
structure WX (w : World) (u : Bool) (tx sp lo : ByteArray) (ats : List P3) (ks : Fo) (Aa : Option Addr) (na ca : Nat) (Ak : Option Addr) (nk ck tb : Nat) (A3 : Option Addr) (n3 c3 : Nat) (l : List RE) (W : World) : Prop where
  tb : TbX w u tx sp lo ats ks Aa na ca Ak nk ck tb W
  ev : EvsIn W A3 n3 c3 l
theorem WX.keep {w : World} {u : Bool} {tx sp lo : ByteArray} {ats : List P3} {ks : Fo} {Aa : Option Addr} {na ca : Nat} {Ak : Option Addr} {nk ck tb : Nat} {A3 : Option Addr} {n3 c3 : Nat} {l : List RE} {W W' : World} (h : WX w u tx sp lo ats ks Aa na ca Ak nk ck tb A3 n3 c3 l W) (hb : Below W.heap.size W W') : WX w u tx sp lo ats ks Aa na ca Ak nk ck tb A3 n3 c3 l W' := ⟨h.tb.keep hb, h.ev.keep hb⟩
set_option maxHeartbeats 8000000 in
set_option maxRecDepth 100000 in
theorem words_law (t : Bool) (tx sp lo : ByteArray) (ats : List P3) (ks : Fo) (Aa : Option Addr) (na ca : Nat) (Ak : Option Addr) (nk ck : Nat) (w : World) (T : Tr1 (· < w.heap.size) w tx sp lo ats ks Aa na ca Ak nk ck) (hZ : (Fo.cons t tx sp lo ats ks .nil).szs) : Calls Try.prog 4 #[.agg #[.bool t, .string tx, .string sp, .string lo, .slice Aa na ca, .slice Ak nk ck]] w fun e w' => e = .returned (.bool true) ∧ Below w.heap.size w w' := by
  have HAw := Lib.hid awake_any
  have X0 : Hid (TbX w t tx sp lo ats ks Aa na ca Ak nk ck w.heap.size (w.alloc (.cells #[.bool t, .string tx, .string sp, .string lo, .slice Aa na ca, .slice Ak nk ck] 30))) := Lib.hid (TbX.mk' (Below.refl _ _) T)
  have HZ := Lib.hid hZ
  clear T hZ
  go_enter Try.func4, Try.ntmps4
  go_upto_region 1 with fail
  generalize w.alloc (.cells #[.bool t, .string tx, .string sp, .string lo, .slice Aa na ca, .slice Ak nk ck] 30) = W0 at *
  have Hb := Lib.hid X0.out.bel
  generalize w.heap.size = tb at *
  go_wp2_with fail
  refine (HAw.out W0).mono ?_
  rintro e w1 ⟨rfl, b1⟩
  have X1 := Lib.hid (X0.out.keep b1)
  clear b1 X0
  obtain ⟨d0, d1, d2, d3, d4, d5⟩ := X1.out.s6
  have CF := Lib.hid (tfew_any t tx sp lo ats ks Aa na ca Ak nk ck _ w1 X1.out.tr)
  go_wp2_with fail
  refine CF.out.mono ?_
  rintro e w2 ⟨bf, rfl, hf, b2⟩
  have X2 := Lib.hid (X1.out.keep b2)
  clear b2 CF X1 d0 d1 d2 d3 d4 d5
  cases bf with
  | false =>
    clear hf
    go_wp2_with fail
    refine (HAw.out w2).mono ?_
    rintro e w3 ⟨rfl, b3⟩
    have X3 := Lib.hid (X2.out.keep b3)
    clear b3
    go_wp2
    go_ret
    exact ⟨rfl, X3.out.bel⟩
  | true =>
    have hsz := (hf rfl).1
    have hks : ks.siz ≤ 1000 := by rw [Fo.siz, Fo.siz] at hsz; omega
    clear hf
    have CWd : Hid (∀ W, TbX w t tx sp lo ats ks Aa na ca Ak nk ck tb W → _) := Lib.hid fun W h => dword_any t tx sp lo ats ks Aa na ca Ak nk ck W hks h.tr
    have CFw : Hid (∀ W A c, EvsIn W A (Fo.cons t tx sp lo ats ks .nil).evs.length c (Fo.cons t tx sp lo ats ks .nil).evs → Calls Try.prog 9 #[.slice A (Fo.cons t tx sp lo ats ks .nil).evs.length c] W (FwPost (Fo.cons t tx sp lo ats ks .nil).evs W)) := Lib.hid fun W A c h => few_any A _ c _ W h
    have hev1 := evs_len (Fo.cons t tx sp lo ats ks .nil)
    generalize hE : (Fo.cons t tx sp lo ats ks .nil).evs = E at *
    have HE := Lib.hid hE
    clear hE
    obtain ⟨d0, d1, d2, d3, d4, d5⟩ := X2.out.s6
    go_wp2_with fail
    refine (CWd.out w2 X2.out).mono ?_
    rintro e w3 ⟨A3, c3, rfl, T3, b3⟩
    have X3 := Lib.hid (X2.out.keep b3)
    have C3 := Lib.hid (CFw.out w3 A3 c3 T3)
    clear b3 X2 T3 CFw d0 d1 d2 d3 d4 d5
    go_wp2_with fail
    refine C3.out.mono ?_
    rintro e w4 ⟨bw, rfl, hw, rfl⟩
    cases bw with
    | false =>
      clear hw
      go_wp2_with fail
      refine (HAw.out w3).mono ?_
      rintro e w5 ⟨rfl, b5⟩
      have X5 := Lib.hid (X3.out.keep b5)
      clear b5
      go_wp2
      go_ret
      exact ⟨rfl, X5.out.bel⟩
    | true =>
      obtain ⟨hl4, hfe⟩ := hw rfl
      have hfe' := hfe
      rw [← HE.out] at hfe' hl4
      have HS := Lib.hid (few_spok (by omega) hl4 hfe' HZ.out)
      rw [HE.out] at hl4
      have HR : Hid (∀ x ∈ E, RgB x) := Lib.hid fun x hx => by
        obtain ⟨k, hk⟩ := List.getElem?_of_mem hx
        exact few_rgb (hfe k x hk)
      have HFe := Lib.hid hfe
      clear hfe hfe' hw C3
      obtain ⟨d0, d1, d2, d3, d4, d5⟩ := X3.out.s6
      go_wp2_with fail
      refine (CWd.out w3 X3.out).mono ?_
      rintro e w5 ⟨A5, c5, rfl, T5, b5⟩
      have HX : Hid (WX w t tx sp lo ats ks Aa na ca Ak nk ck tb A5 E.length c5 E w5) := Lib.hid ⟨X3.out.keep b5, T5⟩
      clear b5 T5 X3 CWd d0 d1 d2 d3 d4 d5
      generalize hn : E.length = n at *
      have Hn := Lib.hid hn
      clear hn
      go_wp2_with fail
      go_loopw [4, 5] (fun v4 v5 wr => w5 = wr ∧ ∃ i nn : Nat, v5 = .int .i64 i ∧ v4 = .int .i64 nn ∧ i ≤ n ∧ nn ≤ i ∧ Hid (nn = numG (E.take i))) (fun _ v5 _ => n - (intOf v5).toNat)
      case atStart => exact ⟨rfl, 0, 0, rfl, rfl, Nat.zero_le _, Nat.le_refl _, Lib.hid (by rw [List.take_zero]; rfl)⟩
      case round =>
        obtain ⟨rfl, i, nn, rfl, rfl, hi, hnn, HN⟩ := hrel
        by_cases hlt : i < n
        · have h1 : (i : Int) < (n : Int) := by omega
          have h0 : (0 : Int) ≤ (i : Int) := by omega
          have hil : i < E.length := by rw [Hn.out]; exact hlt
          have hx := List.getElem?_eq_getElem hil
          have HTk := Lib.hid (num_take hx)
          obtain ⟨b, off, Aa', na', ca', rfl, hb, _, c0, _, _, _, _⟩ := HX.out.ev.rd i _ hx
          generalize E[i] = x at *
          obtain ⟨kind, xs, xl, xa, xt⟩ := x
          dsimp only at c0 HTk
          clear hx hil
          by_cases hk3 : kind = 3
          · have HN2 : Hid (nn = numG (E.take (i + 1))) := Lib.hid (by rw [HTk.out, if_pos hk3, HN.out]; rfl)
            subst hk3
            clear HTk HN
            go_wp2
            go_roundw
            case rel => exact ⟨by trivial, i + 1, nn, by go_num, rfl, by omega, by omega, HN2⟩
            case measure => simp only [intOf]; omega
          · have HN2 : Hid (nn + 1 = numG (E.take (i + 1))) := Lib.hid (by rw [HTk.out, if_neg hk3, HN.out])
            have e3 : (kind != 3) = true := by simpa using hk3
            clear hk3 HTk HN
            go_wp2
            go_roundw
            case rel => exact ⟨by trivial, i + 1, nn + 1, by go_num, by go_num, by omega, by omega, HN2⟩
            case measure => simp only [intOf]; omega
        · have h1 : ¬ (i : Int) < (n : Int) := by omega
          have hcn : (Fo.cons t tx sp lo ats ks .nil).cnt = nn := by
            rw [HN.out, show i = E.length by have := Hn.out; omega, List.take_length, ← HE.out, num_evs]
          have X0 := Lib.hid (HX.out.keep (Below.refl _ w5).drew)
          have hpos : 1 ≤ n := by
            rw [← Hn.out, ← HE.out]
            exact evs_one_pos t tx sp lo ats ks
          have hEne : E ≠ [] := fun e => by
            have h := Hn.out
            rw [e, List.length_nil] at h
            omega
          have CW : Hid (∀ W, WX w t tx sp lo ats ks Aa na ca Ak nk ck tb A5 n c5 E W → Calls Try.prog 17 #[.agg #[.bool t, .string tx, .string sp, .string lo, .slice Aa na ca, .slice Ak nk ck]] W fun e w' => ∃ A c, e = .returned (.slice A n c) ∧ EvsIn w' A n c E ∧ Below W.heap.size W w') := Lib.hid fun W h => by
            refine (tword_any t tx sp lo ats ks Aa na ca Ak nk ck W h.tb.tr HS.out).mono fun e w' q => ?_
            obtain ⟨A, c, Q, rfl, o, m, b⟩ := q
            rw [HE.out] at m
            have hq : Q.length = n := by rw [← Hn.out, ← m, List.length_map]
            have T := o.evs rfl (by omega)
            rw [m, hq] at T
            exact ⟨A, c, by rw [hq], T, b⟩
          have CS : Hid (∀ W A c, WX w t tx sp lo ats ks Aa na ca Ak nk ck tb A5 n c5 E W → EvsIn W A n c E → Calls Try.prog 16 #[.slice A n c, .slice A5 n c5] W fun e w' => e = .returned (.bool true) ∧ Below W.heap.size W w') := Lib.hid fun W A c h q => same_any E n A A5 c c5 W q h.ev
          have CR : Hid (∀ W, WX w t tx sp lo ats ks Aa na ca Ak nk ck tb A5 n c5 E W → Calls Try.prog 18 #[.agg #[.bool t, .string tx, .string sp, .string lo, .slice Aa na ca, .slice Ak nk ck]] W fun e w' => e = .returned (.bool (!t && decide (depF plF rtF E = 0))) ∧ Below W.heap.size W w') := Lib.hid fun W h => by
            have q := tright_any t tx sp lo ats ks Aa na ca Ak nk ck W h.tb.tr HS.out (by rw [HE.out]; exact HR.out)
            rw [HE.out] at q
            exact q
          have CH : Hid (∀ W, WX w t tx sp lo ats ks Aa na ca Ak nk ck tb A5 n c5 E W → Calls Try.prog 11 #[.slice A5 n c5] W fun e w' => e = .returned (.bool (decide (depF plF rtF E = 0))) ∧ Below W.heap.size W w') := Lib.hid fun W h => by
            have q := whole_any plF rtF (Lib.hid ev_all) A5 n c5 E W h.ev (by omega) HFe.out
            rw [decide_eq_true hEne, Bool.true_and] at q
            exact q
          have CC : Hid (∀ W, WX w t tx sp lo ats ks Aa na ca Ak nk ck tb A5 n c5 E W → Calls Try.prog 19 #[.agg #[.bool t, .string tx, .string sp, .string lo, .slice Aa na ca, .slice Ak nk ck]] W fun e w' => e = .returned (.int .i64 (nn : Int)) ∧ Below W.heap.size W w') := Lib.hid fun W h => by
            have q := count_all (ks.siz + 1) t tx sp lo ats ks Aa na ca Ak nk ck _ W (Nat.lt_succ_self _) hks h.tb.tr
            rw [hcn] at q
            exact q
          obtain ⟨d0, d1, d2, d3, d4, d5⟩ := X0.out.tb.s6
          obtain ⟨y0, y1, y2, y3, y4, y5⟩ := HX.out.tb.s6
          clear hcn hEne HN HAw HFe HR
          generalize decide (depF plF rtF E = 0) = r at *
          cases t with
          | true =>
            have qr : (!true && r) = false := rfl
            rw [qr] at CR
            go_wp2_with fail
            refine wp_region_held_drew (S := WX w true tx sp lo ats ks Aa na ca Ak nk ck tb A5 n c5 E) (by kernel_rfl) X0.out (fun hHeld => ?_)
            · clear d0 d1 d2 d3 d4 d5 y0 y1 y2 y3 y4 y5
              refine wpAnyH_take (i := 0) (v := .agg #[.bool true, .string tx, .string sp, .string lo, .slice Aa na ca, .slice Ak nk ck]) rfl (by kernel_rfl) (by kernel_rfl) (by kernel_rfl) (fun _ _ _ h => h) (Or.inl ⟨by rfl, fun W hW => by (obtain ⟨d0, d1, d2, d3, d4, d5⟩ := hW.tb.s6; go_simp)⟩) (by assumption) ?_
              try simp only [Act.put, List.setIfInBounds_toArray, List.set_cons_zero, List.set_cons_succ]
              refine wpAnyH_take (i := 2) (v := .slice A5 n c5) rfl (by kernel_rfl) (by kernel_rfl) (by kernel_rfl) (fun _ _ _ h => h) (Or.inl ⟨by rfl, fun W hW => by (obtain ⟨d0, d1, d2, d3, d4, d5⟩ := hW.tb.s6; go_simp)⟩) (by assumption) ?_
              try simp only [Act.put, List.setIfInBounds_toArray, List.set_cons_zero, List.set_cons_succ]
              refine wpAnyH_ready (rs := [1]) (by kernel_rfl) (by simp) ?_
              refine AllReadyH.cons rfl (fun K hK => ?_) AllReadyH.nil
              go_simp
              go_at_call 17
              refine (CW.out w5.drew X0.out).mono ?_
              rintro e w6 ⟨A6, c6, rfl, T6, b6⟩
              have X6 := Lib.hid (X0.out.keep b6)
              have R6 := Lib.hid T6
              clear T6 b6 X0 hHeld
              refine hK.out _ _ X6.out (fun hHeld => ?_)
              clear hK K
              try simp only [Act.put, List.setIfInBounds_toArray, List.set_cons_zero, List.set_cons_succ]
              refine wpAnyH_ready (rs := [3]) (by kernel_rfl) (by simp) ?_
              refine AllReadyH.cons rfl (fun K hK => ?_) AllReadyH.nil
              go_simp
              go_at_call 16
              refine (CS.out w6 A6 c6 X6.out R6.out).mono ?_
              rintro e w7 ⟨rfl, b7⟩
              have X7 := Lib.hid (X6.out.keep b7)
              clear b7 hHeld R6 X6
              refine hK.out _ _ X7.out (fun hHeld => ?_)
              clear hK K
              try simp only [Act.put, List.setIfInBounds_toArray, List.set_cons_zero, List.set_cons_succ]
              refine wpAnyH_take (i := 4) (v := .bool true) rfl (by kernel_rfl) (by kernel_rfl) (by kernel_rfl) (fun _ _ _ h => h) (Or.inl ⟨by rfl, fun W hW => by (obtain ⟨d0, d1, d2, d3, d4, d5⟩ := hW.tb.s6; go_simp)⟩) (by assumption) ?_
              try simp only [Act.put, List.setIfInBounds_toArray, List.set_cons_zero, List.set_cons_succ]
              refine wpAnyH_take (i := 5) (v := .agg #[.bool true, .string tx, .string sp, .string lo, .slice Aa na ca, .slice Ak nk ck]) rfl (by kernel_rfl) (by kernel_rfl) (by kernel_rfl) (fun _ _ _ h => h) (Or.inl ⟨by rfl, fun W hW => by (obtain ⟨d0, d1, d2, d3, d4, d5⟩ := hW.tb.s6; go_simp)⟩) (by assumption) ?_
              try simp only [Act.put, List.setIfInBounds_toArray, List.set_cons_zero, List.set_cons_succ]
              refine wpAnyH_take (i := 7) (v := .pointer (some ⟨tb, 0, none⟩)) rfl (by kernel_rfl) (by kernel_rfl) (by kernel_rfl) (fun _ _ _ h => h) (Or.inl ⟨by rfl, fun W hW => by (obtain ⟨d0, d1, d2, d3, d4, d5⟩ := hW.tb.s6; go_simp)⟩) (by assumption) ?_
              try simp only [Act.put, List.setIfInBounds_toArray, List.set_cons_zero, List.set_cons_succ]
              refine wpAnyH_take (i := 8) (v := .bool true) rfl (by kernel_rfl) (by kernel_rfl) (by kernel_rfl) (fun _ _ _ h => h) (Or.inl ⟨by rfl, fun W hW => by (obtain ⟨d0, d1, d2, d3, d4, d5⟩ := hW.tb.s6; go_simp)⟩) (by assumption) ?_
              try simp only [Act.put, List.setIfInBounds_toArray, List.set_cons_zero, List.set_cons_succ]
              refine wpAnyH_take (i := 9) (v := .bool false) rfl (by kernel_rfl) (by kernel_rfl) (by kernel_rfl) (fun _ _ _ h => h) (Or.inl ⟨by rfl, fun W hW => by (obtain ⟨d0, d1, d2, d3, d4, d5⟩ := hW.tb.s6; go_simp)⟩) (by assumption) ?_
              try simp only [Act.put, List.setIfInBounds_toArray, List.set_cons_zero, List.set_cons_succ]
              refine wpAnyH_ready (rs := [6]) (by kernel_rfl) (by simp) ?_
              refine AllReadyH.cons rfl (fun K hK => ?_) AllReadyH.nil
              go_simp
              go_at_call 18
              refine (CR.out w7 X7.out).mono ?_
              rintro e w8 ⟨rfl, b8⟩
              have X8 := Lib.hid (X7.out.keep b8)
              clear b8 hHeld X7
              refine hK.out _ _ X8.out (fun hHeld => ?_)
              clear hK K
              try simp only [Act.put, List.setIfInBounds_toArray, List.set_cons_zero, List.set_cons_succ]
              refine wpAnyH_take (i := 10) (v := .bool false) rfl (by kernel_rfl) (by kernel_rfl) (by kernel_rfl) (fun _ _ _ h => h) (Or.inl ⟨by rfl, fun W hW => by (obtain ⟨d0, d1, d2, d3, d4, d5⟩ := hW.tb.s6; go_simp)⟩) (by assumption) ?_
              try simp only [Act.put, List.setIfInBounds_toArray, List.set_cons_zero, List.set_cons_succ]
              refine wpAnyH_take (i := 11) (v := undef) rfl (by kernel_rfl) (by kernel_rfl) (by kernel_rfl) (fun _ _ _ h => h) (Or.inr ⟨by rfl, rfl⟩) (by assumption) ?_
              try simp only [Act.put, List.setIfInBounds_toArray, List.set_cons_zero, List.set_cons_succ]
              refine wpAnyH_take (i := 12) (v := undef) rfl (by kernel_rfl) (by kernel_rfl) (by kernel_rfl) (fun _ _ _ h => h) (Or.inr ⟨by rfl, rfl⟩) (by assumption) ?_
              try simp only [Act.put, List.setIfInBounds_toArray, List.set_cons_zero, List.set_cons_succ]
              refine wpAnyH_take (i := 13) (v := .bool false) rfl (by kernel_rfl) (by kernel_rfl) (by kernel_rfl) (fun _ _ _ h => h) (Or.inl ⟨by rfl, fun W hW => by (obtain ⟨d0, d1, d2, d3, d4, d5⟩ := hW.tb.s6; go_simp)⟩) (by assumption) ?_
              try simp only [Act.put, List.setIfInBounds_toArray, List.set_cons_zero, List.set_cons_succ]
              refine wpAnyH_take (i := 14) (v := .bool true) rfl (by kernel_rfl) (by kernel_rfl) (by kernel_rfl) (fun _ _ _ h => h) (Or.inl ⟨by rfl, fun W hW => by (obtain ⟨d0, d1, d2, d3, d4, d5⟩ := hW.tb.s6; go_simp)⟩) (by assumption) ?_
              try simp only [Act.put, List.setIfInBounds_toArray, List.set_cons_zero, List.set_cons_succ]
              refine wpAnyH_take (i := 15) (v := .bool true) rfl (by kernel_rfl) (by kernel_rfl) (by kernel_rfl) (fun _ _ _ h => h) (Or.inl ⟨by rfl, fun W hW => by (obtain ⟨d0, d1, d2, d3, d4, d5⟩ := hW.tb.s6; go_simp)⟩) (by assumption) ?_
              try simp only [Act.put, List.setIfInBounds_toArray, List.set_cons_zero, List.set_cons_succ]
              refine wpAnyH_take (i := 16) (v := .bool true) rfl (by kernel_rfl) (by kernel_rfl) (by kernel_rfl) (fun _ _ _ h => h) (Or.inl ⟨by rfl, fun W hW => by (obtain ⟨d0, d1, d2, d3, d4, d5⟩ := hW.tb.s6; go_simp)⟩) (by assumption) ?_
              try simp only [Act.put, List.setIfInBounds_toArray, List.set_cons_zero, List.set_cons_succ]
              refine wpAnyH_take (i := 17) (v := .agg #[.bool true, .string tx, .string sp, .string lo, .slice Aa na ca, .slice Ak nk ck]) rfl (by kernel_rfl) (by kernel_rfl) (by kernel_rfl) (fun _ _ _ h => h) (Or.inl ⟨by rfl, fun W hW => by (obtain ⟨d0, d1, d2, d3, d4, d5⟩ := hW.tb.s6; go_simp)⟩) (by assumption) ?_
              try simp only [Act.put, List.setIfInBounds_toArray, List.set_cons_zero, List.set_cons_succ]
              refine wpAnyH_take (i := 19) (v := .int .i64 (nn : Int)) rfl (by kernel_rfl) (by kernel_rfl) (by kernel_rfl) (fun _ _ _ h => h) (Or.inl ⟨by rfl, fun W hW => by (obtain ⟨d0, d1, d2, d3, d4, d5⟩ := hW.tb.s6; go_simp)⟩) (by assumption) ?_
              try simp only [Act.put, List.setIfInBounds_toArray, List.set_cons_zero, List.set_cons_succ]
              refine wpAnyH_ready (rs := [18]) (by kernel_rfl) (by simp) ?_
              refine AllReadyH.cons rfl (fun K hK => ?_) AllReadyH.nil
              go_simp
              go_at_call 19
              refine (CC.out w8 X8.out).mono ?_
              rintro e w10 ⟨rfl, b10⟩
              have X10 := Lib.hid (X8.out.keep b10)
              clear b10 hHeld X8
              refine hK.out _ _ X10.out (fun hHeld => ?_)
              clear hK K
              try simp only [Act.put, List.setIfInBounds_toArray, List.set_cons_zero, List.set_cons_succ]
              refine wpAnyH_take (i := 20) (v := .bool true) rfl (by kernel_rfl) (by kernel_rfl) (by kernel_rfl) (fun _ _ _ h => h) (Or.inl ⟨by rfl, fun W hW => by (obtain ⟨d0, d1, d2, d3, d4, d5⟩ := hW.tb.s6; go_simp)⟩) (by assumption) ?_
              change wpAnyH _ _ _ _ _ _ _ (Act.put _ (some 56) _) _
              try simp only [Act.put, List.setIfInBounds_toArray, List.set_cons_zero, List.set_cons_succ]
              refine wpAnyH_take (i := 21) (v := .bool true) rfl (by kernel_rfl) (by kernel_rfl) (by kernel_rfl) (fun _ _ _ h => h) (Or.inl ⟨by rfl, fun W hW => by (obtain ⟨d0, d1, d2, d3, d4, d5⟩ := hW.tb.s6; go_simp)⟩) (by assumption) ?_
              change wpAnyH _ _ _ _ _ _ _ (Act.put _ (some 57) _) _
              try simp only [Act.put, List.setIfInBounds_toArray, List.set_cons_zero, List.set_cons_succ]
              refine wpAnyH_take (i := 22) (v := .bool true) rfl (by kernel_rfl) (by kernel_rfl) (by kernel_rfl) (fun _ _ _ h => h) (Or.inl ⟨by rfl, fun W hW => by (obtain ⟨d0, d1, d2, d3, d4, d5⟩ := hW.tb.s6; go_simp)⟩) (by assumption) ?_
              change wpAnyH _ _ _ _ _ _ _ (Act.put _ (some 2) _) _
              try simp only [Act.put, List.setIfInBounds_toArray, List.set_cons_zero, List.set_cons_succ]
              refine wpAnyH_done (by kernel_rfl) ?_ _
              go_wp2
              go_ret
              exact ⟨rfl, X10.out.tb.bel⟩
          | false =>
            have qr : (!false && r) = r := rfl
            rw [qr] at CR
            have qq : (r == r) = true := beq_self_eq_true _
            go_wp2_with fail
            go_region_law (first
              | (go_simp; go_at_call 17; refine (CW.out w5.drew X0.out).mono ?_; rintro e w6 ⟨A6, c6, rfl, T6, b6⟩
                 have X6 := Lib.hid (X0.out.keep b6)
                 have R6 := Lib.hid T6
                 obtain ⟨d0, d1, d2, d3, d4, d5⟩ := X6.out.tb.s6
                 clear T6 b6)
              | (go_simp; go_at_call 16; refine (CS.out w6 A6 c6 X6.out R6.out).mono ?_; rintro e w7 ⟨rfl, b7⟩
                 have X7 := Lib.hid (X6.out.keep b7)
                 obtain ⟨d0, d1, d2, d3, d4, d5⟩ := X7.out.tb.s6
                 clear b7)
              | (go_simp; go_at_call 18; refine (CR.out w7 X7.out).mono ?_; rintro e w8 ⟨rfl, b8⟩
                 have X8 := Lib.hid (X7.out.keep b8)
                 obtain ⟨d0, d1, d2, d3, d4, d5⟩ := X8.out.tb.s6
                 clear b8)
              | (go_simp; go_at_call 11; refine (CH.out w8 X8.out).mono ?_; rintro e w9 ⟨rfl, b9⟩
                 have X9 := Lib.hid (X8.out.keep b9)
                 obtain ⟨d0, d1, d2, d3, d4, d5⟩ := X9.out.tb.s6
                 clear b9)
              | (go_simp; go_at_call 19; refine (CC.out w9 X9.out).mono ?_; rintro e w10 ⟨rfl, b10⟩
                 have X10 := Lib.hid (X9.out.keep b10)
                 clear b10)
              | fail)
            all_goals
              go_wp2
              go_ret
              exact ⟨rfl, X10.out.tb.bel⟩
end Go.Proofs.Ytaoggciebkaakaa.Ev
