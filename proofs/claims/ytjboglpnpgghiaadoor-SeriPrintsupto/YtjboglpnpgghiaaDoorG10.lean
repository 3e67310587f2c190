/-
  Merged by program out of the texts WdAllow, WdWc, SrLi, TpFsM, TpFsT, TpOpen, SrFew of one seat.
-/
import Derived.Test.YtjboglpnpgghiaaDoorG03
import Derived.Test.YtjboglpnpgghiaaDoorG07
import Derived.Test.YtjboglpnpgghiaaDoorG09
import Derived.Test.YtjboglpnpgghiaaDoorG04
import Derived.Test.YtjboglpnpgghiaaDoorG01
import Derived.Test.YtjboglpnpgghiaaDoorG05
import Derived.Test.YtjboglpnpgghiaaDoorG06

/- word.allowed: a text is UTF-8, and all its runes may stand in a text. -/
set_option linter.unusedSimpArgs false
set_option linter.unusedVariables false
namespace Go.Proofs.YtjboglpnpgghiaaDoor.Ev
open Go.RowKit

theorem rt_nil : Rt [] := ⟨rfl, fun r hr => by simp [decF_nil] at hr⟩
theorem drop_ne {s : ByteArray} {a : Nat} (h : a < s.size) : (byts s).drop a ≠ [] := fun e => by
  have := congrArg List.length e
  rw [List.length_drop, byts_len] at this
  simp at this
  omega
theorem rt_bad {s : ByteArray} {a : Nat} (h : a < s.size) (he : (runeF s a).2.2 ≠ 0) : ¬ Rt ((byts s).drop a) := by
  rw [runeF_dec s a h] at he
  rintro ⟨h1, _⟩
  rw [decF_err _ (drop_ne h) he] at h1
  exact he h1
theorem rt_go {s : ByteArray} {a : Nat} (h : a < s.size) (he : (runeF s a).2.2 = 0) : Rt ((byts s).drop a) ↔ (Chr (runeF s a).1 ∧ Rt ((byts s).drop (a + (runeF s a).2.1.toNat))) := by
  rw [runeF_dec s a h] at he ⊢
  unfold Rt
  rw [decF_ok _ (drop_ne h) ((byts_nn s).drop a) he, List.drop_drop]
  simp only [List.mem_cons, forall_eq_or_imp]
  exact ⟨fun ⟨h1, h2, h3⟩ => ⟨h2, h1, h3⟩, fun ⟨h2, h1, h3⟩ => ⟨h1, h2, h3⟩⟩
theorem rtF_yes {s : ByteArray} (h : Rt (byts s)) : rtF s = true := decide_eq_true h
theorem rtF_no {s : ByteArray} (h : ¬ Rt (byts s)) : rtF s = false := decide_eq_false h
set_option maxHeartbeats 2000000 in
set_option maxRecDepth 100000 in
theorem allowed_any (s : ByteArray) (w : World) (hs : s.size ≤ 100000) :
    Calls Tryd.prog 33 #[.string s] w fun e w' => e = .returned (.bool (rtF s)) ∧ w = w' := by
  obtain ⟨F, hF⟩ : ∃ F, F = rtF s := ⟨_, rfl⟩
  rw [← hF]
  have HY : Hid (Rt (byts s) → F = true) := Lib.hid fun h => by rw [hF, rtF_yes h]
  have HN : Hid (¬ Rt (byts s) → F = false) := Lib.hid fun h => by rw [hF, rtF_no h]
  clear hF
  go_enter Tryd.func33, Tryd.ntmps33
  go_wp2_with fail
  go_loop [3] (fun vi => ∃ k : Nat, vi = .int .i64 k ∧ k ≤ s.size ∧ Hid (Rt (byts s) ↔ Rt ((byts s).drop k))) (fun vi => s.size - (intOf vi).toNat)
  case atStart => exact ⟨0, rfl, Nat.zero_le _, Lib.hid (by rw [List.drop_zero])⟩
  case round =>
    obtain ⟨k, rfl, hk, HR⟩ := hrel
    by_cases hlt : k < s.size
    · have d1 : (k : Int) < (s.size : Int) := by omega
      have C := Lib.hid (rune_at s k w (by unfold maxLen; omega))
      have HO := runeF_okay s k hlt
      have HB := Lib.hid (fun he => rt_bad hlt (a := k) he)
      have HG := Lib.hid (fun he => rt_go hlt (a := k) he)
      unfold Okay at HO
      generalize runeF s k = x at *
      obtain ⟨r, n, er⟩ := x
      dsimp only at *
      by_cases he : er = 0
      · subst he
        have hn : 1 ≤ n ∧ n ≤ (s.size - k : Nat) := by omega
        obtain ⟨m, rfl⟩ := Int.eq_ofNat_of_zero_le (show 0 ≤ n by omega)
        have hm1 : 1 ≤ m := by omega
        have hm2 : k + m ≤ s.size := by omega
        have hr1 : 0 ≤ r ∧ r ≤ 1114111 := by omega
        have HI := Lib.hid (HR.out.trans (HG.out rfl))
        rw [Int.toNat_natCast] at HI
        have CC := chr_any r
        clear HO HG HB HR hn
        by_cases hc : Chr r
        · rw [decide_eq_true hc] at CC
          have CH := Lib.hid CC
          have HR2 : Hid (Rt (byts s) ↔ Rt ((byts s).drop (k + m))) := Lib.hid (HI.out.trans ⟨fun h => h.2, fun h => ⟨hc, h⟩⟩)
          clear CC HI hc
          go_wp2_with (first | (go_at_call 41; refine C.out.mono ?_; rintro e w' ⟨rfl, rfl⟩) | (go_at_call 42; refine (CH.out _).mono ?_; rintro e w' ⟨rfl, rfl⟩) | fail)
          refine ⟨⟨k + m, by go_num, hm2, HR2⟩, by simp only [intOf]; omega⟩
        · rw [decide_eq_false hc] at CC
          have CH := Lib.hid CC
          have HE : Hid (F = false) := Lib.hid (HN.out fun h => hc (HI.out.1 h).1)
          clear CC HI hc
          go_wp2_with (first | (go_at_call 41; refine C.out.mono ?_; rintro e w' ⟨rfl, rfl⟩) | (go_at_call 42; refine (CH.out _).mono ?_; rintro e w' ⟨rfl, rfl⟩) | fail)
          go_ret
          exact ⟨by rw [HE.out] <;> rfl, rfl⟩
      · have HE : Hid (F = false) := Lib.hid (HN.out fun h => HB.out he (HR.out.1 h))
        have e1 : (er != 0) = true := bne_iff_ne.2 he
        clear HO HG HB HR he
        go_wp2_with (first | (go_at_call 41; refine C.out.mono ?_; rintro e w' ⟨rfl, rfl⟩) | fail)
        go_ret
        exact ⟨by rw [HE.out] <;> rfl, rfl⟩
    · have d1 : ¬ (k : Int) < (s.size : Int) := by omega
      have HE : Hid (F = true) := Lib.hid (HY.out (HR.out.2 (by rw [List.drop_of_length_le (by rw [byts_len]; omega)]; exact rt_nil)))
      clear HR
      go_wp2
      go_ret
      exact ⟨by rw [HE.out] <;> rfl, rfl⟩
theorem allow_c : StrC 33 rtF := fun s W hs => (allowed_any s W (by omega)).mono fun e w' ⟨h1, h2⟩ => ⟨h1, by rw [← h2]; exact Below.refl _ _⟩
theorem plainP_c : StrC 40 plF := fun s W _ => Nz.plain_any s W
end Go.Proofs.YtjboglpnpgghiaaDoor.Ev

/- What layer 10 asks of word.Whole; the document's Right of an event. -/
set_option linter.unusedSimpArgs false
set_option linter.unusedVariables false
namespace Go.Proofs.YtjboglpnpgghiaaDoor.Ev
open Go.RowKit

theorem rt_mk {s : ByteArray} {l : List Int} {k : Nat} (h : decF (byts s) = (l, k, 0)) (h2 : ∀ r ∈ l, Chr r) : rtF s = true := rtF_yes ⟨by rw [h], by rw [h]; exact h2⟩
theorem rt_a : rtF ⟨#[97]⟩ = true := rt_mk (l := [97]) (k := 1) (by decide +kernel) (by decide)
theorem pl_a : plF ⟨#[97]⟩ = true := by unfold plF; decide +kernel
theorem em_list : emB.toList = [] := by rw [Lib.toList_data]; rfl
theorem ep_all : EvP plF rtF := pright_c plF rtF (Lib.hid plainP_c) (Lib.hid allow_c)
theorem ev_all : EvC plF rtF := fun A n c x W T hB => right_any plF rtF (Lib.hid fun sp lo W h1 h2 => named_any plF rtF (Lib.hid plain_c) (Lib.hid right_c) sp lo W h1 h2) (Lib.hid right_c) A n c x W T hB
end Go.Proofs.YtjboglpnpgghiaaDoor.Ev

/- seri.few, seri.Light. -/
set_option linter.unusedVariables false
set_option linter.unusedSimpArgs false
namespace Go.Proofs.YtjboglpnpgghiaaDoor.Ev
open Go.RowKit

theorem xns_list : xnsB.toList = [120, 109, 108, 110, 115] := by rw [Lib.toList_data]; rfl
theorem xns_dec (s : ByteArray) : (s.toList == [120, 109, 108, 110, 115]) = decide (s = xnsB) := by
  rw [Bool.eq_iff_iff, beq_iff_eq, decide_eq_true_eq]
  exact ⟨fun h => tl_inj (h.trans xns_list.symm), fun h => by rw [h]; exact xns_list⟩
theorem noX_take {l : List P3} {k : Nat} {x : P3} (hx : l[k]? = some x) : noX (l.take (k + 1)) = (noX (l.take k) && !(decide (x.1.1 = emB) && decide (x.1.2 = xnsB))) := by
  have : l.take (k + 1) = l.take k ++ [x] := by rw [List.take_add_one, hx]; rfl
  rw [this]
  unfold noX
  rw [List.all_append]
  simp
theorem noX_false {l : List P3} {k : Nat} {x : P3} (hx : l[k]? = some x) (h1 : x.1.1 = emB) (h2 : x.1.2 = xnsB) : noX l = false := by
  unfold noX
  rw [List.all_eq_false]
  exact ⟨x, List.mem_of_getElem? hx, by rw [decide_eq_true h1, decide_eq_true h2]; decide⟩
/-- The three ways of a name that is compared with that of a binding. -/
theorem xn_cases (u y : ByteArray) : (u = emB ∧ y = xnsB ∧ (u.toList.isEmpty = true ∧ (u.toList == []) = true ∧ (u.toList != []) = false) ∧ (y.toList == [120, 109, 108, 110, 115]) = true ∧ (y.toList != [120, 109, 108, 110, 115]) = false) ∨
    ((decide (u = emB) && decide (y = xnsB)) = false ∧ (u.toList.isEmpty = true ∧ (u.toList == []) = true ∧ (u.toList != []) = false) ∧ (y.toList == [120, 109, 108, 110, 115]) = false ∧ (y.toList != [120, 109, 108, 110, 115]) = true) ∨
    ((decide (u = emB) && decide (y = xnsB)) = false ∧ u.toList.isEmpty = false ∧ (u.toList == []) = false ∧ (u.toList != []) = true) := by
  have K := spK u
  have Y := xns_dec y
  by_cases h1 : u = emB
  · rw [decide_eq_true h1] at K
    by_cases h2 : y = xnsB
    · rw [decide_eq_true h2] at Y
      exact .inl ⟨h1, h2, ⟨K.e1, K.e2, K.e3⟩, Y, by rw [bne, Y]; rfl⟩
    · rw [decide_eq_false h2] at Y
      exact .inr (.inl ⟨by rw [decide_eq_false h2, Bool.and_false], ⟨K.e1, K.e2, K.e3⟩, Y, by rw [bne, Y]; rfl⟩)
  · rw [decide_eq_false h1] at K
    exact .inr (.inr ⟨by rw [decide_eq_false h1, Bool.false_and], K.e1, K.e2, K.e3⟩)
set_option maxHeartbeats 4000000 in
set_option maxRecDepth 100000 in
theorem sfew_any (A : Option Addr) (n c : Nat) (l : List P3) (w : World) (T : AttsIn w A n c l) : Calls Tryd.prog 23 #[.slice A n c] w fun e w' => e = .returned (.bool (noX l && decide (l.length ≤ 15))) ∧ Below w.heap.size w w' := by
  have hn := T.cnt
  have HT : Hid (∀ W, Below w.heap.size w W → AttsIn W A n c l) := Lib.hid fun W hb => T.keep hb
  have HN := Lib.hid T.len
  clear T
  obtain ⟨F, hF⟩ : ∃ F, F = (noX l && decide (l.length ≤ 15)) := ⟨_, rfl⟩
  rw [← hF]
  have HF := Lib.hid hF
  clear hF
  go_enter Tryd.func23, Tryd.ntmps23
  go_wp2_with fail
  go_loopw [7] (fun i wr => ∃ k : Nat, i = .int .i64 k ∧ k ≤ n ∧ Hid (Below w.heap.size w wr) ∧ Hid (noX (l.take k) = true)) (fun i _ => n - (intOf i).toNat)
  case atStart => exact ⟨0, rfl, Nat.zero_le _, Lib.hid (Below.refl _ w), Lib.hid rfl⟩
  case round =>
    obtain ⟨k, rfl, hk, HB, HA⟩ := hrel
    by_cases hlt : k < n
    · have k1 : (k : Int) < (n : Int) := by omega
      have k2 : (0 : Int) ≤ (k : Int) := by omega
      have hkl : k < l.length := by rw [← HN.out]; exact hlt
      have hx := List.getElem?_eq_getElem hkl
      obtain ⟨b', off, hA, hbl, d0, d1, d2⟩ := (HT.out wr HB.out).rd k _ hx
      have HX := Lib.hid hx
      generalize l[k] = y at *
      subst hA
      obtain ⟨⟨u, ylo⟩, yv⟩ := y
      dsimp only at d0 d1 d2
      have HB1 := Lib.hid (HB.out.alloc HB.out.size (.cells #[.string u, .string ylo, .string yv] 34))
      have HTk := Lib.hid (noX_take HX.out)
      clear hx hkl hbl
      rcases xn_cases u ylo with ⟨q1, q2, ⟨e1, e2, e3⟩, y1, y2⟩ | ⟨q, ⟨e1, e2, e3⟩, y1, y2⟩ | ⟨q, e1, e2, e3⟩
      · have HE : Hid (F = false) := Lib.hid (by rw [HF.out, noX_false HX.out q1 q2]; rfl)
        clear q1 q2 HTk HX HA
        go_wp2
        go_ret
        exact ⟨by rw [HE.out] <;> rfl, HB1.out⟩
      · have HA2 : Hid (noX (l.take (k + 1)) = true) := Lib.hid (by rw [HTk.out, HA.out, q]; rfl)
        clear q HTk HX HA
        go_wp2_with fail
        go_roundw
        case rel => exact ⟨k + 1, by go_num, by omega, HB1, HA2⟩
        case measure => simp only [intOf]; omega
      · have HA2 : Hid (noX (l.take (k + 1)) = true) := Lib.hid (by rw [HTk.out, HA.out, q]; rfl)
        clear q HTk HX HA
        go_wp2_with fail
        go_roundw
        case rel => exact ⟨k + 1, by go_num, by omega, HB1, HA2⟩
        case measure => simp only [intOf]; omega
    · have hke : k = n := by omega
      subst hke
      have k1 : ¬ (k : Int) < (k : Int) := by omega
      have HE : Hid (F = decide ((k : Int) ≤ 15)) := Lib.hid (by
        have h := HA.out
        rw [List.take_of_length_le (by rw [HN.out]; exact Nat.le_refl _)] at h
        rw [HF.out, h, ← HN.out, Bool.true_and]
        have : ((k : Int) ≤ 15) ↔ (k ≤ 15) := by omega
        simp only [this])
      clear HA
      go_wp2
      go_ret
      exact ⟨by rw [HE.out] <;> rfl, HB.out⟩
section
variable {pL tR : ByteArray → Bool}
theorem li_cons (p u : Bool) (ux us ul : ByteArray) (ua : List P3) (uk nx : Fo) : liK pL tR p (.cons u ux us ul ua uk nx) = (!(p && u) && liK pL tR false (.cons u ux us ul ua uk .nil) && liK pL tR u nx) := by
  rw [liK, liK, liK]
  simp
theorem li_text (tx sp lo : ByteArray) (ats : List P3) (ks : Fo) : liK pL tR false (.cons true tx sp lo ats ks .nil) = rightF pL tR ⟨2, emB, emB, [], tx⟩ := by
  rw [liK, liK]
  simp
theorem li_el (tx sp lo : ByteArray) (ats : List P3) (ks : Fo) : liK pL tR false (.cons false tx sp lo ats ks .nil) = (rightF pL tR ⟨1, sp, lo, ats, emB⟩ && (noX ats && decide (ats.length ≤ 15)) && liK pL tR false ks) := by
  rw [liK, liK]
  simp
end
def LiC (f : Nat) (N : Nat) : Prop := ∀ (t : Bool) (tx sp lo : ByteArray) (ats : List P3) (ks : Fo) (Aa : Option Addr) (na ca : Nat) (Ak : Option Addr) (nk ck : Nat) (P : Nat → Prop) (w : World), ks.siz < N → Tr1 P w tx sp lo ats ks Aa na ca Ak nk ck → (∀ x ∈ (Fo.cons t tx sp lo ats ks .nil).evs, RgB x) →
    Calls Tryd.prog f #[.agg #[.bool t, .string tx, .string sp, .string lo, .slice Aa na ca, .slice Ak nk ck]] w fun e w' => e = .returned (.bool (liK plF rtF false (Fo.cons t tx sp lo ats ks .nil))) ∧ Below w.heap.size w w'
theorem evs_drop : ∀ (k : Nat) (f : Fo), ∀ x ∈ (f.drop k).evs, x ∈ f.evs
  | 0, f, x, h => h
  | k + 1, .nil, x, h => h
  | k + 1, .cons t tx sp lo ats ks nx, x, h => by
    rw [Fo.evs]
    exact List.mem_append.2 (.inr (evs_drop k nx x h))
theorem evs_one_app (t : Bool) (tx sp lo : ByteArray) (ats : List P3) (ks nx : Fo) : (Fo.cons t tx sp lo ats ks nx).evs = (Fo.cons t tx sp lo ats ks .nil).evs ++ nx.evs := by
  rw [Fo.evs, Fo.evs, Fo.evs, List.append_nil]
theorem rg_kid {sp lo tx : ByteArray} {ats : List P3} {ks : Fo} (h : ∀ x ∈ (Fo.cons false tx sp lo ats ks .nil).evs, RgB x) {k : Nat} {u : Bool} {ux us ul : ByteArray} {ua : List P3} {uk nx : Fo} (e : ks.drop k = .cons u ux us ul ua uk nx) : ∀ x ∈ (Fo.cons u ux us ul ua uk .nil).evs, RgB x := fun x hx => by
  refine h x ?_
  rw [evs_el]
  refine List.mem_append.2 (.inl (List.mem_append.2 (.inr (evs_drop k ks x ?_))))
  rw [e, evs_one_app]
  exact List.mem_append.2 (.inl hx)
theorem rg_own {sp lo tx : ByteArray} {ats : List P3} {ks : Fo} (h : ∀ x ∈ (Fo.cons false tx sp lo ats ks .nil).evs, RgB x) : RgB ⟨1, sp, lo, ats, emB⟩ := h _ (by rw [evs_el]; simp)
theorem rg_tx {sp lo tx : ByteArray} {ats : List P3} {ks : Fo} (h : ∀ x ∈ (Fo.cons true tx sp lo ats ks .nil).evs, RgB x) : RgB ⟨2, emB, emB, [], tx⟩ := h _ (by rw [Fo.evs, if_pos rfl]; simp)
theorem drop_end : ∀ f : Fo, f.drop f.len = .nil
  | .nil => rfl
  | .cons _ _ _ _ _ _ nx => drop_end nx
theorem drop_full {ks : Fo} {nk : Nat} (h : nk = ks.len) : ks.drop nk = .nil := by rw [h]; exact drop_end ks
set_option maxHeartbeats 8000000 in
set_option maxRecDepth 100000 in
theorem li_step (N : Nat) (hIH : Hid (LiC 11 N)) : LiC 11 (N + 1) := by
  intro t tx sp lo ats ks Aa na ca Ak nk ck P w hN T hR
  have HK0 := Lib.hid (nblk w 27 #[.bool t, .string tx, .string sp, .string lo, .slice Aa na ca, .slice Ak nk ck])
  have HB0 := Lib.hid ((Below.refl w.heap.size w).alloc (Nat.le_refl _) (.cells #[.bool t, .string tx, .string sp, .string lo, .slice Aa na ca, .slice Ak nk ck] 27))
  cases t with
  | true =>
    rw [li_text]
    have C := Lib.hid (ep_all none 0 0 ⟨2, emB, emB, [], tx⟩ (w.alloc (.cells #[.bool true, .string tx, .string sp, .string lo, .slice Aa na ca, .slice Ak nk ck] 27)) (attsNil _) (rg_tx hR))
    clear T hR
    generalize rightF plF rtF ⟨2, emB, emB, [], tx⟩ = F at *
    go_enter Tryd.func11, Tryd.ntmps11
    go_wp2_with fail
    refine C.out.mono ?_
    rintro e w1 ⟨rfl, b1⟩
    have HB1 := Lib.hid (HB0.out.trans (b1.mono HB0.out.size))
    clear C b1
    go_wp2
    go_ret
    exact ⟨rfl, HB1.out⟩
  | false =>
    rw [li_el]
    have hnk := T.ks.2.1
    have HNL := Lib.hid T.ks.1
    have HT : Hid (∀ W, Below w.heap.size w W → Tr1 P W tx sp lo ats ks Aa na ca Ak nk ck) := Lib.hid fun W hW => T.keep hW
    have HZ := Lib.hid (show w.heap.size < (w.alloc (.cells #[.bool false, .string tx, .string sp, .string lo, .slice Aa na ca, .slice Ak nk ck] 27)).heap.size by simp)
    have C1 := Lib.hid (ep_all Aa na ca ⟨1, sp, lo, ats, emB⟩ (w.alloc (.cells #[.bool false, .string tx, .string sp, .string lo, .slice Aa na ca, .slice Ak nk ck] 27)) (T.keep HB0.out).at_ (rg_own hR))
    have C2 : Hid (∀ W, Below w.heap.size w W → Calls Tryd.prog 23 #[.slice Aa na ca] W fun e w' => e = .returned (.bool (noX ats && decide (ats.length ≤ 15))) ∧ Below W.heap.size W w') := Lib.hid fun W hW => sfew_any Aa na ca ats W (T.keep hW).at_
    have CS : Hid (∀ (u : Bool) (ux us ul : ByteArray) (ua : List P3) (uk : Fo) (u1 : Option Addr) (u2 u3 : Nat) (u4 : Option Addr) (u5 u6 k : Nat) W, ks.drop k = .cons u ux us ul ua uk (ks.drop (k + 1)) → Tr1 P W ux us ul ua uk u1 u2 u3 u4 u5 u6 → Calls Tryd.prog 11 #[.agg #[.bool u, .string ux, .string us, .string ul, .slice u1 u2 u3, .slice u4 u5 u6]] W fun e w' => e = .returned (.bool (liK plF rtF false (Fo.cons u ux us ul ua uk .nil))) ∧ Below W.heap.size W w') := Lib.hid fun u ux us ul ua uk u1 u2 u3 u4 u5 u6 k W ed hX => by
      have hsk := siz_kid ed
      exact hIH.out u ux us ul ua uk u1 u2 u3 u4 u5 u6 P W (by omega) hX (rg_kid hR ed)
    clear T hR
    generalize rightF plF rtF ⟨1, sp, lo, ats, emB⟩ = r at *
    generalize (noX ats && decide (ats.length ≤ 15)) = f at *
    obtain ⟨F, hF⟩ : ∃ F, F = (r && f && liK plF rtF false ks) := ⟨_, rfl⟩
    rw [← hF]
    have HF0 := Lib.hid hF
    clear hF
    go_enter Tryd.func11, Tryd.ntmps11
    go_wp2_with fail
    refine C1.out.mono ?_
    rintro e w1 ⟨rfl, b1⟩
    have HB1 := Lib.hid (HB0.out.trans (b1.mono HB0.out.size))
    have HK1 := Lib.hid ((b1.block _ HZ.out).trans HK0.out)
    have HZ1 := Lib.hid (Nat.lt_of_lt_of_le HZ.out b1.size)
    obtain ⟨c0, c1, c2, c3, c4, c5⟩ := cells6 HK1.out
    clear b1 C1 HK0 HB0 HZ
    cases r with
    | false =>
      have HE : Hid (F = false) := Lib.hid (by rw [HF0.out]; rfl)
      go_wp2
      go_ret
      exact ⟨by rw [HE.out] <;> rfl, HB1.out⟩
    | true =>
      have C3 := Lib.hid (C2.out w1 HB1.out)
      go_wp2_with fail
      refine C3.out.mono ?_
      rintro e w2 ⟨rfl, b2⟩
      have HB2 := Lib.hid (HB1.out.trans (b2.mono HB1.out.size))
      have HK2 := Lib.hid ((b2.block _ HZ1.out).trans HK1.out)
      have HZ2 := Lib.hid (Nat.lt_of_lt_of_le HZ1.out b2.size)
      clear b2 C3 C2 HK1 HB1 HZ1 c0 c1 c2 c3 c4 c5
      obtain ⟨c0, c1, c2, c3, c4, c5⟩ := cells6 HK2.out
      cases f with
      | false =>
        have HE : Hid (F = false) := Lib.hid (by rw [HF0.out]; rfl)
        go_wp2
        go_ret
        exact ⟨by rw [HE.out] <;> rfl, HB2.out⟩
      | true =>
        have HF : Hid (F = liK plF rtF false ks) := Lib.hid (by rw [HF0.out]; rfl)
        clear HF0
        go_wp2_with fail
        clear c0 c1 c2 c3 c4 c5
        go_loopw [3, 28] (fun v i wr => ∃ (k : Nat) (p : Bool), v = .bool p ∧ i = .int .i64 k ∧ k ≤ nk ∧ Hid (Below w.heap.size w wr) ∧ Hid (F = liK plF rtF p (ks.drop k))) (fun _ i _ => nk - (intOf i).toNat)
        case atStart => exact ⟨0, false, rfl, rfl, Nat.zero_le _, HB2, HF⟩
        case round =>
          clear HB2 HF HK2 HZ2
          obtain ⟨k, p, rfl, rfl, hk, HB, HA⟩ := hrel
          by_cases hlt : k < nk
          · have g1 : (k : Int) < (nk : Int) := by omega
            have g2 : (0 : Int) ≤ (k : Int) := by omega
            obtain ⟨u, ux, us, ul, ua, uk, b1, o1, u1, u2, u3, u4, u5, u6, ed, hAk, hb1, x6, Y⟩ := (HT.out wr HB.out).ks.at_ (k := k) hlt
            subst hAk
            have hB9 : Below wr.heap.size wr (wr.alloc (.cells #[.bool u, .string ux, .string us, .string ul, .slice u1 u2 u3, .slice u4 u5 u6] 27)) := (Below.refl _ wr).alloc (Nat.le_refl _) _
            have C9 := Lib.hid (CS.out u ux us ul ua uk u1 u2 u3 u4 u5 u6 k (wr.alloc (.cells #[.bool u, .string ux, .string us, .string ul, .slice u1 u2 u3, .slice u4 u5 u6] 27)) ed (Y.keep hB9))
            have HK9 := Lib.hid (nblk wr 27 #[.bool u, .string ux, .string us, .string ul, .slice u1 u2 u3, .slice u4 u5 u6])
            have HB9 := Lib.hid (HB.out.trans (hB9.mono HB.out.size))
            have HZ9 := Lib.hid (show wr.heap.size < (wr.alloc (.cells #[.bool u, .string ux, .string us, .string ul, .slice u1 u2 u3, .slice u4 u5 u6] 27)).heap.size by simp)
            have HA2 := Lib.hid (HA.out.trans (by rw [ed, li_cons]))
            obtain ⟨x1, x2, x3, x4, x5, x7⟩ := x6
            clear Y ed hb1 hB9 HA HB
            generalize liK plF rtF false (Fo.cons u ux us ul ua uk .nil) = g at *
            rcases (show (p = true ∧ u = true) ∨ ((p && u) = false) by cases p <;> cases u <;> simp) with ⟨hp, hu⟩ | hpu
            · subst hp hu
              have HE : Hid (F = false) := Lib.hid (by rw [HA2.out]; rfl)
              clear C9 HA2
              go_wp2
              go_ret
              exact ⟨by rw [HE.out] <;> rfl, HB9.out⟩
            · have HA3 : Hid (F = (g && liK plF rtF u (ks.drop (k + 1)))) := Lib.hid (by rw [HA2.out, hpu]; rfl)
              clear HA2
              cases p
              · clear hpu
                go_wp2_with fail
                refine C9.out.mono ?_
                rintro e w8 ⟨rfl, b8⟩
                have HB8 := Lib.hid (HB9.out.trans (b8.mono HB9.out.size))
                obtain ⟨y0, y1, y2, y3, y4, y5⟩ := cells6 ((b8.block _ HZ9.out).trans HK9.out)
                clear b8 C9 x1 x2 x3 x4 x5 x7
                cases g with
                | false =>
                  have HE : Hid (F = false) := Lib.hid (by rw [HA3.out]; rfl)
                  go_wp2
                  go_ret
                  exact ⟨by rw [HE.out] <;> rfl, HB8.out⟩
                | true =>
                  have HA4 : Hid (F = liK plF rtF u (ks.drop (k + 1))) := Lib.hid (by rw [HA3.out]; rfl)
                  clear HA3
                  go_wp2_with fail
                  go_roundw
                  case rel => exact ⟨k + 1, u, rfl, by go_num, by omega, HB8, HA4⟩
                  case measure => simp only [intOf]; omega
              · obtain rfl : u = false := by cases u <;> simp_all
                clear hpu
                go_wp2_with fail
                refine C9.out.mono ?_
                rintro e w8 ⟨rfl, b8⟩
                have HB8 := Lib.hid (HB9.out.trans (b8.mono HB9.out.size))
                obtain ⟨y0, y1, y2, y3, y4, y5⟩ := cells6 ((b8.block _ HZ9.out).trans HK9.out)
                clear b8 C9 x1 x2 x3 x4 x5 x7
                cases g with
                | false =>
                  have HE : Hid (F = false) := Lib.hid (by rw [HA3.out]; rfl)
                  go_wp2
                  go_ret
                  exact ⟨by rw [HE.out] <;> rfl, HB8.out⟩
                | true =>
                  have HA4 : Hid (F = liK plF rtF false (ks.drop (k + 1))) := Lib.hid (by rw [HA3.out]; rfl)
                  clear HA3
                  go_wp2_with fail
                  go_roundw
                  case rel => exact ⟨k + 1, false, rfl, by go_num, by omega, HB8, HA4⟩
                  case measure => simp only [intOf]; omega
          · have hke : k = nk := by omega
            have HE : Hid (F = true) := Lib.hid (by rw [HA.out, hke, drop_full HNL.out]; rfl)
            have g1 : ¬ (k : Int) < (nk : Int) := by omega
            clear hke HA
            go_wp2
            go_ret
            exact ⟨by rw [HE.out] <;> rfl, HB.out⟩
theorem li_all : ∀ N, LiC 11 N
  | 0 => fun t tx sp lo ats ks Aa na ca Ak nk ck P w h => by omega
  | N + 1 => li_step N (Lib.hid (li_all N))
end Go.Proofs.YtjboglpnpgghiaaDoor.Ev

/- Events behind the first; what stands in memory in the loop of tree.first. -/
set_option linter.unusedSimpArgs false
set_option linter.unusedVariables false
namespace Go.Proofs.YtjboglpnpgghiaaDoor.Ev
open Go.RowKit

/-- What stands first. -/
theorem EvsIn.head {W : World} {A : Option Addr} {n c : Nat} {x : RE} {l : List RE} (h : EvsIn W A n c (x :: l)) : ∃ b off Aa na ca, A = some ⟨b, off, none⟩ ∧ b < W.heap.size ∧ AttsIn W Aa na ca x.ats ∧ W.cell? ⟨b, off, none⟩ = some (.int .i64 x.kind) ∧ W.cell? ⟨b, off + 1, none⟩ = some (.string x.sp) ∧ W.cell? ⟨b, off + 2, none⟩ = some (.string x.lo) ∧ W.cell? ⟨b, off + 3, none⟩ = some (.slice Aa na ca) ∧ W.cell? ⟨b, off + 4, none⟩ = some (.string x.tx) := by
  obtain ⟨b, o, Aa, n', c', e, hlt, ta, c0, c1, c2, c3, c4⟩ := h.rd 0 x rfl
  rw [Nat.zero_mul, Nat.add_zero] at c0 c1 c2 c3 c4
  exact ⟨b, o, Aa, n', c', e, hlt, ta, c0, c1, c2, c3, c4⟩
end Go.Proofs.YtjboglpnpgghiaaDoor.Ev

/- tree.first of a text. -/
set_option linter.unusedSimpArgs false
set_option linter.unusedVariables false
namespace Go.Proofs.YtjboglpnpgghiaaDoor.Ev
open Go.RowKit

theorem lim_maxLen {s : ByteArray} (h : s.size ≤ LimS) : s.size ≤ maxLen := by unfold LimS at h; unfold maxLen; omega
end Go.Proofs.YtjboglpnpgghiaaDoor.Ev

/- A tree that is handed in, opened. -/
set_option linter.unusedSimpArgs false
set_option linter.unusedVariables false
namespace Go.Proofs.YtjboglpnpgghiaaDoor.Ev
open Go.Joins Go.ChangeShapes Go.WideShapes Go.RowKit Go.Deep

theorem Tryd.cells27 : Tryd.prog.cellsOf 27 = 6 := by kernel_rfl
theorem Tryd.cells25 : Tryd.prog.cellsOf 25 = 1 := by kernel_rfl
theorem Tryd.cells4 : Tryd.prog.cellsOf 4 = 1 := by kernel_rfl
theorem Tryd.bytes27 : Tryd.prog.bytesOf 27 = 104 := by kernel_rfl
/-- All strings of these trees can be copied. -/
def Fo.szs : Fo → Prop
  | .nil => True
  | .cons t tx sp lo ats ks nx => (tx.size ≤ LimS ∧ sp.size ≤ LimS ∧ lo.size ≤ LimS ∧ LimA ats) ∧ ks.szs ∧ nx.szs
theorem lim_of {s : ByteArray} (h : s.data.toList.length ≤ reachBytes) : s.size ≤ LimS := by
  rw [← Lib.size_eq] at h
  exact h
/-- A tree's parts. -/
structure TT where
  t : Bool
  tx : ByteArray
  sp : ByteArray
  lo : ByteArray
  ats : List P3
  ks : Fo
  Aa : Option Addr
  na : Nat
  ca : Nat
  Ak : Option Addr
  nk : Nat
  ck : Nat
instance : Nonempty TT := ⟨⟨false, emB, emB, emB, [], .nil, none, 0, 0, none, 0, 0⟩⟩
def foT : List TT → Fo
  | [] => .nil
  | x :: l => .cons x.t x.tx x.sp x.lo x.ats x.ks (foT l)
def TTok (w : World) (x : TT) : Prop := Tr1 (· < w.heap.size) w x.tx x.sp x.lo x.ats x.ks x.Aa x.na x.ca x.Ak x.nk x.ck ∧ (Fo.cons x.t x.tx x.sp x.lo x.ats x.ks .nil).szs
theorem foT_len : ∀ l : List TT, (foT l).len = l.length
  | [] => rfl
  | x :: l => by rw [foT, Fo.len, foT_len l, List.length_cons]
theorem foT_at {w : World} {b : Nat} : ∀ (l : List TT) (off : Nat), (∀ k x, l[k]? = some x → Tc6 w b (off + k * 6) x.t x.tx x.sp x.lo x.Aa x.na x.ca x.Ak x.nk x.ck ∧ TTok w x) → KsAt (· < w.heap.size) w (foT l) b off ∧ (foT l).szs
  | [], off, _ => ⟨trivial, trivial⟩
  | x :: l, off, h => by
    obtain ⟨h1, h2, h3⟩ := h 0 x rfl
    rw [Nat.zero_mul, Nat.add_zero] at h1
    obtain ⟨k1, k2⟩ := foT_at l (off + 6) fun k y hk => by
      have q := h (k + 1) y (by rw [List.getElem?_cons_succ]; exact hk)
      rw [show off + (k + 1) * 6 = off + 6 + k * 6 by omega] at q
      exact q
    exact ⟨KsAt.mk h1 h2 k1, h3.1, h3.2.1, k2⟩
theorem size_mem {H : Type} {D : DataW H} {l S : List (DataW H)} (h : D ∈ l) : SizeOf.sizeOf D < SizeOf.sizeOf (DataW.slice l S) := by
  have := List.sizeOf_lt_of_mem h
  simp
  omega
theorem size_five {H : Type} {a b c d e : DataW H} : SizeOf.sizeOf e < SizeOf.sizeOf (DataW.agg [a, b, c, d, e]) := by
  simp
  omega
end Go.Proofs.YtjboglpnpgghiaaDoor.Ev

/- What the laws of layer 11 have in common: few, awake. -/
set_option linter.unusedVariables false
set_option linter.unusedSimpArgs false
namespace Go.Proofs.YtjboglpnpgghiaaDoor.Ev
open Go.RowKit

theorem dword_any (t : Bool) (tx sp lo : ByteArray) (ats : List P3) (ks : Fo) (Aa : Option Addr) (na ca : Nat) (Ak : Option Addr) (nk ck : Nat) (W : World) (hs : ks.siz ≤ 1000) (T : Tr1 (· < W.heap.size) W tx sp lo ats ks Aa na ca Ak nk ck) : Calls Tryd.prog 15 #[.agg #[.bool t, .string tx, .string sp, .string lo, .slice Aa na ca, .slice Ak nk ck]] W fun e w' => ∃ A c, e = .returned (.slice A (Fo.cons t tx sp lo ats ks .nil).evs.length c) ∧ EvsIn w' A (Fo.cons t tx sp lo ats ks .nil).evs.length c (Fo.cons t tx sp lo ats ks .nil).evs ∧ Below W.heap.size W w' := by
  refine (word_all (ks.siz + 1) t tx sp lo ats ks Aa na ca Ak nk ck W.heap.size W (Nat.lt_succ_self _) hs (Nat.le_refl _) T).mono fun e w' h => ?_
  obtain ⟨v, ps, rfl, o, m, b⟩ := h
  obtain ⟨A, c, rfl⟩ := own_slice o.own
  have hl : ps.length = (Fo.cons t tx sp lo ats ks .nil).evs.length := by rw [← m, List.length_map]
  have hle := evs_len (Fo.cons t tx sp lo ats ks .nil)
  rw [Fo.siz, Fo.siz] at hle
  have h1 := own_evs o.own rfl o.atO (by omega)
  rw [m, hl] at h1
  exact ⟨A, c, by rw [hl], h1, b⟩
/-- A tree in a box. -/
structure TbX (w : World) (u : Bool) (tx sp lo : ByteArray) (ats : List P3) (ks : Fo) (Aa : Option Addr) (na ca : Nat) (Ak : Option Addr) (nk ck tb : Nat) (W : World) : Prop where
  box : W.heap[tb]? = some (.cells #[.bool u, .string tx, .string sp, .string lo, .slice Aa na ca, .slice Ak nk ck] 27 (0, 0))
  tr : Tr1 (· < W.heap.size) W tx sp lo ats ks Aa na ca Ak nk ck
  bel : Below w.heap.size w W
section
variable {w W W' : World} {u : Bool} {tx sp lo : ByteArray} {ats : List P3} {ks : Fo} {Aa : Option Addr} {na ca : Nat} {Ak : Option Addr} {nk ck tb : Nat}
theorem TbX.keep (h : TbX w u tx sp lo ats ks Aa na ca Ak nk ck tb W) (hb : Below W.heap.size W W') : TbX w u tx sp lo ats ks Aa na ca Ak nk ck tb W' := ⟨(hb.block _ (Array.getElem?_eq_some_iff.1 h.box).1).trans h.box, (h.tr.keep hb).mono fun b hp => Nat.lt_of_lt_of_le hp hb.size, h.bel.trans (hb.mono h.bel.size)⟩
theorem TbX.s6 (h : TbX w u tx sp lo ats ks Aa na ca Ak nk ck tb W) : W.cell? ⟨tb, 0, none⟩ = some (.bool u) ∧ W.cell? ⟨tb, 1, none⟩ = some (.string tx) ∧ W.cell? ⟨tb, 2, none⟩ = some (.string sp) ∧ W.cell? ⟨tb, 3, none⟩ = some (.string lo) ∧ W.cell? ⟨tb, 4, none⟩ = some (.slice Aa na ca) ∧ W.cell? ⟨tb, 5, none⟩ = some (.slice Ak nk ck) := cells6 h.box
theorem TbX.mk' (hb : Below w.heap.size w W) (ht : Tr1 (· < W.heap.size) W tx sp lo ats ks Aa na ca Ak nk ck) : TbX w u tx sp lo ats ks Aa na ca Ak nk ck W.heap.size (W.alloc (.cells #[.bool u, .string tx, .string sp, .string lo, .slice Aa na ca, .slice Ak nk ck] 27)) := by
  have h := (Below.refl W.heap.size W).alloc (Nat.le_refl _) (.cells #[.bool u, .string tx, .string sp, .string lo, .slice Aa na ca, .slice Ak nk ck] 27)
  exact ⟨nblk W 27 _, (ht.keep h).mono fun b hp => Nat.lt_of_lt_of_le hp h.size, hb.trans (h.mono hb.size)⟩
end
/-- What few says of a tree. -/
structure FewT (f : Fo) : Prop where
  siz : f.siz ≤ 150
  evs : f.evs.length ≤ 400
  few : ∀ (k : Nat) (x : RE), f.evs[k]? = some x → FewE x
theorem FewT.all {f : Fo} (h : FewT f) : ∀ x ∈ f.evs, FewE x := fun x hx => by
  obtain ⟨k, hk⟩ := List.getElem?_of_mem hx
  exact h.few k x hk
theorem FewT.rg {f : Fo} (h : FewT f) : ∀ x ∈ f.evs, RgB x := fun x hx => few_rgb (h.all x hx)
theorem few_atN : ∀ f : Fo, (∀ x ∈ f.evs, FewE x) → f.atN
  | .nil, _ => trivial
  | .cons t tx sp lo ats ks nx, h => by
    rw [evs_one_app] at h
    refine ⟨fun ht => ?_, few_atN nx fun x hx => h x (List.mem_append.2 (.inr hx))⟩
    subst ht
    rw [evs_el] at h
    refine ⟨(h ⟨1, sp, lo, ats, emB⟩ (by simp)).ats, few_atN ks fun x hx => h x ?_⟩
    exact List.mem_append.2 (.inl (List.mem_append.2 (.inl (List.mem_append.2 (.inr hx)))))
theorem FewT.pr {f : Fo} (h : FewT f) (hM : f.szM) {d : ByteArray} (hd : d.size ≤ 1048576) : PrOk f d := by
  have ha := few_atN f h.all
  refine ⟨hM, ha, hd, ?_⟩
  have h1 := txB_len f d hM ha
  have h2 := h.siz
  omega
set_option maxHeartbeats 4000000 in
set_option maxRecDepth 100000 in
theorem lfew_any (t : Bool) (tx sp lo : ByteArray) (ats : List P3) (ks : Fo) (Aa : Option Addr) (na ca : Nat) (Ak : Option Addr) (nk ck : Nat) (w : World) (T : Tr1 (· < w.heap.size) w tx sp lo ats ks Aa na ca Ak nk ck) :
    Calls Tryd.prog 7 #[.agg #[.bool t, .string tx, .string sp, .string lo, .slice Aa na ca, .slice Ak nk ck]] w fun e w' => ∃ b, e = .returned (.bool b) ∧ (b = true → FewT (Fo.cons t tx sp lo ats ks .nil)) ∧ Below w.heap.size w w' := by
  have X0 : Hid (TbX w t tx sp lo ats ks Aa na ca Ak nk ck w.heap.size (w.alloc (.cells #[.bool t, .string tx, .string sp, .string lo, .slice Aa na ca, .slice Ak nk ck] 27))) := Lib.hid (TbX.mk' (Below.refl _ _) T)
  clear T
  go_enter Tryd.func7, Tryd.ntmps7
  go_upto_region 1 with fail
  generalize w.alloc (.cells #[.bool t, .string tx, .string sp, .string lo, .slice Aa na ca, .slice Ak nk ck] 27) = W0 at *
  generalize w.heap.size = tb at *
  obtain ⟨d0, d1, d2, d3, d4, d5⟩ := X0.out.s6
  have CF := Lib.hid (tfew_any t tx sp lo ats ks Aa na ca Ak nk ck _ W0 X0.out.tr)
  go_wp2_with fail
  refine CF.out.mono ?_
  rintro e w2 ⟨bf, rfl, hf, b2⟩
  have X2 := Lib.hid (X0.out.keep b2)
  clear b2 CF X0 d0 d1 d2 d3 d4 d5
  obtain ⟨d0, d1, d2, d3, d4, d5⟩ := X2.out.s6
  cases bf with
  | false =>
    clear hf
    go_wp2
    go_ret
    exact ⟨false, rfl, (fun h => by cases h), X2.out.bel⟩
  | true =>
    have hsz := (hf rfl).1
    have hks : ks.siz ≤ 1000 := by rw [Fo.siz, Fo.siz] at hsz; omega
    have HS := Lib.hid hsz
    have CWd := Lib.hid (dword_any t tx sp lo ats ks Aa na ca Ak nk ck w2 hks X2.out.tr)
    have CFw : Hid (∀ W A c, EvsIn W A (Fo.cons t tx sp lo ats ks .nil).evs.length c (Fo.cons t tx sp lo ats ks .nil).evs → Calls Tryd.prog 14 #[.slice A (Fo.cons t tx sp lo ats ks .nil).evs.length c] W (FwPost (Fo.cons t tx sp lo ats ks .nil).evs W)) := Lib.hid fun W A c h => few_any A _ c _ W h
    clear hf hsz hks
    generalize hE : (Fo.cons t tx sp lo ats ks .nil).evs = E at *
    have HE := Lib.hid hE
    clear hE
    go_wp2_with fail
    refine CWd.out.mono ?_
    rintro e w3 ⟨A3, c3, rfl, T3, b3⟩
    have X3 := Lib.hid (X2.out.keep b3)
    have C3 := Lib.hid (CFw.out w3 A3 c3 T3)
    clear b3 X2 T3 CFw CWd d0 d1 d2 d3 d4 d5
    go_wp2_with fail
    refine C3.out.mono ?_
    rintro e w4 ⟨bw, rfl, hw, rfl⟩
    have HW := Lib.hid hw
    clear hw C3
    go_wp2
    go_ret
    exact ⟨bw, rfl, (fun h => ⟨HS.out, by rw [HE.out]; exact (HW.out h).1, by rw [HE.out]; exact (HW.out h).2⟩), X3.out.bel⟩
/-- The tree that the document fixes. -/
def uB : ByteArray := ⟨#[117]⟩
def vB : ByteArray := ⟨#[118]⟩
def oB : ByteArray := ⟨#[49]⟩
def aB' : ByteArray := ⟨#[97]⟩
def bB' : ByteArray := ⟨#[98]⟩
def awA : List P3 := [((vB, bB'), oB)]
def awF : Fo := .cons false emB uB aB' awA .nil .nil
theorem aw_txt : strOfNums (txB awF emB) = ⟨#[60, 97, 32, 120, 109, 108, 110, 115, 61, 34, 117, 34, 32, 120, 109, 108, 110, 115, 58, 110, 48, 61, 34, 118, 34, 32, 110, 48, 58, 98, 61, 34, 49, 34, 47, 62]⟩ := by
  refine (str_of_byts ?_).symm
  unfold awF
  rw [txB_empty _ _ _ _ _ _ rfl]
  have h0 : dgB 0 = [48] := dgB_small (by decide)
  have hs : spL awA = [vB] := by decide +kernel
  unfold hdB
  rw [hs]
  unfold awA
  simp only [bdB, asB, aB, aNm, xnB, nmB, ixS, if_true, h0, List.append_nil]
  rw [if_neg (by decide), if_pos (by decide), if_neg (by decide), if_neg (by decide)]
  decide +kernel
theorem aw_right : rightF plF rtF ⟨1, uB, aB', awA, emB⟩ = true := by
  have r1 : rtF uB = true := rt_mk (l := [117]) (k := 1) (by decide +kernel) (by decide)
  have r2 : rtF vB = true := rt_mk (l := [118]) (k := 1) (by decide +kernel) (by decide)
  have r3 : rtF bB' = true := rt_mk (l := [98]) (k := 1) (by decide +kernel) (by decide)
  have r4 : rtF oB = true := rt_mk (l := [49]) (k := 1) (by decide +kernel) (by decide)
  have r5 : rtF aB' = true := rt_a
  have p1 : plF aB' = true := pl_a
  have p2 : plF bB' = true := by unfold plF; decide +kernel
  have l1 : uB.toList = [117] := by rw [Lib.toList_data]; rfl
  have l2 : vB.toList = [118] := by rw [Lib.toList_data]; rfl
  unfold rightF nmF awA
  dsimp only
  rw [if_neg (by decide), if_neg (by decide), p1, r5, r1, l1, if_neg]
  · simp [goA, p2, r2, r3, r4, l2]
  · rintro (h | h | h | h)
    · exact h rfl
    · unfold emp at h
      rw [em_list] at h
      cases h
    · cases h
    · simp at h
theorem aw_li : liK plF rtF false awF = true := by
  unfold awF
  rw [li_el, aw_right]
  simp [liK, awA]
  decide +kernel
theorem aw_rg : ∀ x ∈ awF.evs, RgB x := by
  intro x hx
  unfold awF at hx
  rw [evs_el] at hx
  simp only [Fo.evs, List.append_nil, List.cons_append, List.nil_append, List.mem_cons, List.not_mem_nil, or_false] at hx
  rcases hx with rfl | rfl
  · refine ⟨by decide, by decide, by decide, fun _ y hy => ?_⟩
    simp only [awA, List.mem_cons, List.not_mem_nil, or_false] at hy
    rw [hy]
    decide
  · exact ⟨by decide, by decide, by decide, fun _ y hy => by cases hy⟩
theorem aw_pr : PrOk awF emB := by
  have hM : awF.szM := ⟨⟨by decide, by decide, by decide, fun x hx => by
    simp only [awA, List.mem_cons, List.not_mem_nil, or_false] at hx
    rw [hx]
    decide⟩, trivial, trivial⟩
  have ha : awF.atN := ⟨fun _ => ⟨by decide, trivial⟩, trivial⟩
  refine ⟨hM, ha, by decide, ?_⟩
  have h1 := txB_len awF emB hM ha
  rw [show awF.siz = 1 from rfl] at h1
  exact Nat.le_trans h1 (by decide +kernel)
theorem zero_li : liK plF rtF false (Fo.cons false emB emB emB [] .nil .nil) = false := by
  rw [li_el]
  have : rightF plF rtF ⟨1, emB, emB, [], emB⟩ = false := by
    unfold rightF nmF
    dsimp only
    have h : plF emB = false := by unfold plF; decide +kernel
    rw [h]
    simp
  rw [this]
  rfl
theorem zero_rg : ∀ x ∈ (Fo.cons false emB emB emB [] .nil .nil).evs, RgB x := by
  intro x hx
  rw [evs_el] at hx
  simp only [Fo.evs, List.append_nil, List.cons_append, List.nil_append, List.mem_cons, List.not_mem_nil, or_false] at hx
  rcases hx with rfl | rfl
  · exact ⟨by decide, by decide, by decide, fun _ y hy => by cases hy⟩
  · exact ⟨by decide, by decide, by decide, fun _ y hy => by cases hy⟩
theorem zero_tr (P : Nat → Prop) (W : World) : Tr1 P W emB emB emB [] .nil none 0 0 none 0 0 := ⟨⟨by decide, by decide, by decide⟩, attsNil _, fun h => absurd h (Nat.lt_irrefl 0), ksNil _ _⟩
theorem aw_tr {W : World} {b : Nat} (h : W.heap[b]? = some (.cells #[.string vB, .string bB', .string oB] 34 (0, 0))) : Tr1 (· < W.heap.size) W emB uB aB' awA .nil (some ⟨b, 0, none⟩) 1 1 none 0 0 := by
  have hb := (Array.getElem?_eq_some_iff.1 h).1
  have hT : AttsIn W (some ⟨b, 0, none⟩) 1 1 awA := ⟨rfl, by decide, by decide, fun x hx => by
    simp only [awA, List.mem_cons, List.not_mem_nil, or_false] at hx
    rw [hx]
    decide, fun k x hk => by
    obtain ⟨c0, c1, c2⟩ := cells3 h
    have h0 : k = 0 := by
      have := (List.getElem?_eq_some_iff.1 hk).1
      simp [awA] at this
      exact this
    subst h0
    obtain rfl : ((vB, bB'), oB) = x := by simpa [awA] using hk
    exact ⟨b, 0, rfl, hb, c0, c1, c2⟩, fun e => by cases e⟩
  exact ⟨⟨by decide, by decide, by decide⟩, hT, hT.low, ksNil _ _⟩
set_option maxHeartbeats 4000000 in
set_option maxRecDepth 100000 in
theorem awake_any (w : World) (hT : TbI w) : Calls Tryd.prog 6 #[] w fun e w' => e = .returned (.bool true) ∧ Below w.heap.size w w' := by
  have B0 : Below w.heap.size w (w.alloc (.cells #[.string vB, .string bB', .string oB] 34)) := (Below.refl _ w).alloc (Nat.le_refl _) _
  have X0 : Hid (TbX w false emB uB aB' awA .nil (some ⟨w.heap.size, 0, none⟩) 1 1 none 0 0 (w.heap.size + 1) ((w.alloc (.cells #[.string vB, .string bB', .string oB] 34)).alloc (.cells #[.bool false, .string emB, .string uB, .string aB', .slice (some ⟨w.heap.size, 0, none⟩) 1 1, .slice none 0 0] 27))) := Lib.hid (by
    have h := TbX.mk' (u := false) B0 (aw_tr (nblk w 34 #[.string vB, .string bB', .string oB]))
    rw [World.size_alloc] at h
    exact h)
  have HTb := Lib.hid hT
  clear B0 hT
  go_enter Tryd.func6, Tryd.ntmps6
  go_upto_region 2 with fail
  change Code.wp _ _ _ _ ((w.alloc (.cells #[.string vB, .string bB', .string oB] 34)).alloc (.cells #[.bool false, .string emB, .string uB, .string aB', .slice (some ⟨w.heap.size, 0, none⟩) 1 1, .slice none 0 0] 27))
  generalize (w.alloc (.cells #[.string vB, .string bB', .string oB] 34)).alloc (.cells #[.bool false, .string emB, .string uB, .string aB', .slice (some ⟨w.heap.size, 0, none⟩) 1 1, .slice none 0 0] 27) = W0 at *
  obtain ⟨d0, d1, d2, d3, d4, d5⟩ := X0.out.s6
  have CP := Lib.hid (print_any false emB uB aB' awA .nil (some ⟨w.heap.size, 0, none⟩) 1 1 none 0 0 W0 X0.out.tr aw_pr (HTb.out.keep X0.out.bel))
  rw [show Fo.cons false emB uB aB' awA .nil .nil = awF from rfl, aw_txt] at CP
  go_wp2_with fail
  refine CP.out.mono ?_
  rintro e w2 ⟨rfl, b2⟩
  have X2 := Lib.hid (X0.out.keep b2)
  clear b2 CP X0 d0 d1 d2 d3 d4 d5
  obtain ⟨d0, d1, d2, d3, d4, d5⟩ := X2.out.s6
  have CL := Lib.hid (li_all 1 false emB uB aB' awA .nil (some ⟨w.heap.size, 0, none⟩) 1 1 none 0 0 _ w2 (by decide) X2.out.tr aw_rg)
  rw [show Fo.cons false emB uB aB' awA .nil .nil = awF from rfl, aw_li] at CL
  go_wp2_with fail
  refine CL.out.mono ?_
  rintro e w3 ⟨rfl, b3⟩
  have X3 := Lib.hid (X2.out.keep b3)
  have CZ := Lib.hid (li_all 1 false emB emB emB [] .nil none 0 0 none 0 0 _ w3 (by decide) (zero_tr (fun _ => True) w3) zero_rg)
  rw [zero_li] at CZ
  clear b3 CL X2 d0 d1 d2 d3 d4 d5
  go_wp2_with fail
  refine CZ.out.mono ?_
  rintro e w4 ⟨rfl, b4⟩
  have HB := Lib.hid (X3.out.bel.trans (b4.mono X3.out.bel.size))
  clear b4 CZ X3
  go_wp2
  go_ret
  exact ⟨rfl, HB.out⟩
end Go.Proofs.YtjboglpnpgghiaaDoor.Ev
