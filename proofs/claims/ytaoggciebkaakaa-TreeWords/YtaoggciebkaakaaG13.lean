/-
  Merged by program out of the texts WdAllow, WdWc, TpWd, TpOf, TpMk, TpAt, TrInj of one seat.
-/
import Derived.Test.YtaoggciebkaakaaG10
import Derived.Test.YtaoggciebkaakaaG12
import Derived.Test.YtaoggciebkaakaaG09
import Derived.Test.YtaoggciebkaakaaG03
import Derived.Test.YtaoggciebkaakaaG02
import Derived.Test.YtaoggciebkaakaaG08
import Derived.Test.YtaoggciebkaakaaG07
import Derived.Laws.EntriesVeiled

/- word.allowed: a text is UTF-8, and all its runes may stand in a text. -/
set_option linter.unusedSimpArgs false
set_option linter.unusedVariables false
namespace Go.Proofs.Ytaoggciebkaakaa.Ev
open Go.RowKit

theorem rt_nil : Rt [] := ⟨rfl, fun r hr => by simp [decF_nil] at hr⟩
theorem drop_ne {s : ByteArray} {a : Nat} (h : a < s.size) : (byts s).drop a ≠ [] := fun e => by
  have := congrArg List.length e
  rw [List.length_drop, byts_len] at this
  simp at this
  omega
theorem rt_bad {s : ByteArray} {a : Nat} (h : a < s.size) (he : (runeF s a).2.2 ≠ 0) : ¬ Rt ((byts s).drop a) := by
  rw [runeF_dec s a h] at he
  rintro ⟨h1, _⟩
  rw [decF_err _ (drop_ne h) he] at h1
  exact he h1
theorem rt_go {s : ByteArray} {a : Nat} (h : a < s.size) (he : (runeF s a).2.2 = 0) : Rt ((byts s).drop a) ↔ (Chr (runeF s a).1 ∧ Rt ((byts s).drop (a + (runeF s a).2.1.toNat))) := by
  rw [runeF_dec s a h] at he ⊢
  unfold Rt
  rw [decF_ok _ (drop_ne h) ((byts_nn s).drop a) he, List.drop_drop]
  simp only [List.mem_cons, forall_eq_or_imp]
  exact ⟨fun ⟨h1, h2, h3⟩ => ⟨h2, h1, h3⟩, fun ⟨h2, h1, h3⟩ => ⟨h1, h2, h3⟩⟩
theorem rtF_yes {s : ByteArray} (h : Rt (byts s)) : rtF s = true := decide_eq_true h
theorem rtF_no {s : ByteArray} (h : ¬ Rt (byts s)) : rtF s = false := decide_eq_false h
set_option maxHeartbeats 2000000 in
set_option maxRecDepth 100000 in
theorem allowed_any (s : ByteArray) (w : World) (hs : s.size ≤ 100000) :
    Calls Try.prog 48 #[.string s] w fun e w' => e = .returned (.bool (rtF s)) ∧ w = w' := by
  obtain ⟨F, hF⟩ : ∃ F, F = rtF s := ⟨_, rfl⟩
  rw [← hF]
  have HY : Hid (Rt (byts s) → F = true) := Lib.hid fun h => by rw [hF, rtF_yes h]
  have HN : Hid (¬ Rt (byts s) → F = false) := Lib.hid fun h => by rw [hF, rtF_no h]
  clear hF
  go_enter Try.func48, Try.ntmps48
  go_wp2_with fail
  go_loop [3] (fun vi => ∃ k : Nat, vi = .int .i64 k ∧ k ≤ s.size ∧ Hid (Rt (byts s) ↔ Rt ((byts s).drop k))) (fun vi => s.size - (intOf vi).toNat)
  case atStart => exact ⟨0, rfl, Nat.zero_le _, Lib.hid (by rw [List.drop_zero])⟩
  case round =>
    obtain ⟨k, rfl, hk, HR⟩ := hrel
    by_cases hlt : k < s.size
    · have d1 : (k : Int) < (s.size : Int) := by omega
      have C := Lib.hid (rune_at s k w (by unfold maxLen; omega))
      have HO := runeF_okay s k hlt
      have HB := Lib.hid (fun he => rt_bad hlt (a := k) he)
      have HG := Lib.hid (fun he => rt_go hlt (a := k) he)
      unfold Okay at HO
      generalize runeF s k = x at *
      obtain ⟨r, n, er⟩ := x
      dsimp only at *
      by_cases he : er = 0
      · subst he
        have hn : 1 ≤ n ∧ n ≤ (s.size - k : Nat) := by omega
        obtain ⟨m, rfl⟩ := Int.eq_ofNat_of_zero_le (show 0 ≤ n by omega)
        have hm1 : 1 ≤ m := by omega
        have hm2 : k + m ≤ s.size := by omega
        have hr1 : 0 ≤ r ∧ r ≤ 1114111 := by omega
        have HI := Lib.hid (HR.out.trans (HG.out rfl))
        rw [Int.toNat_natCast] at HI
        have CC := chr_any r
        clear HO HG HB HR hn
        by_cases hc : Chr r
        · rw [decide_eq_true hc] at CC
          have CH := Lib.hid CC
          have HR2 : Hid (Rt (byts s) ↔ Rt ((byts s).drop (k + m))) := Lib.hid (HI.out.trans ⟨fun h => h.2, fun h => ⟨hc, h⟩⟩)
          clear CC HI hc
          go_wp2_with (first | (go_at_call 53; refine C.out.mono ?_; rintro e w' ⟨rfl, rfl⟩) | (go_at_call 54; refine (CH.out _).mono ?_; rintro e w' ⟨rfl, rfl⟩) | fail)
          refine ⟨⟨k + m, by go_num, hm2, HR2⟩, by simp only [intOf]; omega⟩
        · rw [decide_eq_false hc] at CC
          have CH := Lib.hid CC
          have HE : Hid (F = false) := Lib.hid (HN.out fun h => hc (HI.out.1 h).1)
          clear CC HI hc
          go_wp2_with (first | (go_at_call 53; refine C.out.mono ?_; rintro e w' ⟨rfl, rfl⟩) | (go_at_call 54; refine (CH.out _).mono ?_; rintro e w' ⟨rfl, rfl⟩) | fail)
          go_ret
          exact ⟨by rw [HE.out] <;> rfl, rfl⟩
      · have HE : Hid (F = false) := Lib.hid (HN.out fun h => HB.out he (HR.out.1 h))
        have e1 : (er != 0) = true := bne_iff_ne.2 he
        clear HO HG HB HR he
        go_wp2_with (first | (go_at_call 53; refine C.out.mono ?_; rintro e w' ⟨rfl, rfl⟩) | fail)
        go_ret
        exact ⟨by rw [HE.out] <;> rfl, rfl⟩
    · have d1 : ¬ (k : Int) < (s.size : Int) := by omega
      have HE : Hid (F = true) := Lib.hid (HY.out (HR.out.2 (by rw [List.drop_of_length_le (by rw [byts_len]; omega)]; exact rt_nil)))
      clear HR
      go_wp2
      go_ret
      exact ⟨by rw [HE.out] <;> rfl, rfl⟩
theorem allow_c : StrC 48 rtF := fun s W hs => (allowed_any s W (by omega)).mono fun e w' ⟨h1, h2⟩ => ⟨h1, by rw [← h2]; exact Below.refl _ _⟩
theorem plainP_c : StrC 52 plF := fun s W _ => Nz.plain_any s W
end Go.Proofs.Ytaoggciebkaakaa.Ev

/- What layer 10 asks of word.Whole; the document's Right of an event. -/
set_option linter.unusedSimpArgs false
set_option linter.unusedVariables false
namespace Go.Proofs.Ytaoggciebkaakaa.Ev
open Go.RowKit

/-- The text x. -/
def txE : RE := ⟨2, emB, emB, [], ⟨#[120]⟩⟩
theorem ms_c {pL tR : ByteArray → Bool} (C : Hid (EvP pL tR)) : MsC pL tR := fun A n c l W T hn hB => measure_any pL tR C A n c l W T hn hB
theorem rt_mk {s : ByteArray} {l : List Int} {k : Nat} (h : decF (byts s) = (l, k, 0)) (h2 : ∀ r ∈ l, Chr r) : rtF s = true := rtF_yes ⟨by rw [h], by rw [h]; exact h2⟩
theorem rt_e : rtF emB = true := rt_mk (s := emB) (l := []) (k := 0) (by decide +kernel) (by decide)
theorem rt_a : rtF ⟨#[97]⟩ = true := rt_mk (l := [97]) (k := 1) (by decide +kernel) (by decide)
theorem rt_x : rtF ⟨#[120]⟩ = true := rt_mk (l := [120]) (k := 1) (by decide +kernel) (by decide)
theorem pl_a : plF ⟨#[97]⟩ = true := by unfold plF; decide +kernel
theorem em_list : emB.toList = [] := by rw [Lib.toList_data]; rfl
theorem op_right : rightF plF rtF opE = true := by
  unfold rightF nmF opE
  dsimp only
  rw [if_neg (by decide), if_neg (by decide), pl_a, rt_a, rt_e, em_list, if_neg]
  · rfl
  · rintro (h | h | h | h)
    · exact h rfl
    · unfold emp at h
      rw [em_list] at h
      cases h
    · cases h
    · simp at h
theorem tx_right : rightF plF rtF txE = true := by
  have e : (⟨#[120]⟩ : ByteArray).toList = [120] := by rw [Lib.toList_data]
  unfold rightF noneF txE emp
  dsimp only
  rw [if_pos rfl, em_list, e, rt_x] <;> rfl
theorem ep_all : EvP plF rtF := pright_c plF rtF (Lib.hid plainP_c) (Lib.hid allow_c)
theorem whole_p (A : Option Addr) (n c : Nat) (l : List RE) (W : World) (T : EvsIn W A n c l) (hn : n ≤ 100000) (hB : ∀ x ∈ l, RgB x) : Calls Try.prog 26 #[.slice A n c] W fun e w' => e = .returned (.bool (decide (depF plF rtF l = 0 ∧ 0 < n))) ∧ Below W.heap.size W w' :=
  whole_c (Lib.hid (ms_c (Lib.hid ep_all))) A n c l W T hn hB
theorem ev_all : EvC plF rtF := fun A n c x W T hB => right_any plF rtF (Lib.hid fun sp lo W h1 h2 => named_any plF rtF (Lib.hid plain_c) (Lib.hid right_c) sp lo W h1 h2) (Lib.hid right_c) A n c x W T hB
end Go.Proofs.Ytaoggciebkaakaa.Ev

/- tree.Word, tree.Right. -/
set_option linter.unusedSimpArgs false
set_option linter.unusedVariables false
namespace Go.Proofs.Ytaoggciebkaakaa.Ev
open Go.RowKit

/-- A tree that can be spelled. -/
structure SpOk (f : Fo) : Prop where
  siz : f.siz ≤ 1000
  len : f.evs.length ≤ 10000
  lim : ∀ x ∈ f.evs, RLim x
set_option maxRecDepth 100000 in
theorem tword_any (t : Bool) (tx sp lo : ByteArray) (ats : List P3) (ks : Fo) (Aa : Option Addr) (na ca : Nat) (Ak : Option Addr) (nk ck : Nat) (w : World) (T : Tr1 (· < w.heap.size) w tx sp lo ats ks Aa na ca Ak nk ck) (S : SpOk (Fo.cons t tx sp lo ats ks .nil)) :
    Calls Try.prog 17 #[.agg #[.bool t, .string tx, .string sp, .string lo, .slice Aa na ca, .slice Ak nk ck]] w fun e w' => ∃ A c Q, e = .returned (.slice A Q.length c) ∧ EvO w' w.heap.size (.slice A Q.length c) Q ∧ Q.map (·.1) = (Fo.cons t tx sp lo ats ks .nil).evs ∧ Below w.heap.size w w' := by
  have hs : ks.siz ≤ 1000 := by have := S.siz; rw [Fo.siz, Fo.siz] at this; omega
  have B0 : Below w.heap.size w (w.alloc (.cells #[.bool t, .string tx, .string sp, .string lo, .slice Aa na ca, .slice Ak nk ck] 30)) := (Below.refl _ w).alloc (Nat.le_refl _) _
  have CS := Lib.hid (spell_all (ks.siz + 1) t tx sp lo ats ks Aa na ca Ak nk ck w.heap.size (w.alloc (.cells #[.bool t, .string tx, .string sp, .string lo, .slice Aa na ca, .slice Ak nk ck] 30)) none 0 [] (Nat.lt_succ_self _) hs (by rw [List.length_nil, Nat.zero_add]; exact S.len) B0.size (T.keep B0) S.lim (evoNil _ _))
  have HB := Lib.hid B0
  clear B0 T S hs
  go_enter Try.func17, Try.ntmps17
  go_wp2_with fail
  refine CS.out.mono ?_
  rintro e w1 ⟨A, c, Q, rfl, o, m, b⟩
  have HO := Lib.hid o
  have HM := Lib.hid m
  have HB1 := Lib.hid (HB.out.trans b)
  clear o m b CS
  generalize hq : Q.length = q at *
  go_wp2
  go_ret
  exact ⟨A, c, Q, by rw [hq]; rfl, by rw [hq]; exact HO.out, HM.out, HB1.out⟩
set_option maxHeartbeats 2000000 in
set_option maxRecDepth 100000 in
theorem tright_any (t : Bool) (tx sp lo : ByteArray) (ats : List P3) (ks : Fo) (Aa : Option Addr) (na ca : Nat) (Ak : Option Addr) (nk ck : Nat) (w : World) (T : Tr1 (· < w.heap.size) w tx sp lo ats ks Aa na ca Ak nk ck) (S : SpOk (Fo.cons t tx sp lo ats ks .nil)) (hR : ∀ x ∈ (Fo.cons t tx sp lo ats ks .nil).evs, RgB x) :
    Calls Try.prog 18 #[.agg #[.bool t, .string tx, .string sp, .string lo, .slice Aa na ca, .slice Ak nk ck]] w fun e w' => e = .returned (.bool (!t && decide (depF plF rtF (Fo.cons t tx sp lo ats ks .nil).evs = 0))) ∧ Below w.heap.size w w' := by
  have B0 : Below w.heap.size w (w.alloc (.cells #[.bool t, .string tx, .string sp, .string lo, .slice Aa na ca, .slice Ak nk ck] 30)) := (Below.refl _ w).alloc (Nat.le_refl _) _
  cases t with
  | true =>
    have HB := Lib.hid B0
    clear B0 T S hR
    rw [show (!true && decide (depF plF rtF (Fo.cons true tx sp lo ats ks .nil).evs = 0)) = false from rfl]
    go_enter Try.func18, Try.ntmps18
    go_wp2
    go_ret
    exact ⟨rfl, HB.out⟩
  | false =>
    rw [show ∀ b, (!false && b) = b from fun b => rfl]
    have CS := Lib.hid (tword_any false tx sp lo ats ks Aa na ca Ak nk ck (w.alloc (.cells #[.bool false, .string tx, .string sp, .string lo, .slice Aa na ca, .slice Ak nk ck] 30)) ((T.keep B0).mono fun b hp => Nat.lt_of_lt_of_le hp B0.size) S)
    have HB := Lib.hid B0
    have hpos := evs_one_pos false tx sp lo ats ks
    have hle := S.len
    have HRg := Lib.hid hR
    clear B0 T S hR
    generalize (Fo.cons false tx sp lo ats ks .nil).evs = E at *
    have CW : Hid (∀ (W : World) (A : Option Addr) (n c : Nat), EvsIn W A n c E → Calls Try.prog 26 #[.slice A n c] W fun e w' => e = .returned (.bool (decide (depF plF rtF E = 0))) ∧ Below W.heap.size W w') := Lib.hid fun W A n c h => by
      have h2 := whole_p A n c E W h (by rw [h.len]; omega) HRg.out
      have e : decide (depF plF rtF E = 0 ∧ 0 < n) = decide (depF plF rtF E = 0) := by
        have : 0 < n := by rw [h.len]; omega
        simp [this]
      rw [e] at h2
      exact h2
    generalize depF plF rtF E = d at *
    go_enter Try.func18, Try.ntmps18
    go_wp2_with fail
    refine CS.out.mono ?_
    rintro e w1 ⟨A, c, Q, rfl, o, m, b⟩
    have hql : Q.length ≤ 10000 := by rw [← List.length_map, m]; exact hle
    have T1 := o.evs rfl (by omega)
    rw [m] at T1
    have C1 := Lib.hid (CW.out w1 A Q.length c T1)
    have HB1 := Lib.hid (HB.out.trans (b.mono HB.out.size))
    clear o m b CS T1 HB
    generalize Q.length = q at *
    go_wp2_with fail
    refine C1.out.mono ?_
    rintro e w2 ⟨rfl, b2⟩
    have HB2 := Lib.hid (HB1.out.trans (b2.mono HB1.out.size))
    clear b2 C1
    go_wp2
    go_ret
    exact ⟨rfl, HB2.out⟩
end Go.Proofs.Ytaoggciebkaakaa.Ev

/- tree.Of. -/
set_option linter.unusedSimpArgs false
set_option linter.unusedVariables false
namespace Go.Proofs.Ytaoggciebkaakaa.Ev
open Go.RowKit

theorem dep_all {R : RE → Bool} : ∀ (l : List RE) {b : Bool} {p n : Int}, 0 ≤ depR R b p n l → ∀ x ∈ l, R x = true
  | [], _, _, _, _, x, hx => by cases hx
  | y :: r, b, p, n, h, x, hx => by
    rw [depR] at h
    by_cases h1 : R y = false ∨ (n == 0) ≠ b ∨ (b = true ∧ y.kind ≠ 1)
    · rw [if_pos h1] at h
      omega
    · rw [if_neg h1] at h
      by_cases h2 : y.kind = 2 ∧ p = 2
      · rw [if_pos h2] at h
        omega
      · rw [if_neg h2] at h
        dsimp only at h
        by_cases h3 : (64 : Int) < (if y.kind = 1 then n + 1 else if y.kind = 3 then n - 1 else n)
        · rw [if_pos h3] at h
          omega
        · rw [if_neg h3] at h
          rcases List.mem_cons.1 hx with rfl | hx
          · cases hR : R x with
            | true => rfl
            | false => exact absurd (.inl hR) h1
          · exact dep_all r h x hx
theorem right_lim {pL tR : ByteArray → Bool} {x : RE} (h : rightF pL tR x = true) (hB : RgB x) : RLim x := by
  have ha : x.ats.length ≤ 32 := by
    unfold rightF at h
    by_cases h2 : x.kind = 2
    · rw [if_pos h2] at h
      simp only [Bool.and_eq_true] at h
      rw [(none_eq h.1.1).2.2]
      simp
    by_cases h3 : x.kind = 3
    · rw [if_neg h2, if_pos h3] at h
      simp only [Bool.and_eq_true] at h
      rw [(none_eq h.1).2.2]
      simp
    rw [if_neg h2, if_neg h3] at h
    by_cases h4 : x.kind ≠ 1 ∨ emp x.tx = false ∨ nmF pL tR (x.sp, x.lo) = false ∨ 32 < x.ats.length
    · rw [if_pos h4] at h
      cases h
    · have : ¬ 32 < x.ats.length := fun e => h4 (.inr (.inr (.inr e)))
      omega
  obtain ⟨a, b, c, d⟩ := hB
  refine ⟨by unfold LimS; omega, by unfold LimS; omega, by unfold LimS; omega, by omega, fun y hy => ?_⟩
  obtain ⟨q1, q2, q3⟩ := d ha y hy
  unfold LimS
  omega
theorem doc_lim {l : List RE} (h : depF plF rtF l = 0) (hB : ∀ x ∈ l, RgB x) : ∀ x ∈ l, RLim x := fun x hx => right_lim (dep_all l (by show 0 ≤ depF plF rtF l; omega) x hx) (hB x hx)
theorem siz_pln : ∀ f : Fo, f.pln.siz ≤ f.evs.length
  | .nil => Nat.le_refl _
  | .cons t tx sp lo ats ks nx => by
    have h1 := siz_pln ks
    have h2 := siz_pln nx
    rw [Fo.pln, Fo.evs]
    cases t
    · rw [if_neg (by decide), if_neg (by decide), Fo.siz]
      simp
      omega
    · rw [if_pos rfl, if_pos rfl, Fo.siz, Fo.siz]
      simp
      omega
def OfPost (l : List RE) (n : Nat) (W : World) (e : Ending) (w' : World) : Prop :=
  Below W.heap.size W w' ∧ (¬ (depF plF rtF l = 0 ∧ 0 < n) → e = .returned (.tuple #[.agg #[.bool false, .string ⟨#[]⟩, .string ⟨#[]⟩, .string ⟨#[]⟩, .slice none 0 0, .slice none 0 0], .bool false])) ∧
  (depF plF rtF l = 0 ∧ 0 < n → ∃ sp lo ats ks Aa na ca Ak nk ck, l = (Fo.cons false emB sp lo ats ks .nil).evs ∧ ks.pln = ks ∧ e = .returned (.tuple #[.agg #[.bool false, .string emB, .string sp, .string lo, .slice Aa na ca, .slice Ak nk ck], .bool true]) ∧ Tr1 (Lo W.heap.size w') w' emB sp lo ats ks Aa na ca Ak nk ck)
theorem Try.results10 : Try.f10.results = #[ResultVar.cell 2 30, ResultVar.tmp 3] := by kernel_rfl
theorem tr_fin {w W W' : World} {s : Nat} {tx sp lo : ByteArray} {ats : List P3} {ks : Fo} {Aa : Option Addr} {na ca : Nat} {Ak : Option Addr} {nk ck : Nat} (h : Tr1 (Lo (s + 1) W) W tx sp lo ats ks Aa na ca Ak nk ck) (g : W.grownBy W' (some s)) : Tr1 (Lo s W') W' tx sp lo ats ks Aa na ca Ak nk ck :=
  (h.grown g (fun b hp e => by injection e with e; have := hp.1; omega)).mono fun b hp => ⟨by have := hp.1; omega, Nat.lt_of_lt_of_le hp.2 g.size⟩
theorem bel_fin {w W W' : World} {s : Nat} (h : Below s w W) (g : W.grownBy W' (some s)) (hs : s ≤ w.heap.size) : Below s w W' := h.grown g (Nat.le_trans hs h.size) (fun j hj => by injection hj with hj; omega)
set_option maxHeartbeats 4000000 in
set_option maxRecDepth 100000 in
theorem of_no (A : Option Addr) (n c : Nat) (l : List RE) (w : World) (T : EvsIn w A n c l) (hn : n ≤ 100000) (hB : ∀ x ∈ l, RgB x) (h : ¬ (depF plF rtF l = 0 ∧ 0 < n)) : Calls Try.prog 10 #[.slice A n c] w (OfPost l n w) := by
  have HB0 : Hid (Below w.heap.size w (w.alloc (.cells #[.bool false, .string ⟨#[]⟩, .string ⟨#[]⟩, .string ⟨#[]⟩, .slice none 0 0, .slice none 0 0] 30))) := Lib.hid ((Below.refl _ w).alloc (Nat.le_refl _) _)
  have CW := whole_p A n c l (w.alloc (.cells #[.bool false, .string ⟨#[]⟩, .string ⟨#[]⟩, .string ⟨#[]⟩, .slice none 0 0, .slice none 0 0] 30)) (T.keep HB0.out) hn hB
  rw [decide_eq_false h] at CW
  have C := Lib.hid CW
  have HN : Hid ((w.alloc (.cells #[.bool false, .string ⟨#[]⟩, .string ⟨#[]⟩, .string ⟨#[]⟩, .slice none 0 0, .slice none 0 0] 30)).heap[w.heap.size]? = some (.cells #[.bool false, .string ⟨#[]⟩, .string ⟨#[]⟩, .string ⟨#[]⟩, .slice none 0 0, .slice none 0 0] 30 (0, 0))) := Lib.hid (nblk w 30 _)
  have Hh := Lib.hid h
  clear CW T hB h
  go_enter Try.func10, Try.ntmps10
  go_wp2_with fail
  refine C.out.mono ?_
  rintro e w1 ⟨rfl, b1⟩
  have HB1 := Lib.hid (HB0.out.trans (b1.mono HB0.out.size))
  have HN1 := Lib.hid ((b1.block _ (Array.getElem?_eq_some_iff.1 HN.out).1).trans HN.out)
  clear b1 C HN HB0
  obtain ⟨W6, hW6⟩ : ∃ W6, W6 = put6W w1 w.heap.size (.bool false) (.string ⟨#[]⟩) (.string ⟨#[]⟩) (.string ⟨#[]⟩) (.slice none 0 0) (.slice none 0 0) := ⟨_, rfl⟩
  obtain ⟨h6, g6⟩ := put6 (.bool false) (.string ⟨#[]⟩) (.string ⟨#[]⟩) (.string ⟨#[]⟩) (.slice none 0 0) (.slice none 0 0) HN1.out
  rw [← hW6] at h6 g6
  have H6 := Lib.hid h6
  have B6 := Lib.hid (bel_fin HB1.out g6 (Nat.le_refl _))
  have E6 := Lib.hid hW6
  obtain ⟨r0, r1, r2, r3, r4, r5⟩ := cells6 HN1.out
  have f0 := froz_of HN1.out 0
  have f1 := froz_of HN1.out 1
  have f2 := froz_of HN1.out 2
  have f3 := froz_of HN1.out 3
  have f4 := froz_of HN1.out 4
  have f5 := froz_of HN1.out 5
  clear hW6 h6 g6
  go_wp2
  change bodyPost _ _ _ _ _ (put6W w1 w.heap.size (.bool false) (.string ⟨#[]⟩) (.string ⟨#[]⟩) (.string ⟨#[]⟩) (.slice none 0 0) (.slice none 0 0))
  rw [← E6.out]
  obtain ⟨e0, e1, e2, e3, e4, e5⟩ := cells6 H6.out
  clear r0 r1 r2 r3 r4 r5 f0 f1 f2 f3 f4 f5
  refine bodyPost_ret (v := .tuple #[.agg #[.bool false, .string ⟨#[]⟩, .string ⟨#[]⟩, .string ⟨#[]⟩, .slice none 0 0, .slice none 0 0], .bool false]) (by simp [results, Try.results10, go_sem, e0, e1, e2, e3, e4, e5]) rfl ?_
  exact ⟨B6.out, fun _ => rfl, fun h => absurd h Hh.out⟩
set_option maxHeartbeats 4000000 in
set_option maxRecDepth 100000 in
theorem of_yes (A : Option Addr) (n c : Nat) (l : List RE) (w : World) (T : EvsIn w A n c l) (hn : n ≤ 100000) (hB : ∀ x ∈ l, RgB x) (h : depF plF rtF l = 0 ∧ 0 < n) : Calls Try.prog 10 #[.slice A n c] w (OfPost l n w) := by
  have hne : l ≠ [] := fun e => by have := T.len; rw [e, List.length_nil] at this; omega
  obtain ⟨sp, lo, ats, ks, hl, hp⟩ := doc_tree h.1 hne
  have hR := doc_lim h.1 hB
  have HB0 : Hid (Below w.heap.size w (w.alloc (.cells #[.bool false, .string ⟨#[]⟩, .string ⟨#[]⟩, .string ⟨#[]⟩, .slice none 0 0, .slice none 0 0] 30))) := Lib.hid ((Below.refl _ w).alloc (Nat.le_refl _) _)
  have CW := whole_p A n c l (w.alloc (.cells #[.bool false, .string ⟨#[]⟩, .string ⟨#[]⟩, .string ⟨#[]⟩, .slice none 0 0, .slice none 0 0] 30)) (T.keep HB0.out) hn hB
  rw [decide_eq_true h] at CW
  have C := Lib.hid CW
  have HN : Hid ((w.alloc (.cells #[.bool false, .string ⟨#[]⟩, .string ⟨#[]⟩, .string ⟨#[]⟩, .slice none 0 0, .slice none 0 0] 30)).heap[w.heap.size]? = some (.cells #[.bool false, .string ⟨#[]⟩, .string ⟨#[]⟩, .string ⟨#[]⟩, .slice none 0 0, .slice none 0 0] 30 (0, 0))) := Lib.hid (nblk w 30 _)
  have CF : Hid (∀ W, Below w.heap.size w W → Calls Try.prog 27 #[.slice A n c] W (FPost w W (Fo.cons false emB sp lo ats ks .nil) [])) := Lib.hid fun W hW => first_all w (ks.siz + 1) false emB sp lo ats ks [] A n c W (Nat.lt_succ_self _) hn (by rw [← hl]; exact hR) hW (by rw [List.append_nil, ← hl]; exact T)
  have Hl := Lib.hid hl
  have Hp := Lib.hid hp
  have Hh := Lib.hid h
  clear CW T hB h hl hp hR hne
  go_enter Try.func10, Try.ntmps10
  go_wp2_with fail
  refine C.out.mono ?_
  rintro e w1 ⟨rfl, b1⟩
  have HB1 := Lib.hid (HB0.out.trans (b1.mono HB0.out.size))
  have HN1 := Lib.hid ((b1.block _ (Array.getElem?_eq_some_iff.1 HN.out).1).trans HN.out)
  clear b1 C HN HB0
  go_wp2_with fail
  refine (CF.out w1 HB1.out).mono ?_
  rintro e w2 ⟨t', tx', sp', lo', ats', ks', Aa, na, ca, Ak, nk, ck, A2, n2, c2, hq, rfl, tr, T2, b2⟩
  rw [Fo.pln, if_neg (by decide), Hp.out] at hq
  injection hq with q1 q2 q3 q4 q5 q6
  subst q1 q2 q3 q4 q5 q6
  have hs1 : w.heap.size + 1 ≤ w1.heap.size := (Array.getElem?_eq_some_iff.1 HN1.out).1
  have B3 := Lib.hid ((Below.refl w2.heap.size w2).alloc (Nat.le_refl _) (.cells #[.bool false, .string emB, .string sp, .string lo, .slice Aa na ca, .slice Ak nk ck] 30))
  have HB3 := Lib.hid ((HB1.out.trans (b2.mono HB1.out.size)).trans (B3.out.mono (Nat.le_trans HB1.out.size b2.size)))
  have HN3 := Lib.hid ((B3.out.block _ (Nat.lt_of_lt_of_le (Nat.lt_of_succ_le hs1) b2.size)).trans ((b2.block _ (Nat.lt_of_succ_le hs1)).trans HN1.out))
  have HR3 : Hid (Tr1 (Lo (w.heap.size + 1) (w2.alloc (.cells #[.bool false, .string emB, .string sp, .string lo, .slice Aa na ca, .slice Ak nk ck] 30))) (w2.alloc (.cells #[.bool false, .string emB, .string sp, .string lo, .slice Aa na ca, .slice Ak nk ck] 30)) emB sp lo ats ks Aa na ca Ak nk ck) := Lib.hid ((tr.keep B3.out).mono fun b hb => ⟨Nat.le_trans hs1 hb.1, Nat.lt_of_lt_of_le hb.2 B3.out.size⟩)
  clear tr T2 b2 CF HB1 B3 HN1
  have NB := Lib.hid (nblk w2 30 #[.bool false, .string emB, .string sp, .string lo, .slice Aa na ca, .slice Ak nk ck])
  go_upto_region 4 with fail
  generalize w2.alloc (.cells #[.bool false, .string emB, .string sp, .string lo, .slice Aa na ca, .slice Ak nk ck] 30) = W3 at *
  generalize w2.heap.size = tb at *
  obtain ⟨W6, hW6⟩ : ∃ W6, W6 = put6W W3 w.heap.size (.bool false) (.string emB) (.string sp) (.string lo) (.slice Aa na ca) (.slice Ak nk ck) := ⟨_, rfl⟩
  obtain ⟨h6, g6⟩ := put6 (.bool false) (.string emB) (.string sp) (.string lo) (.slice Aa na ca) (.slice Ak nk ck) HN3.out
  rw [← hW6] at h6 g6
  have H6 := Lib.hid h6
  have B6 := Lib.hid (bel_fin HB3.out g6 (Nat.le_refl _))
  have R6 := Lib.hid (tr_fin (w := w) HR3.out g6)
  have E6 := Lib.hid hW6
  obtain ⟨z0, z1, z2, z3, z4, z5⟩ := cells6 NB.out
  obtain ⟨r0, r1, r2, r3, r4, r5⟩ := cells6 HN3.out
  have f0 := froz_of HN3.out 0
  have f1 := froz_of HN3.out 1
  have f2 := froz_of HN3.out 2
  have f3 := froz_of HN3.out 3
  have f4 := froz_of HN3.out 4
  have f5 := froz_of HN3.out 5
  clear hW6 h6 g6 HR3 HB3
  go_wp2
  change bodyPost _ _ _ _ _ (put6W W3 w.heap.size (.bool false) (.string emB) (.string sp) (.string lo) (.slice Aa na ca) (.slice Ak nk ck))
  rw [← E6.out]
  obtain ⟨e0, e1, e2, e3, e4, e5⟩ := cells6 H6.out
  clear r0 r1 r2 r3 r4 r5 f0 f1 f2 f3 f4 f5
  refine bodyPost_ret (v := .tuple #[.agg #[.bool false, .string emB, .string sp, .string lo, .slice Aa na ca, .slice Ak nk ck], .bool true]) (by simp [results, Try.results10, go_sem, e0, e1, e2, e3, e4, e5]) rfl ?_
  exact ⟨B6.out, fun h => absurd Hh.out h, fun _ => ⟨sp, lo, ats, ks, Aa, na, ca, Ak, nk, ck, Hl.out, Hp.out, rfl, R6.out⟩⟩
theorem tof_any (A : Option Addr) (n c : Nat) (l : List RE) (w : World) (T : EvsIn w A n c l) (hn : n ≤ 100000) (hB : ∀ x ∈ l, RgB x) : Calls Try.prog 10 #[.slice A n c] w (OfPost l n w) := by
  by_cases h : depF plF rtF l = 0 ∧ 0 < n
  · exact of_yes A n c l w T hn hB h
  · exact of_no A n c l w T hn hB h
end Go.Proofs.Ytaoggciebkaakaa.Ev

/- tree.Make; Plan.At. -/
set_option linter.unusedSimpArgs false
set_option linter.unusedVariables false
namespace Go.Proofs.Ytaoggciebkaakaa.Ev
open Go.RowKit

/-- The four lists of a tree's plan. -/
def PLs (X : Fo) : Nat → List Int
  | 0 => X.parL 0 (-1)
  | 1 => X.fstL 0
  | 2 => X.nxtL 0
  | _ => X.sizL
structure PlanAt (W : World) (B : Nat) (v : Nat → Value) (v4 : Value) (X : Fo) : Prop where
  own : ∀ i, i < 4 → W.ownsRow B 3 1 (v i) X.cnt ((PLs X i).map (Value.int .i64))
  tr : ∃ A c, v4 = .slice A X.cnt c ∧ KsIn (fun _ => True) W X.treL A X.cnt c
theorem PlanAt.keep {W W' : World} {B : Nat} {v : Nat → Value} {v4 : Value} {X : Fo} (h : PlanAt W B v v4 X) (hb : Below W.heap.size W W') : PlanAt W' B v v4 X := by
  obtain ⟨A, c, e, k⟩ := h.tr
  exact ⟨fun i hi => own_keep (h.own i hi) hb, ⟨A, c, e, k.keep hb⟩⟩
theorem Try.results20 : Try.f20.results = #[ResultVar.cell 2 43] := by kernel_rfl
theorem plan_of {B pb nb : Nat} {v : Nat → Value} {v4 : Value} {L L' : Nat → List Int} {X : Fo} {W : World} (h : PlS B pb nb v v4 L' (Fo.nil.app X.treL) W) (hL : ∀ i, i < 4 → L i = []) (hb : Beh L L' X 0 (-1)) (hc : X.cnt ≤ 1000) {B' : Nat} (hB : B' ≤ B) : PlanAt W B' v v4 X := by
  have hi : ∀ i, i < 4 → L' i = PLs X i := fun i hi => by
    have : i = 0 ∨ i = 1 ∨ i = 2 ∨ i = 3 := by omega
    rcases this with rfl | rfl | rfl | rfl
    · rw [hb.1, hL 0 (by decide)]; rfl
    · rw [hb.2.1, hL 1 (by decide)]; rfl
    · rw [hb.2.2.1, hL 2 (by decide)]; rfl
    · rw [hb.2.2.2, hL 3 (by decide)]; rfl
  refine ⟨fun i hi4 => ?_, ?_⟩
  · have q := h.own i hi4
    have hl := hb.len (m := 0) (fun j hj => by rw [hL j hj]; rfl) i hi4
    rw [hl, Nat.zero_add, hi i hi4] at q
    exact own_base q hB
  · obtain ⟨vs, h1, h2⟩ := h.tr
    have h1 : W.ownsRow B 30 6 v4 X.treL.len vs := h1
    have h2 : KsV (· < B) W X.treL vs := h2
    obtain ⟨A, c, e, k⟩ := own_ks (P := fun _ => True) h1 (h2.map fun t => t.mono fun _ _ => trivial) rfl (by rw [tre_len]; omega) (fun _ _ => trivial)
    rw [tre_len] at e k
    exact ⟨A, c, e, k⟩
def put5W (W : World) (s : Nat) (x0 x1 x2 x3 x4 : Value) : World := ((((W.setCell ⟨s, 0, none⟩ x0).setCell ⟨s, 1, none⟩ x1).setCell ⟨s, 2, none⟩ x2).setCell ⟨s, 3, none⟩ x3).setCell ⟨s, 4, none⟩ x4
theorem put5 {W : World} {s : Nat} {a0 a1 a2 a3 a4 : Value} {T : TypeId} (x0 x1 x2 x3 x4 : Value) (h : W.heap[s]? = some (.cells #[a0, a1, a2, a3, a4] T (0, 0))) :
    (put5W W s x0 x1 x2 x3 x4).heap[s]? = some (.cells #[x0, x1, x2, x3, x4] T (0, 0)) ∧ W.grownBy (put5W W s x0 x1 x2 x3 x4) (some s) :=
  ⟨by simp [put5W, World.setCell, Array.getElem?_modify, h], ((((grown_setCell W ⟨s, 0, none⟩ x0).trans (grown_setCell _ ⟨s, 1, none⟩ x1)).trans (grown_setCell _ ⟨s, 2, none⟩ x2)).trans (grown_setCell _ ⟨s, 3, none⟩ x3)).trans (grown_setCell _ ⟨s, 4, none⟩ x4)⟩
/-- What is there when the function is called the first time. -/
theorem mk_start {w : World} {W : World} (h2 : W.heap[w.heap.size + 2]? = some (.cells #[.slice none 0 0, .slice none 0 0, .slice none 0 0, .slice none 0 0, .slice none 0 0] 43 (0, 0))) (h3 : W.heap[w.heap.size + 3]? = some (.cells #[nuV (w.heap.size + 2) (w.heap.size + 3)] 60 (0, 0))) : PlS (w.heap.size + 2) (w.heap.size + 2) (w.heap.size + 3) (fun _ => .slice none 0 0) (.slice none 0 0) (fun _ => []) .nil W :=
  ⟨h2, fun i _ => World.ownsRow_nil _ _ _ _, fun i j _ _ _ => .inl rfl, ⟨[], World.ownsRow_nil _ _ _ _, rfl⟩, h3, Nat.le_refl _, by omega⟩
section
variable {P : Nat → Prop} {W W' : World} {q : Nat}
theorem AttsIn.notin (hq : ∀ j u, W.cell? ⟨q, j, none⟩ = some u → ∃ A n c, u = .slice A n c) {A : Option Addr} {n c : Nat} {l : List P3} (h : AttsIn W A n c l) (hp : AtP P A n) : AtP (fun x => P x ∧ x ≠ q) A n := fun h0 a e => by
  refine ⟨hp h0 a e, fun e2 => ?_⟩
  obtain ⟨b, off, e3, _, c0, _⟩ := h.rd 0 _ (List.getElem?_eq_getElem (show 0 < l.length by rw [← h.len]; exact h0))
  rw [e] at e3
  injection e3 with e3
  rw [e3] at e2
  have e2 : b = q := e2
  subst e2
  obtain ⟨_, _, _, e4⟩ := hq _ _ c0
  cases e4
theorem KsAt.notin (hq : ∀ j u, W.cell? ⟨q, j, none⟩ = some u → ∃ A n c, u = .slice A n c) : ∀ {f : Fo} {b off : Nat}, KsAt P W f b off → KsAt (fun x => P x ∧ x ≠ q) W f b off ∧ (0 < f.len → b ≠ q)
  | .nil, _, _, _ => ⟨trivial, fun h => absurd h (Nat.lt_irrefl 0)⟩
  | .cons t tx sp lo ats ks nx, b, off, h => by
    obtain ⟨⟨Aa, na, ca, Ak, nk, ck, h1, h2, h3, h4, h5, h6, h7, h8, h9, h10⟩, h11⟩ := h
    refine ⟨⟨⟨Aa, na, ca, Ak, nk, ck, h1, h2, h3, h3.notin hq h4, h5, h6, h7, h8, h9, fun hn => ?_⟩, (KsAt.notin hq h11).1⟩, fun _ e => ?_⟩
    · obtain ⟨b', off', e, hlt, hp, hk⟩ := h10 hn
      obtain ⟨k1, k2⟩ := KsAt.notin hq hk
      exact ⟨b', off', e, hlt, ⟨hp, k2 (by omega)⟩, k1⟩
    · subst e
      obtain ⟨_, _, _, e4⟩ := hq _ _ h1.1
      cases e4
theorem KsIn.notin (hq : ∀ j u, W.cell? ⟨q, j, none⟩ = some u → ∃ A n c, u = .slice A n c) {f : Fo} {A : Option Addr} {n c : Nat} (h : KsIn P W f A n c) : KsIn (fun x => P x ∧ x ≠ q) W f A n c :=
  ⟨h.1, h.2.1, h.2.2.1, h.2.2.2.1, h.2.2.2.2.1, fun hn => by
    obtain ⟨b', off', e, hlt, hp, hk⟩ := h.2.2.2.2.2 hn
    obtain ⟨k1, k2⟩ := hk.notin hq
    exact ⟨b', off', e, hlt, ⟨hp, k2 (by rw [← h.1]; exact hn)⟩, k1⟩⟩
theorem PlanAt.grown {B : Nat} {v : Nat → Value} {v4 : Value} {X : Fo} (h : PlanAt W B v v4 X) {cs : Array Value} (hn : W.heap[q]? = some (.cells cs 43 (0, 0))) (hcs : ∀ (j : Nat) (u : Value), cs[j]? = some u → ∃ A n c, u = .slice A n c) (hg : W.grownBy W' (some q)) : PlanAt W' B v v4 X := by
  obtain ⟨A, c, e, k⟩ := h.tr
  have hq : ∀ j u, W.cell? ⟨q, j, none⟩ = some u → ∃ A n c, u = .slice A n c := fun j u hu => by
    rw [Lib.cell_of_heap hn j] at hu
    exact hcs j u hu
  exact ⟨fun i hi => World.ownsRow.kept (h.own i hi) hg (own_blk (h.own i hi) hn (by decide)), ⟨A, c, e, ((k.notin hq).grown hg (fun b hb e => hb.2 (by injection e))).mono fun _ _ => trivial⟩⟩
end
theorem own_any {W : World} {B z n : Nat} {T : TypeId} {x : Value} {xs : List Value} (h : W.ownsRow B T z x n xs) : ∃ A m c, x = .slice A m c := by
  obtain ⟨A, c, e⟩ := own_slice h
  exact ⟨A, n, c, e⟩
theorem four (w : World) (o0 o1 o2 o3 : Obj) : ((((w.alloc o0).alloc o1).alloc o2).alloc o3).heap[w.heap.size]? = some o0 ∧ ((((w.alloc o0).alloc o1).alloc o2).alloc o3).heap[w.heap.size + 1]? = some o1 ∧ ((((w.alloc o0).alloc o1).alloc o2).alloc o3).heap[w.heap.size + 1 + 1]? = some o2 ∧ ((((w.alloc o0).alloc o1).alloc o2).alloc o3).heap[w.heap.size + 1 + 1 + 1]? = some o3 ∧ Below w.heap.size w ((((w.alloc o0).alloc o1).alloc o2).alloc o3) := by
  have s1 : (w.alloc o0).heap.size = w.heap.size + 1 := World.size_alloc _ _
  have s2 : ((w.alloc o0).alloc o1).heap.size = w.heap.size + 1 + 1 := by rw [World.size_alloc, s1]
  have s3 : (((w.alloc o0).alloc o1).alloc o2).heap.size = w.heap.size + 1 + 1 + 1 := by rw [World.size_alloc, s2]
  refine ⟨?_, ?_, ?_, ?_, (((((Below.refl _ w).alloc (Nat.le_refl _) _).alloc (by omega) _).alloc (by omega) _).alloc (by omega) _)⟩
  · exact (Below.heap_alloc _ _ _ (by omega)).trans ((Below.heap_alloc _ _ _ (by omega)).trans ((Below.heap_alloc _ _ _ (by omega)).trans (heap_alloc_new w o0)))
  · have h := heap_alloc_new (w.alloc o0) o1
    rw [s1] at h
    exact (Below.heap_alloc _ _ _ (by omega)).trans ((Below.heap_alloc _ _ _ (by omega)).trans h)
  · have h := heap_alloc_new ((w.alloc o0).alloc o1) o2
    rw [s2] at h
    exact (Below.heap_alloc _ _ _ (by omega)).trans h
  · have h := heap_alloc_new (((w.alloc o0).alloc o1).alloc o2) o3
    rw [s3] at h
    exact h
set_option maxHeartbeats 4000000 in
set_option maxRecDepth 100000 in
theorem tmake_any (t : Bool) (tx sp lo : ByteArray) (ats : List P3) (ks : Fo) (Aa : Option Addr) (na ca : Nat) (Ak : Option Addr) (nk ck : Nat) (w : World) (T : Tr1 (· < w.heap.size) w tx sp lo ats ks Aa na ca Ak nk ck) (hc : (Fo.cons t tx sp lo ats ks .nil).cnt ≤ 1000) :
    Calls Try.prog 20 #[.agg #[.bool t, .string tx, .string sp, .string lo, .slice Aa na ca, .slice Ak nk ck]] w fun e w' => ∃ v v4, e = .returned (.agg #[v 0, v 1, v 2, v 3, v4]) ∧ PlanAt w' w.heap.size v v4 (Fo.cons t tx sp lo ats ks .nil) ∧ Below w.heap.size w w' := by
  have hmf : ∀ (fn : Fn) (first cap : Array Value) (w : World), (Instr.makeFunc fn first cap).run Try.prog w = .ok (.func fn first cap) w := fun _ _ _ _ => rfl
  obtain ⟨f0, f1, f2, f3, fb⟩ := four w (.cells #[.bool t, .string tx, .string sp, .string lo, .slice Aa na ca, .slice Ak nk ck] 30) (.cells #[.slice none 0 0, .slice none 0 0, .slice none 0 0, .slice none 0 0, .slice none 0 0] 43) (.cells #[.slice none 0 0, .slice none 0 0, .slice none 0 0, .slice none 0 0, .slice none 0 0] 43) (.cells #[.func (.func 33) #[] #[.pointer (some ⟨w.heap.size + 1 + 1, 0, none⟩), .pointer (some ⟨w.heap.size + 1 + 1 + 1, 0, none⟩)]] 60)
  have HF0 := Lib.hid f0
  have HF1 := Lib.hid f1
  have HS := Lib.hid (mk_start f2 f3)
  have HFB := Lib.hid fb
  have HT := Lib.hid T
  clear T f0 f1 f2 f3 fb
  go_enter Try.func20, Try.ntmps20
  go_upto_region 4 with fail
  generalize (World.alloc _ (.cells #[.func (.func 33) #[] #[.pointer (some ⟨w.heap.size + 1 + 1, 0, none⟩), .pointer (some ⟨w.heap.size + 1 + 1 + 1, 0, none⟩)]] 60)) = V at *
  obtain ⟨d0, d1, d2, d3, d4, d5⟩ := cells6 HF0.out
  have cn : V.cell? ⟨w.heap.size + 1 + 1 + 1, 0, none⟩ = some (.func (.func 33) #[] #[.pointer (some ⟨w.heap.size + 1 + 1, 0, none⟩), .pointer (some ⟨w.heap.size + 1 + 1 + 1, 0, none⟩)]) := cells_of HS.out.nbx 0 rfl
  have CS := nu_all (ks.siz + 1) t tx sp lo ats ks Aa na ca Ak nk ck _ _ _ _ _ _ .nil (-1) V (Nat.lt_succ_self _) (fun _ _ => rfl) (by rw [Fo.len]; omega) HS.out (by
    have h := HT.out.keepB HFB.out
    exact h.mono fun b hb => Nat.lt_of_lt_of_le hb (Nat.le_add_right _ 2))
  have HC := Lib.hid CS
  clear CS HS
  go_wp2_with fail
  refine HC.out.mono ?_
  rintro e w1 ⟨v, v4, L', rfl, P1, hbeh, b1⟩
  have HP := Lib.hid (plan_of P1 (fun _ _ => rfl) hbeh hc (B' := w.heap.size) (Nat.le_add_right _ 2))
  have HB1 := Lib.hid (HFB.out.trans (b1.mono (Nat.le_add_right _ 2)))
  have c0 : w1.cell? ⟨w.heap.size + 1 + 1, 0, none⟩ = some (v 0) := cells_of P1.box 0 rfl
  have c1 : w1.cell? ⟨w.heap.size + 1 + 1, 1, none⟩ = some (v 1) := cells_of P1.box 1 rfl
  have c2 : w1.cell? ⟨w.heap.size + 1 + 1, 2, none⟩ = some (v 2) := cells_of P1.box 2 rfl
  have c3 : w1.cell? ⟨w.heap.size + 1 + 1, 3, none⟩ = some (v 3) := cells_of P1.box 3 rfl
  have c4 : w1.cell? ⟨w.heap.size + 1 + 1, 4, none⟩ = some v4 := cells_of P1.box 4 rfl
  have HN1 := Lib.hid ((b1.block (w.heap.size + 1) (Nat.lt_succ_self _)).trans HF1.out)
  clear b1 hbeh P1 HC HF0 HF1 d0 d1 d2 d3 d4 d5 cn HFB hmf
  obtain ⟨r0, r1, r2, r3, r4⟩ := cells5 HN1.out
  have f0 := froz_of HN1.out 0
  have f1 := froz_of HN1.out 1
  have f2 := froz_of HN1.out 2
  have f3 := froz_of HN1.out 3
  have f4 := froz_of HN1.out 4
  obtain ⟨A0, m0, k0, hv0⟩ := own_any (HP.out.own 0 (by decide))
  obtain ⟨A1, m1, k1, hv1⟩ := own_any (HP.out.own 1 (by decide))
  obtain ⟨A2, m2, k2, hv2⟩ := own_any (HP.out.own 2 (by decide))
  obtain ⟨A3, m3, k3, hv3⟩ := own_any (HP.out.own 3 (by decide))
  obtain ⟨A4, k4, hv4, _⟩ := HP.out.tr
  generalize hm4 : (Fo.cons t tx sp lo ats ks .nil).cnt = m4 at hv4
  rw [hv0] at c0
  rw [hv1] at c1
  rw [hv2] at c2
  rw [hv3] at c3
  rw [hv4] at c4
  have E0 := Lib.hid hv0
  have E1 := Lib.hid hv1
  have E2 := Lib.hid hv2
  have E3 := Lib.hid hv3
  have E4 := Lib.hid hv4
  clear hv0 hv1 hv2 hv3 hv4 hm4
  obtain ⟨W6, hW6⟩ : ∃ W6, W6 = put5W w1 (w.heap.size + 1) (.slice A0 m0 k0) (.slice A1 m1 k1) (.slice A2 m2 k2) (.slice A3 m3 k3) (.slice A4 m4 k4) := ⟨_, rfl⟩
  obtain ⟨h6, g6⟩ := put5 (.slice A0 m0 k0) (.slice A1 m1 k1) (.slice A2 m2 k2) (.slice A3 m3 k3) (.slice A4 m4 k4) HN1.out
  rw [← hW6] at h6 g6
  have H6 := Lib.hid h6
  have B6 : Hid (Below w.heap.size w W6) := Lib.hid (HB1.out.grown g6 HB1.out.size (fun j hj => by injection hj with hj; omega))
  have P6 : Hid (PlanAt W6 w.heap.size v v4 (Fo.cons t tx sp lo ats ks .nil)) := Lib.hid (HP.out.grown HN1.out (fun j u hu => by
    match j, hu with
    | 0, hu => exact ⟨none, 0, 0, by simpa using hu.symm⟩
    | 1, hu => exact ⟨none, 0, 0, by simpa using hu.symm⟩
    | 2, hu => exact ⟨none, 0, 0, by simpa using hu.symm⟩
    | 3, hu => exact ⟨none, 0, 0, by simpa using hu.symm⟩
    | 4, hu => exact ⟨none, 0, 0, by simpa using hu.symm⟩
    | j + 5, hu => simp at hu) g6)
  have E6 := Lib.hid hW6
  clear hW6 h6 g6
  go_wp2
  change bodyPost _ _ _ _ _ (put5W w1 (w.heap.size + 1) (.slice A0 m0 k0) (.slice A1 m1 k1) (.slice A2 m2 k2) (.slice A3 m3 k3) (.slice A4 m4 k4))
  rw [← E6.out]
  obtain ⟨e0, e1, e2, e3, e4⟩ := cells5 H6.out
  clear r0 r1 r2 r3 r4 f0 f1 f2 f3 f4
  refine bodyPost_ret (v := .agg #[.slice A0 m0 k0, .slice A1 m1 k1, .slice A2 m2 k2, .slice A3 m3 k3, .slice A4 m4 k4]) (by simp [results, Try.results20, go_sem, e0, e1, e2, e3, e4]) rfl ?_
  exact ⟨v, v4, by rw [E0.out, E1.out, E2.out, E3.out, E4.out], P6.out, B6.out⟩
end Go.Proofs.Ytaoggciebkaakaa.Ev

/- Plan.At. -/
set_option linter.unusedSimpArgs false
set_option linter.unusedVariables false
namespace Go.Proofs.Ytaoggciebkaakaa.Ev
open Go.RowKit

theorem Try.results23 : Try.f23.results = #[ResultVar.cell 4 30, ResultVar.tmp 5] := by kernel_rfl
def AtPost (X : Fo) (n : Int) (W : World) (e : Ending) (w' : World) : Prop := Below W.heap.size W w' ∧ (¬ (0 ≤ n ∧ n < (X.cnt : Int)) → e = .returned (.tuple #[.agg #[.bool false, .string ⟨#[]⟩, .string ⟨#[]⟩, .string ⟨#[]⟩, .slice none 0 0, .slice none 0 0], .bool false])) ∧
  (0 ≤ n ∧ n < (X.cnt : Int) → ∃ t tx sp lo ats ks Aa na ca Ak nk ck nx, X.treL.drop n.toNat = .cons t tx sp lo ats ks nx ∧ e = .returned (.tuple #[.agg #[.bool t, .string tx, .string sp, .string lo, .slice Aa na ca, .slice Ak nk ck], .bool true]) ∧ Tr1 (fun _ => True) w' tx sp lo ats ks Aa na ca Ak nk ck)
theorem KsAt.inb {P : Nat → Prop} {W : World} : ∀ {f : Fo} {b off : Nat}, KsAt P W f b off → KsAt (· < W.heap.size) W f b off
  | .nil, _, _, _ => trivial
  | .cons t tx sp lo ats ks nx, b, off, h => by
    obtain ⟨⟨Aa, na, ca, Ak, nk, ck, h1, h2, h3, h4, h5, h6, h7, h8, h9, h10⟩, h11⟩ := h
    exact ⟨⟨Aa, na, ca, Ak, nk, ck, h1, h2, h3, h3.low, h5, h6, h7, h8, h9, fun hn => by
      obtain ⟨b', off', e, hlt, hp, hk⟩ := h10 hn
      exact ⟨b', off', e, hlt, hlt, KsAt.inb hk⟩⟩, KsAt.inb h11⟩
theorem KsIn.inb {P : Nat → Prop} {W : World} {f : Fo} {A : Option Addr} {n c : Nat} (h : KsIn P W f A n c) : KsIn (· < W.heap.size) W f A n c :=
  ⟨h.1, h.2.1, h.2.2.1, h.2.2.2.1, h.2.2.2.2.1, fun hn => by
    obtain ⟨b', off', e, hlt, hp, hk⟩ := h.2.2.2.2.2 hn
    exact ⟨b', off', e, hlt, hlt, hk.inb⟩⟩
theorem Tr1.inb {P : Nat → Prop} {W : World} {tx sp lo : ByteArray} {ats : List P3} {ks : Fo} {Aa : Option Addr} {na ca : Nat} {Ak : Option Addr} {nk ck : Nat} (h : Tr1 P W tx sp lo ats ks Aa na ca Ak nk ck) : Tr1 (· < W.heap.size) W tx sp lo ats ks Aa na ca Ak nk ck := ⟨h.sz, h.at_, h.at_.low, h.ks.inb⟩
set_option maxHeartbeats 4000000 in
set_option maxRecDepth 100000 in
theorem at_no (A0 A1 A2 A3 A4 : Option Addr) (m0 m1 m2 m3 m4 k0 k1 k2 k3 k4 : Nat) (X : Fo) (n : Int) (w : World) (h4 : m4 = X.cnt) (hn : ¬ (0 ≤ n ∧ n < (X.cnt : Int))) :
    Calls Try.prog 23 #[.agg #[.slice A0 m0 k0, .slice A1 m1 k1, .slice A2 m2 k2, .slice A3 m3 k3, .slice A4 m4 k4], .int .i64 n] w (AtPost X n w) := by
  have Hn := Lib.hid hn
  have hb : Below w.heap.size w ((w.alloc (.cells #[.slice A0 m0 k0, .slice A1 m1 k1, .slice A2 m2 k2, .slice A3 m3 k3, .slice A4 m4 k4] 43)).alloc (.cells #[.bool false, .string ⟨#[]⟩, .string ⟨#[]⟩, .string ⟨#[]⟩, .slice none 0 0, .slice none 0 0] 30)) := ((Below.refl _ w).alloc (Nat.le_refl _) _).alloc (by simp) _
  have hN := nblk (w.alloc (.cells #[.slice A0 m0 k0, .slice A1 m1 k1, .slice A2 m2 k2, .slice A3 m3 k3, .slice A4 m4 k4] 43)) 30 #[.bool false, .string ⟨#[]⟩, .string ⟨#[]⟩, .string ⟨#[]⟩, .slice none 0 0, .slice none 0 0]
  rw [World.size_alloc] at hN
  have hK := (Below.heap_alloc (w.alloc (.cells #[.slice A0 m0 k0, .slice A1 m1 k1, .slice A2 m2 k2, .slice A3 m3 k3, .slice A4 m4 k4] 43)) (.cells #[.bool false, .string ⟨#[]⟩, .string ⟨#[]⟩, .string ⟨#[]⟩, .slice none 0 0, .slice none 0 0] 30) w.heap.size (by simp)).trans (nblk w 43 #[.slice A0 m0 k0, .slice A1 m1 k1, .slice A2 m2 k2, .slice A3 m3 k3, .slice A4 m4 k4])
  rw [← h4] at hn
  have HB := Lib.hid hb
  have HN := Lib.hid hN
  have HK := Lib.hid hK
  clear hb hN hK h4
  go_enter Try.func23, Try.ntmps23
  go_upto_region 1 with fail
  generalize (World.alloc _ (.cells #[.bool false, .string ⟨#[]⟩, .string ⟨#[]⟩, .string ⟨#[]⟩, .slice none 0 0, .slice none 0 0] 30)) = V at *
  obtain ⟨W6, hW6⟩ : ∃ W6, W6 = put6W V (w.heap.size + 1) (.bool false) (.string ⟨#[]⟩) (.string ⟨#[]⟩) (.string ⟨#[]⟩) (.slice none 0 0) (.slice none 0 0) := ⟨_, rfl⟩
  obtain ⟨h6, g6⟩ := put6 (.bool false) (.string ⟨#[]⟩) (.string ⟨#[]⟩) (.string ⟨#[]⟩) (.slice none 0 0) (.slice none 0 0) HN.out
  rw [← hW6] at h6 g6
  have H6 := Lib.hid h6
  have B6 : Hid (Below w.heap.size w W6) := Lib.hid (HB.out.grown g6 HB.out.size (fun j hj => by injection hj with hj; omega))
  have E6 := Lib.hid hW6
  obtain ⟨_, _, _, _, x4⟩ := cells5 HK.out
  obtain ⟨r0, r1, r2, r3, r4, r5⟩ := cells6 HN.out
  have f0 := froz_of HN.out 0
  have f1 := froz_of HN.out 1
  have f2 := froz_of HN.out 2
  have f3 := froz_of HN.out 3
  have f4 := froz_of HN.out 4
  have f5 := froz_of HN.out 5
  clear hW6 h6 g6
  by_cases h0 : n < 0
  · have q0 : decide (n < 0) = true := decide_eq_true h0
    clear hn
    go_wp2
    change bodyPost _ _ _ _ _ (put6W V (w.heap.size + 1) (.bool false) (.string ⟨#[]⟩) (.string ⟨#[]⟩) (.string ⟨#[]⟩) (.slice none 0 0) (.slice none 0 0))
    rw [← E6.out]
    obtain ⟨e0, e1, e2, e3, e4, e5⟩ := cells6 H6.out
    clear r0 r1 r2 r3 r4 r5 f0 f1 f2 f3 f4 f5
    refine bodyPost_ret (v := .tuple #[.agg #[.bool false, .string ⟨#[]⟩, .string ⟨#[]⟩, .string ⟨#[]⟩, .slice none 0 0, .slice none 0 0], .bool false]) (by simp [results, Try.results23, go_sem, e0, e1, e2, e3, e4, e5]) rfl ?_
    exact ⟨B6.out, fun _ => rfl, fun h => absurd h Hn.out⟩
  · have h1 : (m4 : Int) ≤ n := by omega
    have q0 : decide (n < 0) = false := decide_eq_false h0
    have q1 : decide ((m4 : Int) ≤ n) = true := decide_eq_true h1
    clear hn
    go_wp2
    change bodyPost _ _ _ _ _ (put6W V (w.heap.size + 1) (.bool false) (.string ⟨#[]⟩) (.string ⟨#[]⟩) (.string ⟨#[]⟩) (.slice none 0 0) (.slice none 0 0))
    rw [← E6.out]
    obtain ⟨e0, e1, e2, e3, e4, e5⟩ := cells6 H6.out
    clear r0 r1 r2 r3 r4 r5 f0 f1 f2 f3 f4 f5
    refine bodyPost_ret (v := .tuple #[.agg #[.bool false, .string ⟨#[]⟩, .string ⟨#[]⟩, .string ⟨#[]⟩, .slice none 0 0, .slice none 0 0], .bool false]) (by simp [results, Try.results23, go_sem, e0, e1, e2, e3, e4, e5]) rfl ?_
    exact ⟨B6.out, fun _ => rfl, fun h => absurd h Hn.out⟩
set_option maxHeartbeats 4000000 in
set_option maxRecDepth 100000 in
theorem at_yes (A0 A1 A2 A3 A4 : Option Addr) (m0 m1 m2 m3 m4 k0 k1 k2 k3 k4 : Nat) (X : Fo) (n : Nat) (w : World) (h4 : m4 = X.cnt) (hn : n < m4) (hK4 : KsIn (fun _ => True) w X.treL A4 m4 k4) :
    Calls Try.prog 23 #[.agg #[.slice A0 m0 k0, .slice A1 m1 k1, .slice A2 m2 k2, .slice A3 m3 k3, .slice A4 m4 k4], .int .i64 (n : Int)] w (AtPost X (n : Int) w) := by
  have Hn := Lib.hid (show 0 ≤ (n : Int) ∧ (n : Int) < (X.cnt : Int) by omega)
  have hb : Below w.heap.size w ((w.alloc (.cells #[.slice A0 m0 k0, .slice A1 m1 k1, .slice A2 m2 k2, .slice A3 m3 k3, .slice A4 m4 k4] 43)).alloc (.cells #[.bool false, .string ⟨#[]⟩, .string ⟨#[]⟩, .string ⟨#[]⟩, .slice none 0 0, .slice none 0 0] 30)) := ((Below.refl _ w).alloc (Nat.le_refl _) _).alloc (by simp) _
  have hN := nblk (w.alloc (.cells #[.slice A0 m0 k0, .slice A1 m1 k1, .slice A2 m2 k2, .slice A3 m3 k3, .slice A4 m4 k4] 43)) 30 #[.bool false, .string ⟨#[]⟩, .string ⟨#[]⟩, .string ⟨#[]⟩, .slice none 0 0, .slice none 0 0]
  rw [World.size_alloc] at hN
  have hK := (Below.heap_alloc (w.alloc (.cells #[.slice A0 m0 k0, .slice A1 m1 k1, .slice A2 m2 k2, .slice A3 m3 k3, .slice A4 m4 k4] 43)) (.cells #[.bool false, .string ⟨#[]⟩, .string ⟨#[]⟩, .string ⟨#[]⟩, .slice none 0 0, .slice none 0 0] 30) w.heap.size (by simp)).trans (nblk w 43 #[.slice A0 m0 k0, .slice A1 m1 k1, .slice A2 m2 k2, .slice A3 m3 k3, .slice A4 m4 k4])
  have HB := Lib.hid hb
  have HN := Lib.hid hN
  have HK := Lib.hid hK
  obtain ⟨u, ux, us, ul, ua, uk, b1, o1, u1, u2, u3, u4, u5, u6, ed, rfl, hb1, x6, X1⟩ := hK4.at_ (k := n) hn
  have hx6 := x6.keep hb
  have HR : Hid (Tr1 (fun b => b < w.heap.size) w ux us ul ua uk u1 u2 u3 u4 u5 u6) := Lib.hid X1.inb
  have HE := Lib.hid ed
  have g1 : (n : Int) < (m4 : Int) := by omega
  have g0 : ¬ (n : Int) < 0 := by omega
  have g3 : (0 : Int) ≤ (n : Int) := by omega
  have q0 : decide ((n : Int) < 0) = false := decide_eq_false g0
  have q1 : decide ((m4 : Int) ≤ (n : Int)) = false := decide_eq_false (by omega)
  clear hb hN hK h4 hn ed X1 x6 hb1 hK4
  go_enter Try.func23, Try.ntmps23
  go_upto_region 1 with fail
  generalize (World.alloc _ (.cells #[.bool false, .string ⟨#[]⟩, .string ⟨#[]⟩, .string ⟨#[]⟩, .slice none 0 0, .slice none 0 0] 30)) = V at *
  obtain ⟨x1, x2, x3, x4, x5, x7⟩ := hx6
  obtain ⟨W6, hW6⟩ : ∃ W6, W6 = put6W V (w.heap.size + 1) (.bool u) (.string ux) (.string us) (.string ul) (.slice u1 u2 u3) (.slice u4 u5 u6) := ⟨_, rfl⟩
  obtain ⟨h6, g6⟩ := put6 (.bool u) (.string ux) (.string us) (.string ul) (.slice u1 u2 u3) (.slice u4 u5 u6) HN.out
  rw [← hW6] at h6 g6
  have H6 := Lib.hid h6
  have B6 : Hid (Below w.heap.size w W6) := Lib.hid (HB.out.grown g6 HB.out.size (fun j hj => by injection hj with hj; omega))
  have R6 : Hid (Tr1 (fun _ => True) W6 ux us ul ua uk u1 u2 u3 u4 u5 u6) := Lib.hid ((HR.out.keepB B6.out).mono fun _ _ => trivial)
  have E6 := Lib.hid hW6
  obtain ⟨_, _, _, _, y4⟩ := cells5 HK.out
  obtain ⟨r0, r1, r2, r3, r4, r5⟩ := cells6 HN.out
  have f0 := froz_of HN.out 0
  have f1 := froz_of HN.out 1
  have f2 := froz_of HN.out 2
  have f3 := froz_of HN.out 3
  have f4 := froz_of HN.out 4
  have f5 := froz_of HN.out 5
  clear hW6 h6 g6
  go_wp2
  change bodyPost _ _ _ _ _ (put6W V (w.heap.size + 1) (.bool u) (.string ux) (.string us) (.string ul) (.slice u1 u2 u3) (.slice u4 u5 u6))
  rw [← E6.out]
  obtain ⟨e0, e1, e2, e3, e4, e5⟩ := cells6 H6.out
  clear r0 r1 r2 r3 r4 r5 f0 f1 f2 f3 f4 f5
  refine bodyPost_ret (v := .tuple #[.agg #[.bool u, .string ux, .string us, .string ul, .slice u1 u2 u3, .slice u4 u5 u6], .bool true]) (by simp [results, Try.results23, go_sem, e0, e1, e2, e3, e4, e5]) rfl ?_
  exact ⟨B6.out, fun h => absurd Hn.out h, fun _ => ⟨u, ux, us, ul, ua, uk, u1, u2, u3, u4, u5, u6, _, HE.out, rfl, R6.out⟩⟩
end Go.Proofs.Ytaoggciebkaakaa.Ev

/- A tree's events have just it. -/
set_option linter.unusedSimpArgs false
set_option linter.unusedVariables false
namespace Go.Proofs.Ytaoggciebkaakaa.Ev
open Go.RowKit

theorem evs_inj : ∀ (f g : Fo) (r r' : List RE), f.evs ++ clE :: r = g.evs ++ clE :: r' → f.pln = g.pln ∧ r = r'
  | .nil, .nil, r, r', h => by
    simp only [Fo.evs, List.nil_append, List.cons.injEq] at h
    exact ⟨rfl, h.2⟩
  | .nil, .cons true tx sp lo ats ks nx, r, r', h => by simp [Fo.evs, clE] at h
  | .nil, .cons false tx sp lo ats ks nx, r, r', h => by simp [Fo.evs, clE] at h
  | .cons true tx sp lo ats ks nx, .nil, r, r', h => by simp [Fo.evs, clE] at h
  | .cons false tx sp lo ats ks nx, .nil, r, r', h => by simp [Fo.evs, clE] at h
  | .cons true tx sp lo ats ks nx, .cons true tx' sp' lo' ats' ks' nx', r, r', h => by
    simp only [Fo.evs, if_true, List.cons_append, List.nil_append, List.cons.injEq, RE.mk.injEq] at h
    obtain ⟨e1, e2⟩ := evs_inj nx nx' r r' h.2
    refine ⟨?_, e2⟩
    rw [Fo.pln, Fo.pln, if_pos rfl, if_pos rfl, e1, h.1.2.2.2.2]
  | .cons true tx sp lo ats ks nx, .cons false tx' sp' lo' ats' ks' nx', r, r', h => by simp [Fo.evs] at h
  | .cons false tx sp lo ats ks nx, .cons true tx' sp' lo' ats' ks' nx', r, r', h => by simp [Fo.evs] at h
  | .cons false tx sp lo ats ks nx, .cons false tx' sp' lo' ats' ks' nx', r, r', h => by
    simp only [Fo.evs, Bool.false_eq_true, if_false, List.cons_append, List.append_assoc, List.nil_append, List.cons.injEq, RE.mk.injEq] at h
    obtain ⟨e1, e2⟩ := evs_inj ks ks' _ _ h.2
    obtain ⟨e3, e4⟩ := evs_inj nx nx' r r' e2
    refine ⟨?_, e4⟩
    rw [Fo.pln, Fo.pln, if_neg (by decide), if_neg (by decide), e1, e3, h.1.2.1, h.1.2.2.1, h.1.2.2.2.1]
theorem evs_inj' {f g : Fo} (h : f.evs = g.evs) : f.pln = g.pln := (evs_inj f g [] [] (by rw [h])).1
end Go.Proofs.Ytaoggciebkaakaa.Ev
