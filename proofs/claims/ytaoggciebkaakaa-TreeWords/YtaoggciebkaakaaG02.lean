/-
  Merged by program out of the texts EvRight3, EvDepth, EvMath, EvSame, EvCon, TrMath, TrEnd, EvLaw2 of one seat.
-/
import Derived.Test.YtaoggciebkaakaaG01
import Derived.Deep.RegionHeld3
import Derived.Deep.RegionWith
import Derived.Laws.OwnMore
import Derived.Deep.Cut

/- The document's Right (layer 9) of whatever event. -/
set_option linter.unusedSimpArgs false
set_option linter.unusedVariables false
namespace Go.Proofs.Ytaoggciebkaakaa.Ev
open Go.RowKit

theorem none_a {x : RE} (h1 : x.sp.toList.isEmpty = true) (h2 : x.lo.toList.isEmpty = true) : noneF x = (x.ats.length == 0) := by
  unfold noneF emp
  rw [h1, h2]
  rfl
theorem none_b {x : RE} (h1 : x.sp.toList.isEmpty = true) (h2 : x.lo.toList.isEmpty = false) : noneF x = false := by
  unfold noneF emp
  rw [h1, h2]
  rfl
theorem none_c {x : RE} (h1 : x.sp.toList.isEmpty = false) : noneF x = false := by
  unfold noneF emp
  rw [h1]
  rfl
set_option maxHeartbeats 4000000 in
set_option maxRecDepth 100000 in
theorem right_any (pL tR : ByteArray → Bool) (C1 : Hid (RgC pL tR)) (C2 : Hid (StrC 43 tR)) (A : Option Addr) (n c : Nat) (x : RE) (w : World) (T : AttsIn w A n c x.ats) (hB : RgB x) :
    Calls Try.prog 39 #[.agg #[.int .i64 x.kind, .string x.sp, .string x.lo, .slice A n c, .string x.tx]] w fun e w' => e = .returned (.bool (rightF pL tR x)) ∧ Below w.heap.size w w' := by
  have HK := Lib.hid (nblk w 38 #[.int .i64 x.kind, .string x.sp, .string x.lo, .slice A n c, .string x.tx])
  have HB0 := Lib.hid ((Below.refl w.heap.size w).alloc (Nat.le_refl _) (.cells #[.int .i64 x.kind, .string x.sp, .string x.lo, .slice A n c, .string x.tx] 38))
  have HZ := Lib.hid (show w.heap.size < (w.alloc (.cells #[.int .i64 x.kind, .string x.sp, .string x.lo, .slice A n c, .string x.tx] 38)).heap.size by simp)
  have HL := Lib.hid T.len
  by_cases h2 : x.kind = 2
  · have HF : Hid (rightF pL tR x = (noneF x && !emp x.tx && tR x.tx)) := Lib.hid (by unfold rightF; rw [if_pos h2])
    have HT := Lib.hid hB.tx
    clear T hB
    rcases emp3 x.sp x.lo with ⟨s1, s2⟩ | ⟨s1, s2⟩ | s1
    · have HN := Lib.hid (none_a s1 s2)
      by_cases h0 : n = 0
      · cases t1 : x.tx.toList.isEmpty with
        | true =>
          have HE : Hid (rightF pL tR x = false) := Lib.hid (by rw [HF.out]; unfold emp; rw [t1]; simp)
          have e2 : (x.kind == 2) = true := by simpa using h2
          generalize rightF pL tR x = F at *
          obtain ⟨kind, sp, lo, ats, tx⟩ := x
          dsimp only at *
          subst h0 h2
          clear HN HF HL HT HK HZ
          go_enter Try.func39, Try.ntmps39
          go_wp2
          go_ret
          exact ⟨by rw [HE.out]; rfl, HB0.out⟩
        | false =>
          have HE : Hid (rightF pL tR x = tR x.tx) := Lib.hid (by rw [HF.out, HN.out, ← HL.out, h0]; unfold emp; rw [t1]; rfl)
          have HC := Lib.hid (C2.out x.tx (w.alloc (.cells #[.int .i64 x.kind, .string x.sp, .string x.lo, .slice A n c, .string x.tx] 38)) HT.out)
          generalize rightF pL tR x = F at *
          obtain ⟨kind, sp, lo, ats, tx⟩ := x
          dsimp only at *
          subst h0 h2
          clear HN HF HL HT HK
          go_enter Try.func39, Try.ntmps39
          go_wp2_with fail
          refine HC.out.mono ?_
          rintro e w1 ⟨rfl, b1⟩
          have HB1 := Lib.hid (HB0.out.trans (b1.mono (Nat.le_of_lt HZ.out)))
          clear HC b1
          go_wp2
          go_ret
          exact ⟨by rw [HE.out]; rfl, HB1.out⟩
      · have z0 : ((n : Int) == 0) = false := by rw [beq_eq_false_iff_ne]; omega
        have HE : Hid (rightF pL tR x = false) := Lib.hid (by rw [HF.out, HN.out, ← HL.out]; simp [h0])
        generalize rightF pL tR x = F at *
        obtain ⟨kind, sp, lo, ats, tx⟩ := x
        dsimp only at *
        subst h2
        clear HN HF HL HT HK HZ h0
        go_enter Try.func39, Try.ntmps39
        go_wp2
        go_ret
        exact ⟨by rw [HE.out]; rfl, HB0.out⟩
    all_goals
      have HE : Hid (rightF pL tR x = false) := Lib.hid (by rw [HF.out]; (first | rw [none_b s1 s2] | rw [none_c s1]); rfl)
      generalize rightF pL tR x = F at *
      obtain ⟨kind, sp, lo, ats, tx⟩ := x
      dsimp only at *
      subst h2
      clear HF HL HT HK HZ
      go_enter Try.func39, Try.ntmps39
      go_wp2
      go_ret
      exact ⟨by rw [HE.out]; rfl, HB0.out⟩
  by_cases h3 : x.kind = 3
  · have HF : Hid (rightF pL tR x = (noneF x && emp x.tx)) := Lib.hid (by unfold rightF; rw [if_neg h2, if_pos h3])
    clear T hB h2
    rcases emp3 x.sp x.lo with ⟨s1, s2⟩ | ⟨s1, s2⟩ | s1
    · have HN := Lib.hid (none_a s1 s2)
      by_cases h0 : n = 0
      · have HE : Hid (rightF pL tR x = x.tx.toList.isEmpty) := Lib.hid (by rw [HF.out, HN.out, ← HL.out, h0]; rfl)
        cases t1 : x.tx.toList.isEmpty
        all_goals
          rw [t1] at HE
          generalize rightF pL tR x = F at *
          obtain ⟨kind, sp, lo, ats, tx⟩ := x
          dsimp only at *
          subst h0 h3
          clear HN HF HL HK HZ
          go_enter Try.func39, Try.ntmps39
          go_wp2
          go_ret
          exact ⟨by rw [HE.out]; rfl, HB0.out⟩
      · have z0 : ((n : Int) == 0) = false := by rw [beq_eq_false_iff_ne]; omega
        have HE : Hid (rightF pL tR x = false) := Lib.hid (by rw [HF.out, HN.out, ← HL.out]; simp [h0])
        generalize rightF pL tR x = F at *
        obtain ⟨kind, sp, lo, ats, tx⟩ := x
        dsimp only at *
        subst h3
        clear HN HF HL HK HZ h0
        go_enter Try.func39, Try.ntmps39
        go_wp2
        go_ret
        exact ⟨by rw [HE.out]; rfl, HB0.out⟩
    all_goals
      have HE : Hid (rightF pL tR x = false) := Lib.hid (by rw [HF.out]; (first | rw [none_b s1 s2] | rw [none_c s1]); rfl)
      generalize rightF pL tR x = F at *
      obtain ⟨kind, sp, lo, ats, tx⟩ := x
      dsimp only at *
      subst h3
      clear HF HL HK HZ
      go_enter Try.func39, Try.ntmps39
      go_wp2
      go_ret
      exact ⟨by rw [HE.out]; rfl, HB0.out⟩
  have HF : Hid (rightF pL tR x = if x.kind ≠ 1 ∨ emp x.tx = false ∨ nmF pL tR (x.sp, x.lo) = false ∨ 32 < x.ats.length then false else goA (nmF pL tR) tR [] x.ats) := Lib.hid (by unfold rightF; rw [if_neg h2, if_neg h3])
  have e2 : (x.kind == 2) = false := by simpa using h2
  have e3 : (x.kind == 3) = false := by simpa using h3
  by_cases h1 : x.kind = 1
  · cases t1 : x.tx.toList.isEmpty with
    | false =>
      have HE : Hid (rightF pL tR x = false) := Lib.hid (by rw [HF.out, if_pos (.inr (.inl t1))])
      clear T hB h2 h3 e2 e3
      generalize rightF pL tR x = F at *
      obtain ⟨kind, sp, lo, ats, tx⟩ := x
      dsimp only at *
      subst h1
      clear HF HL HK HZ
      rcases emp3 sp lo with ⟨s1, s2⟩ | ⟨s1, s2⟩ | s1
      all_goals
        go_enter Try.func39, Try.ntmps39
        go_wp2
        go_ret
        exact ⟨by rw [HE.out]; rfl, HB0.out⟩
    | true =>
      by_cases hr : nmF pL tR (x.sp, x.lo) = true ∧ n ≤ 32
      · exact right_loop pL tR C1 C2 A n c x w T hB h1 t1 hr.1 hr.2
      · have HE : Hid (rightF pL tR x = false) := Lib.hid (by
          rw [HF.out, if_pos]
          rw [← T.len]
          by_cases q : nmF pL tR (x.sp, x.lo) = true
          · exact .inr (.inr (.inr (Nat.lt_of_not_le fun h => hr ⟨q, h⟩)))
          · exact .inr (.inr (.inl (by simpa using q))))
        have HC := Lib.hid (C1.out x.sp x.lo (w.alloc (.cells #[.int .i64 x.kind, .string x.sp, .string x.lo, .slice A n c, .string x.tx] 38)) hB.sp hB.lo)
        have HR := Lib.hid hr
        clear T hB h2 h3 e2 e3 HF hr
        generalize rightF pL tR x = F at *
        obtain ⟨kind, sp, lo, ats, tx⟩ := x
        dsimp only at *
        subst h1
        clear HL
        rcases emp3 sp lo with ⟨s1, s2⟩ | ⟨s1, s2⟩ | s1
        all_goals
          go_enter Try.func39, Try.ntmps39
          go_wp2_with fail
          refine HC.out.mono ?_
          rintro e w1 ⟨rfl, b1⟩
          have HB1 := Lib.hid (HB0.out.trans (b1.mono (Nat.le_of_lt HZ.out)))
          obtain ⟨c0, c1, c2, c3, c4⟩ := cells5 ((b1.block _ HZ.out).trans HK.out)
          clear HC b1 c0 c1 c2 c4 HK HZ HB0
          cases g1 : nmF pL tR (sp, lo) with
          | false =>
            clear g1
            go_wp2
            go_ret
            exact ⟨by rw [HE.out]; rfl, HB1.out⟩
          | true =>
            have k32 : (32 : Int) < (n : Int) := by have : ¬ n ≤ 32 := fun h => HR.out ⟨g1, h⟩; omega
            have k33 : decide ((32 : Int) < (n : Int)) = true := by rw [decide_eq_true_eq]; exact k32
            clear g1
            go_wp2
            go_ret
            exact ⟨by rw [HE.out]; rfl, HB1.out⟩
  · have HE : Hid (rightF pL tR x = false) := Lib.hid (by rw [HF.out, if_pos (.inl h1)])
    have e1 : (x.kind != 1) = true := by simpa using h1
    clear T hB h1 h2 h3
    generalize rightF pL tR x = F at *
    obtain ⟨kind, sp, lo, ats, tx⟩ := x
    dsimp only at *
    clear HF HL HK HZ
    rcases emp3 sp lo with ⟨s1, s2⟩ | ⟨s1, s2⟩ | s1
    all_goals
      go_enter Try.func39, Try.ntmps39
      go_wp2
      go_ret
      exact ⟨by rw [HE.out]; rfl, HB0.out⟩
end Go.Proofs.Ytaoggciebkaakaa.Ev

/- The document's Depth (layer 9) of whatever events. -/
set_option linter.unusedSimpArgs false
set_option linter.unusedVariables false
namespace Go.Proofs.Ytaoggciebkaakaa.Ev
open Go.RowKit

/-- How many are open behind these events, if so many were, the last one of this kind; -1: that can't be. -/
def depR (R : RE → Bool) : Bool → Int → Int → List RE → Int
  | _, _, n, [] => n
  | first, pk, n, x :: r =>
    if R x = false ∨ (n == 0) ≠ first ∨ (first = true ∧ x.kind ≠ 1) then -1
    else if x.kind = 2 ∧ pk = 2 then -1
    else
      let m := if x.kind = 1 then n + 1 else if x.kind = 3 then n - 1 else n
      if 64 < m then -1 else depR R false x.kind m r
/-- The document's Depth. -/
def depF (pL tR : ByteArray → Bool) (l : List RE) : Int := depR (rightF pL tR) true 0 0 l
theorem few_rgb {x : RE} (h : FewE x) : RgB x := ⟨by have := h.sp; omega, by have := h.lo; omega, by have := h.tx; omega, fun hn y hy => by
  obtain ⟨k, hk⟩ := List.getElem?_of_mem hy
  have hlt := (List.getElem?_eq_some_iff.1 hk).1
  obtain ⟨a, b, c⟩ := h.at_ k y (by omega) hk
  exact ⟨by omega, by omega, by omega⟩⟩
theorem right_kind {pL tR : ByteArray → Bool} {x : RE} (h : rightF pL tR x = true) : x.kind = 1 ∨ x.kind = 2 ∨ x.kind = 3 := by
  by_cases h2 : x.kind = 2
  · exact .inr (.inl h2)
  by_cases h3 : x.kind = 3
  · exact .inr (.inr h3)
  by_cases h1 : x.kind = 1
  · exact .inl h1
  unfold rightF at h
  rw [if_neg h2, if_neg h3, if_pos (.inl h1)] at h
  cases h
def prevK (l : List RE) (k : Nat) : Int := ((l[k - 1]?).map (·.kind)).getD 0
def DpRel (F : Int) (R : RE → Bool) (l : List RE) (n : Nat) (w : World) (vn i : Value) (wr : World) : Prop :=
  ∃ k m : Nat, i = .int .i64 k ∧ vn = .int .i64 m ∧ k ≤ n ∧ m ≤ 64 ∧ (k = 0 → m = 0) ∧ Hid (Below w.heap.size w wr) ∧ Hid (F = depR R (decide (k = 0)) (prevK l k) m (l.drop k))
theorem dep_step {R : RE → Bool} {l : List RE} {k : Nat} {x : RE} (hx : l[k]? = some x) (b : Bool) (p m : Int) : depR R b p m (l.drop k) = if R x = false ∨ (m == 0) ≠ b ∨ (b = true ∧ x.kind ≠ 1) then -1 else if x.kind = 2 ∧ p = 2 then -1 else if 64 < (if x.kind = 1 then m + 1 else if x.kind = 3 then m - 1 else m) then -1 else depR R (decide (k + 1 = 0)) (prevK l (k + 1)) (if x.kind = 1 then m + 1 else if x.kind = 3 then m - 1 else m) (l.drop (k + 1)) := by
  have hlt := (List.getElem?_eq_some_iff.1 hx).1
  have hd : l.drop k = x :: l.drop (k + 1) := by
    rw [List.drop_eq_getElem_cons hlt]
    have := (List.getElem?_eq_some_iff.1 hx).2
    rw [this]
  have hp : prevK l (k + 1) = x.kind := by unfold prevK; rw [Nat.add_sub_cancel, hx]; rfl
  have hf : decide (k + 1 = 0) = false := by simp
  rw [hd, hp, hf]
  rfl
theorem dep_in {F p m kd : Int} {D : Int → Int} (h : F = if kd = 2 ∧ p = 2 then -1 else if 64 < (if kd = 1 then m + 1 else if kd = 3 then m - 1 else m) then -1 else D (if kd = 1 then m + 1 else if kd = 3 then m - 1 else m)) :
    (kd = 1 → F = if 64 < m + 1 then -1 else D (m + 1)) ∧ (kd = 3 → F = if 64 < m - 1 then -1 else D (m - 1)) ∧ (kd = 2 → F = if p = 2 then -1 else if 64 < m then -1 else D m) := by
  refine ⟨?_, ?_, ?_⟩
  all_goals
    intro e
    rw [e] at h
    simpa using h
def EvC (pL tR : ByteArray → Bool) : Prop := ∀ (A : Option Addr) (n c : Nat) (x : RE) (W : World), AttsIn W A n c x.ats → RgB x → Calls Try.prog 39 #[.agg #[.int .i64 x.kind, .string x.sp, .string x.lo, .slice A n c, .string x.tx]] W fun e w' => e = .returned (.bool (rightF pL tR x)) ∧ Below W.heap.size W w'
set_option maxHeartbeats 4000000 in
set_option maxRecDepth 100000 in
theorem depth_any (pL tR : ByteArray → Bool) (C : Hid (EvC pL tR)) (A : Option Addr) (n c : Nat) (l : List RE) (w : World) (T : EvsIn w A n c l) (hn : n ≤ 500) (hF : ∀ (k : Nat) (x : RE), l[k]? = some x → FewE x) :
    Calls Try.prog 28 #[.slice A n c] w fun e w' => e = .returned (.int .i64 (depF pL tR l)) ∧ Below w.heap.size w w' := by
  have HT := Lib.hid T
  have HFw := Lib.hid hF
  clear T hF
  obtain ⟨F, hF⟩ : ∃ F, F = depF pL tR l := ⟨_, rfl⟩
  rw [← hF]
  have H0 : Hid (F = depR (rightF pL tR) (decide ((0 : Nat) = 0)) (prevK l 0) ((0 : Nat) : Int) (l.drop 0)) := Lib.hid (by
    rw [hF]
    unfold depF
    cases l with
    | nil => rfl
    | cons x r =>
      have h := dep_step (R := rightF pL tR) (l := x :: r) (k := 0) (x := x) rfl true 0 0
      rw [List.drop_zero] at h ⊢
      rw [h]
      have h' := dep_step (R := rightF pL tR) (l := x :: r) (k := 0) (x := x) rfl true (prevK (x :: r) 0) 0
      rw [List.drop_zero] at h'
      show _ = depR _ true _ 0 _
      rw [h']
      by_cases q : rightF pL tR x = false ∨ ((0 : Int) == 0) ≠ true ∨ (true = true ∧ x.kind ≠ 1)
      · rw [if_pos q, if_pos q]
      · have k1 : x.kind = 1 := Decidable.not_not.1 fun e => q (.inr (.inr ⟨rfl, e⟩))
        have e1 : ¬ (x.kind = 2 ∧ (0 : Int) = 2) := by rintro ⟨h, _⟩; omega
        have e2 : ¬ (x.kind = 2 ∧ prevK (x :: r) 0 = 2) := by rintro ⟨h, _⟩; omega
        rw [if_neg q, if_neg q, if_neg e1, if_neg e2])
  have HFF := Lib.hid hF
  clear hF
  go_enter Try.func28, Try.ntmps28
  go_wp2_with fail
  go_loopw [3, 4] (fun vn i wr => DpRel F (rightF pL tR) l n w vn i wr) (fun _ i _ => n - (intOf i).toNat)
  case atStart => exact ⟨0, 0, rfl, rfl, Nat.zero_le _, Nat.zero_le _, fun _ => rfl, Lib.hid (Below.refl _ _), H0⟩
  case round =>
    clear H0
    obtain ⟨k, m, rfl, rfl, hk, hm, hkm, HR, HA⟩ := hrel
    by_cases hlt : k < n
    · have k1 : (k : Int) < (n : Int) := by omega
      have k2 : (0 : Int) ≤ (k : Int) := by omega
      have hkl : k < l.length := by rw [← HT.out.len]; exact hlt
      have hx := List.getElem?_eq_getElem hkl
      have HRd := Lib.hid (HT.out.rd)
      obtain ⟨b, off, Aa, na, ca, hA, hbl, TA, c0, c1, c2, c3, c4⟩ := (HRd.out.keep HR.out) k _ hx
      have CR := Lib.hid (C.out Aa na ca l[k] wr TA (few_rgb (HFw.out k _ hx)))
      have HS := Lib.hid (HA.out.trans (dep_step hx _ _ _))
      have HX := Lib.hid hx
      generalize l[k] = x at *
      subst hA
      have HKd := Lib.hid (fun h => right_kind (pL := pL) (tR := tR) (x := x) h)
      obtain ⟨kind, sp, lo, ats, tx⟩ := x
      dsimp only at *
      clear hx hkl hbl TA HA
      cases hr : rightF pL tR ⟨kind, sp, lo, ats, tx⟩ with
      | false =>
        have HE : Hid (F = -1) := Lib.hid (by rw [HS.out, if_pos (.inl hr)])
        rw [hr] at CR
        clear hr HS HKd
        go_wp2_with fail
        refine CR.out.mono ?_
        rintro e w1 ⟨rfl, b1⟩
        have HB1 := Lib.hid (HR.out.trans (b1.mono HR.out.size))
        clear b1 CR HR
        go_wp2
        go_ret
        exact ⟨by rw [HE.out]; rfl, HB1.out⟩
      | true =>
        have hkd := HKd.out hr
        rw [hr] at CR
        have HRr := Lib.hid hr
        clear hr HKd
        by_cases hk0 : k = 0
        · have hm0 := hkm hk0
          have z1 : ((k : Int) == 0) = true := by rw [beq_iff_eq]; omega
          have z2 : ((m : Int) == 0) = true := by rw [beq_iff_eq]; omega
          have hd0 : decide (k = 0) = true := decide_eq_true hk0
          by_cases hk1 : kind = 1
          · have HA2 : Hid (F = depR (rightF pL tR) (decide (k + 1 = 0)) (prevK l (k + 1)) ((m + 1 : Nat) : Int) (l.drop (k + 1))) := Lib.hid (by
              have h := HS.out
              rw [if_neg (by rw [HRr.out, hd0, z2, hk1]; simp)] at h
              have h2 := (dep_in (D := fun q => depR (rightF pL tR) (decide (k + 1 = 0)) (prevK l (k + 1)) q (l.drop (k + 1))) h).1 hk1
              rw [h2, if_neg (by omega)]
              rfl)
            have q3 : ¬ (64 : Int) < (m : Int) + 1 := by omega
            subst hk1
            clear HS HRr hkd hkm hk0 hm0 hd0
            go_wp2_with fail
            refine CR.out.mono ?_
            rintro e w1 ⟨rfl, b1⟩
            have HB1 := Lib.hid (HR.out.trans (b1.mono HR.out.size))
            obtain ⟨b', off', Aa', na', ca', e', _, _, d0, _, _, _, _⟩ := (HRd.out.keep HB1.out) k _ HX.out
            injection e' with e'
            injection e' with e1 e2 _
            subst e1 e2
            dsimp only at d0
            clear b1 CR HR c0 c1 c2 c3 c4
            go_wp2
            go_roundw
            case rel => exact ⟨k + 1, m + 1, by go_num, by go_num, by omega, by omega, fun h => by omega, HB1, HA2⟩
            case measure => simp only [intOf]; omega
          · have HE : Hid (F = -1) := Lib.hid (by rw [HS.out, if_pos (.inr (.inr ⟨hd0, hk1⟩))])
            have e1 : (kind != 1) = true := by simpa using hk1
            clear HS HRr hkd hkm hk1 hk0 hm0 hd0
            go_wp2_with fail
            refine CR.out.mono ?_
            rintro e w1 ⟨rfl, b1⟩
            have HB1 := Lib.hid (HR.out.trans (b1.mono HR.out.size))
            obtain ⟨b', off', Aa', na', ca', e', _, _, d0, _, _, _, _⟩ := (HRd.out.keep HB1.out) k _ HX.out
            injection e' with e'
            injection e' with e1' e2' _
            subst e1' e2'
            dsimp only at d0
            clear b1 CR HR c0 c1 c2 c3 c4
            go_wp2
            go_ret
            exact ⟨by rw [HE.out]; rfl, HB1.out⟩
        · have z1 : ((k : Int) == 0) = false := by rw [beq_eq_false_iff_ne]; omega
          have hd0 : decide (k = 0) = false := decide_eq_false hk0
          by_cases hm0 : m = 0
          · have HE : Hid (F = -1) := Lib.hid (by rw [HS.out, if_pos (.inr (.inl (by rw [hd0, hm0]; decide)))])
            have z2 : ((m : Int) == 0) = true := by rw [beq_iff_eq]; omega
            clear HS HRr hkd hkm hd0 hk0 hm0
            go_wp2_with fail
            refine CR.out.mono ?_
            rintro e w1 ⟨rfl, b1⟩
            have HB1 := Lib.hid (HR.out.trans (b1.mono HR.out.size))
            clear b1 CR HR
            go_wp2
            go_ret
            exact ⟨by rw [HE.out]; rfl, HB1.out⟩
          · have z2 : ((m : Int) == 0) = false := by rw [beq_eq_false_iff_ne]; omega
            have HS2 : Hid (F = if kind = 2 ∧ prevK l k = 2 then -1 else if 64 < (if kind = 1 then (m : Int) + 1 else if kind = 3 then (m : Int) - 1 else (m : Int)) then -1 else depR (rightF pL tR) (decide (k + 1 = 0)) (prevK l (k + 1)) (if kind = 1 then (m : Int) + 1 else if kind = 3 then (m : Int) - 1 else (m : Int)) (l.drop (k + 1))) := Lib.hid (by
              rw [HS.out, if_neg]
              rw [HRr.out, hd0, z2]
              rintro (h | h | h)
              · cases h
              · exact h rfl
              · cases h.1)
            obtain ⟨kp, hkp⟩ : ∃ kp, kp + 1 = k := ⟨k - 1, by omega⟩
            have q1 : IntKind.i64.wrap ((k : Int) - 1) = (kp : Int) := by rw [IntWalk.i64_in _ (by omega)]; omega
            have p1 : (0 : Int) ≤ (kp : Int) := by omega
            have p2 : (kp : Int) < (n : Int) := by omega
            have hpl : kp < l.length := by rw [← HT.out.len]; omega
            have hy := List.getElem?_eq_getElem hpl
            have HPv : Hid (prevK l k = (l[kp]).kind) := Lib.hid (by unfold prevK; rw [show k - 1 = kp by omega, hy]; rfl)
            have HY := Lib.hid hy
            generalize l[kp] = y at *
            have HD := Lib.hid (dep_in (D := fun q => depR (rightF pL tR) (decide (k + 1 = 0)) (prevK l (k + 1)) q (l.drop (k + 1))) HS2.out)
            clear HS HS2 HRr hkm hd0 hk0 hkp hpl hy
            go_wp2_with fail
            refine CR.out.mono ?_
            rintro e w1 ⟨rfl, b1⟩
            have HB1 := Lib.hid (HR.out.trans (b1.mono HR.out.size))
            obtain ⟨b', off', Aa', na', ca', e', _, _, d0, _, _, _, _⟩ := (HRd.out.keep HB1.out) k _ HX.out
            injection e' with e'
            injection e' with e1 e2 _
            subst e1 e2
            obtain ⟨b', off', Aa', na', ca', e', _, _, f0, _, _, _, _⟩ := (HRd.out.keep HB1.out) kp _ HY.out
            injection e' with e'
            injection e' with e1 e2 _
            subst e1 e2
            dsimp only at d0
            clear b1 CR HR c0 c1 c2 c3 c4
            rcases hkd with rfl | rfl | rfl
            · by_cases h64 : m = 64
              · have HE : Hid (F = -1) := Lib.hid (by rw [HD.out.1 rfl, if_pos (by omega)])
                have q3 : (64 : Int) < (m : Int) + 1 := by omega
                clear HD HPv h64
                go_wp2
                go_ret
                exact ⟨by rw [HE.out]; rfl, HB1.out⟩
              · have HA2 : Hid (F = depR (rightF pL tR) (decide (k + 1 = 0)) (prevK l (k + 1)) ((m + 1 : Nat) : Int) (l.drop (k + 1))) := Lib.hid (by
                  rw [HD.out.1 rfl, if_neg (by omega)]
                  rfl)
                have q3 : ¬ (64 : Int) < (m : Int) + 1 := by omega
                clear HD HPv
                go_wp2
                go_roundw
                case rel => exact ⟨k + 1, m + 1, by go_num, by go_num, by omega, by omega, fun h => by omega, HB1, HA2⟩
                case measure => simp only [intOf]; omega
            · by_cases hpk : y.kind = 2
              · have HE : Hid (F = -1) := Lib.hid (by rw [HD.out.2.2 rfl, if_pos (by rw [HPv.out]; exact hpk)])
                rw [hpk] at f0
                clear HD HPv
                go_wp2
                go_ret
                exact ⟨by rw [HE.out]; rfl, HB1.out⟩
              · have HA2 : Hid (F = depR (rightF pL tR) (decide (k + 1 = 0)) (prevK l (k + 1)) (m : Int) (l.drop (k + 1))) := Lib.hid (by
                  rw [HD.out.2.2 rfl, if_neg (by rw [HPv.out]; exact hpk), if_neg (by omega)])
                have q3 : ¬ (64 : Int) < (m : Int) := by omega
                have q4 : (y.kind == 2) = false := by simpa using hpk
                clear HD HPv hpk
                go_wp2
                go_roundw
                case rel => exact ⟨k + 1, m, by go_num, rfl, by omega, by omega, fun h => by omega, HB1, HA2⟩
                case measure => simp only [intOf]; omega
            · obtain ⟨mp, hmp⟩ : ∃ mp, mp + 1 = m := ⟨m - 1, by omega⟩
              have HA2 : Hid (F = depR (rightF pL tR) (decide (k + 1 = 0)) (prevK l (k + 1)) (mp : Int) (l.drop (k + 1))) := Lib.hid (by
                rw [HD.out.2.1 rfl, if_neg (by omega)]
                rw [show (m : Int) - 1 = (mp : Int) by omega])
              have q5 : IntKind.i64.wrap ((m : Int) - 1) = (mp : Int) := by rw [IntWalk.i64_in _ (by omega)]; omega
              have q3 : ¬ (64 : Int) < (mp : Int) := by omega
              have hmp2 : mp ≤ 64 := by omega
              clear HD HPv hmp
              go_wp2
              go_roundw
              case rel => exact ⟨k + 1, mp, by go_num, rfl, by omega, hmp2, fun h => by omega, HB1, HA2⟩
              case measure => simp only [intOf]; omega
    · have k1 : ¬ (k : Int) < (n : Int) := by omega
      have HE : Hid (F = (m : Int)) := Lib.hid (by rw [HA.out, List.drop_of_length_le (by rw [← HT.out.len]; omega)]; rfl)
      clear HA
      go_wp2
      go_ret
      exact ⟨by rw [HE.out]; rfl, HR.out⟩
end Go.Proofs.Ytaoggciebkaakaa.Ev

/- Beginnings of documents (layer 9), plain: what is ahead of a beginning is one; with its closers it is a document. -/
set_option linter.unusedSimpArgs false
set_option linter.unusedVariables false
namespace Go.Proofs.Ytaoggciebkaakaa.Ev

def lastK (p : Int) : List RE → Int
  | [] => p
  | x :: r => lastK x.kind r
theorem dep_next {R : RE → Bool} {b : Bool} {p n : Int} {x : RE} {r : List RE} (hn : 0 ≤ n) (hb : b = true → n = 0) :
    depR R b p n (x :: r) = -1 ∨ (R x = true ∧ ((n == 0) = b) ∧ ∃ m, 0 ≤ m ∧ m ≤ 64 ∧ (m = if x.kind = 1 then n + 1 else if x.kind = 3 then n - 1 else n) ∧ ∀ s, depR R b p n (x :: s) = depR R false x.kind m s) := by
  by_cases q : R x = false ∨ (n == 0) ≠ b ∨ (b = true ∧ x.kind ≠ 1)
  · left
    show (if _ then _ else _) = _
    rw [if_pos q]
  by_cases q2 : x.kind = 2 ∧ p = 2
  · left
    show (if _ then _ else _) = _
    rw [if_neg q, if_pos q2]
  by_cases q3 : 64 < (if x.kind = 1 then n + 1 else if x.kind = 3 then n - 1 else n)
  · left
    show (if _ then _ else if _ then _ else if 64 < (if x.kind = 1 then n + 1 else if x.kind = 3 then n - 1 else n) then _ else _) = _
    rw [if_neg q, if_neg q2, if_pos q3]
  right
  have h1 : R x = true := by
    cases h : R x
    · exact absurd (.inl h) q
    · rfl
  have h2 : (n == 0) = b := Decidable.not_not.1 fun h => q (.inr (.inl h))
  refine ⟨h1, h2, _, ?_, by omega, rfl, fun s => ?_⟩
  · split
    · omega
    · split
      · rename_i k1 k3
        have hb0 : b = false := by
          cases b
          · rfl
          · exact absurd (.inr (.inr ⟨rfl, k1⟩)) q
        rw [hb0] at h2
        have : n ≠ 0 := by simpa using h2
        omega
      · exact hn
  · show (if _ then _ else if _ then _ else if 64 < (if x.kind = 1 then n + 1 else if x.kind = 3 then n - 1 else n) then _ else _) = _
    rw [if_neg q, if_neg q2, if_neg q3]
theorem dep_range {R : RE → Bool} : ∀ (l : List RE) {b : Bool} {p n : Int}, 0 ≤ n → n ≤ 64 → (b = true → n = 0) → depR R b p n l = -1 ∨ (0 ≤ depR R b p n l ∧ depR R b p n l ≤ 64)
  | [], b, p, n, h0, h64, _ => .inr ⟨h0, h64⟩
  | x :: r, b, p, n, h0, h64, hb => by
    rcases dep_next (R := R) (b := b) (p := p) (x := x) (r := r) h0 hb with h | ⟨_, _, m, h1, h2, _, h3⟩
    · exact .inl h
    · rw [h3 r]
      exact dep_range r h1 h2 (fun h => by cases h)
theorem dep_app {R : RE → Bool} : ∀ (u v : List RE) {b : Bool} {p n : Int}, 0 ≤ n → (b = true → n = 0) → depR R b p n (u ++ v) = if depR R b p n u < 0 then -1 else depR R (b && u.isEmpty) (lastK p u) (depR R b p n u) v
  | [], v, b, p, n, h0, _ => by
    have h : depR R b p n [] = n := rfl
    rw [h, if_neg (by omega)]
    simp [lastK]
  | x :: r, v, b, p, n, h0, hb => by
    rcases dep_next (R := R) (b := b) (p := p) (x := x) (r := r) h0 hb with h | ⟨_, _, m, h1, h2, _, h3⟩
    · have h' : depR R b p n (x :: (r ++ v)) = -1 := by
        revert h
        show (if _ then _ else if _ then _ else if _ then _ else _) = _ → (if _ then _ else if _ then _ else if _ then _ else _) = _
        rcases dep_next (R := R) (b := b) (p := p) (x := x) (r := r ++ v) h0 hb with g | ⟨g1, g2, m, g3, g4, g5, g6⟩
        · exact fun _ => g
        · intro h
          have e : depR R b p n (x :: r) = -1 := h
          rw [g6 r] at e
          have e2 := g6 (r ++ v)
          rw [dep_app r v g3 (fun h => by cases h), e, if_pos (by omega)] at e2
          exact e2
      rw [List.cons_append, h', h, if_pos (by omega)]
    · rw [List.cons_append, h3 (r ++ v), h3 r, dep_app r v h1 (fun h => by cases h)]
      simp [lastK]
theorem dep_close {R : RE → Bool} {cl : RE} (h1 : R cl = true) (h3 : cl.kind = 3) : ∀ (d : Nat) (p : Int), 1 ≤ d → d ≤ 65 → depR R false p d (List.replicate d cl) = 0
  | 0, p, h, _ => by omega
  | 1, p, _, _ => by
    show (if _ then _ else if _ then _ else if _ then _ else _) = _
    rw [if_neg (by rw [h1]; simp), if_neg (by rw [h3]; rintro ⟨h, _⟩; cases h), if_neg (by rw [h3]; decide)]
    rw [h3]
    rfl
  | d + 2, p, _, h65 => by
    have e : depR R false p ((d + 2 : Nat) : Int) (List.replicate (d + 2) cl) = depR R false 3 ((d + 1 : Nat) : Int) (List.replicate (d + 1) cl) := by
      show (if _ then _ else if _ then _ else if _ then _ else _) = _
      rw [if_neg (by rw [h1]; simp; omega), if_neg (by rw [h3]; rintro ⟨h, _⟩; cases h), if_neg (by rw [h3]; simp; omega)]
      rw [h3]
      simp
      congr 1
      omega
    rw [e]
    exact dep_close h1 h3 (d + 1) 3 (by omega) (by omega)
/-- With its closers a beginning that is not empty is a document. -/
theorem dep_whole {R : RE → Bool} {cl : RE} (h1 : R cl = true) (h3 : cl.kind = 3) {u : List RE} (hu : u ≠ []) {d : Nat} (hd : depR R true 0 0 u = d) : depR R true 0 0 (u ++ List.replicate d cl) = 0 := by
  rw [dep_app u _ (by omega) (fun _ => rfl), hd, if_neg (by omega)]
  have hr := dep_range (R := R) u (b := true) (p := 0) (n := 0) (by omega) (by omega) (fun _ => rfl)
  rw [hd] at hr
  have he : (true && u.isEmpty) = false := by
    cases u
    · exact absurd rfl hu
    · rfl
  rw [he]
  cases d with
  | zero => rfl
  | succ d => exact dep_close h1 h3 (d + 1) _ (by omega) (by omega)
end Go.Proofs.Ytaoggciebkaakaa.Ev

/- The document's SameEvent (layer 7) of whatever two events. -/
set_option linter.unusedSimpArgs false
set_option linter.unusedVariables false
namespace Go.Proofs.Ytaoggciebkaakaa.Ev
open Go.RowKit

def eq3 (a b : P3) : Bool := eqn a.1 b.1 && (a.2.toList == b.2.toList)
/-- Two events are alike. -/
def sameF (x y : RE) : Bool := (x.kind == y.kind) && eqn (x.sp, x.lo) (y.sp, y.lo) && (x.tx.toList == y.tx.toList) && (x.ats.length == y.ats.length) && ((x.ats.zip y.ats).all fun p => eq3 p.1 p.2)
theorem zip_no {l m : List P3} {k : Nat} {x y : P3} (hx : l[k]? = some x) (hy : m[k]? = some y) (h : eq3 x y = false) : ((l.zip m).all fun p => eq3 p.1 p.2) = false := by
  rw [List.all_eq_false]
  refine ⟨(x, y), List.mem_of_getElem? (i := k) ?_, by rw [h]; decide⟩
  rw [List.getElem?_zip_eq_some]
  exact ⟨hx, hy⟩
theorem zip_yes {l m : List P3} (h : ∀ (k : Nat) x y, k < l.length → l[k]? = some x → m[k]? = some y → eq3 x y = true) : ((l.zip m).all fun p => eq3 p.1 p.2) = true := by
  rw [List.all_eq_true]
  rintro ⟨x, y⟩ hp
  obtain ⟨k, hk⟩ := List.getElem?_of_mem hp
  rw [List.getElem?_zip_eq_some] at hk
  exact h k x y (List.getElem?_eq_some_iff.1 hk.1).1 hk.1 hk.2
def SvRel (l m : List P3) (n : Nat) (W0 : World) (i : Value) (wr : World) : Prop :=
  ∃ k : Nat, i = .int .i64 k ∧ k ≤ n ∧ Hid (Below W0.heap.size W0 wr) ∧ Hid (∀ (j : Nat) x y, j < k → l[j]? = some x → m[j]? = some y → eq3 x y = true)
set_option maxHeartbeats 4000000 in
set_option maxRecDepth 100000 in
theorem sev_gen (A1 A2 : Option Addr) (n1 n2 k1 k2 : Nat) (x y : RE) (w : World) (T1 : AttsIn w A1 n1 k1 x.ats) (T2 : AttsIn w A2 n2 k2 y.ats) :
    Calls Try.prog 30 #[.agg #[.int .i64 x.kind, .string x.sp, .string x.lo, .slice A1 n1 k1, .string x.tx], .agg #[.int .i64 y.kind, .string y.sp, .string y.lo, .slice A2 n2 k2, .string y.tx]] w fun e w' => e = .returned (.bool (sameF x y)) ∧ Below w.heap.size w w' := by
  obtain ⟨W0, hW0⟩ : ∃ W0, W0 = (w.alloc (.cells #[.int .i64 x.kind, .string x.sp, .string x.lo, .slice A1 n1 k1, .string x.tx] 38)).alloc (.cells #[.int .i64 y.kind, .string y.sp, .string y.lo, .slice A2 n2 k2, .string y.tx] 38) := ⟨_, rfl⟩
  have HB0 : Hid (Below w.heap.size w W0) := Lib.hid (by rw [hW0]; exact ((Below.refl w.heap.size w).alloc (Nat.le_refl _) _).alloc (by simp) _)
  have HKa : Hid (W0.heap[w.heap.size]? = some (.cells #[.int .i64 x.kind, .string x.sp, .string x.lo, .slice A1 n1 k1, .string x.tx] 38 (0, 0))) := Lib.hid (by rw [hW0]; exact (Below.heap_alloc _ _ _ (by simp)).trans (nblk w 38 _))
  have HKb : Hid (W0.heap[w.heap.size + 1]? = some (.cells #[.int .i64 y.kind, .string y.sp, .string y.lo, .slice A2 n2 k2, .string y.tx] 38 (0, 0))) := Lib.hid (by rw [hW0]; have h := nblk (w.alloc (.cells #[.int .i64 x.kind, .string x.sp, .string x.lo, .slice A1 n1 k1, .string x.tx] 38)) 38 #[.int .i64 y.kind, .string y.sp, .string y.lo, .slice A2 n2 k2, .string y.tx]; rw [World.size_alloc] at h; exact h)
  have HZ : Hid (w.heap.size + 1 < W0.heap.size) := Lib.hid (by rw [hW0]; simp)
  have HT1 := Lib.hid T1
  have HT2 := Lib.hid T2
  obtain ⟨F, hF⟩ : ∃ F, F = sameF x y := ⟨_, rfl⟩
  rw [← hF]
  have HF := Lib.hid hF
  clear T1 T2 hF
  by_cases hall : x.kind = y.kind ∧ eqn (x.sp, x.lo) (y.sp, y.lo) = true ∧ (x.tx.toList == y.tx.toList) = true ∧ n1 = n2
  · obtain ⟨h1, h2, h3, h4⟩ := hall
    have HE : Hid (F = ((x.ats.zip y.ats).all fun p => eq3 p.1 p.2)) := Lib.hid (by
      rw [HF.out]
      unfold sameF
      rw [h2, h3, ← HT1.out.len, ← HT2.out.len, h4, h1]
      simp)
    have qa : (x.sp.toList == y.sp.toList) = true := by unfold eqn at h2; simp only [Bool.and_eq_true] at h2; exact h2.1
    have qb : (x.lo.toList == y.lo.toList) = true := by unfold eqn at h2; simp only [Bool.and_eq_true] at h2; exact h2.2
    have qc : (x.tx.toList != y.tx.toList) = false := by rw [bne, h3]; rfl
    have qk : (x.kind != y.kind) = false := by rw [bne, h1]; simp
    have qn : ((n1 : Int) != (n2 : Int)) = false := by rw [bne, h4]; simp
    have hn12 : n1 ≤ n2 ∧ n2 ≤ n1 := by omega
    clear HF h1 h2 h4
    obtain ⟨kx, sx, lx, l, tx⟩ := x
    obtain ⟨ky, sy, ly, m, ty⟩ := y
    dsimp only at *
    go_enter Try.func30, Try.ntmps30
    go_wp2_with fail
    generalize hw : (w.alloc _).alloc _ = W1 at *
    clear hw
    subst hW0
    have hl1 := HT1.out.lsz
    unfold maxLen at hl1
    go_loopw [5] (fun i wr => SvRel l m n1 W0 i wr) (fun i _ => n1 - (intOf i).toNat)
    case atStart => exact ⟨0, rfl, Nat.zero_le _, Lib.hid (Below.refl _ _), Lib.hid (fun j x y h => by omega)⟩
    case round =>
      obtain ⟨k, rfl, hk, HR, HA⟩ := hrel
      obtain ⟨_, _, _, c3, _⟩ := cells5 ((HR.out.block _ (by have := HZ.out; omega)).trans HKa.out)
      obtain ⟨_, _, _, d3, _⟩ := cells5 ((HR.out.block _ HZ.out).trans HKb.out)
      by_cases hlt : k < n1
      · have g1 : (k : Int) < (n1 : Int) := by omega
        have g2 : (k : Int) < (n2 : Int) := by omega
        have g0 : (0 : Int) ≤ (k : Int) := by omega
        have hkl : k < l.length := by rw [← HT1.out.len]; exact hlt
        have hkm : k < m.length := by rw [← HT2.out.len]; omega
        have hx := List.getElem?_eq_getElem hkl
        have hy := List.getElem?_eq_getElem hkm
        have hB := Lib.hid (HB0.out.trans (HR.out.mono (by have := HZ.out; omega)))
        obtain ⟨b1, o1, rfl, hb1, x0, x1, x2⟩ := (HT1.out.rd.keep hB.out) k _ hx
        obtain ⟨b2, o2, rfl, hb2, y0, y1, y2⟩ := (HT2.out.rd.keep hB.out) k _ hy
        have HX := Lib.hid hx
        have HY := Lib.hid hy
        generalize l[k] = u at *
        generalize m[k] = v at *
        obtain ⟨⟨ua, ub⟩, uc⟩ := u
        obtain ⟨⟨va, vb⟩, vc⟩ := v
        dsimp only at x0 x1 x2 y0 y1 y2
        clear hx hy hkl hkm hb1 hb2
        by_cases he : eq3 ((ua, ub), uc) ((va, vb), vc) = true
        · have HA2 : Hid (∀ (j : Nat) x y, j < k + 1 → l[j]? = some x → m[j]? = some y → eq3 x y = true) := Lib.hid fun j x y hj h1 h2 => by
            rcases Nat.lt_or_ge j k with g | g
            · exact HA.out j x y g h1 h2
            · obtain rfl : j = k := by omega
              rw [HX.out] at h1
              rw [HY.out] at h2
              injection h1 with h1
              injection h2 with h2
              rw [← h1, ← h2]
              exact he
          unfold eq3 eqn at he
          simp only [Bool.and_eq_true] at he
          obtain ⟨⟨p1, p2⟩, p3⟩ := he
          clear HA HX HY
          go_wp2_with fail
          go_quiet (fail)
          go_wp2
          go_roundw
          case rel => exact ⟨k + 1, by go_num, by omega, Lib.hid (below_drewN HR.out _), HA2⟩
          case measure => simp only [intOf]; omega
        · have he' : eq3 ((ua, ub), uc) ((va, vb), vc) = false := by simpa using he
          have HFf : Hid (F = false) := Lib.hid (by rw [HE.out]; exact zip_no HX.out HY.out he')
          have hc : ((ua.toList == va.toList) = false) ∨ ((ua.toList == va.toList) = true ∧ (ub.toList == vb.toList) = false) ∨ ((ua.toList == va.toList) = true ∧ (ub.toList == vb.toList) = true ∧ (uc.toList == vc.toList) = false) := by
            unfold eq3 eqn at he'
            dsimp only at he'
            revert he'
            cases (ua.toList == va.toList) <;> cases (ub.toList == vb.toList) <;> cases (uc.toList == vc.toList) <;> simp
          clear he he' HA HX HY HE
          rcases hc with p1 | ⟨p1, p2⟩ | ⟨p1, p2, p3⟩
          all_goals
            go_wp2_with fail
            go_quiet (fail)
            go_wp2
            go_ret
            exact ⟨by rw [HFf.out]; rfl, below_drewN hB.out _⟩
      · have g1 : ¬ (k : Int) < (n1 : Int) := by omega
        have HFt : Hid (F = true) := Lib.hid (by rw [HE.out]; exact zip_yes fun j x y hj h1 h2 => HA.out j x y (by rw [← HT1.out.len] at hj; omega) h1 h2)
        have hB := Lib.hid (HB0.out.trans (HR.out.mono (by have := HZ.out; omega)))
        clear HA HE
        go_wp2
        go_ret
        exact ⟨by rw [HFt.out]; rfl, hB.out⟩
  · have HFf : Hid (F = false) := Lib.hid (by
      rw [HF.out]
      unfold sameF
      rw [← HT1.out.len, ← HT2.out.len]
      by_cases q1 : x.kind = y.kind
      · by_cases q2 : eqn (x.sp, x.lo) (y.sp, y.lo) = true
        · by_cases q3 : (x.tx.toList == y.tx.toList) = true
          · have q4 : (n1 == n2) = false := by rw [beq_eq_false_iff_ne]; exact fun h => hall ⟨q1, q2, q3, h⟩
            rw [q4]; simp
          · have q3' : (x.tx.toList == y.tx.toList) = false := by simpa using q3
            rw [q3']; simp
        · have q2' : eqn (x.sp, x.lo) (y.sp, y.lo) = false := by simpa using q2
          rw [q2']; simp
      · have q1' : (x.kind == y.kind) = false := by simpa using q1
        rw [q1']; simp)
    have hc : ((x.kind != y.kind) = true) ∨ ((x.kind != y.kind) = false ∧ (x.sp.toList == y.sp.toList) = false) ∨ ((x.kind != y.kind) = false ∧ (x.sp.toList == y.sp.toList) = true ∧ (x.lo.toList == y.lo.toList) = false) ∨ ((x.kind != y.kind) = false ∧ (x.sp.toList == y.sp.toList) = true ∧ (x.lo.toList == y.lo.toList) = true ∧ (x.tx.toList == y.tx.toList) = false) ∨ ((x.kind != y.kind) = false ∧ (x.sp.toList == y.sp.toList) = true ∧ (x.lo.toList == y.lo.toList) = true ∧ (x.tx.toList == y.tx.toList) = true ∧ ((n1 : Int) != (n2 : Int)) = true) := by
      by_cases q1 : x.kind = y.kind
      · have q1' : (x.kind != y.kind) = false := by rw [bne, q1]; simp
        right
        cases q2 : (x.sp.toList == y.sp.toList)
        · exact .inl ⟨q1', rfl⟩
        right
        cases q3 : (x.lo.toList == y.lo.toList)
        · exact .inl ⟨q1', rfl, rfl⟩
        right
        cases q4 : (x.tx.toList == y.tx.toList)
        · exact .inl ⟨q1', rfl, rfl, rfl⟩
        refine .inr ⟨q1', rfl, rfl, rfl, ?_⟩
        rw [bne_iff_ne]
        intro h
        exact hall ⟨q1, by unfold eqn; rw [q2, q3]; rfl, q4, by omega⟩
      · exact .inl (by simpa using q1)
    clear hall HF HT1 HT2 HKa HKb HZ
    obtain ⟨kx, sx, lx, l, tx⟩ := x
    obtain ⟨ky, sy, ly, m, ty⟩ := y
    dsimp only at *
    rcases hc with p1 | ⟨p1, p2⟩ | ⟨p1, p2, p3⟩ | ⟨p1, p2, p3, p4⟩ | ⟨p1, p2, p3, p4, p5⟩
    all_goals
      go_enter Try.func30, Try.ntmps30
      go_wp2_with fail
      generalize hw : (w.alloc _).alloc _ = W1 at *
      clear hw
      subst hW0
      go_ret
      exact ⟨by rw [HFf.out]; rfl, HB0.out⟩
end Go.Proofs.Ytaoggciebkaakaa.Ev

/- What layer 9's statements call, as contracts; WordRights over them. -/
set_option linter.unusedSimpArgs false
set_option linter.unusedVariables false
namespace Go.Proofs.Ytaoggciebkaakaa.Ev
open Go.RowKit

def emB : ByteArray := ⟨#[]⟩
/-- The end of an element; the root that stands for none. -/
def clE : RE := ⟨3, emB, emB, [], emB⟩
def opE : RE := ⟨1, emB, ⟨#[97]⟩, [], emB⟩
def OwnI (W : World) (B : Nat) (v : Value) (l : List Int) : Prop := W.ownsRow B 3 1 v l.length (l.map (Value.int .i64))
theorem same_self (x : RE) : sameF x x = true := by
  unfold sameF eqn
  rw [zip_yes (fun k a b _ h1 h2 => by
    rw [h1] at h2
    injection h2 with h2
    subst h2
    unfold eq3 eqn
    simp)]
  simp
end Go.Proofs.Ytaoggciebkaakaa.Ev

/- Trees of events (layer 10), plain: forests by first child and next sibling; their events; a document has a tree. -/
set_option linter.unusedSimpArgs false
set_option linter.unusedVariables false
namespace Go.Proofs.Ytaoggciebkaakaa.Ev
open Go.RowKit

/-- A row of trees: the first one (a text or an element, with all its parts), its children, the trees behind it. -/
inductive Fo where
  | nil : Fo
  | cons (t : Bool) (tx sp lo : ByteArray) (ats : List P3) (ks nx : Fo) : Fo
def Fo.len : Fo → Nat
  | .nil => 0
  | .cons _ _ _ _ _ _ nx => nx.len + 1
def Fo.app : Fo → Fo → Fo
  | .nil, g => g
  | .cons t tx sp lo ats ks nx, g => .cons t tx sp lo ats ks (nx.app g)
def Fo.drop : Nat → Fo → Fo
  | 0, f => f
  | _ + 1, .nil => .nil
  | k + 1, .cons _ _ _ _ _ _ nx => Fo.drop k nx
def Fo.take : Nat → Fo → Fo
  | 0, _ => .nil
  | _ + 1, .nil => .nil
  | k + 1, .cons t tx sp lo ats ks nx => .cons t tx sp lo ats ks (Fo.take k nx)
/-- The events of a row of trees. -/
def Fo.evs : Fo → List RE
  | .nil => []
  | .cons t tx sp lo ats ks nx => (if t = true then [⟨2, emB, emB, [], tx⟩] else ⟨1, sp, lo, ats, emB⟩ :: (ks.evs ++ [clE])) ++ nx.evs
/-- How many nodes (a text has no children). -/
def Fo.cnt : Fo → Nat
  | .nil => 0
  | .cons t _ _ _ _ ks nx => (if t = true then 1 else 1 + ks.cnt) + nx.cnt
/-- How many trees within trees, whatever they are. -/
def Fo.siz : Fo → Nat
  | .nil => 0
  | .cons _ _ _ _ _ ks nx => 1 + ks.siz + nx.siz
/-- Without what texts and elements don't have. -/
def Fo.pln : Fo → Fo
  | .nil => .nil
  | .cons t tx sp lo ats ks nx => if t = true then .cons true tx emB emB [] .nil nx.pln else .cons false emB sp lo ats ks.pln nx.pln
theorem app_nil : ∀ f : Fo, f.app .nil = f
  | .nil => rfl
  | .cons t tx sp lo ats ks nx => by rw [Fo.app, app_nil nx]
theorem len_app : ∀ f g : Fo, (f.app g).len = f.len + g.len
  | .nil, g => by rw [Fo.app, Fo.len, Nat.zero_add]
  | .cons t tx sp lo ats ks nx, g => by rw [Fo.app, Fo.len, Fo.len, len_app nx g]; omega
theorem app_assoc : ∀ f g h : Fo, (f.app g).app h = f.app (g.app h)
  | .nil, g, h => rfl
  | .cons t tx sp lo ats ks nx, g, h => by rw [Fo.app, Fo.app, Fo.app, app_assoc nx g h]
theorem evs_app : ∀ f g : Fo, (f.app g).evs = f.evs ++ g.evs
  | .nil, g => rfl
  | .cons t tx sp lo ats ks nx, g => by rw [Fo.app, Fo.evs, Fo.evs, evs_app nx g, List.append_assoc]
theorem cnt_app : ∀ f g : Fo, (f.app g).cnt = f.cnt + g.cnt
  | .nil, g => by rw [Fo.app, Fo.cnt, Nat.zero_add]
  | .cons t tx sp lo ats ks nx, g => by rw [Fo.app, Fo.cnt, Fo.cnt, cnt_app nx g]; omega
theorem len_drop : ∀ (k : Nat) (f : Fo), (f.drop k).len = f.len - k
  | 0, f => rfl
  | k + 1, .nil => by rw [Fo.drop, Fo.len, Nat.zero_sub]
  | k + 1, .cons t tx sp lo ats ks nx => by rw [Fo.drop, Fo.len, len_drop k nx]; omega
theorem take_drop_F : ∀ (k : Nat) (f : Fo), (f.take k).app (f.drop k) = f
  | 0, f => by cases f <;> rfl
  | k + 1, .nil => rfl
  | k + 1, .cons t tx sp lo ats ks nx => by rw [Fo.take, Fo.drop, Fo.app, take_drop_F k nx]
theorem drop_all : ∀ (f : Fo), f.drop f.len = .nil
  | .nil => rfl
  | .cons t tx sp lo ats ks nx => by rw [Fo.len, Fo.drop, drop_all nx]
theorem take_all : ∀ (f : Fo), f.take f.len = f
  | .nil => rfl
  | .cons t tx sp lo ats ks nx => by rw [Fo.len, Fo.take, take_all nx]
theorem len_zero : ∀ {f : Fo}, f.len = 0 → f = .nil
  | .nil, _ => rfl
  | .cons _ _ _ _ _ _ _, h => by rw [Fo.len] at h; omega
theorem drop_cons : ∀ {k : Nat} {f : Fo}, k < f.len → ∃ t tx sp lo ats ks, f.drop k = .cons t tx sp lo ats ks (f.drop (k + 1)) ∧ f.take (k + 1) = (f.take k).app (.cons t tx sp lo ats ks .nil)
  | 0, .nil, h => by rw [Fo.len] at h; omega
  | 0, .cons t tx sp lo ats ks nx, _ => ⟨t, tx, sp, lo, ats, ks, by cases nx <;> rfl, by cases nx <;> rfl⟩
  | k + 1, .nil, h => by rw [Fo.len] at h; omega
  | k + 1, .cons t tx sp lo ats ks nx, h => by
    rw [Fo.len] at h
    obtain ⟨t', tx', sp', lo', ats', ks', e1, e2⟩ := drop_cons (k := k) (f := nx) (by omega)
    exact ⟨t', tx', sp', lo', ats', ks', by rw [Fo.drop, e1]; rfl, by rw [Fo.take, e2]; rfl⟩
/-- How many events open, less how many close. -/
def net : List RE → Int
  | [] => 0
  | x :: l => (if x.kind = 1 then 1 else if x.kind = 3 then -1 else 0) + net l
theorem net_app : ∀ a b : List RE, net (a ++ b) = net a + net b
  | [], b => by simp [net]
  | x :: a, b => by rw [List.cons_append, net, net, net_app a b]; omega
theorem net_evs : ∀ f : Fo, net f.evs = 0
  | .nil => rfl
  | .cons t tx sp lo ats ks nx => by
    rw [Fo.evs, net_app, net_evs nx]
    cases t
    · rw [if_neg (by decide), net, net_app, net_evs ks]
      rfl
    · rw [if_pos rfl]
      rfl
theorem evs_pos : ∀ f : Fo, ∀ k : Nat, 0 ≤ net (f.evs.take k)
  | .nil, k => by simp [Fo.evs, net]
  | .cons t tx sp lo ats ks nx, k => by
    rw [Fo.evs, List.take_append, net_app]
    have h2 := evs_pos nx (k - (if t = true then [(⟨2, emB, emB, [], tx⟩ : RE)] else ⟨1, sp, lo, ats, emB⟩ :: (ks.evs ++ [clE])).length)
    have h1 : 0 ≤ net ((if t = true then [(⟨2, emB, emB, [], tx⟩ : RE)] else ⟨1, sp, lo, ats, emB⟩ :: (ks.evs ++ [clE])).take k) := by
      cases t
      · rw [if_neg (by decide)]
        cases k with
        | zero => simp [net]
        | succ k =>
          rw [List.take_succ_cons, net, List.take_append, net_app]
          have h3 := evs_pos ks k
          have h4 : -1 ≤ net ([clE].take (k - ks.evs.length)) := by
            cases (k - ks.evs.length) with
            | zero => simp [net]
            | succ j => rw [List.take_succ_cons]; simp [net, clE]
          simp only [if_true]
          omega
      · rw [if_pos rfl]
        cases k with
        | zero => simp [net]
        | succ k => simp [net]
    omega
theorem emp_eq {s : ByteArray} (h : emp s = true) : s = emB := by
  unfold emp at h
  rw [Lib.toList_data] at h
  cases s with
  | mk d =>
    unfold emB
    have : d.toList = [] := by simpa using h
    rw [Array.toList_eq_nil_iff.1 this]
theorem none_eq {x : RE} (h : noneF x = true) : x.sp = emB ∧ x.lo = emB ∧ x.ats = [] := by
  unfold noneF at h
  simp only [Bool.and_eq_true, beq_iff_eq] at h
  exact ⟨emp_eq h.1.1, emp_eq h.1.2, List.eq_nil_of_length_eq_zero h.2⟩
/-- A right event is an Open, a Text or a Close, with nothing else. -/
theorem right_form {pL tR : ByteArray → Bool} {x : RE} (h : rightF pL tR x = true) : (x = ⟨1, x.sp, x.lo, x.ats, emB⟩) ∨ (x = ⟨2, emB, emB, [], x.tx⟩) ∨ x = clE := by
  obtain ⟨k, sp, lo, ats, tx⟩ := x
  by_cases h2 : k = 2
  · subst h2
    unfold rightF at h
    rw [if_pos rfl] at h
    simp only [Bool.and_eq_true] at h
    obtain ⟨e1, e2, e3⟩ := none_eq h.1.1
    dsimp only at e1 e2 e3
    subst e1 e2 e3
    exact .inr (.inl rfl)
  by_cases h3 : k = 3
  · subst h3
    unfold rightF at h
    rw [if_neg (show ¬ (3 : Int) = 2 by decide), if_pos rfl] at h
    simp only [Bool.and_eq_true] at h
    obtain ⟨e1, e2, e3⟩ := none_eq h.1
    have e4 := emp_eq h.2
    dsimp only at e1 e2 e3 e4
    subst e1 e2 e3 e4
    exact .inr (.inr rfl)
  by_cases h1 : k = 1
  · subst h1
    unfold rightF at h
    rw [if_neg (show ¬ (1 : Int) = 2 by decide), if_neg (show ¬ (1 : Int) = 3 by decide)] at h
    by_cases ht : emp tx = true
    · have := emp_eq ht
      subst this
      exact .inl rfl
    · rw [if_pos (.inr (.inl (by simpa using ht)))] at h
      cases h
  · unfold rightF at h
    rw [if_neg h2, if_neg h3, if_pos (.inl h1)] at h
    cases h
/-- What is left of a document where n are open: n rows of trees, each with a Close behind it. -/
theorem rest_trees {pL tR : ByteArray → Bool} : ∀ (l : List RE) (p : Int) (n : Nat), 1 ≤ n → depR (rightF pL tR) false p n l = 0 → ∃ fs : List Fo, fs.length = n ∧ (∀ f ∈ fs, f.pln = f) ∧ l = fs.flatMap fun f => f.evs ++ [clE]
  | [], p, n, hn, h => by
    have h : (n : Int) = 0 := h
    omega
  | x :: r, p, n, hn, h => by
    rcases dep_next (R := rightF pL tR) (b := false) (p := p) (n := (n : Int)) (x := x) (r := r) (by omega) (fun h => by cases h) with h' | ⟨hR, _, m, h0, _, hm, hd⟩
    · rw [h'] at h
      cases h
    · have hr := hd r
      rw [h] at hr
      rcases right_form hR with e | e | e
      · have hk : x.kind = 1 := by rw [e]
        rw [if_pos hk] at hm
        obtain ⟨fs, hl, hp, he⟩ := rest_trees r x.kind (n + 1) (by omega) (by rw [← hm.trans (by omega : (n : Int) + 1 = ((n + 1 : Nat) : Int))]; exact hr.symm)
        match fs, hl with
        | f0 :: f1 :: fs, hl =>
          refine ⟨.cons false emB x.sp x.lo x.ats f0 f1 :: fs, by simpa using hl, fun f hf => ?_, ?_⟩
          · rcases List.mem_cons.1 hf with rfl | hf
            · rw [Fo.pln, if_neg (by decide), hp f0 (by simp), hp f1 (by simp)]
            · exact hp f (by simp [hf])
          · rw [he, e]
            simp [Fo.evs]
        | [_], hl => simp at hl; omega
        | [], hl => simp at hl
      · have hk : x.kind = 2 := by rw [e]
        rw [if_neg (by omega), if_neg (by omega)] at hm
        obtain ⟨fs, hl, hp, he⟩ := rest_trees r x.kind n hn (by rw [← hm]; exact hr.symm)
        match fs, hl with
        | f0 :: fs, hl =>
          refine ⟨.cons true x.tx emB emB [] .nil f0 :: fs, by simpa using hl, fun f hf => ?_, ?_⟩
          · rcases List.mem_cons.1 hf with rfl | hf
            · rw [Fo.pln, if_pos rfl, hp f0 (by simp)]
            · exact hp f (by simp [hf])
          · rw [he, e]
            simp [Fo.evs]
        | [], hl => simp at hl; omega
      · have hk : x.kind = 3 := by rw [e]; rfl
        rw [if_neg (by omega), if_pos hk] at hm
        by_cases h1 : n = 1
        · subst h1
          have hm0 : m = 0 := by omega
          rw [hm0] at hr
          cases r with
          | nil => exact ⟨[.nil], rfl, fun f hf => by simp at hf; rw [hf]; rfl, by rw [e]; simp [Fo.evs]⟩
          | cons y r =>
            rw [depR, if_pos (.inr (.inl (by decide)))] at hr
            cases hr
        · obtain ⟨fs, hl, hp, he⟩ := rest_trees r x.kind (n - 1) (by omega) (by rw [← hm.trans (by omega : (n : Int) - 1 = ((n - 1 : Nat) : Int))]; exact hr.symm)
          refine ⟨.nil :: fs, by rw [List.length_cons, hl]; omega, fun f hf => ?_, ?_⟩
          · rcases List.mem_cons.1 hf with rfl | hf
            · rfl
            · exact hp f hf
          · rw [he, e]
            simp [Fo.evs]
/-- A document is the events of an element. -/
theorem doc_tree {pL tR : ByteArray → Bool} {l : List RE} (h : depF pL tR l = 0) (hl : l ≠ []) : ∃ sp lo ats ks, l = (Fo.cons false emB sp lo ats ks .nil).evs ∧ Fo.pln ks = ks := by
  cases l with
  | nil => exact absurd rfl hl
  | cons x r =>
    have h : depR (rightF pL tR) true 0 0 (x :: r) = 0 := h
    have hx : x.kind = 1 := by
      rw [depR] at h
      by_cases q : rightF pL tR x = false ∨ ((0 : Int) == 0) ≠ true ∨ (true = true ∧ x.kind ≠ 1)
      · rw [if_pos q] at h
        cases h
      · exact Decidable.not_not.1 fun e => q (.inr (.inr ⟨rfl, e⟩))
    rcases dep_next (R := rightF pL tR) (b := true) (p := 0) (n := 0) (x := x) (r := r) (by omega) (fun _ => rfl) with h' | ⟨hR, _, m, h0, _, hm, hd⟩
    · rw [h'] at h
      cases h
    · have hr := hd r
      rw [h] at hr
      rw [if_pos hx] at hm
      obtain ⟨fs, hl, hp, he⟩ := rest_trees r x.kind 1 (by omega) (by rw [show ((1 : Nat) : Int) = m by omega]; exact hr.symm)
      match fs, hl with
      | [f0], _ =>
        refine ⟨x.sp, x.lo, x.ats, f0, ?_, hp f0 (by simp)⟩
        rcases right_form hR with e | e | e
        · rw [he, Fo.evs, if_neg (by decide), ← e]
          simp [Fo.evs]
        · rw [e] at hx
          cases hx
        · rw [e] at hx
          cases hx
end Go.Proofs.Ytaoggciebkaakaa.Ev

/- Places in the events of trees (layer 10), plain: where what opens ends, where children are, how many nodes stand ahead. -/
set_option linter.unusedSimpArgs false
set_option linter.unusedVariables false
namespace Go.Proofs.Ytaoggciebkaakaa.Ev
open Go.RowKit

def dlt (x : RE) : Int := if x.kind = 1 then 1 else if x.kind = 3 then -1 else 0
/-- Where what opens ends: n are open at the place i. -/
def endG : Int → Nat → List RE → Nat
  | _, i, [] => i
  | n, i, x :: r => if n + dlt x = 0 then i + 1 else endG (n + dlt x) (i + 1) r
theorem net_cons (x : RE) (l : List RE) : net (x :: l) = dlt x + net l := rfl
theorem end_skip : ∀ (a r : List RE) (n : Int) (i : Nat), (∀ k, k < a.length → 1 ≤ n + net (a.take (k + 1))) → endG n i (a ++ r) = endG (n + net a) (i + a.length) r
  | [], r, n, i, _ => by simp [net]
  | x :: a, r, n, i, h => by
    have h0 := h 0 (by simp)
    rw [List.take_succ_cons, List.take_zero, net_cons] at h0
    simp only [net, Int.add_zero] at h0
    rw [List.cons_append, endG, if_neg (by omega), end_skip a r (n + dlt x) (i + 1) (fun k hk => by
      have := h (k + 1) (by simp; omega)
      rw [List.take_succ_cons, net_cons] at this
      omega)]
    rw [net_cons, List.length_cons]
    congr 1
    · omega
    · omega
theorem end_evs (f : Fo) (r : List RE) (n : Int) (i : Nat) (hn : 1 ≤ n) : endG n i (f.evs ++ r) = endG n (i + f.evs.length) r := by
  rw [end_skip f.evs r n i (fun k _ => by have := evs_pos f (k + 1); omega), net_evs, Int.add_zero]
/-- The end of one tree. -/
theorem end_one (t : Bool) (tx sp lo : ByteArray) (ats : List P3) (ks : Fo) (r : List RE) (i : Nat) : endG 0 i ((Fo.cons t tx sp lo ats ks .nil).evs ++ r) = i + (Fo.cons t tx sp lo ats ks .nil).evs.length := by
  cases t with
  | true =>
    rw [Fo.evs, if_pos rfl]
    simp [Fo.evs, endG, dlt]
  | false =>
    rw [Fo.evs, if_neg (by decide)]
    show endG 0 i (⟨1, sp, lo, ats, emB⟩ :: (ks.evs ++ [clE] ++ [] ++ r)) = _
    rw [endG, show dlt ⟨1, sp, lo, ats, emB⟩ = 1 from rfl, if_neg (by decide), List.append_nil, List.append_assoc, end_evs ks _ _ _ (by decide)]
    show endG 1 _ (clE :: r) = _
    rw [endG, show dlt clE = -1 from rfl, if_pos (by decide)]
    simp [Fo.evs]
    omega
/-- The events of a tree: never none. -/
theorem evs_one_pos (t : Bool) (tx sp lo : ByteArray) (ats : List P3) (ks : Fo) : 1 ≤ (Fo.cons t tx sp lo ats ks .nil).evs.length := by
  cases t <;> simp [Fo.evs]
theorem evs_cons (t : Bool) (tx sp lo : ByteArray) (ats : List P3) (ks nx : Fo) : (Fo.cons t tx sp lo ats ks nx).evs = (Fo.cons t tx sp lo ats ks .nil).evs ++ nx.evs := by
  rw [Fo.evs, Fo.evs]
  simp [Fo.evs]
/-- Where the trees of a row begin. -/
def Fo.plc : Nat → Fo → List Nat
  | _, .nil => []
  | i, .cons t tx sp lo ats ks nx => i :: nx.plc (i + (Fo.cons t tx sp lo ats ks .nil).evs.length)
theorem plc_len : ∀ (f : Fo) (i : Nat), (f.plc i).length = f.len
  | .nil, i => rfl
  | .cons t tx sp lo ats ks nx, i => by rw [Fo.plc, List.length_cons, plc_len nx, Fo.len]
/-- How many nodes stand in these events. -/
def numG : List RE → Nat
  | [] => 0
  | x :: l => (if x.kind = 3 then 0 else 1) + numG l
theorem num_app : ∀ a b : List RE, numG (a ++ b) = numG a + numG b
  | [], b => by simp [numG]
  | x :: a, b => by rw [List.cons_append, numG, numG, num_app a b]; omega
theorem num_evs : ∀ f : Fo, numG f.evs = f.cnt
  | .nil => rfl
  | .cons t tx sp lo ats ks nx => by
    rw [Fo.evs, Fo.cnt, num_app, num_evs nx]
    cases t
    · rw [if_neg (by decide), if_neg (by decide), numG, num_app, num_evs ks]
      simp [numG, clE]
    · rw [if_pos rfl, if_pos rfl]
      simp [numG]
theorem plc_get {f : Fo} {i : Nat} : ∀ {k : Nat}, k < f.len → (f.plc i)[k]? = some (i + (f.take k).evs.length) := by
  induction f generalizing i with
  | nil => intro k h; rw [Fo.len] at h; omega
  | cons t tx sp lo ats ks nx _ ih =>
    intro k h
    cases k with
    | zero => simp [Fo.plc, Fo.take, Fo.evs]
    | succ k =>
      rw [Fo.len] at h
      rw [Fo.plc, List.getElem?_cons_succ, ih (by omega), Fo.take, evs_cons t tx sp lo ats ks (nx.take k), List.length_append]
      congr 1
      omega
end Go.Proofs.Ytaoggciebkaakaa.Ev

/- WordBegins (layer 9) over the contracts of what it calls. -/
set_option linter.unusedSimpArgs false
set_option linter.unusedVariables false
namespace Go.Proofs.Ytaoggciebkaakaa.Ev
open Go.RowKit

theorem own_slice {e : TypeId} {z n : Nat} {w : World} {B : Nat} {v : Value} {xs : List Value} (h : w.ownsRow B e z v n xs) : ∃ A cap, v = .slice A n cap := by
  rcases h.2 with ⟨rfl, rfl⟩ | ⟨g, cap, cur, rfl, _⟩
  · exact ⟨none, 0, rfl⟩
  · exact ⟨_, cap, rfl⟩
theorem own_keep {e : TypeId} {z n : Nat} {w w' : World} {B : Nat} {v : Value} {xs : List Value} (h : w.ownsRow B e z v n xs) (hb : Below w.heap.size w w') : w'.ownsRow B e z v n xs := by
  refine ⟨h.1, ?_⟩
  rcases h.2 with hn | ⟨g, cap, cur, rfl, hB, hg, rest⟩
  · exact .inl hn
  · exact .inr ⟨g, cap, cur, rfl, hB, (hb.block _ (Array.getElem?_eq_some_iff.1 hg).1).trans hg, rest⟩
/-- The slice at A reads as these numbers. -/
def RdI (w : World) (A : Option Addr) (l : List Int) : Prop :=
  ∀ k x, l[k]? = some x → ∃ b off, A = some ⟨b, off, none⟩ ∧ b < w.heap.size ∧ w.cell? ⟨b, off + k, none⟩ = some (.int .i64 x)
theorem RdI.keep {w w' : World} {A : Option Addr} {l : List Int} (h : RdI w A l) (hb : Below w.heap.size w w') : RdI w' A l := fun k t hk => by
  obtain ⟨b, o, e, hlt, c0⟩ := h k t hk
  exact ⟨b, o, e, Nat.lt_of_lt_of_le hlt hb.size, (hb.cell (p := ⟨b, o + k, none⟩) hlt).trans c0⟩
theorem add_at (g k : Nat) : (⟨g, 0, none⟩ : Addr).add k = ⟨g, k, none⟩ := by
  cases k with
  | zero => rfl
  | succ j => simp [Addr.add]
theorem OwnI.rd {w : World} {B : Nat} {v : Value} {l : List Int} (h : OwnI w B v l) : ∃ A c, v = .slice A l.length c ∧ RdI w A l ∧ l.length ≤ maxLen := by
  have h' : w.ownsRow B 3 1 v l.length (l.map (Value.int .i64)) := h
  rcases h'.2 with ⟨rfl, h0⟩ | ⟨g, cap, cur, rfl, hB, hg, h4, h5, _⟩
  · refine ⟨none, 0, by rw [h0], fun k x hk => ?_, by omega⟩
    rw [List.eq_nil_of_length_eq_zero h0] at hk
    simp at hk
  · refine ⟨_, cap, rfl, fun k x hk => ⟨g, 0, rfl, (Array.getElem?_eq_some_iff.1 hg).1, ?_⟩, by omega⟩
    have := h'.cells rfl k (.int .i64 x) (by rw [List.getElem?_map, hk]; rfl)
    rw [add_at] at this
    rw [Nat.zero_add]
    exact this
end Go.Proofs.Ytaoggciebkaakaa.Ev
