/-
  Merged by program out of the texts EvDepth, EvMath, EvSame, EvCon of one seat.
-/
import Derived.Test.YtggeonoofjeecaaG01
import Derived.Deep.RegionHeld3
import Derived.Deep.RegionWith
import Derived.Laws.OwnMore

/- The document's Depth (layer 9) of whatever events. -/
set_option linter.unusedSimpArgs false
set_option linter.unusedVariables false
namespace Go.Proofs.Ytggeonoofjeecaa.Ev
open Go.RowKit

/-- How many are open behind these events, if so many were, the last one of this kind; -1: that can't be. -/
def depR (R : RE → Bool) : Bool → Int → Int → List RE → Int
  | _, _, n, [] => n
  | first, pk, n, x :: r =>
    if R x = false ∨ (n == 0) ≠ first ∨ (first = true ∧ x.kind ≠ 1) then -1
    else if x.kind = 2 ∧ pk = 2 then -1
    else
      let m := if x.kind = 1 then n + 1 else if x.kind = 3 then n - 1 else n
      if 64 < m then -1 else depR R false x.kind m r
/-- The document's Depth. -/
def depF (pL tR : ByteArray → Bool) (l : List RE) : Int := depR (rightF pL tR) true 0 0 l
theorem few_rgb {x : RE} (h : FewE x) : RgB x := ⟨by have := h.sp; omega, by have := h.lo; omega, by have := h.tx; omega, fun hn y hy => by
  obtain ⟨k, hk⟩ := List.getElem?_of_mem hy
  have hlt := (List.getElem?_eq_some_iff.1 hk).1
  obtain ⟨a, b, c⟩ := h.at_ k y (by omega) hk
  exact ⟨by omega, by omega, by omega⟩⟩
theorem right_kind {pL tR : ByteArray → Bool} {x : RE} (h : rightF pL tR x = true) : x.kind = 1 ∨ x.kind = 2 ∨ x.kind = 3 := by
  by_cases h2 : x.kind = 2
  · exact .inr (.inl h2)
  by_cases h3 : x.kind = 3
  · exact .inr (.inr h3)
  by_cases h1 : x.kind = 1
  · exact .inl h1
  unfold rightF at h
  rw [if_neg h2, if_neg h3, if_pos (.inl h1)] at h
  cases h
def prevK (l : List RE) (k : Nat) : Int := ((l[k - 1]?).map (·.kind)).getD 0
def DpRel (F : Int) (R : RE → Bool) (l : List RE) (n : Nat) (w : World) (vn i : Value) (wr : World) : Prop :=
  ∃ k m : Nat, i = .int .i64 k ∧ vn = .int .i64 m ∧ k ≤ n ∧ m ≤ 64 ∧ (k = 0 → m = 0) ∧ Hid (Below w.heap.size w wr) ∧ Hid (F = depR R (decide (k = 0)) (prevK l k) m (l.drop k))
theorem dep_step {R : RE → Bool} {l : List RE} {k : Nat} {x : RE} (hx : l[k]? = some x) (b : Bool) (p m : Int) : depR R b p m (l.drop k) = if R x = false ∨ (m == 0) ≠ b ∨ (b = true ∧ x.kind ≠ 1) then -1 else if x.kind = 2 ∧ p = 2 then -1 else if 64 < (if x.kind = 1 then m + 1 else if x.kind = 3 then m - 1 else m) then -1 else depR R (decide (k + 1 = 0)) (prevK l (k + 1)) (if x.kind = 1 then m + 1 else if x.kind = 3 then m - 1 else m) (l.drop (k + 1)) := by
  have hlt := (List.getElem?_eq_some_iff.1 hx).1
  have hd : l.drop k = x :: l.drop (k + 1) := by
    rw [List.drop_eq_getElem_cons hlt]
    have := (List.getElem?_eq_some_iff.1 hx).2
    rw [this]
  have hp : prevK l (k + 1) = x.kind := by unfold prevK; rw [Nat.add_sub_cancel, hx]; rfl
  have hf : decide (k + 1 = 0) = false := by simp
  rw [hd, hp, hf]
  rfl
theorem dep_in {F p m kd : Int} {D : Int → Int} (h : F = if kd = 2 ∧ p = 2 then -1 else if 64 < (if kd = 1 then m + 1 else if kd = 3 then m - 1 else m) then -1 else D (if kd = 1 then m + 1 else if kd = 3 then m - 1 else m)) :
    (kd = 1 → F = if 64 < m + 1 then -1 else D (m + 1)) ∧ (kd = 3 → F = if 64 < m - 1 then -1 else D (m - 1)) ∧ (kd = 2 → F = if p = 2 then -1 else if 64 < m then -1 else D m) := by
  refine ⟨?_, ?_, ?_⟩
  all_goals
    intro e
    rw [e] at h
    simpa using h
def EvC (pL tR : ByteArray → Bool) : Prop := ∀ (A : Option Addr) (n c : Nat) (x : RE) (W : World), AttsIn W A n c x.ats → RgB x → Calls Try.prog 10 #[.agg #[.int .i64 x.kind, .string x.sp, .string x.lo, .slice A n c, .string x.tx]] W fun e w' => e = .returned (.bool (rightF pL tR x)) ∧ Below W.heap.size W w'
set_option maxHeartbeats 4000000 in
set_option maxRecDepth 100000 in
theorem depth_any (pL tR : ByteArray → Bool) (C : Hid (EvC pL tR)) (A : Option Addr) (n c : Nat) (l : List RE) (w : World) (T : EvsIn w A n c l) (hn : n ≤ 500) (hF : ∀ (k : Nat) (x : RE), l[k]? = some x → FewE x) :
    Calls Try.prog 13 #[.slice A n c] w fun e w' => e = .returned (.int .i64 (depF pL tR l)) ∧ Below w.heap.size w w' := by
  have HT := Lib.hid T
  have HFw := Lib.hid hF
  clear T hF
  obtain ⟨F, hF⟩ : ∃ F, F = depF pL tR l := ⟨_, rfl⟩
  rw [← hF]
  have H0 : Hid (F = depR (rightF pL tR) (decide ((0 : Nat) = 0)) (prevK l 0) ((0 : Nat) : Int) (l.drop 0)) := Lib.hid (by
    rw [hF]
    unfold depF
    cases l with
    | nil => rfl
    | cons x r =>
      have h := dep_step (R := rightF pL tR) (l := x :: r) (k := 0) (x := x) rfl true 0 0
      rw [List.drop_zero] at h ⊢
      rw [h]
      have h' := dep_step (R := rightF pL tR) (l := x :: r) (k := 0) (x := x) rfl true (prevK (x :: r) 0) 0
      rw [List.drop_zero] at h'
      show _ = depR _ true _ 0 _
      rw [h']
      by_cases q : rightF pL tR x = false ∨ ((0 : Int) == 0) ≠ true ∨ (true = true ∧ x.kind ≠ 1)
      · rw [if_pos q, if_pos q]
      · have k1 : x.kind = 1 := Decidable.not_not.1 fun e => q (.inr (.inr ⟨rfl, e⟩))
        have e1 : ¬ (x.kind = 2 ∧ (0 : Int) = 2) := by rintro ⟨h, _⟩; omega
        have e2 : ¬ (x.kind = 2 ∧ prevK (x :: r) 0 = 2) := by rintro ⟨h, _⟩; omega
        rw [if_neg q, if_neg q, if_neg e1, if_neg e2])
  have HFF := Lib.hid hF
  clear hF
  go_enter Try.func13, Try.ntmps13
  go_wp2_with fail
  go_loopw [3, 4] (fun vn i wr => DpRel F (rightF pL tR) l n w vn i wr) (fun _ i _ => n - (intOf i).toNat)
  case atStart => exact ⟨0, 0, rfl, rfl, Nat.zero_le _, Nat.zero_le _, fun _ => rfl, Lib.hid (Below.refl _ _), H0⟩
  case round =>
    clear H0
    obtain ⟨k, m, rfl, rfl, hk, hm, hkm, HR, HA⟩ := hrel
    by_cases hlt : k < n
    · have k1 : (k : Int) < (n : Int) := by omega
      have k2 : (0 : Int) ≤ (k : Int) := by omega
      have hkl : k < l.length := by rw [← HT.out.len]; exact hlt
      have hx := List.getElem?_eq_getElem hkl
      have HRd := Lib.hid (HT.out.rd)
      obtain ⟨b, off, Aa, na, ca, hA, hbl, TA, c0, c1, c2, c3, c4⟩ := (HRd.out.keep HR.out) k _ hx
      have CR := Lib.hid (C.out Aa na ca l[k] wr TA (few_rgb (HFw.out k _ hx)))
      have HS := Lib.hid (HA.out.trans (dep_step hx _ _ _))
      have HX := Lib.hid hx
      generalize l[k] = x at *
      subst hA
      have HKd := Lib.hid (fun h => right_kind (pL := pL) (tR := tR) (x := x) h)
      obtain ⟨kind, sp, lo, ats, tx⟩ := x
      dsimp only at *
      clear hx hkl hbl TA HA
      cases hr : rightF pL tR ⟨kind, sp, lo, ats, tx⟩ with
      | false =>
        have HE : Hid (F = -1) := Lib.hid (by rw [HS.out, if_pos (.inl hr)])
        rw [hr] at CR
        clear hr HS HKd
        go_wp2_with fail
        refine CR.out.mono ?_
        rintro e w1 ⟨rfl, b1⟩
        have HB1 := Lib.hid (HR.out.trans (b1.mono HR.out.size))
        clear b1 CR HR
        go_wp2
        go_ret
        exact ⟨by rw [HE.out]; rfl, HB1.out⟩
      | true =>
        have hkd := HKd.out hr
        rw [hr] at CR
        have HRr := Lib.hid hr
        clear hr HKd
        by_cases hk0 : k = 0
        · have hm0 := hkm hk0
          have z1 : ((k : Int) == 0) = true := by rw [beq_iff_eq]; omega
          have z2 : ((m : Int) == 0) = true := by rw [beq_iff_eq]; omega
          have hd0 : decide (k = 0) = true := decide_eq_true hk0
          by_cases hk1 : kind = 1
          · have HA2 : Hid (F = depR (rightF pL tR) (decide (k + 1 = 0)) (prevK l (k + 1)) ((m + 1 : Nat) : Int) (l.drop (k + 1))) := Lib.hid (by
              have h := HS.out
              rw [if_neg (by rw [HRr.out, hd0, z2, hk1]; simp)] at h
              have h2 := (dep_in (D := fun q => depR (rightF pL tR) (decide (k + 1 = 0)) (prevK l (k + 1)) q (l.drop (k + 1))) h).1 hk1
              rw [h2, if_neg (by omega)]
              rfl)
            have q3 : ¬ (64 : Int) < (m : Int) + 1 := by omega
            subst hk1
            clear HS HRr hkd hkm hk0 hm0 hd0
            go_wp2_with fail
            refine CR.out.mono ?_
            rintro e w1 ⟨rfl, b1⟩
            have HB1 := Lib.hid (HR.out.trans (b1.mono HR.out.size))
            obtain ⟨b', off', Aa', na', ca', e', _, _, d0, _, _, _, _⟩ := (HRd.out.keep HB1.out) k _ HX.out
            injection e' with e'
            injection e' with e1 e2 _
            subst e1 e2
            dsimp only at d0
            clear b1 CR HR c0 c1 c2 c3 c4
            go_wp2
            go_roundw
            case rel => exact ⟨k + 1, m + 1, by go_num, by go_num, by omega, by omega, fun h => by omega, HB1, HA2⟩
            case measure => simp only [intOf]; omega
          · have HE : Hid (F = -1) := Lib.hid (by rw [HS.out, if_pos (.inr (.inr ⟨hd0, hk1⟩))])
            have e1 : (kind != 1) = true := by simpa using hk1
            clear HS HRr hkd hkm hk1 hk0 hm0 hd0
            go_wp2_with fail
            refine CR.out.mono ?_
            rintro e w1 ⟨rfl, b1⟩
            have HB1 := Lib.hid (HR.out.trans (b1.mono HR.out.size))
            obtain ⟨b', off', Aa', na', ca', e', _, _, d0, _, _, _, _⟩ := (HRd.out.keep HB1.out) k _ HX.out
            injection e' with e'
            injection e' with e1' e2' _
            subst e1' e2'
            dsimp only at d0
            clear b1 CR HR c0 c1 c2 c3 c4
            go_wp2
            go_ret
            exact ⟨by rw [HE.out]; rfl, HB1.out⟩
        · have z1 : ((k : Int) == 0) = false := by rw [beq_eq_false_iff_ne]; omega
          have hd0 : decide (k = 0) = false := decide_eq_false hk0
          by_cases hm0 : m = 0
          · have HE : Hid (F = -1) := Lib.hid (by rw [HS.out, if_pos (.inr (.inl (by rw [hd0, hm0]; decide)))])
            have z2 : ((m : Int) == 0) = true := by rw [beq_iff_eq]; omega
            clear HS HRr hkd hkm hd0 hk0 hm0
            go_wp2_with fail
            refine CR.out.mono ?_
            rintro e w1 ⟨rfl, b1⟩
            have HB1 := Lib.hid (HR.out.trans (b1.mono HR.out.size))
            clear b1 CR HR
            go_wp2
            go_ret
            exact ⟨by rw [HE.out]; rfl, HB1.out⟩
          · have z2 : ((m : Int) == 0) = false := by rw [beq_eq_false_iff_ne]; omega
            have HS2 : Hid (F = if kind = 2 ∧ prevK l k = 2 then -1 else if 64 < (if kind = 1 then (m : Int) + 1 else if kind = 3 then (m : Int) - 1 else (m : Int)) then -1 else depR (rightF pL tR) (decide (k + 1 = 0)) (prevK l (k + 1)) (if kind = 1 then (m : Int) + 1 else if kind = 3 then (m : Int) - 1 else (m : Int)) (l.drop (k + 1))) := Lib.hid (by
              rw [HS.out, if_neg]
              rw [HRr.out, hd0, z2]
              rintro (h | h | h)
              · cases h
              · exact h rfl
              · cases h.1)
            obtain ⟨kp, hkp⟩ : ∃ kp, kp + 1 = k := ⟨k - 1, by omega⟩
            have q1 : IntKind.i64.wrap ((k : Int) - 1) = (kp : Int) := by rw [IntWalk.i64_in _ (by omega)]; omega
            have p1 : (0 : Int) ≤ (kp : Int) := by omega
            have p2 : (kp : Int) < (n : Int) := by omega
            have hpl : kp < l.length := by rw [← HT.out.len]; omega
            have hy := List.getElem?_eq_getElem hpl
            have HPv : Hid (prevK l k = (l[kp]).kind) := Lib.hid (by unfold prevK; rw [show k - 1 = kp by omega, hy]; rfl)
            have HY := Lib.hid hy
            generalize l[kp] = y at *
            have HD := Lib.hid (dep_in (D := fun q => depR (rightF pL tR) (decide (k + 1 = 0)) (prevK l (k + 1)) q (l.drop (k + 1))) HS2.out)
            clear HS HS2 HRr hkm hd0 hk0 hkp hpl hy
            go_wp2_with fail
            refine CR.out.mono ?_
            rintro e w1 ⟨rfl, b1⟩
            have HB1 := Lib.hid (HR.out.trans (b1.mono HR.out.size))
            obtain ⟨b', off', Aa', na', ca', e', _, _, d0, _, _, _, _⟩ := (HRd.out.keep HB1.out) k _ HX.out
            injection e' with e'
            injection e' with e1 e2 _
            subst e1 e2
            obtain ⟨b', off', Aa', na', ca', e', _, _, f0, _, _, _, _⟩ := (HRd.out.keep HB1.out) kp _ HY.out
            injection e' with e'
            injection e' with e1 e2 _
            subst e1 e2
            dsimp only at d0
            clear b1 CR HR c0 c1 c2 c3 c4
            rcases hkd with rfl | rfl | rfl
            · by_cases h64 : m = 64
              · have HE : Hid (F = -1) := Lib.hid (by rw [HD.out.1 rfl, if_pos (by omega)])
                have q3 : (64 : Int) < (m : Int) + 1 := by omega
                clear HD HPv h64
                go_wp2
                go_ret
                exact ⟨by rw [HE.out]; rfl, HB1.out⟩
              · have HA2 : Hid (F = depR (rightF pL tR) (decide (k + 1 = 0)) (prevK l (k + 1)) ((m + 1 : Nat) : Int) (l.drop (k + 1))) := Lib.hid (by
                  rw [HD.out.1 rfl, if_neg (by omega)]
                  rfl)
                have q3 : ¬ (64 : Int) < (m : Int) + 1 := by omega
                clear HD HPv
                go_wp2
                go_roundw
                case rel => exact ⟨k + 1, m + 1, by go_num, by go_num, by omega, by omega, fun h => by omega, HB1, HA2⟩
                case measure => simp only [intOf]; omega
            · by_cases hpk : y.kind = 2
              · have HE : Hid (F = -1) := Lib.hid (by rw [HD.out.2.2 rfl, if_pos (by rw [HPv.out]; exact hpk)])
                rw [hpk] at f0
                clear HD HPv
                go_wp2
                go_ret
                exact ⟨by rw [HE.out]; rfl, HB1.out⟩
              · have HA2 : Hid (F = depR (rightF pL tR) (decide (k + 1 = 0)) (prevK l (k + 1)) (m : Int) (l.drop (k + 1))) := Lib.hid (by
                  rw [HD.out.2.2 rfl, if_neg (by rw [HPv.out]; exact hpk), if_neg (by omega)])
                have q3 : ¬ (64 : Int) < (m : Int) := by omega
                have q4 : (y.kind == 2) = false := by simpa using hpk
                clear HD HPv hpk
                go_wp2
                go_roundw
                case rel => exact ⟨k + 1, m, by go_num, rfl, by omega, by omega, fun h => by omega, HB1, HA2⟩
                case measure => simp only [intOf]; omega
            · obtain ⟨mp, hmp⟩ : ∃ mp, mp + 1 = m := ⟨m - 1, by omega⟩
              have HA2 : Hid (F = depR (rightF pL tR) (decide (k + 1 = 0)) (prevK l (k + 1)) (mp : Int) (l.drop (k + 1))) := Lib.hid (by
                rw [HD.out.2.1 rfl, if_neg (by omega)]
                rw [show (m : Int) - 1 = (mp : Int) by omega])
              have q5 : IntKind.i64.wrap ((m : Int) - 1) = (mp : Int) := by rw [IntWalk.i64_in _ (by omega)]; omega
              have q3 : ¬ (64 : Int) < (mp : Int) := by omega
              have hmp2 : mp ≤ 64 := by omega
              clear HD HPv hmp
              go_wp2
              go_roundw
              case rel => exact ⟨k + 1, mp, by go_num, rfl, by omega, hmp2, fun h => by omega, HB1, HA2⟩
              case measure => simp only [intOf]; omega
    · have k1 : ¬ (k : Int) < (n : Int) := by omega
      have HE : Hid (F = (m : Int)) := Lib.hid (by rw [HA.out, List.drop_of_length_le (by rw [← HT.out.len]; omega)]; rfl)
      clear HA
      go_wp2
      go_ret
      exact ⟨by rw [HE.out]; rfl, HR.out⟩
end Go.Proofs.Ytggeonoofjeecaa.Ev

/- Beginnings of documents (layer 9), plain: what is ahead of a beginning is one; with its closers it is a document. -/
set_option linter.unusedSimpArgs false
set_option linter.unusedVariables false
namespace Go.Proofs.Ytggeonoofjeecaa.Ev

def lastK (p : Int) : List RE → Int
  | [] => p
  | x :: r => lastK x.kind r
theorem dep_next {R : RE → Bool} {b : Bool} {p n : Int} {x : RE} {r : List RE} (hn : 0 ≤ n) (hb : b = true → n = 0) :
    depR R b p n (x :: r) = -1 ∨ (R x = true ∧ ((n == 0) = b) ∧ ∃ m, 0 ≤ m ∧ m ≤ 64 ∧ (m = if x.kind = 1 then n + 1 else if x.kind = 3 then n - 1 else n) ∧ ∀ s, depR R b p n (x :: s) = depR R false x.kind m s) := by
  by_cases q : R x = false ∨ (n == 0) ≠ b ∨ (b = true ∧ x.kind ≠ 1)
  · left
    show (if _ then _ else _) = _
    rw [if_pos q]
  by_cases q2 : x.kind = 2 ∧ p = 2
  · left
    show (if _ then _ else _) = _
    rw [if_neg q, if_pos q2]
  by_cases q3 : 64 < (if x.kind = 1 then n + 1 else if x.kind = 3 then n - 1 else n)
  · left
    show (if _ then _ else if _ then _ else if 64 < (if x.kind = 1 then n + 1 else if x.kind = 3 then n - 1 else n) then _ else _) = _
    rw [if_neg q, if_neg q2, if_pos q3]
  right
  have h1 : R x = true := by
    cases h : R x
    · exact absurd (.inl h) q
    · rfl
  have h2 : (n == 0) = b := Decidable.not_not.1 fun h => q (.inr (.inl h))
  refine ⟨h1, h2, _, ?_, by omega, rfl, fun s => ?_⟩
  · split
    · omega
    · split
      · rename_i k1 k3
        have hb0 : b = false := by
          cases b
          · rfl
          · exact absurd (.inr (.inr ⟨rfl, k1⟩)) q
        rw [hb0] at h2
        have : n ≠ 0 := by simpa using h2
        omega
      · exact hn
  · show (if _ then _ else if _ then _ else if 64 < (if x.kind = 1 then n + 1 else if x.kind = 3 then n - 1 else n) then _ else _) = _
    rw [if_neg q, if_neg q2, if_neg q3]
theorem dep_range {R : RE → Bool} : ∀ (l : List RE) {b : Bool} {p n : Int}, 0 ≤ n → n ≤ 64 → (b = true → n = 0) → depR R b p n l = -1 ∨ (0 ≤ depR R b p n l ∧ depR R b p n l ≤ 64)
  | [], b, p, n, h0, h64, _ => .inr ⟨h0, h64⟩
  | x :: r, b, p, n, h0, h64, hb => by
    rcases dep_next (R := R) (b := b) (p := p) (x := x) (r := r) h0 hb with h | ⟨_, _, m, h1, h2, _, h3⟩
    · exact .inl h
    · rw [h3 r]
      exact dep_range r h1 h2 (fun h => by cases h)
theorem dep_app {R : RE → Bool} : ∀ (u v : List RE) {b : Bool} {p n : Int}, 0 ≤ n → (b = true → n = 0) → depR R b p n (u ++ v) = if depR R b p n u < 0 then -1 else depR R (b && u.isEmpty) (lastK p u) (depR R b p n u) v
  | [], v, b, p, n, h0, _ => by
    have h : depR R b p n [] = n := rfl
    rw [h, if_neg (by omega)]
    simp [lastK]
  | x :: r, v, b, p, n, h0, hb => by
    rcases dep_next (R := R) (b := b) (p := p) (x := x) (r := r) h0 hb with h | ⟨_, _, m, h1, h2, _, h3⟩
    · have h' : depR R b p n (x :: (r ++ v)) = -1 := by
        revert h
        show (if _ then _ else if _ then _ else if _ then _ else _) = _ → (if _ then _ else if _ then _ else if _ then _ else _) = _
        rcases dep_next (R := R) (b := b) (p := p) (x := x) (r := r ++ v) h0 hb with g | ⟨g1, g2, m, g3, g4, g5, g6⟩
        · exact fun _ => g
        · intro h
          have e : depR R b p n (x :: r) = -1 := h
          rw [g6 r] at e
          have e2 := g6 (r ++ v)
          rw [dep_app r v g3 (fun h => by cases h), e, if_pos (by omega)] at e2
          exact e2
      rw [List.cons_append, h', h, if_pos (by omega)]
    · rw [List.cons_append, h3 (r ++ v), h3 r, dep_app r v h1 (fun h => by cases h)]
      simp [lastK]
/-- What is ahead of a beginning is one. -/
theorem dep_take {R : RE → Bool} (l : List RE) (k : Nat) (h : 0 ≤ depR R true 0 0 l) : 0 ≤ depR R true 0 0 (l.take k) := by
  have e := dep_app (R := R) (l.take k) (l.drop k) (b := true) (p := 0) (n := 0) (by omega) (fun _ => rfl)
  rw [List.take_append_drop] at e
  by_cases q : depR R true 0 0 (l.take k) < 0
  · rw [if_pos q] at e
    omega
  · omega
theorem dep_close {R : RE → Bool} {cl : RE} (h1 : R cl = true) (h3 : cl.kind = 3) : ∀ (d : Nat) (p : Int), 1 ≤ d → d ≤ 65 → depR R false p d (List.replicate d cl) = 0
  | 0, p, h, _ => by omega
  | 1, p, _, _ => by
    show (if _ then _ else if _ then _ else if _ then _ else _) = _
    rw [if_neg (by rw [h1]; simp), if_neg (by rw [h3]; rintro ⟨h, _⟩; cases h), if_neg (by rw [h3]; decide)]
    rw [h3]
    rfl
  | d + 2, p, _, h65 => by
    have e : depR R false p ((d + 2 : Nat) : Int) (List.replicate (d + 2) cl) = depR R false 3 ((d + 1 : Nat) : Int) (List.replicate (d + 1) cl) := by
      show (if _ then _ else if _ then _ else if _ then _ else _) = _
      rw [if_neg (by rw [h1]; simp; omega), if_neg (by rw [h3]; rintro ⟨h, _⟩; cases h), if_neg (by rw [h3]; simp; omega)]
      rw [h3]
      simp
      congr 1
      omega
    rw [e]
    exact dep_close h1 h3 (d + 1) 3 (by omega) (by omega)
/-- With its closers a beginning that is not empty is a document. -/
theorem dep_whole {R : RE → Bool} {cl : RE} (h1 : R cl = true) (h3 : cl.kind = 3) {u : List RE} (hu : u ≠ []) {d : Nat} (hd : depR R true 0 0 u = d) : depR R true 0 0 (u ++ List.replicate d cl) = 0 := by
  rw [dep_app u _ (by omega) (fun _ => rfl), hd, if_neg (by omega)]
  have hr := dep_range (R := R) u (b := true) (p := 0) (n := 0) (by omega) (by omega) (fun _ => rfl)
  rw [hd] at hr
  have he : (true && u.isEmpty) = false := by
    cases u
    · exact absurd rfl hu
    · rfl
  rw [he]
  cases d with
  | zero => rfl
  | succ d => exact dep_close h1 h3 (d + 1) _ (by omega) (by omega)
/-- An element that is opened and closed is a document. -/
theorem dep_two {R : RE → Bool} {op cl : RE} (h1 : R op = true) (k1 : op.kind = 1) (h2 : R cl = true) (k3 : cl.kind = 3) : depR R true 0 0 [op, cl] = 0 := by
  have e : depR R true 0 0 [op, cl] = depR R false 1 1 [cl] := by
    show (if _ then _ else if _ then _ else if _ then _ else _) = _
    rw [if_neg (by rw [h1, k1]; simp), if_neg (by rw [k1]; rintro ⟨h, _⟩; cases h), if_neg (by rw [k1]; decide), k1]
    rfl
  rw [e]
  exact dep_close h2 k3 1 1 (by omega) (by omega)
end Go.Proofs.Ytggeonoofjeecaa.Ev

/- The document's SameEvent (layer 7) of whatever two events. -/
set_option linter.unusedSimpArgs false
set_option linter.unusedVariables false
namespace Go.Proofs.Ytggeonoofjeecaa.Ev
open Go.RowKit

def eq3 (a b : P3) : Bool := eqn a.1 b.1 && (a.2.toList == b.2.toList)
/-- Two events are alike. -/
def sameF (x y : RE) : Bool := (x.kind == y.kind) && eqn (x.sp, x.lo) (y.sp, y.lo) && (x.tx.toList == y.tx.toList) && (x.ats.length == y.ats.length) && ((x.ats.zip y.ats).all fun p => eq3 p.1 p.2)
theorem zip_no {l m : List P3} {k : Nat} {x y : P3} (hx : l[k]? = some x) (hy : m[k]? = some y) (h : eq3 x y = false) : ((l.zip m).all fun p => eq3 p.1 p.2) = false := by
  rw [List.all_eq_false]
  refine ⟨(x, y), List.mem_of_getElem? (i := k) ?_, by rw [h]; decide⟩
  rw [List.getElem?_zip_eq_some]
  exact ⟨hx, hy⟩
theorem zip_yes {l m : List P3} (h : ∀ (k : Nat) x y, k < l.length → l[k]? = some x → m[k]? = some y → eq3 x y = true) : ((l.zip m).all fun p => eq3 p.1 p.2) = true := by
  rw [List.all_eq_true]
  rintro ⟨x, y⟩ hp
  obtain ⟨k, hk⟩ := List.getElem?_of_mem hp
  rw [List.getElem?_zip_eq_some] at hk
  exact h k x y (List.getElem?_eq_some_iff.1 hk.1).1 hk.1 hk.2
def SvRel (l m : List P3) (n : Nat) (W0 : World) (i : Value) (wr : World) : Prop :=
  ∃ k : Nat, i = .int .i64 k ∧ k ≤ n ∧ Hid (Below W0.heap.size W0 wr) ∧ Hid (∀ (j : Nat) x y, j < k → l[j]? = some x → m[j]? = some y → eq3 x y = true)
set_option maxHeartbeats 4000000 in
set_option maxRecDepth 100000 in
theorem sev_gen (A1 A2 : Option Addr) (n1 n2 k1 k2 : Nat) (x y : RE) (w : World) (T1 : AttsIn w A1 n1 k1 x.ats) (T2 : AttsIn w A2 n2 k2 y.ats) :
    Calls Try.prog 12 #[.agg #[.int .i64 x.kind, .string x.sp, .string x.lo, .slice A1 n1 k1, .string x.tx], .agg #[.int .i64 y.kind, .string y.sp, .string y.lo, .slice A2 n2 k2, .string y.tx]] w fun e w' => e = .returned (.bool (sameF x y)) ∧ Below w.heap.size w w' := by
  obtain ⟨W0, hW0⟩ : ∃ W0, W0 = (w.alloc (.cells #[.int .i64 x.kind, .string x.sp, .string x.lo, .slice A1 n1 k1, .string x.tx] 26)).alloc (.cells #[.int .i64 y.kind, .string y.sp, .string y.lo, .slice A2 n2 k2, .string y.tx] 26) := ⟨_, rfl⟩
  have HB0 : Hid (Below w.heap.size w W0) := Lib.hid (by rw [hW0]; exact ((Below.refl w.heap.size w).alloc (Nat.le_refl _) _).alloc (by simp) _)
  have HKa : Hid (W0.heap[w.heap.size]? = some (.cells #[.int .i64 x.kind, .string x.sp, .string x.lo, .slice A1 n1 k1, .string x.tx] 26 (0, 0))) := Lib.hid (by rw [hW0]; exact (Below.heap_alloc _ _ _ (by simp)).trans (nblk w 26 _))
  have HKb : Hid (W0.heap[w.heap.size + 1]? = some (.cells #[.int .i64 y.kind, .string y.sp, .string y.lo, .slice A2 n2 k2, .string y.tx] 26 (0, 0))) := Lib.hid (by rw [hW0]; have h := nblk (w.alloc (.cells #[.int .i64 x.kind, .string x.sp, .string x.lo, .slice A1 n1 k1, .string x.tx] 26)) 26 #[.int .i64 y.kind, .string y.sp, .string y.lo, .slice A2 n2 k2, .string y.tx]; rw [World.size_alloc] at h; exact h)
  have HZ : Hid (w.heap.size + 1 < W0.heap.size) := Lib.hid (by rw [hW0]; simp)
  have HT1 := Lib.hid T1
  have HT2 := Lib.hid T2
  obtain ⟨F, hF⟩ : ∃ F, F = sameF x y := ⟨_, rfl⟩
  rw [← hF]
  have HF := Lib.hid hF
  clear T1 T2 hF
  by_cases hall : x.kind = y.kind ∧ eqn (x.sp, x.lo) (y.sp, y.lo) = true ∧ (x.tx.toList == y.tx.toList) = true ∧ n1 = n2
  · obtain ⟨h1, h2, h3, h4⟩ := hall
    have HE : Hid (F = ((x.ats.zip y.ats).all fun p => eq3 p.1 p.2)) := Lib.hid (by
      rw [HF.out]
      unfold sameF
      rw [h2, h3, ← HT1.out.len, ← HT2.out.len, h4, h1]
      simp)
    have qa : (x.sp.toList == y.sp.toList) = true := by unfold eqn at h2; simp only [Bool.and_eq_true] at h2; exact h2.1
    have qb : (x.lo.toList == y.lo.toList) = true := by unfold eqn at h2; simp only [Bool.and_eq_true] at h2; exact h2.2
    have qc : (x.tx.toList != y.tx.toList) = false := by rw [bne, h3]; rfl
    have qk : (x.kind != y.kind) = false := by rw [bne, h1]; simp
    have qn : ((n1 : Int) != (n2 : Int)) = false := by rw [bne, h4]; simp
    have hn12 : n1 ≤ n2 ∧ n2 ≤ n1 := by omega
    clear HF h1 h2 h4
    obtain ⟨kx, sx, lx, l, tx⟩ := x
    obtain ⟨ky, sy, ly, m, ty⟩ := y
    dsimp only at *
    go_enter Try.func12, Try.ntmps12
    go_wp2_with fail
    generalize hw : (w.alloc _).alloc _ = W1 at *
    clear hw
    subst hW0
    have hl1 := HT1.out.lsz
    unfold maxLen at hl1
    go_loopw [5] (fun i wr => SvRel l m n1 W0 i wr) (fun i _ => n1 - (intOf i).toNat)
    case atStart => exact ⟨0, rfl, Nat.zero_le _, Lib.hid (Below.refl _ _), Lib.hid (fun j x y h => by omega)⟩
    case round =>
      obtain ⟨k, rfl, hk, HR, HA⟩ := hrel
      obtain ⟨_, _, _, c3, _⟩ := cells5 ((HR.out.block _ (by have := HZ.out; omega)).trans HKa.out)
      obtain ⟨_, _, _, d3, _⟩ := cells5 ((HR.out.block _ HZ.out).trans HKb.out)
      by_cases hlt : k < n1
      · have g1 : (k : Int) < (n1 : Int) := by omega
        have g2 : (k : Int) < (n2 : Int) := by omega
        have g0 : (0 : Int) ≤ (k : Int) := by omega
        have hkl : k < l.length := by rw [← HT1.out.len]; exact hlt
        have hkm : k < m.length := by rw [← HT2.out.len]; omega
        have hx := List.getElem?_eq_getElem hkl
        have hy := List.getElem?_eq_getElem hkm
        have hB := Lib.hid (HB0.out.trans (HR.out.mono (by have := HZ.out; omega)))
        obtain ⟨b1, o1, rfl, hb1, x0, x1, x2⟩ := (HT1.out.rd.keep hB.out) k _ hx
        obtain ⟨b2, o2, rfl, hb2, y0, y1, y2⟩ := (HT2.out.rd.keep hB.out) k _ hy
        have HX := Lib.hid hx
        have HY := Lib.hid hy
        generalize l[k] = u at *
        generalize m[k] = v at *
        obtain ⟨⟨ua, ub⟩, uc⟩ := u
        obtain ⟨⟨va, vb⟩, vc⟩ := v
        dsimp only at x0 x1 x2 y0 y1 y2
        clear hx hy hkl hkm hb1 hb2
        by_cases he : eq3 ((ua, ub), uc) ((va, vb), vc) = true
        · have HA2 : Hid (∀ (j : Nat) x y, j < k + 1 → l[j]? = some x → m[j]? = some y → eq3 x y = true) := Lib.hid fun j x y hj h1 h2 => by
            rcases Nat.lt_or_ge j k with g | g
            · exact HA.out j x y g h1 h2
            · obtain rfl : j = k := by omega
              rw [HX.out] at h1
              rw [HY.out] at h2
              injection h1 with h1
              injection h2 with h2
              rw [← h1, ← h2]
              exact he
          unfold eq3 eqn at he
          simp only [Bool.and_eq_true] at he
          obtain ⟨⟨p1, p2⟩, p3⟩ := he
          clear HA HX HY
          go_wp2_with fail
          go_quiet (fail)
          go_wp2
          go_roundw
          case rel => exact ⟨k + 1, by go_num, by omega, Lib.hid (below_drewN HR.out _), HA2⟩
          case measure => simp only [intOf]; omega
        · have he' : eq3 ((ua, ub), uc) ((va, vb), vc) = false := by simpa using he
          have HFf : Hid (F = false) := Lib.hid (by rw [HE.out]; exact zip_no HX.out HY.out he')
          have hc : ((ua.toList == va.toList) = false) ∨ ((ua.toList == va.toList) = true ∧ (ub.toList == vb.toList) = false) ∨ ((ua.toList == va.toList) = true ∧ (ub.toList == vb.toList) = true ∧ (uc.toList == vc.toList) = false) := by
            unfold eq3 eqn at he'
            dsimp only at he'
            revert he'
            cases (ua.toList == va.toList) <;> cases (ub.toList == vb.toList) <;> cases (uc.toList == vc.toList) <;> simp
          clear he he' HA HX HY HE
          rcases hc with p1 | ⟨p1, p2⟩ | ⟨p1, p2, p3⟩
          all_goals
            go_wp2_with fail
            go_quiet (fail)
            go_wp2
            go_ret
            exact ⟨by rw [HFf.out]; rfl, below_drewN hB.out _⟩
      · have g1 : ¬ (k : Int) < (n1 : Int) := by omega
        have HFt : Hid (F = true) := Lib.hid (by rw [HE.out]; exact zip_yes fun j x y hj h1 h2 => HA.out j x y (by rw [← HT1.out.len] at hj; omega) h1 h2)
        have hB := Lib.hid (HB0.out.trans (HR.out.mono (by have := HZ.out; omega)))
        clear HA HE
        go_wp2
        go_ret
        exact ⟨by rw [HFt.out]; rfl, hB.out⟩
  · have HFf : Hid (F = false) := Lib.hid (by
      rw [HF.out]
      unfold sameF
      rw [← HT1.out.len, ← HT2.out.len]
      by_cases q1 : x.kind = y.kind
      · by_cases q2 : eqn (x.sp, x.lo) (y.sp, y.lo) = true
        · by_cases q3 : (x.tx.toList == y.tx.toList) = true
          · have q4 : (n1 == n2) = false := by rw [beq_eq_false_iff_ne]; exact fun h => hall ⟨q1, q2, q3, h⟩
            rw [q4]; simp
          · have q3' : (x.tx.toList == y.tx.toList) = false := by simpa using q3
            rw [q3']; simp
        · have q2' : eqn (x.sp, x.lo) (y.sp, y.lo) = false := by simpa using q2
          rw [q2']; simp
      · have q1' : (x.kind == y.kind) = false := by simpa using q1
        rw [q1']; simp)
    have hc : ((x.kind != y.kind) = true) ∨ ((x.kind != y.kind) = false ∧ (x.sp.toList == y.sp.toList) = false) ∨ ((x.kind != y.kind) = false ∧ (x.sp.toList == y.sp.toList) = true ∧ (x.lo.toList == y.lo.toList) = false) ∨ ((x.kind != y.kind) = false ∧ (x.sp.toList == y.sp.toList) = true ∧ (x.lo.toList == y.lo.toList) = true ∧ (x.tx.toList == y.tx.toList) = false) ∨ ((x.kind != y.kind) = false ∧ (x.sp.toList == y.sp.toList) = true ∧ (x.lo.toList == y.lo.toList) = true ∧ (x.tx.toList == y.tx.toList) = true ∧ ((n1 : Int) != (n2 : Int)) = true) := by
      by_cases q1 : x.kind = y.kind
      · have q1' : (x.kind != y.kind) = false := by rw [bne, q1]; simp
        right
        cases q2 : (x.sp.toList == y.sp.toList)
        · exact .inl ⟨q1', rfl⟩
        right
        cases q3 : (x.lo.toList == y.lo.toList)
        · exact .inl ⟨q1', rfl, rfl⟩
        right
        cases q4 : (x.tx.toList == y.tx.toList)
        · exact .inl ⟨q1', rfl, rfl, rfl⟩
        refine .inr ⟨q1', rfl, rfl, rfl, ?_⟩
        rw [bne_iff_ne]
        intro h
        exact hall ⟨q1, by unfold eqn; rw [q2, q3]; rfl, q4, by omega⟩
      · exact .inl (by simpa using q1)
    clear hall HF HT1 HT2 HKa HKb HZ
    obtain ⟨kx, sx, lx, l, tx⟩ := x
    obtain ⟨ky, sy, ly, m, ty⟩ := y
    dsimp only at *
    rcases hc with p1 | ⟨p1, p2⟩ | ⟨p1, p2, p3⟩ | ⟨p1, p2, p3, p4⟩ | ⟨p1, p2, p3, p4, p5⟩
    all_goals
      go_enter Try.func12, Try.ntmps12
      go_wp2_with fail
      generalize hw : (w.alloc _).alloc _ = W1 at *
      clear hw
      subst hW0
      go_ret
      exact ⟨by rw [HFf.out]; rfl, HB0.out⟩
end Go.Proofs.Ytggeonoofjeecaa.Ev

/- What layer 9's statements call, as contracts; WordRights over them. -/
set_option linter.unusedSimpArgs false
set_option linter.unusedVariables false
namespace Go.Proofs.Ytggeonoofjeecaa.Ev
open Go.RowKit

def emB : ByteArray := ⟨#[]⟩
/-- The end of an element; the root that stands for none. -/
def clE : RE := ⟨3, emB, emB, [], emB⟩
def opE : RE := ⟨1, emB, ⟨#[97]⟩, [], emB⟩
def FewL (l : List RE) : Prop := l.length ≤ 500 ∧ ∀ (k : Nat) (x : RE), l[k]? = some x → FewE x
/-- Where the nodes are. -/
def nodG : Nat → List RE → List Int
  | _, [] => []
  | k, x :: r => if x.kind = 3 then nodG (k + 1) r else (k : Int) :: nodG (k + 1) r
def nodF (pL tR : ByteArray → Bool) (l : List RE) : List Int := if depF pL tR l < 0 then [] else nodG 0 l
def cloF (pL tR : ByteArray → Bool) (l : List RE) : List RE := if depF pL tR l < 0 then [] else if l = [] then [opE, clE] else List.replicate (depF pL tR l).toNat clE
/-- An event's cells, without attributes. -/
def reC (x : RE) : List Value := [.int .i64 x.kind, .string x.sp, .string x.lo, .slice none 0 0, .string x.tx]
def OwnI (W : World) (B : Nat) (v : Value) (l : List Int) : Prop := W.ownsRow B 3 1 v l.length (l.map (Value.int .i64))
def OwnV (W : World) (B : Nat) (v : Value) (l : List RE) : Prop := W.ownsRow B 26 5 v l.length (l.flatMap reC)
/-- What the statements of layer 9 call: word's functions (7 is the statements' own), and what the worlds keep. -/
structure Wc (G : World → Prop) (pL tR : ByteArray → Bool) : Prop where
  keep : ∀ W W', G W → Below W.heap.size W W' → G W'
  aw : ∀ W, G W → Calls Try.prog 7 #[] W fun e w' => e = .returned (.bool true) ∧ Below W.heap.size W w'
  right : ∀ (A : Option Addr) (n c : Nat) (x : RE) (W : World), G W → AttsIn W A n c x.ats → FewE x → Calls Try.prog 9 #[.agg #[.int .i64 x.kind, .string x.sp, .string x.lo, .slice A n c, .string x.tx]] W fun e w' => e = .returned (.bool (rightF pL tR x)) ∧ Below W.heap.size W w'
  rright : EvC pL tR
  same : ∀ (A1 A2 : Option Addr) (n1 n2 c1 c2 : Nat) (x y : RE) (W : World), G W → AttsIn W A1 n1 c1 x.ats → AttsIn W A2 n2 c2 y.ats → FewE x → FewE y → Calls Try.prog 11 #[.agg #[.int .i64 x.kind, .string x.sp, .string x.lo, .slice A1 n1 c1, .string x.tx], .agg #[.int .i64 y.kind, .string y.sp, .string y.lo, .slice A2 n2 c2, .string y.tx]] W fun e w' => e = .returned (.bool (sameF x y)) ∧ Below W.heap.size W w'
  begins : ∀ (A : Option Addr) (n c : Nat) (l : List RE) (W : World), G W → EvsIn W A n c l → FewL l → Calls Try.prog 14 #[.slice A n c] W fun e w' => e = .returned (.bool (decide (0 ≤ depF pL tR l))) ∧ Below W.heap.size W w'
  whole : ∀ (A : Option Addr) (n c : Nat) (l : List RE) (W : World), G W → EvsIn W A n c l → FewL l → Calls Try.prog 15 #[.slice A n c] W fun e w' => e = .returned (.bool (decide (depF pL tR l = 0 ∧ 0 < n))) ∧ Below W.heap.size W w'
  depth : ∀ (A : Option Addr) (n c : Nat) (l : List RE) (W : World), G W → EvsIn W A n c l → FewL l → Calls Try.prog 16 #[.slice A n c] W fun e w' => e = .returned (.int .i64 (if depF pL tR l < 0 then 0 else depF pL tR l)) ∧ Below W.heap.size W w'
  nodes : ∀ (A : Option Addr) (n c : Nat) (l : List RE) (W : World), G W → EvsIn W A n c l → FewL l → Calls Try.prog 17 #[.slice A n c] W fun e w' => ∃ v, e = .returned v ∧ OwnI w' W.heap.size v (nodF pL tR l) ∧ Below W.heap.size W w'
  closers : ∀ (A : Option Addr) (n c : Nat) (l : List RE) (W : World), G W → EvsIn W A n c l → FewL l → Calls Try.prog 18 #[.slice A n c] W fun e w' => ∃ v, e = .returned v ∧ OwnV w' W.heap.size v (cloF pL tR l) ∧ Below W.heap.size W w'
  opR : rightF pL tR opE = true
theorem same_self (x : RE) : sameF x x = true := by
  unfold sameF eqn
  rw [zip_yes (fun k a b _ h1 h2 => by
    rw [h1] at h2
    injection h2 with h2
    subst h2
    unfold eq3 eqn
    simp)]
  simp
/-- Two events' boxes. -/
structure Bx (G : World → Prop) (ba bb : Nat) (A1 A2 : Option Addr) (n1 n2 c1 c2 : Nat) (x y : RE) (W0 W : World) : Prop where
  g : G W
  a : W.heap[ba]? = some (.cells #[.int .i64 x.kind, .string x.sp, .string x.lo, .slice A1 n1 c1, .string x.tx] 26 (0, 0))
  b : W.heap[bb]? = some (.cells #[.int .i64 y.kind, .string y.sp, .string y.lo, .slice A2 n2 c2, .string y.tx] 26 (0, 0))
  ta : AttsIn W A1 n1 c1 x.ats
  tb : AttsIn W A2 n2 c2 y.ats
  bel : Below W0.heap.size W0 W
section
variable {G : World → Prop} {pL tR : ByteArray → Bool} {ba bb : Nat} {A1 A2 : Option Addr} {n1 n2 c1 c2 : Nat} {x y : RE} {W0 W W' : World}
theorem Bx.keep (hW : Wc G pL tR) (h : Bx G ba bb A1 A2 n1 n2 c1 c2 x y W0 W) (hb : Below W.heap.size W W') : Bx G ba bb A1 A2 n1 n2 c1 c2 x y W0 W' :=
  ⟨hW.keep _ _ h.g hb, (hb.block _ (Array.getElem?_eq_some_iff.1 h.a).1).trans h.a, (hb.block _ (Array.getElem?_eq_some_iff.1 h.b).1).trans h.b, h.ta.keep hb, h.tb.keep hb, h.bel.trans (hb.mono h.bel.size)⟩
theorem Bx.s10 (h : Bx G ba bb A1 A2 n1 n2 c1 c2 x y W0 W) : (W.cell? ⟨ba, 0, none⟩ = some (.int .i64 x.kind) ∧ W.cell? ⟨ba, 1, none⟩ = some (.string x.sp) ∧ W.cell? ⟨ba, 2, none⟩ = some (.string x.lo) ∧ W.cell? ⟨ba, 3, none⟩ = some (.slice A1 n1 c1) ∧ W.cell? ⟨ba, 4, none⟩ = some (.string x.tx)) ∧ W.cell? ⟨bb, 0, none⟩ = some (.int .i64 y.kind) ∧ W.cell? ⟨bb, 1, none⟩ = some (.string y.sp) ∧ W.cell? ⟨bb, 2, none⟩ = some (.string y.lo) ∧ W.cell? ⟨bb, 3, none⟩ = some (.slice A2 n2 c2) ∧ W.cell? ⟨bb, 4, none⟩ = some (.string y.tx) := ⟨cells5 h.a, cells5 h.b⟩
end
/-- Two events as a slice of the call's own. -/
theorem two_in {W : World} {A1 A2 : Option Addr} {n1 n2 c1 c2 b : Nat} {x y : RE} (h : W.heap[b]? = some (.cells #[.int .i64 x.kind, .string x.sp, .string x.lo, .slice A1 n1 c1, .string x.tx, .int .i64 y.kind, .string y.sp, .string y.lo, .slice A2 n2 c2, .string y.tx] 26 (0, 0))) (ta : AttsIn W A1 n1 c1 x.ats) (tb : AttsIn W A2 n2 c2 y.ats) (sx : RSz x) (sy : RSz y) : EvsIn W (some ⟨b, 0, none⟩) 2 2 [x, y] :=
  ⟨rfl, by decide, by decide, fun z hz => by simp only [List.mem_cons, List.not_mem_nil, or_false] at hz; rcases hz with rfl | rfl <;> assumption, fun k z hk => by
    have hb := (Array.getElem?_eq_some_iff.1 h).1
    match k, hk with
    | 0, hk =>
      injection hk with hk
      subst hk
      exact ⟨b, 0, A1, n1, c1, rfl, hb, ta, cells_of h 0 rfl, cells_of h 1 rfl, cells_of h 2 rfl, cells_of h 3 rfl, cells_of h 4 rfl⟩
    | 1, hk =>
      injection hk with hk
      subst hk
      exact ⟨b, 0, A2, n2, c2, rfl, hb, tb, cells_of h 5 rfl, cells_of h 6 rfl, cells_of h 7 rfl, cells_of h 8 rfl, cells_of h 9 rfl⟩
    | k + 2, hk => simp at hk, (fun h => by cases h), ⟨Nat.le_refl _, by decide⟩⟩
set_option maxHeartbeats 8000000 in
set_option maxRecDepth 100000 in
theorem rights_law (G : World → Prop) (pL tR : ByteArray → Bool) (hW : Wc G pL tR) (A1 A2 : Option Addr) (n1 n2 c1 c2 : Nat) (x y : RE) (w : World) (T1 : AttsIn w A1 n1 c1 x.ats) (T2 : AttsIn w A2 n2 c2 y.ats) (S1 : RSz x) (S2 : RSz y) (hG : G w) :
    Calls Try.prog 3 #[.agg #[.int .i64 x.kind, .string x.sp, .string x.lo, .slice A1 n1 c1, .string x.tx], .agg #[.int .i64 y.kind, .string y.sp, .string y.lo, .slice A2 n2 c2, .string y.tx]] w fun e w' => e = .returned (.bool true) ∧ Below w.heap.size w w' := by
  obtain ⟨W0, hW0⟩ : ∃ W0, W0 = (w.alloc (.cells #[.int .i64 x.kind, .string x.sp, .string x.lo, .slice A1 n1 c1, .string x.tx] 26)).alloc (.cells #[.int .i64 y.kind, .string y.sp, .string y.lo, .slice A2 n2 c2, .string y.tx] 26) := ⟨_, rfl⟩
  have hb0 : Below w.heap.size w W0 := by rw [hW0]; exact ((Below.refl w.heap.size w).alloc (Nat.le_refl _) _).alloc (by simp) _
  have HB0 := Lib.hid hb0
  have HX0 : Hid (Bx G w.heap.size (w.heap.size + 1) A1 A2 n1 n2 c1 c2 x y W0 W0) := Lib.hid ⟨hW.keep _ _ hG hb0, by rw [hW0]; exact (Below.heap_alloc _ _ _ (by simp)).trans (nblk w 26 _), by rw [hW0]; have h := nblk (w.alloc (.cells #[.int .i64 x.kind, .string x.sp, .string x.lo, .slice A1 n1 c1, .string x.tx] 26)) 26 #[.int .i64 y.kind, .string y.sp, .string y.lo, .slice A2 n2 c2, .string y.tx]; rw [World.size_alloc] at h; exact h, T1.keep hb0, T2.keep hb0, Below.refl _ _⟩
  have HW := Lib.hid hW
  have HS1 := Lib.hid S1
  have HS2 := Lib.hid S2
  have CA := Lib.hid (hW.aw W0 (hW.keep _ _ hG hb0))
  clear T1 T2 S1 S2 hG hb0 hW
  have C9 : Hid (∀ W, FewE x → Bx G w.heap.size (w.heap.size + 1) A1 A2 n1 n2 c1 c2 x y W0 W → Calls Try.prog 9 #[.agg #[.int .i64 x.kind, .string x.sp, .string x.lo, .slice A1 n1 c1, .string x.tx]] W fun e w' => e = .returned (.bool (rightF pL tR x)) ∧ Below W.heap.size W w') := Lib.hid fun W f h => HW.out.right _ _ _ x W h.g h.ta f
  have C10 : Hid (∀ W, FewE x → Bx G w.heap.size (w.heap.size + 1) A1 A2 n1 n2 c1 c2 x y W0 W → Calls Try.prog 10 #[.agg #[.int .i64 x.kind, .string x.sp, .string x.lo, .slice A1 n1 c1, .string x.tx]] W fun e w' => e = .returned (.bool (rightF pL tR x)) ∧ Below W.heap.size W w') := Lib.hid fun W f h => HW.out.rright _ _ _ x W h.ta (few_rgb f)
  have C11 : Hid (∀ W, FewE x → FewE y → Bx G w.heap.size (w.heap.size + 1) A1 A2 n1 n2 c1 c2 x y W0 W → Calls Try.prog 11 #[.agg #[.int .i64 x.kind, .string x.sp, .string x.lo, .slice A1 n1 c1, .string x.tx], .agg #[.int .i64 y.kind, .string y.sp, .string y.lo, .slice A2 n2 c2, .string y.tx]] W fun e w' => e = .returned (.bool (sameF x y)) ∧ Below W.heap.size W w') := Lib.hid fun W f g h => HW.out.same _ _ _ _ _ _ x y W h.g h.ta h.tb f g
  have C12 : Hid (∀ W, Bx G w.heap.size (w.heap.size + 1) A1 A2 n1 n2 c1 c2 x y W0 W → Calls Try.prog 12 #[.agg #[.int .i64 x.kind, .string x.sp, .string x.lo, .slice A1 n1 c1, .string x.tx], .agg #[.int .i64 y.kind, .string y.sp, .string y.lo, .slice A2 n2 c2, .string y.tx]] W fun e w' => e = .returned (.bool (sameF x y)) ∧ Below W.heap.size W w') := Lib.hid fun W h => sev_gen _ _ _ _ _ _ x y W h.ta h.tb
  have C13 : Hid (∀ W, FewE x → Bx G w.heap.size (w.heap.size + 1) A1 A2 n1 n2 c1 c2 x y W0 W → Calls Try.prog 11 #[.agg #[.int .i64 x.kind, .string x.sp, .string x.lo, .slice A1 n1 c1, .string x.tx], .agg #[.int .i64 x.kind, .string x.sp, .string x.lo, .slice A1 n1 c1, .string x.tx]] W fun e w' => e = .returned (.bool true) ∧ Below W.heap.size W w') := Lib.hid fun W f h => by have := HW.out.same _ _ _ _ _ _ x x W h.g h.ta h.ta f f; rw [same_self] at this; exact this
  have CF : Hid (∀ W b, Bx G w.heap.size (w.heap.size + 1) A1 A2 n1 n2 c1 c2 x y W0 W → W.heap[b]? = some (.cells #[.int .i64 x.kind, .string x.sp, .string x.lo, .slice A1 n1 c1, .string x.tx, .int .i64 y.kind, .string y.sp, .string y.lo, .slice A2 n2 c2, .string y.tx] 26 (0, 0)) → Calls Try.prog 8 #[.slice (some ⟨b, 0, none⟩) 2 2] W (FwPost [x, y] W)) := Lib.hid fun W b h hb => few_any _ 2 2 _ W (two_in hb h.ta h.tb HS1.out HS2.out)
  have HKp : Hid (∀ W W', Bx G w.heap.size (w.heap.size + 1) A1 A2 n1 n2 c1 c2 x y W0 W → Below W.heap.size W W' → Bx G w.heap.size (w.heap.size + 1) A1 A2 n1 n2 c1 c2 x y W0 W') := Lib.hid fun W W' h hb => h.keep HW.out hb
  have HAw : Hid (∀ W, Bx G w.heap.size (w.heap.size + 1) A1 A2 n1 n2 c1 c2 x y W0 W → Calls Try.prog 7 #[] W fun e w' => e = .returned (.bool true) ∧ Below W.heap.size W w') := Lib.hid fun W h => HW.out.aw W h.g
  have HSp : Hid (∀ W, Bx G w.heap.size (w.heap.size + 1) A1 A2 n1 n2 c1 c2 x y W0 W → _) := Lib.hid fun W h => h.s10
  generalize rightF pL tR x = r at *
  generalize sameF x y = q at *
  clear HS1 HS2 HW
  go_enter Try.func3, Try.ntmps3
  go_wp2_with fail
  generalize hw : (w.alloc _).alloc _ = W1 at *
  clear hw
  subst hW0
  refine CA.out.mono ?_
  rintro e w1 ⟨rfl, b1⟩
  have X := Lib.hid (HKp.out _ _ HX0.out b1)
  obtain ⟨⟨d0, d1, d2, d3, d4⟩, e0, e1, e2, e3, e4⟩ := X.out.s10
  clear b1 CA HX0
  go_wp2_with fail
  have X2 := Lib.hid (HKp.out _ _ X.out ((Below.refl _ w1).alloc (Nat.le_refl _) (.cells #[.int .i64 x.kind, .string x.sp, .string x.lo, .slice A1 n1 c1, .string x.tx, .int .i64 y.kind, .string y.sp, .string y.lo, .slice A2 n2 c2, .string y.tx] 26)))
  refine (CF.out _ _ X2.out (nblk w1 26 _)).mono ?_
  rintro e w2 ⟨bf, rfl, hf, rfl⟩
  clear X d0 d1 d2 d3 d4 e0 e1 e2 e3 e4
  cases bf with
  | false =>
    have CA2 := Lib.hid (HAw.out _ X2.out)
    clear hf
    go_wp2_with fail
    refine CA2.out.mono ?_
    rintro e w2 ⟨rfl, b2⟩
    have X3 := Lib.hid (HKp.out _ _ X2.out b2)
    clear b2 CA2
    go_wp2
    go_ret
    exact ⟨rfl, HB0.out.trans (X3.out.bel.mono HB0.out.size)⟩
  | true =>
    have FX : FewE x := (hf rfl).2 0 x rfl
    have FY : FewE y := (hf rfl).2 1 y rfl
    have D9 := Lib.hid (fun W h => C9.out W FX h)
    have D10 := Lib.hid (fun W h => C10.out W FX h)
    have D11 := Lib.hid (fun W h => C11.out W FX FY h)
    have D13 := Lib.hid (fun W h => C13.out W FX h)
    clear hf FX FY C9 C10 C11 C13 CF
    generalize w1.alloc (.cells #[.int .i64 x.kind, .string x.sp, .string x.lo, .slice A1 n1 c1, .string x.tx, .int .i64 y.kind, .string y.sp, .string y.lo, .slice A2 n2 c2, .string y.tx] 26) = V at *
    have X := Lib.hid (HKp.out _ _ X2.out (Below.refl _ V).drew)
    clear X2
    obtain ⟨xk, xs, xl, xa, xt⟩ := x
    obtain ⟨yk, ys, yl, ya, yt⟩ := y
    dsimp only at *
    have q1 : (r == r) = true := beq_self_eq_true _
    have q2 : (q == q) = true := beq_self_eq_true _
    go_wp2_with fail
    go_region_held3 (fun W => (W.cell? ⟨w.heap.size, 0, none⟩ = some (.int .i64 xk) ∧ W.cell? ⟨w.heap.size, 1, none⟩ = some (.string xs) ∧ W.cell? ⟨w.heap.size, 2, none⟩ = some (.string xl) ∧ W.cell? ⟨w.heap.size, 3, none⟩ = some (.slice A1 n1 c1) ∧ W.cell? ⟨w.heap.size, 4, none⟩ = some (.string xt)) ∧ W.cell? ⟨w.heap.size + 1, 0, none⟩ = some (.int .i64 yk) ∧ W.cell? ⟨w.heap.size + 1, 1, none⟩ = some (.string ys) ∧ W.cell? ⟨w.heap.size + 1, 2, none⟩ = some (.string yl) ∧ W.cell? ⟨w.heap.size + 1, 3, none⟩ = some (.slice A2 n2 c2) ∧ W.cell? ⟨w.heap.size + 1, 4, none⟩ = some (.string yt))
      (first | with_reducible exact X.out.s10 | fail)
      (first
        | (go_at_call 9; refine (D9.out _ X.out).mono ?_; rintro e w3 ⟨rfl, b3⟩; replace X := Lib.hid (HKp.out _ _ X.out b3); clear b3)
        | (go_at_call 10; refine (D10.out _ X.out).mono ?_; rintro e w3 ⟨rfl, b3⟩; replace X := Lib.hid (HKp.out _ _ X.out b3); clear b3)
        | (go_at_call 12; refine (C12.out _ X.out).mono ?_; rintro e w3 ⟨rfl, b3⟩; replace X := Lib.hid (HKp.out _ _ X.out b3); clear b3)
        | (go_at_call 11; with_reducible refine (D11.out _ X.out).mono ?_; rintro e w3 ⟨rfl, b3⟩; replace X := Lib.hid (HKp.out _ _ X.out b3); clear b3)
        | (go_at_call 11; refine (D13.out _ X.out).mono ?_; rintro e w3 ⟨rfl, b3⟩; replace X := Lib.hid (HKp.out _ _ X.out b3); clear b3)
        | fail)
    all_goals
      go_wp2
      go_ret
      exact ⟨rfl, HB0.out.trans (X.out.bel.mono HB0.out.size)⟩
end Go.Proofs.Ytggeonoofjeecaa.Ev
