/-
  Merged by program out of the texts WdMeas, WdTop, WdMap, WdNamed, WdAttr of one seat.
-/
import Derived.Test.YtaoggciebkaakaaG08
import Derived.Test.YtaoggciebkaakaaG03
import Derived.Test.YtaoggciebkaakaaG01
import Derived.Deep.RegionHeld3
import Derived.Deep.RegionLaw
import Derived.WideKeyEntry
import Derived.DeepKeys4
import Derived.Laws.OwnMore

/- word.measure: how many are open behind these events, and whether they are a beginning. -/
set_option linter.unusedSimpArgs false
set_option linter.unusedVariables false
namespace Go.Proofs.Ytaoggciebkaakaa.Ev
open Go.RowKit

/-- In a region that draws: an operation without a world, whose guard lets it run, is taken first. -/
theorem wpAny_yes {P : Program} {md : Region.Mode} {ops : Array Oper} {Q : Exit → Act → World → Prop} (i : Nat) (d : Tmp) (v : Value) {oi : Oper} {fuel : Nat} {listed : Array Bool} {a : Act} {w : World} (hi : ops[i]? = some oi)
    (hs : Region.noSelect ops = true) (hf : Region.free md ops listed i = true) (hr : (Region.ready md ops listed).contains i = true)
    (hQ : ∀ c a w, Q (.panic c) (a.put oi.dst v) w → Q (.panic c) a w) (hd : oi.dst = some d) (hw : Region.wanted oi (yielded ops a.tmps) = true) (hy : ∀ w, (execOp a.eval oi).run P w = .ok (.value v) w)
    (h : wpAny P md ops Q fuel (listed.setIfInBounds i true) { a with tmps := a.tmps.setIfInBounds d v } w) : wpAny P md ops Q (fuel + 1) listed a w :=
  wpAny_take hi hs hf hr hQ (.inl ⟨hw, hy⟩) (by unfold Act.put; rw [hd]; exact h)
/-- In a region that draws: an operation whose guard does not let it run is passed over. -/
theorem wpAny_no {P : Program} {md : Region.Mode} {ops : Array Oper} {Q : Exit → Act → World → Prop} (i : Nat) (d : Tmp) {oi : Oper} {fuel : Nat} {listed : Array Bool} {a : Act} {w : World} (hi : ops[i]? = some oi)
    (hs : Region.noSelect ops = true) (hf : Region.free md ops listed i = true) (hr : (Region.ready md ops listed).contains i = true)
    (hQ : ∀ c a w, Q (.panic c) (a.put oi.dst undef) w → Q (.panic c) a w) (hd : oi.dst = some d) (hw : Region.wanted oi (yielded ops a.tmps) = false)
    (h : wpAny P md ops Q fuel (listed.setIfInBounds i true) { a with tmps := a.tmps.setIfInBounds d undef } w) : wpAny P md ops Q (fuel + 1) listed a w :=
  wpAny_take hi hs hf hr hQ (.inr ⟨hw, rfl⟩) (by unfold Act.put; rw [hd]; exact h)
def msV (F : Int) : Value := .tuple #[.int .i64 (if F < 0 then 0 else F), .bool (decide (0 ≤ F))]
def EvP (pL tR : ByteArray → Bool) : Prop := ∀ (A : Option Addr) (n c : Nat) (x : RE) (W : World), AttsIn W A n c x.ats → RgB x → Calls Try.prog 41 #[.agg #[.int .i64 x.kind, .string x.sp, .string x.lo, .slice A n c, .string x.tx]] W fun e w' => e = .returned (.bool (rightF pL tR x)) ∧ Below W.heap.size W w'
theorem ms_no {F : Int} (h : F = -1) : msV F = .tuple #[.int .i64 0, .bool false] := by rw [h]; rfl
theorem ms_yes {F : Int} {m : Nat} (h : F = (m : Int)) : msV F = .tuple #[.int .i64 m, .bool true] := by
  unfold msV
  rw [h, if_neg (by omega), decide_eq_true (by omega)]
theorem dep_start {R : RE → Bool} (l : List RE) : depR R true 0 0 l = depR R (decide ((0 : Nat) = 0)) (prevK l 0) ((0 : Nat) : Int) (l.drop 0) := by
  cases l with
  | nil => rfl
  | cons x r =>
    have h := dep_step (R := R) (l := x :: r) (k := 0) (x := x) rfl true 0 0
    rw [List.drop_zero] at h ⊢
    rw [h]
    have h' := dep_step (R := R) (l := x :: r) (k := 0) (x := x) rfl true (prevK (x :: r) 0) 0
    rw [List.drop_zero] at h'
    show _ = depR _ true _ 0 _
    rw [h']
    by_cases q : R x = false ∨ ((0 : Int) == 0) ≠ true ∨ (true = true ∧ x.kind ≠ 1)
    · rw [if_pos q, if_pos q]
    · have k1 : x.kind = 1 := Decidable.not_not.1 fun e => q (.inr (.inr ⟨rfl, e⟩))
      have e1 : ¬ (x.kind = 2 ∧ (0 : Int) = 2) := by rintro ⟨h, _⟩; omega
      have e2 : ¬ (x.kind = 2 ∧ prevK (x :: r) 0 = 2) := by rintro ⟨h, _⟩; omega
      rw [if_neg q, if_neg q, if_neg e1, if_neg e2]
/-- One event more: as follows and Right tell. -/
theorem dep_fol {R : RE → Bool} {l : List RE} {k m : Nat} {x : RE} (hx : l[k]? = some x) (hm : m ≤ 64) (hkm : k = 0 → m = 0) (hR : R x = true → x.kind = 1 ∨ x.kind = 2 ∨ x.kind = 3) :
    (folF (decide (k = 0)) (prevK l k) m x.kind = false ∨ R x = false → depR R (decide (k = 0)) (prevK l k) m (l.drop k) = -1) ∧
    (folF (decide (k = 0)) (prevK l k) m x.kind = true → R x = true →
      (x.kind = 1 ∧ m + 1 ≤ 64 ∧ depR R (decide (k = 0)) (prevK l k) m (l.drop k) = depR R (decide (k + 1 = 0)) (prevK l (k + 1)) ((m + 1 : Nat) : Int) (l.drop (k + 1))) ∨
      (x.kind = 2 ∧ depR R (decide (k = 0)) (prevK l k) m (l.drop k) = depR R (decide (k + 1 = 0)) (prevK l (k + 1)) (m : Int) (l.drop (k + 1))) ∨
      (x.kind = 3 ∧ ∃ q : Nat, q + 1 = m ∧ depR R (decide (k = 0)) (prevK l k) m (l.drop k) = depR R (decide (k + 1 = 0)) (prevK l (k + 1)) (q : Int) (l.drop (k + 1)))) := by
  rw [dep_step hx]
  constructor
  · intro h
    cases hr : R x with
    | false => rw [if_pos (.inl rfl)]
    | true =>
      have hf : folF (decide (k = 0)) (prevK l k) m x.kind = false := by
        rcases h with h | h
        · exact h
        · rw [hr] at h; cases h
      by_cases h0 : k = 0
      · rw [if_pos]
        right; right
        refine ⟨decide_eq_true h0, fun e => ?_⟩
        unfold folF at hf
        rw [decide_eq_true h0, if_pos rfl, e] at hf
        cases hf
      · unfold folF at hf
        rw [decide_eq_false h0, if_neg (by decide)] at hf
        by_cases hm0 : m = 0
        · rw [if_pos]
          right; left
          rw [decide_eq_false h0, hm0]
          decide
        · have m0 : decide ((0 : Int) < (m : Int)) = true := decide_eq_true (by omega)
          rw [if_neg]
          · rcases hR hr with k1 | k2 | k3
            · rw [if_pos k1, m0] at hf
              have : ¬ ((m : Int) < 64) := by simpa using hf
              rw [if_neg (by rw [k1]; rintro ⟨h, _⟩; cases h), if_pos]
              rw [if_pos k1]
              omega
            · rw [if_neg (by omega), if_pos k2, m0] at hf
              have : prevK l k = 2 := by simpa using hf
              rw [if_pos ⟨k2, this⟩]
            · rw [if_neg (by omega), if_neg (by omega), m0] at hf
              cases hf
          · rw [decide_eq_false h0]
            rintro (g | g | g)
            · cases g
            · exact g (by rw [beq_eq_false_iff_ne]; omega)
            · cases g.1
  · intro hf hr
    have hq : ¬ (R x = false ∨ ((m : Int) == 0) ≠ decide (k = 0) ∨ (decide (k = 0) = true ∧ x.kind ≠ 1)) := by
      rw [hr]
      unfold folF at hf
      by_cases h0 : k = 0
      · rw [decide_eq_true h0, if_pos rfl] at hf
        have k1 : x.kind = 1 := by simpa using hf
        rw [decide_eq_true h0, hkm h0, k1]
        rintro (g | g | g)
        · cases g
        · exact g rfl
        · exact g.2 rfl
      · rw [decide_eq_false h0, if_neg (by decide)] at hf
        rw [decide_eq_false h0]
        have m0 : (0 : Int) < (m : Int) := by
          by_cases m0 : (0 : Int) < (m : Int)
          · exact m0
          · rw [decide_eq_false m0] at hf
            split at hf
            · cases hf
            · split at hf
              · cases hf
              · cases hf
        rintro (g | g | g)
        · cases g
        · exact g (by rw [beq_eq_false_iff_ne]; omega)
        · cases g.1
    rw [if_neg hq]
    unfold folF at hf
    rcases hR hr with k1 | k2 | k3
    · left
      have hlt : m + 1 ≤ 64 := by
        by_cases h0 : k = 0
        · rw [hkm h0]; omega
        · rw [decide_eq_false h0, if_neg (by decide), if_pos k1] at hf
          simp only [Bool.and_eq_true, decide_eq_true_eq] at hf
          omega
      refine ⟨k1, hlt, ?_⟩
      rw [if_neg (by rw [k1]; rintro ⟨h, _⟩; cases h), if_neg (by rw [if_pos k1]; omega), if_pos k1]
      rfl
    · right; left
      refine ⟨k2, ?_⟩
      have hp : ¬ (x.kind = 2 ∧ prevK l k = 2) := by
        rintro ⟨_, hp⟩
        by_cases h0 : k = 0
        · rw [decide_eq_true h0, if_pos rfl, k2] at hf
          cases hf
        · rw [decide_eq_false h0, if_neg (by decide), if_neg (by omega), if_pos k2, hp] at hf
          simp at hf
      have e1 : ¬ x.kind = 1 := by omega
      have e3 : ¬ x.kind = 3 := by omega
      rw [if_neg hp, if_neg e1, if_neg e3, if_neg (by omega)]
    · right; right
      have e1 : ¬ x.kind = 1 := by omega
      have m0 : 0 < m := by
        by_cases h0 : k = 0
        · rw [decide_eq_true h0, if_pos rfl, k3] at hf
          cases hf
        · rw [decide_eq_false h0, if_neg (by decide), if_neg e1, if_neg (by omega)] at hf
          have := of_decide_eq_true hf
          omega
      refine ⟨k3, m - 1, by omega, ?_⟩
      rw [if_neg (by rw [k3]; rintro ⟨h, _⟩; cases h), if_neg e1, if_pos k3, if_neg (by omega)]
      congr 1
      omega
/-- The element at hand in its box; what stands ahead of it; the attributes. -/
structure Mx (bx : Nat) (A Aa : Option Addr) (na ca k : Nat) (p : Int) (x : RE) (W0 W : World) : Prop where
  a : W.heap[bx]? = some (.cells #[.int .i64 x.kind, .string x.sp, .string x.lo, .slice Aa na ca, .string x.tx] 38 (0, 0))
  ta : AttsIn W Aa na ca x.ats
  pv : 0 < k → ∃ b off, A = some ⟨b, off, none⟩ ∧ b < W.heap.size ∧ W.cell? ⟨b, off + (k - 1) * 5, none⟩ = some (.int .i64 p)
  bel : Below W0.heap.size W0 W
section
variable {bx : Nat} {A Aa : Option Addr} {na ca k : Nat} {p : Int} {x : RE} {W0 W W' : World}
theorem Mx.keep (h : Mx bx A Aa na ca k p x W0 W) (hb : Below W.heap.size W W') : Mx bx A Aa na ca k p x W0 W' :=
  ⟨(hb.block _ (Array.getElem?_eq_some_iff.1 h.a).1).trans h.a, h.ta.keep hb, fun hk => by
    obtain ⟨b, off, e, hlt, hc⟩ := h.pv hk
    exact ⟨b, off, e, Nat.lt_of_lt_of_le hlt hb.size, (hb.cell (p := ⟨b, off + (k - 1) * 5, none⟩) hlt).trans hc⟩, h.bel.trans (hb.mono h.bel.size)⟩
end
set_option maxHeartbeats 8000000 in
set_option maxRecDepth 100000 in
theorem measure_any (pL tR : ByteArray → Bool) (C : Hid (EvP pL tR)) (A : Option Addr) (n c : Nat) (l : List RE) (w : World) (T : EvsIn w A n c l) (hn : n ≤ 100000) (hF : ∀ x ∈ l, RgB x) :
    Calls Try.prog 35 #[.slice A n c] w fun e w' => e = .returned (msV (depF pL tR l)) ∧ Below w.heap.size w w' := by
  have HT := Lib.hid T
  have HFw := Lib.hid hF
  have hcap := T.cap
  unfold maxLen at hcap
  clear T hF
  obtain ⟨F, hF⟩ : ∃ F, F = depF pL tR l := ⟨_, rfl⟩
  rw [← hF]
  have H0 : Hid (F = depR (rightF pL tR) (decide ((0 : Nat) = 0)) (prevK l 0) ((0 : Nat) : Int) (l.drop 0)) := Lib.hid (hF.trans (dep_start l))
  clear hF
  go_enter Try.func35, Try.ntmps35
  go_wp2_with fail
  go_loopw [4, 9] (fun vn i wr => DpRel F (rightF pL tR) l n w vn i wr) (fun _ i _ => n - (intOf i).toNat)
  case atStart => exact ⟨0, 0, rfl, rfl, Nat.zero_le _, Nat.zero_le _, fun _ => rfl, Lib.hid (Below.refl _ _), H0⟩
  case round =>
    clear H0
    obtain ⟨k, m, rfl, rfl, hk, hm, hkm, HR, HA⟩ := hrel
    by_cases hlt : k < n
    · have k1 : (k : Int) < (n : Int) := by omega
      have k2 : (0 : Int) ≤ (k : Int) := by omega
      have k3 : (k : Int) ≤ (c : Int) := by omega
      have hkl : k < l.length := by rw [← HT.out.len]; exact hlt
      have hx := List.getElem?_eq_getElem hkl
      obtain ⟨b, off, Aa, na, ca, hA, hbl, TA, c0, c1, c2, c3, c4⟩ := (HT.out.rd.keep HR.out) k _ hx
      have hrb := HFw.out _ (List.getElem_mem hkl)
      have HP : Hid (0 < k → ∃ b' off', A = some ⟨b', off', none⟩ ∧ b' < wr.heap.size ∧ wr.cell? ⟨b', off' + (k - 1) * 5, none⟩ = some (.int .i64 (prevK l k))) := Lib.hid fun h0 => by
        have hy := List.getElem?_eq_getElem (show k - 1 < l.length by omega)
        obtain ⟨b', off', _, _, _, e, hlt', _, q0, _⟩ := (HT.out.rd.keep HR.out) (k - 1) _ hy
        refine ⟨b', off', e, hlt', ?_⟩
        rw [q0]
        unfold prevK
        rw [hy]
        rfl
      have HD := Lib.hid (dep_fol (R := rightF pL tR) hx hm hkm right_kind)
      generalize l[k] = x at *
      subst hA
      have HX0 : Hid (Mx wr.heap.size (some ⟨b, off, none⟩) Aa na ca k (prevK l k) x w (wr.alloc (.cells #[.int .i64 x.kind, .string x.sp, .string x.lo, .slice Aa na ca, .string x.tx] 38))) := Lib.hid ⟨nblk wr 38 _, TA.keep ((Below.refl _ wr).alloc (Nat.le_refl _) _), fun h0 => by
        obtain ⟨b', off', e, hlt', q⟩ := HP.out h0
        exact ⟨b', off', e, Nat.lt_of_lt_of_le hlt' (by simp), by rw [World.cell?_alloc_lt _ _ _ (by exact hlt')]; exact q⟩, HR.out.alloc HR.out.size _⟩
      have C35 : Hid (∀ W, Mx wr.heap.size (some ⟨b, off, none⟩) Aa na ca k (prevK l k) x w W → Calls Try.prog 40 #[.slice (some ⟨b, off, none⟩) k c, .int .i64 (m : Int), .agg #[.int .i64 x.kind, .string x.sp, .string x.lo, .slice Aa na ca, .string x.tx]] W fun e w' => e = .returned (.bool (folF (decide (k = 0)) (prevK l k) m x.kind)) ∧ Below W.heap.size W w') := Lib.hid fun W h => follows_any _ k c _ _ Aa na ca _ _ _ _ W (by omega) h.pv
      have C9 : Hid (∀ W, Mx wr.heap.size (some ⟨b, off, none⟩) Aa na ca k (prevK l k) x w W → Calls Try.prog 41 #[.agg #[.int .i64 x.kind, .string x.sp, .string x.lo, .slice Aa na ca, .string x.tx]] W fun e w' => e = .returned (.bool (rightF pL tR x)) ∧ Below W.heap.size W w') := Lib.hid fun W h => C.out Aa na ca x W h.ta hrb
      have HK : Hid (∀ W W', Mx wr.heap.size (some ⟨b, off, none⟩) Aa na ca k (prevK l k) x w W → Below W.heap.size W W' → Mx wr.heap.size (some ⟨b, off, none⟩) Aa na ca k (prevK l k) x w W') := Lib.hid fun W W' h hb => h.keep hb
      clear hx hkl hbl TA HP hrb HR
      generalize folF (decide (k = 0)) (prevK l k) m x.kind = f at *
      generalize rightF pL tR x = r at *
      obtain ⟨kind, sp, lo, ats, tx⟩ := x
      dsimp only at *
      have HDr : Hid (F = -1 ∨ (f = true ∧ r = true)) := Lib.hid (by
        cases f
        · exact .inl (HA.out.trans (HD.out.1 (.inl rfl)))
        · cases r
          · exact .inl (HA.out.trans (HD.out.1 (.inr rfl)))
          · exact .inr ⟨rfl, rfl⟩)
      cases f with
      | false =>
        have HE : Hid (msV F = .tuple #[.int .i64 0, .bool false]) := Lib.hid (ms_no (HA.out.trans (HD.out.1 (.inl rfl))))
        clear HD HDr HA C9
        go_wp2_with fail
        clear c0 c1 c2 c3 c4
        generalize wr.alloc (.cells #[.int .i64 kind, .string sp, .string lo, .slice Aa na ca, .string tx] 38) = V at *
        generalize wr.heap.size = bx at *
        have X := Lib.hid (HK.out _ _ HX0.out (Below.refl _ V).drew)
        clear HX0
        have hX := X.out
        obtain ⟨d0, d1, d2, d3, d4⟩ := cells5 X.out.a
        refine wp_region_any (by kernel_rfl) ?_
        change wpAny _ _ _ _ _ _ _ (World.drew _)
        refine wpAny_yes 0 14 (.slice (some ⟨b, off, none⟩) n c) rfl (by kernel_rfl) (by kernel_rfl) (by kernel_rfl) (fun _ _ _ h => h) rfl (by rfl) (fun w => by go_simp) ?_
        simp only [List.setIfInBounds_toArray, List.set_cons_zero, List.set_cons_succ]
        refine wpAny_yes 1 15 (.int .i64 k) rfl (by kernel_rfl) (by kernel_rfl) (by kernel_rfl) (fun _ _ _ h => h) rfl (by rfl) (fun w => by go_simp) ?_
        simp only [List.setIfInBounds_toArray, List.set_cons_zero, List.set_cons_succ]
        refine wpAny_yes 3 17 (.int .i64 m) rfl (by kernel_rfl) (by kernel_rfl) (by kernel_rfl) (fun _ _ _ h => h) rfl (by rfl) (fun w => by go_simp) ?_
        simp only [List.setIfInBounds_toArray, List.set_cons_zero, List.set_cons_succ]
        refine wpAny_yes 2 16 (.slice (some ⟨b, off, none⟩) k c) rfl (by kernel_rfl) (by kernel_rfl) (by kernel_rfl) (fun _ _ _ h => h) rfl (by rfl) (fun w => by go_simp) ?_
        simp only [List.setIfInBounds_toArray, List.set_cons_zero, List.set_cons_succ]
        refine wpAny_ready (rs := [4]) (by kernel_rfl) (by simp) ?_
        refine AllReady.cons rfl (fun K hK => ?_) AllReady.nil
        go_simp
        refine hK _ _ ?_
        refine wpAny_ready (rs := [5]) (by kernel_rfl) (by simp) ?_
        refine AllReady.cons rfl (fun K hK => ?_) AllReady.nil
        go_simp
        go_wp2_with (go_at_call 40; refine (C35.out _ hX).mono ?_; rintro e w3 ⟨rfl, b3⟩)
        replace X := Lib.hid (HK.out _ _ X.out b3)
        clear b3 d0 d1 d2 d3 d4 hX
        refine wpAny_yes 6 20 (.bool true) rfl (by kernel_rfl) (by kernel_rfl) (by kernel_rfl) (fun _ _ _ h => h) rfl (by rfl) (fun w => by go_simp) ?_
        simp only [List.setIfInBounds_toArray, List.set_cons_zero, List.set_cons_succ]
        refine wpAny_yes 7 21 (.bool true) rfl (by kernel_rfl) (by kernel_rfl) (by kernel_rfl) (fun _ _ _ h => h) rfl (by rfl) (fun w => by go_simp) ?_
        simp only [List.setIfInBounds_toArray, List.set_cons_zero, List.set_cons_succ]
        refine wpAny_no 8 22 rfl (by kernel_rfl) (by kernel_rfl) (by kernel_rfl) (fun _ _ _ h => h) rfl (by rfl) ?_
        simp only [List.setIfInBounds_toArray, List.set_cons_zero, List.set_cons_succ]
        refine wpAny_no 9 23 rfl (by kernel_rfl) (by kernel_rfl) (by kernel_rfl) (fun _ _ _ h => h) rfl (by rfl) ?_
        simp only [List.setIfInBounds_toArray, List.set_cons_zero, List.set_cons_succ]
        refine wpAny_no 10 24 rfl (by kernel_rfl) (by kernel_rfl) (by kernel_rfl) (fun _ _ _ h => h) rfl (by rfl) ?_
        simp only [List.setIfInBounds_toArray, List.set_cons_zero, List.set_cons_succ]
        refine wpAny_yes 11 25 (.bool true) rfl (by kernel_rfl) (by kernel_rfl) (by kernel_rfl) (fun _ _ _ h => h) rfl (by rfl) (fun w => by go_simp) ?_
        simp only [List.setIfInBounds_toArray, List.set_cons_zero, List.set_cons_succ]
        refine wpAny_done (by kernel_rfl) ?_ _
        go_wp2
        go_ret2
        exact ⟨by rw [HE.out] <;> rfl, X.out.bel⟩
      | true =>
        cases r with
        | false =>
          have HE : Hid (msV F = .tuple #[.int .i64 0, .bool false]) := Lib.hid (ms_no (HA.out.trans (HD.out.1 (.inr rfl))))
          clear HD HDr HA
          go_wp2_with fail
          clear c0 c1 c2 c3 c4
          generalize wr.alloc (.cells #[.int .i64 kind, .string sp, .string lo, .slice Aa na ca, .string tx] 38) = V at *
          generalize wr.heap.size = bx at *
          have X := Lib.hid (HK.out _ _ HX0.out (Below.refl _ V).drew)
          clear HX0
          go_region_held3 (fun W => W.cell? ⟨bx, 0, none⟩ = some (.int .i64 kind) ∧ W.cell? ⟨bx, 1, none⟩ = some (.string sp) ∧ W.cell? ⟨bx, 2, none⟩ = some (.string lo) ∧ W.cell? ⟨bx, 3, none⟩ = some (.slice Aa na ca) ∧ W.cell? ⟨bx, 4, none⟩ = some (.string tx))
            (first | with_reducible exact cells5 X.out.a | fail)
            (first
              | (go_at_call 40; refine (C35.out _ X.out).mono ?_; rintro e w3 ⟨rfl, b3⟩; replace X := Lib.hid (HK.out _ _ X.out b3); clear b3)
              | (go_at_call 41; refine (C9.out _ X.out).mono ?_; rintro e w3 ⟨rfl, b3⟩; replace X := Lib.hid (HK.out _ _ X.out b3); clear b3)
              | fail)
          all_goals
            go_wp2
            go_ret2
            exact ⟨by rw [HE.out] <;> rfl, X.out.bel⟩
        | true =>
          obtain ⟨q, kq, hq, HA2⟩ : ∃ q : Nat, (kind = 1 ∧ m + 1 = q ∨ kind = 2 ∧ m = q ∨ kind = 3 ∧ q + 1 = m) ∧ q ≤ 64 ∧ Hid (F = depR (rightF pL tR) (decide (k + 1 = 0)) (prevK l (k + 1)) (q : Int) (l.drop (k + 1))) := by
            rcases HD.out.2 rfl rfl with ⟨a1, a2, a3⟩ | ⟨a1, a3⟩ | ⟨a1, q, a2, a3⟩
            · exact ⟨m + 1, .inl ⟨a1, rfl⟩, a2, Lib.hid (HA.out.trans a3)⟩
            · exact ⟨m, .inr (.inl ⟨a1, rfl⟩), hm, Lib.hid (HA.out.trans a3)⟩
            · exact ⟨q, .inr (.inr ⟨a1, a2⟩), by omega, Lib.hid (HA.out.trans a3)⟩
          clear HD HDr HA
          have HQ := Lib.hid kq
          clear kq
          go_wp2_with fail
          clear c0 c1 c2 c3 c4
          generalize wr.alloc (.cells #[.int .i64 kind, .string sp, .string lo, .slice Aa na ca, .string tx] 38) = V at *
          generalize wr.heap.size = bx at *
          have X := Lib.hid (HK.out _ _ HX0.out (Below.refl _ V).drew)
          clear HX0
          go_region_held3 (fun W => W.cell? ⟨bx, 0, none⟩ = some (.int .i64 kind) ∧ W.cell? ⟨bx, 1, none⟩ = some (.string sp) ∧ W.cell? ⟨bx, 2, none⟩ = some (.string lo) ∧ W.cell? ⟨bx, 3, none⟩ = some (.slice Aa na ca) ∧ W.cell? ⟨bx, 4, none⟩ = some (.string tx))
            (first | with_reducible exact cells5 X.out.a | fail)
            (first
              | (go_at_call 40; refine (C35.out _ X.out).mono ?_; rintro e w3 ⟨rfl, b3⟩; replace X := Lib.hid (HK.out _ _ X.out b3); clear b3)
              | (go_at_call 41; refine (C9.out _ X.out).mono ?_; rintro e w3 ⟨rfl, b3⟩; replace X := Lib.hid (HK.out _ _ X.out b3); clear b3)
              | fail)
          all_goals
            obtain ⟨d0, d1, d2, d3, d4⟩ := cells5 X.out.a
            have HB := Lib.hid X.out.bel
            clear d1 d2 d3 d4 HK C9 C35 X
            rcases HQ.out with ⟨rfl, hq2⟩ | ⟨rfl, hq2⟩ | ⟨rfl, hq2⟩
          all_goals
            have HQ2 := Lib.hid hq2
            have qs : IntKind.i64.wrap ((m : Int) - 1) = (m : Int) - 1 := by rw [IntWalk.i64_in _ (by omega)]
            clear hq2 HQ
            go_wp2
            go_roundw
            case rel => exact ⟨k + 1, q, by go_num, by (first | (rw [← HQ2.out]; go_num) | (congr 1; have := HQ2.out; omega)), by omega, hq, fun h => by omega, HB, HA2⟩
            case measure => simp only [intOf]; omega
    · have k1 : ¬ (k : Int) < (n : Int) := by omega
      have HE : Hid (msV F = .tuple #[.int .i64 m, .bool true]) := Lib.hid (ms_yes (by rw [HA.out, List.drop_of_length_le (by rw [← HT.out.len]; omega)]; rfl))
      clear HA
      go_wp2
      go_ret2
      exact ⟨by rw [HE.out] <;> rfl, HR.out⟩
end Go.Proofs.Ytaoggciebkaakaa.Ev

/- word.Begins, word.Depth, word.Whole. -/
set_option linter.unusedSimpArgs false
set_option linter.unusedVariables false
namespace Go.Proofs.Ytaoggciebkaakaa.Ev
open Go.RowKit

def MsC (pL tR : ByteArray → Bool) : Prop := ∀ (A : Option Addr) (n c : Nat) (l : List RE) (W : World), EvsIn W A n c l → n ≤ 100000 → (∀ x ∈ l, RgB x) → Calls Try.prog 35 #[.slice A n c] W fun e w' => e = .returned (msV (depF pL tR l)) ∧ Below W.heap.size W w'
section
variable {pL tR : ByteArray → Bool}
set_option maxRecDepth 100000 in
theorem whole_c (C : Hid (MsC pL tR)) (A : Option Addr) (n c : Nat) (l : List RE) (w : World) (T : EvsIn w A n c l) (hn : n ≤ 100000) (hB : ∀ x ∈ l, RgB x) : Calls Try.prog 26 #[.slice A n c] w fun e w' => e = .returned (.bool (decide (depF pL tR l = 0 ∧ 0 < n))) ∧ Below w.heap.size w w' := by
  have CM := C.out A n c l w T hn hB
  unfold msV at CM
  have HM := Lib.hid CM
  clear CM C T hB
  generalize depF pL tR l = F at *
  by_cases h0 : 0 ≤ F
  · rw [decide_eq_true h0, if_neg (by omega)] at HM
    by_cases h1 : F = 0
    · have e1 : (F == 0) = true := by simpa using h1
      have HE : Hid (decide (F = 0 ∧ 0 < n) = decide ((0 : Int) < (n : Int))) := Lib.hid (by
        by_cases hz : 0 < n
        · rw [decide_eq_true ⟨h1, hz⟩, decide_eq_true (by omega)]
        · rw [decide_eq_false (fun h => hz h.2), decide_eq_false (by omega)])
      rw [HE.out]
      clear HE h0
      subst h1
      by_cases hz : (0 : Int) < (n : Int)
      · have hz' : decide ((0 : Int) < (n : Int)) = true := decide_eq_true hz
        rw [hz']
        have HN : Hid (decide (0 < n) = true) := Lib.hid (decide_eq_true (by omega))
        go_enter Try.func26, Try.ntmps26
        go_wp2_with fail
        refine HM.out.mono ?_
        rintro e w1 ⟨rfl, b1⟩
        go_wp2
        go_ret
        exact ⟨by show Ending.returned (.bool (decide (0 < n))) = _; rw [HN.out], b1⟩
      · have hz' : decide ((0 : Int) < (n : Int)) = false := decide_eq_false hz
        rw [hz']
        have HN : Hid (decide (0 < n) = false) := Lib.hid (decide_eq_false (by omega))
        go_enter Try.func26, Try.ntmps26
        go_wp2_with fail
        refine HM.out.mono ?_
        rintro e w1 ⟨rfl, b1⟩
        go_wp2
        go_ret
        exact ⟨by show Ending.returned (.bool (decide (0 < n))) = _; rw [HN.out], b1⟩
    · have e1 : (F == 0) = false := by simpa using h1
      rw [decide_eq_false (fun h => h1 h.1)]
      clear h0 h1
      go_enter Try.func26, Try.ntmps26
      go_wp2_with fail
      refine HM.out.mono ?_
      rintro e w1 ⟨rfl, b1⟩
      go_wp2
      go_ret
      exact ⟨rfl, b1⟩
  · rw [decide_eq_false h0, if_pos (by omega)] at HM
    rw [decide_eq_false (fun h => by omega)]
    clear h0
    go_enter Try.func26, Try.ntmps26
    go_wp2_with fail
    refine HM.out.mono ?_
    rintro e w1 ⟨rfl, b1⟩
    go_wp2
    go_ret
    exact ⟨rfl, b1⟩
end
end Go.Proofs.Ytaoggciebkaakaa.Ev

/- The map of names that were met: look-up, entry, store (after round 7). -/
set_option linter.unusedSimpArgs false
set_option linter.unusedVariables false
namespace Go.Proofs.Ytaoggciebkaakaa.Ev
open Go.RowKit

open Go.ChangeMaps
def Lim : Nat := 140737488351232
theorem Try.laidOut : laidOutB Try.prog = true := by kernel_rfl
theorem Try.row26 : (26 : TypeId) < Try.prog.types.size := of_decide_eq_true (by kernel_rfl)
theorem Try.wideK : (match Try.prog.underlying 26 with | some (.array _ _) | some (.struct _) => true | _ => false) = true := by rw [Try.underlying26]
set_option maxRecDepth 100000 in
theorem lawK : WideMaps.KeyLaw Try.prog 26 := deep_law_laid Try.laidOut (m := 2) (by omega) Try.row26 (by kernel_rfl) Try.wideK
theorem Try.keyType26 : Try.prog.keyType 26 = true := by kernel_rfl
theorem Try.sizeT : Try.prog.types.size + 1 = 111 + 1 + 1 := by kernel_rfl
def kv (n : P2) : Value := .agg #[.string n.1, .string n.2]
theorem lits_str (d : Nat) (s : ByteArray) (h : s.size ≤ maxLen) : Try.prog.keyLits (d + 1) 9 [.string s] = some [.string s.data.toList] := by
  unfold Program.keyLits
  rw [Try.underlying9]
  simp only [h, if_true]
theorem lits_struct (P : Program) (d : Nat) (t : TypeId) (fs : Array Field) (cs : List Value) (h : P.underlying t = some (.struct fs)) (hl : cs.length = P.cellsOf t) (hn : fs.all (·.name != "_") = true) :
    P.keyLits (d + 1) t cs = (fs.toList.mapM fun f => P.keyLits d f.type ((cs.drop f.offset).take (P.cellsOf f.type))).map List.flatten := by
  conv => lhs; unfold Program.keyLits
  rw [h]
  simp only [hl, hn, and_self, if_true]
theorem lits_name (d : Nat) (a b : ByteArray) (g1 : a.size ≤ maxLen) (g2 : b.size ≤ maxLen) : Try.prog.keyLits (d + 1 + 1) 26 [.string a, .string b] = some [.string a.data.toList, .string b.data.toList] := by
  have e1 := lits_str d a g1
  have e2 := lits_str d b g2
  rw [lits_struct Try.prog (d + 1) 26 _ _ Try.underlying26 (by rw [Try.cells26]; rfl) (by simp)]
  generalize hq : Try.prog.keyLits (d + 1) = q at *
  simp [Try.cells26, Try.cells9, e1, e2]
theorem kv_key (n : P2) (h1 : n.1.size ≤ Lim) (h2 : n.2.size ≤ Lim) : ∃ kl, keyOf Try.prog 26 (kv n) = some kl := by
  have g1 : n.1.size ≤ maxLen := Nat.le_trans h1 (by unfold Lim maxLen; omega)
  have g2 : n.2.size ≤ maxLen := Nat.le_trans h2 (by unfold Lim maxLen; omega)
  have hf : (kv n).formed Try.prog 26 = true := by simp [Value.formed, kv, Try.underlying26, Try.cells26]
  obtain ⟨d, hd⟩ : ∃ d, Try.prog.types.size + 1 = d + 1 + 1 := ⟨_, Try.sizeT⟩
  have hl := lits_name d n.1 n.2 g1 g2
  rw [← hd] at hl
  have hc : (kv n).cells.toList = [.string n.1, .string n.2] := rfl
  refine ⟨.string (keyBytes [.string n.1.data.toList, .string n.2.data.toList]), ?_⟩
  unfold keyOf
  rw [Try.underlying26]
  show (if (Try.prog.keyType 26 && (kv n).formed Try.prog 26) = true then _ else _) = _
  rw [Try.keyType26, hf, Bool.and_self, if_pos rfl, hc, hl]
  rfl
theorem kv_inj {a b : P2} (h : kv a = kv b) : a = b := by
  unfold kv at h
  injection h with h
  have := congrArg Array.toList h
  simp at this
  exact Prod.ext this.1 this.2
/-- The map at block b: these names, each at 1. -/
def SeenM (w : World) (b : Nat) (l : List P2) : Prop :=
  (∀ n ∈ l, n.1.size ≤ Lim ∧ n.2.size ≤ Lim) ∧ ∃ es clock, w.heap[b]? = some (.map es clock) ∧ es.toList.map (·.key) = l.map kv ∧ (∀ e ∈ es.toList, e.val = .int .i64 1) ∧ (∀ e ∈ es.toList, e.born < clock)
theorem seen_new (w : World) : SeenM (w.alloc (.map #[] 0)) w.heap.size [] :=
  ⟨fun n hn => by simp at hn, #[], 0, heap_alloc_new w _, rfl, fun e he => by simp at he, fun e he => by simp at he⟩
theorem SeenM.lt {w : World} {b : Nat} {l : List P2} (h : SeenM w b l) : b < w.heap.size := by
  obtain ⟨_, es, clock, h, _⟩ := h
  exact (Array.getElem?_eq_some_iff.1 h).1
theorem SeenM.keep {w w' : World} {b : Nat} {l : List P2} (h : SeenM w b l) (hb : Below w.heap.size w w') : SeenM w' b l := by
  have hlt := h.lt
  obtain ⟨h1, es, clock, h2, h3⟩ := h
  exact ⟨h1, es, clock, (hb.block b hlt).trans h2, h3⟩
theorem SeenM.keepG {w w' : World} {b : Nat} {l : List P2} {row : Option Nat} (h : SeenM w b l) (hb : w.grownBy w' row) (hne : some b ≠ row) : SeenM w' b l := by
  have hlt := h.lt
  obtain ⟨h1, es, clock, h2, h3⟩ := h
  exact ⟨h1, es, clock, (hb.block b hlt hne).trans h2, h3⟩
theorem grown_setBlock (w : World) (b : Nat) (o : Obj) : w.grownBy (setBlock w b o) (some b) :=
  ⟨rfl, rfl, rfl, by simp [setBlock], fun k hk hne => by
    have : k ≠ b := fun e => hne (by rw [e])
    simp [setBlock, Array.getElem?_setIfInBounds, Ne.symm this]⟩
theorem zero3 (w : World) : (zeroValue 3).run Try.prog w = .ok (.int .i64 0) w := by kernel_rfl
theorem key_mem {es : Array MapEntry} {l : List P2} (h : es.toList.map (·.key) = l.map kv) {n : P2} : (∃ e ∈ es.toList, e.key = kv n) ↔ n ∈ l := by
  constructor
  · rintro ⟨e, he, hk⟩
    have : kv n ∈ l.map kv := by rw [← h, ← hk]; exact List.mem_map_of_mem he
    obtain ⟨m, hm, hh⟩ := List.mem_map.1 this
    rw [← kv_inj hh]
    exact hm
  · intro hn
    have : kv n ∈ es.toList.map (·.key) := by rw [h]; exact List.mem_map_of_mem hn
    obtain ⟨e, he, hh⟩ := List.mem_map.1 this
    exact ⟨e, he, hh⟩
theorem keys_of {es : Array MapEntry} {l : List P2} (h : es.toList.map (·.key) = l.map kv) (hl : ∀ n ∈ l, n.1.size ≤ Lim ∧ n.2.size ≤ Lim) : ∀ e ∈ es.toList, ∃ kl, keyOf Try.prog 26 e.key = some kl := fun e he => by
  have : e.key ∈ l.map kv := by rw [← h]; exact List.mem_map_of_mem he
  obtain ⟨m, hm, hh⟩ := List.mem_map.1 this
  rw [← hh]
  exact kv_key m (hl m hm).1 (hl m hm).2
theorem seen_yes {w : World} {b : Nat} {l : List P2} (h : SeenM w b l) {n : P2} (hn : n ∈ l) : (Instr.lookup 78 (.map (some b)) (.agg #[.string n.1, .string n.2]) false).run Try.prog w = .ok (.int .i64 1) w := by
  obtain ⟨hl, es, clock, hb, hk, hv, _⟩ := h
  obtain ⟨kl, hkl⟩ := kv_key n (hl n hn).1 (hl n hn).2
  show (Instr.lookup 78 (.map (some b)) (kv n) false).run Try.prog w = _
  rcases lawK.find w hkl es.toList (keys_of hk hl) with ⟨_, h2⟩ | ⟨j, e0, h1, h2, h3⟩
  · obtain ⟨e, he, hh⟩ := (key_mem hk).2 hn
    exact absurd hh (h2 e he)
  · have := hv e0 (List.mem_of_getElem? h2)
    simp [Instr.lookup, run_underlying Try.underlying78, MapKept.run_getObj_map hb, lawK.check w _ hkl, h1, this, Result.andThen]
theorem seen_no {w : World} {b : Nat} {l : List P2} (h : SeenM w b l) {n : P2} (hn : ¬ n ∈ l) (z1 : n.1.size ≤ Lim) (z2 : n.2.size ≤ Lim) : (Instr.lookup 78 (.map (some b)) (.agg #[.string n.1, .string n.2]) false).run Try.prog w = .ok (.int .i64 0) w := by
  obtain ⟨hl, es, clock, hb, hk, hv, _⟩ := h
  obtain ⟨kl, hkl⟩ := kv_key n z1 z2
  show (Instr.lookup 78 (.map (some b)) (kv n) false).run Try.prog w = _
  rcases lawK.find w hkl es.toList (keys_of hk hl) with ⟨h1, h2⟩ | ⟨j, e0, h1, h2, h3⟩
  · simp [Instr.lookup, run_underlying Try.underlying78, MapKept.run_getObj_map hb, lawK.check w _ hkl, h1, zero3, Result.andThen]
  · exact absurd ((key_mem hk).1 ⟨e0, List.mem_of_getElem? h2, h3⟩) hn
theorem seen_put {w : World} {b : Nat} {l : List P2} (h : SeenM w b l) {n : P2} (hn : ¬ n ∈ l) (z1 : n.1.size ≤ Lim) (z2 : n.2.size ≤ Lim) :
    ∃ (st : Nat) (W1 W2 : World), (Instr.mapEntry 78 (.map (some b)) (.agg #[.string n.1, .string n.2])).run Try.prog w = .ok (.tuple #[.int .i64 0, .int .i64 (st : Int)]) W1 ∧
      (Instr.lookup 78 (.map (some b)) (.agg #[.string n.1, .string n.2]) false).run Try.prog W1 = .ok (.int .i64 0) W1 ∧
      (Instr.entryStore 78 (.map (some b)) (.int .i64 (st : Int)) (.int .i64 1)).run Try.prog W1 = .ok () W2 ∧ SeenM W2 b (l ++ [n]) ∧ w.grownBy W1 (some b) ∧ w.grownBy W2 (some b) := by
  obtain ⟨hl, es, clock, hb, hk, hv, hbo⟩ := h
  obtain ⟨kl, hkl⟩ := kv_key n z1 z2
  have hn2 : ∀ e ∈ es.toList, e.key ≠ kv n := fun e he hh => hn ((key_mem hk).1 ⟨e, he, hh⟩)
  have h1 : (Instr.findKey 26 (kv n) es.toList).run Try.prog w = .ok none w := by
    rcases lawK.find w hkl es.toList (keys_of hk hl) with ⟨h1, _⟩ | ⟨j, e0, _, h2, h3⟩
    · exact h1
    · exact absurd h3 (hn2 e0 (List.mem_of_getElem? h2))
  have hb1 : (setBlock w b (.map (es.push ⟨kv n, .int .i64 0, clock⟩) (clock + 1))).heap[b]? = some (.map (es.push ⟨kv n, .int .i64 0, clock⟩) (clock + 1)) := heap_setBlock_same hb _
  have hk1 : (es.push ⟨kv n, .int .i64 0, clock⟩).toList.map (·.key) = (l ++ [n]).map kv := by simp [hk]
  have hl1 : ∀ m ∈ l ++ [n], m.1.size ≤ Lim ∧ m.2.size ≤ Lim := fun m hm => by
    rcases List.mem_append.1 hm with hm | hm
    · exact hl m hm
    · rw [List.mem_singleton] at hm
      subst hm
      exact ⟨z1, z2⟩
  refine ⟨clock, setBlock w b (.map (es.push ⟨kv n, .int .i64 0, clock⟩) (clock + 1)), setBlock (setBlock w b (.map (es.push ⟨kv n, .int .i64 0, clock⟩) (clock + 1))) b (.map (es.push ⟨kv n, .int .i64 1, clock⟩) (clock + 1)), ?_, ?_, ?_, ⟨hl1, es.push ⟨kv n, .int .i64 1, clock⟩, clock + 1, heap_setBlock_same hb1 _, by simp [hk], ?_, ?_⟩, grown_setBlock _ _ _, ?_⟩
  · show (Instr.mapEntry 78 (.map (some b)) (kv n)).run Try.prog w = _
    simp [Instr.mapEntry, run_underlying Try.underlying78, MapKept.run_getObj_map hb, lawK.check w false hkl, h1, zero3, MapKept.run_setObj_map _ hb, Result.andThen, setBlock, goInt]
  · show (Instr.lookup 78 (.map (some b)) (kv n) false).run Try.prog _ = _
    rcases lawK.find (setBlock w b (.map (es.push ⟨kv n, .int .i64 0, clock⟩) (clock + 1))) hkl (es.push ⟨kv n, .int .i64 0, clock⟩).toList (keys_of hk1 hl1) with ⟨_, h2⟩ | ⟨j, e0, g1, g2, g3⟩
    · exact absurd rfl (h2 ⟨kv n, .int .i64 0, clock⟩ (by simp))
    · have : e0.val = .int .i64 0 := by
        have hm := List.mem_of_getElem? g2
        rw [Array.toList_push, List.mem_append, List.mem_singleton] at hm
        rcases hm with hm | hm
        · exact absurd g3 (hn2 e0 hm)
        · rw [hm]
      rw [this, Array.toList_push] at g1
      simp [Instr.lookup, run_underlying Try.underlying78, MapKept.run_getObj_map hb1, lawK.check _ _ hkl, g1, Result.andThen]
  · have hidx : (es.push ⟨kv n, .int .i64 0, clock⟩).findIdx? (fun e => ((e.born : Nat) : Int) == ((clock : Nat) : Int)) = some es.size := by
      rw [WideElems.findIdx_arr, Array.toList_push, List.findIdx?_append]
      have e1 : es.toList.findIdx? (fun e => ((e.born : Nat) : Int) == ((clock : Nat) : Int)) = none := by
        rw [List.findIdx?_eq_none_iff]
        intro e he
        have := hbo e he
        rw [beq_eq_false_iff_ne]
        omega
      rw [e1]
      simp
    have hmod : (es.push ⟨kv n, .int .i64 0, clock⟩).modify es.size (fun e => { e with val := .int .i64 1 }) = es.push ⟨kv n, .int .i64 1, clock⟩ := by
      apply Array.ext'
      rw [Array.toList_modify, Array.toList_push, Array.toList_push, ← Array.length_toList, WideElems.modify_last]
    simp [Instr.entryStore, MapKept.run_getObj_map hb1, asInt, asIntOf, hidx, hmod, MapKept.run_setObj_map _ hb1, Result.andThen]
    rfl
  · intro e he
    rw [Array.toList_push, List.mem_append, List.mem_singleton] at he
    rcases he with he | he
    · exact hv e he
    · rw [he]
  · intro e he
    rw [Array.toList_push, List.mem_append, List.mem_singleton] at he
    rcases he with he | he
    · have := hbo e he
      omega
    · rw [he]
      exact Nat.lt_succ_self _
  · have g1 := grown_setBlock w b (.map (es.push ⟨kv n, .int .i64 0, clock⟩) (clock + 1))
    have g2 := grown_setBlock (setBlock w b (.map (es.push ⟨kv n, .int .i64 0, clock⟩) (clock + 1))) b (.map (es.push ⟨kv n, .int .i64 1, clock⟩) (clock + 1))
    exact ⟨g2.os.trans g1.os, g2.tape.trans g1.tape, g2.output.trans g1.output, Nat.le_trans g1.size g2.size, fun i hi hne => (g2.block i (Nat.lt_of_lt_of_le hi g1.size) hne).trans (g1.block i hi hne)⟩
end Go.Proofs.Ytaoggciebkaakaa.Ev

/- word.named, word.bare. -/
set_option linter.unusedSimpArgs false
set_option linter.unusedVariables false
namespace Go.Proofs.Ytaoggciebkaakaa.Ev
open Go.RowKit

def NmC (pL tR : ByteArray → Bool) : Prop := ∀ (sp lo : ByteArray) (W : World), sp.size ≤ 10000 → lo.size ≤ 10000 → Calls Try.prog 45 #[.agg #[.string sp, .string lo]] W fun e w' => e = .returned (.bool (nmF pL tR (sp, lo))) ∧ Below W.heap.size W w'
set_option maxHeartbeats 2000000 in
set_option maxRecDepth 100000 in
theorem pnamed_any (pL tR : ByteArray → Bool) (C1 : Hid (StrC 52 pL)) (C2 : Hid (StrC 48 tR)) (sp lo : ByteArray) (w : World) (h1 : sp.size ≤ 10000) (h2 : lo.size ≤ 10000) : Calls Try.prog 45 #[.agg #[.string sp, .string lo]] w fun e w' => e = .returned (.bool (nmF pL tR (sp, lo))) ∧ Below w.heap.size w w' := by
  have HK := Lib.hid (nblk w 26 #[.string sp, .string lo])
  have HB := Lib.hid ((Below.refl w.heap.size w).alloc (Nat.le_refl _) (.cells #[.string sp, .string lo] 26))
  have HZ := Lib.hid (show w.heap.size < (w.alloc (.cells #[.string sp, .string lo] 26)).heap.size by simp)
  go_enter Try.func45, Try.ntmps45
  go_wp2_with fail
  refine (C1.out lo _ h2).mono ?_
  rintro e w1 ⟨rfl, b1⟩
  have HK1 := Lib.hid ((b1.block _ HZ.out).trans HK.out)
  have HB1 := Lib.hid (HB.out.trans (b1.mono (Nat.le_of_lt HZ.out)))
  have HZ1 := Lib.hid (Nat.lt_of_lt_of_le HZ.out b1.size)
  obtain ⟨c0, c1⟩ := cells2 HK1.out
  clear b1 HK HB HZ
  cases g1 : pL lo with
  | false =>
    have HA : Hid (nmF pL tR (sp, lo) = false) := Lib.hid (by unfold nmF; dsimp only; rw [g1]; rfl)
    clear g1
    go_wp2
    go_ret
    exact ⟨by rw [HA.out]; rfl, HB1.out⟩
  | true =>
    have HG1 := Lib.hid g1
    clear g1
    go_wp2_with fail
    refine (C2.out lo _ h2).mono ?_
    rintro e w2 ⟨rfl, b2⟩
    have HK2 := Lib.hid ((b2.block _ HZ1.out).trans HK1.out)
    have HB2 := Lib.hid (HB1.out.trans (b2.mono (Nat.le_of_lt HZ1.out)))
    have HZ2 := Lib.hid (Nat.lt_of_lt_of_le HZ1.out b2.size)
    obtain ⟨d0, d1⟩ := cells2 HK2.out
    clear b2 HK1 HB1 HZ1 c0 c1
    cases g2 : tR lo with
    | false =>
      have HA : Hid (nmF pL tR (sp, lo) = false) := Lib.hid (by unfold nmF; dsimp only; rw [HG1.out, g2]; rfl)
      clear g2
      go_wp2
      go_ret
      exact ⟨by rw [HA.out]; rfl, HB2.out⟩
    | true =>
      have HG2 := Lib.hid g2
      clear g2
      go_wp2_with fail
      refine (C2.out sp _ h1).mono ?_
      rintro e w3 ⟨rfl, b3⟩
      have HK3 := Lib.hid ((b3.block _ HZ2.out).trans HK2.out)
      have HB3 := Lib.hid (HB2.out.trans (b3.mono (Nat.le_of_lt HZ2.out)))
      obtain ⟨e0, e1⟩ := cells2 HK3.out
      clear b3 HK2 HB2 HZ2 d0 d1
      cases g3 : tR sp with
      | false =>
        have HA : Hid (nmF pL tR (sp, lo) = false) := Lib.hid (by unfold nmF; dsimp only; rw [HG1.out, HG2.out, g3]; rfl)
        clear g3
        go_wp2
        go_ret
        exact ⟨by rw [HA.out]; rfl, HB3.out⟩
      | true =>
        have HG3 := Lib.hid g3
        clear g3
        have HA : Hid (nmF pL tR (sp, lo) = (sp.toList != [104, 116, 116, 112, 58, 47, 47, 119, 119, 119, 46, 119, 51, 46, 111, 114, 103, 47, 50, 48, 48, 48, 47, 120, 109, 108, 110, 115, 47])) := Lib.hid (by unfold nmF; dsimp only; rw [HG1.out, HG2.out, HG3.out]; rfl)
        go_wp2
        go_ret
        exact ⟨by rw [HA.out]; rfl, HB3.out⟩

set_option maxHeartbeats 2000000 in
set_option maxRecDepth 100000 in
theorem bare_any (A : Option Addr) (n c : Nat) (x : RE) (w : World) (hl : n = x.ats.length) :
    Calls Try.prog 47 #[.agg #[.int .i64 x.kind, .string x.sp, .string x.lo, .slice A n c, .string x.tx]] w fun e w' => e = .returned (.bool (noneF x)) ∧ Below w.heap.size w w' := by
  have HB0 := Lib.hid ((Below.refl w.heap.size w).alloc (Nat.le_refl _) (.cells #[.int .i64 x.kind, .string x.sp, .string x.lo, .slice A n c, .string x.tx] 38))
  rcases emp3 x.sp x.lo with ⟨s1, s2⟩ | ⟨s1, s2⟩ | s1
  · by_cases h0 : n = 0
    · have HE : Hid (noneF x = true) := Lib.hid (by unfold noneF emp; rw [s1, s2, ← hl, h0]; rfl)
      generalize noneF x = F at *
      obtain ⟨kind, sp, lo, ats, tx⟩ := x
      dsimp only at *
      subst h0
      clear hl
      go_enter Try.func47, Try.ntmps47
      go_wp2
      go_ret
      exact ⟨by rw [HE.out]; rfl, HB0.out⟩
    · have z0 : ((n : Int) == 0) = false := by rw [beq_eq_false_iff_ne]; omega
      have HE : Hid (noneF x = false) := Lib.hid (by unfold noneF emp; rw [s1, s2, ← hl]; simp [h0])
      generalize noneF x = F at *
      obtain ⟨kind, sp, lo, ats, tx⟩ := x
      dsimp only at *
      clear hl h0
      go_enter Try.func47, Try.ntmps47
      go_wp2
      go_ret
      exact ⟨by rw [HE.out]; rfl, HB0.out⟩
  all_goals
    have HE : Hid (noneF x = false) := Lib.hid (by unfold noneF emp; (first | rw [s1, s2] | rw [s1]); rfl)
    generalize noneF x = F at *
    obtain ⟨kind, sp, lo, ats, tx⟩ := x
    dsimp only at *
    clear hl
    go_enter Try.func47, Try.ntmps47
    go_wp2
    go_ret
    exact ⟨by rw [HE.out]; rfl, HB0.out⟩
end Go.Proofs.Ytaoggciebkaakaa.Ev

/- word.attributed. -/
set_option linter.unusedSimpArgs false
set_option linter.unusedVariables false
namespace Go.Proofs.Ytaoggciebkaakaa.Ev
open Go.RowKit

def AtRel (F : Bool) (nm : P2 → Bool) (tR : ByteArray → Bool) (l : List P3) (n : Nat) (w : World) (i : Value) (wr : World) : Prop :=
  ∃ k : Nat, i = .int .i64 k ∧ k ≤ n ∧ Hid (SeenM wr w.heap.size ((l.take k).map (·.1))) ∧ Hid (Below w.heap.size w wr) ∧ Hid (F = goA nm tR ((l.take k).map (·.1)) (l.drop k))
theorem toList_inj {a b : ByteArray} (h : a.toList = b.toList) : a = b := by
  rw [Lib.toList_data, Lib.toList_data] at h
  cases a; cases b
  simp only [ByteArray.mk.injEq] at h ⊢
  exact Array.toList_inj.1 h
theorem eqn_eq {x y : P2} : eqn x y = true ↔ x = y := by
  unfold eqn
  rw [Bool.and_eq_true, beq_iff_eq, beq_iff_eq]
  exact ⟨fun ⟨h1, h2⟩ => Prod.ext (toList_inj h1) (toList_inj h2), fun h => by rw [h]; exact ⟨rfl, rfl⟩⟩
theorem any_in {l : List P2} {x : P2} (h : x ∈ l) : (l.any fun y => eqn y x) = true := List.any_eq_true.2 ⟨x, h, eqn_eq.2 rfl⟩
theorem any_out {l : List P2} {x : P2} (h : ¬ x ∈ l) : (l.any fun y => eqn y x) = false := List.any_eq_false.2 fun y hy e => h (by rw [← eqn_eq.1 e]; exact hy)
theorem take_names {l : List P3} {k : Nat} {x : P3} (h : l[k]? = some x) : (l.take (k + 1)).map (·.1) = (l.take k).map (·.1) ++ [x.1] := by rw [List.take_add_one, h]; simp
theorem cells3 {W : World} {b : Nat} {a0 a1 a2 : Value} {T : TypeId} {fz : Nat × Nat} (h : W.heap[b]? = some (.cells #[a0, a1, a2] T fz)) : W.cell? ⟨b, 0, none⟩ = some a0 ∧ W.cell? ⟨b, 1, none⟩ = some a1 ∧ W.cell? ⟨b, 2, none⟩ = some a2 := ⟨cells_of h 0 rfl, cells_of h 1 rfl, cells_of h 2 rfl⟩
set_option maxHeartbeats 8000000 in
set_option maxRecDepth 100000 in
theorem attributed_any (pL tR : ByteArray → Bool) (C1 : Hid (NmC pL tR)) (C2 : Hid (StrC 48 tR)) (A : Option Addr) (n c : Nat) (l : List P3) (w : World) (T : AttsIn w A n c l) (hB : l.length ≤ 32 → ∀ y ∈ l, y.1.1.size ≤ 10000 ∧ y.1.2.size ≤ 10000 ∧ y.2.size ≤ 10000) :
    Calls Try.prog 46 #[.slice A n c] w fun e w' => e = .returned (.bool (decide (n ≤ 32) && goA (nmF pL tR) tR [] l)) ∧ Below w.heap.size w w' := by
  by_cases h32 : n ≤ 32
  · rw [decide_eq_true h32, Bool.true_and]
    have k32 : ¬ (32 : Int) < (n : Int) := by omega
    have HT := Lib.hid T
    have HX := Lib.hid (hB (by rw [← T.len]; exact h32))
    obtain ⟨F, hF⟩ : ∃ F, F = goA (nmF pL tR) tR [] l := ⟨_, rfl⟩
    rw [← hF]
    have HF := Lib.hid hF
    have hmm := @run_makeMap Try.prog
    clear T hB hF
    go_enter Try.func46, Try.ntmps46
    go_wp2_with fail
    go_loopw [12] (fun i wr => AtRel F (nmF pL tR) tR l n w i wr) (fun i _ => n - (intOf i).toNat)
    case atStart => exact ⟨0, rfl, Nat.zero_le _, Lib.hid (seen_new w), Lib.hid ((Below.refl _ w).alloc (Nat.le_refl _) _), HF⟩
    case round =>
      clear hmm HF
      obtain ⟨k, rfl, hk, HM, HR, HA⟩ := hrel
      by_cases hlt : k < n
      · have k1 : (k : Int) < (n : Int) := by omega
        have k2 : (0 : Int) ≤ (k : Int) := by omega
        have hkl : k < l.length := by rw [← HT.out.len]; exact hlt
        have hx := List.getElem?_eq_getElem hkl
        have hsz := HX.out _ (List.getElem_mem hkl)
        obtain ⟨b, off, hA, hbl, d0, d1, d2⟩ := (HT.out.rd.keep HR.out) k _ hx
        have HS := Lib.hid (go_step (nm := nmF pL tR) (tR := tR) hx)
        have HTk := Lib.hid (take_names hx)
        generalize l[k] = y at *
        subst hA
        obtain ⟨⟨ysp, ylo⟩, yv⟩ := y
        dsimp only at d0 d1 d2 hsz HS HTk
        have z1 : ysp.size ≤ Lim := by unfold Lim; omega
        have z2 : ylo.size ≤ Lim := by unfold Lim; omega
        have CN : Hid (∀ W, Calls Try.prog 45 #[.agg #[.string ysp, .string ylo]] W fun e w' => e = .returned (.bool (nmF pL tR (ysp, ylo))) ∧ Below W.heap.size W w') := Lib.hid fun W => C1.out ysp ylo W hsz.1 hsz.2.1
        have CV : Hid (∀ W, Calls Try.prog 48 #[.string yv] W fun e w' => e = .returned (.bool (tR yv)) ∧ Below W.heap.size W w') := Lib.hid fun W => C2.out yv W hsz.2.2
        have HK0 := Lib.hid (nblk wr 52 #[.string ysp, .string ylo, .string yv])
        have HB0 := Lib.hid (HR.out.alloc HR.out.size (.cells #[.string ysp, .string ylo, .string yv] 52))
        have HM0 := Lib.hid (HM.out.keep ((Below.refl _ wr).alloc (Nat.le_refl _) (.cells #[.string ysp, .string ylo, .string yv] 52)))
        have HZ := Lib.hid (show wr.heap.size < (wr.alloc (.cells #[.string ysp, .string ylo, .string yv] 52)).heap.size by simp)
        have HL0 := Lib.hid HM.out.lt
        clear hx hkl hsz hbl HM HR
        generalize (l.take k).map (·.1) = sn at *
        cases g1 : nmF pL tR (ysp, ylo) with
        | false =>
          have HE : Hid (F = false) := Lib.hid (by rw [HA.out, HS.out, g1]; rfl)
          rw [g1] at CN
          clear g1 HA HS z1 z2
          go_wp2_with fail
          refine (CN.out _).mono ?_
          rintro e w1 ⟨rfl, b1⟩
          have HB1 := Lib.hid (HB0.out.trans (b1.mono HB0.out.size))
          clear b1 CN
          go_wp2
          go_ret
          exact ⟨by rw [HE.out] <;> rfl, HB1.out⟩
        | true =>
          rw [g1] at CN HS
          clear g1
          by_cases hin : (ysp, ylo) ∈ sn
          · have HE : Hid (F = false) := Lib.hid (by rw [HA.out, HS.out, any_in hin]; simp)
            have HY : Hid (∀ W, SeenM W w.heap.size sn → (Instr.lookup 78 (.map (some w.heap.size)) (.agg #[.string ysp, .string ylo]) false).run Try.prog W = .ok (.int .i64 1) W) := Lib.hid (fun W hW => seen_yes hW hin)
            clear HA HS z1 z2 hin
            go_wp2_with fail
            refine (CN.out _).mono ?_
            rintro e w1 ⟨rfl, b1⟩
            have HB1 := Lib.hid (HB0.out.trans (b1.mono HB0.out.size))
            have hlk := HY.out w1 (HM0.out.keep b1)
            obtain ⟨c0, c1, c2⟩ := cells3 ((b1.block _ HZ.out).trans HK0.out)
            clear b1 CN d0 d1 d2
            go_wp2
            go_ret
            exact ⟨by rw [HE.out] <;> rfl, HB1.out⟩
          · have HY : Hid (∀ W, SeenM W w.heap.size sn → (Instr.lookup 78 (.map (some w.heap.size)) (.agg #[.string ysp, .string ylo]) false).run Try.prog W = .ok (.int .i64 0) W) := Lib.hid (fun W hW => seen_no hW hin z1 z2)
            have HP := Lib.hid (fun W (hW : SeenM W w.heap.size sn) => seen_put hW hin z1 z2)
            have HS2 := Lib.hid (HS.out.trans (by rw [any_out hin]))
            clear HS z1 z2 hin
            cases g2 : tR yv with
            | false =>
              have HE : Hid (F = false) := Lib.hid (by rw [HA.out, HS2.out, g2]; rfl)
              rw [g2] at CV
              clear g2 HA HS2 HP
              go_wp2_with fail
              refine (CN.out _).mono ?_
              rintro e w1 ⟨rfl, b1⟩
              have HB1 := Lib.hid (HB0.out.trans (b1.mono HB0.out.size))
              have hlk := HY.out w1 (HM0.out.keep b1)
              obtain ⟨c0, c1, c2⟩ := cells3 ((b1.block _ HZ.out).trans HK0.out)
              clear b1 CN d0 d1 d2
              go_wp2_with fail
              refine (CV.out _).mono ?_
              rintro e w2 ⟨rfl, b2⟩
              have HB2 := Lib.hid (HB1.out.trans (b2.mono HB1.out.size))
              clear b2 hlk c0 c1 c2 CV
              go_wp2
              go_ret
              exact ⟨by rw [HE.out] <;> rfl, HB2.out⟩
            | true =>
              have HA2 : Hid (F = goA (nmF pL tR) tR (sn ++ [(ysp, ylo)]) (l.drop (k + 1))) := Lib.hid (by rw [HA.out, HS2.out, g2, HTk.out]; rfl)
              rw [g2] at CV
              clear g2 HA HS2
              go_wp2_with fail
              refine (CN.out _).mono ?_
              rintro e w1 ⟨rfl, b1⟩
              have HB1 := Lib.hid (HB0.out.trans (b1.mono HB0.out.size))
              have HM1 := Lib.hid (HM0.out.keep b1)
              have hlk := HY.out w1 HM1.out
              have HK1 := Lib.hid ((b1.block _ HZ.out).trans HK0.out)
              have HZ1 := Lib.hid (Nat.lt_of_lt_of_le HZ.out b1.size)
              obtain ⟨c0, c1, c2⟩ := cells3 HK1.out
              clear b1 CN d0 d1 d2
              go_wp2_with fail
              refine (CV.out _).mono ?_
              rintro e w2 ⟨rfl, b2⟩
              have HB2 := Lib.hid (HB1.out.trans (b2.mono HB1.out.size))
              have HM2 := Lib.hid (HM1.out.keep b2)
              obtain ⟨f0, f1, f2⟩ := cells3 ((b2.block _ HZ1.out).trans HK1.out)
              clear b2 CV hlk c0 c1 c2 HK1 HK0 HM0 HM1 HB0 HB1
              go_wp2_with fail
              obtain ⟨st, V1, V2, e1, e2, e3, hS2, v1, v2⟩ := HP.out w2.drew HM2.out
              have e0 := HY.out w2.drew HM2.out
              have hne : some wr.heap.size ≠ some w.heap.size := fun e => by
                injection e with e
                have := HL0.out
                omega
              have y0 : V1.cell? ⟨wr.heap.size, 0, none⟩ = some (.string ysp) := v1.cell (show w2.drew.cell? ⟨wr.heap.size, 0, none⟩ = some (.string ysp) by rw [World.cell?_drew]; exact f0) hne
              have y1 : V1.cell? ⟨wr.heap.size, 1, none⟩ = some (.string ylo) := v1.cell (show w2.drew.cell? ⟨wr.heap.size, 1, none⟩ = some (.string ylo) by rw [World.cell?_drew]; exact f1) hne
              have HB : Hid (Below w.heap.size w V2) := Lib.hid (Below.grown (Below.drew HB2.out) v2 HB2.out.size (fun j hj => by injection hj with hj; omega))
              have HQ : Hid (SeenM V2 w.heap.size ((l.take (k + 1)).map (·.1))) := Lib.hid (by rw [HTk.out]; exact hS2)
              rw [← HTk.out] at HA2
              clear hS2 v1 v2 HM2 HP HY HB2
              generalize wr.heap.size = ba at *
              go_region
              all_goals
                clear e0 e1 e2 e3 y0 y1 f0 f1 f2
                go_wp2
                go_roundw
                case rel => exact ⟨k + 1, by go_num, by omega, HQ, HB, HA2⟩
                case measure => simp only [intOf]; omega
      · have k1 : ¬ (k : Int) < (n : Int) := by omega
        have HE : Hid (F = true) := Lib.hid (by rw [HA.out, List.drop_of_length_le (by rw [← HT.out.len]; omega)]; rfl)
        clear HA
        go_wp2
        go_ret
        exact ⟨by rw [HE.out] <;> rfl, HR.out⟩
  · rw [decide_eq_false h32, Bool.false_and]
    have k32 : (32 : Int) < (n : Int) := by omega
    clear T hB h32
    go_enter Try.func46, Try.ntmps46
    go_wp2
    go_ret
    exact ⟨rfl, Below.refl _ _⟩
end Go.Proofs.Ytaoggciebkaakaa.Ev
