/-
  Merged by program out of the texts WdRep, WdFol, WdMeas, WdTop, WdClo, WdNod of one seat.
-/
import Derived.Test.YtkeilgompipfjaaGreatDoorG21
import Derived.Test.YtkeilgompipfjaaGreatDoorG02
import Derived.Deep.RegionLaw
import Derived.Deep.RegionHeld3

/- slices.Repeat of one event. -/
set_option linter.unusedSimpArgs false
set_option linter.unusedVariables false
namespace Go.Proofs.YtkeilgompipfjaaGreatDoor.Ev
open Go.RowKit

theorem rep_cells (d : Nat) : (List.replicate d clE).flatMap reC = rep (reC clE) d := by
  unfold rep
  rw [List.flatMap_def, List.map_replicate]
theorem clE_one : ∀ v ∈ reC clE, v.oneCell' = true := by
  intro v hv
  unfold reC clE at hv
  simp only [List.mem_cons, List.not_mem_nil, or_false] at hv
  rcases hv with rfl | rfl | rfl | rfl | rfl <;> rfl
def RpR (g d : Nat) (w : World) (i : Value) (wr : World) : Prop := ∃ k : Nat, i = .int .i64 k ∧ (0 < d → 1 ≤ k) ∧ k ≤ d ∧ Hid (RpB wr 33 g d (reC clE) k) ∧ Hid (Below w.heap.size w wr)
theorem own_rpb {W : World} {B g d : Nat} {xs : List Value} (h : W.ownsRow B 33 5 (.slice (some ⟨g, 0, none⟩) d d) d xs) : RpB W 33 g d (reC clE) 0 := by
  refine ⟨Nat.zero_le _, ?_⟩
  rcases h.2 with ⟨q, _⟩ | ⟨g', cap, cur, q, hB, hg, h1, h2, h3, h4⟩
  · cases q
  · injection q with q1 q2 q3
    injection q1 with q1
    injection q1 with q1
    subst q1 q3
    exact ⟨cur, hg, h3, by rw [Nat.zero_mul]; rfl⟩
theorem rpb_own {W : World} {B g d : Nat} (h : RpB W 33 g d (reC clE) d) (hB : B ≤ g) (hd : d ≤ 1000) : OwnV W B (.slice (some ⟨g, 0, none⟩) d d) (List.replicate d clE) := by
  obtain ⟨cur, hg, hs, ht⟩ := h.blk
  unfold OwnV
  rw [List.length_replicate, rep_cells]
  exact ⟨rep_len _ _, .inr ⟨g, d, cur, rfl, hB, hg, Nat.le_refl _, by unfold maxLen; omega, hs, ht⟩⟩
set_option maxHeartbeats 4000000 in
set_option maxRecDepth 100000 in
theorem repeat_any (a : Addr) (cx d : Nat) (w : World) (hd : d ≤ 1000) (hsrc : ∀ j v, (reC clE)[j]? = some v → w.cell? (a.add j) = some v) :
    Calls Tryz.prog 16 #[.slice (some a) 1 cx, .int .i64 (d : Int)] w fun e w' => ∃ v, e = .returned v ∧ OwnV w' w.heap.size v (List.replicate d clE) ∧ Below w.heap.size w w' := by
  obtain ⟨i0, hi, hz0, hz1, hz2⟩ := info_parts Tryz.info33
  have C := Lib.hid (mul_one' d hd w)
  have n0 : ¬ (d : Int) < 0 := by omega
  have u1 : IntKind.u64.wrap (d : Int) = (d : Int) := by rw [IntKind.wrap_u64]; omega
  have u2 : ¬ (9223372036854775807 : Int) < (d : Int) := by omega
  have u3 : decide ((9223372036854775807 : Int) < (d : Int)) = false := decide_eq_false u2
  have HS := Lib.hid hsrc
  have hI : (Tryz.prog.info? 33).map (·.size) = some (reC clE).length := by rw [hi]; simp [hz1]; rfl
  have HI := Lib.hid hI
  clear hsrc hI
  go_enter Tryz.func16, Tryz.ntmps16
  go_wp2_with (first
    | (go_at_call 21; refine C.out.mono ?_; rintro e w' ⟨rfl, rfl⟩)
    | (at_make; refine wpList_make_full w rfl (.tmp 29) (.tmp 29) 23 rfl w.heap.size 33 i0 (.agg #[.int .i64 0, .string ⟨#[]⟩, .string ⟨#[]⟩, .slice none 0 0, .string ⟨#[]⟩]) 5 Tryz.underlying23 hi hz0 hz1 .i64 .i64 _ _ d rfl rfl rfl rfl (by rw [hz2]; omega) (by unfold maxLen; omega) (Nat.le_refl _) ?_)
    | fail)
  intro w1 h1 g1
  have HB1 : Hid (Below w.heap.size w w1) := Lib.hid ((Below.refl w.heap.size w).grown g1 (Nat.le_refl _) (fun j hj => by cases hj))
  have HR1 := Lib.hid (own_rpb h1)
  have HS1 : Hid (∀ j v, (rep (reC clE) (Nat.min 1 d))[j]? = some v → w1.cell? (a.add j) = some v) := Lib.hid fun j v hv => by
    have hj := (List.getElem?_eq_some_iff.1 hv).1
    rw [rep_len] at hj
    have h2 : (reC clE)[j]? = some v := by
      have : Nat.min 1 d = 1 ∨ Nat.min 1 d = 0 := by rcases Nat.eq_zero_or_pos d with h | h; right; rw [h]; rfl; left; exact Nat.min_eq_left h
      rcases this with h | h
      · rw [h] at hv
        simpa [rep] using hv
      · rw [h] at hv
        simp [rep] at hv
    have h3 := HS.out j v h2
    exact (HB1.out.cell (p := a.add j) (Lib.lt_of_cell h3)).trans h3
  obtain ⟨m, hm⟩ : ∃ m, m = Nat.min 1 d := ⟨_, rfl⟩
  rw [← hm] at HS1
  have hm1 : m ≤ d ∧ (0 < d → 1 ≤ m) := by rw [hm]; exact ⟨Nat.min_le_right _ _, fun h => by show 1 ≤ min 1 d; omega⟩
  obtain ⟨W2, r2, R2, G2⟩ := HR1.out.put (m := m) (by omega) clE_one 23 23 3 Tryz.underlying23 HI.out d d 1 cx a hm.symm HS1.out
  rw [Nat.zero_mul] at r2
  have HB2 := Lib.hid (HB1.out.grown G2 HB1.out.size (fun j hj => by injection hj with hj; omega))
  have HR2 := Lib.hid R2
  have Hr := Lib.hid r2
  clear h1 g1 R2 G2 r2 hm HS1 HR1 HB1
  rw [Nat.zero_add] at HR2
  go_wp2_with fail
  rw [Hr.out]
  clear Hr
  go_wp2_with fail

  generalize hgg : w.heap.size = g at *
  go_loopw [8] (fun i wr => RpR g d w i wr) (fun i _ => d - (intOf i).toNat)
  case atStart => exact ⟨m, rfl, hm1.2, hm1.1, HR2, by rw [← hgg] at HB2; exact HB2⟩
  case round =>
    clear HB2 HR2 hm1
    obtain ⟨k, rfl, hk1, hk, HR, HB⟩ := hrel
    by_cases hlt : k < d
    · have g1 : (k : Int) < (d : Int) := by omega
      have g2 : (k : Int) ≤ (d : Int) := by omega
      have g0 : (0 : Int) ≤ (k : Int) := by omega
      have g3 : ¬ d = k := by omega
      have hk2 := hk1 (by omega)
      obtain ⟨q, hq⟩ : ∃ q, q = Nat.min k (d - k) := ⟨_, rfl⟩
      have hq1 : k + q ≤ d ∧ 1 ≤ q ∧ q ≤ k := by rw [hq]; refine ⟨?_, ?_, ?_⟩ <;> (show _ ≤ _; simp only [show Nat.min k (d - k) = min k (d - k) from rfl]; omega)
      obtain ⟨W3, r3, R3, G3⟩ := HR.out.drew.put (m := q) hq1.1 clE_one 23 23 3 Tryz.underlying23 HI.out (d - k) (d - k) k d ⟨g, 0, none⟩ hq.symm (HR.out.drew.src hq1.2.2)
      have HB3 := Lib.hid (Below.grown HB.out.drew G3 HB.out.size (fun j hj => by injection hj with hj; omega))
      have HR3 := Lib.hid R3
      have w3 : IntKind.i64.wrap ((k : Int) + (q : Int)) = (k : Int) + (q : Int) := by rw [IntWalk.i64_in _ (by omega)]
      have hq2 := hq1.1
      have hq3 := hq1.2.1
      have r4 : (Builtin.copy_ #[23, 23] 3 #[.slice (some ⟨g, k * 5, none⟩) (d - k) (d - k), .slice (some ⟨g, 0, none⟩) k d]).run Tryz.prog wr.drew = .ok (.int .i64 (q : Int)) W3 := r3
      clear R3 r3 hq HR G3 hq1 HI HS C
      go_wp2_with fail
      go_region
      all_goals
        clear r4
        go_wp2
        go_roundw
        case rel => exact ⟨k + q, by go_num, by omega, by omega, HR3, HB3⟩
        case measure => simp only [intOf]; omega
    · have hkd : k = d := by omega
      have g1 : ¬ (k : Int) < (d : Int) := by omega
      subst hkd
      clear HI HS C
      go_wp2
      go_ret
      exact ⟨_, rfl, rpb_own HR.out (Nat.le_refl _) hd, by rw [← hgg]; exact HB.out⟩
end Go.Proofs.YtkeilgompipfjaaGreatDoor.Ev

/- word.follows. -/
set_option linter.unusedSimpArgs false
set_option linter.unusedVariables false
namespace Go.Proofs.YtkeilgompipfjaaGreatDoor.Ev
open Go.RowKit

/-- What may follow: first, or behind an event of kind p, where m elements are open. -/
def folF (k0 : Bool) (p m kd : Int) : Bool := if k0 = true then kd == 1 else if kd = 1 then decide (0 < m) && decide (m < 64) else if kd = 2 then decide (0 < m) && (p != 2) else decide (0 < m)
set_option maxHeartbeats 4000000 in
set_option maxRecDepth 100000 in
theorem follows_any (A : Option Addr) (k c : Nat) (p m : Int) (Aa : Option Addr) (na ca : Nat) (kind : Int) (sp lo tx : ByteArray) (w : World) (hk : k ≤ 100000)
    (hp : 0 < k → ∃ b off, A = some ⟨b, off, none⟩ ∧ b < w.heap.size ∧ w.cell? ⟨b, off + (k - 1) * 5, none⟩ = some (.int .i64 p)) :
    Calls Tryz.prog 19 #[.slice A k c, .int .i64 m, .agg #[.int .i64 kind, .string sp, .string lo, .slice Aa na ca, .string tx]] w fun e w' => e = .returned (.bool (folF (decide (k = 0)) p m kind)) ∧ Below w.heap.size w w' := by
  have HB0 := Lib.hid ((Below.refl w.heap.size w).alloc (Nat.le_refl _) (.cells #[.int .i64 kind, .string sp, .string lo, .slice Aa na ca, .string tx] 33))
  obtain ⟨F, hF⟩ : ∃ F, F = folF (decide (k = 0)) p m kind := ⟨_, rfl⟩
  rw [← hF]
  have HF := Lib.hid hF
  clear hF
  by_cases h0 : k = 0
  · have HE : Hid (F = (kind == 1)) := Lib.hid (by rw [HF.out]; unfold folF; rw [decide_eq_true h0, if_pos rfl])
    subst h0
    clear HF hp
    go_enter Tryz.func19, Tryz.ntmps19
    go_wp2
    go_ret
    exact ⟨by rw [HE.out] <;> rfl, HB0.out⟩
  have z0 : ((k : Int) == 0) = false := by rw [beq_eq_false_iff_ne]; omega
  have HF2 : Hid (F = if kind = 1 then decide (0 < m) && decide (m < 64) else if kind = 2 then decide (0 < m) && (p != 2) else decide (0 < m)) := Lib.hid (by rw [HF.out]; unfold folF; rw [decide_eq_false h0, if_neg (by decide)])
  clear HF
  obtain ⟨b, off, rfl, hb, hcp⟩ := hp (by omega)
  obtain ⟨kp, rfl⟩ : ∃ kp, k = kp + 1 := ⟨k - 1, by omega⟩
  have hcp2 : (w.alloc (.cells #[.int .i64 kind, .string sp, .string lo, .slice Aa na ca, .string tx] 33)).cell? ⟨b, off + kp * 5, none⟩ = some (.int .i64 p) := by rw [World.cell?_alloc_lt _ _ _ (by exact hb)]; exact hcp
  clear hcp hb h0
  have g0 : (0 : Int) ≤ (kp : Int) := by omega
  have g1 : (kp : Int) < ((kp + 1 : Nat) : Int) := by omega
  by_cases k1 : kind = 1
  · have HE : Hid (F = (decide (0 < m) && decide (m < 64))) := Lib.hid (by rw [HF2.out, if_pos k1])
    subst k1
    clear HF2 hcp2
    by_cases m0 : 0 < m
    · have m0' : decide (0 < m) = true := decide_eq_true m0
      have HE2 : Hid (F = decide (m < 64)) := Lib.hid (by rw [HE.out, m0']; rfl)
      clear HE
      go_enter Tryz.func19, Tryz.ntmps19
      go_wp2
      go_ret
      exact ⟨by rw [HE2.out] <;> rfl, HB0.out⟩
    · have m0' : decide (0 < m) = false := decide_eq_false m0
      have HE2 : Hid (F = false) := Lib.hid (by rw [HE.out, m0']; rfl)
      clear HE
      go_enter Tryz.func19, Tryz.ntmps19
      go_wp2
      go_ret
      exact ⟨by rw [HE2.out] <;> rfl, HB0.out⟩
  have e1 : (kind == 1) = false := by simpa using k1
  by_cases k2 : kind = 2
  · have HE : Hid (F = (decide (0 < m) && (p != 2))) := Lib.hid (by rw [HF2.out, if_neg k1, if_pos k2])
    subst k2
    clear HF2 k1 e1
    by_cases m0 : 0 < m
    · have m0' : decide (0 < m) = true := decide_eq_true m0
      have HE2 : Hid (F = (p != 2)) := Lib.hid (by rw [HE.out, m0']; rfl)
      clear HE
      go_enter Tryz.func19, Tryz.ntmps19
      go_wp2
      go_ret
      exact ⟨by rw [HE2.out] <;> rfl, HB0.out⟩
    · have m0' : decide (0 < m) = false := decide_eq_false m0
      have HE2 : Hid (F = false) := Lib.hid (by rw [HE.out, m0']; rfl)
      clear HE
      go_enter Tryz.func19, Tryz.ntmps19
      go_wp2
      go_ret
      exact ⟨by rw [HE2.out] <;> rfl, HB0.out⟩
  have e2 : (kind == 2) = false := by simpa using k2
  have HE : Hid (F = decide (0 < m)) := Lib.hid (by rw [HF2.out, if_neg k1, if_neg k2])
  clear HF2 k1 k2 hcp2
  go_enter Tryz.func19, Tryz.ntmps19
  go_wp2
  go_ret
  exact ⟨by rw [HE.out] <;> rfl, HB0.out⟩
end Go.Proofs.YtkeilgompipfjaaGreatDoor.Ev

/- word.measure: how many are open behind these events, and whether they are a beginning. -/
set_option linter.unusedSimpArgs false
set_option linter.unusedVariables false
namespace Go.Proofs.YtkeilgompipfjaaGreatDoor.Ev
open Go.RowKit

/-- In a region that draws: an operation without a world, whose guard lets it run, is taken first. -/
theorem wpAny_yes {P : Program} {md : Region.Mode} {ops : Array Oper} {Q : Exit → Act → World → Prop} (i : Nat) (d : Tmp) (v : Value) {oi : Oper} {fuel : Nat} {listed : Array Bool} {a : Act} {w : World} (hi : ops[i]? = some oi)
    (hs : Region.noSelect ops = true) (hf : Region.free md ops listed i = true) (hr : (Region.ready md ops listed).contains i = true)
    (hQ : ∀ c a w, Q (.panic c) (a.put oi.dst v) w → Q (.panic c) a w) (hd : oi.dst = some d) (hw : Region.wanted oi (yielded ops a.tmps) = true) (hy : ∀ w, (execOp a.eval oi).run P w = .ok (.value v) w)
    (h : wpAny P md ops Q fuel (listed.setIfInBounds i true) { a with tmps := a.tmps.setIfInBounds d v } w) : wpAny P md ops Q (fuel + 1) listed a w :=
  wpAny_take hi hs hf hr hQ (.inl ⟨hw, hy⟩) (by unfold Act.put; rw [hd]; exact h)
/-- In a region that draws: an operation whose guard does not let it run is passed over. -/
theorem wpAny_no {P : Program} {md : Region.Mode} {ops : Array Oper} {Q : Exit → Act → World → Prop} (i : Nat) (d : Tmp) {oi : Oper} {fuel : Nat} {listed : Array Bool} {a : Act} {w : World} (hi : ops[i]? = some oi)
    (hs : Region.noSelect ops = true) (hf : Region.free md ops listed i = true) (hr : (Region.ready md ops listed).contains i = true)
    (hQ : ∀ c a w, Q (.panic c) (a.put oi.dst undef) w → Q (.panic c) a w) (hd : oi.dst = some d) (hw : Region.wanted oi (yielded ops a.tmps) = false)
    (h : wpAny P md ops Q fuel (listed.setIfInBounds i true) { a with tmps := a.tmps.setIfInBounds d undef } w) : wpAny P md ops Q (fuel + 1) listed a w :=
  wpAny_take hi hs hf hr hQ (.inr ⟨hw, rfl⟩) (by unfold Act.put; rw [hd]; exact h)
def msV (F : Int) : Value := .tuple #[.int .i64 (if F < 0 then 0 else F), .bool (decide (0 ≤ F))]
def EvP (pL tR : ByteArray → Bool) : Prop := ∀ (A : Option Addr) (n c : Nat) (x : RE) (W : World), AttsIn W A n c x.ats → RgB x → Calls Tryz.prog 20 #[.agg #[.int .i64 x.kind, .string x.sp, .string x.lo, .slice A n c, .string x.tx]] W fun e w' => e = .returned (.bool (rightF pL tR x)) ∧ Below W.heap.size W w'
theorem ms_no {F : Int} (h : F = -1) : msV F = .tuple #[.int .i64 0, .bool false] := by rw [h]; rfl
theorem ms_yes {F : Int} {m : Nat} (h : F = (m : Int)) : msV F = .tuple #[.int .i64 m, .bool true] := by
  unfold msV
  rw [h, if_neg (by omega), decide_eq_true (by omega)]
theorem dep_start {R : RE → Bool} (l : List RE) : depR R true 0 0 l = depR R (decide ((0 : Nat) = 0)) (prevK l 0) ((0 : Nat) : Int) (l.drop 0) := by
  cases l with
  | nil => rfl
  | cons x r =>
    have h := dep_step (R := R) (l := x :: r) (k := 0) (x := x) rfl true 0 0
    rw [List.drop_zero] at h ⊢
    rw [h]
    have h' := dep_step (R := R) (l := x :: r) (k := 0) (x := x) rfl true (prevK (x :: r) 0) 0
    rw [List.drop_zero] at h'
    show _ = depR _ true _ 0 _
    rw [h']
    by_cases q : R x = false ∨ ((0 : Int) == 0) ≠ true ∨ (true = true ∧ x.kind ≠ 1)
    · rw [if_pos q, if_pos q]
    · have k1 : x.kind = 1 := Decidable.not_not.1 fun e => q (.inr (.inr ⟨rfl, e⟩))
      have e1 : ¬ (x.kind = 2 ∧ (0 : Int) = 2) := by rintro ⟨h, _⟩; omega
      have e2 : ¬ (x.kind = 2 ∧ prevK (x :: r) 0 = 2) := by rintro ⟨h, _⟩; omega
      rw [if_neg q, if_neg q, if_neg e1, if_neg e2]
/-- One event more: as follows and Right tell. -/
theorem dep_fol {R : RE → Bool} {l : List RE} {k m : Nat} {x : RE} (hx : l[k]? = some x) (hm : m ≤ 64) (hkm : k = 0 → m = 0) (hR : R x = true → x.kind = 1 ∨ x.kind = 2 ∨ x.kind = 3) :
    (folF (decide (k = 0)) (prevK l k) m x.kind = false ∨ R x = false → depR R (decide (k = 0)) (prevK l k) m (l.drop k) = -1) ∧
    (folF (decide (k = 0)) (prevK l k) m x.kind = true → R x = true →
      (x.kind = 1 ∧ m + 1 ≤ 64 ∧ depR R (decide (k = 0)) (prevK l k) m (l.drop k) = depR R (decide (k + 1 = 0)) (prevK l (k + 1)) ((m + 1 : Nat) : Int) (l.drop (k + 1))) ∨
      (x.kind = 2 ∧ depR R (decide (k = 0)) (prevK l k) m (l.drop k) = depR R (decide (k + 1 = 0)) (prevK l (k + 1)) (m : Int) (l.drop (k + 1))) ∨
      (x.kind = 3 ∧ ∃ q : Nat, q + 1 = m ∧ depR R (decide (k = 0)) (prevK l k) m (l.drop k) = depR R (decide (k + 1 = 0)) (prevK l (k + 1)) (q : Int) (l.drop (k + 1)))) := by
  rw [dep_step hx]
  constructor
  · intro h
    cases hr : R x with
    | false => rw [if_pos (.inl rfl)]
    | true =>
      have hf : folF (decide (k = 0)) (prevK l k) m x.kind = false := by
        rcases h with h | h
        · exact h
        · rw [hr] at h; cases h
      by_cases h0 : k = 0
      · rw [if_pos]
        right; right
        refine ⟨decide_eq_true h0, fun e => ?_⟩
        unfold folF at hf
        rw [decide_eq_true h0, if_pos rfl, e] at hf
        cases hf
      · unfold folF at hf
        rw [decide_eq_false h0, if_neg (by decide)] at hf
        by_cases hm0 : m = 0
        · rw [if_pos]
          right; left
          rw [decide_eq_false h0, hm0]
          decide
        · have m0 : decide ((0 : Int) < (m : Int)) = true := decide_eq_true (by omega)
          rw [if_neg]
          · rcases hR hr with k1 | k2 | k3
            · rw [if_pos k1, m0] at hf
              have : ¬ ((m : Int) < 64) := by simpa using hf
              rw [if_neg (by rw [k1]; rintro ⟨h, _⟩; cases h), if_pos]
              rw [if_pos k1]
              omega
            · rw [if_neg (by omega), if_pos k2, m0] at hf
              have : prevK l k = 2 := by simpa using hf
              rw [if_pos ⟨k2, this⟩]
            · rw [if_neg (by omega), if_neg (by omega), m0] at hf
              cases hf
          · rw [decide_eq_false h0]
            rintro (g | g | g)
            · cases g
            · exact g (by rw [beq_eq_false_iff_ne]; omega)
            · cases g.1
  · intro hf hr
    have hq : ¬ (R x = false ∨ ((m : Int) == 0) ≠ decide (k = 0) ∨ (decide (k = 0) = true ∧ x.kind ≠ 1)) := by
      rw [hr]
      unfold folF at hf
      by_cases h0 : k = 0
      · rw [decide_eq_true h0, if_pos rfl] at hf
        have k1 : x.kind = 1 := by simpa using hf
        rw [decide_eq_true h0, hkm h0, k1]
        rintro (g | g | g)
        · cases g
        · exact g rfl
        · exact g.2 rfl
      · rw [decide_eq_false h0, if_neg (by decide)] at hf
        rw [decide_eq_false h0]
        have m0 : (0 : Int) < (m : Int) := by
          by_cases m0 : (0 : Int) < (m : Int)
          · exact m0
          · rw [decide_eq_false m0] at hf
            split at hf
            · cases hf
            · split at hf
              · cases hf
              · cases hf
        rintro (g | g | g)
        · cases g
        · exact g (by rw [beq_eq_false_iff_ne]; omega)
        · cases g.1
    rw [if_neg hq]
    unfold folF at hf
    rcases hR hr with k1 | k2 | k3
    · left
      have hlt : m + 1 ≤ 64 := by
        by_cases h0 : k = 0
        · rw [hkm h0]; omega
        · rw [decide_eq_false h0, if_neg (by decide), if_pos k1] at hf
          simp only [Bool.and_eq_true, decide_eq_true_eq] at hf
          omega
      refine ⟨k1, hlt, ?_⟩
      rw [if_neg (by rw [k1]; rintro ⟨h, _⟩; cases h), if_neg (by rw [if_pos k1]; omega), if_pos k1]
      rfl
    · right; left
      refine ⟨k2, ?_⟩
      have hp : ¬ (x.kind = 2 ∧ prevK l k = 2) := by
        rintro ⟨_, hp⟩
        by_cases h0 : k = 0
        · rw [decide_eq_true h0, if_pos rfl, k2] at hf
          cases hf
        · rw [decide_eq_false h0, if_neg (by decide), if_neg (by omega), if_pos k2, hp] at hf
          simp at hf
      have e1 : ¬ x.kind = 1 := by omega
      have e3 : ¬ x.kind = 3 := by omega
      rw [if_neg hp, if_neg e1, if_neg e3, if_neg (by omega)]
    · right; right
      have e1 : ¬ x.kind = 1 := by omega
      have m0 : 0 < m := by
        by_cases h0 : k = 0
        · rw [decide_eq_true h0, if_pos rfl, k3] at hf
          cases hf
        · rw [decide_eq_false h0, if_neg (by decide), if_neg e1, if_neg (by omega)] at hf
          have := of_decide_eq_true hf
          omega
      refine ⟨k3, m - 1, by omega, ?_⟩
      rw [if_neg (by rw [k3]; rintro ⟨h, _⟩; cases h), if_neg e1, if_pos k3, if_neg (by omega)]
      congr 1
      omega
/-- The element at hand in its box; what stands ahead of it; the attributes. -/
structure Mx (bx : Nat) (A Aa : Option Addr) (na ca k : Nat) (p : Int) (x : RE) (W0 W : World) : Prop where
  a : W.heap[bx]? = some (.cells #[.int .i64 x.kind, .string x.sp, .string x.lo, .slice Aa na ca, .string x.tx] 33 (0, 0))
  ta : AttsIn W Aa na ca x.ats
  pv : 0 < k → ∃ b off, A = some ⟨b, off, none⟩ ∧ b < W.heap.size ∧ W.cell? ⟨b, off + (k - 1) * 5, none⟩ = some (.int .i64 p)
  bel : Below W0.heap.size W0 W
section
variable {bx : Nat} {A Aa : Option Addr} {na ca k : Nat} {p : Int} {x : RE} {W0 W W' : World}
theorem Mx.keep (h : Mx bx A Aa na ca k p x W0 W) (hb : Below W.heap.size W W') : Mx bx A Aa na ca k p x W0 W' :=
  ⟨(hb.block _ (Array.getElem?_eq_some_iff.1 h.a).1).trans h.a, h.ta.keep hb, fun hk => by
    obtain ⟨b, off, e, hlt, hc⟩ := h.pv hk
    exact ⟨b, off, e, Nat.lt_of_lt_of_le hlt hb.size, (hb.cell (p := ⟨b, off + (k - 1) * 5, none⟩) hlt).trans hc⟩, h.bel.trans (hb.mono h.bel.size)⟩
end
set_option maxHeartbeats 8000000 in
set_option maxRecDepth 100000 in
theorem measure_any (pL tR : ByteArray → Bool) (C : Hid (EvP pL tR)) (A : Option Addr) (n c : Nat) (l : List RE) (w : World) (T : EvsIn w A n c l) (hn : n ≤ 100000) (hF : ∀ x ∈ l, RgB x) :
    Calls Tryz.prog 15 #[.slice A n c] w fun e w' => e = .returned (msV (depF pL tR l)) ∧ Below w.heap.size w w' := by
  have HT := Lib.hid T
  have HFw := Lib.hid hF
  have hcap := T.cap
  unfold maxLen at hcap
  clear T hF
  obtain ⟨F, hF⟩ : ∃ F, F = depF pL tR l := ⟨_, rfl⟩
  rw [← hF]
  have H0 : Hid (F = depR (rightF pL tR) (decide ((0 : Nat) = 0)) (prevK l 0) ((0 : Nat) : Int) (l.drop 0)) := Lib.hid (hF.trans (dep_start l))
  clear hF
  go_enter Tryz.func15, Tryz.ntmps15
  go_wp2_with fail
  go_loopw [4, 9] (fun vn i wr => DpRel F (rightF pL tR) l n w vn i wr) (fun _ i _ => n - (intOf i).toNat)
  case atStart => exact ⟨0, 0, rfl, rfl, Nat.zero_le _, Nat.zero_le _, fun _ => rfl, Lib.hid (Below.refl _ _), H0⟩
  case round =>
    clear H0
    obtain ⟨k, m, rfl, rfl, hk, hm, hkm, HR, HA⟩ := hrel
    by_cases hlt : k < n
    · have k1 : (k : Int) < (n : Int) := by omega
      have k2 : (0 : Int) ≤ (k : Int) := by omega
      have k3 : (k : Int) ≤ (c : Int) := by omega
      have hkl : k < l.length := by rw [← HT.out.len]; exact hlt
      have hx := List.getElem?_eq_getElem hkl
      obtain ⟨b, off, Aa, na, ca, hA, hbl, TA, c0, c1, c2, c3, c4⟩ := (HT.out.rd.keep HR.out) k _ hx
      have hrb := HFw.out _ (List.getElem_mem hkl)
      have HP : Hid (0 < k → ∃ b' off', A = some ⟨b', off', none⟩ ∧ b' < wr.heap.size ∧ wr.cell? ⟨b', off' + (k - 1) * 5, none⟩ = some (.int .i64 (prevK l k))) := Lib.hid fun h0 => by
        have hy := List.getElem?_eq_getElem (show k - 1 < l.length by omega)
        obtain ⟨b', off', _, _, _, e, hlt', _, q0, _⟩ := (HT.out.rd.keep HR.out) (k - 1) _ hy
        refine ⟨b', off', e, hlt', ?_⟩
        rw [q0]
        unfold prevK
        rw [hy]
        rfl
      have HD := Lib.hid (dep_fol (R := rightF pL tR) hx hm hkm right_kind)
      generalize l[k] = x at *
      subst hA
      have HX0 : Hid (Mx wr.heap.size (some ⟨b, off, none⟩) Aa na ca k (prevK l k) x w (wr.alloc (.cells #[.int .i64 x.kind, .string x.sp, .string x.lo, .slice Aa na ca, .string x.tx] 33))) := Lib.hid ⟨nblk wr 33 _, TA.keep ((Below.refl _ wr).alloc (Nat.le_refl _) _), fun h0 => by
        obtain ⟨b', off', e, hlt', q⟩ := HP.out h0
        exact ⟨b', off', e, Nat.lt_of_lt_of_le hlt' (by simp), by rw [World.cell?_alloc_lt _ _ _ (by exact hlt')]; exact q⟩, HR.out.alloc HR.out.size _⟩
      have C35 : Hid (∀ W, Mx wr.heap.size (some ⟨b, off, none⟩) Aa na ca k (prevK l k) x w W → Calls Tryz.prog 19 #[.slice (some ⟨b, off, none⟩) k c, .int .i64 (m : Int), .agg #[.int .i64 x.kind, .string x.sp, .string x.lo, .slice Aa na ca, .string x.tx]] W fun e w' => e = .returned (.bool (folF (decide (k = 0)) (prevK l k) m x.kind)) ∧ Below W.heap.size W w') := Lib.hid fun W h => follows_any _ k c _ _ Aa na ca _ _ _ _ W (by omega) h.pv
      have C9 : Hid (∀ W, Mx wr.heap.size (some ⟨b, off, none⟩) Aa na ca k (prevK l k) x w W → Calls Tryz.prog 20 #[.agg #[.int .i64 x.kind, .string x.sp, .string x.lo, .slice Aa na ca, .string x.tx]] W fun e w' => e = .returned (.bool (rightF pL tR x)) ∧ Below W.heap.size W w') := Lib.hid fun W h => C.out Aa na ca x W h.ta hrb
      have HK : Hid (∀ W W', Mx wr.heap.size (some ⟨b, off, none⟩) Aa na ca k (prevK l k) x w W → Below W.heap.size W W' → Mx wr.heap.size (some ⟨b, off, none⟩) Aa na ca k (prevK l k) x w W') := Lib.hid fun W W' h hb => h.keep hb
      clear hx hkl hbl TA HP hrb HR
      generalize folF (decide (k = 0)) (prevK l k) m x.kind = f at *
      generalize rightF pL tR x = r at *
      obtain ⟨kind, sp, lo, ats, tx⟩ := x
      dsimp only at *
      have HDr : Hid (F = -1 ∨ (f = true ∧ r = true)) := Lib.hid (by
        cases f
        · exact .inl (HA.out.trans (HD.out.1 (.inl rfl)))
        · cases r
          · exact .inl (HA.out.trans (HD.out.1 (.inr rfl)))
          · exact .inr ⟨rfl, rfl⟩)
      cases f with
      | false =>
        have HE : Hid (msV F = .tuple #[.int .i64 0, .bool false]) := Lib.hid (ms_no (HA.out.trans (HD.out.1 (.inl rfl))))
        clear HD HDr HA C9
        go_wp2_with fail
        clear c0 c1 c2 c3 c4
        generalize wr.alloc (.cells #[.int .i64 kind, .string sp, .string lo, .slice Aa na ca, .string tx] 33) = V at *
        generalize wr.heap.size = bx at *
        have X := Lib.hid (HK.out _ _ HX0.out (Below.refl _ V).drew)
        clear HX0
        have hX := X.out
        obtain ⟨d0, d1, d2, d3, d4⟩ := cells5 X.out.a
        refine wp_region_any (by kernel_rfl) ?_
        change wpAny _ _ _ _ _ _ _ (World.drew _)
        refine wpAny_yes 0 14 (.slice (some ⟨b, off, none⟩) n c) rfl (by kernel_rfl) (by kernel_rfl) (by kernel_rfl) (fun _ _ _ h => h) rfl (by rfl) (fun w => by go_simp) ?_
        simp only [List.setIfInBounds_toArray, List.set_cons_zero, List.set_cons_succ]
        refine wpAny_yes 1 15 (.int .i64 k) rfl (by kernel_rfl) (by kernel_rfl) (by kernel_rfl) (fun _ _ _ h => h) rfl (by rfl) (fun w => by go_simp) ?_
        simp only [List.setIfInBounds_toArray, List.set_cons_zero, List.set_cons_succ]
        refine wpAny_yes 3 17 (.int .i64 m) rfl (by kernel_rfl) (by kernel_rfl) (by kernel_rfl) (fun _ _ _ h => h) rfl (by rfl) (fun w => by go_simp) ?_
        simp only [List.setIfInBounds_toArray, List.set_cons_zero, List.set_cons_succ]
        refine wpAny_yes 2 16 (.slice (some ⟨b, off, none⟩) k c) rfl (by kernel_rfl) (by kernel_rfl) (by kernel_rfl) (fun _ _ _ h => h) rfl (by rfl) (fun w => by go_simp) ?_
        simp only [List.setIfInBounds_toArray, List.set_cons_zero, List.set_cons_succ]
        refine wpAny_ready (rs := [4]) (by kernel_rfl) (by simp) ?_
        refine AllReady.cons rfl (fun K hK => ?_) AllReady.nil
        go_simp
        refine hK _ _ ?_
        refine wpAny_ready (rs := [5]) (by kernel_rfl) (by simp) ?_
        refine AllReady.cons rfl (fun K hK => ?_) AllReady.nil
        go_simp
        go_wp2_with (go_at_call 19; refine (C35.out _ hX).mono ?_; rintro e w3 ⟨rfl, b3⟩)
        replace X := Lib.hid (HK.out _ _ X.out b3)
        clear b3 d0 d1 d2 d3 d4 hX
        refine wpAny_yes 6 20 (.bool true) rfl (by kernel_rfl) (by kernel_rfl) (by kernel_rfl) (fun _ _ _ h => h) rfl (by rfl) (fun w => by go_simp) ?_
        simp only [List.setIfInBounds_toArray, List.set_cons_zero, List.set_cons_succ]
        refine wpAny_yes 7 21 (.bool true) rfl (by kernel_rfl) (by kernel_rfl) (by kernel_rfl) (fun _ _ _ h => h) rfl (by rfl) (fun w => by go_simp) ?_
        simp only [List.setIfInBounds_toArray, List.set_cons_zero, List.set_cons_succ]
        refine wpAny_no 8 22 rfl (by kernel_rfl) (by kernel_rfl) (by kernel_rfl) (fun _ _ _ h => h) rfl (by rfl) ?_
        simp only [List.setIfInBounds_toArray, List.set_cons_zero, List.set_cons_succ]
        refine wpAny_no 9 23 rfl (by kernel_rfl) (by kernel_rfl) (by kernel_rfl) (fun _ _ _ h => h) rfl (by rfl) ?_
        simp only [List.setIfInBounds_toArray, List.set_cons_zero, List.set_cons_succ]
        refine wpAny_no 10 24 rfl (by kernel_rfl) (by kernel_rfl) (by kernel_rfl) (fun _ _ _ h => h) rfl (by rfl) ?_
        simp only [List.setIfInBounds_toArray, List.set_cons_zero, List.set_cons_succ]
        refine wpAny_yes 11 25 (.bool true) rfl (by kernel_rfl) (by kernel_rfl) (by kernel_rfl) (fun _ _ _ h => h) rfl (by rfl) (fun w => by go_simp) ?_
        simp only [List.setIfInBounds_toArray, List.set_cons_zero, List.set_cons_succ]
        refine wpAny_done (by kernel_rfl) ?_ _
        go_wp2
        go_ret2
        exact ⟨by rw [HE.out] <;> rfl, X.out.bel⟩
      | true =>
        cases r with
        | false =>
          have HE : Hid (msV F = .tuple #[.int .i64 0, .bool false]) := Lib.hid (ms_no (HA.out.trans (HD.out.1 (.inr rfl))))
          clear HD HDr HA
          go_wp2_with fail
          clear c0 c1 c2 c3 c4
          generalize wr.alloc (.cells #[.int .i64 kind, .string sp, .string lo, .slice Aa na ca, .string tx] 33) = V at *
          generalize wr.heap.size = bx at *
          have X := Lib.hid (HK.out _ _ HX0.out (Below.refl _ V).drew)
          clear HX0
          go_region_held3 (fun W => W.cell? ⟨bx, 0, none⟩ = some (.int .i64 kind) ∧ W.cell? ⟨bx, 1, none⟩ = some (.string sp) ∧ W.cell? ⟨bx, 2, none⟩ = some (.string lo) ∧ W.cell? ⟨bx, 3, none⟩ = some (.slice Aa na ca) ∧ W.cell? ⟨bx, 4, none⟩ = some (.string tx))
            (first | with_reducible exact cells5 X.out.a | fail)
            (first
              | (go_at_call 19; refine (C35.out _ X.out).mono ?_; rintro e w3 ⟨rfl, b3⟩; replace X := Lib.hid (HK.out _ _ X.out b3); clear b3)
              | (go_at_call 20; refine (C9.out _ X.out).mono ?_; rintro e w3 ⟨rfl, b3⟩; replace X := Lib.hid (HK.out _ _ X.out b3); clear b3)
              | fail)
          all_goals
            go_wp2
            go_ret2
            exact ⟨by rw [HE.out] <;> rfl, X.out.bel⟩
        | true =>
          obtain ⟨q, kq, hq, HA2⟩ : ∃ q : Nat, (kind = 1 ∧ m + 1 = q ∨ kind = 2 ∧ m = q ∨ kind = 3 ∧ q + 1 = m) ∧ q ≤ 64 ∧ Hid (F = depR (rightF pL tR) (decide (k + 1 = 0)) (prevK l (k + 1)) (q : Int) (l.drop (k + 1))) := by
            rcases HD.out.2 rfl rfl with ⟨a1, a2, a3⟩ | ⟨a1, a3⟩ | ⟨a1, q, a2, a3⟩
            · exact ⟨m + 1, .inl ⟨a1, rfl⟩, a2, Lib.hid (HA.out.trans a3)⟩
            · exact ⟨m, .inr (.inl ⟨a1, rfl⟩), hm, Lib.hid (HA.out.trans a3)⟩
            · exact ⟨q, .inr (.inr ⟨a1, a2⟩), by omega, Lib.hid (HA.out.trans a3)⟩
          clear HD HDr HA
          have HQ := Lib.hid kq
          clear kq
          go_wp2_with fail
          clear c0 c1 c2 c3 c4
          generalize wr.alloc (.cells #[.int .i64 kind, .string sp, .string lo, .slice Aa na ca, .string tx] 33) = V at *
          generalize wr.heap.size = bx at *
          have X := Lib.hid (HK.out _ _ HX0.out (Below.refl _ V).drew)
          clear HX0
          go_region_held3 (fun W => W.cell? ⟨bx, 0, none⟩ = some (.int .i64 kind) ∧ W.cell? ⟨bx, 1, none⟩ = some (.string sp) ∧ W.cell? ⟨bx, 2, none⟩ = some (.string lo) ∧ W.cell? ⟨bx, 3, none⟩ = some (.slice Aa na ca) ∧ W.cell? ⟨bx, 4, none⟩ = some (.string tx))
            (first | with_reducible exact cells5 X.out.a | fail)
            (first
              | (go_at_call 19; refine (C35.out _ X.out).mono ?_; rintro e w3 ⟨rfl, b3⟩; replace X := Lib.hid (HK.out _ _ X.out b3); clear b3)
              | (go_at_call 20; refine (C9.out _ X.out).mono ?_; rintro e w3 ⟨rfl, b3⟩; replace X := Lib.hid (HK.out _ _ X.out b3); clear b3)
              | fail)
          all_goals
            obtain ⟨d0, d1, d2, d3, d4⟩ := cells5 X.out.a
            have HB := Lib.hid X.out.bel
            clear d1 d2 d3 d4 HK C9 C35 X
            rcases HQ.out with ⟨rfl, hq2⟩ | ⟨rfl, hq2⟩ | ⟨rfl, hq2⟩
          all_goals
            have HQ2 := Lib.hid hq2
            have qs : IntKind.i64.wrap ((m : Int) - 1) = (m : Int) - 1 := by rw [IntWalk.i64_in _ (by omega)]
            clear hq2 HQ
            go_wp2
            go_roundw
            case rel => exact ⟨k + 1, q, by go_num, by (first | (rw [← HQ2.out]; go_num) | (congr 1; have := HQ2.out; omega)), by omega, hq, fun h => by omega, HB, HA2⟩
            case measure => simp only [intOf]; omega
    · have k1 : ¬ (k : Int) < (n : Int) := by omega
      have HE : Hid (msV F = .tuple #[.int .i64 m, .bool true]) := Lib.hid (ms_yes (by rw [HA.out, List.drop_of_length_le (by rw [← HT.out.len]; omega)]; rfl))
      clear HA
      go_wp2
      go_ret2
      exact ⟨by rw [HE.out] <;> rfl, HR.out⟩
end Go.Proofs.YtkeilgompipfjaaGreatDoor.Ev

/- word.Begins, word.Depth, word.Whole. -/
set_option linter.unusedSimpArgs false
set_option linter.unusedVariables false
namespace Go.Proofs.YtkeilgompipfjaaGreatDoor.Ev
open Go.RowKit

def MsC (pL tR : ByteArray → Bool) : Prop := ∀ (A : Option Addr) (n c : Nat) (l : List RE) (W : World), EvsIn W A n c l → n ≤ 100000 → (∀ x ∈ l, RgB x) → Calls Tryz.prog 15 #[.slice A n c] W fun e w' => e = .returned (msV (depF pL tR l)) ∧ Below W.heap.size W w'
section
variable {pL tR : ByteArray → Bool}
set_option maxRecDepth 100000 in
theorem begins_c (C : Hid (MsC pL tR)) (A : Option Addr) (n c : Nat) (l : List RE) (w : World) (T : EvsIn w A n c l) (hn : n ≤ 100000) (hB : ∀ x ∈ l, RgB x) : Calls Tryz.prog 6 #[.slice A n c] w fun e w' => e = .returned (.bool (decide (0 ≤ depF pL tR l))) ∧ Below w.heap.size w w' := by
  have CM := C.out A n c l w T hn hB
  unfold msV at CM
  have HM := Lib.hid CM
  clear CM C T hn hB
  generalize decide (0 ≤ depF pL tR l) = b at *
  generalize (if depF pL tR l < 0 then 0 else depF pL tR l) = d at *
  go_enter Tryz.func6, Tryz.ntmps6
  go_wp2_with fail
  refine HM.out.mono ?_
  rintro e w1 ⟨rfl, b1⟩
  go_wp2
  go_ret
  exact ⟨rfl, b1⟩
set_option maxRecDepth 100000 in
theorem depth_c (C : Hid (MsC pL tR)) (A : Option Addr) (n c : Nat) (l : List RE) (w : World) (T : EvsIn w A n c l) (hn : n ≤ 100000) (hB : ∀ x ∈ l, RgB x) : Calls Tryz.prog 8 #[.slice A n c] w fun e w' => e = .returned (.int .i64 (if depF pL tR l < 0 then 0 else depF pL tR l)) ∧ Below w.heap.size w w' := by
  have CM := C.out A n c l w T hn hB
  unfold msV at CM
  have HM := Lib.hid CM
  clear CM C T hn hB
  generalize decide (0 ≤ depF pL tR l) = b at *
  generalize (if depF pL tR l < 0 then 0 else depF pL tR l) = d at *
  go_enter Tryz.func8, Tryz.ntmps8
  go_wp2_with fail
  refine HM.out.mono ?_
  rintro e w1 ⟨rfl, b1⟩
  go_wp2
  go_ret
  exact ⟨rfl, b1⟩
set_option maxRecDepth 100000 in
theorem whole_c (C : Hid (MsC pL tR)) (A : Option Addr) (n c : Nat) (l : List RE) (w : World) (T : EvsIn w A n c l) (hn : n ≤ 100000) (hB : ∀ x ∈ l, RgB x) : Calls Tryz.prog 7 #[.slice A n c] w fun e w' => e = .returned (.bool (decide (depF pL tR l = 0 ∧ 0 < n))) ∧ Below w.heap.size w w' := by
  have CM := C.out A n c l w T hn hB
  unfold msV at CM
  have HM := Lib.hid CM
  clear CM C T hB
  generalize depF pL tR l = F at *
  by_cases h0 : 0 ≤ F
  · rw [decide_eq_true h0, if_neg (by omega)] at HM
    by_cases h1 : F = 0
    · have e1 : (F == 0) = true := by simpa using h1
      have HE : Hid (decide (F = 0 ∧ 0 < n) = decide ((0 : Int) < (n : Int))) := Lib.hid (by
        by_cases hz : 0 < n
        · rw [decide_eq_true ⟨h1, hz⟩, decide_eq_true (by omega)]
        · rw [decide_eq_false (fun h => hz h.2), decide_eq_false (by omega)])
      rw [HE.out]
      clear HE h0
      subst h1
      by_cases hz : (0 : Int) < (n : Int)
      · have hz' : decide ((0 : Int) < (n : Int)) = true := decide_eq_true hz
        rw [hz']
        have HN : Hid (decide (0 < n) = true) := Lib.hid (decide_eq_true (by omega))
        go_enter Tryz.func7, Tryz.ntmps7
        go_wp2_with fail
        refine HM.out.mono ?_
        rintro e w1 ⟨rfl, b1⟩
        go_wp2
        go_ret
        exact ⟨by show Ending.returned (.bool (decide (0 < n))) = _; rw [HN.out], b1⟩
      · have hz' : decide ((0 : Int) < (n : Int)) = false := decide_eq_false hz
        rw [hz']
        have HN : Hid (decide (0 < n) = false) := Lib.hid (decide_eq_false (by omega))
        go_enter Tryz.func7, Tryz.ntmps7
        go_wp2_with fail
        refine HM.out.mono ?_
        rintro e w1 ⟨rfl, b1⟩
        go_wp2
        go_ret
        exact ⟨by show Ending.returned (.bool (decide (0 < n))) = _; rw [HN.out], b1⟩
    · have e1 : (F == 0) = false := by simpa using h1
      rw [decide_eq_false (fun h => h1 h.1)]
      clear h0 h1
      go_enter Tryz.func7, Tryz.ntmps7
      go_wp2_with fail
      refine HM.out.mono ?_
      rintro e w1 ⟨rfl, b1⟩
      go_wp2
      go_ret
      exact ⟨rfl, b1⟩
  · rw [decide_eq_false h0, if_pos (by omega)] at HM
    rw [decide_eq_false (fun h => by omega)]
    clear h0
    go_enter Tryz.func7, Tryz.ntmps7
    go_wp2_with fail
    refine HM.out.mono ?_
    rintro e w1 ⟨rfl, b1⟩
    go_wp2
    go_ret
    exact ⟨rfl, b1⟩
end
end Go.Proofs.YtkeilgompipfjaaGreatDoor.Ev

/- word.Closers. -/
set_option linter.unusedSimpArgs false
set_option linter.unusedVariables false
namespace Go.Proofs.YtkeilgompipfjaaGreatDoor.Ev
open Go.RowKit

theorem own_two (W : World) (b : Nat) (B : Nat) (hB : B ≤ b) (h : W.heap[b]? = some (.cells #[.int .i64 1, .string ⟨#[]⟩, .string ⟨#[97]⟩, .slice none 0 0, .string ⟨#[]⟩, .int .i64 3, .string ⟨#[]⟩, .string ⟨#[]⟩, .slice none 0 0, .string ⟨#[]⟩] 33 (0, 0))) : OwnV W B (.slice (some ⟨b, 0, none⟩) 2 2) [opE, clE] :=
  ⟨rfl, .inr ⟨b, 2, _, rfl, hB, h, Nat.le_refl _, by decide, rfl, rfl⟩⟩
theorem depth_le {pL tR : ByteArray → Bool} (l : List RE) : depF pL tR l ≤ 64 := by
  rcases dep_range (R := rightF pL tR) l (b := true) (p := 0) (n := 0) (by omega) (by omega) (fun _ => rfl) with h | ⟨_, h⟩
  · show depR _ _ _ _ _ ≤ 64
    omega
  · exact h
set_option maxHeartbeats 4000000 in
set_option maxRecDepth 100000 in
theorem closers_c {pL tR : ByteArray → Bool} (C : Hid (MsC pL tR)) (A : Option Addr) (n c : Nat) (l : List RE) (w : World) (T : EvsIn w A n c l) (hn : n ≤ 100000) (hB : ∀ x ∈ l, RgB x) :
    Calls Tryz.prog 10 #[.slice A n c] w fun e w' => ∃ v, e = .returned v ∧ OwnV w' w.heap.size v (cloF pL tR l) ∧ Below w.heap.size w w' := by
  by_cases h0 : n = 0
  · have hl : l = [] := List.eq_nil_of_length_eq_zero (by rw [← T.len]; exact h0)
    have HE : Hid (cloF pL tR l = [opE, clE]) := Lib.hid (by
      unfold cloF
      rw [if_neg (by rw [hl]; show ¬ ((0 : Int) < 0); decide), if_pos hl])
    rw [HE.out]
    clear HE C T hB hl
    subst h0
    go_enter Tryz.func10, Tryz.ntmps10
    go_wp2
    go_ret
    refine ⟨_, rfl, own_two _ _ _ (by simp) ?_, ((Below.refl w.heap.size w).alloc (Nat.le_refl _) _).alloc (by simp) _⟩
    have h := nblk (w.alloc (.cells #[.int .i64 3, .string ⟨#[]⟩, .string ⟨#[]⟩, .slice none 0 0, .string ⟨#[]⟩] 33)) 33 #[.int .i64 1, .string ⟨#[]⟩, .string ⟨#[97]⟩, .slice none 0 0, .string ⟨#[]⟩, .int .i64 3, .string ⟨#[]⟩, .string ⟨#[]⟩, .slice none 0 0, .string ⟨#[]⟩]
    rw [World.size_alloc] at h
    exact h
  · have z0 : ((n : Int) == 0) = false := by rw [beq_eq_false_iff_ne]; omega
    obtain ⟨d, hd⟩ : ∃ d : Nat, (if depF pL tR l < 0 then 0 else depF pL tR l) = (d : Int) := by
      by_cases h : depF pL tR l < 0
      · exact ⟨0, by rw [if_pos h]; rfl⟩
      · exact ⟨(depF pL tR l).toNat, by rw [if_neg h]; omega⟩
    have hd64 : d ≤ 64 := by
      have := depth_le (pL := pL) (tR := tR) l
      split at hd <;> omega
    have HE : Hid (cloF pL tR l = List.replicate d clE) := Lib.hid (by
      unfold cloF
      by_cases h : depF pL tR l < 0
      · rw [if_pos h] at hd ⊢
        have : d = 0 := by omega
        rw [this]
        rfl
      · rw [if_neg h] at hd
        rw [if_neg h, if_neg (fun e => h0 (by rw [T.len, e]; rfl))]
        congr 1
        omega)
    rw [HE.out]
    have CD : Hid (∀ W, Below w.heap.size w W → Calls Tryz.prog 8 #[.slice A n c] W fun e w' => e = .returned (.int .i64 (d : Int)) ∧ Below W.heap.size W w') := Lib.hid fun W hb => by
      have := depth_c C A n c l W (T.keep hb) hn hB
      rw [hd] at this
      exact this
    have CR : Hid (∀ (W : World) (b : Nat), W.heap[b]? = some (.cells #[.int .i64 3, .string ⟨#[]⟩, .string ⟨#[]⟩, .slice none 0 0, .string ⟨#[]⟩] 33 (0, 0)) → Calls Tryz.prog 16 #[.slice (some ⟨b, 0, none⟩) 1 1, .int .i64 (d : Int)] W fun e w' => ∃ v, e = .returned v ∧ OwnV w' W.heap.size v (List.replicate d clE) ∧ Below W.heap.size W w') := Lib.hid fun W b hb => repeat_any ⟨b, 0, none⟩ 1 d W (by omega) fun j v hv => by
      rw [Addr.add_lit, Nat.zero_add, Lib.cell_of_heap hb]
      rw [← Array.getElem?_toList]
      exact hv
    have HV : Hid (∀ (W : World) v, w.heap.size ≤ W.heap.size → ∀ W', OwnV W' W.heap.size v (List.replicate d clE) → OwnV W' w.heap.size v (List.replicate d clE)) := Lib.hid fun W v hz W' h => Go.Joins.ownsRow_le h hz
    clear HE T hB hd C h0
    generalize List.replicate d clE = cs at *
    have HB0 := Lib.hid ((Below.refl w.heap.size w).alloc (Nat.le_refl _) (.cells #[.int .i64 3, .string ⟨#[]⟩, .string ⟨#[]⟩, .slice none 0 0, .string ⟨#[]⟩] 33))
    have HK0 := Lib.hid (nblk w 33 #[.int .i64 3, .string ⟨#[]⟩, .string ⟨#[]⟩, .slice none 0 0, .string ⟨#[]⟩])
    have HZ0 := Lib.hid (show w.heap.size < (w.alloc (.cells #[.int .i64 3, .string ⟨#[]⟩, .string ⟨#[]⟩, .slice none 0 0, .string ⟨#[]⟩] 33)).heap.size by simp)
    go_enter Tryz.func10, Tryz.ntmps10
    go_wp2_with fail
    generalize w.alloc (.cells #[.int .i64 3, .string ⟨#[]⟩, .string ⟨#[]⟩, .slice none 0 0, .string ⟨#[]⟩] 33) = V at *
    generalize hg : w.heap.size = g at *
    have X : Hid (Below g w V.drew) := Lib.hid HB0.out.drew
    have KX : Hid (V.drew.heap[g]? = some (.cells #[.int .i64 3, .string ⟨#[]⟩, .string ⟨#[]⟩, .slice none 0 0, .string ⟨#[]⟩] 33 (0, 0))) := Lib.hid HK0.out
    have XA : Hid (Below g w (V.alloc (.cells #[.int .i64 3, .string ⟨#[]⟩, .string ⟨#[]⟩, .slice none 0 0, .string ⟨#[]⟩] 33)).drew) := Lib.hid (HB0.out.alloc (Nat.le_of_lt HZ0.out) _).drew
    have KA : Hid ((V.alloc (.cells #[.int .i64 3, .string ⟨#[]⟩, .string ⟨#[]⟩, .slice none 0 0, .string ⟨#[]⟩] 33)).drew.heap[g]? = some (.cells #[.int .i64 3, .string ⟨#[]⟩, .string ⟨#[]⟩, .slice none 0 0, .string ⟨#[]⟩] 33 (0, 0))) := Lib.hid ((Below.heap_alloc V _ _ HZ0.out).trans HK0.out)
    have KS : Hid ((V.alloc (.cells #[.int .i64 3, .string ⟨#[]⟩, .string ⟨#[]⟩, .slice none 0 0, .string ⟨#[]⟩] 33)).drew.heap[V.heap.size]? = some (.cells #[.int .i64 3, .string ⟨#[]⟩, .string ⟨#[]⟩, .slice none 0 0, .string ⟨#[]⟩] 33 (0, 0))) := Lib.hid (nblk V 33 _)
    have LA : Hid (V.heap.size < (V.alloc (.cells #[.int .i64 3, .string ⟨#[]⟩, .string ⟨#[]⟩, .slice none 0 0, .string ⟨#[]⟩] 33)).drew.heap.size) := Lib.hid (show V.heap.size < (V.alloc _).heap.size by simp)
    have LG : Hid (g < (V.alloc (.cells #[.int .i64 3, .string ⟨#[]⟩, .string ⟨#[]⟩, .slice none 0 0, .string ⟨#[]⟩] 33)).drew.heap.size) := Lib.hid (Nat.lt_trans HZ0.out LA.out)
    have LX : Hid (g < V.drew.heap.size) := Lib.hid HZ0.out
    clear HB0 HK0 HZ0
    go_region_held3 (fun W => W.cell? ⟨g, 0, none⟩ = some (.int .i64 3) ∧ W.cell? ⟨g, 1, none⟩ = some (.string ⟨#[]⟩) ∧ W.cell? ⟨g, 2, none⟩ = some (.string ⟨#[]⟩) ∧ W.cell? ⟨g, 3, none⟩ = some (.slice none 0 0) ∧ W.cell? ⟨g, 4, none⟩ = some (.string ⟨#[]⟩))
      (first | with_reducible exact cells5 KX.out | with_reducible exact cells5 KA.out | with_reducible exact cells5 KB.out | with_reducible exact cells5 KC.out | with_reducible exact cells5 KD.out | fail)
      (first
        | (go_at_call 8; with_reducible refine (CD.out _ X.out).mono ?_; rintro e w3 ⟨rfl, b3⟩
           have KB := Lib.hid ((b3.block _ LX.out).trans KX.out)
           have LB := Lib.hid (Nat.lt_of_lt_of_le LX.out b3.size)
           have XB := Lib.hid (X.out.trans (b3.mono (Nat.le_of_lt LX.out)))
           have KC := Lib.hid ((Below.heap_alloc w3 (.cells #[.int .i64 3, .string ⟨#[]⟩, .string ⟨#[]⟩, .slice none 0 0, .string ⟨#[]⟩] 33) _ LB.out).trans KB.out)
           have KT := Lib.hid (nblk w3 33 #[.int .i64 3, .string ⟨#[]⟩, .string ⟨#[]⟩, .slice none 0 0, .string ⟨#[]⟩])
           have XC := Lib.hid (XB.out.alloc (Nat.le_of_lt LB.out) (.cells #[.int .i64 3, .string ⟨#[]⟩, .string ⟨#[]⟩, .slice none 0 0, .string ⟨#[]⟩] 33))
           have LC : Hid (g ≤ (w3.alloc (.cells #[.int .i64 3, .string ⟨#[]⟩, .string ⟨#[]⟩, .slice none 0 0, .string ⟨#[]⟩] 33)).heap.size) := Lib.hid (by rw [World.size_alloc]; exact Nat.le_of_lt (Nat.lt_succ_of_lt LB.out))
           clear b3 KA KS XA LA LG)
        | (go_at_call 8; with_reducible refine (CD.out _ XA.out).mono ?_; rintro e w3 ⟨rfl, b3⟩
           have KB := Lib.hid ((b3.block _ LG.out).trans KA.out)
           have KT := Lib.hid ((b3.block _ LA.out).trans KS.out)
           have XC := Lib.hid (XA.out.trans (b3.mono (Nat.le_of_lt LG.out)))
           have LC := Lib.hid (Nat.le_of_lt (Nat.lt_of_lt_of_le LG.out b3.size))
           clear b3 KA KS XA LA LG KX X LX)
        | (go_at_call 16; with_reducible refine (CR.out _ _ KT.out).mono ?_; rintro e w4 ⟨v4, rfl, o4, b4⟩
           have HO := Lib.hid (HV.out _ _ LC.out _ o4)
           have HF := Lib.hid (XC.out.trans (b4.mono LC.out))
           have KD := Lib.hid ((b4.block _ (Array.getElem?_eq_some_iff.1 (by first | with_reducible exact KC.out | with_reducible exact KB.out)).1).trans (by first | with_reducible exact KC.out | with_reducible exact KB.out))
           clear b4 o4)
        | fail)
    all_goals
      go_wp2
      go_ret
      exact ⟨_, rfl, by rw [hg]; exact HO.out, by rw [hg]; exact HF.out⟩
end Go.Proofs.YtkeilgompipfjaaGreatDoor.Ev

/- word.Nodes. -/
set_option linter.unusedSimpArgs false
set_option linter.unusedVariables false
namespace Go.Proofs.YtkeilgompipfjaaGreatDoor.Ev
open Go.RowKit

theorem Tryz.info3 : (Tryz.prog.info? 3).map (fun i => (i.zero, i.size, i.bytes)) = some (some (.int .i64 0), 1, 8) := by kernel_rfl
theorem nod_three {i : Nat} {x : RE} {r : List RE} (h : x.kind = 3) : nodG i (x :: r) = nodG (i + 1) r := by rw [nodG, if_pos h]
theorem nod_more {i : Nat} {x : RE} {r : List RE} (h : x.kind ≠ 3) : nodG i (x :: r) = (i : Int) :: nodG (i + 1) r := by rw [nodG, if_neg h]
def NdRel (N : List Int) (l : List RE) (n : Nat) (w : World) (v i : Value) (wr : World) : Prop :=
  ∃ (k : Nat) (pre : List Int), i = .int .i64 k ∧ k ≤ n ∧ pre.length ≤ k ∧ Hid (OwnI wr w.heap.size v pre) ∧ Hid (Below w.heap.size w wr) ∧ Hid (N = pre ++ nodG k (l.drop k))
set_option maxHeartbeats 2000000 in
set_option maxRecDepth 100000 in
theorem nodes_c {pL tR : ByteArray → Bool} (C : Hid (MsC pL tR)) (A : Option Addr) (n c : Nat) (l : List RE) (w : World) (T : EvsIn w A n c l) (hn : n ≤ 100000) (hB : ∀ x ∈ l, RgB x) :
    Calls Tryz.prog 9 #[.slice A n c] w fun e w' => ∃ v, e = .returned v ∧ OwnI w' w.heap.size v (nodF pL tR l) ∧ Below w.heap.size w w' := by
  have CB := Lib.hid (begins_c C A n c l w T hn hB)
  obtain ⟨N, hN⟩ : ∃ N, N = nodF pL tR l := ⟨_, rfl⟩
  rw [← hN]
  by_cases h0 : 0 ≤ depF pL tR l
  · obtain ⟨i0, hi, hz0, hz1, hz2⟩ := info_parts Tryz.info3
    have HN : Hid (N = [] ++ nodG 0 (l.drop 0)) := Lib.hid (by rw [hN]; unfold nodF; rw [if_neg (by omega), List.drop_zero, List.nil_append])
    rw [decide_eq_true h0] at CB
    have HT := Lib.hid T
    clear T hB hN h0 C
    go_enter Tryz.func9, Tryz.ntmps9
    go_wp2_with fail
    refine CB.out.mono ?_
    rintro e w1 ⟨rfl, b1⟩
    have HB1 := Lib.hid b1
    clear CB b1
    go_wp2_with fail
    go_loopw [3, 11] (fun v i wr => NdRel N l n w v i wr) (fun _ i _ => n - (intOf i).toNat)
    case atStart => exact ⟨0, [], rfl, Nat.zero_le _, Nat.zero_le _, Lib.hid (World.ownsRow_nil _ _ _ _), HB1, HN⟩
    case round =>
      clear HB1 HN
      obtain ⟨k, pre, rfl, hk, hp, HO, HR, HA⟩ := hrel
      by_cases hlt : k < n
      · have k1 : (k : Int) < (n : Int) := by omega
        have k2 : (0 : Int) ≤ (k : Int) := by omega
        have hkl : k < l.length := by rw [← HT.out.len]; exact hlt
        have hx := List.getElem?_eq_getElem hkl
        obtain ⟨b, off, Aa, na, ca, hA, hbl, TA, c0, c1, c2, c3, c4⟩ := (HT.out.rd.keep HR.out) k _ hx
        have HD : Hid (l.drop k = l[k] :: l.drop (k + 1)) := Lib.hid (List.drop_eq_getElem_cons hkl)
        generalize l[k] = x at *
        subst hA
        obtain ⟨kind, sp, lo, ats, tx⟩ := x
        dsimp only at *
        have HO1 := Lib.hid (HO.out.alloc (.cells #[.int .i64 kind, .string sp, .string lo, .slice Aa na ca, .string tx] 33))
        have HB1 := Lib.hid (HR.out.alloc HR.out.size (.cells #[.int .i64 kind, .string sp, .string lo, .slice Aa na ca, .string tx] 33))
        clear hx hkl hbl TA
        by_cases h3 : kind = 3
        · have HA2 : Hid (N = pre ++ nodG (k + 1) (l.drop (k + 1))) := Lib.hid (by rw [HA.out, HD.out, nod_three h3])
          subst h3
          clear HA HD HO HR
          go_wp2
          go_roundw
          case rel => exact ⟨k + 1, pre, by go_num, by omega, by omega, HO1, HB1, HA2⟩
          case measure => simp only [intOf]; omega
        · have HA2 : Hid (N = (pre ++ [(k : Int)]) ++ nodG (k + 1) (l.drop (k + 1))) := Lib.hid (by rw [HA.out, HD.out, nod_more h3, List.append_assoc]; rfl)
          have e3 : (kind != 3) = true := by simpa using h3
          clear HA HD HO HR h3
          have hz := HB1.out.size
          have hzq : w.heap.size ≤ ((wr.alloc (.cells #[.int .i64 kind, .string sp, .string lo, .slice Aa na ca, .string tx] 33)).alloc (.cells #[.int .i64 (k : Int)] 3)).heap.size := by simp at hz ⊢; omega
          have HO2 := Lib.hid (HO1.out.alloc (.cells #[.int .i64 (k : Int)] 3))
          have HB2 := Lib.hid (HB1.out.alloc hz (.cells #[.int .i64 (k : Int)] 3))
          have HNew : Hid (∀ j u, [Value.int .i64 (k : Int)][j]? = some u → ((wr.alloc (.cells #[.int .i64 kind, .string sp, .string lo, .slice Aa na ca, .string tx] 33)).alloc (.cells #[.int .i64 (k : Int)] 3)).cell? ((⟨wr.heap.size + 1, 0, none⟩ : Addr).add j) = some u) := Lib.hid (by
            have h := lit_cells (wr.alloc (.cells #[.int .i64 kind, .string sp, .string lo, .slice Aa na ca, .string tx] 33)) #[.int .i64 (k : Int)] 3
            rw [World.size_alloc] at h
            exact h)
          go_wp2_with (at_builtin; refine wpList_append_own _ rfl _ _ 35 rfl w.heap.size 3 i0 (.int .i64 0) 1 8 Tryz.underlying35 hi hz0 hz1 hz2 rfl (by decide) _ _ _ rfl HO2.out ⟨wr.heap.size + 1, 0, none⟩ 1 1 [.int .i64 (k : Int)] rfl rfl HNew.out (ints_oneCell .i64 [(k : Int)]) (by unfold maxLen; omega) (by omega) hzq ?_)
          intro v' w2 hown2 hgrow _
          have HB3 := Lib.hid (HB2.out.grown hgrow hzq (fun g hg => (World.ownsRow.lt HO2.out g hg).1))
          have HO3 : Hid (OwnI w2 w.heap.size v' (pre ++ [(k : Int)])) := Lib.hid (by unfold OwnI; rw [List.map_append, List.length_append]; exact hown2)
          clear hown2 hgrow HO2 HB2 HO1 HB1 hz hzq
          go_wp2
          go_roundw
          case rel => exact ⟨k + 1, pre ++ [(k : Int)], by go_num, by omega, by simp; omega, HO3, HB3, HA2⟩
          case measure => simp only [intOf]; omega
      · have k1 : ¬ (k : Int) < (n : Int) := by omega
        have HE : Hid (N = pre) := Lib.hid (by rw [HA.out, List.drop_of_length_le (by rw [← HT.out.len]; omega)]; simp [nodG])
        clear HA
        go_wp2
        go_ret
        exact ⟨_, rfl, by rw [HE.out]; exact HO.out, HR.out⟩
  · have HE : Hid (N = []) := Lib.hid (by rw [hN]; unfold nodF; rw [if_pos (by omega)])
    rw [decide_eq_false h0] at CB
    clear T hB hN h0 C
    go_enter Tryz.func9, Tryz.ntmps9
    go_wp2_with fail
    refine CB.out.mono ?_
    rintro e w1 ⟨rfl, b1⟩
    go_wp2
    go_ret
    exact ⟨_, rfl, by rw [HE.out]; exact World.ownsRow_nil _ _ _ _, b1⟩
end Go.Proofs.YtkeilgompipfjaaGreatDoor.Ev
