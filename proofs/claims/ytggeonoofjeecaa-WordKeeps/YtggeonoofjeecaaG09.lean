/-
  Merged by program out of the texts WdAllow, EvLaw4, WdWc of one seat.
-/
import Derived.Test.YtggeonoofjeecaaG06
import Derived.Test.YtggeonoofjeecaaG08
import Derived.Test.YtggeonoofjeecaaG03
import Derived.Test.YtggeonoofjeecaaG05
import Derived.Test.YtggeonoofjeecaaG01

/- word.allowed: a text is UTF-8, and all its runes may stand in a text. -/
set_option linter.unusedSimpArgs false
set_option linter.unusedVariables false
namespace Go.Proofs.Ytggeonoofjeecaa.Ev
open Go.RowKit

theorem rt_nil : Rt [] := ⟨rfl, fun r hr => by simp [decF_nil] at hr⟩
theorem drop_ne {s : ByteArray} {a : Nat} (h : a < s.size) : (byts s).drop a ≠ [] := fun e => by
  have := congrArg List.length e
  rw [List.length_drop, byts_len] at this
  simp at this
  omega
theorem rt_bad {s : ByteArray} {a : Nat} (h : a < s.size) (he : (runeF s a).2.2 ≠ 0) : ¬ Rt ((byts s).drop a) := by
  rw [runeF_dec s a h] at he
  rintro ⟨h1, _⟩
  rw [decF_err _ (drop_ne h) he] at h1
  exact he h1
theorem rt_go {s : ByteArray} {a : Nat} (h : a < s.size) (he : (runeF s a).2.2 = 0) : Rt ((byts s).drop a) ↔ (Chr (runeF s a).1 ∧ Rt ((byts s).drop (a + (runeF s a).2.1.toNat))) := by
  rw [runeF_dec s a h] at he ⊢
  unfold Rt
  rw [decF_ok _ (drop_ne h) ((byts_nn s).drop a) he, List.drop_drop]
  simp only [List.mem_cons, forall_eq_or_imp]
  exact ⟨fun ⟨h1, h2, h3⟩ => ⟨h2, h1, h3⟩, fun ⟨h2, h1, h3⟩ => ⟨h1, h2, h3⟩⟩
set_option maxHeartbeats 2000000 in
set_option maxRecDepth 100000 in
theorem allowed_any (s : ByteArray) (w : World) (hs : s.size ≤ 100000) :
    Calls Try.prog 23 #[.string s] w fun e w' => e = .returned (.bool (rtF s)) ∧ w = w' := by
  obtain ⟨F, hF⟩ : ∃ F, F = rtF s := ⟨_, rfl⟩
  rw [← hF]
  have HY : Hid (Rt (byts s) → F = true) := Lib.hid fun h => by rw [hF, rtF_yes h]
  have HN : Hid (¬ Rt (byts s) → F = false) := Lib.hid fun h => by rw [hF, rtF_no h]
  clear hF
  go_enter Try.func23, Try.ntmps23
  go_wp2_with fail
  go_loop [3] (fun vi => ∃ k : Nat, vi = .int .i64 k ∧ k ≤ s.size ∧ Hid (Rt (byts s) ↔ Rt ((byts s).drop k))) (fun vi => s.size - (intOf vi).toNat)
  case atStart => exact ⟨0, rfl, Nat.zero_le _, Lib.hid (by rw [List.drop_zero])⟩
  case round =>
    obtain ⟨k, rfl, hk, HR⟩ := hrel
    by_cases hlt : k < s.size
    · have d1 : (k : Int) < (s.size : Int) := by omega
      have C := Lib.hid (rune_at s k w (by unfold maxLen; omega))
      have HO := runeF_okay s k hlt
      have HB := Lib.hid (fun he => rt_bad hlt (a := k) he)
      have HG := Lib.hid (fun he => rt_go hlt (a := k) he)
      unfold Okay at HO
      generalize runeF s k = x at *
      obtain ⟨r, n, er⟩ := x
      dsimp only at *
      by_cases he : er = 0
      · subst he
        have hn : 1 ≤ n ∧ n ≤ (s.size - k : Nat) := by omega
        obtain ⟨m, rfl⟩ := Int.eq_ofNat_of_zero_le (show 0 ≤ n by omega)
        have hm1 : 1 ≤ m := by omega
        have hm2 : k + m ≤ s.size := by omega
        have hr1 : 0 ≤ r ∧ r ≤ 1114111 := by omega
        have HI := Lib.hid (HR.out.trans (HG.out rfl))
        rw [Int.toNat_natCast] at HI
        have CC := chr_any r
        clear HO HG HB HR hn
        by_cases hc : Chr r
        · rw [decide_eq_true hc] at CC
          have CH := Lib.hid CC
          have HR2 : Hid (Rt (byts s) ↔ Rt ((byts s).drop (k + m))) := Lib.hid (HI.out.trans ⟨fun h => h.2, fun h => ⟨hc, h⟩⟩)
          clear CC HI hc
          go_wp2_with (first | (go_at_call 30; refine C.out.mono ?_; rintro e w' ⟨rfl, rfl⟩) | (go_at_call 31; refine (CH.out _).mono ?_; rintro e w' ⟨rfl, rfl⟩) | fail)
          refine ⟨⟨k + m, by go_num, hm2, HR2⟩, by simp only [intOf]; omega⟩
        · rw [decide_eq_false hc] at CC
          have CH := Lib.hid CC
          have HE : Hid (F = false) := Lib.hid (HN.out fun h => hc (HI.out.1 h).1)
          clear CC HI hc
          go_wp2_with (first | (go_at_call 30; refine C.out.mono ?_; rintro e w' ⟨rfl, rfl⟩) | (go_at_call 31; refine (CH.out _).mono ?_; rintro e w' ⟨rfl, rfl⟩) | fail)
          go_ret
          exact ⟨by rw [HE.out] <;> rfl, rfl⟩
      · have HE : Hid (F = false) := Lib.hid (HN.out fun h => HB.out he (HR.out.1 h))
        have e1 : (er != 0) = true := bne_iff_ne.2 he
        clear HO HG HB HR he
        go_wp2_with (first | (go_at_call 30; refine C.out.mono ?_; rintro e w' ⟨rfl, rfl⟩) | fail)
        go_ret
        exact ⟨by rw [HE.out] <;> rfl, rfl⟩
    · have d1 : ¬ (k : Int) < (s.size : Int) := by omega
      have HE : Hid (F = true) := Lib.hid (HY.out (HR.out.2 (by rw [List.drop_of_length_le (by rw [byts_len]; omega)]; exact rt_nil)))
      clear HR
      go_wp2
      go_ret
      exact ⟨by rw [HE.out] <;> rfl, rfl⟩
theorem allow_c : StrC 23 rtF := fun s W hs => (allowed_any s W (by omega)).mono fun e w' ⟨h1, h2⟩ => ⟨h1, by rw [← h2]; exact Below.refl _ _⟩
theorem plainP_c : StrC 29 plF := fun s W _ => Nz.plain_any s W
end Go.Proofs.Ytggeonoofjeecaa.Ev

/- WordKeeps (layer 9) over the contracts of what it calls. -/
set_option linter.unusedSimpArgs false
set_option linter.unusedVariables false
namespace Go.Proofs.Ytggeonoofjeecaa.Ev
open Go.RowKit

/-- A row that may be written into. -/
def RowB (W : World) (T : TypeId) (z : Nat) (A : Option Addr) (m B : Nat) : Prop :=
  0 < m → ∃ g cur, A = some ⟨g, 0, none⟩ ∧ B ≤ g ∧ W.heap[g]? = some (.cells cur T (0, 0)) ∧ m * z ≤ cur.size
theorem own_row {W : World} {B m c z : Nat} {T : TypeId} {A : Option Addr} {xs : List Value} (h : W.ownsRow B T z (.slice A m c) m xs) : RowB W T z A m B := fun hm => by
  rcases h.2 with ⟨_, h0⟩ | ⟨g, cap, cur, q, hB, hg, h1, _, h3, _⟩
  · omega
  · injection q with q1 q2 q3
    exact ⟨g, cur, q1, hB, hg, by rw [h3]; exact Nat.mul_le_mul_right z h1⟩
theorem blk_set {W : World} {b j : Nat} {x : Value} {cs : Array Value} {T : TypeId} {fr : Nat × Nat} (h : W.heap[b]? = some (.cells cs T fr)) : (W.setCell ⟨b, j, none⟩ x).heap[b]? = some (.cells (cs.set! j x) T fr) := by
  simp [World.setCell, Array.getElem?_modify, h]
theorem froz_of {W : World} {b : Nat} {cs : Array Value} {T : TypeId} (h : W.heap[b]? = some (.cells cs T (0, 0))) (j : Nat) : W.frozen? ⟨b, j, none⟩ = false := by
  unfold World.frozen?
  rw [h]
  simp
/-- One cell of the row: it is there, it may be written, and the row stays one. -/
theorem RowB.at {W : World} {T : TypeId} {z m B i : Nat} {A : Option Addr} (h : RowB W T z A m B) (hi : i < m) (hz : 0 < z) : ∃ g, A = some ⟨g, 0, none⟩ ∧ B ≤ g ∧ (∃ u, W.cell? ⟨g, i * z, none⟩ = some u) ∧ W.frozen? ⟨g, i * z, none⟩ = false ∧ ∀ x, RowB (W.setCell ⟨g, i * z, none⟩ x) T z (some ⟨g, 0, none⟩) m B := by
  obtain ⟨g, cur, e, hB, hg, hs⟩ := h (by omega)
  have hlt : i * z < cur.size := by
    have : (i + 1) * z ≤ m * z := Nat.mul_le_mul_right z hi
    rw [Nat.add_mul, Nat.one_mul] at this
    omega
  exact ⟨g, e, hB, ⟨cur[i * z], cells_of hg _ (Array.getElem?_eq_getElem hlt)⟩, froz_of hg _, fun x _ => ⟨g, cur.set! (i * z) x, rfl, hB, blk_set hg, by simpa using hs⟩⟩
theorem clo_kind {pL tR : ByteArray → Bool} {l : List RE} : ∀ x ∈ cloF pL tR l, (x.kind == 7) = false := fun x hx => by
  unfold cloF at hx
  split at hx
  · simp at hx
  · split at hx
    · simp at hx
      rcases hx with rfl | rfl <;> rfl
    · rw [List.eq_of_mem_replicate hx]
      rfl
def WkRel (m : Nat) (T : TypeId) (z : Nat) (A : Option Addr) (W0 : World) (i : Value) (wr : World) : Prop :=
  ∃ k : Nat, i = .int .i64 k ∧ k ≤ m ∧ Hid (Below W0.heap.size W0 wr) ∧ Hid (RowB wr T z A m W0.heap.size)
def WlRel (m : Nat) (W0 : World) (i : Value) (wr : World) : Prop := W0 = wr ∧ ∃ k : Nat, i = .int .i64 k ∧ k ≤ m
set_option maxHeartbeats 8000000 in
set_option maxRecDepth 100000 in
theorem keeps_law (G : World → Prop) (pL tR : ByteArray → Bool) (hW : Wc G pL tR) (A : Option Addr) (n c : Nat) (l : List RE) (w : World) (T : EvsIn w A n c l) (hG : G w) : Calls Try.prog 6 #[.slice A n c] w fun e w' => e = .returned (.bool true) ∧ Below w.heap.size w w' := by
  obtain ⟨i0, hi, hz0, hz1, hz2⟩ := info_parts Try.info26
  have CA := Lib.hid (hW.aw w hG)
  have HW := Lib.hid hW
  have HG : Hid (∀ W, Below w.heap.size w W → G W) := Lib.hid fun W hb => hW.keep _ _ hG hb
  have HT : Hid (∀ W, Below w.heap.size w W → EvsIn W A n c l) := Lib.hid fun W hb => T.keep hb
  have HL := Lib.hid T.len
  have HNil := Lib.hid T.nil
  have CF : Hid (∀ W, Below w.heap.size w W → Calls Try.prog 8 #[.slice A n c] W (FwPost l W)) := Lib.hid fun W hb => few_any A n c l W (T.keep hb)
  clear T hG hW
  go_enter Try.func6, Try.ntmps6
  go_wp2_with fail
  refine CA.out.mono ?_
  rintro e w1 ⟨rfl, b1⟩
  have B1 := Lib.hid b1
  clear CA b1
  go_wp2_with fail
  refine (CF.out _ B1.out).mono ?_
  rintro e w2 ⟨bf, rfl, hf, rfl⟩
  clear CF
  cases bf with
  | false =>
    have CA2 := Lib.hid (HW.out.aw _ (HG.out _ B1.out))
    clear hf
    go_wp2_with fail
    refine CA2.out.mono ?_
    rintro e w2 ⟨rfl, b2⟩
    go_wp2
    go_ret
    exact ⟨rfl, B1.out.trans (b2.mono B1.out.size)⟩
  | true =>
    have HF : Hid (FewL l) := Lib.hid ⟨by have := (hf rfl).1; omega, (hf rfl).2⟩
    have hn4 : n ≤ 400 := by rw [HL.out]; exact (hf rfl).1
    have C17 : Hid (∀ W, Below w.heap.size w W → Calls Try.prog 17 #[.slice A n c] W fun e w' => ∃ v, e = .returned v ∧ OwnI w' W.heap.size v (nodF pL tR l) ∧ Below W.heap.size W w') := Lib.hid fun W hb => HW.out.nodes A n c l W (HG.out W hb) (HT.out W hb) HF.out
    have C18 : Hid (∀ W, Below w.heap.size w W → Calls Try.prog 18 #[.slice A n c] W fun e w' => ∃ v, e = .returned v ∧ OwnV w' W.heap.size v (cloF pL tR l) ∧ Below W.heap.size W w') := Lib.hid fun W hb => HW.out.closers A n c l W (HG.out W hb) (HT.out W hb) HF.out
    have HCi : Hid (∀ W, PeO W (cloP (cloF pL tR l))) := Lib.hid fun W => clo_in W
    have HCk := Lib.hid (clo_kind (pL := pL) (tR := tR) (l := l))
    have hc64 := (clo_few (pL := pL) (tR := tR) (l := l)).1
    obtain ⟨ps, hu1, hu2, hu3⟩ := (HT.out _ B1.out).pairs
    have hul : ps.length = n := by rw [← List.length_map (f := (·.1)), hu1, ← HL.out]
    have HBe : Hid (Below w1.heap.size w1 (w1.alloc (.cells #[] 26))) := Lib.hid ((Below.refl _ _).alloc (Nat.le_refl _) _)
    have HE0 : Hid ((w1.alloc (.cells #[] 26)).ownsRow w1.heap.size 26 5 (.slice (some ⟨w1.heap.size, 0, none⟩) 0 0) 0 []) := Lib.hid (emp_own (nblk w1 26 #[]) (Nat.le_refl _))
    have HU3 : Hid (∀ W, Below w1.heap.size w1 W → ∀ ad, A = some ad → ∀ j u, (peL ps)[j]? = some u → W.cell? (ad.add j) = some u) := Lib.hid fun W hb ad ha j u hu => (hb.cell (p := ad.add j) (Lib.lt_of_cell (hu3 ad ha j u hu))).trans (hu3 ad ha j u hu)
    have HU1 := Lib.hid hu1
    have HU2 := Lib.hid hu2
    have HUl := Lib.hid hul
    have hpl : (peL ps).length = n * 5 := by rw [peL_len, hul]
    have hsz : w1.heap.size ≤ (w1.alloc (.cells #[] 26)).heap.size := by simp
    clear hf HF HW HG hu1 hu2 hu3 hul
    generalize cloF pL tR l = cs at *
    generalize nodF pL tR l = nd at *
    go_wp2_with (at_builtin
                 refine wpList_append_any (w := w1.alloc (.cells #[] 26)) rfl _ _ 29 rfl w1.heap.size 26 i0 (.agg #[.int .i64 0, .string ⟨#[]⟩, .string ⟨#[]⟩, .slice none 0 0, .string ⟨#[]⟩]) 5 80 Try.underlying29 hi hz0 hz1 hz2 rfl (by decide) _ 0 [] rfl HE0.out A n c (peL ps) rfl HNil.out hpl (HU3.out _ HBe.out) (peL_one ps) (by unfold maxLen; omega) (by omega) hsz ?_)
    intro v7 w7 n1 n2
    have B7 := Lib.hid (HBe.out.grown n2 hsz (fun j hj => (World.ownsRow.lt HE0.out j hj).1))
    obtain ⟨A7, c7, hv⟩ := own_slice n1
    subst hv
    have E7 : Hid (EvsIn w7 A7 n c7 l) := Lib.hid (by
      have h := own_evs (ps := ps) n1 HUl.out.symm (HU2.out.keep B7.out) (by omega)
      rw [HU1.out] at h
      exact h)
    have W7 := Lib.hid (B1.out.trans (B7.out.mono B1.out.size))
    clear n1 n2 HBe HE0 HU3 HNil hpl hsz HU1 HU2 HUl B7 B1
    go_wp2_with fail
    refine (C17.out _ W7.out).mono ?_
    rintro e w8 ⟨v8, rfl, o8, b8⟩
    obtain ⟨A8, c8, hv⟩ := own_slice o8
    subst hv
    obtain ⟨m, hm⟩ : ∃ m, m = nd.length := ⟨_, rfl⟩
    have hmx : m ≤ 9223372036854775807 := by
      obtain ⟨_, _, _, _, h⟩ := OwnI.rd o8
      unfold maxLen at h
      omega
    have HR8 : Hid (RowB w8 3 1 A8 m w7.heap.size) := Lib.hid (by rw [hm]; exact own_row o8)
    have B8 := Lib.hid b8
    rw [← hm]
    clear o8 b8 hm C17
    go_wp2_with fail
    go_loopw [5] (fun i wr => WkRel m 3 1 A8 w7 i wr) (fun i _ => m - (intOf i).toNat)
    case atStart => exact ⟨0, rfl, Nat.zero_le _, B8, HR8⟩
    case round =>
      clear B8 HR8
      obtain ⟨i, rfl, him, HB, HR⟩ := hrel
      by_cases hlt : i < m
      · have g1 : (i : Int) < (m : Int) := by omega
        have g0 : (0 : Int) ≤ (i : Int) := by omega
        obtain ⟨g, rfl, hlo, ⟨u, k0⟩, f0, hset⟩ := HR.out.at hlt (by decide)
        rw [Nat.mul_one] at k0 f0
        have HR2 := Lib.hid (hset (.int .i64 (-7)))
        rw [Nat.mul_one] at HR2
        have HB2 := Lib.hid (HB.out.setCell (p := ⟨g, i, none⟩) hlo (.int .i64 (-7)))
        clear hset hlo HR HB
        go_wp2
        go_roundw
        case rel => exact ⟨i + 1, by go_num, by omega, HB2, HR2⟩
        case measure => simp only [intOf]; omega
      · have g1 : ¬ (i : Int) < (m : Int) := by omega
        have Wr := Lib.hid (W7.out.trans (HB.out.mono W7.out.size))
        have Er := Lib.hid (E7.out.keep HB.out)
        clear HR HB E7 W7 him hlt
        go_wp2_with fail
        refine (C18.out _ Wr.out).mono ?_
        rintro e w9 ⟨v9, rfl, o9, b9⟩
        obtain ⟨A9, c9, hv⟩ := own_slice o9
        subst hv
        obtain ⟨q, hq⟩ : ∃ q, q = cs.length := ⟨_, rfl⟩
        have HQ := Lib.hid hq
        have hq6 : q ≤ 64 := by omega
        have HR9 : Hid (RowB w9 26 5 A9 q wr.heap.size) := Lib.hid (by rw [hq]; exact own_row o9)
        have B9 := Lib.hid b9
        rw [← hq]
        clear o9 b9 hq hc64
        go_wp2_with fail
        go_loopw [7] (fun i w' => WkRel q 26 5 A9 wr i w') (fun i _ => q - (intOf i).toNat)
        case atStart => exact ⟨0, rfl, Nat.zero_le _, B9, HR9⟩
        case round =>
          clear B9 HR9
          rename_i wr0
          obtain ⟨j, rfl, hjq, HB, HR⟩ := hrel
          by_cases hlt : j < q
          · have g1 : (j : Int) < (q : Int) := by omega
            have g0 : (0 : Int) ≤ (j : Int) := by omega
            obtain ⟨g, rfl, hlo, ⟨u, k0⟩, f0, hset⟩ := HR.out.at hlt (by decide)
            have HR2 := Lib.hid (hset (.int .i64 7))
            have HB2 := Lib.hid (HB.out.setCell (p := ⟨g, j * 5, none⟩) hlo (.int .i64 7))
            clear hset hlo HR HB
            go_wp2
            go_roundw
            case rel => exact ⟨j + 1, by go_num, by omega, HB2, HR2⟩
            case measure => simp only [intOf]; omega
          · have g1 : ¬ (j : Int) < (q : Int) := by omega
            have Ws := Lib.hid (Wr.out.trans (HB.out.mono Wr.out.size))
            have Es := Lib.hid (Er.out.keep HB.out)
            clear HR HB Er Wr hjq hlt
            go_wp2_with fail
            refine (C18.out _ Ws.out).mono ?_
            rintro e wt ⟨v10, rfl, o10, b10⟩
            obtain ⟨A10, c10, hv⟩ := own_slice o10
            subst hv
            have HE10 : Hid (EvsIn wt A10 q c10 cs) := Lib.hid (by
              have o : wt.ownsRow _ 26 5 (.slice A10 cs.length c10) cs.length (cs.flatMap reC) := o10
              rw [← HQ.out] at o
              have h := own_evs (ps := cloP cs) (by rw [cloP_cells]; exact o) (by rw [HQ.out]; unfold cloP; rw [List.length_map]) (HCi.out wt) (by omega)
              rw [cloP_fst] at h
              exact h)
            rw [← HQ.out]
            have Wt := Lib.hid (Ws.out.trans (b10.mono Ws.out.size))
            have Et := Lib.hid (Es.out.keep b10)
            clear o10 b10 Es Ws C18
            go_wp2_with fail
            go_loopw [9] (fun i w' => WlRel q wt i w') (fun i _ => q - (intOf i).toNat)
            case atStart => exact ⟨rfl, 0, rfl, Nat.zero_le _⟩
            case round =>
              obtain ⟨rfl, y, rfl, hyq⟩ := hrel
              by_cases hlt : y < q
              · have g2 : (y : Int) < (q : Int) := by omega
                have g0 : (0 : Int) ≤ (y : Int) := by omega
                have hyl : y < cs.length := by rw [← HQ.out]; exact hlt
                have hx := List.getElem?_eq_getElem hyl
                obtain ⟨b, off, Aa, na, ca, rfl, _, _, k0, _, _, _, _⟩ := HE10.out.rd y _ hx
                have h7 := HCk.out _ (List.getElem_mem hyl)
                generalize cs[y].kind = kk at *
                clear hx
                go_wp2
                go_roundw
                case rel => exact ⟨rfl, y + 1, by go_num, by omega⟩
                case measure => simp only [intOf]; omega
              · have g2 : ¬ (y : Int) < (q : Int) := by omega
                have CS := Lib.hid (same_any l n A A7 c c7 wt (HT.out _ Wt.out) Et.out)
                clear HE10 HCk HCi HQ Et HT hyq hlt
                go_wp2_with fail
                refine CS.out.mono ?_
                rintro e wz ⟨rfl, bz⟩
                have Wz := Lib.hid (Wt.out.trans (bz.mono Wt.out.size))
                clear CS bz
                go_wp2
                go_ret
                exact ⟨rfl, Wz.out⟩
end Go.Proofs.Ytggeonoofjeecaa.Ev

/- What layer 9 statements ask of the program and of the document, all of it. -/
set_option linter.unusedSimpArgs false
set_option linter.unusedVariables false
namespace Go.Proofs.Ytggeonoofjeecaa.Ev
open Go.RowKit

theorem ms_c {pL tR : ByteArray → Bool} (C : Hid (EvP pL tR)) : MsC pL tR := fun A n c l W T hn hB => measure_any pL tR C A n c l W T hn hB
theorem rt_mk {s : ByteArray} {l : List Int} {k : Nat} (h : decF (byts s) = (l, k, 0)) (h2 : ∀ r ∈ l, Chr r) : rtF s = true := rtF_yes ⟨by rw [h], by rw [h]; exact h2⟩
theorem rt_e : rtF emB = true := rt_mk (s := emB) (l := []) (k := 0) (by decide +kernel) (by decide)
theorem rt_a : rtF ⟨#[97]⟩ = true := rt_mk (l := [97]) (k := 1) (by decide +kernel) (by decide)
theorem rt_x : rtF ⟨#[120]⟩ = true := rt_mk (l := [120]) (k := 1) (by decide +kernel) (by decide)
theorem pl_a : plF ⟨#[97]⟩ = true := by unfold plF; decide +kernel
theorem em_list : emB.toList = [] := by rw [Lib.toList_data]; rfl
theorem op_right : rightF plF rtF opE = true := by
  unfold rightF nmF opE
  dsimp only
  rw [if_neg (by decide), if_neg (by decide), pl_a, rt_a, rt_e, em_list, if_neg]
  · rfl
  · rintro (h | h | h | h)
    · exact h rfl
    · unfold emp at h
      rw [em_list] at h
      cases h
    · cases h
    · simp at h
theorem tx_right : rightF plF rtF txE = true := by
  have e : (⟨#[120]⟩ : ByteArray).toList = [120] := by rw [Lib.toList_data]
  unfold rightF noneF txE emp
  dsimp only
  rw [if_pos rfl, em_list, e, rt_x] <;> rfl
theorem few_all {l : List RE} (h : FewL l) : ∀ x ∈ l, RgB x := fun x hx => by
  obtain ⟨k, hk⟩ := List.getElem?_of_mem hx
  exact few_rgb (h.2 k x hk)
theorem wc_all : Wc (fun _ => True) plF rtF := by
  have CE : Hid (EvP plF rtF) := Lib.hid (pright_c plF rtF (Lib.hid plainP_c) (Lib.hid allow_c))
  have CM : Hid (MsC plF rtF) := Lib.hid (ms_c CE)
  have hn : ∀ {W : World} {A : Option Addr} {n c : Nat} {l : List RE}, EvsIn W A n c l → FewL l → n ≤ 100000 := fun T h => by
    have := h.1
    have := T.len
    omega
  exact {
    keep := fun _ _ _ _ => trivial
    aw := fun W _ => awake_c CM op_right tx_right W
    right := fun A n c x W _ T h => CE.out A n c x W T (few_rgb h)
    rright := fun A n c x W T hB => right_any plF rtF (Lib.hid fun sp lo W h1 h2 => named_any plF rtF (Lib.hid plain_c) (Lib.hid right_c) sp lo W h1 h2) (Lib.hid right_c) A n c x W T hB
    same := fun A1 A2 n1 n2 c1 c2 x y W _ T1 T2 _ _ => psame_any A1 A2 n1 n2 c1 c2 x y W T1 T2
    begins := fun A n c l W _ T h => begins_c CM A n c l W T (hn T h) (few_all h)
    whole := fun A n c l W _ T h => whole_c CM A n c l W T (hn T h) (few_all h)
    depth := fun A n c l W _ T h => depth_c CM A n c l W T (hn T h) (few_all h)
    nodes := fun A n c l W _ T h => nodes_c CM A n c l W T (hn T h) (few_all h)
    closers := fun A n c l W _ T h => closers_c CM A n c l W T (hn T h) (few_all h)
    opR := op_right }
end Go.Proofs.Ytggeonoofjeecaa.Ev
