/-
  Merged by program out of the texts EvLaw2, EvRows, WdMul, EvSame2, EvLaw3 of one seat.
-/
import Derived.Test.YtggeonoofjeecaaG02
import Derived.Deep.Cut
import Derived.Laws.Bits64b
import Derived.Laws.CopyRow
import Derived.Laws.CopyOwn
import Derived.Laws.IdiomCopy
import Derived.Laws.OwnMore
import Derived.OwnWalk
import Derived.Laws.AppendOwn
import Derived.Laws.AppendOwnNone

/- WordBegins (layer 9) over the contracts of what it calls. -/
set_option linter.unusedSimpArgs false
set_option linter.unusedVariables false
namespace Go.Proofs.Ytggeonoofjeecaa.Ev
open Go.RowKit

theorem own_slice {e : TypeId} {z n : Nat} {w : World} {B : Nat} {v : Value} {xs : List Value} (h : w.ownsRow B e z v n xs) : ∃ A cap, v = .slice A n cap := by
  rcases h.2 with ⟨rfl, rfl⟩ | ⟨g, cap, cur, rfl, _⟩
  · exact ⟨none, 0, rfl⟩
  · exact ⟨_, cap, rfl⟩
theorem own_keep {e : TypeId} {z n : Nat} {w w' : World} {B : Nat} {v : Value} {xs : List Value} (h : w.ownsRow B e z v n xs) (hb : Below w.heap.size w w') : w'.ownsRow B e z v n xs := by
  refine ⟨h.1, ?_⟩
  rcases h.2 with hn | ⟨g, cap, cur, rfl, hB, hg, rest⟩
  · exact .inl hn
  · exact .inr ⟨g, cap, cur, rfl, hB, (hb.block _ (Array.getElem?_eq_some_iff.1 hg).1).trans hg, rest⟩
/-- The slice at A reads as these numbers. -/
def RdI (w : World) (A : Option Addr) (l : List Int) : Prop :=
  ∀ k x, l[k]? = some x → ∃ b off, A = some ⟨b, off, none⟩ ∧ b < w.heap.size ∧ w.cell? ⟨b, off + k, none⟩ = some (.int .i64 x)
theorem RdI.keep {w w' : World} {A : Option Addr} {l : List Int} (h : RdI w A l) (hb : Below w.heap.size w w') : RdI w' A l := fun k t hk => by
  obtain ⟨b, o, e, hlt, c0⟩ := h k t hk
  exact ⟨b, o, e, Nat.lt_of_lt_of_le hlt hb.size, (hb.cell (p := ⟨b, o + k, none⟩) hlt).trans c0⟩
theorem add_at (g k : Nat) : (⟨g, 0, none⟩ : Addr).add k = ⟨g, k, none⟩ := by
  cases k with
  | zero => rfl
  | succ j => simp [Addr.add]
theorem OwnI.rd {w : World} {B : Nat} {v : Value} {l : List Int} (h : OwnI w B v l) : ∃ A c, v = .slice A l.length c ∧ RdI w A l ∧ l.length ≤ maxLen := by
  have h' : w.ownsRow B 3 1 v l.length (l.map (Value.int .i64)) := h
  rcases h'.2 with ⟨rfl, h0⟩ | ⟨g, cap, cur, rfl, hB, hg, h4, h5, _⟩
  · refine ⟨none, 0, by rw [h0], fun k x hk => ?_, by omega⟩
    rw [List.eq_nil_of_length_eq_zero h0] at hk
    simp at hk
  · refine ⟨_, cap, rfl, fun k x hk => ⟨g, 0, rfl, (Array.getElem?_eq_some_iff.1 hg).1, ?_⟩, by omega⟩
    have := h'.cells rfl k (.int .i64 x) (by rw [List.getElem?_map, hk]; rfl)
    rw [add_at] at this
    rw [Nat.zero_add]
    exact this
theorem nod_step {l : List RE} {i : Nat} {x : RE} (hx : l[i]? = some x) : nodG i (l.drop i) = if x.kind = 3 then nodG (i + 1) (l.drop (i + 1)) else (i : Int) :: nodG (i + 1) (l.drop (i + 1)) := by
  have hlt := (List.getElem?_eq_some_iff.1 hx).1
  have hd : l.drop i = x :: l.drop (i + 1) := by
    rw [List.drop_eq_getElem_cons hlt]
    have := (List.getElem?_eq_some_iff.1 hx).2
    rw [this]
  rw [hd]
  rfl
theorem drop_head {l : List Int} {k : Nat} {a : Int} {r : List Int} (h : l.drop k = a :: r) : l[k]? = some a ∧ k < l.length ∧ l.drop (k + 1) = r := by
  have h1 : l[k]? = some a := by
    have := congrArg (fun m => m[0]?) h
    simpa using this
  refine ⟨h1, (List.getElem?_eq_some_iff.1 h1).1, ?_⟩
  have := congrArg List.tail h
  simpa using this
def BgRel (l : List RE) (nod : List Int) (n m : Nat) (W0 : World) (vk vi : Value) (wr : World) : Prop :=
  ∃ i k : Nat, vi = .int .i64 i ∧ vk = .int .i64 k ∧ i ≤ n ∧ k ≤ m ∧ Hid (Below W0.heap.size W0 wr) ∧ Hid (nod.drop k = nodG i (l.drop i))
set_option maxHeartbeats 8000000 in
set_option maxRecDepth 100000 in
theorem begins_law (G : World → Prop) (pL tR : ByteArray → Bool) (hW : Wc G pL tR) (A : Option Addr) (n c : Nat) (l : List RE) (w : World) (T : EvsIn w A n c l) (hG : G w) : Calls Try.prog 4 #[.slice A n c] w fun e w' => e = .returned (.bool true) ∧ Below w.heap.size w w' := by
  have CA := Lib.hid (hW.aw w hG)
  have HW := Lib.hid hW
  have HG : Hid (∀ W, Below w.heap.size w W → G W) := Lib.hid fun W hb => hW.keep _ _ hG hb
  have HT : Hid (∀ W, Below w.heap.size w W → EvsIn W A n c l) := Lib.hid fun W hb => T.keep hb
  have HL := Lib.hid T.len
  have CF : Hid (∀ W, Below w.heap.size w W → Calls Try.prog 8 #[.slice A n c] W (FwPost l W)) := Lib.hid fun W hb => few_any A n c l W (T.keep hb)
  clear T hG hW
  go_enter Try.func4, Try.ntmps4
  go_wp2_with fail
  refine CA.out.mono ?_
  rintro e w1 ⟨rfl, b1⟩
  have B1 := Lib.hid b1
  clear CA b1
  go_wp2_with fail
  refine (CF.out _ B1.out).mono ?_
  rintro e w2 ⟨bf, rfl, hf, rfl⟩
  clear CF
  cases bf with
  | false =>
    have CA2 := Lib.hid (HW.out.aw _ (HG.out _ B1.out))
    clear hf
    go_wp2_with fail
    refine CA2.out.mono ?_
    rintro e w2 ⟨rfl, b2⟩
    go_wp2
    go_ret
    exact ⟨rfl, B1.out.trans (b2.mono B1.out.size)⟩
  | true =>
    have HF : Hid (FewL l) := Lib.hid ⟨by have := (hf rfl).1; omega, (hf rfl).2⟩
    have hn4 : n ≤ 500 := by rw [HL.out]; exact HF.out.1
    have hr := dep_range (R := rightF pL tR) l (b := true) (p := 0) (n := 0) (by omega) (by omega) (fun _ => rfl)
    have C13 : Hid (∀ W, Below w.heap.size w W → Calls Try.prog 13 #[.slice A n c] W fun e w' => e = .returned (.int .i64 (depF pL tR l)) ∧ Below W.heap.size W w') := Lib.hid fun W hb => depth_any pL tR (Lib.hid HW.out.rright) A n c l W (HT.out W hb) hn4 HF.out.2
    have C14 : Hid (∀ W, Below w.heap.size w W → Calls Try.prog 14 #[.slice A n c] W fun e w' => e = .returned (.bool (decide (0 ≤ depF pL tR l))) ∧ Below W.heap.size W w') := Lib.hid fun W hb => HW.out.begins A n c l W (HG.out W hb) (HT.out W hb) HF.out
    have C15 : Hid (∀ W, Below w.heap.size w W → Calls Try.prog 15 #[.slice A n c] W fun e w' => e = .returned (.bool (decide (depF pL tR l = 0 ∧ 0 < n))) ∧ Below W.heap.size W w') := Lib.hid fun W hb => HW.out.whole A n c l W (HG.out W hb) (HT.out W hb) HF.out
    have C16 : Hid (∀ W, Below w.heap.size w W → Calls Try.prog 16 #[.slice A n c] W fun e w' => e = .returned (.int .i64 (if depF pL tR l < 0 then 0 else depF pL tR l)) ∧ Below W.heap.size W w') := Lib.hid fun W hb => HW.out.depth A n c l W (HG.out W hb) (HT.out W hb) HF.out
    have C17 : Hid (∀ W, Below w.heap.size w W → Calls Try.prog 17 #[.slice A n c] W fun e w' => ∃ v, e = .returned v ∧ OwnI w' W.heap.size v (nodF pL tR l) ∧ Below W.heap.size W w') := Lib.hid fun W hb => HW.out.nodes A n c l W (HG.out W hb) (HT.out W hb) HF.out
    have C18 : Hid (∀ W, Below w.heap.size w W → Calls Try.prog 18 #[.slice A n c] W fun e w' => ∃ v, e = .returned v ∧ OwnV w' W.heap.size v (cloF pL tR l) ∧ Below W.heap.size W w') := Lib.hid fun W hb => HW.out.closers A n c l W (HG.out W hb) (HT.out W hb) HF.out
    have hr' : depF pL tR l = -1 ∨ (0 ≤ depF pL tR l ∧ depF pL tR l ≤ 64) := hr
    clear hf HF hr HW HG
    rcases hr' with hd | ⟨hd0, hd64⟩
    · have HN : Hid (nodF pL tR l = []) := Lib.hid (by unfold nodF; rw [if_pos (by omega)])
      have HC : Hid (cloF pL tR l = []) := Lib.hid (by unfold cloF; rw [if_pos (by omega)])
      rw [HN.out] at C17
      rw [HC.out] at C18
      rw [hd] at C13 C14 C15 C16
      rw [show decide ((0 : Int) ≤ -1) = false by decide] at C14
      rw [show decide ((-1 : Int) = 0 ∧ 0 < n) = false by simp] at C15
      rw [if_pos (by decide)] at C16
      clear HN HC hd HT HL
      go_wp2_with fail
      refine (C13.out _ B1.out).mono ?_
      rintro e w3 ⟨rfl, b3⟩
      have B3 := Lib.hid (B1.out.trans (b3.mono B1.out.size))
      clear C13 b3 B1
      go_wp2_with fail
      refine (C14.out _ B3.out).mono ?_
      rintro e w4 ⟨rfl, b4⟩
      have B4 := Lib.hid (B3.out.trans (b4.mono B3.out.size))
      clear C14 b4 B3
      go_wp2_with fail
      refine (C15.out _ B4.out).mono ?_
      rintro e w5 ⟨rfl, b5⟩
      have B5 := Lib.hid (B4.out.trans (b5.mono B4.out.size))
      clear C15 b5 B4
      go_wp2_with fail
      refine (C16.out _ B5.out).mono ?_
      rintro e w6 ⟨rfl, b6⟩
      have B6 := Lib.hid (B5.out.trans (b6.mono B5.out.size))
      clear C16 b6 B5
      go_wp2_with fail
      refine (C17.out _ B6.out).mono ?_
      rintro e w7 ⟨v7, rfl, h7, b7⟩
      obtain ⟨A7, c7, hv, _⟩ := h7.rd
      subst hv
      have B7 := Lib.hid (B6.out.trans (b7.mono B6.out.size))
      clear C17 b7 B6 h7
      go_wp2_with fail
      refine (C18.out _ B7.out).mono ?_
      rintro e w8 ⟨v8, rfl, h8, b8⟩
      obtain ⟨A8, c8, hv⟩ := own_slice h8
      subst hv
      have B8 := Lib.hid (B7.out.trans (b8.mono B7.out.size))
      clear C18 b8 B7 h8
      go_wp2
      go_ret
      exact ⟨rfl, B8.out⟩
    · obtain ⟨d, hd⟩ : ∃ d : Nat, depF pL tR l = (d : Int) := ⟨(depF pL tR l).toNat, by omega⟩
      have HN : Hid (nodF pL tR l = nodG 0 l) := Lib.hid (by unfold nodF; rw [if_neg (by omega)])
      obtain ⟨cl, hcl⟩ : ∃ cl, cl = (cloF pL tR l).length := ⟨_, rfl⟩
      have HC : Hid (cl = if n = 0 then 2 else d) := Lib.hid (by
        rw [hcl]
        unfold cloF
        rw [if_neg (by omega), HL.out]
        cases l with
        | nil => rfl
        | cons x r => rw [if_neg (by simp), if_neg (by simp), List.length_replicate, hd]; rfl)
      have HE0 : Hid (n = 0 → d = 0) := Lib.hid fun h => by
        have : l = [] := List.eq_nil_of_length_eq_zero (by rw [← HL.out]; exact h)
        have h2 : depF pL tR l = 0 := by rw [this]; rfl
        omega
      rw [hd] at C13 C14 C15 C16
      rw [show decide ((0 : Int) ≤ (d : Int)) = true by simp] at C14
      rw [if_neg (by omega)] at C16
      have CC : Hid (∀ W, Below w.heap.size w W → Calls Try.prog 18 #[.slice A n c] W fun e w' => ∃ A8 c8, e = .returned (.slice A8 cl c8) ∧ Below W.heap.size W w') := Lib.hid fun W hb => (C18.out W hb).mono fun e w' ⟨v, h1, h2, h3⟩ => by
        obtain ⟨A8, c8, hv⟩ := own_slice h2
        rw [← hcl] at hv
        exact ⟨A8, c8, by rw [h1, hv], h3⟩
      have hd6 : d ≤ 64 := by omega
      clear hd hcl hd0 hd64 C18
      have p1 : (0 : Int) ≤ (d : Int) := by omega
      have p2 : ¬ (d : Int) < 0 := by omega
      have p3 : decide ((0 : Int) ≤ (d : Int)) = true := by simp
      have BB : ∃ bw : Bool, bw = decide ((d : Int) = 0 ∧ 0 < n) := ⟨_, rfl⟩
      obtain ⟨bw, hbw⟩ := BB
      rw [← hbw] at C15
      have hq : (((d : Int) == 0) = true ∧ decide (0 < n) = true ∧ bw = true) ∨ (((d : Int) == 0) = true ∧ decide (0 < n) = false ∧ bw = false) ∨ (((d : Int) == 0) = false ∧ bw = false) := by
        by_cases e1 : d = 0
        · by_cases e2 : 0 < n
          · exact .inl ⟨by simp [e1], by simp [e2], by rw [hbw]; simp [e1, e2]⟩
          · exact .inr (.inl ⟨by simp [e1], by simp [e2], by rw [hbw]; simp [e2]⟩)
        · exact .inr (.inr ⟨by rw [beq_eq_false_iff_ne]; omega, by rw [hbw]; simp [e1]⟩)
      clear hbw
      rcases hq with ⟨z1, z2, rfl⟩ | ⟨z1, z2, rfl⟩ | ⟨z1, rfl⟩
      all_goals
        go_wp2_with fail
        refine (C13.out _ B1.out).mono ?_
        rintro e w3 ⟨rfl, b3⟩
        have B3 := Lib.hid (B1.out.trans (b3.mono B1.out.size))
        clear C13 b3 B1
        go_wp2_with fail
        refine (C14.out _ B3.out).mono ?_
        rintro e w4 ⟨rfl, b4⟩
        have B4 := Lib.hid (B3.out.trans (b4.mono B3.out.size))
        clear C14 b4 B3
        go_wp2_with fail
        refine (C15.out _ B4.out).mono ?_
        rintro e w5 ⟨rfl, b5⟩
        have B5 := Lib.hid (B4.out.trans (b5.mono B4.out.size))
        clear C15 b5 B4
        go_wp2_with fail
        refine (C17.out _ B5.out).mono ?_
        rintro e w7 ⟨v7, rfl, h7, b7⟩
        rw [HN.out] at h7
        obtain ⟨A7, c7, hv, hI, hm⟩ := h7.rd
        subst hv
        obtain ⟨m, hmm⟩ : ∃ m, m = (nodG 0 l).length := ⟨_, rfl⟩
        rw [← hmm] at hm ⊢
        have HM := Lib.hid hmm
        have HI := Lib.hid hI
        have B7 := Lib.hid (B5.out.trans (b7.mono B5.out.size))
        unfold maxLen at hm
        clear C17 b7 B5 h7 hI hmm
        go_wp2_with fail
        go_loopw [5, 6] (fun vk vi wr => BgRel l (nodG 0 l) n m w7 vk vi wr) (fun _ i _ => n - (intOf i).toNat)
        case atStart => exact ⟨0, 0, rfl, rfl, Nat.zero_le _, Nat.zero_le _, Lib.hid (Below.refl _ _), Lib.hid rfl⟩
        case round =>
          obtain ⟨i, k, rfl, rfl, hi, hk, HR, HA⟩ := hrel
          by_cases hlt : i < n
          · have g1 : (i : Int) < (n : Int) := by omega
            have g0 : (0 : Int) ≤ (i : Int) := by omega
            have hil : i < l.length := by rw [← HL.out]; exact hlt
            have hx := List.getElem?_eq_getElem hil
            obtain ⟨b, off, Aa, na, ca, rfl, hbl, _, k0, _, _, _, _⟩ := (HT.out wr (B7.out.trans (HR.out.mono B7.out.size))).rd i _ hx
            have HS := Lib.hid (HA.out.trans (nod_step hx))
            clear hx HA
            by_cases hk3 : l[i].kind = 3
            · have HA2 := Lib.hid (HS.out.trans (if_pos hk3))
              rw [hk3] at k0
              clear HS hk3
              go_wp2
              go_roundw
              case rel => exact ⟨i + 1, k, by go_num, rfl, by omega, hk, HR, HA2⟩
              case measure => simp only [intOf]; omega
            · obtain ⟨h1, h2, h3⟩ := drop_head (HS.out.trans (if_neg hk3))
              rw [← HM.out] at h2
              obtain ⟨b2, o2, rfl, hb2, y0⟩ := (HI.out.keep HR.out) k _ h1
              have g2 : (k : Int) < (m : Int) := by omega
              have g3 : ¬ (m : Int) ≤ (k : Int) := by omega
              have g4 : (0 : Int) ≤ (k : Int) := by omega
              have g5 : decide ((m : Int) ≤ (k : Int)) = false := by rw [decide_eq_false_iff_not]; exact g3
              have g6 : (l[i].kind != 3) = true := by simpa using hk3
              have H3 := Lib.hid h3
              generalize l[i].kind = kk at *
              clear HS hk3 h1 h3 hb2 hbl
              go_wp2
              go_roundw
              case rel => exact ⟨i + 1, k + 1, by go_num, by go_num, by omega, by omega, HR, H3⟩
              case measure => simp only [intOf]; omega
          · have g1 : ¬ (i : Int) < (n : Int) := by omega
            have hkm : k = m := by
              have h := HA.out
              rw [List.drop_of_length_le (l := l) (by rw [← HL.out]; omega)] at h
              have h2 := congrArg List.length h
              rw [List.length_drop, ← HM.out] at h2
              have h3 : (nodG i ([] : List RE)).length = 0 := rfl
              omega
            have BR := Lib.hid (B7.out.trans (HR.out.mono B7.out.size))
            have e1 : ((k : Int) == (m : Int)) = true := by rw [beq_iff_eq]; omega
            have e2 : ((d : Int) == (d : Int)) = true := beq_self_eq_true _
            by_cases hn0 : n = 0
            · have y1 : ((n : Int) == 0) = true := by rw [beq_iff_eq]; omega
              have hcl2 : ((cl : Int) == 2) = true := by rw [HC.out, if_pos hn0]; rfl
              clear HA HR hkm HC HE0 HI HM HT HL B7 hn0
              go_wp2_with fail
              refine (C16.out _ BR.out).mono ?_
              rintro e w8 ⟨rfl, b8⟩
              have B8 := Lib.hid (BR.out.trans (b8.mono BR.out.size))
              clear C16 b8
              go_wp2_with fail
              refine (CC.out _ B8.out).mono ?_
              rintro e w9 ⟨A9, c9, rfl, b9⟩
              have B9 := Lib.hid (B8.out.trans (b9.mono B8.out.size))
              clear CC b9
              go_wp2
              go_ret
              exact ⟨rfl, B9.out⟩
            · have y1 : ((n : Int) == 0) = false := by rw [beq_eq_false_iff_ne]; omega
              have hcl2 : ((cl : Int) == (d : Int)) = true := by rw [HC.out, if_neg hn0]; exact beq_self_eq_true _
              clear HA HR hkm HC HE0 HI HM HT HL B7 hn0
              go_wp2_with fail
              refine (C16.out _ BR.out).mono ?_
              rintro e w8 ⟨rfl, b8⟩
              have B8 := Lib.hid (BR.out.trans (b8.mono BR.out.size))
              clear C16 b8
              go_wp2_with fail
              refine (CC.out _ B8.out).mono ?_
              rintro e w9 ⟨A9, c9, rfl, b9⟩
              have B9 := Lib.hid (B8.out.trans (b9.mono B8.out.size))
              clear CC b9
              go_wp2
              go_ret
              exact ⟨rfl, B9.out⟩
end Go.Proofs.Ytggeonoofjeecaa.Ev

/- Rows of events of the call's own: what is appended to them, what they read as; the document's Same of two that are alike. -/
set_option linter.unusedSimpArgs false
set_option linter.unusedVariables false
namespace Go.Proofs.Ytggeonoofjeecaa.Ev
open Go.RowKit

section
variable {α : Type} {f : α → List Value} {z : Nat}
theorem cel_len (hz : ∀ x, (f x).length = z) (l : List α) : (l.flatMap f).length = l.length * z := by
  induction l with
  | nil => simp
  | cons x l ih => rw [List.flatMap_cons, List.length_append, hz, ih, List.length_cons, Nat.add_mul, Nat.one_mul, Nat.add_comm]
theorem cel_get (hz : ∀ x, (f x).length = z) : ∀ (l : List α) (k i : Nat) (t : α), l[k]? = some t → i < z → (l.flatMap f)[k * z + i]? = (f t)[i]?
  | [], k, i, t, h, _ => by simp at h
  | x :: l, 0, i, t, h, hi => by
    have : x = t := by simpa using h
    subst this
    rw [List.flatMap_cons, Nat.zero_mul, Nat.zero_add, List.getElem?_append_left (by rw [hz]; exact hi)]
  | x :: l, k + 1, i, t, h, hi => by
    have h' : l[k]? = some t := by simpa using h
    have e : (k + 1) * z + i - z = k * z + i := by rw [Nat.add_mul, Nat.one_mul]; omega
    rw [List.flatMap_cons, List.getElem?_append_right (by rw [hz, Nat.add_mul, Nat.one_mul]; omega), hz, e]
    exact cel_get hz l k i t h' hi
end
/-- An event, with its attributes' slice. -/
abbrev PE := RE × (Option Addr × Nat × Nat)
def peC (p : PE) : List Value := [.int .i64 p.1.kind, .string p.1.sp, .string p.1.lo, .slice p.2.1 p.2.2.1 p.2.2.2, .string p.1.tx]
def peL (l : List PE) : List Value := l.flatMap peC
theorem peC_len (p : PE) : (peC p).length = 5 := rfl
theorem peL_len (l : List PE) : (peL l).length = l.length * 5 := cel_len peC_len l
theorem peL_get (l : List PE) (k i : Nat) (p : PE) (h : l[k]? = some p) (hi : i < 5) : (peL l)[k * 5 + i]? = (peC p)[i]? := cel_get peC_len l k i p h hi
theorem peL_app (a b : List PE) : peL (a ++ b) = peL a ++ peL b := by unfold peL; simp
theorem peL_one (l : List PE) : ∀ u ∈ peL l, u.oneCell' = true := by
  intro u hu
  obtain ⟨p, _, hu⟩ := List.mem_flatMap.1 hu
  unfold peC at hu
  simp only [List.mem_cons, List.not_mem_nil, or_false] at hu
  rcases hu with rfl | rfl | rfl | rfl | rfl <;> rfl
/-- The attributes of these events stand in memory. -/
def PeO (W : World) (ps : List PE) : Prop := ∀ p ∈ ps, AttsIn W p.2.1 p.2.2.1 p.2.2.2 p.1.ats ∧ RSz p.1
theorem PeO.keep {W W' : World} {ps : List PE} (h : PeO W ps) (hb : Below W.heap.size W W') : PeO W' ps := fun p hp => ⟨(h p hp).1.keep hb, (h p hp).2⟩
theorem PeO.app {W : World} {a b : List PE} (h : PeO W a) (k : PeO W b) : PeO W (a ++ b) := fun p hp => (List.mem_append.1 hp).elim (h p) (k p)
/-- What came in, with the attributes' slices named. -/
theorem EvsIn.pairs {W : World} {A : Option Addr} {n c : Nat} {l : List RE} (h : EvsIn W A n c l) : ∃ ps : List PE, ps.map (·.1) = l ∧ PeO W ps ∧ ∀ ad, A = some ad → ∀ j u, (peL ps)[j]? = some u → W.cell? (ad.add j) = some u := by
  have : Nonempty PE := ⟨(clE, none, 0, 0)⟩
  obtain ⟨ps, hl, hps⟩ := pick_list (α := PE) (n := l.length) (R := fun i p => l[i]? = some p.1 ∧ AttsIn W p.2.1 p.2.2.1 p.2.2.2 p.1.ats ∧ ∃ b off, A = some ⟨b, off, none⟩ ∧ W.cell? ⟨b, off + i * 5, none⟩ = some (.int .i64 p.1.kind) ∧ W.cell? ⟨b, off + i * 5 + 1, none⟩ = some (.string p.1.sp) ∧ W.cell? ⟨b, off + i * 5 + 2, none⟩ = some (.string p.1.lo) ∧ W.cell? ⟨b, off + i * 5 + 3, none⟩ = some (.slice p.2.1 p.2.2.1 p.2.2.2) ∧ W.cell? ⟨b, off + i * 5 + 4, none⟩ = some (.string p.1.tx)) (fun i hi => by
    obtain ⟨b, off, Aa, na, ca, e, _, ta, k0, k1, k2, k3, k4⟩ := h.rd i _ (List.getElem?_eq_getElem hi)
    exact ⟨(l[i], Aa, na, ca), List.getElem?_eq_getElem hi, ta, b, off, e, k0, k1, k2, k3, k4⟩)
  refine ⟨ps, ?_, fun p hp => ?_, fun ad ha j u hu => ?_⟩
  · refine List.ext_getElem? fun k => ?_
    rw [List.getElem?_map]
    by_cases hk : k < ps.length
    · rw [List.getElem?_eq_getElem hk]
      exact ((hps k _ (List.getElem?_eq_getElem hk)).1).symm
    · rw [List.getElem?_eq_none (by omega), List.getElem?_eq_none (by omega)]
      rfl
  · obtain ⟨k, hk⟩ := List.getElem?_of_mem hp
    obtain ⟨h1, h2, _⟩ := hps k p hk
    exact ⟨h2, h.xsz _ (List.mem_of_getElem? h1)⟩
  · have hj := (List.getElem?_eq_some_iff.1 hu).1
    rw [peL_len] at hj
    have hk : j / 5 < ps.length := by omega
    obtain ⟨_, _, b, off, e, k0, k1, k2, k3, k4⟩ := hps (j / 5) _ (List.getElem?_eq_getElem hk)
    rw [ha] at e
    injection e with e
    subst e
    rw [Addr.add_lit]
    have g := fun i hi => peL_get ps (j / 5) i _ (List.getElem?_eq_getElem hk) hi
    have hm : j % 5 = 0 ∨ j % 5 = 1 ∨ j % 5 = 2 ∨ j % 5 = 3 ∨ j % 5 = 4 := by omega
    rcases hm with hm | hm | hm | hm | hm
    · have g := g 0 (by omega)
      rw [show j / 5 * 5 + 0 = j by omega, hu] at g
      rw [g, show off + j = off + j / 5 * 5 by omega, k0]
      rfl
    · have g := g 1 (by omega)
      rw [show j / 5 * 5 + 1 = j by omega, hu] at g
      rw [g, show off + j = off + j / 5 * 5 + 1 by omega, k1]
      rfl
    · have g := g 2 (by omega)
      rw [show j / 5 * 5 + 2 = j by omega, hu] at g
      rw [g, show off + j = off + j / 5 * 5 + 2 by omega, k2]
      rfl
    · have g := g 3 (by omega)
      rw [show j / 5 * 5 + 3 = j by omega, hu] at g
      rw [g, show off + j = off + j / 5 * 5 + 3 by omega, k3]
      rfl
    · have g := g 4 (by omega)
      rw [show j / 5 * 5 + 4 = j by omega, hu] at g
      rw [g, show off + j = off + j / 5 * 5 + 4 by omega, k4]
      rfl
/-- A row of the call's own reads as its events. -/
theorem own_evs {W : World} {B n c : Nat} {A : Option Addr} {ps : List PE} (h : W.ownsRow B 26 5 (.slice A n c) n (peL ps)) (hn : n = ps.length) (hO : PeO W ps) (h5 : n ≤ 4398046511104) : EvsIn W A n c (ps.map (·.1)) := by
  have hx : ∀ x ∈ ps.map (·.1), RSz x := fun x hx => by
    obtain ⟨p, hp, rfl⟩ := List.mem_map.1 hx
    exact (hO p hp).2
  rcases h.2 with ⟨q, h0⟩ | ⟨g, cap, cur, q, hB, hg, h1, h2, _⟩
  · injection q with q1 q2 q3
    subst q1 q2 q3
    refine ⟨by rw [List.length_map]; exact hn, Nat.zero_le _, Nat.zero_le _, hx, fun k x hk => ?_, fun _ => ⟨rfl, rfl⟩, ⟨Nat.le_refl _, Nat.zero_le _⟩⟩
    rw [List.eq_nil_of_length_eq_zero hn.symm] at hk
    simp at hk
  · injection q with q1 q2 q3
    subst q1 q3
    refine ⟨by rw [List.length_map]; exact hn, by omega, h5, hx, fun k x hk => ?_, (fun e => by cases e), ⟨h1, h2⟩⟩
    rw [List.getElem?_map] at hk
    obtain ⟨p, hp, rfl⟩ := Option.map_eq_some_iff.1 hk
    have hc : ∀ i, i < 5 → W.cell? ⟨g, k * 5 + i, none⟩ = (peC p)[i]? := fun i hi => by
      have g1 := peL_get ps k i p hp hi
      have hlt : i < (peC p).length := by rw [peC_len]; exact hi
      rw [List.getElem?_eq_getElem hlt] at g1 ⊢
      have := h.cells rfl _ _ g1
      rw [add_at] at this
      exact this
    refine ⟨g, 0, p.2.1, p.2.2.1, p.2.2.2, rfl, (Array.getElem?_eq_some_iff.1 hg).1, (hO p (List.mem_of_getElem? hp)).1, ?_, ?_, ?_, ?_, ?_⟩
    all_goals rw [Nat.zero_add]
    · exact hc 0 (by omega)
    · exact hc 1 (by omega)
    · exact hc 2 (by omega)
    · exact hc 3 (by omega)
    · exact hc 4 (by omega)
theorem EvsIn.take {W : World} {A : Option Addr} {n c k : Nat} {l : List RE} (h : EvsIn W A n c l) (hk : k ≤ n) : EvsIn W A k c (l.take k) :=
  ⟨by rw [List.length_take, ← h.len]; omega, by have := h.lsz; omega, by have := h.cnt; omega, fun x hx => h.xsz x (List.mem_of_mem_take hx), (fun j x hj => by
    rw [List.getElem?_take] at hj
    by_cases q : j < k
    · rw [if_pos q] at hj
      exact h.rd j x hj
    · rw [if_neg q] at hj
      cases hj), (fun e => ⟨by have := (h.nil e).1; omega, (h.nil e).2⟩), ⟨by have := h.cap.1; omega, h.cap.2⟩⟩
theorem attsNil (W : World) : AttsIn W none 0 0 [] := ⟨rfl, Nat.zero_le _, Nat.zero_le _, fun x hx => by simp at hx, fun j x hx => by simp at hx, fun _ => ⟨rfl, rfl⟩⟩
/-- The closers as a row of events. -/
def cloP (l : List RE) : List PE := l.map fun x => (x, none, 0, 0)
theorem cloP_cells (l : List RE) : peL (cloP l) = l.flatMap reC := by
  unfold peL cloP
  rw [List.flatMap_map]
  rfl
theorem cloP_fst (l : List RE) : (cloP l).map (·.1) = l := by
  unfold cloP
  rw [List.map_map]
  exact List.map_id' l
theorem clo_in {pL tR : ByteArray → Bool} {l : List RE} (W : World) : PeO W (cloP (cloF pL tR l)) := by
  have h : ∀ x ∈ cloF pL tR l, x = opE ∨ x = clE := fun x hx => by
    unfold cloF at hx
    split at hx
    · simp at hx
    · split at hx
      · simpa using hx
      · exact .inr (List.eq_of_mem_replicate hx)
  intro p hp
  obtain ⟨x, hx, rfl⟩ := List.mem_map.1 hp
  rcases h x hx with rfl | rfl
  · exact ⟨attsNil W, ⟨by decide, by decide, by decide⟩⟩
  · exact ⟨attsNil W, ⟨by decide, by decide, by decide⟩⟩
theorem clo_few {pL tR : ByteArray → Bool} {l : List RE} : (cloF pL tR l).length ≤ 64 ∧ ∀ x ∈ cloF pL tR l, FewE x := by
  have hr := dep_range (R := rightF pL tR) l (b := true) (p := 0) (n := 0) (by omega) (by omega) (fun _ => rfl)
  have h1 : FewE opE := ⟨by decide, by decide, by decide, by decide, fun k y _ h => by simp [opE] at h⟩
  have h2 : FewE clE := ⟨by decide, by decide, by decide, by decide, fun k y _ h => by simp [clE] at h⟩
  unfold cloF
  have e : depF pL tR l = depR (rightF pL tR) true 0 0 l := rfl
  split
  · exact ⟨by simp, fun x hx => by simp at hx⟩
  · split
    · exact ⟨by simp, fun x hx => by simp at hx; rcases hx with rfl | rfl <;> assumption⟩
    · exact ⟨by rw [List.length_replicate]; omega, fun x hx => by rw [List.eq_of_mem_replicate hx]; exact h2⟩
end Go.Proofs.Ytggeonoofjeecaa.Ev

/- math/bits.Mul of one and a number; a copy of cells of whatever size, into a row of the call itself. -/
set_option linter.unusedSimpArgs false
set_option linter.unusedVariables false
namespace Go.Proofs.Ytggeonoofjeecaa.Ev
open Go.RowKit

theorem and_low (d : Nat) (h : d < 4294967296) : bits .and .u64 (d : Int) 4294967295 = (d : Int) := by
  have e := bits_and_u64_nat d 4294967295 (by omega) (by omega)
  rw [show d &&& 4294967295 = d % 4294967296 from Nat.and_two_pow_sub_one_eq_mod d 32, Nat.mod_eq_of_lt h] at e
  exact e
set_option maxRecDepth 100000 in
theorem mul64_one (d : Nat) (hd : d ≤ 1000) (w : World) : Calls Try.prog 48 #[.int .u64 1, .int .u64 (d : Int)] w fun e w' => e = .returned (.tuple #[.int .u64 0, .int .u64 (d : Int)]) ∧ w = w' := by
  have h1 : bits .and .u64 (1 : Int) 4294967295 = 1 := and_low 1 (by omega)
  have h0 : bits .and .u64 (0 : Int) 4294967295 = 0 := and_low 0 (by omega)
  have h2 := and_low d (by omega)
  have h3 : (d : Int) / 4294967296 = 0 := by omega
  have h4 : IntKind.u64.wrap (d : Int) = (d : Int) := by rw [IntKind.wrap_u64]; omega
  go_enter Try.func48, Try.ntmps48
  go_wp2

  go_ret2
  exact ⟨rfl, rfl⟩
set_option maxRecDepth 100000 in
theorem mul_one' (d : Nat) (hd : d ≤ 1000) (w : World) : Calls Try.prog 36 #[.int .u64 1, .int .u64 (d : Int)] w fun e w' => e = .returned (.tuple #[.int .u64 0, .int .u64 (d : Int)]) ∧ w = w' := by
  have C := Lib.hid (mul64_one d hd w)
  go_enter Try.func36, Try.ntmps36
  go_wp2_with (go_at_call 48; refine C.out.mono ?_; rintro e w' ⟨rfl, rfl⟩)
  go_ret2
  exact ⟨rfl, rfl⟩
/-- A copy into a row that is known whole, of elements of z cells each. -/
theorem run_copyZ {P : Program} (w : World) (dT sT ty elem : TypeId) (z g o dLen dCap : Nat) (a : Addr) (sLen sCap m : Nat) (cur : Array Value) (t : TypeId) (cs : List Value)
    (hu : P.underlying dT = some (.slice elem)) (hs : (P.info? elem).map (·.size) = some z)
    (hg : w.heap[g]? = some (.cells cur t (0, 0))) (hm : Nat.min sLen dLen = m) (hn : cs.length = m * z)
    (hsrc : ∀ j v, cs[j]? = some v → w.cell? (a.add j) = some v) (hfit : o + cs.length ≤ cur.size) (h1 : ∀ v ∈ cs, v.oneCell' = true) :
    (Builtin.copy_ #[dT, sT] ty #[.slice (some ⟨g, o, none⟩) dLen dCap, .slice (some a) sLen sCap]).run P w =
      .ok (goInt m) (w.setRow g (cur.toList.take o ++ cs ++ cur.toList.drop (o + cs.length)).toArray) := by
  have hl := run_loadCells_list (P := P) w a cs hsrc
  have hst := run_storeCells_at P g o t cs 0 cur w hg (by simpa using hfit) h1
  cases hq : P.info? elem with
  | none => simp [hq] at hs
  | some i =>
    have hi : i.size = z := by simpa [hq] using hs
    rw [hn] at hl
    subst hi
    simp [Builtin.copy_, run_underlying hu, Builtin.lenOf, Builtin.firstCells, sizeOf, typeInfo, hq, hm, hl, hst]
/-- The same element so often. -/
def rep (E : List Value) (k : Nat) : List Value := (List.replicate k E).flatten
theorem rep_len (E : List Value) (k : Nat) : (rep E k).length = k * E.length := by unfold rep; simp
theorem rep_add (E : List Value) (k m : Nat) : rep E (k + m) = rep E k ++ rep E m := by unfold rep; rw [← List.replicate_append_replicate, List.flatten_append]
theorem rep_mem {E : List Value} {k : Nat} {u : Value} (h : u ∈ rep E k) : u ∈ E := by
  unfold rep at h
  obtain ⟨l, hl, hu⟩ := List.mem_flatten.1 h
  rw [List.eq_of_mem_replicate hl] at hu
  exact hu
/-- A row of d places of z cells, the first k of which hold E. -/
structure RpB (W : World) (T : TypeId) (g d : Nat) (E : List Value) (k : Nat) : Prop where
  le : k ≤ d
  blk : ∃ cur, W.heap[g]? = some (.cells cur T (0, 0)) ∧ cur.size = d * E.length ∧ cur.toList.take (k * E.length) = rep E k
theorem RpB.drew {W : World} {T : TypeId} {g d k : Nat} {E : List Value} (h : RpB W T g d E k) : RpB W.drew T g d E k := ⟨h.le, h.blk⟩
theorem RpB.src {W : World} {T : TypeId} {g d k m : Nat} {E : List Value} (h : RpB W T g d E k) (hm : m ≤ k) : ∀ j v, (rep E m)[j]? = some v → W.cell? ((⟨g, 0, none⟩ : Addr).add j) = some v := by
  intro j v hv
  obtain ⟨cur, hg, hs, ht⟩ := h.blk
  obtain ⟨q, rfl⟩ : ∃ q, k = m + q := ⟨k - m, by omega⟩
  have hj := (List.getElem?_eq_some_iff.1 hv).1
  rw [Addr.add_lit, Nat.zero_add, Lib.cell_of_heap hg]
  have h2 : (rep E (m + q))[j]? = some v := by rw [rep_add, List.getElem?_append_left hj]; exact hv
  rw [← ht, List.getElem?_take] at h2
  split at h2
  · rw [← Array.getElem?_toList]; exact h2
  · cases h2
theorem RpB.put {W : World} {T : TypeId} {g d k m : Nat} {E : List Value} (h : RpB W T g d E k) (hm : k + m ≤ d) (h1 : ∀ v ∈ E, v.oneCell' = true)
    {P : Program} (dT sT ty : TypeId) (hu : P.underlying dT = some (.slice T)) (hs : (P.info? T).map (·.size) = some E.length) (dLen dCap sLen sCap : Nat) (a : Addr) (hmn : Nat.min sLen dLen = m)
    (hsrc : ∀ j v, (rep E m)[j]? = some v → W.cell? (a.add j) = some v) :
    ∃ W', (Builtin.copy_ #[dT, sT] ty #[.slice (some ⟨g, k * E.length, none⟩) dLen dCap, .slice (some a) sLen sCap]).run P W = .ok (goInt m) W' ∧ RpB W' T g d E (k + m) ∧ W.grownBy W' (some g) := by
  obtain ⟨cur, hg, hsz, ht⟩ := h.blk
  have hml : (k + m) * E.length ≤ d * E.length := Nat.mul_le_mul_right _ hm
  rw [Nat.add_mul] at hml
  have hlen := rep_len E m
  refine ⟨_, run_copyZ W dT sT ty T E.length g (k * E.length) dLen dCap a sLen sCap m cur T (rep E m) hu hs hg hmn hlen hsrc (by rw [hlen, hsz]; exact hml) (fun v hv => h1 v (rep_mem hv)), ⟨hm, _, setRow_heap W g _ _ T _ hg, ?_, ?_⟩, ⟨rfl, rfl, rfl, by simp [World.setRow], fun i hi hne => setRow_other W g i _ (fun e => hne (by rw [e]))⟩⟩
  · simp only [List.size_toArray, List.length_append, List.length_take, List.length_drop, hlen, Array.length_toList, hsz]
    omega
  · simp only []
    rw [ht, rep_add, Nat.add_mul, List.take_left' (by rw [List.length_append, rep_len, rep_len])]
end Go.Proofs.Ytggeonoofjeecaa.Ev

/- The document's Same (layer 8) of two lists of events that are the same. -/
set_option linter.unusedSimpArgs false
set_option linter.unusedVariables false
namespace Go.Proofs.Ytggeonoofjeecaa.Ev
open Go.RowKit

/-- One event's cells. -/
structure Ev1 (W : World) (b o : Nat) (kx : Int) (na nb tx : ByteArray) (Aa : Option Addr) (n c : Nat) : Prop where
  c0 : W.cell? ⟨b, o, none⟩ = some (.int .i64 kx)
  c1 : W.cell? ⟨b, o + 1, none⟩ = some (.string na)
  c2 : W.cell? ⟨b, o + 2, none⟩ = some (.string nb)
  c3 : W.cell? ⟨b, o + 3, none⟩ = some (.slice Aa n c)
  c4 : W.cell? ⟨b, o + 4, none⟩ = some (.string tx)
theorem Ev1.keep {W W' : World} {b o : Nat} {kx : Int} {na nb tx : ByteArray} {Aa : Option Addr} {n c : Nat} (h : Ev1 W b o kx na nb tx Aa n c) (hb : Below W.heap.size W W') (hlt : b < W.heap.size) : Ev1 W' b o kx na nb tx Aa n c :=
  ⟨(hb.cell (p := ⟨b, o, none⟩) hlt).trans h.c0, (hb.cell (p := ⟨b, o + 1, none⟩) hlt).trans h.c1, (hb.cell (p := ⟨b, o + 2, none⟩) hlt).trans h.c2, (hb.cell (p := ⟨b, o + 3, none⟩) hlt).trans h.c3, (hb.cell (p := ⟨b, o + 4, none⟩) hlt).trans h.c4⟩
def SmRel (n : Nat) (w : World) (i : Value) (wr : World) : Prop := ∃ k : Nat, i = .int .i64 k ∧ k ≤ n ∧ Hid (Below w.heap.size w wr)
set_option maxHeartbeats 4000000 in
set_option maxRecDepth 100000 in
theorem same_any (l : List RE) (n : Nat) (A1 A2 : Option Addr) (k1 k2 : Nat) (w : World) (T1 : EvsIn w A1 n k1 l) (T2 : EvsIn w A2 n k2 l) :
    Calls Try.prog 19 #[.slice A1 n k1, .slice A2 n k2] w fun e w' => e = .returned (.bool true) ∧ Below w.heap.size w w' := by
  have H1 := Lib.hid T1.rd
  have H2 := Lib.hid T2.rd
  have HN := Lib.hid T1.len
  have hl := T1.lsz
  unfold maxLen at hl
  clear T1 T2
  go_enter Try.func19, Try.ntmps19
  go_wp2_with fail
  go_loopw [5] (fun i wr => SmRel n w i wr) (fun i _ => n - (intOf i).toNat)
  case atStart => exact ⟨0, rfl, Nat.zero_le _, Lib.hid (Below.refl _ _)⟩
  case round =>
    obtain ⟨k, rfl, hk, hB⟩ := hrel
    by_cases hlt : k < n
    · have hkl : k < l.length := by rw [← HN.out]; exact hlt
      obtain ⟨b1, o1, Aa1, m1, d1, rfl, hb1, r1, x0, x1, x2, x3, x4⟩ := (H1.out.keep hB.out) k _ (List.getElem?_eq_getElem hkl)
      obtain ⟨b2, o2, Aa2, m2, d2, rfl, hb2, r2, y0, y1, y2, y3, y4⟩ := (H2.out.keep hB.out) k _ (List.getElem?_eq_getElem hkl)
      have g1 : (k : Int) < (n : Int) := by omega
      have g0 : (0 : Int) ≤ (k : Int) := by omega
      generalize l[k] = x at *
      have CS : Hid (∀ W, Below wr.heap.size wr W → Calls Try.prog 12 #[.agg #[.int .i64 x.kind, .string x.sp, .string x.lo, .slice Aa1 m1 d1, .string x.tx], .agg #[.int .i64 x.kind, .string x.sp, .string x.lo, .slice Aa2 m2 d2, .string x.tx]] W fun e w' => e = .returned (.bool true) ∧ Below W.heap.size W w') := Lib.hid fun W hW => by
        have := sev_gen Aa1 Aa2 m1 m2 d1 d2 x x W (r1.keep hW) (r2.keep hW)
        rw [same_self] at this
        exact this
      have HX := Lib.hid (⟨x0, x1, x2, x3, x4⟩ : Ev1 wr b1 (o1 + k * 5) x.kind x.sp x.lo x.tx Aa1 m1 d1)
      have HY := Lib.hid (⟨y0, y1, y2, y3, y4⟩ : Ev1 wr b2 (o2 + k * 5) x.kind x.sp x.lo x.tx Aa2 m2 d2)
      have HL1 := Lib.hid hb1
      have HL2 := Lib.hid hb2
      clear r1 r2 hkl hb1 hb2
      obtain ⟨xk, xs, xl, xa, xt⟩ := x
      dsimp only at *
      have X1 := Lib.hid (HX.out.keep (Below.refl _ wr).drew HL1.out)
      have Y1 := Lib.hid (HY.out.keep (Below.refl _ wr).drew HL2.out)
      go_wp2_with fail
      go_region_held3 (fun W => (W.cell? ⟨b1, o1 + k * 5, none⟩ = some (.int .i64 xk) ∧ W.cell? ⟨b1, o1 + k * 5 + 1, none⟩ = some (.string xs) ∧ W.cell? ⟨b1, o1 + k * 5 + 2, none⟩ = some (.string xl) ∧ W.cell? ⟨b1, o1 + k * 5 + 3, none⟩ = some (.slice Aa1 m1 d1) ∧ W.cell? ⟨b1, o1 + k * 5 + 4, none⟩ = some (.string xt)) ∧ W.cell? ⟨b2, o2 + k * 5, none⟩ = some (.int .i64 xk) ∧ W.cell? ⟨b2, o2 + k * 5 + 1, none⟩ = some (.string xs) ∧ W.cell? ⟨b2, o2 + k * 5 + 2, none⟩ = some (.string xl) ∧ W.cell? ⟨b2, o2 + k * 5 + 3, none⟩ = some (.slice Aa2 m2 d2) ∧ W.cell? ⟨b2, o2 + k * 5 + 4, none⟩ = some (.string xt))
        (first | with_reducible exact ⟨⟨X1.out.c0, X1.out.c1, X1.out.c2, X1.out.c3, X1.out.c4⟩, Y1.out.c0, Y1.out.c1, Y1.out.c2, Y1.out.c3, Y1.out.c4⟩ | with_reducible exact ⟨⟨X2.out.c0, X2.out.c1, X2.out.c2, X2.out.c3, X2.out.c4⟩, Y2.out.c0, Y2.out.c1, Y2.out.c2, Y2.out.c3, Y2.out.c4⟩ | fail)
        (first | (go_at_call 12; refine (CS.out _ (Below.refl _ wr).drew).mono ?_; rintro e w2 ⟨rfl, hb⟩; have X2 := Lib.hid (HX.out.keep ((Below.refl _ wr).drew.trans hb) HL1.out); have Y2 := Lib.hid (HY.out.keep ((Below.refl _ wr).drew.trans hb) HL2.out); have B2 := Lib.hid (hB.out.trans (((Below.refl _ wr).drew.trans hb).mono hB.out.size)); clear hb) | fail)
      go_wp2
      go_roundw
      case rel => exact ⟨k + 1, by go_num, by omega, B2⟩
      case measure => simp only [intOf]; omega
    · have g1 : ¬ (k : Int) < (n : Int) := by omega
      go_wp2_with fail
      go_ret
      exact ⟨rfl, hB.out⟩
end Go.Proofs.Ytggeonoofjeecaa.Ev

/- WordPrefixes (layer 9) over the contracts of what it calls. -/
set_option linter.unusedSimpArgs false
set_option linter.unusedVariables false
namespace Go.Proofs.Ytggeonoofjeecaa.Ev
open Go.RowKit

theorem Try.info26 : (Try.prog.info? 26).map (fun i => (i.zero, i.size, i.bytes)) = some (some (.agg #[.int .i64 0, .string ⟨#[]⟩, .string ⟨#[]⟩, .slice none 0 0, .string ⟨#[]⟩]), 5, 80) := by kernel_rfl
theorem wpList_append_any {P : Program} {w : World} {ops : Array Oper} {rest : List Oper} {o : Oper} {a : Act} {Q : Exit → Act → World → Prop} (hgd : o.guard = none) (s x : Operand) (t : TypeId)
    (ho : o.op = .call { callee := .builtin .append, args := #[s, x], argTypes := #[t, t] })
    (base : Nat) (e : TypeId) (i : TypeInfo) (z : Value) (size bytes : Nat) (ht : P.underlying t = some (.slice e)) (hi : P.info? e = some i) (hz : i.zero = some z) (hsize : i.size = size) (hby : i.bytes = bytes) (hzs : z.cells.size = size) (hsz : 0 < size)
    (v : Value) (n : Nat) (xs : List Value) (hs : a.eval s = v) (hown : w.ownsRow base e size v n xs)
    (A : Option Addr) (m c : Nat) (news : List Value) (hx : a.eval x = .slice A m c) (hnil : A = none → m = 0 ∧ c = 0) (hl : news.length = m * size) (hnews : ∀ ad, A = some ad → ∀ j u, news[j]? = some u → w.cell? (ad.add j) = some u) (h1 : ∀ u ∈ news, u.oneCell' = true)
    (h63 : n + m ≤ maxLen) (hbytes : (n + m) * bytes ≤ 140737488355328) (hbase : base ≤ w.heap.size)
    (h : ∀ v' w', w'.ownsRow base e size v' (n + m) (xs ++ news) → w.grownBy w' v.ownBlock → wpList P ops Q rest (a.put o.dst v') w') :
    wpList P ops Q (o :: rest) a w := by
  cases A with
  | some ad => exact wpList_append_own w hgd s x t ho base e i z size bytes ht hi hz hsize hby hzs hsz v n xs hs hown ad m c news hx hl (hnews ad rfl) h1 h63 hbytes hbase (fun v' w' a1 a2 _ => h v' w' a1 a2)
  | none =>
    obtain ⟨rfl, rfl⟩ := hnil rfl
    have hnw : news = [] := List.eq_nil_of_length_eq_zero (by rw [hl, Nat.zero_mul])
    subst hnw
    refine wpList_plain hgd fun K hK => ?_
    have hr := run_append_owned_none (P := P) (w := w) base t o.type e i size ht hi v n xs hown
    unfold Oper.wp execOp
    simp only [ho, resolve, invoke, builtin, Sem.run_bind, Sem.run_pure, Result.andThen_ok, List.map_toArray, List.map_cons, List.map_nil, hs, hx, hr]
    exact hK _ _ (h v w (by rw [List.append_nil]; exact hown) ⟨rfl, rfl, rfl, Nat.le_refl _, fun _ _ _ => rfl⟩)
theorem own_src {W : World} {B n c z : Nat} {e : TypeId} {A : Option Addr} {xs : List Value} (h : W.ownsRow B e z (.slice A n c) n xs) : (A = none → n = 0 ∧ c = 0) ∧ ∀ ad, A = some ad → ∀ j u, xs[j]? = some u → W.cell? (ad.add j) = some u := by
  rcases h.2 with ⟨q, h0⟩ | ⟨g, cap, cur, q, hB, hh, hr⟩
  · injection q with q1 q2 q3
    refine ⟨fun _ => ⟨h0, q3⟩, fun ad e => ?_⟩
    rw [q1] at e
    cases e
  · injection q with q1 q2 q3
    subst q1
    refine ⟨(fun e => by cases e), fun ad e j u hu => ?_⟩
    cases e
    exact h.cells rfl j u hu
theorem emp_own {W : World} {S h : Nat} {e : TypeId} {z : Nat} (hh : W.heap[h]? = some (.cells #[] e (0, 0))) (hS : S ≤ h) : W.ownsRow S e z (.slice (some ⟨h, 0, none⟩) 0 0) 0 [] :=
  ⟨by simp, .inr ⟨h, 0, #[], rfl, hS, hh, Nat.le_refl _, by decide, by simp, by simp⟩⟩
theorem nod_take : ∀ (l : List RE) (i k : Nat), (nodG i (l.take k)).length ≤ (nodG i l).length
  | [], i, k => by simp
  | x :: r, i, 0 => by simp [nodG]
  | x :: r, i, k + 1 => by
    have h := nod_take r (i + 1) k
    rw [List.take_succ_cons]
    unfold nodG
    split
    · exact h
    · simpa using h
theorem clR (pL tR : ByteArray → Bool) : rightF pL tR clE = true := by
  have e : emB.toList.isEmpty = true := by rw [Lib.toList_data]; rfl
  unfold rightF noneF emp clE
  dsimp only
  rw [if_neg (by decide), if_pos rfl, e]
  rfl
/-- A beginning's beginning with its closers. -/
theorem all_whole {pL tR : ByteArray → Bool} (hop : rightF pL tR opE = true) {u : List RE} (hu : 0 ≤ depF pL tR u) : depF pL tR (u ++ cloF pL tR u) = 0 ∧ 0 < (u ++ cloF pL tR u).length := by
  have e : cloF pL tR u = if u = [] then [opE, clE] else List.replicate (depF pL tR u).toNat clE := by unfold cloF; rw [if_neg (by omega)]
  by_cases h0 : u = []
  · rw [e, if_pos h0, h0]
    exact ⟨dep_two hop rfl (clR pL tR) rfl, by simp⟩
  · rw [e, if_neg h0]
    refine ⟨dep_whole (R := rightF pL tR) (clR pL tR) rfl h0 (d := (depF pL tR u).toNat) ?_, ?_⟩
    · have : depF pL tR u = depR (rightF pL tR) true 0 0 u := rfl
      omega
    · have := List.length_pos_iff.2 h0
      rw [List.length_append]
      omega
set_option maxHeartbeats 8000000 in
set_option maxRecDepth 100000 in
theorem prefixes_law (G : World → Prop) (pL tR : ByteArray → Bool) (hW : Wc G pL tR) (A : Option Addr) (n c : Nat) (cv : Int) (l : List RE) (w : World) (T : EvsIn w A n c l) (hG : G w) (h0 : 0 ≤ cv) (h1 : cv ≤ 255) : Calls Try.prog 5 #[.slice A n c, .int .u8 cv] w fun e w' => e = .returned (.bool true) ∧ Below w.heap.size w w' := by
  obtain ⟨i0, hi, hz0, hz1, hz2⟩ := info_parts Try.info26
  have CA := Lib.hid (hW.aw w hG)
  have HW := Lib.hid hW
  have HG : Hid (∀ W, Below w.heap.size w W → G W) := Lib.hid fun W hb => hW.keep _ _ hG hb
  have HT : Hid (∀ W, Below w.heap.size w W → EvsIn W A n c l) := Lib.hid fun W hb => T.keep hb
  have HL := Lib.hid T.len
  have hcap := T.cap
  unfold maxLen at hcap
  have CF : Hid (∀ W, Below w.heap.size w W → Calls Try.prog 8 #[.slice A n c] W (FwPost l W)) := Lib.hid fun W hb => few_any A n c l W (T.keep hb)
  clear T hG hW
  go_enter Try.func5, Try.ntmps5
  go_wp2_with fail
  refine CA.out.mono ?_
  rintro e w1 ⟨rfl, b1⟩
  have B1 := Lib.hid b1
  clear CA b1
  go_wp2_with fail
  refine (CF.out _ B1.out).mono ?_
  rintro e w2 ⟨bf, rfl, hf, rfl⟩
  clear CF
  cases bf with
  | false =>
    have CA2 := Lib.hid (HW.out.aw _ (HG.out _ B1.out))
    clear hf
    go_wp2_with fail
    refine CA2.out.mono ?_
    rintro e w2 ⟨rfl, b2⟩
    go_wp2
    go_ret
    exact ⟨rfl, B1.out.trans (b2.mono B1.out.size)⟩
  | true =>
    have HF : Hid (FewL l) := Lib.hid ⟨by have := (hf rfl).1; omega, (hf rfl).2⟩
    have hn4 : n ≤ 400 := by rw [HL.out]; exact (hf rfl).1
    have CB := Lib.hid (HW.out.begins A n c l w1 (HG.out w1 B1.out) (HT.out w1 B1.out) HF.out)
    clear hf
    by_cases hd : 0 ≤ depF pL tR l
    · rw [decide_eq_true hd] at CB
      obtain ⟨k, hq⟩ : ∃ k : Nat, cv.tmod ((n : Int) + 1) = (k : Int) := ⟨(cv.tmod ((n : Int) + 1)).toNat, by have := Int.tmod_nonneg ((n : Int) + 1) h0; omega⟩
      have hk : k ≤ n := by have := Int.tmod_lt_of_pos cv (show (0 : Int) < (n : Int) + 1 by omega); omega
      have e0 : ((n : Int) + 1 == 0) = false := by rw [beq_eq_false_iff_ne]; omega
      have HTu : Hid (∀ W, Below w.heap.size w W → EvsIn W A k c (l.take k)) := Lib.hid fun W hb => (HT.out W hb).take hk
      have HFu : Hid (FewL (l.take k)) := Lib.hid ⟨by have := HF.out.1; rw [List.length_take]; omega, fun j x hx => by
        rw [List.getElem?_take] at hx
        by_cases q : j < k
        · rw [if_pos q] at hx
          exact HF.out.2 j x hx
        · rw [if_neg q] at hx
          cases hx⟩
      have hdu : 0 ≤ depF pL tR (l.take k) := dep_take l k hd
      have HNd : Hid ((nodF pL tR (l.take k)).length ≤ (nodF pL tR l).length) := Lib.hid (by
        unfold nodF
        rw [if_neg (by omega), if_neg (by omega)]
        exact nod_take l 0 k)
      have HLu : Hid (k = (l.take k).length) := Lib.hid (by rw [List.length_take, ← HL.out]; omega)
      have C17l : Hid (∀ W, Below w.heap.size w W → Calls Try.prog 17 #[.slice A n c] W fun e w' => ∃ v, e = .returned v ∧ OwnI w' W.heap.size v (nodF pL tR l) ∧ Below W.heap.size W w') := Lib.hid fun W hb => HW.out.nodes A n c l W (HG.out W hb) (HT.out W hb) HF.out
      clear HL hd
      generalize l.take k = u at *
      have C14 : Hid (∀ W, Below w.heap.size w W → Calls Try.prog 14 #[.slice A k c] W fun e w' => e = .returned (.bool true) ∧ Below W.heap.size W w') := Lib.hid fun W hb => by
        have := HW.out.begins A k c u W (HG.out W hb) (HTu.out W hb) HFu.out
        rw [decide_eq_true hdu] at this
        exact this
      have C17u : Hid (∀ W, Below w.heap.size w W → Calls Try.prog 17 #[.slice A k c] W fun e w' => ∃ v, e = .returned v ∧ OwnI w' W.heap.size v (nodF pL tR u) ∧ Below W.heap.size W w') := Lib.hid fun W hb => HW.out.nodes A k c u W (HG.out W hb) (HTu.out W hb) HFu.out
      have C18 : Hid (∀ W, Below w.heap.size w W → Calls Try.prog 18 #[.slice A k c] W fun e w' => ∃ v, e = .returned v ∧ OwnV w' W.heap.size v (cloF pL tR u) ∧ Below W.heap.size W w') := Lib.hid fun W hb => HW.out.closers A k c u W (HG.out W hb) (HTu.out W hb) HFu.out
      have HAl := Lib.hid (all_whole HW.out.opR hdu)
      have HCf := Lib.hid (clo_few (pL := pL) (tR := tR) (l := u))
      have HCi : Hid (∀ W, PeO W (cloP (cloF pL tR u))) := Lib.hid fun W => clo_in W
      have Call : Hid (∀ W A9 n9 c9, Below w.heap.size w W → EvsIn W A9 n9 c9 (u ++ cloF pL tR u) → (Calls Try.prog 15 #[.slice A9 n9 c9] W fun e w' => e = .returned (.bool true) ∧ Below W.heap.size W w') ∧ (Calls Try.prog 16 #[.slice A9 n9 c9] W fun e w' => e = .returned (.int .i64 0) ∧ Below W.heap.size W w')) := Lib.hid fun W A9 n9 c9 hb h => by
        have hF : FewL (u ++ cloF pL tR u) := ⟨by
          have h1 := HLu.out
          have h2 := HCf.out.1
          rw [List.length_append]
          omega, fun j x hx => by
          rcases Nat.lt_or_ge j u.length with q | q
          · rw [List.getElem?_append_left q] at hx
            exact HFu.out.2 j x hx
          · rw [List.getElem?_append_right q] at hx
            exact HCf.out.2 x (List.mem_of_getElem? hx)⟩
        have h15 := HW.out.whole A9 n9 c9 _ W (HG.out W hb) h hF
        have h16 := HW.out.depth A9 n9 c9 _ W (HG.out W hb) h hF
        rw [HAl.out.1] at h15 h16
        rw [decide_eq_true (⟨rfl, by rw [h.len]; exact HAl.out.2⟩ : (0 : Int) = 0 ∧ 0 < n9)] at h15
        exact ⟨h15, h16⟩
      clear HF HFu HW HG HT hdu HAl
      generalize cloF pL tR u = cs at *
      generalize nodF pL tR u = nu at *
      generalize nodF pL tR l = nl at *
      go_wp2_with fail
      refine CB.out.mono ?_
      rintro e w3 ⟨rfl, b3⟩
      have B3 := Lib.hid (B1.out.trans (b3.mono B1.out.size))
      clear CB b3 B1
      go_wp2_with fail
      refine (C18.out _ B3.out).mono ?_
      rintro e w6 ⟨v6, rfl, h6, b6⟩
      have B6 := Lib.hid (B3.out.trans (b6.mono B3.out.size))
      obtain ⟨A6, c6, hv⟩ := own_slice h6
      subst hv
      have H6 : Hid (∀ W, Below w6.heap.size w6 W → W.ownsRow w3.heap.size 26 5 (.slice A6 cs.length c6) cs.length (cs.flatMap reC)) := Lib.hid fun W hb => own_keep h6 hb
      obtain ⟨m, hm⟩ : ∃ m, m = cs.length := ⟨_, rfl⟩
      have HM := Lib.hid hm
      have hm64 : m ≤ 64 := by rw [hm]; exact HCf.out.1
      rw [← hm] at H6 ⊢
      have HBe : Hid (Below w6.heap.size w6 (w6.alloc (.cells #[] 26))) := Lib.hid ((Below.refl _ _).alloc (Nat.le_refl _) _)
      have HE0 : Hid ((w6.alloc (.cells #[] 26)).ownsRow w6.heap.size 26 5 (.slice (some ⟨w6.heap.size, 0, none⟩) 0 0) 0 []) := Lib.hid (emp_own (nblk w6 26 #[]) (Nat.le_refl _))
      obtain ⟨ups, hu1, hu2, hu3⟩ := (HTu.out _ B6.out).pairs
      have hul : ups.length = k := by rw [← List.length_map (f := (·.1)), hu1, ← HLu.out]
      have HU1 := Lib.hid hu1
      have HU2 := Lib.hid hu2
      have HU3 : Hid (∀ W, Below w6.heap.size w6 W → ∀ ad, A = some ad → ∀ j u, (peL ups)[j]? = some u → W.cell? (ad.add j) = some u) := Lib.hid fun W hb ad ha j u hu => (hb.cell (p := ad.add j) (Lib.lt_of_cell (hu3 ad ha j u hu))).trans (hu3 ad ha j u hu)
      have HUl := Lib.hid hul
      have HNil := Lib.hid (HTu.out _ B6.out).nil
      have hpl : (peL ups).length = k * 5 := by rw [peL_len, hul]
      have hsz : w6.heap.size ≤ (w6.alloc (.cells #[] 26)).heap.size := by simp
      have hcl : (cs.flatMap reC).length = m * 5 := by rw [← cloP_cells, peL_len, HM.out]; unfold cloP; rw [List.length_map]
      clear C18 b6 B3 h6 hm hu1 hu2 hu3 hul HTu
      go_wp2_with (at_builtin
                   refine wpList_append_any (w := w6.alloc (.cells #[] 26)) rfl _ _ 29 rfl w6.heap.size 26 i0 (.agg #[.int .i64 0, .string ⟨#[]⟩, .string ⟨#[]⟩, .slice none 0 0, .string ⟨#[]⟩]) 5 80 Try.underlying29 hi hz0 hz1 hz2 rfl (by decide) _ 0 [] rfl HE0.out A k c (peL ups) rfl HNil.out hpl (HU3.out _ HBe.out) (peL_one ups) (by unfold maxLen; omega) (by omega) hsz ?_)
      intro v7 w7 n1 n2
      have B7 := Lib.hid (HBe.out.grown n2 hsz (fun j hj => (World.ownsRow.lt HE0.out j hj).1))
      obtain ⟨A7, c7, hv⟩ := own_slice n1
      subst hv
      have O7 := Lib.hid n1
      have hz7 := B7.out.size
      obtain ⟨sn, sc⟩ := own_src (H6.out w7 B7.out)
      have SN := Lib.hid sn
      have SC := Lib.hid sc
      have h1c : ∀ u ∈ cs.flatMap reC, u.oneCell' = true := by rw [← cloP_cells]; exact peL_one _
      have H1c := Lib.hid h1c
      clear n1 n2 HBe HE0 HU3 HNil hpl hsz sn sc h1c
      go_wp2_with (at_builtin
                   refine wpList_append_any (w := w7) rfl _ _ 29 rfl w6.heap.size 26 i0 (.agg #[.int .i64 0, .string ⟨#[]⟩, .string ⟨#[]⟩, .slice none 0 0, .string ⟨#[]⟩]) 5 80 Try.underlying29 hi hz0 hz1 hz2 rfl (by decide) _ k (peL ups) rfl O7.out A6 m c6 (cs.flatMap reC) rfl SN.out hcl SC.out H1c.out (by unfold maxLen; omega) (by omega) hz7 ?_)
      intro v9 w9 n1 n2
      have B9 := Lib.hid (B7.out.grown n2 hz7 (fun j hj => (World.ownsRow.lt O7.out j hj).1))
      obtain ⟨A9, c9, hv⟩ := own_slice n1
      subst hv
      have E9 : Hid (EvsIn w9 A9 (k + m) c9 (u ++ cs)) := Lib.hid (by
        have h := own_evs (ps := ups ++ cloP cs) (by rw [peL_app, cloP_cells]; exact n1) (by rw [List.length_append, HUl.out, HM.out]; unfold cloP; rw [List.length_map]) ((HU2.out.keep B9.out).app (HCi.out w9)) (by omega)
        rw [List.map_append, HU1.out, cloP_fst] at h
        exact h)
      have W9 := Lib.hid (B6.out.trans (B9.out.mono B6.out.size))
      clear n1 n2 O7 SN SC H1c hcl hz7 B7 B9 HU1 HU2 HUl HM H6 HCi HLu HCf B6
      go_wp2_with fail
      refine (C14.out _ W9.out).mono ?_
      rintro e wa ⟨rfl, ba⟩
      have Wa := Lib.hid (W9.out.trans (ba.mono W9.out.size))
      have Ea := Lib.hid (E9.out.keep ba)
      clear C14 ba E9 W9
      go_wp2_with fail
      refine ((Call.out _ _ _ _ Wa.out Ea.out).1).mono ?_
      rintro e wb ⟨rfl, bb⟩
      have Wb := Lib.hid (Wa.out.trans (bb.mono Wa.out.size))
      have Eb := Lib.hid (Ea.out.keep bb)
      clear bb Ea Wa
      go_wp2_with fail
      refine ((Call.out _ _ _ _ Wb.out Eb.out).2).mono ?_
      rintro e wd ⟨rfl, bd⟩
      have Wd := Lib.hid (Wb.out.trans (bd.mono Wb.out.size))
      clear bd Eb Wb Call
      go_wp2_with fail
      refine (C17u.out _ Wd.out).mono ?_
      rintro e we ⟨v1, rfl, o1, be⟩
      obtain ⟨X1, y1, hv⟩ := own_slice o1
      subst hv
      have We := Lib.hid (Wd.out.trans (be.mono Wd.out.size))
      obtain ⟨q1, hq1⟩ : ∃ q1, q1 = nu.length := ⟨_, rfl⟩
      obtain ⟨q2, hq2⟩ : ∃ q2, q2 = nl.length := ⟨_, rfl⟩
      have hqq : (q1 : Int) ≤ (q2 : Int) := by have := HNd.out; omega
      have hqd : decide ((q1 : Int) ≤ (q2 : Int)) = true := by rw [decide_eq_true_eq]; exact hqq
      rw [← hq1]
      have HQ2 := Lib.hid hq2
      clear o1 be Wd C17u HNd hq1 hq2
      go_wp2_with fail
      refine (C17l.out _ We.out).mono ?_
      rintro e wf ⟨v2, rfl, o2, bf⟩
      obtain ⟨X2, y2, hv⟩ := own_slice o2
      subst hv
      have Wf := Lib.hid (We.out.trans (bf.mono We.out.size))
      rw [← HQ2.out]
      clear o2 bf We C17l HQ2
      go_wp2
      go_ret
      exact ⟨rfl, Wf.out⟩
    · rw [decide_eq_false hd] at CB
      clear HF HT
      go_wp2_with fail
      refine CB.out.mono ?_
      rintro e w3 ⟨rfl, b3⟩
      have B3 := Lib.hid (B1.out.trans (b3.mono B1.out.size))
      have CA2 := Lib.hid (HW.out.aw _ (HG.out _ B3.out))
      clear CB b3 B1 hd
      go_wp2_with fail
      refine CA2.out.mono ?_
      rintro e w4 ⟨rfl, b4⟩
      go_wp2
      go_ret
      exact ⟨rfl, B3.out.trans (b4.mono B3.out.size)⟩
end Go.Proofs.Ytggeonoofjeecaa.Ev
