/-
  The walk of scope.bind.
-/
import Derived.Test.YtepmleieekpdiaaScRes
set_option linter.unusedSimpArgs false
set_option linter.unusedVariables false
namespace Go.Proofs.Ytepmleieekpdiaa
open Go.RowKit

def BndC (s b : ByteArray) (ok : Bool) : Prop := ∀ w, Calls Try.prog 31 #[.string s] w fun e w' => e = .returned (.tuple #[.string b, .bool ok]) ∧ Below w.heap.size w w'
theorem bnd_none {s : ByteArray} (hs : s.size ≤ 1000) (h : bndF s = none) : BndC s ⟨#[]⟩ false := fun w => (bound_any s hs w).mono fun e w' ⟨h1, h2⟩ => ⟨by rw [h1, h]; rfl, h2⟩
theorem bnd_some {s p : ByteArray} (hs : s.size ≤ 1000) (h : bndF s = some p) : BndC s p true := fun w => (bound_any s hs w).mono fun e w' ⟨h1, h2⟩ => ⟨by rw [h1, h]; rfl, h2⟩
def CpC (p s : ByteArray) : Prop := ∀ w, Calls Try.prog 30 #[.agg #[.string p, .string s]] w fun e w' => e = .returned (.agg #[.string p, .string s]) ∧ Below w.heap.size w w'
def AlC (p s : ByteArray) (b : Bool) : Prop := ∀ w, Calls Try.prog 32 #[.agg #[.string p, .string s]] w fun e w' => e = .returned (.bool b) ∧ Below w.heap.size w w'
theorem alc_any {p s : ByteArray} {b : Bool} (h : okB p s = b) : AlC p s b := fun w => (allow_any p s w).mono fun e w' ⟨h1, h2⟩ => ⟨by rw [h1, h], h2⟩
theorem bnd_size {s p : ByteArray} (h : bndF s = some p) : p.size ≤ s.size := by
  unfold bndF at h
  split at h
  · injection h with h
    rw [← h]
    exact (split_size s).2
  · split at h
    · injection h with h
      rw [← h, em_size]
      exact Nat.zero_le _
    · cases h
theorem drop_cons {α : Type} {l : List α} {k : Nat} {x : α} (h : l[k]? = some x) : l.drop k = x :: l.drop (k + 1) := by
  obtain ⟨h1, h2⟩ := List.getElem?_eq_some_iff.1 h
  rw [List.drop_eq_getElem_cons h1, h2]
theorem bind_skip {l R : List P2} {k : Nat} {x : P2} (h : R[k]? = some x) (hb : bndF x.1 = none) : bindF l (R.drop k) = bindF l (R.drop (k + 1)) := by
  rw [drop_cons h, bindF, hb]
theorem bind_go {l R : List P2} {k : Nat} {x : P2} {p : ByteArray} (h : R[k]? = some x) (hb : bndF x.1 = some p) (ho : okB p x.2 = true) : bindF l (R.drop k) = bindF (l ++ [(p, x.2)]) (R.drop (k + 1)) := by
  rw [drop_cons h, bindF, hb]
  show (if okB p x.2 = true then _ else _) = _
  rw [if_pos ho]
theorem bind_stop {l R : List P2} {k : Nat} {x : P2} {p : ByteArray} (h : R[k]? = some x) (hb : bndF x.1 = some p) (ho : okB p x.2 = false) : bindF l (R.drop k) = none := by
  rw [drop_cons h, bindF, hb]
  show (if okB p x.2 = true then _ else _) = _
  rw [if_neg (by rw [ho]; simp)]
/-- What bind leaves. -/
def BdPost (w : World) (o : Option (List P2)) (e : Ending) (w' : World) : Prop :=
  (o = none → e = .returned (.tuple #[.slice none 0 0, .int .i64 9])) ∧ (∀ W, o = some W → ∃ v, e = .returned (.tuple #[v, .int .i64 0]) ∧ OwnP 50 w' w.heap.size v W) ∧ Below w.heap.size w w'
def BdRel1 (L : List P2) (N : Nat) (A2 : Option Addr) (R : List P2) (w : World) (v i : Value) (wr : World) : Prop :=
  ∃ k : Nat, i = .int .i64 k ∧ k ≤ N ∧ Hid (wr.ownsRow w.heap.size 50 2 v k (rwL (L.take k))) ∧ Hid (Below w.heap.size w wr)
def BdRel2 (L R : List P2) (N M : Nat) (w : World) (v i : Value) (wr : World) : Prop :=
  ∃ (k m : Nat) (W : List P2), i = .int .i64 k ∧ k ≤ M ∧ m ≤ N + k ∧ Hid (m = W.length) ∧ Hid (wr.ownsRow w.heap.size 50 2 v m (rwL W)) ∧ Hid (Below w.heap.size w wr) ∧ Hid (bindF L R = bindF W (R.drop k))
theorem own_drop {w : World} {B : Nat} {e : TypeId} {z n : Nat} {v : Value} {xs : List Value} (h : w.ownsRow B e z v n xs) (hB : B ≤ w.heap.size) : ∀ k, v.ownBlock = some k → B ≤ k := fun k hk => (h.lt k hk).1
theorem pair_one (p s : ByteArray) : ∀ u ∈ [Value.string p, Value.string s], u.oneCell' = true := rw_one (p, s)
set_option maxHeartbeats 4000000 in
set_option maxRecDepth 100000 in
theorem bind_any (A A2 : Option Addr) (N M cap cap2 : Nat) (L R : List P2) (w : World) (hN : N = L.length) (hM : M = R.length) (hN1 : N ≤ 1000) (hM1 : M ≤ 1000) (hlim : LimL L) (hlimR : LimL R) (hsz : ∀ x ∈ R, x.1.size ≤ 1000) (hR : RdR w A L) (hR2 : RdR w A2 R) :
    Calls Try.prog 22 #[.slice A N cap, .slice A2 M cap2] w (BdPost w (bindF L R)) := by
  obtain ⟨i0, hi, hz0, hz1, hz2⟩ := info_parts Try.info50
  have HN := Lib.hid hN
  have HM := Lib.hid hM
  have HL := Lib.hid hlim
  have HLR := Lib.hid hlimR
  have HS := Lib.hid hsz
  have HR := Lib.hid hR
  have HR2 := Lib.hid hR2
  clear hN hM hlim hlimR hsz hR hR2
  go_enter Try.func22, Try.ntmps22
  go_wp2_with fail
  go_loopw [6, 16] (fun v i wr => BdRel1 L N A2 R w v i wr) (fun _ i _ => N - (intOf i).toNat)
  case atStart => exact ⟨0, rfl, Nat.zero_le _, Lib.hid ⟨by simp [rwL], .inl ⟨rfl, rfl⟩⟩, Lib.hid (Below.refl _ _)⟩
  case round =>
    obtain ⟨k, rfl, hk, hO, hB⟩ := hrel
    by_cases hlt : k < N
    · have hkl : k < L.length := by rw [← HN.out]; exact hlt
      have hx := List.getElem?_eq_getElem hkl
      obtain ⟨b1, o1, rfl, hb1, x0, x1⟩ := (HR.out.keep hB.out) k _ hx
      have hz := HL.out _ (List.getElem_mem hkl)
      have HX := Lib.hid hx
      have d1 : (k : Int) < (N : Int) := by omega
      have d0 : (0 : Int) ≤ (k : Int) := by omega
      clear hx
      generalize L[k] = t at *
      obtain ⟨tp, ts⟩ := t
      dsimp only at x0 x1 hz
      have C : Hid (CpC tp ts) := Lib.hid (fun W => copied_any tp ts W hz.1 hz.2)
      obtain ⟨A0, c0, rfl⟩ := own_slice hO.out
      clear hz
      go_wp2_with (first
        | (go_at_call 30; refine (C.out _).mono ?_; rintro e w1 ⟨rfl, hb⟩
           have ho1 := Lib.hid ((own_keep (hO.out.alloc _) hb).alloc (.cells #[.string tp, .string ts] 50))
           have hB1 := Lib.hid ((hB.out.alloc hB.out.size _).trans (hb.mono (Nat.le_trans hB.out.size (by simp))))
           have hB2 := Lib.hid (hB1.out.alloc hB1.out.size (.cells #[.string tp, .string ts] 50))
           have hnew := Lib.hid (new_cells w1 #[.string tp, .string ts] 50))
        | (at_builtin
           refine wpList_append_own _ rfl _ _ 22 rfl w.heap.size 50 i0 (.agg #[.string ⟨#[]⟩, .string ⟨#[]⟩]) 2 32 Try.underlying22 hi hz0 hz1 hz2 rfl (by decide) _ k (rwL (L.take k)) rfl ho1.out ⟨w1.heap.size, 0, none⟩ 1 1 [.string tp, .string ts] rfl rfl hnew.out (pair_one tp ts) (by unfold maxLen; omega) (by omega) hB2.out.size ?_
           intro v' w2 hown' hgrow hnil
           obtain ⟨g', cap', rfl⟩ := own_shape hown'
           have hO2 := Lib.hid hown'
           have hB3 := Lib.hid (hB2.out.grown hgrow hB2.out.size (fun j hj => (World.ownsRow.lt ho1.out j hj).1))
           clear hown' hgrow hnil))
      go_roundw
      case rel => exact ⟨k + 1, by go_num, by omega, Lib.hid (by rw [take_snoc L k _ HX.out, rwL_app]; exact hO2.out), hB3⟩
      case measure => simp only [intOf]; omega
    · have d1 : ¬ (k : Int) < (N : Int) := by omega
      have HL0 : Hid (L.take k = L) := Lib.hid (List.take_of_length_le (by rw [← HN.out]; omega))
      have HK0 : Hid (k = L.length) := Lib.hid (by have := HN.out; omega)
      have hkN : k ≤ N := hk
      rw [HL0.out] at hO
      clear HL0 HR HL
      obtain ⟨A0, c0, rfl⟩ := own_slice hO.out
      go_wp2_with fail
      go_loopw [6, 28] (fun v i wr => BdRel2 L R N M w v i wr) (fun _ i _ => M - (intOf i).toNat)
      case atStart => exact ⟨0, k, L, rfl, Nat.zero_le _, by omega, HK0, hO, hB, Lib.hid rfl⟩
      case round =>
        clear hO hB HK0 d1
        obtain ⟨j, m, W, rfl, hj, hm, HW, hO, hB, HI⟩ := hrel
        clear hlt hk hkN
        obtain ⟨A1, c1, rfl⟩ := own_slice hO.out
        by_cases hlt : j < M
        · have hkl : j < R.length := by rw [← HM.out]; exact hlt
          have hx := List.getElem?_eq_getElem hkl
          obtain ⟨b1, o1, rfl, hb1, x0, x1⟩ := (HR2.out.keep hB.out) j _ hx
          have hz := HLR.out _ (List.getElem_mem hkl)
          have hs := HS.out _ (List.getElem_mem hkl)
          have HX := Lib.hid hx
          have d1 : (j : Int) < (M : Int) := by omega
          have d0 : (0 : Int) ≤ (j : Int) := by omega
          clear hx
          generalize R[j] = t at *
          obtain ⟨an, av⟩ := t
          dsimp only at x0 x1 hz hs
          cases hbn : bndF an with
          | none =>
            have CB := Lib.hid (bnd_none hs hbn)
            have HE := Lib.hid (bind_skip (l := W) HX.out hbn)
            clear hbn hz hs
            go_wp2_with (go_at_call 31; refine (CB.out _).mono ?_; rintro e w1 ⟨rfl, hb⟩)
            go_roundw
            case rel => exact ⟨j + 1, m, W, by go_num, by omega, by omega, HW, Lib.hid (own_keep (hO.out.alloc _) hb), Lib.hid ((hB.out.alloc hB.out.size _).trans (hb.mono (Nat.le_trans hB.out.size (by simp)))), Lib.hid (HI.out.trans HE.out)⟩
            case measure => simp only [intOf]; omega
          | some p =>
            have CB := Lib.hid (bnd_some hs hbn)
            have hps := bnd_size hbn
            have C : Hid (CpC p av) := Lib.hid (fun W => copied_any p av W (Nat.le_trans hps hz.1) hz.2)
            cases hok : okB p av with
            | true =>
              have CA := Lib.hid (alc_any hok)
              have HE := Lib.hid (bind_go (l := W) HX.out hbn hok)
              clear hbn hz hs hps hok
              go_wp2_with (first
                | (go_at_call 31; refine (CB.out _).mono ?_; rintro e w1 ⟨rfl, hb⟩
                   have ho1 := Lib.hid ((own_keep (hO.out.alloc _) hb).alloc (.cells #[.string p, .string av] 50))
                   have hB1 := Lib.hid ((hB.out.alloc hB.out.size _).trans (hb.mono (Nat.le_trans hB.out.size (by simp))))
                   have hq1 : w1.cell? ⟨wr.heap.size, 1, none⟩ = some (.string av) := (hb.cell (p := ⟨wr.heap.size, 1, none⟩) (by simp)).trans (by simp)
                   have hB2 := Lib.hid (hB1.out.alloc hB1.out.size (.cells #[.string p, .string av] 50)))
                | (go_at_call 32; refine (CA.out _).mono ?_; rintro e w2 ⟨rfl, hb2⟩
                   have ho2 := Lib.hid (own_keep ho1.out hb2)
                   have hB3 := Lib.hid (hB2.out.trans (hb2.mono hB2.out.size))
                   have hq2 : w2.cell? ⟨w1.heap.size, 0, none⟩ = some (.string p) := (hb2.cell (p := ⟨w1.heap.size, 0, none⟩) (by simp)).trans (by simp)
                   have hq3 : w2.cell? ⟨w1.heap.size, 1, none⟩ = some (.string av) := (hb2.cell (p := ⟨w1.heap.size, 1, none⟩) (by simp)).trans (by simp))
                | (go_at_call 30; refine (C.out _).mono ?_; rintro e w3 ⟨rfl, hb3⟩
                   have ho3 := Lib.hid ((own_keep ho2.out hb3).alloc (.cells #[.string p, .string av] 50))
                   have hB4 := Lib.hid (hB3.out.trans (hb3.mono hB3.out.size))
                   have hB5 := Lib.hid (hB4.out.alloc hB4.out.size (.cells #[.string p, .string av] 50))
                   have hnew := Lib.hid (new_cells w3 #[.string p, .string av] 50))
                | (at_builtin
                   refine wpList_append_own _ rfl _ _ 22 rfl w.heap.size 50 i0 (.agg #[.string ⟨#[]⟩, .string ⟨#[]⟩]) 2 32 Try.underlying22 hi hz0 hz1 hz2 rfl (by decide) _ m (rwL W) rfl ho3.out ⟨w3.heap.size, 0, none⟩ 1 1 [.string p, .string av] rfl rfl hnew.out (pair_one p av) (by unfold maxLen; omega) (by omega) hB5.out.size ?_
                   intro v' w4 hown' hgrow hnil
                   obtain ⟨g', cap', rfl⟩ := own_shape hown'
                   have hO2 := Lib.hid hown'
                   have hB6 := Lib.hid (hB5.out.grown hgrow hB5.out.size (fun j hj => (World.ownsRow.lt ho3.out j hj).1))
                   clear hown' hgrow hnil))
              go_roundw
              case rel => exact ⟨j + 1, m + 1, W ++ [(p, av)], by go_num, by omega, by omega, Lib.hid (by rw [List.length_append, ← HW.out]; rfl), Lib.hid (by rw [rwL_app]; exact hO2.out), hB6, Lib.hid (HI.out.trans HE.out)⟩
              case measure => simp only [intOf]; omega
            | false =>
              have CA := Lib.hid (alc_any hok)
              have HE := Lib.hid (bind_stop (l := W) HX.out hbn hok)
              clear hbn hz hs hps hok
              go_wp2_with (first
                | (go_at_call 31; refine (CB.out _).mono ?_; rintro e w1 ⟨rfl, hb⟩
                   have hB1 := Lib.hid ((hB.out.alloc hB.out.size _).trans (hb.mono (Nat.le_trans hB.out.size (by simp))))
                   have hq1 : w1.cell? ⟨wr.heap.size, 1, none⟩ = some (.string av) := (hb.cell (p := ⟨wr.heap.size, 1, none⟩) (by simp)).trans (by simp)
                   have hB2 := Lib.hid (hB1.out.alloc hB1.out.size (.cells #[.string p, .string av] 50)))
                | (go_at_call 32; refine (CA.out _).mono ?_; rintro e w2 ⟨rfl, hb2⟩
                   have hB3 := Lib.hid (hB2.out.trans (hb2.mono hB2.out.size))))
              go_ret2
              refine ⟨fun _ => rfl, fun W' hW' => ?_, hB3.out⟩
              rw [HI.out.trans HE.out] at hW'
              cases hW'
        · have d1 : ¬ (j : Int) < (M : Int) := by omega
          have HD : Hid (R.drop j = []) := Lib.hid (List.drop_of_length_le (by rw [← HM.out]; omega))
          go_wp2_with fail
          go_ret2
          have hf : bindF L R = some W := by
            rw [HI.out, HD.out]
            rfl
          refine ⟨fun h => ?_, fun W' hW' => ⟨_, rfl, ?_⟩, hB.out⟩
          · rw [hf] at h
            cases h
          · rw [hf] at hW'
            injection hW' with hW'
            subst hW'
            unfold OwnP
            rw [← HW.out]
            exact hO.out
end Go.Proofs.Ytepmleieekpdiaa
