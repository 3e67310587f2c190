/-
  Merged by program out of the texts ScAttrs, ScEnter, ScEnterOk, ScTop, WlMem of one seat.
-/
import Derived.Test.YtkeilgompipfjaaGreatDoorG10
import Derived.Test.YtkeilgompipfjaaGreatDoorG09
import Derived.Test.YtkeilgompipfjaaGreatDoorG03
import Derived.Test.YtkeilgompipfjaaGreatDoorG04

/- The walk of scope.attributes. -/
set_option linter.unusedSimpArgs false
set_option linter.unusedVariables false
namespace Go.Proofs.YtkeilgompipfjaaGreatDoor.Nz.Sc
open Go.RowKit

def AtC (A : Option Addr) (N cap : Nat) (s : ByteArray) (v : Value) (w : World) : Prop := ∀ W, Below w.heap.size w W → Calls Tryz.prog 89 #[.slice A N cap, .string s] W fun e w' => e = .returned v ∧ Below W.heap.size W w'
/-- What attributes leaves. -/
def AtPost (w : World) (o : Except Int (List P3)) (e : Ending) (w' : World) : Prop :=
  (∀ c, o = .error c → e = .returned (.tuple #[.slice none 0 0, .int .i64 c])) ∧ (∀ f, o = .ok f → ∃ v, e = .returned (.tuple #[v, .int .i64 0]) ∧ OwnT w' w.heap.size v f) ∧ Below w.heap.size w w'
def AtRel (L R : List P2) (M : Nat) (w : World) (v i : Value) (wr : World) : Prop :=
  ∃ (k m : Nat) (f : List P3), i = .int .i64 k ∧ k ≤ M ∧ m ≤ k ∧ Hid (m = f.length) ∧ Hid (wr.ownsRow w.heap.size 90 3 v m (tL f)) ∧ Hid (SeenM wr w.heap.size (f.map (·.1))) ∧ Hid (Below w.heap.size w wr) ∧ Hid (attF L [] R = attF L f (R.drop k))
theorem att_skip {L R : List P2} {f : List P3} {k : Nat} {x : P2} {p : ByteArray} (h : R[k]? = some x) (hb : bndF x.1 = some p) : attF L f (R.drop k) = attF L f (R.drop (k + 1)) := by
  rw [drop_cons h, attF, hb]
theorem att_nine {L R : List P2} {f : List P3} {k : Nat} {x : P2} (h : R[k]? = some x) (hb : bndF x.1 = none) (hn : atnF L x.1 = none) : attF L f (R.drop k) = .error 9 := by
  rw [drop_cons h, attF, hb]
  dsimp only
  rw [hn]
theorem att_eight {L R : List P2} {f : List P3} {k : Nat} {x n : P2} (h : R[k]? = some x) (hb : bndF x.1 = none) (hn : atnF L x.1 = some n) (hh : hasN n f = true) : attF L f (R.drop k) = .error 8 := by
  rw [drop_cons h, attF, hb]
  dsimp only
  rw [hn]
  dsimp only
  rw [if_pos hh]
theorem att_go {L R : List P2} {f : List P3} {k : Nat} {x n : P2} (h : R[k]? = some x) (hb : bndF x.1 = none) (hn : atnF L x.1 = some n) (hh : hasN n f = false) : attF L f (R.drop k) = attF L (f ++ [(n, x.2)]) (R.drop (k + 1)) := by
  rw [drop_cons h, attF, hb]
  dsimp only
  rw [hn]
  dsimp only
  rw [if_neg (by rw [hh]; simp)]
theorem res_size {L : List P2} {p l : ByteArray} {n : P2} (hl : LimL L) (hz : l.size ≤ Lim) (h : resF L p l = some n) : n.1.size ≤ Lim ∧ n.2.size ≤ Lim := by
  unfold resF at h
  split at h
  · cases h
  · injection h with h
    rw [← h]
    exact ⟨fnd_size hl p, hz⟩
theorem atn_size {L : List P2} {s : ByteArray} {n : P2} (hl : LimL L) (hz : s.size ≤ Lim) (h : atnF L s = some n) : n.1.size ≤ Lim ∧ n.2.size ≤ Lim := by
  have h2 : (splitA s).2.1.size ≤ Lim := Nat.le_trans (split_size s).2 hz
  unfold atnF at h
  split at h
  · cases h
  · split at h
    · injection h with h
      rw [← h]
      exact ⟨by rw [em_size]; exact Nat.zero_le _, h2⟩
    · exact res_size hl h2 h
theorem trip_one (a b c : ByteArray) : ∀ u ∈ [Value.string a, Value.string b, Value.string c], u.oneCell' = true := t_one ((a, b), c)
set_option maxHeartbeats 4000000 in
set_option maxRecDepth 100000 in
theorem attrs_any (A A2 : Option Addr) (N M cap cap2 : Nat) (L R : List P2) (w : World) (hN : N = L.length) (hM : M = R.length) (hN1 : N ≤ 1000000) (hM1 : M ≤ 10000) (hlim : LimL L) (hlimR : LimL R) (hsz : ∀ x ∈ R, x.1.size ≤ 10000) (hR : RdR w A L) (hR2 : RdR w A2 R) :
    Calls Tryz.prog 59 #[.slice A N cap, .slice A2 M cap2] w (AtPost w (attF L [] R)) := by
  obtain ⟨i0, hi, hz0, hz1, hz2⟩ := info_parts Tryz.info90
  have HT := Lib.hid (fun (s : ByteArray) (hs : s.size ≤ 10000) (W : World) (hW : Below w.heap.size w W) => atn_any A N cap s L W hN hlim hN1 (hR.keep hW) hs)
  have HM := Lib.hid hM
  have HL := Lib.hid hlim
  have HLR := Lib.hid hlimR
  have HS := Lib.hid hsz
  have HR2 := Lib.hid hR2
  have hmm := @run_makeMap Tryz.prog
  clear hN hM hlim hlimR hsz hR hR2
  go_enter Tryz.func59, Tryz.ntmps59
  go_wp2_with fail
  go_loopw [6, 17] (fun v i wr => AtRel L R M w v i wr) (fun _ i _ => M - (intOf i).toNat)
  case atStart => exact ⟨0, 0, [], rfl, Nat.zero_le _, Nat.le_refl _, Lib.hid rfl, Lib.hid ⟨by simp [tL], .inl ⟨rfl, rfl⟩⟩, Lib.hid (seen_new w), Lib.hid ((Below.refl _ w).alloc (Nat.le_refl _) _), Lib.hid rfl⟩
  case round =>
    clear hmm
    obtain ⟨k, m, f, rfl, hk, hm, HF, hO, hM0, hB, HI⟩ := hrel
    obtain ⟨A1, c1, rfl⟩ := own_slice hO.out
    by_cases hlt : k < M
    · have hkl : k < R.length := by rw [← HM.out]; exact hlt
      have hx := List.getElem?_eq_getElem hkl
      obtain ⟨b1, o1, rfl, hb1, x0, x1⟩ := (HR2.out.keep hB.out) k _ hx
      have hz := HLR.out _ (List.getElem_mem hkl)
      have hs := HS.out _ (List.getElem_mem hkl)
      have HX := Lib.hid hx
      have d1 : (k : Int) < (M : Int) := by omega
      have d0 : (0 : Int) ≤ (k : Int) := by omega
      clear hx
      generalize R[k] = t at *
      obtain ⟨an, av⟩ := t
      dsimp only at x0 x1 hz hs
      cases hbn : bndF an with
      | some p =>
        have CB := Lib.hid (bnd_some hs hbn)
        have HE := Lib.hid (att_skip (L := L) (f := f) HX.out hbn)
        clear hbn hz hs
        go_wp2_with (go_at_call 85; refine (CB.out _).mono ?_; rintro e w1 ⟨rfl, hb⟩)
        go_roundw
        case rel => exact ⟨k + 1, m, f, by go_num, by omega, by omega, HF, Lib.hid (own_keep (hO.out.alloc _) hb), Lib.hid ((hM0.out.keep ((Below.refl _ wr).alloc (Nat.le_refl _) _)).keep hb), Lib.hid ((hB.out.alloc hB.out.size _).trans (hb.mono (Nat.le_trans hB.out.size (by simp)))), Lib.hid (HI.out.trans HE.out)⟩
        case measure => simp only [intOf]; omega
      | none =>
        have CB := Lib.hid (bnd_none hs hbn)
        cases hat : atnF L an with
        | none =>
          have CT : Hid (AtC A N cap an (.tuple #[.agg #[.string ⟨#[]⟩, .string ⟨#[]⟩], .int .i64 9]) w) := Lib.hid (fun W hW => (HT.out an hs W hW).mono fun e w' ⟨h1, h2⟩ => ⟨by rw [h1, hat]; rfl, h2⟩)
          have HE := Lib.hid (att_nine (f := f) HX.out hbn hat)
          clear hbn hz hs hat
          go_wp2_with (first
            | (go_at_call 85; refine (CB.out _).mono ?_; rintro e w1 ⟨rfl, hb⟩
               have hB1 := Lib.hid ((hB.out.alloc hB.out.size _).trans (hb.mono (Nat.le_trans hB.out.size (by simp))))
               have q0 : w1.cell? ⟨wr.heap.size, 0, none⟩ = some (.string an) := (hb.cell (p := ⟨wr.heap.size, 0, none⟩) (by simp)).trans (by simp))
            | (go_at_call 89; refine (CT.out _ hB1.out).mono ?_; rintro e w2 ⟨rfl, hb2⟩; have hB2 := Lib.hid (hB1.out.trans (hb2.mono hB1.out.size))))
          go_ret2
          refine ⟨fun c hc => ?_, fun f' hf' => ?_, hB2.out.alloc hB2.out.size _⟩
          · rw [HI.out.trans HE.out] at hc
            cases hc
            rfl
          · rw [HI.out.trans HE.out] at hf'
            cases hf'
        | some x =>
          obtain ⟨xa, xb⟩ := x
          have hxz := atn_size HL.out (Nat.le_trans hs (by unfold Lim; omega)) hat
          have CT : Hid (AtC A N cap an (.tuple #[.agg #[.string xa, .string xb], .int .i64 0]) w) := Lib.hid (fun W hW => (HT.out an hs W hW).mono fun e w' ⟨h1, h2⟩ => ⟨by rw [h1, hat]; rfl, h2⟩)
          cases hh : hasN (xa, xb) f with
          | true =>
            have HE := Lib.hid (att_eight (f := f) HX.out hbn hat hh)
            have HY : Hid (∀ W, SeenM W w.heap.size (f.map (·.1)) → (Instr.lookup 88 (.map (some w.heap.size)) (.agg #[.string xa, .string xb]) false).run Tryz.prog W = .ok (.int .i64 1) W) := Lib.hid (fun W hW => seen_yes hW (hasN_mem.1 hh))
            clear hbn hz hs hat hh hxz
            go_wp2_with (first
              | (go_at_call 85; refine (CB.out _).mono ?_; rintro e w1 ⟨rfl, hb⟩
                 have hB1 := Lib.hid ((hB.out.alloc hB.out.size _).trans (hb.mono (Nat.le_trans hB.out.size (by simp))))
                 have q0 : w1.cell? ⟨wr.heap.size, 0, none⟩ = some (.string an) := (hb.cell (p := ⟨wr.heap.size, 0, none⟩) (by simp)).trans (by simp)
                 have hM1 := Lib.hid ((hM0.out.keep ((Below.refl _ wr).alloc (Nat.le_refl _) _)).keep hb))
              | (go_at_call 89; refine (CT.out _ hB1.out).mono ?_; rintro e w2 ⟨rfl, hb2⟩
                 have hB2 := Lib.hid (hB1.out.trans (hb2.mono hB1.out.size))
                 have hlk := HY.out _ ((hM1.out.keep hb2).keep ((Below.refl _ w2).alloc (Nat.le_refl _) (.cells #[.string xa, .string xb] 30)))))
            go_ret2
            refine ⟨fun c hc => ?_, fun f' hf' => ?_, hB2.out.alloc hB2.out.size _⟩
            · rw [HI.out.trans HE.out] at hc
              cases hc
              rfl
            · rw [HI.out.trans HE.out] at hf'
              cases hf'
          | false =>
            have HE := Lib.hid (att_go (f := f) HX.out hbn hat hh)
            have hnm : ¬ (xa, xb) ∈ f.map (·.1) := fun hc => by rw [hasN_mem.2 hc] at hh; cases hh
            have HY : Hid (∀ W, SeenM W w.heap.size (f.map (·.1)) → (Instr.lookup 88 (.map (some w.heap.size)) (.agg #[.string xa, .string xb]) false).run Tryz.prog W = .ok (.int .i64 0) W) := Lib.hid (fun W hW => seen_no hW hnm hxz.1 hxz.2)
            have HP := Lib.hid (fun W (hW : SeenM W w.heap.size (f.map (·.1))) => seen_put hW hnm hxz.1 hxz.2)
            have C := Lib.hid (fun W => clone_any av W hz.2)
            clear hbn hz hs hat hh hxz hnm
            go_wp2_with (first
              | (go_at_call 85; refine (CB.out _).mono ?_; rintro e w1 ⟨rfl, hb⟩
                 have hB1 := Lib.hid ((hB.out.alloc hB.out.size _).trans (hb.mono (Nat.le_trans hB.out.size (by simp))))
                 have q0 : w1.cell? ⟨wr.heap.size, 0, none⟩ = some (.string an) := (hb.cell (p := ⟨wr.heap.size, 0, none⟩) (by simp)).trans (by simp)
                 have q1 : w1.cell? ⟨wr.heap.size, 1, none⟩ = some (.string av) := (hb.cell (p := ⟨wr.heap.size, 1, none⟩) (by simp)).trans (by simp)
                 have hl1 : wr.heap.size < w1.heap.size := Nat.lt_of_lt_of_le (by simp) hb.size
                 have ty1 := Lib.hid ((hb.block wr.heap.size (by simp)).trans (nblk wr 141 #[.string an, .string av]))
                 have ho1 := Lib.hid (own_keep (hO.out.alloc _) hb)
                 have hM1 := Lib.hid ((hM0.out.keep ((Below.refl _ wr).alloc (Nat.le_refl _) _)).keep hb))
              | (go_at_call 89; refine (CT.out _ hB1.out).mono ?_; rintro e w2 ⟨rfl, hb2⟩
                 have hB2 := Lib.hid (hB1.out.trans (hb2.mono hB1.out.size))
                 have q2 : w2.cell? ⟨wr.heap.size, 1, none⟩ = some (.string av) := (hb2.cell (p := ⟨wr.heap.size, 1, none⟩) hl1).trans q1
                 have hl2 : wr.heap.size < w2.heap.size := Nat.lt_of_lt_of_le hl1 hb2.size
                 have ty2 := Lib.hid ((hb2.block wr.heap.size hl1).trans ty1.out)
                 have ho2 := Lib.hid ((own_keep ho1.out hb2).alloc (.cells #[.string xa, .string xb] 30))
                 have hM2 := Lib.hid ((hM1.out.keep hb2).keep ((Below.refl _ w2).alloc (Nat.le_refl _) (.cells #[.string xa, .string xb] 30)))
                 have hB3 := Lib.hid (hB2.out.alloc hB2.out.size (.cells #[.string xa, .string xb] 30))
                 have hlk := HY.out _ hM2.out
                 clear hM1 ho1 q0 q1 hb hb2 ty1))
            obtain ⟨st, V1, V2, e1, e2, e3, hS2, g1, g2⟩ := HP.out (w2.alloc (.cells #[.string xa, .string xb] 30)).drew hM2.out
            have e0 := HY.out (w2.alloc (.cells #[.string xa, .string xb] 30)).drew hM2.out
            have hlw := hM0.out.lt
            have hne : some w2.heap.size ≠ some w.heap.size := fun e => by
              injection e with e
              omega
            have hne2 : some wr.heap.size ≠ some w.heap.size := fun e => by
              injection e with e
              omega
            have y0 : V1.cell? ⟨w2.heap.size, 0, none⟩ = some (.string xa) := g1.cell (show (w2.alloc (.cells #[.string xa, .string xb] 30)).drew.cell? ⟨w2.heap.size, 0, none⟩ = some (.string xa) by simp) hne
            have y1 : V1.cell? ⟨w2.heap.size, 1, none⟩ = some (.string xb) := g1.cell (show (w2.alloc (.cells #[.string xa, .string xb] 30)).drew.cell? ⟨w2.heap.size, 1, none⟩ = some (.string xb) by simp) hne
            have p0 : V2.cell? ⟨w2.heap.size, 0, none⟩ = some (.string xa) := g2.cell (show (w2.alloc (.cells #[.string xa, .string xb] 30)).drew.cell? ⟨w2.heap.size, 0, none⟩ = some (.string xa) by simp) hne
            have p1 : V2.cell? ⟨w2.heap.size, 1, none⟩ = some (.string xb) := g2.cell (show (w2.alloc (.cells #[.string xa, .string xb] 30)).drew.cell? ⟨w2.heap.size, 1, none⟩ = some (.string xb) by simp) hne
            have p2 : V2.cell? ⟨wr.heap.size, 1, none⟩ = some (.string av) := g2.cell (show (w2.alloc (.cells #[.string xa, .string xb] 30)).drew.cell? ⟨wr.heap.size, 1, none⟩ = some (.string av) by rw [World.cell?_drew, World.cell?_alloc_lt _ _ _ (by exact hl2)]; exact q2) hne2
            have HO : Hid (V2.drew.ownsRow w.heap.size 90 3 (.slice A1 m c1) m (tL f)) := Lib.hid (World.ownsRow.kept (w' := V2) (row := some w.heap.size) (w := (w2.alloc (.cells #[.string xa, .string xb] 30)).drew) ho2.out g2 (.inr (hM2.out.ne ho2.out).symm))
            have HB : Hid (Below w.heap.size w V2.drew) := Lib.hid (Below.drew (Below.grown (Below.drew hB3.out) g2 hB3.out.size (fun j hj => by injection hj with hj; omega)))
            have HQ : Hid (SeenM V2.drew w.heap.size (f.map (·.1) ++ [(xa, xb)])) := Lib.hid hS2
            have lt2 : w2.heap.size < V2.heap.size := Nat.lt_of_lt_of_le (show w2.heap.size < (w2.alloc (.cells #[.string xa, .string xb] 30)).drew.heap.size by simp) g2.size
            have tyn : V2.heap[w2.heap.size]? = some (.cells #[.string xa, .string xb] 30 (0, 0)) := (g2.block _ (by simp) hne).trans (nblk w2 30 _)
            have HTy := Lib.hid tyn
            have HTa := Lib.hid ((g2.block wr.heap.size (show wr.heap.size < (w2.alloc (.cells #[.string xa, .string xb] 30)).drew.heap.size by simp; omega) hne2).trans ((Below.heap_alloc w2 (.cells #[.string xa, .string xb] 30) _ hl2).trans ty2.out))
            clear ty2 tyn hS2 g1 g2 hM2 ho2 hB3
            generalize hbn' : w2.heap.size = bn at *
            generalize hba' : wr.heap.size = ba at *
            go_region
            all_goals
              clear e0 e1 e2 e3 y0 y1 hlk q2
              go_wp2_with fail
            go_region_held3 (fun W => W.cell? ⟨bn, 0, none⟩ = some (.string xa) ∧ W.cell? ⟨bn, 1, none⟩ = some (.string xb) ∧ W.cell? ⟨ba, 1, none⟩ = some (.string av))
              (first
                | exact ⟨p0, p1, p2⟩
                | (refine ⟨?_, ?_, ?_⟩ <;> assumption))
              (first
                | (go_at_call 90; refine (C.out _).mono ?_; rintro e w5 ⟨rfl, hb5⟩
                   have l5 : ba < w5.heap.size ∧ bn < w5.heap.size := ⟨Nat.lt_of_lt_of_le (Nat.lt_trans hl2 lt2) hb5.size, Nat.lt_of_lt_of_le lt2 hb5.size⟩
                   have s0 : w5.cell? ⟨bn, 0, none⟩ = some (.string xa) := (hb5.cell (p := ⟨bn, 0, none⟩) lt2).trans p0
                   have s1 : w5.cell? ⟨bn, 1, none⟩ = some (.string xb) := (hb5.cell (p := ⟨bn, 1, none⟩) lt2).trans p1
                   have s2 : w5.cell? ⟨ba, 1, none⟩ = some (.string av) := (hb5.cell (p := ⟨ba, 1, none⟩) (Nat.lt_trans hl2 lt2)).trans p2
                   have s3 : (w5.alloc (.cells #[.string xa, .string xb, .string av] 90)).cell? ⟨bn, 0, none⟩ = some (.string xa) := (World.cell?_alloc_lt _ _ _ l5.2).trans s0
                   have s4 : (w5.alloc (.cells #[.string xa, .string xb, .string av] 90)).cell? ⟨bn, 1, none⟩ = some (.string xb) := (World.cell?_alloc_lt _ _ _ l5.2).trans s1
                   have s5 : (w5.alloc (.cells #[.string xa, .string xb, .string av] 90)).cell? ⟨ba, 1, none⟩ = some (.string av) := (World.cell?_alloc_lt _ _ _ l5.1).trans s2
                   have ho5 := Lib.hid ((own_keep HO.out hb5).alloc (.cells #[.string xa, .string xb, .string av] 90))
                   have hB5 := Lib.hid (HB.out.trans (hb5.mono HB.out.size))
                   have hB6 := Lib.hid (hB5.out.alloc hB5.out.size (.cells #[.string xa, .string xb, .string av] 90))
                   have hQ5 := Lib.hid ((HQ.out.keep hb5).keep ((Below.refl _ w5).alloc (Nat.le_refl _) (.cells #[.string xa, .string xb, .string av] 90)))
                   have hnew := Lib.hid (new_cells w5 #[.string xa, .string xb, .string av] 90))
                | (refine step_append_own (by rfl) (.tmp 48) (.tmp 54) 31 (by rfl) w.heap.size 90 i0 (.agg #[.string ⟨#[]⟩, .string ⟨#[]⟩, .string ⟨#[]⟩]) 3 48 Tryz.underlying31 hi hz0 hz1 hz2 rfl (by decide) (.slice A1 m c1) m (tL f) (by rfl) ho5.out ⟨w5.heap.size, 0, none⟩ 1 1 [.string xa, .string xb, .string av] (by rfl) rfl hnew.out (trip_one xa xb av) (by unfold maxLen; omega) (by omega) hB6.out.size ?_
                   intro v' w6 hown' hgrow
                   have tn5 : (w5.alloc (.cells #[.string xa, .string xb, .string av] 90)).heap[bn]? = some (.cells #[.string xa, .string xb] 30 (0, 0)) := (Below.heap_alloc w5 _ _ l5.2).trans ((hb5.block bn lt2).trans HTy.out)
                   have ta5 : (w5.alloc (.cells #[.string xa, .string xb, .string av] 90)).heap[ba]? = some (.cells #[.string an, .string av] 141 (0, 0)) := (Below.heap_alloc w5 _ _ l5.1).trans ((hb5.block ba (Nat.lt_trans hl2 lt2)).trans HTa.out)
                   have r0 : w6.cell? ⟨bn, 0, none⟩ = some (.string xa) := hgrow.cell s3 (own_ne ho5.out tn5 (by decide)).symm
                   have r1 : w6.cell? ⟨bn, 1, none⟩ = some (.string xb) := hgrow.cell s4 (own_ne ho5.out tn5 (by decide)).symm
                   have r2 : w6.cell? ⟨ba, 1, none⟩ = some (.string av) := hgrow.cell s5 (own_ne ho5.out ta5 (by decide)).symm
                   have hQ6 := Lib.hid (hQ5.out.keepG hgrow (hQ5.out.ne ho5.out))
                   have hB7 := Lib.hid (hB6.out.grown hgrow hB6.out.size (fun j hj => (World.ownsRow.lt ho5.out j hj).1))
                   have hO6 := Lib.hid hown'
                   obtain ⟨g', cap', rfl⟩ := own_shape hown'
                   clear hown' hgrow tn5 ta5)
                | fail)
            go_wp2_with fail
            go_roundw
            case rel => exact ⟨k + 1, m + 1, f ++ [((xa, xb), av)], by go_num, by omega, by omega, Lib.hid (by rw [List.length_append, ← HF.out]; rfl), Lib.hid (by rw [tL_app]; exact hO6.out), Lib.hid (by rw [List.map_append]; exact hQ6.out), hB7, Lib.hid (HI.out.trans HE.out)⟩
            case measure => simp only [intOf]; omega
    · have d1 : ¬ (k : Int) < (M : Int) := by omega
      have HD : Hid (R.drop k = []) := Lib.hid (List.drop_of_length_le (by rw [← HM.out]; omega))
      go_wp2_with fail
      go_ret2
      have hf : attF L [] R = .ok f := by
        rw [HI.out, HD.out]
        rfl
      refine ⟨fun c h => ?_, fun f' hf' => ⟨_, rfl, ?_⟩, hB.out⟩
      · rw [hf] at h
        cases h
      · rw [hf] at hf'
        injection hf' with hf'
        subst hf'
        unfold OwnT
        rw [← HF.out]
        exact hO.out
end Go.Proofs.YtkeilgompipfjaaGreatDoor.Nz.Sc

/- The walk of scope.Enter. -/
set_option linter.unusedSimpArgs false
set_option linter.unusedVariables false
namespace Go.Proofs.YtkeilgompipfjaaGreatDoor.Nz.Sc
open Go.RowKit

def evZ : Value := .agg #[.int .i64 0, .string ⟨#[]⟩, .string ⟨#[]⟩, .slice none 0 0, .string ⟨#[]⟩]
def evV (n : P2) (va : Value) : Value := .agg #[.int .i64 1, .string n.1, .string n.2, va, .string ⟨#[]⟩]
/-- What Enter leaves. -/
def EnPost (w : World) (o : Except Int (List P2 × P2 × List P3)) (e : Ending) (w' : World) : Prop :=
  (∀ c, o = .error c → e = .returned (.tuple #[.slice none 0 0, evZ, .int .i64 c])) ∧
  (∀ W n f, o = .ok (W, n, f) → ∃ v va, e = .returned (.tuple #[v, evV n va, .int .i64 0]) ∧ OwnP 138 w' w.heap.size v W ∧ OwnT w' w.heap.size va f) ∧ Below w.heap.size w w'
theorem en_err {w w' : World} {o : Except Int (List P2 × P2 × List P3)} {c : Int} {e : Ending} (ho : o = .error c) (he : e = .returned (.tuple #[.slice none 0 0, evZ, .int .i64 c])) (hb : Below w.heap.size w w') : EnPost w o e w' :=
  ⟨(fun c' hc => by rw [ho] at hc; cases hc; exact he), (fun W n f hc => by rw [ho] at hc; cases hc), hb⟩
theorem Tryz.results37 : Tryz.f37.results = #[ResultVar.tmp 4, ResultVar.cell 5 33, ResultVar.tmp 6] := by kernel_rfl
theorem own_mono {e : TypeId} {z n B B' : Nat} {w : World} {v : Value} {xs : List Value} (h : w.ownsRow B e z v n xs) (hB : B' ≤ B) : w.ownsRow B' e z v n xs := by
  refine ⟨h.1, ?_⟩
  rcases h.2 with h | ⟨g, cap, cur, h1, h2, h3⟩
  · exact .inl h
  · exact .inr ⟨g, cap, cur, h1, Nat.le_trans hB h2, h3⟩
/-- The two blocks of Enter's own. -/
structure EnB (w : World) (nm : ByteArray) (A2 : Option Addr) (M cap2 : Nat) (W : World) : Prop where
  tag : W.heap[w.heap.size]? = some (.cells #[.string nm, .slice A2 M cap2] 75 (0, 0))
  ev : W.heap[w.heap.size + 1]? = some (.cells #[.int .i64 0, .string ⟨#[]⟩, .string ⟨#[]⟩, .slice none 0 0, .string ⟨#[]⟩] 33 (0, 0))
  bel : Below w.heap.size w W
theorem EnB.lt {w : World} {nm : ByteArray} {A2 : Option Addr} {M cap2 : Nat} {W : World} (h : EnB w nm A2 M cap2 W) : w.heap.size + 1 < W.heap.size := (Array.getElem?_eq_some_iff.1 h.ev).1
theorem EnB.keep {w : World} {nm : ByteArray} {A2 : Option Addr} {M cap2 : Nat} {W W' : World} (h : EnB w nm A2 M cap2 W) (hb : Below W.heap.size W W') : EnB w nm A2 M cap2 W' :=
  ⟨(hb.block _ (by have := h.lt; omega)).trans h.tag, (hb.block _ h.lt).trans h.ev, h.bel.trans (hb.mono h.bel.size)⟩
theorem enb_start (w : World) (nm : ByteArray) (A2 : Option Addr) (M cap2 : Nat) : EnB w nm A2 M cap2 ((w.alloc (.cells #[.string nm, .slice A2 M cap2] 75)).alloc (.cells #[.int .i64 0, .string ⟨#[]⟩, .string ⟨#[]⟩, .slice none 0 0, .string ⟨#[]⟩] 33)) := by
  refine ⟨(Below.heap_alloc _ _ _ (by simp)).trans (nblk w 75 _), ?_, ((Below.refl _ w).alloc (Nat.le_refl _) _).alloc (by simp) _⟩
  have := nblk (w.alloc (.cells #[.string nm, .slice A2 M cap2] 75)) 33 #[.int .i64 0, .string ⟨#[]⟩, .string ⟨#[]⟩, .slice none 0 0, .string ⟨#[]⟩]
  rw [World.size_alloc] at this
  exact this
/-- Five cells set, as a store of an event does. -/
theorem set5 {W : World} {b : Nat} {a0 a1 a2 a3 a4 : Value} (h : W.heap[b]? = some (.cells #[a0, a1, a2, a3, a4] 33 (0, 0))) (x0 x1 x2 x3 x4 : Value) :
    (((((W.setCell ⟨b, 0, none⟩ x0).setCell ⟨b, 1, none⟩ x1).setCell ⟨b, 2, none⟩ x2).setCell ⟨b, 3, none⟩ x3).setCell ⟨b, 4, none⟩ x4).heap[b]? = some (.cells #[x0, x1, x2, x3, x4] 33 (0, 0)) := by
  simp [World.setCell, Array.getElem?_modify, h]
theorem bel5 {w W : World} {b : Nat} (h : Below w.heap.size w W) (hb : w.heap.size ≤ b) (x0 x1 x2 x3 x4 : Value) :
    Below w.heap.size w (((((W.setCell ⟨b, 0, none⟩ x0).setCell ⟨b, 1, none⟩ x1).setCell ⟨b, 2, none⟩ x2).setCell ⟨b, 3, none⟩ x3).setCell ⟨b, 4, none⟩ x4) :=
  ((((h.setCell (p := ⟨b, 0, none⟩) hb _).setCell (p := ⟨b, 1, none⟩) hb _).setCell (p := ⟨b, 2, none⟩) hb _).setCell (p := ⟨b, 3, none⟩) hb _).setCell (p := ⟨b, 4, none⟩) hb _
theorem gro5 (W : World) (b : Nat) (x0 x1 x2 x3 x4 : Value) : W.grownBy (((((W.setCell ⟨b, 0, none⟩ x0).setCell ⟨b, 1, none⟩ x1).setCell ⟨b, 2, none⟩ x2).setCell ⟨b, 3, none⟩ x3).setCell ⟨b, 4, none⟩ x4) (some b) := by
  have one : ∀ (X : World) (j : Nat) (x : Value), X.grownBy (X.setCell ⟨b, j, none⟩ x) (some b) := fun X j x => ⟨rfl, rfl, rfl, by simp [World.setCell], fun k _ hk => Below.heap_setCell _ _ _ _ (fun e => hk (by simp [e]))⟩
  have tr : ∀ {X Y Z : World}, X.grownBy Y (some b) → Y.grownBy Z (some b) → X.grownBy Z (some b) := fun g1 g2 => ⟨g2.os.trans g1.os, g2.tape.trans g1.tape, g2.output.trans g1.output, Nat.le_trans g1.size g2.size, fun i hi hne => (g2.block i (Nat.lt_of_lt_of_le hi g1.size) hne).trans (g1.block i hi hne)⟩
  exact tr (tr (tr (tr (one _ _ _) (one _ _ _)) (one _ _ _)) (one _ _ _)) (one _ _ _)
set_option maxHeartbeats 4000000 in
set_option maxRecDepth 100000 in
theorem enter_e1 (A A2 : Option Addr) (N M cap cap2 : Nat) (nm : ByteArray) (w : World) (o : Except Int (List P2 × P2 × List P3)) (ho : o = .error 9)
    (CB : Hid (∀ W, Below w.heap.size w W → Calls Tryz.prog 57 #[.slice A N cap, .slice A2 M cap2] W (BdPost W none))) :
    Calls Tryz.prog 37 #[.slice A N cap, .agg #[.string nm, .slice A2 M cap2]] w (EnPost w o) := by
  have H0 := Lib.hid (enb_start w nm A2 M cap2)
  have HO := Lib.hid ho
  clear ho
  go_enter Tryz.func37, Tryz.ntmps37
  go_wp2_with fail
  refine (CB.out _ H0.out.bel).mono ?_
  rintro e w1 ⟨h1, -, hb⟩
  obtain rfl := h1 rfl
  have HK := Lib.hid (H0.out.keep hb)
  obtain ⟨z0, z1, z2, z3, z4⟩ := cells5 HK.out.ev
  obtain ⟨f0, f1, f2, f3, f4⟩ := froz5 HK.out.ev
  clear CB H0 hb h1
  go_wp2
  have HS := Lib.hid (set5 HK.out.ev (.int .i64 0) (.string ⟨#[]⟩) (.string ⟨#[]⟩) (.slice none 0 0) (.string ⟨#[]⟩))
  obtain ⟨c0, c1, c2, c3, c4⟩ := cells5 HS.out
  exact bodyPost_ret (v := .tuple #[.slice none 0 0, evZ, .int .i64 9]) (by simp [results, Tryz.results37, go_sem, c0, c1, c2, c3, c4, evZ]) rfl (en_err HO.out rfl (bel5 HK.out.bel (Nat.le_succ _) _ _ _ _ _))
theorem own_rdR' {e : TypeId} {w : World} {B n : Nat} {v : Value} {l : List P2} (h : OwnP e w B v l) (hn : n = l.length) : ∃ A c, v = .slice A n c ∧ RdR w A l := by
  obtain ⟨A, c, h1, h2, _⟩ := own_rdR h
  exact ⟨A, c, by rw [h1, hn], h2⟩
theorem rdS_one (W : World) (nm : ByteArray) : RdS (W.alloc (.cells #[.string nm] 9)) (some ⟨W.heap.size, 0, none⟩) [nm] := fun k x hk => by
  have hk0 : k = 0 := by
    have := (List.getElem?_eq_some_iff.1 hk).1
    simp at this
    exact this
  subst hk0
  have : nm = x := by simpa using hk
  subst this
  exact ⟨_, _, rfl, by simp, by simp⟩
/-- The contracts that Enter calls. -/
def BdC (A A2 : Option Addr) (N M cap cap2 : Nat) (Ws : List P2) (w : World) : Prop := ∀ W, Below w.heap.size w W → Calls Tryz.prog 57 #[.slice A N cap, .slice A2 M cap2] W (BdPost W (some Ws))
def NmC (NW : Nat) (Ws : List P2) (nm : ByteArray) (o : Option (List P2)) : Prop := ∀ (A' : Option Addr) (c' : Nat) (AS : Option Addr) (cS : Nat) (W : World), RdR W A' Ws → RdS W AS [nm] → Calls Tryz.prog 58 #[.slice A' NW c', .slice AS 1 cS] W (NmPost W o)
def AttC (NW : Nat) (Ws : List P2) (A2 : Option Addr) (M cap2 : Nat) (w : World) (o : Except Int (List P3)) : Prop := ∀ (A' : Option Addr) (c' : Nat) (W : World), RdR W A' Ws → Below w.heap.size w W → Calls Tryz.prog 59 #[.slice A' NW c', .slice A2 M cap2] W (AtPost W o)
set_option maxHeartbeats 4000000 in
set_option maxRecDepth 100000 in
theorem enter_e2 (A A2 : Option Addr) (N M cap cap2 NW : Nat) (nm : ByteArray) (Ws : List P2) (w : World) (o : Except Int (List P2 × P2 × List P3)) (ho : o = .error 9) (hNW : NW = Ws.length)
    (CB : Hid (BdC A A2 N M cap cap2 Ws w)) (CN : Hid (NmC NW Ws nm none)) :
    Calls Tryz.prog 37 #[.slice A N cap, .agg #[.string nm, .slice A2 M cap2]] w (EnPost w o) := by
  have H0 := Lib.hid (enb_start w nm A2 M cap2)
  have HO := Lib.hid ho
  have HNW := Lib.hid hNW
  clear ho hNW
  go_enter Tryz.func37, Tryz.ntmps37
  go_wp2_with fail
  refine (CB.out _ H0.out.bel).mono ?_
  rintro e w1 ⟨-, h2, hb⟩
  obtain ⟨v, rfl, hv⟩ := h2 _ rfl
  obtain ⟨A', c', rfl, hrd⟩ := own_rdR' hv HNW.out
  have HK1 := Lib.hid (H0.out.keep hb)
  have HR1 := Lib.hid hrd
  have t0 := cells_of HK1.out.tag 0 (u := .string nm) rfl
  have t1 := cells_of HK1.out.tag 1 (u := .slice A2 M cap2) rfl
  clear CB H0 hb h2 hv hrd
  go_wp2_with fail
  refine (CN.out A' c' (some ⟨w1.heap.size, 0, none⟩) 1 _ (HR1.out.keep ((Below.refl _ w1).alloc (Nat.le_refl _) _)) (rdS_one w1 nm)).mono ?_
  rintro e w2 ⟨h1, -, hb2⟩
  obtain rfl := h1 rfl
  have HK := Lib.hid ((HK1.out.keep ((Below.refl _ w1).alloc (Nat.le_refl _) _)).keep hb2)
  obtain ⟨z0, z1, z2, z3, z4⟩ := cells5 HK.out.ev
  obtain ⟨f0, f1, f2, f3, f4⟩ := froz5 HK.out.ev
  clear CN HK1 HR1 h1 hb2
  go_wp2
  have HS := Lib.hid (set5 HK.out.ev (.int .i64 0) (.string ⟨#[]⟩) (.string ⟨#[]⟩) (.slice none 0 0) (.string ⟨#[]⟩))
  obtain ⟨c0, c1, c2, c3, c4⟩ := cells5 HS.out
  exact bodyPost_ret (v := .tuple #[.slice none 0 0, evZ, .int .i64 9]) (by simp [results, Tryz.results37, go_sem, c0, c1, c2, c3, c4, evZ]) rfl (en_err HO.out rfl (bel5 HK.out.bel (Nat.le_succ _) _ _ _ _ _))
set_option maxHeartbeats 4000000 in
set_option maxRecDepth 100000 in
theorem enter_e3 (A A2 : Option Addr) (N M cap cap2 NW : Nat) (nm : ByteArray) (Ws : List P2) (n : P2) (c : Int) (w : World) (o : Except Int (List P2 × P2 × List P3)) (ho : o = .error c) (hNW : NW = Ws.length) (hc0 : c = 8 ∨ c = 9)
    (CB : Hid (BdC A A2 N M cap cap2 Ws w)) (CN : Hid (NmC NW Ws nm (some [n]))) (CA : Hid (AttC NW Ws A2 M cap2 w (.error c))) :
    Calls Tryz.prog 37 #[.slice A N cap, .agg #[.string nm, .slice A2 M cap2]] w (EnPost w o) := by
  have H0 := Lib.hid (enb_start w nm A2 M cap2)
  have HO := Lib.hid ho
  have HNW := Lib.hid hNW
  have hc1 : (c == 0) = false := by rw [beq_eq_false_iff_ne]; omega
  have hc2 : ¬ c = 0 := by omega
  clear ho hNW hc0
  go_enter Tryz.func37, Tryz.ntmps37
  go_wp2_with fail
  refine (CB.out _ H0.out.bel).mono ?_
  rintro e w1 ⟨-, h2, hb⟩
  obtain ⟨v, rfl, hv⟩ := h2 _ rfl
  obtain ⟨A', c', rfl, hrd⟩ := own_rdR' hv HNW.out
  have HK1 := Lib.hid (H0.out.keep hb)
  have HR1 := Lib.hid hrd
  have t0 := cells_of HK1.out.tag 0 (u := .string nm) rfl
  have t1 := cells_of HK1.out.tag 1 (u := .slice A2 M cap2) rfl
  clear CB H0 hb h2 hv hrd
  go_wp2_with fail
  refine (CN.out A' c' (some ⟨w1.heap.size, 0, none⟩) 1 _ (HR1.out.keep ((Below.refl _ w1).alloc (Nat.le_refl _) _)) (rdS_one w1 nm)).mono ?_
  rintro e w2 ⟨-, h2, hb2⟩
  obtain ⟨vn, rfl, hvn⟩ := h2 _ rfl
  have HK2 := Lib.hid ((HK1.out.keep ((Below.refl _ w1).alloc (Nat.le_refl _) _)).keep hb2)
  have HR2 := Lib.hid ((HR1.out.keep ((Below.refl _ w1).alloc (Nat.le_refl _) _)).keep hb2)
  obtain ⟨An, cn, rfl, hrn⟩ := own_rdR' (n := 1) hvn rfl
  have u0 := cells_of HK2.out.tag 0 (u := .string nm) rfl
  have u1 := cells_of HK2.out.tag 1 (u := .slice A2 M cap2) rfl
  clear CN HK1 HR1 h2 hb2 hvn hrn t0 t1
  go_wp2_with fail
  refine (CA.out A' c' _ HR2.out HK2.out.bel).mono ?_
  rintro e w3 ⟨h1, -, hb3⟩
  obtain rfl := h1 _ rfl
  have HK := Lib.hid (HK2.out.keep hb3)
  obtain ⟨z0, z1, z2, z3, z4⟩ := cells5 HK.out.ev
  obtain ⟨f0, f1, f2, f3, f4⟩ := froz5 HK.out.ev
  clear CA HK2 HR2 h1 hb3 u0 u1
  go_wp2
  have HS := Lib.hid (set5 HK.out.ev (.int .i64 0) (.string ⟨#[]⟩) (.string ⟨#[]⟩) (.slice none 0 0) (.string ⟨#[]⟩))
  obtain ⟨c0, c1, c2, c3, c4⟩ := cells5 HS.out
  exact bodyPost_ret (v := .tuple #[.slice none 0 0, evZ, .int .i64 c]) (by simp [results, Tryz.results37, go_sem, c0, c1, c2, c3, c4, evZ]) rfl (en_err HO.out rfl (bel5 HK.out.bel (Nat.le_succ _) _ _ _ _ _))
end Go.Proofs.YtkeilgompipfjaaGreatDoor.Nz.Sc

/- The walk of scope.Enter where all goes well. -/
set_option linter.unusedSimpArgs false
set_option linter.unusedVariables false
namespace Go.Proofs.YtkeilgompipfjaaGreatDoor.Nz.Sc
open Go.RowKit

set_option maxHeartbeats 4000000 in
set_option maxRecDepth 100000 in
theorem enter_ok (A A2 : Option Addr) (N M cap cap2 NW NF : Nat) (nm na nb : ByteArray) (Ws : List P2) (f : List P3) (w : World) (o : Except Int (List P2 × P2 × List P3)) (ho : o = .ok (Ws, (na, nb), f)) (hNW : NW = Ws.length) (hNF : NF = f.length)
    (CB : Hid (BdC A A2 N M cap cap2 Ws w)) (CN : Hid (NmC NW Ws nm (some [(na, nb)]))) (CA : Hid (AttC NW Ws A2 M cap2 w (.ok f))) :
    Calls Tryz.prog 37 #[.slice A N cap, .agg #[.string nm, .slice A2 M cap2]] w (EnPost w o) := by
  have H0 := Lib.hid (enb_start w nm A2 M cap2)
  have HO := Lib.hid ho
  have HNW := Lib.hid hNW
  have HNF := Lib.hid hNF
  clear ho hNW hNF
  go_enter Tryz.func37, Tryz.ntmps37
  go_wp2_with fail
  refine (CB.out _ H0.out.bel).mono ?_
  rintro e w1 ⟨-, h2, hb⟩
  obtain ⟨v, rfl, hv⟩ := h2 _ rfl
  obtain ⟨A', c', rfl, hrd⟩ := own_rdR' hv HNW.out
  have HK1 := Lib.hid (H0.out.keep hb)
  have HR1 := Lib.hid hrd
  have HV1 := Lib.hid (own_mono hv H0.out.bel.size)
  have t0 := cells_of HK1.out.tag 0 (u := .string nm) rfl
  have t1 := cells_of HK1.out.tag 1 (u := .slice A2 M cap2) rfl
  clear CB H0 hb h2 hv hrd
  go_wp2_with fail
  refine (CN.out A' c' (some ⟨w1.heap.size, 0, none⟩) 1 _ (HR1.out.keep ((Below.refl _ w1).alloc (Nat.le_refl _) _)) (rdS_one w1 nm)).mono ?_
  rintro e w2 ⟨-, h2, hb2⟩
  obtain ⟨vn, rfl, hvn⟩ := h2 _ rfl
  have HK2 := Lib.hid ((HK1.out.keep ((Below.refl _ w1).alloc (Nat.le_refl _) _)).keep hb2)
  have HR2 := Lib.hid ((HR1.out.keep ((Below.refl _ w1).alloc (Nat.le_refl _) _)).keep hb2)
  have HV2 := Lib.hid (own_keep (own_keep HV1.out ((Below.refl _ w1).alloc (Nat.le_refl _) _)) hb2)
  obtain ⟨An, cn, rfl, hrn⟩ := own_rdR' (n := 1) hvn rfl
  have HN2 := Lib.hid hrn
  have u0 := cells_of HK2.out.tag 0 (u := .string nm) rfl
  have u1 := cells_of HK2.out.tag 1 (u := .slice A2 M cap2) rfl
  clear CN HK1 HR1 HV1 h2 hb2 hvn hrn t0 t1
  go_wp2_with fail
  refine (CA.out A' c' _ HR2.out HK2.out.bel).mono ?_
  rintro e w3 ⟨-, h2, hb3⟩
  obtain ⟨va, rfl, hva⟩ := h2 _ rfl
  have HK := Lib.hid (HK2.out.keep hb3)
  have HV := Lib.hid (own_keep HV2.out hb3)
  have HA := Lib.hid (own_mono hva HK2.out.bel.size)
  obtain ⟨bn, on, rfl, hbn, n0, n1⟩ := (HN2.out.keep hb3) 0 (na, nb) rfl
  obtain ⟨Aa, ca, ea⟩ := own_slice hva
  rw [← HNF.out] at ea
  subst ea
  rw [Nat.zero_mul, Nat.add_zero] at n0 n1
  dsimp only at n0 n1
  obtain ⟨z0, z1, z2, z3, z4⟩ := cells5 HK.out.ev
  obtain ⟨f0, f1, f2, f3, f4⟩ := froz5 HK.out.ev
  clear CA HK2 HR2 HV2 HN2 h2 hb3 u0 u1 hva hbn
  go_wp2_with fail
  go_region
  go_wp2
  have HS := Lib.hid (set5 HK.out.ev (.int .i64 1) (.string na) (.string nb) (.slice Aa NF ca) (.string ⟨#[]⟩))
  obtain ⟨c0, c1, c2, c3, c4⟩ := cells5 HS.out
  refine bodyPost_ret (v := .tuple #[.slice A' NW c', evV (na, nb) (.slice Aa NF ca), .int .i64 0]) (by simp [results, Tryz.results37, go_sem, c0, c1, c2, c3, c4, evV]) rfl ⟨fun c hc => ?_, fun W n f' hc => ?_, (bel5 HK.out.bel (Nat.le_succ _) _ _ _ _ _).drew⟩
  · rw [HO.out] at hc
    cases hc
  · rw [HO.out] at hc
    cases hc
    have g := gro5 w3 (w.heap.size + 1) (.int .i64 1) (.string na) (.string nb) (.slice Aa NF ca) (.string ⟨#[]⟩)
    exact ⟨_, _, rfl, World.ownsRow.drew (HV.out.kept g (.inr (own_ne HV.out HK.out.ev (by decide)))), World.ownsRow.drew (HA.out.kept g (.inr (own_ne HA.out HK.out.ev (by decide))))⟩
end Go.Proofs.YtkeilgompipfjaaGreatDoor.Nz.Sc

/- Enter, whole; awake. -/
set_option linter.unusedSimpArgs false
set_option linter.unusedVariables false
namespace Go.Proofs.YtkeilgompipfjaaGreatDoor.Nz.Sc
open Go.RowKit

theorem att_err (W : List P2) : ∀ (r : List P2) (f : List P3) {c : Int}, attF W f r = .error c → c = 8 ∨ c = 9
  | [], f, c, h => by cases h
  | a :: r, f, c, h => by
    unfold attF at h
    split at h
    · exact att_err W r f h
    · split at h
      · injection h with h
        exact .inr h.symm
      · split at h
        · injection h with h
          exact .inl h.symm
        · exact att_err W r _ h
/-- What is asked of a scope and a tag in memory. -/
structure Ent (w : World) (A A2 : Option Addr) (N M : Nat) (nm : ByteArray) (L R : List P2) : Prop where
  hN : N = L.length
  hM : M = R.length
  hN1 : N ≤ 10000
  hM1 : M ≤ 10000
  hm : nm.size ≤ 10000
  hlim : LimL L
  hlimR : LimL R
  hsz : ∀ x ∈ R, x.1.size ≤ 10000
  hR : RdR w A L
  hR2 : RdR w A2 R
theorem Ent.keep {w w' : World} {A A2 : Option Addr} {N M : Nat} {nm : ByteArray} {L R : List P2} (h : Ent w A A2 N M nm L R) (hb : Below w.heap.size w w') : Ent w' A A2 N M nm L R :=
  ⟨h.hN, h.hM, h.hN1, h.hM1, h.hm, h.hlim, h.hlimR, h.hsz, h.hR.keep hb, h.hR2.keep hb⟩
theorem enter_any {A A2 : Option Addr} {N M : Nat} {nm : ByteArray} {L R : List P2} {w : World} (cap cap2 : Nat) (h : Ent w A A2 N M nm L R) :
    Calls Tryz.prog 37 #[.slice A N cap, .agg #[.string nm, .slice A2 M cap2]] w (EnPost w (entF L nm R)) := by
  have CB : ∀ W, Below w.heap.size w W → Calls Tryz.prog 57 #[.slice A N cap, .slice A2 M cap2] W (BdPost W (bindF L R)) := fun W hW => bind_any A A2 N M cap cap2 L R W h.hN h.hM h.hN1 h.hM1 h.hlim h.hlimR h.hsz (h.hR.keep hW) (h.hR2.keep hW)
  cases hb : bindF L R with
  | none =>
    rw [hb] at CB
    exact enter_e1 A A2 N M cap cap2 nm w _ (by unfold entF; rw [hb]) (Lib.hid CB)
  | some Ws =>
    rw [hb] at CB
    have hl := bind_len R L hb
    have hWl : Ws.length ≤ 1000000 := by have := h.hN; have := h.hM; have := h.hN1; have := h.hM1; omega
    have hWm : LimL Ws := bind_lim R L h.hlim h.hlimR hb
    have CN : NmC Ws.length Ws nm (nmsF Ws [] [nm]) := fun A' c' AS cS W h1 h2 => names_any A' AS Ws.length 1 c' cS Ws [nm] W rfl rfl hWl (by omega) hWm (fun x hx => by rw [List.mem_singleton] at hx; rw [hx]; exact h.hm) h1 h2
    have CA : AttC Ws.length Ws A2 M cap2 w (attF Ws [] R) := fun A' c' W h1 h2 => attrs_any A' A2 Ws.length M c' cap2 Ws R W rfl h.hM hWl h.hM1 hWm h.hlimR h.hsz h1 (h.hR2.keep h2)
    cases hn : namF Ws nm with
    | none =>
      have e : nmsF Ws [] [nm] = none := by rw [nmsF, hn]
      rw [e] at CN
      exact enter_e2 A A2 N M cap cap2 Ws.length nm Ws w _ (by unfold entF; rw [hb]; dsimp only; rw [hn]) rfl (Lib.hid CB) (Lib.hid CN)
    | some n =>
      have e : nmsF Ws [] [nm] = some [n] := by rw [nmsF, hn]; rfl
      rw [e] at CN
      cases ha : attF Ws [] R with
      | error c =>
        rw [ha] at CA
        exact enter_e3 A A2 N M cap cap2 Ws.length nm Ws n c w _ (by unfold entF; rw [hb]; dsimp only; rw [hn]; dsimp only; rw [ha]) rfl (att_err Ws R [] ha) (Lib.hid CB) (Lib.hid CN) (Lib.hid CA)
      | ok f =>
        rw [ha] at CA
        obtain ⟨na, nb⟩ := n
        exact enter_ok A A2 N M cap cap2 Ws.length f.length nm na nb Ws f w _ (by unfold entF; rw [hb]; dsimp only; rw [hn]; dsimp only; rw [ha]) rfl rfl (Lib.hid CB) (Lib.hid CN) (Lib.hid CA)
end Go.Proofs.YtkeilgompipfjaaGreatDoor.Nz.Sc

/- Memory: a reader, and events; what may differ behind a reader's calls. -/
set_option linter.unusedSimpArgs false
set_option linter.unusedVariables false
namespace Go.Proofs.YtkeilgompipfjaaGreatDoor.Wl
open Go.RowKit

/-- Only blocks of a reader (its own, the text that waits, what is open) differ. -/
def Frm (w w' : World) : Prop := ∀ (k : Nat) (cs : Array Value) (T : TypeId) (fr : Nat × Nat), w.heap[k]? = some (.cells cs T fr) → T ≠ 5 → T ≠ 54 → T ≠ 85 → w'.heap[k]? = some (.cells cs T fr)
def Rk (T : TypeId) : Prop := T = 5 ∨ T = 54 ∨ T = 85
theorem Frm.refl (w : World) : Frm w w := fun _ _ _ _ h _ _ _ => h
theorem Frm.trans {a b c : World} (h : Frm a b) (k : Frm b c) : Frm a c := fun i cs T fr hi h1 h2 h3 => k i cs T fr (h i cs T fr hi h1 h2 h3) h1 h2 h3
theorem Frm.of_below {w w' : World} (h : Below w.heap.size w w') : Frm w w' := fun k cs T fr hk _ _ _ => (h.block k (Array.getElem?_eq_some_iff.1 hk).1).trans hk
theorem Frm.set {w : World} {b : Nat} {cs : Array Value} {T : TypeId} {fr : Nat × Nat} (hb : w.heap[b]? = some (.cells cs T fr)) (hT : Rk T) (j : Nat) (v : Value) : Frm w (w.setCell ⟨b, j, none⟩ v) := fun k cs' T' fr' hk h1 h2 h3 => by
  have hne : k ≠ b := by
    rintro rfl
    rw [hb] at hk
    injection hk with hk
    injection hk with _ e _
    subst e
    rcases hT with h | h | h
    · exact h1 h
    · exact h2 h
    · exact h3 h
  exact (Below.heap_setCell _ _ _ _ (fun e => hne e)).trans hk
theorem Frm.grown {w w' : World} {B : Nat} {e : TypeId} {z n : Nat} {v : Value} {xs : List Value} (hg : w.grownBy w' v.ownBlock) (h : w.ownsRow B e z v n xs) (hT : Rk e) : Frm w w' := fun k cs' T' fr' hk h1 h2 h3 => by
  have hlt := (Array.getElem?_eq_some_iff.1 hk).1
  refine (hg.block k hlt ?_).trans hk
  intro e'
  rcases h.2 with ⟨rfl, _⟩ | ⟨g, cap, cur, rfl, _, hh, _⟩
  · simp [Value.ownBlock] at e'
  · simp only [Value.ownBlock, Option.some.injEq] at e'
    subst e'
    rw [hh] at hk
    injection hk with hk
    injection hk with _ e2 _
    subst e2
    rcases hT with h | h | h
    · exact h1 h
    · exact h2 h
    · exact h3 h
theorem own_frm {w w' : World} {B : Nat} {e : TypeId} {z n : Nat} {v : Value} {xs : List Value} (h : w.ownsRow B e z v n xs) (hf : Frm w w') (h1 : e ≠ 5) (h2 : e ≠ 54) (h3 : e ≠ 85) : w'.ownsRow B e z v n xs := by
  refine ⟨h.1, ?_⟩
  rcases h.2 with h | ⟨g, cap, cur, rfl, hB, hh, r⟩
  · exact .inl h
  · exact .inr ⟨g, cap, cur, rfl, hB, hf g _ _ _ hh h1 h2 h3, r⟩
theorem own_set {w : World} {B g : Nat} {e T : TypeId} {z n : Nat} {v : Value} {xs : List Value} {cs : Array Value} {fr : Nat × Nat} (h : w.ownsRow B e z v n xs) (hb : w.heap[g]? = some (.cells cs T fr)) (hT : T ≠ e) (j : Nat) (x : Value) : (w.setCell ⟨g, j, none⟩ x).ownsRow B e z v n xs :=
  World.ownsRow.kept (row := some g) h ⟨rfl, rfl, rfl, by simp [World.setCell], fun k _ hk => Below.heap_setCell _ _ _ _ (fun e => hk (by simp [e]))⟩ (Or.inr (Nz.Sc.own_ne h hb hT))
theorem own_grown {w w' : World} {B B2 : Nat} {e e2 : TypeId} {z n z2 n2 : Nat} {v u : Value} {xs ys : List Value} (h : w.ownsRow B e z v n xs) (h2 : w.ownsRow B2 e2 z2 u n2 ys) (hg : w.grownBy w' u.ownBlock) (hT : e2 ≠ e) : w'.ownsRow B e z v n xs := by
  refine World.ownsRow.kept (row := u.ownBlock) h hg ?_
  rcases h2.2 with ⟨rfl, _⟩ | ⟨g, cap, cur, rfl, _, hh, _⟩
  · rcases h.2 with ⟨rfl, _⟩ | ⟨g, cap, cur, rfl, _⟩
    · exact .inl rfl
    · exact .inr (by simp [Value.ownBlock])
  · exact .inr (Nz.Sc.own_ne h hh hT)
theorem size_em {u : ByteArray} (h : u.size = 0) : u = Nz.em := by
  have : byts u = byts Nz.em := by
    have e : byts u = [] := List.eq_nil_of_length_eq_zero (by rw [byts_len]; exact h)
    rw [e]
    rfl
  exact byts_inj this

/-- An event's cells. -/
def kd : Ev → Int
  | .opn _ _ => 1
  | .txt _ => 2
  | .cls => 3
def sp : Ev → ByteArray
  | .opn n _ => n.1
  | _ => ⟨#[]⟩
def lo : Ev → ByteArray
  | .opn n _ => n.2
  | _ => ⟨#[]⟩
def tx : Ev → ByteArray
  | .txt s => s
  | _ => ⟨#[]⟩
def atts : Ev → List Tr
  | .opn _ f => f
  | _ => []
abbrev EvP := Ev × Value
def evC (x : EvP) : List Value := [.int .i64 (kd x.1), .string (sp x.1), .string (lo x.1), x.2, .string (tx x.1)]
def evL (es : List EvP) : List Value := es.flatMap evC
theorem evC_len (x : EvP) : (evC x).length = 5 := rfl
theorem evL_len (es : List EvP) : (evL es).length = es.length * 5 := Nz.Sc.cel_len evC_len es
theorem evL_get (es : List EvP) (k i : Nat) (t : EvP) (h : es[k]? = some t) (hi : i < 5) : (evL es)[k * 5 + i]? = (evC t)[i]? := Nz.Sc.cel_get evC_len es k i t h hi
theorem evL_app (a b : List EvP) : evL (a ++ b) = evL a ++ evL b := by unfold evL; simp
def Slc (v : Value) : Prop := ∃ A n c, v = .slice A n c
theorem own_slc {w : World} {B : Nat} {e : TypeId} {z n : Nat} {v : Value} {xs : List Value} (h : w.ownsRow B e z v n xs) : Slc v := by
  rcases h.2 with ⟨rfl, _⟩ | ⟨g, cap, cur, rfl, _⟩
  · exact ⟨_, _, _, rfl⟩
  · exact ⟨_, _, _, rfl⟩
theorem evC_one {x : EvP} (h : Slc x.2) : ∀ u ∈ evC x, u.oneCell' = true := by
  obtain ⟨A, n, c, h⟩ := h
  intro u hu
  unfold evC at hu
  rw [h] at hu
  simp only [List.mem_cons, List.not_mem_nil, or_false] at hu
  rcases hu with rfl | rfl | rfl | rfl | rfl <;> rfl
/-- The attributes of events, in rows of the call's own. -/
def EvO (w : World) (B : Nat) (es : List EvP) : Prop := ∀ x ∈ es, Nz.Sc.OwnT w B x.2 (atts x.1)
theorem evL_one {w : World} {B : Nat} {es : List EvP} (h : EvO w B es) : ∀ u ∈ evL es, u.oneCell' = true := by
  intro u hu
  obtain ⟨x, hx, hu⟩ := List.mem_flatMap.1 hu
  exact evC_one (own_slc (h x hx)) u hu
theorem own_mono {e : TypeId} {z n B B' : Nat} {w : World} {v : Value} {xs : List Value} (h : w.ownsRow B e z v n xs) (hB : B' ≤ B) : w.ownsRow B' e z v n xs := Nz.Sc.own_mono h hB
theorem EvO.frm {w w' : World} {B : Nat} {es : List EvP} (h : EvO w B es) (hf : Frm w w') : EvO w' B es := fun x hx => own_frm (h x hx) hf (by decide) (by decide) (by decide)
theorem EvO.mono {w : World} {B B' : Nat} {es : List EvP} (h : EvO w B es) (hB : B' ≤ B) : EvO w B' es := fun x hx => own_mono (h x hx) hB
theorem EvO.app {w : World} {B : Nat} {a b : List EvP} (h : EvO w B a) (k : EvO w B b) : EvO w B (a ++ b) := fun x hx => (List.mem_append.1 hx).elim (h x) (k x)
theorem EvO.grown {w w' : World} {B B2 : Nat} {es : List EvP} {e2 : TypeId} {z2 n2 : Nat} {u : Value} {ys : List Value} (h : EvO w B es) (h2 : w.ownsRow B2 e2 z2 u n2 ys) (hg : w.grownBy w' u.ownBlock) (hT : e2 ≠ 90) : EvO w' B es := fun x hx => own_grown (h x hx) h2 hg hT
theorem ownT_nil (w : World) (B : Nat) : Nz.Sc.OwnT w B (.slice none 0 0) [] := ⟨rfl, .inl ⟨rfl, rfl⟩⟩
/-- A slice of the call's own that holds these events. -/
def EvOwn (w : World) (B : Nat) (v : Value) (l : List Ev) : Prop := ∃ es : List EvP, es.map (·.1) = l ∧ w.ownsRow B 33 5 v es.length (evL es) ∧ EvO w B es
theorem EvOwn.frm {w w' : World} {B : Nat} {v : Value} {l : List Ev} (h : EvOwn w B v l) (hf : Frm w w') : EvOwn w' B v l := by
  obtain ⟨es, h1, h2, h3⟩ := h
  exact ⟨es, h1, own_frm h2 hf (by decide) (by decide) (by decide), h3.frm hf⟩
theorem EvOwn.keep {w w' : World} {B : Nat} {v : Value} {l : List Ev} (h : EvOwn w B v l) (hb : Below w.heap.size w w') : EvOwn w' B v l := h.frm (Frm.of_below hb)
theorem EvOwn.mono {w : World} {B B' : Nat} {v : Value} {l : List Ev} (h : EvOwn w B v l) (hB : B' ≤ B) : EvOwn w B' v l := by
  obtain ⟨es, h1, h2, h3⟩ := h
  exact ⟨es, h1, own_mono h2 hB, h3.mono hB⟩
theorem EvOwn.nil (w : World) (B : Nat) : EvOwn w B (.slice none 0 0) [] := ⟨[], rfl, ⟨rfl, .inl ⟨rfl, rfl⟩⟩, fun x hx => by cases hx⟩
theorem EvOwn.slc {w : World} {B : Nat} {v : Value} {l : List Ev} (h : EvOwn w B v l) : ∃ A c, v = .slice A l.length c := by
  obtain ⟨es, h1, h2, h3⟩ := h
  obtain ⟨A, c, h⟩ := Nz.Sc.own_slice h2
  exact ⟨A, c, by rw [h, ← h1, List.length_map]⟩

/-- An open element's cells. -/
abbrev OpP := (ByteArray × List Pr) × Value
def opC (x : OpP) : List Value := [.string x.1.1, x.2]
def opL (es : List OpP) : List Value := es.flatMap opC
theorem opC_len (x : OpP) : (opC x).length = 2 := rfl
theorem opL_len (es : List OpP) : (opL es).length = es.length * 2 := Nz.Sc.cel_len opC_len es
theorem opL_get (es : List OpP) (k i : Nat) (t : OpP) (h : es[k]? = some t) (hi : i < 2) : (opL es)[k * 2 + i]? = (opC t)[i]? := Nz.Sc.cel_get opC_len es k i t h hi
theorem opL_app (a b : List OpP) : opL (a ++ b) = opL a ++ opL b := by unfold opL; simp
def OpO (w : World) (B : Nat) (es : List OpP) : Prop := ∀ x ∈ es, Nz.Sc.OwnP 138 w B x.2 x.1.2
theorem OpO.frm {w w' : World} {B : Nat} {es : List OpP} (h : OpO w B es) (hf : Frm w w') : OpO w' B es := fun x hx => own_frm (h x hx) hf (by decide) (by decide) (by decide)
/-- A reader in block rb; vw: the text that waits; vo: what is open. -/
structure RW (B rb : Nat) (vw vo : Value) (es : List OpP) (s : St) (w : World) : Prop where
  lo : B ≤ rb
  blk : w.heap[rb]? = some (.cells #[vw, vo, .bool s.root, .bool s.over, .int .i64 s.err] 54 (0, 0))
  wt : w.ownsRow B 5 1 vw (byts s.wait).length ((byts s.wait).map (Value.int .u8))
  eq : es.map (·.1) = s.op
  op : w.ownsRow B 85 2 vo es.length (opL es)
  own : OpO w B es
  siz : B ≤ w.heap.size
def RS (B rb : Nat) (s : St) (w : World) : Prop := ∃ vw vo es, RW B rb vw vo es s w
section
variable {B rb : Nat} {vw vo : Value} {es : List OpP} {s : St} {w w' : World}
theorem RW.lt (h : RW B rb vw vo es s w) : rb < w.heap.size := (Array.getElem?_eq_some_iff.1 h.blk).1
theorem RW.after (h : RW B rb vw vo es s w) (hb : Below w.heap.size w w') : RW B rb vw vo es s w' :=
  ⟨h.lo, (hb.block rb h.lt).trans h.blk, Nz.Sc.own_keep h.wt hb, h.eq, Nz.Sc.own_keep h.op hb, h.own.frm (Frm.of_below hb), Nat.le_trans h.siz hb.size⟩
theorem RW.c0 (h : RW B rb vw vo es s w) : w.cell? ⟨rb, 0, none⟩ = some vw := by rw [Lib.cell_of_heap h.blk]; rfl
theorem RW.c1 (h : RW B rb vw vo es s w) : w.cell? ⟨rb, 1, none⟩ = some vo := by rw [Lib.cell_of_heap h.blk]; rfl
theorem RW.c2 (h : RW B rb vw vo es s w) : w.cell? ⟨rb, 2, none⟩ = some (.bool s.root) := by rw [Lib.cell_of_heap h.blk]; rfl
theorem RW.c3 (h : RW B rb vw vo es s w) : w.cell? ⟨rb, 3, none⟩ = some (.bool s.over) := by rw [Lib.cell_of_heap h.blk]; rfl
theorem RW.c4 (h : RW B rb vw vo es s w) : w.cell? ⟨rb, 4, none⟩ = some (.int .i64 s.err) := by rw [Lib.cell_of_heap h.blk]; rfl
theorem RW.fz (h : RW B rb vw vo es s w) (j : Nat) : w.frozen? ⟨rb, j, none⟩ = false := Lib.frozen_of_heap h.blk j
theorem set_blk {b j : Nat} {cs : Array Value} {T : TypeId} {fr : Nat × Nat} {x : Value} (h : w.heap[b]? = some (.cells cs T fr)) : (w.setCell ⟨b, j, none⟩ x).heap[b]? = some (.cells (cs.set! j x) T fr) := by
  simp [World.setCell, Array.getElem?_modify, h]
theorem RW.len (h : RW B rb vw vo es s w) : es.length = s.op.length := by rw [← h.eq, List.length_map]
theorem RW.opn (h : RW B rb vw vo es s w) : ∃ A c, vo = .slice A s.op.length c := by
  obtain ⟨A, c, e⟩ := Nz.Sc.own_slice h.op
  exact ⟨A, c, by rw [e, h.len]⟩
theorem RW.wai (h : RW B rb vw vo es s w) : ∃ A c, vw = .slice A s.wait.size c := by
  obtain ⟨A, c, e⟩ := Nz.Sc.own_slice h.wt
  exact ⟨A, c, by rw [e, byts_len]⟩
/-- A cell of the reader's is set. -/
theorem RW.own_set (h : RW B rb vw vo es s w) (j : Nat) (x : Value) {e : TypeId} {z n : Nat} {v : Value} {xs : List Value} (ho : w.ownsRow B e z v n xs) (he : (54 : TypeId) ≠ e) : (w.setCell ⟨rb, j, none⟩ x).ownsRow B e z v n xs := Wl.own_set ho h.blk he j x
theorem RW.set_op (h : RW B rb vw vo es s w) (j : Nat) (x : Value) : OpO (w.setCell ⟨rb, j, none⟩ x) B es := h.own.frm (Frm.set h.blk (.inr (.inl rfl)) j x)
theorem RW.sizS (h : RW B rb vw vo es s w) (j : Nat) (x : Value) : B ≤ (w.setCell ⟨rb, j, none⟩ x).heap.size := by simpa [World.setCell] using h.siz
theorem RW.set0 (h : RW B rb vw vo es s w) : RW B rb (.slice none 0 0) vo es { s with wait := Nz.em } (w.setCell ⟨rb, 0, none⟩ (.slice none 0 0)) :=
  ⟨h.lo, by rw [set_blk h.blk]; rfl, ⟨rfl, .inl ⟨rfl, rfl⟩⟩, h.eq, h.own_set 0 _ h.op (by decide), h.set_op 0 _, h.sizS 0 _⟩
theorem RW.set2 (h : RW B rb vw vo es s w) (b : Bool) : RW B rb vw vo es { s with root := b } (w.setCell ⟨rb, 2, none⟩ (.bool b)) :=
  ⟨h.lo, by rw [set_blk h.blk]; rfl, h.own_set 2 _ h.wt (by decide), h.eq, h.own_set 2 _ h.op (by decide), h.set_op 2 _, h.sizS 2 _⟩
theorem RW.set3 (h : RW B rb vw vo es s w) (b : Bool) : RW B rb vw vo es { s with over := b } (w.setCell ⟨rb, 3, none⟩ (.bool b)) :=
  ⟨h.lo, by rw [set_blk h.blk]; rfl, h.own_set 3 _ h.wt (by decide), h.eq, h.own_set 3 _ h.op (by decide), h.set_op 3 _, h.sizS 3 _⟩
theorem RW.set4 (h : RW B rb vw vo es s w) (e : Int) : RW B rb vw vo es { s with err := e } (w.setCell ⟨rb, 4, none⟩ (.int .i64 e)) :=
  ⟨h.lo, by rw [set_blk h.blk]; rfl, h.own_set 4 _ h.wt (by decide), h.eq, h.own_set 4 _ h.op (by decide), h.set_op 4 _, h.sizS 4 _⟩
theorem RW.belS (h : RW B rb vw vo es s w) (j : Nat) (x : Value) : Below B w (w.setCell ⟨rb, j, none⟩ x) := (Below.refl B w).setCell (p := ⟨rb, j, none⟩) h.lo x
theorem RW.frmS (h : RW B rb vw vo es s w) (j : Nat) (x : Value) : Frm w (w.setCell ⟨rb, j, none⟩ x) := Frm.set h.blk (.inr (.inl rfl)) j x
end
end Go.Proofs.YtkeilgompipfjaaGreatDoor.Wl
