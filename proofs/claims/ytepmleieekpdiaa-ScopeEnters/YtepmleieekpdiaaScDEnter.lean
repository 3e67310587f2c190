/-
  The walk of the document's Enter.
-/
import Derived.Test.YtepmleieekpdiaaScFnLaw
set_option linter.unusedSimpArgs false
set_option linter.unusedVariables false
namespace Go.Proofs.Ytepmleieekpdiaa
open Go.RowKit

theorem Try.results11 : Try.f11.results = #[ResultVar.tmp 4, ResultVar.cell 5 32, ResultVar.tmp 6] := by kernel_rfl
def En0 (w : World) (nm : ByteArray) (A2 : Option Addr) (M cap2 : Nat) : World := (w.alloc (.cells #[.string nm, .slice A2 M cap2] 25)).alloc (.cells #[.int .i64 0, .string ⟨#[]⟩, .string ⟨#[]⟩, .slice none 0 0, .string ⟨#[]⟩] 32)
theorem en0_size (w : World) (nm : ByteArray) (A2 : Option Addr) (M cap2 : Nat) : (En0 w nm A2 M cap2).heap.size = w.heap.size + 1 + 1 := by simp [En0]
theorem en0_keep {w : World} {nm : ByteArray} {A2 : Option Addr} {M cap2 : Nat} {W : World} (h : Below (w.heap.size + 1 + 1) (En0 w nm A2 M cap2) W) : EnB w nm A2 M cap2 W := by
  rw [← en0_size w nm A2 M cap2] at h
  exact (enb_start w nm A2 M cap2).keep h
theorem en0_rd {w : World} {nm : ByteArray} {A2 A : Option Addr} {M cap2 : Nat} {W : World} {l : List P2} (h : Below (w.heap.size + 1 + 1) (En0 w nm A2 M cap2) W) (hR : RdR w A l) : RdR W A l := by
  rw [← en0_size w nm A2 M cap2] at h
  exact (hR.keep (enb_start w nm A2 M cap2).bel).keep h
theorem ent_b {L R : List P2} {nm : ByteArray} (h : bindF L R = none) : entF L nm R = .error 9 := by unfold entF; rw [h]
theorem ent_n {L R Ws : List P2} {nm : ByteArray} (h : bindF L R = some Ws) (hn : namF Ws nm = none) : entF L nm R = .error 9 := by unfold entF; rw [h]; dsimp only; rw [hn]
theorem ent_a {L R Ws : List P2} {nm : ByteArray} {n : P2} {c : Int} (h : bindF L R = some Ws) (hn : namF Ws nm = some n) (ha : attF Ws [] R = .error c) : entF L nm R = .error c := by unfold entF; rw [h]; dsimp only; rw [hn]; dsimp only; rw [ha]
theorem ent_o {L R Ws : List P2} {nm : ByteArray} {n : P2} {f : List P3} (h : bindF L R = some Ws) (hn : namF Ws nm = some n) (ha : attF Ws [] R = .ok f) : entF L nm R = .ok (Ws, n, f) := by unfold entF; rw [h]; dsimp only; rw [hn]; dsimp only; rw [ha]
theorem cell_low {w w' : World} {b j : Nat} {v : Value} (h : w.cell? ⟨b, j, none⟩ = some v) (hl : b < w.heap.size) (hb : Below w.heap.size w w') : w'.cell? ⟨b, j, none⟩ = some v := (hb.cell (p := ⟨b, j, none⟩) hl).trans h
theorem row_set {e : TypeId} {z n B : Nat} {w : World} {v : Value} {xs : List Value} {g : Nat} {cs : Array Value} {T : TypeId} {fr : Nat × Nat} (h : w.ownsRow B e z v n xs) (hb : w.heap[g]? = some (.cells cs T fr)) (hT : T ≠ e) (j : Nat) (x : Value) : (w.setCell ⟨g, j, none⟩ x).ownsRow B e z v n xs :=
  World.ownsRow.kept (row := some g) h ⟨rfl, rfl, rfl, by simp [World.setCell], fun k _ hk => Below.heap_setCell _ _ _ _ (fun e => hk (by simp [e]))⟩ (Or.inr (own_ne h hb hT))
theorem pkind (p : ByteArray) : (eqb p xn = true ∧ eqb p em = false ∧ eqb p xm = false) ∨ (eqb p xn = false ∧ eqb p em = true ∧ eqb p xm = false) ∨ (eqb p xn = false ∧ eqb p em = false ∧ eqb p xm = true) ∨ (eqb p xn = false ∧ eqb p em = false ∧ eqb p xm = false) := by
  cases h1 : eqb p xn
  · cases h2 : eqb p em
    · cases h3 : eqb p xm
      · exact .inr (.inr (.inr ⟨rfl, rfl, rfl⟩))
      · exact .inr (.inr (.inl ⟨rfl, rfl, rfl⟩))
    · refine .inr (.inl ⟨rfl, rfl, ?_⟩)
      rw [eqb_iff.1 h2, eqd]
      decide
  · refine .inl ⟨rfl, ?_, ?_⟩ <;>
    · rw [eqb_iff.1 h1, eqd]
      decide
theorem skind (s : ByteArray) : (eqb s XN = true ∧ eqb s em = false ∧ eqb s XS = false) ∨ (eqb s XN = false ∧ eqb s em = true ∧ eqb s XS = false) ∨ (eqb s XN = false ∧ eqb s em = false ∧ eqb s XS = true) ∨ (eqb s XN = false ∧ eqb s em = false ∧ eqb s XS = false) := by
  cases h1 : eqb s XN
  · cases h2 : eqb s em
    · cases h3 : eqb s XS
      · exact .inr (.inr (.inr ⟨rfl, rfl, rfl⟩))
      · exact .inr (.inr (.inl ⟨rfl, rfl, rfl⟩))
    · refine .inr (.inl ⟨rfl, rfl, ?_⟩)
      rw [eqb_iff.1 h2, eqd]
      decide
  · refine .inl ⟨rfl, ?_, ?_⟩ <;>
    · rw [eqb_iff.1 h1, eqd]
      decide
theorem bds_none {s v : ByteArray} (hs : s.size ≤ 1000) (hr : (splitA s).2.2 = true) (h : bndF s = none) : BdsC s v ⟨#[]⟩ false := fun w => (binds_any s v hs hr w).mono fun e w' ⟨h1, h2⟩ => ⟨by rw [h1, h]; rfl, h2⟩
theorem bds_some {s v p : ByteArray} (hs : s.size ≤ 1000) (hr : (splitA s).2.2 = true) (h : bndF s = some p) : BdsC s v p true := fun w => (binds_any s v hs hr w).mono fun e w' ⟨h1, h2⟩ => ⟨by rw [h1, h]; rfl, h2⟩
def DcRel (Wl R : List P2) (M be : Nat) (W4 : World) (na nb : ByteArray) (i : Value) (wr : World) : Prop :=
  ∃ (k m2 : Nat) (f : List P3) (va : Value), i = .int .i64 k ∧ k ≤ M ∧ m2 ≤ k ∧ Hid (m2 = f.length) ∧ Hid (wr.ownsRow (be + 1) 53 3 va m2 (tL f)) ∧ Hid (wr.heap[be]? = some (.cells #[.int .i64 1, .string na, .string nb, va, .string ⟨#[]⟩] 32 (0, 0))) ∧ Hid (Below be W4 wr) ∧ Hid (be + 1 ≤ wr.heap.size) ∧ Hid (attF Wl [] R = attF Wl f (R.drop k))
def DiRel (m2 : Nat) (f : List P3) (xa xb : ByteArray) (W8 : World) (i : Value) (wq : World) : Prop :=
  ∃ j : Nat, i = .int .i64 j ∧ j ≤ m2 ∧ Hid (Below W8.heap.size W8 wq) ∧ Hid (∀ (t : Nat) (y : P3), t < j → f[t]? = some y → (eqb y.1.1 xa && eqb y.1.2 xb) = false)
theorem has_no {f : List P3} {xa xb : ByteArray} (h : ∀ (t : Nat) (y : P3), t < f.length → f[t]? = some y → (eqb y.1.1 xa && eqb y.1.2 xb) = false) : hasN (xa, xb) f = false := by
  unfold hasN
  rw [List.any_eq_false]
  intro x hx
  obtain ⟨j, hj⟩ := List.getElem?_of_mem hx
  have := h j x (List.getElem?_eq_some_iff.1 hj).1 hj
  simp only [this, Bool.false_eq_true, not_false_eq_true]
theorem has_yes {f : List P3} {xa xb : ByteArray} {j : Nat} {y : P3} (hj : f[j]? = some y) (h : (eqb y.1.1 xa && eqb y.1.2 xb) = true) : hasN (xa, xb) f = true := by
  unfold hasN
  rw [List.any_eq_true]
  exact ⟨y, List.mem_of_getElem? hj, h⟩
def DbRel (L R : List P2) (N M : Nat) (w W0 : World) (v i : Value) (wr : World) : Prop :=
  ∃ (k m : Nat) (Wl : List P2), i = .int .i64 k ∧ k ≤ M ∧ m ≤ N + k ∧ Hid (m = Wl.length) ∧ Hid (wr.ownsRow (w.heap.size + 1 + 1) 50 2 v m (rwL Wl)) ∧ Hid (Below (w.heap.size + 1 + 1) W0 wr) ∧ Hid (bindF L R = bindF Wl (R.drop k))
set_option maxHeartbeats 8000000 in
set_option maxRecDepth 100000 in
theorem denter_any (A A2 : Option Addr) (N M cap cap2 : Nat) (nm : ByteArray) (L R : List P2) (w : World) (hE : Ent w A A2 N M nm L R) (hnilA : A = none → N = 0 ∧ cap = 0) (hRi : ∀ x ∈ R, (splitA x.1).2.2 = true) :
    Calls Try.prog 11 #[.slice A N cap, .agg #[.string nm, .slice A2 M cap2]] w (EnPost w (entF L nm R)) := by
  obtain ⟨i50, ji, jy0, jy1, jy2⟩ := info_parts Try.info50
  obtain ⟨i53, hi, hy0, hy1, hy2⟩ := info_parts Try.info53
  have HN := Lib.hid hE.hN
  have HM := Lib.hid hE.hM
  have hN1 := hE.hN1
  have hM1 := hE.hM1
  have HEn := Lib.hid hE
  have HRi := Lib.hid hRi
  have HNilA := Lib.hid hnilA
  have HRa : Hid (RdR (En0 w nm A2 M cap2) A L) := Lib.hid (hE.hR.keep (enb_start w nm A2 M cap2).bel)
  have HE0 : Hid (((En0 w nm A2 M cap2).alloc (.cells #[] 50)).ownsRow (w.heap.size + 1 + 1) 50 2 (.slice (some ⟨w.heap.size + 1 + 1, 0, none⟩) 0 0) 0 []) := Lib.hid (own_emp (by have := nblk (En0 w nm A2 M cap2) 50 #[]; rw [en0_size] at this; exact this) (Nat.le_refl _))
  have HBe : Hid (Below (w.heap.size + 1 + 1) (En0 w nm A2 M cap2) ((En0 w nm A2 M cap2).alloc (.cells #[] 50))) := Lib.hid ((Below.refl _ _).alloc (by rw [en0_size]; exact Nat.le_refl _) _)
  have HCe : Hid (∀ ad, A = some ad → ∀ j u, (rwL L)[j]? = some u → ((En0 w nm A2 M cap2).alloc (.cells #[] 50)).cell? (ad.add j) = some u) := Lib.hid (fun ad ha => by
    have := HRa.out.keep ((Below.refl _ (En0 w nm A2 M cap2)).alloc (Nat.le_refl _) (.cells #[] 50))
    rw [ha] at this
    exact this.cells)
  have HLLa : Hid ((rwL L).length = N * 2) := Lib.hid (by rw [rwL_len, HN.out])
  have HONEa := Lib.hid (rwL_one L)
  have HSz : Hid (w.heap.size + 1 + 1 ≤ ((En0 w nm A2 M cap2).alloc (.cells #[] 50)).heap.size) := Lib.hid (by rw [World.size_alloc, en0_size]; omega)
  have tok1 : True := trivial
  clear hE hRi hnilA
  go_enter Try.func11, Try.ntmps11
  go_wp2_with (first
    | (at_builtin; have _t := tok1
       refine wpList_append_any (w := (En0 w nm A2 M cap2).alloc (.cells #[] 50)) rfl _ _ 22 rfl (w.heap.size + 1 + 1) 50 i50 (.agg #[.string ⟨#[]⟩, .string ⟨#[]⟩]) 2 32 Try.underlying22 ji jy0 jy1 jy2 rfl (by decide) _ 0 [] rfl HE0.out A N cap (rwL L) rfl HNilA.out HLLa.out HCe.out HONEa.out (by unfold maxLen; omega) (by omega) HSz.out ?_
       intro vw w1 hown5 hgrow5
       clear tok1
       have HB5 := Lib.hid (HBe.out.grown hgrow5 HSz.out (fun j hj => (World.ownsRow.lt HE0.out j hj).1))
       rw [List.nil_append, Nat.zero_add] at hown5
       obtain ⟨Aw, cw, rfl⟩ := own_slice hown5
       have HO5 := Lib.hid hown5
       clear hown5 hgrow5 HE0 HBe HCe HLLa HONEa HSz HRa)
    | fail)
  go_loopw [7, 8] (fun v i wr => DbRel L R N M w (En0 w nm A2 M cap2) v i wr) (fun _ i _ => M - (intOf i).toNat)
  case atStart => exact ⟨0, N, L, rfl, Nat.zero_le _, by omega, HN, HO5, HB5, Lib.hid rfl⟩
  case round =>
    clear HO5 HB5 HNilA
    obtain ⟨k, m, Wl, rfl, hk, hm, HW, hO, hB, HI⟩ := hrel
    obtain ⟨A1, c1, rfl⟩ := own_slice hO.out
    have HK := Lib.hid (en0_keep hB.out)
    have hS : Hid (w.heap.size + 1 + 1 ≤ wr.heap.size) := Lib.hid HK.out.lt
    have t1 := cells_of HK.out.tag 1 (u := .slice A2 M cap2) rfl
    by_cases hlt : k < M
    · have hkl : k < R.length := by rw [← HM.out]; exact hlt
      have hx := List.getElem?_eq_getElem hkl
      obtain ⟨b1, o1, rfl, hb1, x0, x1⟩ := (en0_rd hB.out HEn.out.hR2) k _ hx
      have hs := HEn.out.hsz _ (List.getElem_mem hkl)
      have hri := HRi.out _ (List.getElem_mem hkl)
      have HX := Lib.hid hx
      have d1 : (k : Int) < (M : Int) := by omega
      have d0 : (0 : Int) ≤ (k : Int) := by omega
      clear hx hlt
      generalize R[k] = t at *
      obtain ⟨an, av⟩ := t
      dsimp only at x0 x1 hs hri
      cases hbn : bndF an with
      | none =>
        have CB := Lib.hid (bds_none (v := av) hs hri hbn)
        have HE := Lib.hid (bind_skip (l := Wl) HX.out hbn)
        clear hbn hs hri
        go_wp2_with (go_at_call 24; refine (CB.out _).mono ?_; rintro e w3 ⟨rfl, hb⟩)
        go_roundw
        case rel => exact ⟨k + 1, m, Wl, by go_num, by omega, by omega, HW, Lib.hid (own_keep hO.out hb), Lib.hid (hB.out.trans (hb.mono hS.out)), Lib.hid (HI.out.trans HE.out)⟩
        case measure => simp only [intOf]; omega
      | some p =>
        have CB := Lib.hid (bds_some (v := av) hs hri hbn)
        clear hs hri
        rcases pkind p with ⟨p1, p2, p3⟩ | ⟨p1, p2, p3⟩ | ⟨p1, p2, p3⟩ | ⟨p1, p2, p3⟩
        · rcases skind av with ⟨s1, s2, s3⟩ | ⟨s1, s2, s3⟩ | ⟨s1, s2, s3⟩ | ⟨s1, s2, s3⟩
          · -- prefix 0, space 0
            have hok : okB p av = false := by unfold okB; rw [p1, p2, p3, s1, s2, s3]; rfl
            have u1 := eqb_xn p1
            have u2 := eqb_emp p2
            have u3 := eqb_xm p3
            have v1 := eqb_XN s1
            have v2 := eqb_emp s2
            have v3 := eqb_XS s3
            have v3' : (av.toList != [104, 116, 116, 112, 58, 47, 47, 119, 119, 119, 46, 119, 51, 46, 111, 114, 103, 47, 88, 77, 76, 47, 49, 57, 57, 56, 47, 110, 97, 109, 101, 115, 112, 97, 99, 101]) = true := by rw [bne, v3]; rfl
            have u3' : (p.toList != [120, 109, 108]) = true := by rw [bne, u3]; rfl
            have u2' : (!p.toList.isEmpty) = true := by rw [u2]; rfl
            have HE := Lib.hid (ent_b (nm := nm) (HI.out.trans (bind_stop (l := Wl) HX.out hbn hok)))
            clear hbn hok p1 p2 p3 s1 s2 s3
            go_wp2_with (first
              | (go_at_call 24; refine (CB.out _).mono ?_; rintro e w3 ⟨rfl, hb⟩
                 have x1' : w3.cell? ⟨b1, o1 + k * 2 + 1, none⟩ = some (.string av) := (hb.cell (p := ⟨b1, o1 + k * 2 + 1, none⟩) hb1).trans x1
                 have HK3 := Lib.hid (HK.out.keep hb)
                 have t1' := cells_of HK3.out.tag 1 (u := .slice (some ⟨b1, o1, none⟩) M cap2) rfl
                 have hB1 := Lib.hid (hB.out.trans (hb.mono hS.out))
                 have z0 := cells_of HK3.out.ev 0 (u := (.int .i64 0)) rfl
                 have z1 := cells_of HK3.out.ev 1 (u := (.string ⟨#[]⟩)) rfl
                 have z2 := cells_of HK3.out.ev 2 (u := (.string ⟨#[]⟩)) rfl
                 have z3 := cells_of HK3.out.ev 3 (u := (.slice none 0 0)) rfl
                 have z4 := cells_of HK3.out.ev 4 (u := (.string ⟨#[]⟩)) rfl
                 have g0 := froz_of HK3.out.ev 0
                 have g1 := froz_of HK3.out.ev 1
                 have g2 := froz_of HK3.out.ev 2
                 have g3 := froz_of HK3.out.ev 3
                 have g4 := froz_of HK3.out.ev 4)
              | fail)
            have HSr := Lib.hid (set5 HK3.out.ev (.int .i64 0) (.string ⟨#[]⟩) (.string ⟨#[]⟩) (.slice none 0 0) (.string ⟨#[]⟩))
            have r0 := cells_of HSr.out 0 (u := (.int .i64 0)) rfl
            have r1 := cells_of HSr.out 1 (u := (.string ⟨#[]⟩)) rfl
            have r2 := cells_of HSr.out 2 (u := (.string ⟨#[]⟩)) rfl
            have r3 := cells_of HSr.out 3 (u := (.slice none 0 0)) rfl
            have r4 := cells_of HSr.out 4 (u := (.string ⟨#[]⟩)) rfl
            exact bodyPost_ret (v := .tuple #[.slice none 0 0, evZ, .int .i64 9]) (by simp [results, Try.results11, go_sem, r0, r1, r2, r3, r4, evZ]) rfl (en_err HE.out rfl (bel5 HK3.out.bel (Nat.le_succ _) _ _ _ _ _))
          · -- prefix 0, space 1
            have hok : okB p av = false := by unfold okB; rw [p1, p2, p3, s1, s2, s3]; rfl
            have u1 := eqb_xn p1
            have u2 := eqb_emp p2
            have u3 := eqb_xm p3
            have v1 := eqb_XN s1
            have v2 := eqb_emp s2
            have v3 := eqb_XS s3
            have v3' : (av.toList != [104, 116, 116, 112, 58, 47, 47, 119, 119, 119, 46, 119, 51, 46, 111, 114, 103, 47, 88, 77, 76, 47, 49, 57, 57, 56, 47, 110, 97, 109, 101, 115, 112, 97, 99, 101]) = true := by rw [bne, v3]; rfl
            have u3' : (p.toList != [120, 109, 108]) = true := by rw [bne, u3]; rfl
            have u2' : (!p.toList.isEmpty) = true := by rw [u2]; rfl
            have HE := Lib.hid (ent_b (nm := nm) (HI.out.trans (bind_stop (l := Wl) HX.out hbn hok)))
            clear hbn hok p1 p2 p3 s1 s2 s3
            go_wp2_with (first
              | (go_at_call 24; refine (CB.out _).mono ?_; rintro e w3 ⟨rfl, hb⟩
                 have x1' : w3.cell? ⟨b1, o1 + k * 2 + 1, none⟩ = some (.string av) := (hb.cell (p := ⟨b1, o1 + k * 2 + 1, none⟩) hb1).trans x1
                 have HK3 := Lib.hid (HK.out.keep hb)
                 have t1' := cells_of HK3.out.tag 1 (u := .slice (some ⟨b1, o1, none⟩) M cap2) rfl
                 have hB1 := Lib.hid (hB.out.trans (hb.mono hS.out))
                 have z0 := cells_of HK3.out.ev 0 (u := (.int .i64 0)) rfl
                 have z1 := cells_of HK3.out.ev 1 (u := (.string ⟨#[]⟩)) rfl
                 have z2 := cells_of HK3.out.ev 2 (u := (.string ⟨#[]⟩)) rfl
                 have z3 := cells_of HK3.out.ev 3 (u := (.slice none 0 0)) rfl
                 have z4 := cells_of HK3.out.ev 4 (u := (.string ⟨#[]⟩)) rfl
                 have g0 := froz_of HK3.out.ev 0
                 have g1 := froz_of HK3.out.ev 1
                 have g2 := froz_of HK3.out.ev 2
                 have g3 := froz_of HK3.out.ev 3
                 have g4 := froz_of HK3.out.ev 4)
              | fail)
            have HSr := Lib.hid (set5 HK3.out.ev (.int .i64 0) (.string ⟨#[]⟩) (.string ⟨#[]⟩) (.slice none 0 0) (.string ⟨#[]⟩))
            have r0 := cells_of HSr.out 0 (u := (.int .i64 0)) rfl
            have r1 := cells_of HSr.out 1 (u := (.string ⟨#[]⟩)) rfl
            have r2 := cells_of HSr.out 2 (u := (.string ⟨#[]⟩)) rfl
            have r3 := cells_of HSr.out 3 (u := (.slice none 0 0)) rfl
            have r4 := cells_of HSr.out 4 (u := (.string ⟨#[]⟩)) rfl
            exact bodyPost_ret (v := .tuple #[.slice none 0 0, evZ, .int .i64 9]) (by simp [results, Try.results11, go_sem, r0, r1, r2, r3, r4, evZ]) rfl (en_err HE.out rfl (bel5 HK3.out.bel (Nat.le_succ _) _ _ _ _ _))
          · -- prefix 0, space 2
            have hok : okB p av = false := by unfold okB; rw [p1, p2, p3, s1, s2, s3]; rfl
            have u1 := eqb_xn p1
            have u2 := eqb_emp p2
            have u3 := eqb_xm p3
            have v1 := eqb_XN s1
            have v2 := eqb_emp s2
            have v3 := eqb_XS s3
            have v3' : (av.toList != [104, 116, 116, 112, 58, 47, 47, 119, 119, 119, 46, 119, 51, 46, 111, 114, 103, 47, 88, 77, 76, 47, 49, 57, 57, 56, 47, 110, 97, 109, 101, 115, 112, 97, 99, 101]) = false := by rw [bne, v3]; rfl
            have u3' : (p.toList != [120, 109, 108]) = true := by rw [bne, u3]; rfl
            have u2' : (!p.toList.isEmpty) = true := by rw [u2]; rfl
            have HE := Lib.hid (ent_b (nm := nm) (HI.out.trans (bind_stop (l := Wl) HX.out hbn hok)))
            clear hbn hok p1 p2 p3 s1 s2 s3
            go_wp2_with (first
              | (go_at_call 24; refine (CB.out _).mono ?_; rintro e w3 ⟨rfl, hb⟩
                 have x1' : w3.cell? ⟨b1, o1 + k * 2 + 1, none⟩ = some (.string av) := (hb.cell (p := ⟨b1, o1 + k * 2 + 1, none⟩) hb1).trans x1
                 have HK3 := Lib.hid (HK.out.keep hb)
                 have t1' := cells_of HK3.out.tag 1 (u := .slice (some ⟨b1, o1, none⟩) M cap2) rfl
                 have hB1 := Lib.hid (hB.out.trans (hb.mono hS.out))
                 have z0 := cells_of HK3.out.ev 0 (u := (.int .i64 0)) rfl
                 have z1 := cells_of HK3.out.ev 1 (u := (.string ⟨#[]⟩)) rfl
                 have z2 := cells_of HK3.out.ev 2 (u := (.string ⟨#[]⟩)) rfl
                 have z3 := cells_of HK3.out.ev 3 (u := (.slice none 0 0)) rfl
                 have z4 := cells_of HK3.out.ev 4 (u := (.string ⟨#[]⟩)) rfl
                 have g0 := froz_of HK3.out.ev 0
                 have g1 := froz_of HK3.out.ev 1
                 have g2 := froz_of HK3.out.ev 2
                 have g3 := froz_of HK3.out.ev 3
                 have g4 := froz_of HK3.out.ev 4)
              | fail)
            have HSr := Lib.hid (set5 HK3.out.ev (.int .i64 0) (.string ⟨#[]⟩) (.string ⟨#[]⟩) (.slice none 0 0) (.string ⟨#[]⟩))
            have r0 := cells_of HSr.out 0 (u := (.int .i64 0)) rfl
            have r1 := cells_of HSr.out 1 (u := (.string ⟨#[]⟩)) rfl
            have r2 := cells_of HSr.out 2 (u := (.string ⟨#[]⟩)) rfl
            have r3 := cells_of HSr.out 3 (u := (.slice none 0 0)) rfl
            have r4 := cells_of HSr.out 4 (u := (.string ⟨#[]⟩)) rfl
            exact bodyPost_ret (v := .tuple #[.slice none 0 0, evZ, .int .i64 9]) (by simp [results, Try.results11, go_sem, r0, r1, r2, r3, r4, evZ]) rfl (en_err HE.out rfl (bel5 HK3.out.bel (Nat.le_succ _) _ _ _ _ _))
          · -- prefix 0, space 3
            have hok : okB p av = false := by unfold okB; rw [p1, p2, p3, s1, s2, s3]; rfl
            have u1 := eqb_xn p1
            have u2 := eqb_emp p2
            have u3 := eqb_xm p3
            have v1 := eqb_XN s1
            have v2 := eqb_emp s2
            have v3 := eqb_XS s3
            have v3' : (av.toList != [104, 116, 116, 112, 58, 47, 47, 119, 119, 119, 46, 119, 51, 46, 111, 114, 103, 47, 88, 77, 76, 47, 49, 57, 57, 56, 47, 110, 97, 109, 101, 115, 112, 97, 99, 101]) = true := by rw [bne, v3]; rfl
            have u3' : (p.toList != [120, 109, 108]) = true := by rw [bne, u3]; rfl
            have u2' : (!p.toList.isEmpty) = true := by rw [u2]; rfl
            have HE := Lib.hid (ent_b (nm := nm) (HI.out.trans (bind_stop (l := Wl) HX.out hbn hok)))
            clear hbn hok p1 p2 p3 s1 s2 s3
            go_wp2_with (first
              | (go_at_call 24; refine (CB.out _).mono ?_; rintro e w3 ⟨rfl, hb⟩
                 have x1' : w3.cell? ⟨b1, o1 + k * 2 + 1, none⟩ = some (.string av) := (hb.cell (p := ⟨b1, o1 + k * 2 + 1, none⟩) hb1).trans x1
                 have HK3 := Lib.hid (HK.out.keep hb)
                 have t1' := cells_of HK3.out.tag 1 (u := .slice (some ⟨b1, o1, none⟩) M cap2) rfl
                 have hB1 := Lib.hid (hB.out.trans (hb.mono hS.out))
                 have z0 := cells_of HK3.out.ev 0 (u := (.int .i64 0)) rfl
                 have z1 := cells_of HK3.out.ev 1 (u := (.string ⟨#[]⟩)) rfl
                 have z2 := cells_of HK3.out.ev 2 (u := (.string ⟨#[]⟩)) rfl
                 have z3 := cells_of HK3.out.ev 3 (u := (.slice none 0 0)) rfl
                 have z4 := cells_of HK3.out.ev 4 (u := (.string ⟨#[]⟩)) rfl
                 have g0 := froz_of HK3.out.ev 0
                 have g1 := froz_of HK3.out.ev 1
                 have g2 := froz_of HK3.out.ev 2
                 have g3 := froz_of HK3.out.ev 3
                 have g4 := froz_of HK3.out.ev 4)
              | fail)
            have HSr := Lib.hid (set5 HK3.out.ev (.int .i64 0) (.string ⟨#[]⟩) (.string ⟨#[]⟩) (.slice none 0 0) (.string ⟨#[]⟩))
            have r0 := cells_of HSr.out 0 (u := (.int .i64 0)) rfl
            have r1 := cells_of HSr.out 1 (u := (.string ⟨#[]⟩)) rfl
            have r2 := cells_of HSr.out 2 (u := (.string ⟨#[]⟩)) rfl
            have r3 := cells_of HSr.out 3 (u := (.slice none 0 0)) rfl
            have r4 := cells_of HSr.out 4 (u := (.string ⟨#[]⟩)) rfl
            exact bodyPost_ret (v := .tuple #[.slice none 0 0, evZ, .int .i64 9]) (by simp [results, Try.results11, go_sem, r0, r1, r2, r3, r4, evZ]) rfl (en_err HE.out rfl (bel5 HK3.out.bel (Nat.le_succ _) _ _ _ _ _))
        · rcases skind av with ⟨s1, s2, s3⟩ | ⟨s1, s2, s3⟩ | ⟨s1, s2, s3⟩ | ⟨s1, s2, s3⟩
          · -- prefix 1, space 0
            have hok : okB p av = false := by unfold okB; rw [p1, p2, p3, s1, s2, s3]; rfl
            have u1 := eqb_xn p1
            have u2 := eqb_emp p2
            have u3 := eqb_xm p3
            have v1 := eqb_XN s1
            have v2 := eqb_emp s2
            have v3 := eqb_XS s3
            have v3' : (av.toList != [104, 116, 116, 112, 58, 47, 47, 119, 119, 119, 46, 119, 51, 46, 111, 114, 103, 47, 88, 77, 76, 47, 49, 57, 57, 56, 47, 110, 97, 109, 101, 115, 112, 97, 99, 101]) = true := by rw [bne, v3]; rfl
            have u3' : (p.toList != [120, 109, 108]) = true := by rw [bne, u3]; rfl
            have u2' : (!p.toList.isEmpty) = false := by rw [u2]; rfl
            have HE := Lib.hid (ent_b (nm := nm) (HI.out.trans (bind_stop (l := Wl) HX.out hbn hok)))
            clear hbn hok p1 p2 p3 s1 s2 s3
            go_wp2_with (first
              | (go_at_call 24; refine (CB.out _).mono ?_; rintro e w3 ⟨rfl, hb⟩
                 have x1' : w3.cell? ⟨b1, o1 + k * 2 + 1, none⟩ = some (.string av) := (hb.cell (p := ⟨b1, o1 + k * 2 + 1, none⟩) hb1).trans x1
                 have HK3 := Lib.hid (HK.out.keep hb)
                 have t1' := cells_of HK3.out.tag 1 (u := .slice (some ⟨b1, o1, none⟩) M cap2) rfl
                 have hB1 := Lib.hid (hB.out.trans (hb.mono hS.out))
                 have z0 := cells_of HK3.out.ev 0 (u := (.int .i64 0)) rfl
                 have z1 := cells_of HK3.out.ev 1 (u := (.string ⟨#[]⟩)) rfl
                 have z2 := cells_of HK3.out.ev 2 (u := (.string ⟨#[]⟩)) rfl
                 have z3 := cells_of HK3.out.ev 3 (u := (.slice none 0 0)) rfl
                 have z4 := cells_of HK3.out.ev 4 (u := (.string ⟨#[]⟩)) rfl
                 have g0 := froz_of HK3.out.ev 0
                 have g1 := froz_of HK3.out.ev 1
                 have g2 := froz_of HK3.out.ev 2
                 have g3 := froz_of HK3.out.ev 3
                 have g4 := froz_of HK3.out.ev 4)
              | fail)
            have HSr := Lib.hid (set5 HK3.out.ev (.int .i64 0) (.string ⟨#[]⟩) (.string ⟨#[]⟩) (.slice none 0 0) (.string ⟨#[]⟩))
            have r0 := cells_of HSr.out 0 (u := (.int .i64 0)) rfl
            have r1 := cells_of HSr.out 1 (u := (.string ⟨#[]⟩)) rfl
            have r2 := cells_of HSr.out 2 (u := (.string ⟨#[]⟩)) rfl
            have r3 := cells_of HSr.out 3 (u := (.slice none 0 0)) rfl
            have r4 := cells_of HSr.out 4 (u := (.string ⟨#[]⟩)) rfl
            exact bodyPost_ret (v := .tuple #[.slice none 0 0, evZ, .int .i64 9]) (by simp [results, Try.results11, go_sem, r0, r1, r2, r3, r4, evZ]) rfl (en_err HE.out rfl (bel5 HK3.out.bel (Nat.le_succ _) _ _ _ _ _))
          · -- prefix 1, space 1
            have hok : okB p av = true := by unfold okB; rw [p1, p2, p3, s1, s2, s3]; rfl
            have u1 := eqb_xn p1
            have u2 := eqb_emp p2
            have u3 := eqb_xm p3
            have v1 := eqb_XN s1
            have v2 := eqb_emp s2
            have v3 := eqb_XS s3
            have v3' : (av.toList != [104, 116, 116, 112, 58, 47, 47, 119, 119, 119, 46, 119, 51, 46, 111, 114, 103, 47, 88, 77, 76, 47, 49, 57, 57, 56, 47, 110, 97, 109, 101, 115, 112, 97, 99, 101]) = true := by rw [bne, v3]; rfl
            have u3' : (p.toList != [120, 109, 108]) = true := by rw [bne, u3]; rfl
            have u2' : (!p.toList.isEmpty) = false := by rw [u2]; rfl
            have HE := Lib.hid (bind_go (l := Wl) HX.out hbn hok)
            clear hbn hok p1 p2 p3 s1 s2 s3
            go_wp2_with (first
              | (go_at_call 24; refine (CB.out _).mono ?_; rintro e w3 ⟨rfl, hb⟩
                 have x1' : w3.cell? ⟨b1, o1 + k * 2 + 1, none⟩ = some (.string av) := (hb.cell (p := ⟨b1, o1 + k * 2 + 1, none⟩) hb1).trans x1
                 have HK3 := Lib.hid (HK.out.keep hb)
                 have t1' := cells_of HK3.out.tag 1 (u := .slice (some ⟨b1, o1, none⟩) M cap2) rfl
                 have hB1 := Lib.hid (hB.out.trans (hb.mono hS.out))
                 have hS3 : Hid (w.heap.size + 1 + 1 ≤ w3.heap.size) := Lib.hid (Nat.le_trans hS.out hb.size)
                 have ho3 := Lib.hid ((own_keep hO.out hb).alloc (.cells #[.string p, .string av] 50))
                 have hB2 := Lib.hid (hB1.out.alloc hS3.out (.cells #[.string p, .string av] 50))
                 have hnew := Lib.hid (new_cells w3 #[.string p, .string av] 50)
                 have hS4 : Hid (w.heap.size + 1 + 1 ≤ (w3.alloc (.cells #[.string p, .string av] 50)).heap.size) := Lib.hid (Nat.le_trans hS3.out (by simp)))
              | (at_builtin
                 refine wpList_append_own _ rfl _ _ 22 rfl (w.heap.size + 1 + 1) 50 i50 (.agg #[.string ⟨#[]⟩, .string ⟨#[]⟩]) 2 32 Try.underlying22 ji jy0 jy1 jy2 rfl (by decide) _ m (rwL Wl) rfl ho3.out ⟨w3.heap.size, 0, none⟩ 1 1 [.string p, .string av] rfl rfl hnew.out (pair_one p av) (by unfold maxLen; omega) (by omega) hS4.out ?_
                 intro v' w4 hown' hgrow hnil'
                 obtain ⟨g', cap', rfl⟩ := own_shape hown'
                 have hO2 := Lib.hid hown'
                 have hB6 := Lib.hid (hB2.out.grown hgrow hS4.out (fun j hj => (World.ownsRow.lt ho3.out j hj).1))
                 clear hown' hgrow hnil')
              | fail)
            go_roundw
            case rel => exact ⟨k + 1, m + 1, Wl ++ [(p, av)], by go_num, by omega, by omega, Lib.hid (by rw [List.length_append, ← HW.out]; rfl), Lib.hid (by rw [rwL_app]; exact hO2.out), hB6, Lib.hid (HI.out.trans HE.out)⟩
            case measure => simp only [intOf]; omega
          · -- prefix 1, space 2
            have hok : okB p av = false := by unfold okB; rw [p1, p2, p3, s1, s2, s3]; rfl
            have u1 := eqb_xn p1
            have u2 := eqb_emp p2
            have u3 := eqb_xm p3
            have v1 := eqb_XN s1
            have v2 := eqb_emp s2
            have v3 := eqb_XS s3
            have v3' : (av.toList != [104, 116, 116, 112, 58, 47, 47, 119, 119, 119, 46, 119, 51, 46, 111, 114, 103, 47, 88, 77, 76, 47, 49, 57, 57, 56, 47, 110, 97, 109, 101, 115, 112, 97, 99, 101]) = false := by rw [bne, v3]; rfl
            have u3' : (p.toList != [120, 109, 108]) = true := by rw [bne, u3]; rfl
            have u2' : (!p.toList.isEmpty) = false := by rw [u2]; rfl
            have HE := Lib.hid (ent_b (nm := nm) (HI.out.trans (bind_stop (l := Wl) HX.out hbn hok)))
            clear hbn hok p1 p2 p3 s1 s2 s3
            go_wp2_with (first
              | (go_at_call 24; refine (CB.out _).mono ?_; rintro e w3 ⟨rfl, hb⟩
                 have x1' : w3.cell? ⟨b1, o1 + k * 2 + 1, none⟩ = some (.string av) := (hb.cell (p := ⟨b1, o1 + k * 2 + 1, none⟩) hb1).trans x1
                 have HK3 := Lib.hid (HK.out.keep hb)
                 have t1' := cells_of HK3.out.tag 1 (u := .slice (some ⟨b1, o1, none⟩) M cap2) rfl
                 have hB1 := Lib.hid (hB.out.trans (hb.mono hS.out))
                 have z0 := cells_of HK3.out.ev 0 (u := (.int .i64 0)) rfl
                 have z1 := cells_of HK3.out.ev 1 (u := (.string ⟨#[]⟩)) rfl
                 have z2 := cells_of HK3.out.ev 2 (u := (.string ⟨#[]⟩)) rfl
                 have z3 := cells_of HK3.out.ev 3 (u := (.slice none 0 0)) rfl
                 have z4 := cells_of HK3.out.ev 4 (u := (.string ⟨#[]⟩)) rfl
                 have g0 := froz_of HK3.out.ev 0
                 have g1 := froz_of HK3.out.ev 1
                 have g2 := froz_of HK3.out.ev 2
                 have g3 := froz_of HK3.out.ev 3
                 have g4 := froz_of HK3.out.ev 4)
              | fail)
            have HSr := Lib.hid (set5 HK3.out.ev (.int .i64 0) (.string ⟨#[]⟩) (.string ⟨#[]⟩) (.slice none 0 0) (.string ⟨#[]⟩))
            have r0 := cells_of HSr.out 0 (u := (.int .i64 0)) rfl
            have r1 := cells_of HSr.out 1 (u := (.string ⟨#[]⟩)) rfl
            have r2 := cells_of HSr.out 2 (u := (.string ⟨#[]⟩)) rfl
            have r3 := cells_of HSr.out 3 (u := (.slice none 0 0)) rfl
            have r4 := cells_of HSr.out 4 (u := (.string ⟨#[]⟩)) rfl
            exact bodyPost_ret (v := .tuple #[.slice none 0 0, evZ, .int .i64 9]) (by simp [results, Try.results11, go_sem, r0, r1, r2, r3, r4, evZ]) rfl (en_err HE.out rfl (bel5 HK3.out.bel (Nat.le_succ _) _ _ _ _ _))
          · -- prefix 1, space 3
            have hok : okB p av = true := by unfold okB; rw [p1, p2, p3, s1, s2, s3]; rfl
            have u1 := eqb_xn p1
            have u2 := eqb_emp p2
            have u3 := eqb_xm p3
            have v1 := eqb_XN s1
            have v2 := eqb_emp s2
            have v3 := eqb_XS s3
            have v3' : (av.toList != [104, 116, 116, 112, 58, 47, 47, 119, 119, 119, 46, 119, 51, 46, 111, 114, 103, 47, 88, 77, 76, 47, 49, 57, 57, 56, 47, 110, 97, 109, 101, 115, 112, 97, 99, 101]) = true := by rw [bne, v3]; rfl
            have u3' : (p.toList != [120, 109, 108]) = true := by rw [bne, u3]; rfl
            have u2' : (!p.toList.isEmpty) = false := by rw [u2]; rfl
            have HE := Lib.hid (bind_go (l := Wl) HX.out hbn hok)
            clear hbn hok p1 p2 p3 s1 s2 s3
            go_wp2_with (first
              | (go_at_call 24; refine (CB.out _).mono ?_; rintro e w3 ⟨rfl, hb⟩
                 have x1' : w3.cell? ⟨b1, o1 + k * 2 + 1, none⟩ = some (.string av) := (hb.cell (p := ⟨b1, o1 + k * 2 + 1, none⟩) hb1).trans x1
                 have HK3 := Lib.hid (HK.out.keep hb)
                 have t1' := cells_of HK3.out.tag 1 (u := .slice (some ⟨b1, o1, none⟩) M cap2) rfl
                 have hB1 := Lib.hid (hB.out.trans (hb.mono hS.out))
                 have hS3 : Hid (w.heap.size + 1 + 1 ≤ w3.heap.size) := Lib.hid (Nat.le_trans hS.out hb.size)
                 have ho3 := Lib.hid ((own_keep hO.out hb).alloc (.cells #[.string p, .string av] 50))
                 have hB2 := Lib.hid (hB1.out.alloc hS3.out (.cells #[.string p, .string av] 50))
                 have hnew := Lib.hid (new_cells w3 #[.string p, .string av] 50)
                 have hS4 : Hid (w.heap.size + 1 + 1 ≤ (w3.alloc (.cells #[.string p, .string av] 50)).heap.size) := Lib.hid (Nat.le_trans hS3.out (by simp)))
              | (at_builtin
                 refine wpList_append_own _ rfl _ _ 22 rfl (w.heap.size + 1 + 1) 50 i50 (.agg #[.string ⟨#[]⟩, .string ⟨#[]⟩]) 2 32 Try.underlying22 ji jy0 jy1 jy2 rfl (by decide) _ m (rwL Wl) rfl ho3.out ⟨w3.heap.size, 0, none⟩ 1 1 [.string p, .string av] rfl rfl hnew.out (pair_one p av) (by unfold maxLen; omega) (by omega) hS4.out ?_
                 intro v' w4 hown' hgrow hnil'
                 obtain ⟨g', cap', rfl⟩ := own_shape hown'
                 have hO2 := Lib.hid hown'
                 have hB6 := Lib.hid (hB2.out.grown hgrow hS4.out (fun j hj => (World.ownsRow.lt ho3.out j hj).1))
                 clear hown' hgrow hnil')
              | fail)
            go_roundw
            case rel => exact ⟨k + 1, m + 1, Wl ++ [(p, av)], by go_num, by omega, by omega, Lib.hid (by rw [List.length_append, ← HW.out]; rfl), Lib.hid (by rw [rwL_app]; exact hO2.out), hB6, Lib.hid (HI.out.trans HE.out)⟩
            case measure => simp only [intOf]; omega
        · rcases skind av with ⟨s1, s2, s3⟩ | ⟨s1, s2, s3⟩ | ⟨s1, s2, s3⟩ | ⟨s1, s2, s3⟩
          · -- prefix 2, space 0
            have hok : okB p av = false := by unfold okB; rw [p1, p2, p3, s1, s2, s3]; rfl
            have u1 := eqb_xn p1
            have u2 := eqb_emp p2
            have u3 := eqb_xm p3
            have v1 := eqb_XN s1
            have v2 := eqb_emp s2
            have v3 := eqb_XS s3
            have v3' : (av.toList != [104, 116, 116, 112, 58, 47, 47, 119, 119, 119, 46, 119, 51, 46, 111, 114, 103, 47, 88, 77, 76, 47, 49, 57, 57, 56, 47, 110, 97, 109, 101, 115, 112, 97, 99, 101]) = true := by rw [bne, v3]; rfl
            have u3' : (p.toList != [120, 109, 108]) = false := by rw [bne, u3]; rfl
            have u2' : (!p.toList.isEmpty) = true := by rw [u2]; rfl
            have HE := Lib.hid (ent_b (nm := nm) (HI.out.trans (bind_stop (l := Wl) HX.out hbn hok)))
            clear hbn hok p1 p2 p3 s1 s2 s3
            go_wp2_with (first
              | (go_at_call 24; refine (CB.out _).mono ?_; rintro e w3 ⟨rfl, hb⟩
                 have x1' : w3.cell? ⟨b1, o1 + k * 2 + 1, none⟩ = some (.string av) := (hb.cell (p := ⟨b1, o1 + k * 2 + 1, none⟩) hb1).trans x1
                 have HK3 := Lib.hid (HK.out.keep hb)
                 have t1' := cells_of HK3.out.tag 1 (u := .slice (some ⟨b1, o1, none⟩) M cap2) rfl
                 have hB1 := Lib.hid (hB.out.trans (hb.mono hS.out))
                 have z0 := cells_of HK3.out.ev 0 (u := (.int .i64 0)) rfl
                 have z1 := cells_of HK3.out.ev 1 (u := (.string ⟨#[]⟩)) rfl
                 have z2 := cells_of HK3.out.ev 2 (u := (.string ⟨#[]⟩)) rfl
                 have z3 := cells_of HK3.out.ev 3 (u := (.slice none 0 0)) rfl
                 have z4 := cells_of HK3.out.ev 4 (u := (.string ⟨#[]⟩)) rfl
                 have g0 := froz_of HK3.out.ev 0
                 have g1 := froz_of HK3.out.ev 1
                 have g2 := froz_of HK3.out.ev 2
                 have g3 := froz_of HK3.out.ev 3
                 have g4 := froz_of HK3.out.ev 4)
              | fail)
            have HSr := Lib.hid (set5 HK3.out.ev (.int .i64 0) (.string ⟨#[]⟩) (.string ⟨#[]⟩) (.slice none 0 0) (.string ⟨#[]⟩))
            have r0 := cells_of HSr.out 0 (u := (.int .i64 0)) rfl
            have r1 := cells_of HSr.out 1 (u := (.string ⟨#[]⟩)) rfl
            have r2 := cells_of HSr.out 2 (u := (.string ⟨#[]⟩)) rfl
            have r3 := cells_of HSr.out 3 (u := (.slice none 0 0)) rfl
            have r4 := cells_of HSr.out 4 (u := (.string ⟨#[]⟩)) rfl
            exact bodyPost_ret (v := .tuple #[.slice none 0 0, evZ, .int .i64 9]) (by simp [results, Try.results11, go_sem, r0, r1, r2, r3, r4, evZ]) rfl (en_err HE.out rfl (bel5 HK3.out.bel (Nat.le_succ _) _ _ _ _ _))
          · -- prefix 2, space 1
            have hok : okB p av = false := by unfold okB; rw [p1, p2, p3, s1, s2, s3]; rfl
            have u1 := eqb_xn p1
            have u2 := eqb_emp p2
            have u3 := eqb_xm p3
            have v1 := eqb_XN s1
            have v2 := eqb_emp s2
            have v3 := eqb_XS s3
            have v3' : (av.toList != [104, 116, 116, 112, 58, 47, 47, 119, 119, 119, 46, 119, 51, 46, 111, 114, 103, 47, 88, 77, 76, 47, 49, 57, 57, 56, 47, 110, 97, 109, 101, 115, 112, 97, 99, 101]) = true := by rw [bne, v3]; rfl
            have u3' : (p.toList != [120, 109, 108]) = false := by rw [bne, u3]; rfl
            have u2' : (!p.toList.isEmpty) = true := by rw [u2]; rfl
            have HE := Lib.hid (ent_b (nm := nm) (HI.out.trans (bind_stop (l := Wl) HX.out hbn hok)))
            clear hbn hok p1 p2 p3 s1 s2 s3
            go_wp2_with (first
              | (go_at_call 24; refine (CB.out _).mono ?_; rintro e w3 ⟨rfl, hb⟩
                 have x1' : w3.cell? ⟨b1, o1 + k * 2 + 1, none⟩ = some (.string av) := (hb.cell (p := ⟨b1, o1 + k * 2 + 1, none⟩) hb1).trans x1
                 have HK3 := Lib.hid (HK.out.keep hb)
                 have t1' := cells_of HK3.out.tag 1 (u := .slice (some ⟨b1, o1, none⟩) M cap2) rfl
                 have hB1 := Lib.hid (hB.out.trans (hb.mono hS.out))
                 have z0 := cells_of HK3.out.ev 0 (u := (.int .i64 0)) rfl
                 have z1 := cells_of HK3.out.ev 1 (u := (.string ⟨#[]⟩)) rfl
                 have z2 := cells_of HK3.out.ev 2 (u := (.string ⟨#[]⟩)) rfl
                 have z3 := cells_of HK3.out.ev 3 (u := (.slice none 0 0)) rfl
                 have z4 := cells_of HK3.out.ev 4 (u := (.string ⟨#[]⟩)) rfl
                 have g0 := froz_of HK3.out.ev 0
                 have g1 := froz_of HK3.out.ev 1
                 have g2 := froz_of HK3.out.ev 2
                 have g3 := froz_of HK3.out.ev 3
                 have g4 := froz_of HK3.out.ev 4)
              | fail)
            have HSr := Lib.hid (set5 HK3.out.ev (.int .i64 0) (.string ⟨#[]⟩) (.string ⟨#[]⟩) (.slice none 0 0) (.string ⟨#[]⟩))
            have r0 := cells_of HSr.out 0 (u := (.int .i64 0)) rfl
            have r1 := cells_of HSr.out 1 (u := (.string ⟨#[]⟩)) rfl
            have r2 := cells_of HSr.out 2 (u := (.string ⟨#[]⟩)) rfl
            have r3 := cells_of HSr.out 3 (u := (.slice none 0 0)) rfl
            have r4 := cells_of HSr.out 4 (u := (.string ⟨#[]⟩)) rfl
            exact bodyPost_ret (v := .tuple #[.slice none 0 0, evZ, .int .i64 9]) (by simp [results, Try.results11, go_sem, r0, r1, r2, r3, r4, evZ]) rfl (en_err HE.out rfl (bel5 HK3.out.bel (Nat.le_succ _) _ _ _ _ _))
          · -- prefix 2, space 2
            have hok : okB p av = true := by unfold okB; rw [p1, p2, p3, s1, s2, s3]; rfl
            have u1 := eqb_xn p1
            have u2 := eqb_emp p2
            have u3 := eqb_xm p3
            have v1 := eqb_XN s1
            have v2 := eqb_emp s2
            have v3 := eqb_XS s3
            have v3' : (av.toList != [104, 116, 116, 112, 58, 47, 47, 119, 119, 119, 46, 119, 51, 46, 111, 114, 103, 47, 88, 77, 76, 47, 49, 57, 57, 56, 47, 110, 97, 109, 101, 115, 112, 97, 99, 101]) = false := by rw [bne, v3]; rfl
            have u3' : (p.toList != [120, 109, 108]) = false := by rw [bne, u3]; rfl
            have u2' : (!p.toList.isEmpty) = true := by rw [u2]; rfl
            have HE := Lib.hid (bind_go (l := Wl) HX.out hbn hok)
            clear hbn hok p1 p2 p3 s1 s2 s3
            go_wp2_with (first
              | (go_at_call 24; refine (CB.out _).mono ?_; rintro e w3 ⟨rfl, hb⟩
                 have x1' : w3.cell? ⟨b1, o1 + k * 2 + 1, none⟩ = some (.string av) := (hb.cell (p := ⟨b1, o1 + k * 2 + 1, none⟩) hb1).trans x1
                 have HK3 := Lib.hid (HK.out.keep hb)
                 have t1' := cells_of HK3.out.tag 1 (u := .slice (some ⟨b1, o1, none⟩) M cap2) rfl
                 have hB1 := Lib.hid (hB.out.trans (hb.mono hS.out))
                 have hS3 : Hid (w.heap.size + 1 + 1 ≤ w3.heap.size) := Lib.hid (Nat.le_trans hS.out hb.size)
                 have ho3 := Lib.hid ((own_keep hO.out hb).alloc (.cells #[.string p, .string av] 50))
                 have hB2 := Lib.hid (hB1.out.alloc hS3.out (.cells #[.string p, .string av] 50))
                 have hnew := Lib.hid (new_cells w3 #[.string p, .string av] 50)
                 have hS4 : Hid (w.heap.size + 1 + 1 ≤ (w3.alloc (.cells #[.string p, .string av] 50)).heap.size) := Lib.hid (Nat.le_trans hS3.out (by simp)))
              | (at_builtin
                 refine wpList_append_own _ rfl _ _ 22 rfl (w.heap.size + 1 + 1) 50 i50 (.agg #[.string ⟨#[]⟩, .string ⟨#[]⟩]) 2 32 Try.underlying22 ji jy0 jy1 jy2 rfl (by decide) _ m (rwL Wl) rfl ho3.out ⟨w3.heap.size, 0, none⟩ 1 1 [.string p, .string av] rfl rfl hnew.out (pair_one p av) (by unfold maxLen; omega) (by omega) hS4.out ?_
                 intro v' w4 hown' hgrow hnil'
                 obtain ⟨g', cap', rfl⟩ := own_shape hown'
                 have hO2 := Lib.hid hown'
                 have hB6 := Lib.hid (hB2.out.grown hgrow hS4.out (fun j hj => (World.ownsRow.lt ho3.out j hj).1))
                 clear hown' hgrow hnil')
              | fail)
            go_roundw
            case rel => exact ⟨k + 1, m + 1, Wl ++ [(p, av)], by go_num, by omega, by omega, Lib.hid (by rw [List.length_append, ← HW.out]; rfl), Lib.hid (by rw [rwL_app]; exact hO2.out), hB6, Lib.hid (HI.out.trans HE.out)⟩
            case measure => simp only [intOf]; omega
          · -- prefix 2, space 3
            have hok : okB p av = false := by unfold okB; rw [p1, p2, p3, s1, s2, s3]; rfl
            have u1 := eqb_xn p1
            have u2 := eqb_emp p2
            have u3 := eqb_xm p3
            have v1 := eqb_XN s1
            have v2 := eqb_emp s2
            have v3 := eqb_XS s3
            have v3' : (av.toList != [104, 116, 116, 112, 58, 47, 47, 119, 119, 119, 46, 119, 51, 46, 111, 114, 103, 47, 88, 77, 76, 47, 49, 57, 57, 56, 47, 110, 97, 109, 101, 115, 112, 97, 99, 101]) = true := by rw [bne, v3]; rfl
            have u3' : (p.toList != [120, 109, 108]) = false := by rw [bne, u3]; rfl
            have u2' : (!p.toList.isEmpty) = true := by rw [u2]; rfl
            have HE := Lib.hid (ent_b (nm := nm) (HI.out.trans (bind_stop (l := Wl) HX.out hbn hok)))
            clear hbn hok p1 p2 p3 s1 s2 s3
            go_wp2_with (first
              | (go_at_call 24; refine (CB.out _).mono ?_; rintro e w3 ⟨rfl, hb⟩
                 have x1' : w3.cell? ⟨b1, o1 + k * 2 + 1, none⟩ = some (.string av) := (hb.cell (p := ⟨b1, o1 + k * 2 + 1, none⟩) hb1).trans x1
                 have HK3 := Lib.hid (HK.out.keep hb)
                 have t1' := cells_of HK3.out.tag 1 (u := .slice (some ⟨b1, o1, none⟩) M cap2) rfl
                 have hB1 := Lib.hid (hB.out.trans (hb.mono hS.out))
                 have z0 := cells_of HK3.out.ev 0 (u := (.int .i64 0)) rfl
                 have z1 := cells_of HK3.out.ev 1 (u := (.string ⟨#[]⟩)) rfl
                 have z2 := cells_of HK3.out.ev 2 (u := (.string ⟨#[]⟩)) rfl
                 have z3 := cells_of HK3.out.ev 3 (u := (.slice none 0 0)) rfl
                 have z4 := cells_of HK3.out.ev 4 (u := (.string ⟨#[]⟩)) rfl
                 have g0 := froz_of HK3.out.ev 0
                 have g1 := froz_of HK3.out.ev 1
                 have g2 := froz_of HK3.out.ev 2
                 have g3 := froz_of HK3.out.ev 3
                 have g4 := froz_of HK3.out.ev 4)
              | fail)
            have HSr := Lib.hid (set5 HK3.out.ev (.int .i64 0) (.string ⟨#[]⟩) (.string ⟨#[]⟩) (.slice none 0 0) (.string ⟨#[]⟩))
            have r0 := cells_of HSr.out 0 (u := (.int .i64 0)) rfl
            have r1 := cells_of HSr.out 1 (u := (.string ⟨#[]⟩)) rfl
            have r2 := cells_of HSr.out 2 (u := (.string ⟨#[]⟩)) rfl
            have r3 := cells_of HSr.out 3 (u := (.slice none 0 0)) rfl
            have r4 := cells_of HSr.out 4 (u := (.string ⟨#[]⟩)) rfl
            exact bodyPost_ret (v := .tuple #[.slice none 0 0, evZ, .int .i64 9]) (by simp [results, Try.results11, go_sem, r0, r1, r2, r3, r4, evZ]) rfl (en_err HE.out rfl (bel5 HK3.out.bel (Nat.le_succ _) _ _ _ _ _))
        · rcases skind av with ⟨s1, s2, s3⟩ | ⟨s1, s2, s3⟩ | ⟨s1, s2, s3⟩ | ⟨s1, s2, s3⟩
          · -- prefix 3, space 0
            have hok : okB p av = false := by unfold okB; rw [p1, p2, p3, s1, s2, s3]; rfl
            have u1 := eqb_xn p1
            have u2 := eqb_emp p2
            have u3 := eqb_xm p3
            have v1 := eqb_XN s1
            have v2 := eqb_emp s2
            have v3 := eqb_XS s3
            have v3' : (av.toList != [104, 116, 116, 112, 58, 47, 47, 119, 119, 119, 46, 119, 51, 46, 111, 114, 103, 47, 88, 77, 76, 47, 49, 57, 57, 56, 47, 110, 97, 109, 101, 115, 112, 97, 99, 101]) = true := by rw [bne, v3]; rfl
            have u3' : (p.toList != [120, 109, 108]) = true := by rw [bne, u3]; rfl
            have u2' : (!p.toList.isEmpty) = true := by rw [u2]; rfl
            have HE := Lib.hid (ent_b (nm := nm) (HI.out.trans (bind_stop (l := Wl) HX.out hbn hok)))
            clear hbn hok p1 p2 p3 s1 s2 s3
            go_wp2_with (first
              | (go_at_call 24; refine (CB.out _).mono ?_; rintro e w3 ⟨rfl, hb⟩
                 have x1' : w3.cell? ⟨b1, o1 + k * 2 + 1, none⟩ = some (.string av) := (hb.cell (p := ⟨b1, o1 + k * 2 + 1, none⟩) hb1).trans x1
                 have HK3 := Lib.hid (HK.out.keep hb)
                 have t1' := cells_of HK3.out.tag 1 (u := .slice (some ⟨b1, o1, none⟩) M cap2) rfl
                 have hB1 := Lib.hid (hB.out.trans (hb.mono hS.out))
                 have z0 := cells_of HK3.out.ev 0 (u := (.int .i64 0)) rfl
                 have z1 := cells_of HK3.out.ev 1 (u := (.string ⟨#[]⟩)) rfl
                 have z2 := cells_of HK3.out.ev 2 (u := (.string ⟨#[]⟩)) rfl
                 have z3 := cells_of HK3.out.ev 3 (u := (.slice none 0 0)) rfl
                 have z4 := cells_of HK3.out.ev 4 (u := (.string ⟨#[]⟩)) rfl
                 have g0 := froz_of HK3.out.ev 0
                 have g1 := froz_of HK3.out.ev 1
                 have g2 := froz_of HK3.out.ev 2
                 have g3 := froz_of HK3.out.ev 3
                 have g4 := froz_of HK3.out.ev 4)
              | fail)
            have HSr := Lib.hid (set5 HK3.out.ev (.int .i64 0) (.string ⟨#[]⟩) (.string ⟨#[]⟩) (.slice none 0 0) (.string ⟨#[]⟩))
            have r0 := cells_of HSr.out 0 (u := (.int .i64 0)) rfl
            have r1 := cells_of HSr.out 1 (u := (.string ⟨#[]⟩)) rfl
            have r2 := cells_of HSr.out 2 (u := (.string ⟨#[]⟩)) rfl
            have r3 := cells_of HSr.out 3 (u := (.slice none 0 0)) rfl
            have r4 := cells_of HSr.out 4 (u := (.string ⟨#[]⟩)) rfl
            exact bodyPost_ret (v := .tuple #[.slice none 0 0, evZ, .int .i64 9]) (by simp [results, Try.results11, go_sem, r0, r1, r2, r3, r4, evZ]) rfl (en_err HE.out rfl (bel5 HK3.out.bel (Nat.le_succ _) _ _ _ _ _))
          · -- prefix 3, space 1
            have hok : okB p av = false := by unfold okB; rw [p1, p2, p3, s1, s2, s3]; rfl
            have u1 := eqb_xn p1
            have u2 := eqb_emp p2
            have u3 := eqb_xm p3
            have v1 := eqb_XN s1
            have v2 := eqb_emp s2
            have v3 := eqb_XS s3
            have v3' : (av.toList != [104, 116, 116, 112, 58, 47, 47, 119, 119, 119, 46, 119, 51, 46, 111, 114, 103, 47, 88, 77, 76, 47, 49, 57, 57, 56, 47, 110, 97, 109, 101, 115, 112, 97, 99, 101]) = true := by rw [bne, v3]; rfl
            have u3' : (p.toList != [120, 109, 108]) = true := by rw [bne, u3]; rfl
            have u2' : (!p.toList.isEmpty) = true := by rw [u2]; rfl
            have HE := Lib.hid (ent_b (nm := nm) (HI.out.trans (bind_stop (l := Wl) HX.out hbn hok)))
            clear hbn hok p1 p2 p3 s1 s2 s3
            go_wp2_with (first
              | (go_at_call 24; refine (CB.out _).mono ?_; rintro e w3 ⟨rfl, hb⟩
                 have x1' : w3.cell? ⟨b1, o1 + k * 2 + 1, none⟩ = some (.string av) := (hb.cell (p := ⟨b1, o1 + k * 2 + 1, none⟩) hb1).trans x1
                 have HK3 := Lib.hid (HK.out.keep hb)
                 have t1' := cells_of HK3.out.tag 1 (u := .slice (some ⟨b1, o1, none⟩) M cap2) rfl
                 have hB1 := Lib.hid (hB.out.trans (hb.mono hS.out))
                 have z0 := cells_of HK3.out.ev 0 (u := (.int .i64 0)) rfl
                 have z1 := cells_of HK3.out.ev 1 (u := (.string ⟨#[]⟩)) rfl
                 have z2 := cells_of HK3.out.ev 2 (u := (.string ⟨#[]⟩)) rfl
                 have z3 := cells_of HK3.out.ev 3 (u := (.slice none 0 0)) rfl
                 have z4 := cells_of HK3.out.ev 4 (u := (.string ⟨#[]⟩)) rfl
                 have g0 := froz_of HK3.out.ev 0
                 have g1 := froz_of HK3.out.ev 1
                 have g2 := froz_of HK3.out.ev 2
                 have g3 := froz_of HK3.out.ev 3
                 have g4 := froz_of HK3.out.ev 4)
              | fail)
            have HSr := Lib.hid (set5 HK3.out.ev (.int .i64 0) (.string ⟨#[]⟩) (.string ⟨#[]⟩) (.slice none 0 0) (.string ⟨#[]⟩))
            have r0 := cells_of HSr.out 0 (u := (.int .i64 0)) rfl
            have r1 := cells_of HSr.out 1 (u := (.string ⟨#[]⟩)) rfl
            have r2 := cells_of HSr.out 2 (u := (.string ⟨#[]⟩)) rfl
            have r3 := cells_of HSr.out 3 (u := (.slice none 0 0)) rfl
            have r4 := cells_of HSr.out 4 (u := (.string ⟨#[]⟩)) rfl
            exact bodyPost_ret (v := .tuple #[.slice none 0 0, evZ, .int .i64 9]) (by simp [results, Try.results11, go_sem, r0, r1, r2, r3, r4, evZ]) rfl (en_err HE.out rfl (bel5 HK3.out.bel (Nat.le_succ _) _ _ _ _ _))
          · -- prefix 3, space 2
            have hok : okB p av = false := by unfold okB; rw [p1, p2, p3, s1, s2, s3]; rfl
            have u1 := eqb_xn p1
            have u2 := eqb_emp p2
            have u3 := eqb_xm p3
            have v1 := eqb_XN s1
            have v2 := eqb_emp s2
            have v3 := eqb_XS s3
            have v3' : (av.toList != [104, 116, 116, 112, 58, 47, 47, 119, 119, 119, 46, 119, 51, 46, 111, 114, 103, 47, 88, 77, 76, 47, 49, 57, 57, 56, 47, 110, 97, 109, 101, 115, 112, 97, 99, 101]) = false := by rw [bne, v3]; rfl
            have u3' : (p.toList != [120, 109, 108]) = true := by rw [bne, u3]; rfl
            have u2' : (!p.toList.isEmpty) = true := by rw [u2]; rfl
            have HE := Lib.hid (ent_b (nm := nm) (HI.out.trans (bind_stop (l := Wl) HX.out hbn hok)))
            clear hbn hok p1 p2 p3 s1 s2 s3
            go_wp2_with (first
              | (go_at_call 24; refine (CB.out _).mono ?_; rintro e w3 ⟨rfl, hb⟩
                 have x1' : w3.cell? ⟨b1, o1 + k * 2 + 1, none⟩ = some (.string av) := (hb.cell (p := ⟨b1, o1 + k * 2 + 1, none⟩) hb1).trans x1
                 have HK3 := Lib.hid (HK.out.keep hb)
                 have t1' := cells_of HK3.out.tag 1 (u := .slice (some ⟨b1, o1, none⟩) M cap2) rfl
                 have hB1 := Lib.hid (hB.out.trans (hb.mono hS.out))
                 have z0 := cells_of HK3.out.ev 0 (u := (.int .i64 0)) rfl
                 have z1 := cells_of HK3.out.ev 1 (u := (.string ⟨#[]⟩)) rfl
                 have z2 := cells_of HK3.out.ev 2 (u := (.string ⟨#[]⟩)) rfl
                 have z3 := cells_of HK3.out.ev 3 (u := (.slice none 0 0)) rfl
                 have z4 := cells_of HK3.out.ev 4 (u := (.string ⟨#[]⟩)) rfl
                 have g0 := froz_of HK3.out.ev 0
                 have g1 := froz_of HK3.out.ev 1
                 have g2 := froz_of HK3.out.ev 2
                 have g3 := froz_of HK3.out.ev 3
                 have g4 := froz_of HK3.out.ev 4)
              | fail)
            have HSr := Lib.hid (set5 HK3.out.ev (.int .i64 0) (.string ⟨#[]⟩) (.string ⟨#[]⟩) (.slice none 0 0) (.string ⟨#[]⟩))
            have r0 := cells_of HSr.out 0 (u := (.int .i64 0)) rfl
            have r1 := cells_of HSr.out 1 (u := (.string ⟨#[]⟩)) rfl
            have r2 := cells_of HSr.out 2 (u := (.string ⟨#[]⟩)) rfl
            have r3 := cells_of HSr.out 3 (u := (.slice none 0 0)) rfl
            have r4 := cells_of HSr.out 4 (u := (.string ⟨#[]⟩)) rfl
            exact bodyPost_ret (v := .tuple #[.slice none 0 0, evZ, .int .i64 9]) (by simp [results, Try.results11, go_sem, r0, r1, r2, r3, r4, evZ]) rfl (en_err HE.out rfl (bel5 HK3.out.bel (Nat.le_succ _) _ _ _ _ _))
          · -- prefix 3, space 3
            have hok : okB p av = true := by unfold okB; rw [p1, p2, p3, s1, s2, s3]; rfl
            have u1 := eqb_xn p1
            have u2 := eqb_emp p2
            have u3 := eqb_xm p3
            have v1 := eqb_XN s1
            have v2 := eqb_emp s2
            have v3 := eqb_XS s3
            have v3' : (av.toList != [104, 116, 116, 112, 58, 47, 47, 119, 119, 119, 46, 119, 51, 46, 111, 114, 103, 47, 88, 77, 76, 47, 49, 57, 57, 56, 47, 110, 97, 109, 101, 115, 112, 97, 99, 101]) = true := by rw [bne, v3]; rfl
            have u3' : (p.toList != [120, 109, 108]) = true := by rw [bne, u3]; rfl
            have u2' : (!p.toList.isEmpty) = true := by rw [u2]; rfl
            have HE := Lib.hid (bind_go (l := Wl) HX.out hbn hok)
            clear hbn hok p1 p2 p3 s1 s2 s3
            go_wp2_with (first
              | (go_at_call 24; refine (CB.out _).mono ?_; rintro e w3 ⟨rfl, hb⟩
                 have x1' : w3.cell? ⟨b1, o1 + k * 2 + 1, none⟩ = some (.string av) := (hb.cell (p := ⟨b1, o1 + k * 2 + 1, none⟩) hb1).trans x1
                 have HK3 := Lib.hid (HK.out.keep hb)
                 have t1' := cells_of HK3.out.tag 1 (u := .slice (some ⟨b1, o1, none⟩) M cap2) rfl
                 have hB1 := Lib.hid (hB.out.trans (hb.mono hS.out))
                 have hS3 : Hid (w.heap.size + 1 + 1 ≤ w3.heap.size) := Lib.hid (Nat.le_trans hS.out hb.size)
                 have ho3 := Lib.hid ((own_keep hO.out hb).alloc (.cells #[.string p, .string av] 50))
                 have hB2 := Lib.hid (hB1.out.alloc hS3.out (.cells #[.string p, .string av] 50))
                 have hnew := Lib.hid (new_cells w3 #[.string p, .string av] 50)
                 have hS4 : Hid (w.heap.size + 1 + 1 ≤ (w3.alloc (.cells #[.string p, .string av] 50)).heap.size) := Lib.hid (Nat.le_trans hS3.out (by simp)))
              | (at_builtin
                 refine wpList_append_own _ rfl _ _ 22 rfl (w.heap.size + 1 + 1) 50 i50 (.agg #[.string ⟨#[]⟩, .string ⟨#[]⟩]) 2 32 Try.underlying22 ji jy0 jy1 jy2 rfl (by decide) _ m (rwL Wl) rfl ho3.out ⟨w3.heap.size, 0, none⟩ 1 1 [.string p, .string av] rfl rfl hnew.out (pair_one p av) (by unfold maxLen; omega) (by omega) hS4.out ?_
                 intro v' w4 hown' hgrow hnil'
                 obtain ⟨g', cap', rfl⟩ := own_shape hown'
                 have hO2 := Lib.hid hown'
                 have hB6 := Lib.hid (hB2.out.grown hgrow hS4.out (fun j hj => (World.ownsRow.lt ho3.out j hj).1))
                 clear hown' hgrow hnil')
              | fail)
            go_roundw
            case rel => exact ⟨k + 1, m + 1, Wl ++ [(p, av)], by go_num, by omega, by omega, Lib.hid (by rw [List.length_append, ← HW.out]; rfl), Lib.hid (by rw [rwL_app]; exact hO2.out), hB6, Lib.hid (HI.out.trans HE.out)⟩
            case measure => simp only [intOf]; omega
    · have d1 : ¬ (k : Int) < (M : Int) := by omega
      have HBd : Hid (bindF L R = some Wl) := Lib.hid (by rw [HI.out, List.drop_of_length_le (by rw [← HM.out]; omega)]; rfl)
      have HOW : Hid (OwnP 50 wr (w.heap.size + 1 + 1) (.slice A1 m c1) Wl) := Lib.hid (by unfold OwnP; rw [← HW.out]; exact hO.out)
      obtain ⟨Ay, cy, ey, hrw⟩ := own_rdR' HOW.out HW.out
      injection ey with ey1 ey2 ey3
      rw [← ey1] at hrw
      have HRW := Lib.hid hrw
      have HRR := Lib.hid (en0_rd hB.out HEn.out.hR2)
      have hm2 : m ≤ 2000 := by omega
      have t0 := cells_of HK.out.tag 0 (u := .string nm) rfl
      have HCR := Lib.hid (fun (s : ByteArray) (el : Bool) (hs : s.size ≤ 1000) (W : World) (hW : Below wr.heap.size wr W) => rresolve_any A1 m c1 s el Wl W HW.out (by omega) (HRW.out.keep hW) hs)
      have hnms := HEn.out.hm
      have hSW : Hid (w.heap.size + 1 + 1 ≤ wr.heap.size) := hS
      clear ey1 ey2 ey3 hrw hlt hk hm HI hO hB
      have HNm := Lib.hid (HCR.out nm true hnms)
      rw [rsv_nam] at HNm
      cases hn : namF Wl nm with
      | none =>
        rw [hn] at HNm
        have HE := Lib.hid (ent_n HBd.out hn)
        clear hn hnms HCR
        go_wp2_with (first
          | (go_at_call 17; refine (HNm.out _ (Below.refl _ _)).mono ?_; rintro e w3 ⟨⟨xa, xb⟩, rfl, -, hb⟩
             have HK4 := Lib.hid ((HK.out.keep hb).keep ((Below.refl _ w3).alloc (Nat.le_refl _) (.cells #[.string xa, .string xb] 29)))
             have z0 := cells_of HK4.out.ev 0 (u := (.int .i64 0)) rfl
             have z1 := cells_of HK4.out.ev 1 (u := (.string ⟨#[]⟩)) rfl
             have z2 := cells_of HK4.out.ev 2 (u := (.string ⟨#[]⟩)) rfl
             have z3 := cells_of HK4.out.ev 3 (u := (.slice none 0 0)) rfl
             have z4 := cells_of HK4.out.ev 4 (u := (.string ⟨#[]⟩)) rfl
             have g0 := froz_of HK4.out.ev 0
             have g1 := froz_of HK4.out.ev 1
             have g2 := froz_of HK4.out.ev 2
             have g3 := froz_of HK4.out.ev 3
             have g4 := froz_of HK4.out.ev 4)
          | fail)
        have HSr := Lib.hid (set5 HK4.out.ev (.int .i64 0) (.string ⟨#[]⟩) (.string ⟨#[]⟩) (.slice none 0 0) (.string ⟨#[]⟩))
        have r0 := cells_of HSr.out 0 (u := (.int .i64 0)) rfl
        have r1 := cells_of HSr.out 1 (u := (.string ⟨#[]⟩)) rfl
        have r2 := cells_of HSr.out 2 (u := (.string ⟨#[]⟩)) rfl
        have r3 := cells_of HSr.out 3 (u := (.slice none 0 0)) rfl
        have r4 := cells_of HSr.out 4 (u := (.string ⟨#[]⟩)) rfl
        exact bodyPost_ret (v := .tuple #[.slice none 0 0, evZ, .int .i64 9]) (by simp [results, Try.results11, go_sem, r0, r1, r2, r3, r4, evZ]) rfl (en_err HE.out rfl (bel5 HK4.out.bel (Nat.le_succ _) _ _ _ _ _))
      | some n =>
        obtain ⟨na, nb⟩ := n
        rw [hn] at HNm
        have HNn := Lib.hid hn
        clear hn hnms
        go_wp2_with (first
          | (go_at_call 17; refine (HNm.out _ (Below.refl _ _)).mono ?_; rintro e w3 ⟨x, rfl, hx, hb⟩
             obtain rfl := hx _ rfl
             clear hx
             have HK4 := Lib.hid ((HK.out.keep hb).keep ((Below.refl _ w3).alloc (Nat.le_refl _) (.cells #[.string na, .string nb] 29)))
             have HBr := Lib.hid (hb.alloc hb.size (.cells #[.string na, .string nb] 29))
             have HEb := Lib.hid (nblk (w3.alloc (.cells #[.string na, .string nb] 29)) 32 #[.int .i64 1, .string na, .string nb, .slice none 0 0, .string ⟨#[]⟩])
             have HBb := Lib.hid ((Below.refl (w3.alloc (.cells #[.string na, .string nb] 29)).heap.size (w3.alloc (.cells #[.string na, .string nb] 29))).alloc (Nat.le_refl _) (.cells #[.int .i64 1, .string na, .string nb, .slice none 0 0, .string ⟨#[]⟩] 32))
             have HSb : Hid (w3.heap.size + 1 + 1 ≤ ((w3.alloc (.cells #[.string na, .string nb] 29)).alloc (.cells #[.int .i64 1, .string na, .string nb, .slice none 0 0, .string ⟨#[]⟩] 32)).heap.size) := Lib.hid (by simp)
             have HZ4 : Hid ((w3.alloc (.cells #[.string na, .string nb] 29)).heap.size = w3.heap.size + 1) := Lib.hid (by simp)
             rw [World.size_alloc] at HEb HBb
             clear hb)
          | fail)
        clear HNm t0 t1
        generalize w3.alloc (.cells #[.string na, .string nb] 29) = W4 at *
        generalize w3.heap.size + 1 = be at *
        have hwbe : w.heap.size + 1 < be := by have := HK4.out.lt; rw [HZ4.out] at this; exact this
        go_loopw [16] (fun i wr => DcRel Wl R M be W4 na nb i wr) (fun i _ => M - (intOf i).toNat)
        case atStart => exact ⟨0, 0, [], .slice none 0 0, rfl, Nat.zero_le _, Nat.le_refl _, Lib.hid rfl, Lib.hid ⟨by simp [tL], .inl ⟨rfl, rfl⟩⟩, HEb, HBb, HSb, Lib.hid rfl⟩
        case round =>
          clear HEb HBb HSb
          have HWr := Lib.hid (RdR.keep HRW.out HBr.out)
          have HOWr := Lib.hid (own_keep HOW.out HBr.out)
          have HCR4 := Lib.hid (fun (s : ByteArray) (el : Bool) (hs : s.size ≤ 1000) (W : World) (hW : Below W4.heap.size W4 W) => HCR.out s el hs W (HBr.out.trans (hW.mono HBr.out.size)))
          have HRR4 := Lib.hid (HRR.out.keep HBr.out)
          clear HRW HOW HCR HRR HBr HK hS hSW
          obtain ⟨k2, m2, f, va, rfl, hk, hm, HF, hO, hEv, hB, hS, HI⟩ := hrel
          obtain ⟨Aa, ca, rfl⟩ := own_slice hO.out
          have hB4 : Hid (Below W4.heap.size W4 wr) := Lib.hid (by rw [HZ4.out]; exact hB.out)
          have HK := Lib.hid (HK4.out.keep hB4.out)
          have t1 := cells_of HK.out.tag 1 (u := .slice A2 M cap2) rfl
          by_cases hlt : k2 < M
          · have hkl : k2 < R.length := by rw [← HM.out]; exact hlt
            have hx := List.getElem?_eq_getElem hkl
            obtain ⟨b1, o1, rfl, hb1, x0, x1⟩ := HRR4.out k2 _ hx
            replace x0 := cell_low x0 hb1 hB4.out
            replace x1 := cell_low x1 hb1 hB4.out
            have hb1e : b1 < be := by rw [HZ4.out] at hb1; exact hb1
            replace hb1 : b1 < wr.heap.size := Nat.lt_of_lt_of_le hb1 hB4.out.size
            have hs := HEn.out.hsz _ (List.getElem_mem hkl)
            have hri := HRi.out _ (List.getElem_mem hkl)
            have HX := Lib.hid hx
            have d1 : (k2 : Int) < (M : Int) := by omega
            have d0 : (0 : Int) ≤ (k2 : Int) := by omega
            clear hx hlt
            generalize R[k2] = t at *
            obtain ⟨an, av⟩ := t
            dsimp only at x0 x1 hs hri
            cases hbn : bndF an with
            | some p =>
              have CB := Lib.hid (bds_some (v := av) hs hri hbn)
              have HE := Lib.hid (att_skip (L := Wl) (f := f) HX.out hbn)
              clear hbn hs hri
              go_wp2_with (go_at_call 24; refine (CB.out _).mono ?_; rintro e w6 ⟨rfl, hb⟩)
              go_roundw
              case rel => exact ⟨k2 + 1, m2, f, .slice Aa m2 ca, by go_num, by omega, by omega, HF, Lib.hid (own_keep hO.out hb), Lib.hid ((hb.block be hS.out).trans hEv.out), Lib.hid (hB.out.trans (hb.mono (Nat.le_of_succ_le hS.out))), Lib.hid (Nat.le_trans hS.out hb.size), Lib.hid (HI.out.trans HE.out)⟩
              case measure => simp only [intOf]; omega
            | none =>
              have CB := Lib.hid (bds_none (v := av) hs hri hbn)
              have CR := Lib.hid (HCR4.out an false hs)
              rw [rsv_atn] at CR
              cases hat : atnF Wl an with
              | none =>
                rw [hat] at CR
                have HE := Lib.hid (ent_a HBd.out HNn.out (HI.out.trans (att_nine (f := f) HX.out hbn hat)))
                clear hbn hs hri hat
                go_wp2_with (first
                  | (go_at_call 24; refine (CB.out _).mono ?_; rintro e w6 ⟨rfl, hb⟩
                     have x0' : w6.cell? ⟨b1, o1 + k2 * 2, none⟩ = some (.string an) := (hb.cell (p := ⟨b1, o1 + k2 * 2, none⟩) hb1).trans x0
                     have HK6 := Lib.hid (HK.out.keep hb)
                     have HB6 := Lib.hid (hB4.out.trans (hb.mono hB4.out.size))
                     have t1' := cells_of HK6.out.tag 1 (u := .slice (some ⟨b1, o1, none⟩) M cap2) rfl)
                  | (go_at_call 17; refine (CR.out _ HB6.out).mono ?_; rintro e w7 ⟨⟨xa, xb⟩, rfl, -, hb7⟩
                     have HK7 := Lib.hid ((HK6.out.keep hb7).keep ((Below.refl _ w7).alloc (Nat.le_refl _) (.cells #[.string xa, .string xb] 29)))
                     have z0 := cells_of HK7.out.ev 0 (u := (.int .i64 0)) rfl
                     have z1 := cells_of HK7.out.ev 1 (u := (.string ⟨#[]⟩)) rfl
                     have z2 := cells_of HK7.out.ev 2 (u := (.string ⟨#[]⟩)) rfl
                     have z3 := cells_of HK7.out.ev 3 (u := (.slice none 0 0)) rfl
                     have z4 := cells_of HK7.out.ev 4 (u := (.string ⟨#[]⟩)) rfl
                     have g0 := froz_of HK7.out.ev 0
                     have g1 := froz_of HK7.out.ev 1
                     have g2 := froz_of HK7.out.ev 2
                     have g3 := froz_of HK7.out.ev 3
                     have g4 := froz_of HK7.out.ev 4)
                  | fail)
                have HSr := Lib.hid (set5 HK7.out.ev (.int .i64 0) (.string ⟨#[]⟩) (.string ⟨#[]⟩) (.slice none 0 0) (.string ⟨#[]⟩))
                have r0 := cells_of HSr.out 0 (u := (.int .i64 0)) rfl
                have r1 := cells_of HSr.out 1 (u := (.string ⟨#[]⟩)) rfl
                have r2 := cells_of HSr.out 2 (u := (.string ⟨#[]⟩)) rfl
                have r3 := cells_of HSr.out 3 (u := (.slice none 0 0)) rfl
                have r4 := cells_of HSr.out 4 (u := (.string ⟨#[]⟩)) rfl
                exact bodyPost_ret (v := .tuple #[.slice none 0 0, evZ, .int .i64 9]) (by simp [results, Try.results11, go_sem, r0, r1, r2, r3, r4, evZ]) rfl (en_err HE.out rfl (bel5 HK7.out.bel (Nat.le_succ _) _ _ _ _ _))
              | some n =>
                obtain ⟨xa, xb⟩ := n
                rw [hat] at CR
                have HAt := Lib.hid hat
                have HBn := Lib.hid hbn
                clear hbn hs hri hat
                go_wp2_with (first
                  | (go_at_call 24; refine (CB.out _).mono ?_; rintro e w6 ⟨rfl, hb⟩
                     have x0' : w6.cell? ⟨b1, o1 + k2 * 2, none⟩ = some (.string an) := (hb.cell (p := ⟨b1, o1 + k2 * 2, none⟩) hb1).trans x0
                     have x1' : w6.cell? ⟨b1, o1 + k2 * 2 + 1, none⟩ = some (.string av) := (hb.cell (p := ⟨b1, o1 + k2 * 2 + 1, none⟩) hb1).trans x1
                     have hb16 : b1 < w6.heap.size := Nat.lt_of_lt_of_le hb1 hb.size
                     have HK6 := Lib.hid (HK.out.keep hb)
                     have HB6 := Lib.hid (hB4.out.trans (hb.mono hB4.out.size))
                     have HO6 := Lib.hid (own_keep hO.out hb)
                     have HE6 := Lib.hid ((hb.block be hS.out).trans hEv.out)
                     have hS6 : Hid (be + 1 ≤ w6.heap.size) := Lib.hid (Nat.le_trans hS.out hb.size)
                     have t1' := cells_of HK6.out.tag 1 (u := .slice (some ⟨b1, o1, none⟩) M cap2) rfl)
                  | (go_at_call 17; refine (CR.out _ HB6.out).mono ?_; rintro e w7 ⟨x, rfl, hx7, hb7⟩
                     obtain rfl := hx7 _ rfl
                     have Ba8 := (Below.refl w7.heap.size w7).alloc (Nat.le_refl _) (.cells #[.string xa, .string xb] 29)
                     have HK8 := Lib.hid ((HK6.out.keep hb7).keep Ba8)
                     have HB8 := Lib.hid ((HB6.out.trans (hb7.mono HB6.out.size)).alloc (Nat.le_trans HB6.out.size hb7.size) (.cells #[.string xa, .string xb] 29))
                     have HO8 := Lib.hid (own_keep (own_keep HO6.out hb7) Ba8)
                     have HE8 := Lib.hid ((Ba8.block be (Nat.lt_of_lt_of_le hS6.out hb7.size)).trans ((hb7.block be hS6.out).trans HE6.out))
                     have hS8 : Hid (be + 1 ≤ (w7.alloc (.cells #[.string xa, .string xb] 29)).heap.size) := Lib.hid (Nat.le_trans hS6.out (Nat.le_trans hb7.size (by simp)))
                     have HA8 := Lib.hid (nblk w7 29 #[.string xa, .string xb])
                     have hba8 : w7.heap.size < (w7.alloc (.cells #[.string xa, .string xb] 29)).heap.size := by simp
                     have X8 : Hid ((w7.alloc (.cells #[.string xa, .string xb] 29)).cell? ⟨b1, o1 + k2 * 2 + 1, none⟩ = some (.string av)) := Lib.hid (cell_low (cell_low x1' hb16 hb7) (Nat.lt_of_lt_of_le hb16 hb7.size) Ba8)
                     have hb18 : b1 < (w7.alloc (.cells #[.string xa, .string xb] 29)).heap.size := Nat.lt_of_lt_of_le hb16 (Nat.le_trans hb7.size (by simp))
                     have hbe7 : be < w7.heap.size := Nat.lt_of_lt_of_le hS6.out hb7.size
                     clear hx7 hb7 Ba8)
                  | fail)
                clear t1 t1' x0 x0' x1 x1' CB CR HK6 HB6 HO6 HE6 hS6 hB hB4 hO hEv hS HK hb1 hb16
                generalize w7.alloc (.cells #[.string xa, .string xb] 29) = W8 at *
                generalize w7.heap.size = ba at *
                have hl2 : m2 ≤ 1000 := by omega
                obtain ⟨Az, cz, ez, hrz⟩ := own_rdT' (n := m2) (l := f) (by unfold OwnT; rw [← HF.out]; exact HO8.out) HF.out
                injection ez with ez1 ez2 ez3
                rw [← ez1] at hrz
                have HRT := Lib.hid hrz
                clear ez1 ez2 ez3 hrz
                go_loopw [21] (fun i wq => DiRel m2 f xa xb W8 i wq) (fun i _ => m2 - (intOf i).toNat)
                case atStart =>
                  exact ⟨0, rfl, Nat.zero_le _, Lib.hid (Below.refl _ _), Lib.hid (fun t y ht => absurd ht (Nat.not_lt_zero _))⟩
                case round =>
                  obtain ⟨j, rfl, hj, hQ, hNo⟩ := hrel
                  have HKq := Lib.hid (HK8.out.keep hQ.out)
                  have HEq := Lib.hid ((hQ.out.block be hS8.out).trans HE8.out)
                  have HAq := Lib.hid ((hQ.out.block ba hba8).trans HA8.out)
                  have e3 := cells_of HEq.out 3 (u := .slice Aa m2 ca) rfl
                  have a0 := cells_of HAq.out 0 (u := .string xa) rfl
                  have a1 := cells_of HAq.out 1 (u := .string xb) rfl
                  by_cases hjl : j < m2
                  · have hjf : j < f.length := by rw [← HF.out]; exact hjl
                    have hy := List.getElem?_eq_getElem hjf
                    obtain ⟨b3, o3, rfl, hb3, y0, y1, y2⟩ := (HRT.out.keep hQ.out) j _ hy
                    have HY := Lib.hid hy
                    have dj : (j : Int) < (m2 : Int) := by omega
                    have dj0 : (0 : Int) ≤ (j : Int) := by omega
                    clear hy
                    generalize f[j] = y at *
                    obtain ⟨⟨fa, fb⟩, fv⟩ := y
                    dsimp only at y0 y1 y2
                    cases qa : eqb fa xa with
                    | false =>
                      have qa' : (fa.toList == xa.toList) = false := qa
                      have HNo2 : Hid (∀ (t : Nat) (y : P3), t < j + 1 → f[t]? = some y → (eqb y.1.1 xa && eqb y.1.2 xb) = false) := Lib.hid (fun t y ht hty => by
                        rcases Nat.lt_or_ge t j with h | h
                        · exact hNo.out t y h hty
                        · obtain rfl : t = j := by omega
                          rw [HY.out] at hty
                          injection hty with hty
                          rw [← hty]
                          show (eqb fa xa && eqb fb xb) = false
                          rw [qa]; rfl)
                      clear qa hNo
                      go_wp2_with fail
                      go_quiet (fail)
                      go_wp2
                      go_roundw
                      case rel => exact ⟨j + 1, by go_num, by omega, Lib.hid (below_drewN hQ.out _), HNo2⟩
                      case measure => simp only [intOf]; omega
                    | true =>
                      have qa' : (fa.toList == xa.toList) = true := qa
                      cases qb : eqb fb xb with
                      | false =>
                        have qb' : (fb.toList == xb.toList) = false := qb
                        have HNo2 : Hid (∀ (t : Nat) (y : P3), t < j + 1 → f[t]? = some y → (eqb y.1.1 xa && eqb y.1.2 xb) = false) := Lib.hid (fun t y ht hty => by
                          rcases Nat.lt_or_ge t j with h | h
                          · exact hNo.out t y h hty
                          · obtain rfl : t = j := by omega
                            rw [HY.out] at hty
                            injection hty with hty
                            rw [← hty]
                            show (eqb fa xa && eqb fb xb) = false
                            rw [qa, qb]; rfl)
                        clear qa qb hNo
                        go_wp2_with fail
                        go_quiet (fail)
                        go_wp2
                        go_roundw
                        case rel => exact ⟨j + 1, by go_num, by omega, Lib.hid (below_drewN hQ.out _), HNo2⟩
                        case measure => simp only [intOf]; omega
                      | true =>
                        have qb' : (fb.toList == xb.toList) = true := qb
                        have HE := Lib.hid (ent_a HBd.out HNn.out (HI.out.trans (att_eight (f := f) HX.out HBn.out HAt.out (has_yes HY.out (show (eqb fa xa && eqb fb xb) = true by rw [qa, qb]; rfl)))))
                        clear qa qb hNo
                        have z0 := cells_of HKq.out.ev 0 (u := (.int .i64 0)) rfl
                        have z1 := cells_of HKq.out.ev 1 (u := (.string ⟨#[]⟩)) rfl
                        have z2 := cells_of HKq.out.ev 2 (u := (.string ⟨#[]⟩)) rfl
                        have z3 := cells_of HKq.out.ev 3 (u := (.slice none 0 0)) rfl
                        have z4 := cells_of HKq.out.ev 4 (u := (.string ⟨#[]⟩)) rfl
                        have g0 := froz_of HKq.out.ev 0
                        have g1 := froz_of HKq.out.ev 1
                        have g2 := froz_of HKq.out.ev 2
                        have g3 := froz_of HKq.out.ev 3
                        have g4 := froz_of HKq.out.ev 4
                        go_wp2_with fail
                        go_quiet (fail)
                        go_wp2
                        have HSr := Lib.hid (set5 (W := wr.drewN nq) HKq.out.ev (.int .i64 0) (.string ⟨#[]⟩) (.string ⟨#[]⟩) (.slice none 0 0) (.string ⟨#[]⟩))
                        have r0 := cells_of HSr.out 0 (u := (.int .i64 0)) rfl
                        have r1 := cells_of HSr.out 1 (u := (.string ⟨#[]⟩)) rfl
                        have r2 := cells_of HSr.out 2 (u := (.string ⟨#[]⟩)) rfl
                        have r3 := cells_of HSr.out 3 (u := (.slice none 0 0)) rfl
                        have r4 := cells_of HSr.out 4 (u := (.string ⟨#[]⟩)) rfl
                        exact bodyPost_ret (v := .tuple #[.slice none 0 0, evZ, .int .i64 8]) (by simp [results, Try.results11, go_sem, r0, r1, r2, r3, r4, evZ]) rfl (en_err HE.out rfl (bel5 (below_drewN HKq.out.bel nq) (Nat.le_succ _) _ _ _ _ _))
                  · have dj : ¬ (j : Int) < (m2 : Int) := by omega
                    have HHn : Hid (hasN (xa, xb) f = false) := Lib.hid (has_no (fun t y ht => hNo.out t y (by have := HF.out; omega)))
                    have HE := Lib.hid (att_go (f := f) HX.out HBn.out HAt.out HHn.out)
                    have x1q : wr.cell? ⟨b1, o1 + k2 * 2 + 1, none⟩ = some (.string av) := cell_low X8.out hb18 hQ.out
                    have t1q := cells_of HKq.out.tag 1 (u := .slice (some ⟨b1, o1, none⟩) M cap2) rfl
                    have lq : be < wr.heap.size ∧ ba < wr.heap.size ∧ b1 < wr.heap.size ∧ w.heap.size < wr.heap.size := ⟨Nat.lt_of_lt_of_le hS8.out hQ.out.size, Nat.lt_of_lt_of_le hba8 hQ.out.size, Nat.lt_of_lt_of_le hb18 hQ.out.size, by have := HKq.out.lt; omega⟩
                    have HOq : Hid (wr.drew.ownsRow (be + 1) 53 3 (.slice Aa m2 ca) m2 (tL f)) := Lib.hid (own_keep (w' := wr) HO8.out hQ.out)
                    have HOn := Lib.hid (HOq.out.alloc (.cells #[.string xa, .string xb, .string av] 53))
                    have hnew := Lib.hid (new_cells wr.drew #[.string xa, .string xb, .string av] 53)
                    have Bal := (Below.refl wr.drew.heap.size wr.drew).alloc (Nat.le_refl _) (.cells #[.string xa, .string xb, .string av] 53)
                    have a0d : wr.drew.cell? ⟨ba, 0, none⟩ = some (.string xa) := a0
                    have a1d : wr.drew.cell? ⟨ba, 1, none⟩ = some (.string xb) := a1
                    have t1d : wr.drew.cell? ⟨w.heap.size, 1, none⟩ = some (.slice (some ⟨b1, o1, none⟩) M cap2) := t1q
                    have x1d : wr.drew.cell? ⟨b1, o1 + k2 * 2 + 1, none⟩ = some (.string av) := x1q
                    have e3d : wr.drew.cell? ⟨be, 3, none⟩ = some (.slice Aa m2 ca) := e3
                    have a0n := cell_low a0d lq.2.1 Bal
                    have a1n := cell_low a1d lq.2.1 Bal
                    have t1n := cell_low t1d lq.2.2.2 Bal
                    have x1n := cell_low x1d lq.2.2.1 Bal
                    have e3n := cell_low e3d lq.1 Bal
                    have hzn : be + 1 ≤ (wr.drew.alloc (.cells #[.string xa, .string xb, .string av] 53)).heap.size := by have := lq.1; simp; omega
                    have HBn9 : Hid (Below be W4 (wr.drew.alloc (.cells #[.string xa, .string xb, .string av] 53))) := Lib.hid (((show Below be W4 wr.drew from by have := HB8.out.trans (hQ.out.mono HB8.out.size); rw [HZ4.out] at this; exact this.drew)).alloc (Nat.le_of_lt lq.1) _)
                    have HEn9 : Hid ((wr.drew.alloc (.cells #[.string xa, .string xb, .string av] 53)).heap[be]? = some (.cells #[.int .i64 1, .string na, .string nb, .slice Aa m2 ca, .string ⟨#[]⟩] 32 (0, 0))) := Lib.hid ((Bal.block be lq.1).trans HEq.out)
                    have HGo : Hid (∀ (w9 : World) (v' : Value), (wr.drew.alloc (.cells #[.string xa, .string xb, .string av] 53)).grownBy w9 (Value.slice Aa m2 ca).ownBlock → w9.cell? ⟨ba, 0, none⟩ = some (.string xa) ∧ w9.cell? ⟨ba, 1, none⟩ = some (.string xb) ∧ w9.cell? ⟨w.heap.size, 1, none⟩ = some (.slice (some ⟨b1, o1, none⟩) M cap2) ∧ w9.cell? ⟨b1, o1 + k2 * 2 + 1, none⟩ = some (.string av) ∧ w9.cell? ⟨be, 3, none⟩ = some (.slice Aa m2 ca) ∧ w9.frozen? ⟨be, 3, none⟩ = false ∧ w9.heap[be]? = some (.cells #[.int .i64 1, .string na, .string nb, .slice Aa m2 ca, .string ⟨#[]⟩] 32 (0, 0)) ∧ Below be W4 w9 ∧ be + 1 ≤ w9.heap.size) := Lib.hid (fun w9 v' hg => by
                      have hna : some ba ≠ (Value.slice Aa m2 ca).ownBlock := (own_ne HOn.out (b := ba) ((Bal.block ba lq.2.1).trans HAq.out) (by decide)).symm
                      have hlow : ∀ q, (Value.slice Aa m2 ca).ownBlock = some q → be + 1 ≤ q := fun q hq => (World.ownsRow.lt HOn.out q hq).1
                      have hne : ∀ q, q ≤ be → some q ≠ (Value.slice Aa m2 ca).ownBlock := fun q hq he => by have := hlow q he.symm; omega
                      have hk := (hg.block be (Nat.lt_of_lt_of_le lq.1 (by simp)) (hne be (Nat.le_refl _))).trans HEn9.out
                      exact ⟨hg.cell a0n hna, hg.cell a1n hna, hg.cell t1n (hne w.heap.size (by omega)), hg.cell x1n (hne b1 (by omega)), cells_of hk 3 rfl, froz_of hk 3, hk, HBn9.out.grown hg (by have := lq.1; simp; omega) (fun q hq => by have := hlow q hq; omega), Nat.le_trans hzn hg.size⟩)
                    have hd1 : be ≠ ba := by omega
                    have hd2 : be ≠ w.heap.size := by omega
                    have hd3 : be ≠ b1 := by omega
                    clear a0 a1 x1q t1q Bal hNo hQ
                    go_wp2_with fail
                    go_region_law (refine step_append_own (by rfl) (.tmp 145) (.tmp 154) 30 (by rfl) (be + 1) 53 i53 (.agg #[.string ⟨#[]⟩, .string ⟨#[]⟩, .string ⟨#[]⟩]) 3 48 Try.underlying30 hi hy0 hy1 hy2 rfl (by decide) (.slice Aa m2 ca) m2 (tL f) (by simp [Act.eval, Act.put]) HOn.out ⟨wr.heap.size, 0, none⟩ 1 1 [.string xa, .string xb, .string av] (by simp [Act.eval, Act.put]) rfl hnew.out (trip_one xa xb av) (by unfold maxLen; omega) (by omega) hzn ?_; intro v' w9 hown' hgrow; obtain ⟨r0, r1, r2, r3, r4, r5, r6, r7, r8⟩ := HGo.out w9 v' hgrow; have HR6 := Lib.hid r6; have HR7 := Lib.hid r7; have HR8 := Lib.hid r8; have HO9 := Lib.hid hown'; obtain ⟨g9, cap9, rfl⟩ := own_shape hown'; clear hown' hgrow r6 r7 r8)
                    all_goals
                      go_wp2_with fail
                      go_roundw
                      case rel =>
                        exact ⟨k2 + 1, m2 + 1, f ++ [((xa, xb), av)], _, by go_num, by omega, by omega, Lib.hid (by rw [List.length_append, ← HF.out]; rfl), Lib.hid (by rw [tL_app]; exact row_set HO9.out HR6.out (by decide) 3 _), Lib.hid (by simp [World.setCell, Array.getElem?_modify, HR6.out]), Lib.hid (HR7.out.setCell (p := ⟨be, 3, none⟩) (Nat.le_refl _) _), Lib.hid (by simpa [World.setCell] using HR8.out), Lib.hid (HI.out.trans HE.out)⟩
                      case measure => simp only [intOf]; omega
          · have d1 : ¬ (k2 : Int) < (M : Int) := by omega
            have HAo : Hid (attF Wl [] R = .ok f) := Lib.hid (by rw [HI.out, List.drop_of_length_le (by rw [← HM.out]; omega)]; rfl)
            have HEo := Lib.hid (ent_o HBd.out HNn.out HAo.out)
            have HOWz := Lib.hid (own_keep HOWr.out hB4.out)
            have y0 := cells_of hEv.out 0 (u := .int .i64 1) rfl
            have y1 := cells_of hEv.out 1 (u := .string na) rfl
            have y2 := cells_of hEv.out 2 (u := .string nb) rfl
            have y3 := cells_of hEv.out 3 (u := .slice Aa m2 ca) rfl
            have y4 := cells_of hEv.out 4 (u := .string ⟨#[]⟩) rfl
            have z0 := cells_of HK.out.ev 0 (u := (.int .i64 0)) rfl
            have z1 := cells_of HK.out.ev 1 (u := (.string ⟨#[]⟩)) rfl
            have z2 := cells_of HK.out.ev 2 (u := (.string ⟨#[]⟩)) rfl
            have z3 := cells_of HK.out.ev 3 (u := (.slice none 0 0)) rfl
            have z4 := cells_of HK.out.ev 4 (u := (.string ⟨#[]⟩)) rfl
            have g0 := froz_of HK.out.ev 0
            have g1 := froz_of HK.out.ev 1
            have g2 := froz_of HK.out.ev 2
            have g3 := froz_of HK.out.ev 3
            have g4 := froz_of HK.out.ev 4
            clear HCR4 HRR4 HWr HOWr hB hB4 HI
            go_wp2_with fail
            go_region
            go_wp2
            have HSr := Lib.hid (set5 HK.out.ev (.int .i64 1) (.string na) (.string nb) (.slice Aa m2 ca) (.string ⟨#[]⟩))
            have r0 := cells_of HSr.out 0 (u := .int .i64 1) rfl
            have r1 := cells_of HSr.out 1 (u := .string na) rfl
            have r2 := cells_of HSr.out 2 (u := .string nb) rfl
            have r3 := cells_of HSr.out 3 (u := .slice Aa m2 ca) rfl
            have r4 := cells_of HSr.out 4 (u := .string ⟨#[]⟩) rfl
            refine bodyPost_ret (v := .tuple #[.slice A1 m c1, evV (na, nb) (.slice Aa m2 ca), .int .i64 0]) (by simp [results, Try.results11, go_sem, r0, r1, r2, r3, r4, evV]) rfl ⟨fun c hc => ?_, fun W n f' hc => ?_, (bel5 HK.out.bel (Nat.le_succ _) _ _ _ _ _).drew⟩
            · rw [HEo.out] at hc
              cases hc
            · rw [HEo.out] at hc
              cases hc
              have gg := gro5 wr (w.heap.size + 1) (.int .i64 1) (.string na) (.string nb) (.slice Aa m2 ca) (.string ⟨#[]⟩)
              have hOt : OwnT wr (be + 1) (.slice Aa m2 ca) f := by unfold OwnT; rw [← HF.out]; exact hO.out
              exact ⟨_, _, rfl, World.ownsRow.drew (own_mono (World.ownsRow.kept HOWz.out gg (.inr (own_ne HOWz.out HK.out.ev (by decide)))) (by omega)), World.ownsRow.drew (own_mono (World.ownsRow.kept hOt gg (.inr (own_ne hOt HK.out.ev (by decide)))) (by omega))⟩
end Go.Proofs.Ytepmleieekpdiaa
