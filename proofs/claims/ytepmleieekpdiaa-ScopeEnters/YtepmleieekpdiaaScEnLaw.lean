/-
  The walk of the law ScopeEnters.
-/
import Derived.Test.YtepmleieekpdiaaScDEnter
set_option linter.unusedSimpArgs false
set_option linter.unusedVariables false
namespace Go.Proofs.Ytepmleieekpdiaa
open Go.RowKit

/-- What an Enter leaves, in one shape: what it reads as hangs on the answer alone. -/
def EnD (Ws : List P2) (f : List P3) (NW NF : Nat) (kd er : Int) (na nb : ByteArray) (W : World) (e : Ending) (w' : World) : Prop :=
  ∃ (A' : Option Addr) (c' : Nat) (Aa : Option Addr) (ca : Nat), e = .returned (.tuple #[.slice A' NW c', .agg #[.int .i64 kd, .string na, .string nb, .slice Aa NF ca, .string ⟨#[]⟩], .int .i64 er]) ∧ RdR w' A' Ws ∧ RdT w' Aa f ∧ Below W.heap.size W w'
theorem en_data (o : Except Int (List P2 × P2 × List P3)) (hl : ∀ Ws n f, o = .ok (Ws, n, f) → Ws.length ≤ 2000 ∧ f.length ≤ 1000) :
    ∃ (Ws : List P2) (f : List P3) (kd er : Int) (na nb : ByteArray), Ws.length ≤ 2000 ∧ f.length ≤ 1000 ∧ ∀ W e w', EnPost W o e w' → EnD Ws f Ws.length f.length kd er na nb W e w' := by
  cases o with
  | error c =>
    exact ⟨[], [], 0, c, em, em, by simp, by simp, fun W e w' h => ⟨none, 0, none, 0, h.1 c rfl, fun k x hk => by simp at hk, fun k x hk => by simp at hk, h.2.2⟩⟩
  | ok x =>
    obtain ⟨Ws, n, f⟩ := x
    obtain ⟨l1, l2⟩ := hl Ws n f rfl
    refine ⟨Ws, f, 1, 0, n.1, n.2, l1, l2, fun W e w' h => ?_⟩
    obtain ⟨v, va, he, hv, hva⟩ := h.2.1 Ws n f rfl
    obtain ⟨A', c', rfl, h1⟩ := own_rdR' hv rfl
    obtain ⟨Aa, ca, rfl, h2⟩ := own_rdT' hva rfl
    exact ⟨A', c', Aa, ca, he, h1, h2, h.2.2⟩
theorem RdT.keepB {w w' : World} {A : Option Addr} {l : List P3} (h : RdT w A l) (hb : Below w.heap.size w w') : RdT w' A l := h.keep hb
set_option maxHeartbeats 4000000 in
set_option maxRecDepth 100000 in
theorem en_out (A A2 : Option Addr) (N M cap cap2 : Nat) (nm p : ByteArray) (w : World) (CF : Hid (SmC A A2 N M cap cap2 nm false w)) :
    Calls Try.prog 3 #[.slice A N cap, .agg #[.string nm, .slice A2 M cap2], .string p] w fun e w' => e = .returned (.bool true) ∧ Below w.heap.size w w' := by
  have CW : Hid AwC := Lib.hid awake_any
  have H0 := Lib.hid (tgb_start w nm A2 M cap2)
  go_enter Try.func3, Try.ntmps3
  go_wp2_with fail
  refine (CW.out _).mono ?_
  rintro e w1 ⟨rfl, hb1⟩
  have H1 := Lib.hid (H0.out.keep hb1)
  have t0 := cells_of H1.out.1 0 (u := .string nm) rfl
  have t1 := cells_of H1.out.1 1 (u := .slice A2 M cap2) rfl
  clear hb1 H0
  go_wp2_with fail
  refine (CF.out _ H1.out.2).mono ?_
  rintro e w2 ⟨rfl, hb2⟩
  have H2 := Lib.hid (H1.out.keep hb2)
  clear t0 t1 hb2 H1
  go_wp2_with fail
  refine (CW.out _).mono ?_
  rintro e w3 ⟨rfl, hb3⟩
  go_wp2
  go_ret
  exact ⟨rfl, (H2.out.keep hb3).2⟩
def EvC (be : Nat) (kd : Int) (na nb : ByteArray) (va : Value) (W : World) : Prop := W.heap[be]? = some (.cells #[.int .i64 kd, .string na, .string nb, va, .string ⟨#[]⟩] 32 (0, 0))
theorem EvC.keep {be : Nat} {kd : Int} {na nb : ByteArray} {va : Value} {W W' : World} (h : EvC be kd na nb va W) (hb : Below W.heap.size W W') : EvC be kd na nb va W' := (hb.block be (Array.getElem?_eq_some_iff.1 h).1).trans h
set_option maxHeartbeats 4000000 in
set_option maxRecDepth 100000 in
theorem en_in (A A2 : Option Addr) (N M cap cap2 NW NF : Nat) (nm p fs na nb : ByteArray) (fb : Bool) (kd er : Int) (Ws : List P2) (f : List P3) (w : World)
    (CF : Hid (SmC A A2 N M cap cap2 nm true w))
    (C1 : Hid (∀ W, Below w.heap.size w W → Calls Try.prog 10 #[.slice A N cap, .agg #[.string nm, .slice A2 M cap2]] W (EnD Ws f NW NF kd er na nb W)))
    (C2 : Hid (∀ W, Below w.heap.size w W → Calls Try.prog 11 #[.slice A N cap, .agg #[.string nm, .slice A2 M cap2]] W (EnD Ws f NW NF kd er na nb W)))
    (C3 : Hid (FnC A N cap p fs fb w))
    (C4 : Hid (∀ W, Below w.heap.size w W → Calls Try.prog 13 #[.slice A N cap, .string p] W fun e w' => e = .returned (.tuple #[.string fs, .bool fb]) ∧ Below W.heap.size W w'))
    (C5 : Hid (∀ (A1 A3 : Option Addr) (k1 k3 : Nat) (W : World), RdR W A1 Ws → RdR W A3 Ws → Calls Try.prog 14 #[.slice A1 NW k1, .slice A3 NW k3] W fun e w' => e = .returned (.bool true) ∧ Below W.heap.size W w'))
    (C6 : Hid (∀ (A1 A3 : Option Addr) (k1 k3 : Nat) (W : World), RdT W A1 f → RdT W A3 f → Calls Try.prog 15 #[.agg #[.int .i64 kd, .string na, .string nb, .slice A1 NF k1, .string ⟨#[]⟩], .agg #[.int .i64 kd, .string na, .string nb, .slice A3 NF k3, .string ⟨#[]⟩]] W fun e w' => e = .returned (.bool true) ∧ Below W.heap.size W w')) :
    Calls Try.prog 3 #[.slice A N cap, .agg #[.string nm, .slice A2 M cap2], .string p] w fun e w' => e = .returned (.bool true) ∧ Below w.heap.size w w' := by
  have CW : Hid AwC := Lib.hid awake_any
  have H0 := Lib.hid (tgb_start w nm A2 M cap2)
  have q1 : (fs.toList == fs.toList) = true := beq_self_eq_true _
  have q2 : (fb == fb) = true := beq_self_eq_true _
  have q3 : (er == er) = true := beq_self_eq_true _
  go_enter Try.func3, Try.ntmps3
  go_wp2_with fail
  refine (CW.out _).mono ?_
  rintro e w1 ⟨rfl, hb1⟩
  have H1 := Lib.hid (H0.out.keep hb1)
  have t0 := cells_of H1.out.1 0 (u := .string nm) rfl
  have t1 := cells_of H1.out.1 1 (u := .slice A2 M cap2) rfl
  clear hb1 H0 CW
  go_wp2_with fail
  refine (CF.out _ H1.out.2).mono ?_
  rintro e w2 ⟨rfl, hb2⟩
  have H2 := Lib.hid (H1.out.keep hb2)
  have s0 := cells_of H2.out.1 0 (u := .string nm) rfl
  have s1 := cells_of H2.out.1 1 (u := .slice A2 M cap2) rfl
  clear t0 t1 hb2 H1 CF
  go_wp2_with fail
  refine (C1.out _ H2.out.2).mono ?_
  rintro e w3 ⟨A3, c3, Aa, ca, rfl, hr3, hf3, hb3⟩
  have Bz := (Below.refl w3.heap.size w3).alloc (Nat.le_refl _) (.cells #[.int .i64 kd, .string na, .string nb, .slice Aa NF ca, .string ⟨#[]⟩] 32)
  have H3 := Lib.hid ((H2.out.keep hb3).keep Bz)
  have HR3 := Lib.hid (hr3.keep Bz)
  have HF3 := Lib.hid (hf3.keep Bz)
  have HV3 : Hid (EvC w3.heap.size kd na nb (.slice Aa NF ca) (w3.alloc (.cells #[.int .i64 kd, .string na, .string nb, .slice Aa NF ca, .string ⟨#[]⟩] 32))) := Lib.hid (nblk w3 32 _)
  have t0 := cells_of H3.out.1 0 (u := .string nm) rfl
  have t1 := cells_of H3.out.1 1 (u := .slice A2 M cap2) rfl
  clear s0 s1 hb3 hr3 hf3 Bz H2 C1
  go_wp2_with fail
  refine (C2.out _ H3.out.2).mono ?_
  rintro e w4 ⟨A4, c4, Ab, cb, rfl, hr4, hf4, hb4⟩
  have Bz := (Below.refl w4.heap.size w4).alloc (Nat.le_refl _) (.cells #[.int .i64 kd, .string na, .string nb, .slice Ab NF cb, .string ⟨#[]⟩] 32)
  have H4 := Lib.hid ((H3.out.keep hb4).keep Bz)
  have HR3' := Lib.hid ((HR3.out.keep hb4).keep Bz)
  have HF3' := Lib.hid ((HF3.out.keep hb4).keep Bz)
  have HV3' := Lib.hid ((HV3.out.keep hb4).keep Bz)
  have HR4 := Lib.hid (hr4.keep Bz)
  have HF4 := Lib.hid (hf4.keep Bz)
  have HV4 : Hid (EvC w4.heap.size kd na nb (.slice Ab NF cb) (w4.alloc (.cells #[.int .i64 kd, .string na, .string nb, .slice Ab NF cb, .string ⟨#[]⟩] 32))) := Lib.hid (nblk w4 32 _)
  clear t0 t1 hb4 hr4 hf4 Bz H3 HR3 HF3 HV3 C2
  go_wp2_with fail
  refine (C3.out _ H4.out.2).mono ?_
  rintro e w5 ⟨rfl, hb5⟩
  have H5 := Lib.hid (H4.out.keep hb5)
  have R3 := Lib.hid (HR3'.out.keep hb5)
  have F3 := Lib.hid (HF3'.out.keep hb5)
  have V3 := Lib.hid (HV3'.out.keep hb5)
  have R4 := Lib.hid (HR4.out.keep hb5)
  have F4 := Lib.hid (HF4.out.keep hb5)
  have V4 := Lib.hid (HV4.out.keep hb5)
  clear hb5 H4 HR3' HF3' HV3' HR4 HF4 HV4 C3
  go_wp2_with fail
  refine (C4.out _ H5.out.2).mono ?_
  rintro e w6 ⟨rfl, hb6⟩
  have H6 := Lib.hid (H5.out.keep hb6)
  have R3' := Lib.hid (R3.out.keep hb6)
  have F3' := Lib.hid (F3.out.keep hb6)
  have V3' := Lib.hid (V3.out.keep hb6)
  have R4' := Lib.hid (R4.out.keep hb6)
  have F4' := Lib.hid (F4.out.keep hb6)
  have V4' := Lib.hid (V4.out.keep hb6)
  clear hb6 H5 R3 F3 V3 R4 F4 V4 C4
  go_wp2_with fail
  refine (C5.out A3 A4 c3 c4 _ R3'.out R4'.out).mono ?_
  rintro e w7 ⟨rfl, hb7⟩
  have H7 := Lib.hid (H6.out.keep hb7)
  have F3 := Lib.hid (F3'.out.keep hb7)
  have v3 := V3'.out.keep hb7
  have F4 := Lib.hid (F4'.out.keep hb7)
  have v4 := V4'.out.keep hb7
  have a0 := cells_of v3 0 (u := .int .i64 kd) rfl
  have a1 := cells_of v3 1 (u := .string na) rfl
  have a2 := cells_of v3 2 (u := .string nb) rfl
  have a3 := cells_of v3 3 (u := .slice Aa NF ca) rfl
  have a4 := cells_of v3 4 (u := .string ⟨#[]⟩) rfl
  have b0 := cells_of v4 0 (u := .int .i64 kd) rfl
  have b1 := cells_of v4 1 (u := .string na) rfl
  have b2 := cells_of v4 2 (u := .string nb) rfl
  have b3 := cells_of v4 3 (u := .slice Ab NF cb) rfl
  have b4 := cells_of v4 4 (u := .string ⟨#[]⟩) rfl
  clear hb7 H6 R3' F3' V3' R4' F4' V4' C5 v3 v4
  go_wp2_with fail
  refine (C6.out Aa Ab ca cb _ F3.out F4.out).mono ?_
  rintro e w8 ⟨rfl, hb8⟩
  have H8 := Lib.hid (H7.out.keep hb8)
  clear hb8 H7 F3 F4 C6 a0 a1 a2 a3 a4 b0 b1 b2 b3 b4
  go_wp2_with fail
  go_ret
  exact ⟨rfl, H8.out.2⟩
theorem right_all {nm : ByteArray} {l : List P2} (h : rightB nm l = true) : ∀ x ∈ l, (splitA x.1).2.2 = true := by
  unfold rightB at h
  rw [Bool.and_eq_true, List.all_eq_true] at h
  exact h.2
theorem enters_law (A A2 : Option Addr) (N M cap cap2 : Nat) (nm p : ByteArray) (L R : List P2) (w : World) (hN : N = L.length) (hNm : N ≤ maxLen) (hl : LimL L) (hR : RdR w A L) (hnA : A = none → N = 0 ∧ cap = 0)
    (hM : M = R.length) (hMm : M ≤ maxLen) (hlR : LimL R) (hR2 : RdR w A2 R) (hn : nm.size ≤ Lim) :
    Calls Try.prog 3 #[.slice A N cap, .agg #[.string nm, .slice A2 M cap2], .string p] w fun e w' => e = .returned (.bool true) ∧ Below w.heap.size w w' := by
  have lm : ∀ k, k ≤ Lim → k ≤ maxLen := fun k h => Nat.le_trans h (by unfold Lim maxLen; omega)
  have hx : ∀ x ∈ R, x.1.size ≤ maxLen ∧ x.2.size ≤ maxLen := fun x h => ⟨lm _ (hlR x h).1, lm _ (hlR x h).2⟩
  by_cases hf : SmlP N nm R
  · have h1 := hf.1
    have h2 := hf.2.1.2.1
    have hE : Ent w A A2 N M nm L R := ⟨hN, hM, by omega, by omega, by have := hf.2.1.1; omega, hl, hlR, fun x h => by have := (hf.2.1.2.2 x h).1; omega, hR, hR2⟩
    obtain ⟨Ws, f, kd, er, na, nb, l1, l2, hD⟩ := en_data (entF L nm R) (fun Ws n f ho => by
      unfold entF at ho
      split at ho
      · cases ho
      · rename_i W0 g1
        split at ho
        · cases ho
        · split at ho
          · cases ho
          · rename_i f0 g2
            injection ho with ho
            injection ho with ho1 ho2
            injection ho2 with ho2 ho3
            have l1 := bind_len R L g1
            have l2 := att_len W0 R [] g2
            rw [← ho1, ← ho3]
            rw [List.length_nil] at l2
            omega)
    exact en_in A A2 N M cap cap2 Ws.length f.length nm p (fndF L p).1 na nb (fndF L p).2 kd er Ws f w (Lib.hid (fun W hW => sml_yes hNm hM (lm _ hn) hMm hx (hR2.keep hW) hf))
      (Lib.hid (fun W hW => (enter_any cap cap2 (hE.keep hW)).mono (fun e w' h => hD W e w' h)))
      (Lib.hid (fun W hW => (denter_any A A2 N M cap cap2 nm L R W (hE.keep hW) hnA (right_all hf.2.2)).mono (fun e w' h => hD W e w' h)))
      (Lib.hid (fun W hW => find_any A N cap p L W hN hl (by omega) (hR.keep hW)))
      (Lib.hid (fun W hW => rfind_any A N cap p L W hN (by omega) (hR.keep hW)))
      (Lib.hid (fun A1 A3 k1 k3 W r1 r2 => same_any Ws Ws.length A1 A3 k1 k3 W rfl (by omega) r1 r2))
      (Lib.hid (fun A1 A3 k1 k3 W r1 r2 => sev_any kd na nb ⟨#[]⟩ f f.length A1 A3 k1 k3 W rfl (by omega) r1 r2))
  · exact en_out A A2 N M cap cap2 nm p w (Lib.hid (fun W hW => sml_no hNm hM (lm _ hn) hMm hx (hR2.keep hW) hf))
end Go.Proofs.Ytepmleieekpdiaa
