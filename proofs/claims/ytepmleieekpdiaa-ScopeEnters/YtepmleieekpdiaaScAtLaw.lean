/-
  The walk of the law ScopeAttrs.
-/
import Derived.Test.YtepmleieekpdiaaScTop
set_option linter.unusedSimpArgs false
set_option linter.unusedVariables false
namespace Go.Proofs.Ytepmleieekpdiaa
open Go.RowKit

def AwC : Prop := ∀ w, Calls Try.prog 8 #[] w fun e w' => e = .returned (.bool true) ∧ Below w.heap.size w w'
theorem ent_atk (w : World) (A : Option Addr) (N : Nat) (L : List P2) (s : ByteArray) (hN : N = L.length) (hN1 : N ≤ 60) (hl : LimL L) (hs : s.size ≤ Lim) (hR : RdR w A L) : Ent (w.alloc (.cells #[.string ⟨#[120, 109, 108, 110, 115]⟩, .string s, .string ⟨#[98]⟩, .string ⟨#[49]⟩] 57)) A (some ⟨w.heap.size, 0, none⟩) N 2 ⟨#[97]⟩ L (atR s) := by
  refine ⟨hN, rfl, by omega, by omega, by decide, hl, ?_, ?_, hR.keep ((Below.refl _ _).alloc (Nat.le_refl _) _), rdR_new2 w 57 _ _ _ _⟩
  · intro x hx
    unfold atR at hx
    simp only [List.mem_cons, List.not_mem_nil, or_false] at hx
    rcases hx with rfl | rfl
    · exact ⟨by show (⟨#[120, 109, 108, 110, 115]⟩ : ByteArray).size ≤ Lim; decide, hs⟩
    · exact ⟨by decide, by decide⟩
  · intro x hx
    unfold atR at hx
    simp only [List.mem_cons, List.not_mem_nil, or_false] at hx
    rcases hx with rfl | rfl
    · show (⟨#[120, 109, 108, 110, 115]⟩ : ByteArray).size ≤ 1000
      decide
    · decide
set_option maxHeartbeats 4000000 in
set_option maxRecDepth 100000 in
theorem at_out (A : Option Addr) (N cap : Nat) (s : ByteArray) (w : World) (b1 b2 b3 b4 : Bool) (h1 : decide ((60 : Int) < (N : Int)) = b1) (h1' : decide (60 < N) = b1) (h2 : s.toList.isEmpty = b2)
    (h3 : (s.toList == [104, 116, 116, 112, 58, 47, 47, 119, 119, 119, 46, 119, 51, 46, 111, 114, 103, 47, 88, 77, 76, 47, 49, 57, 57, 56, 47, 110, 97, 109, 101, 115, 112, 97, 99, 101]) = b3)
    (h4 : (s.toList == [104, 116, 116, 112, 58, 47, 47, 119, 119, 119, 46, 119, 51, 46, 111, 114, 103, 47, 50, 48, 48, 48, 47, 120, 109, 108, 110, 115, 47]) = b4) (hb : (b1 || b2 || b3 || b4) = true) (hN : N ≤ maxLen) :
    Calls Try.prog 7 #[.slice A N cap, .string s] w fun e w' => e = .returned (.bool true) ∧ Below w.heap.size w w' := by
  have CW : Hid AwC := Lib.hid awake_any
  unfold maxLen at hN
  cases b1
  · cases b2
    · cases b3
      · cases b4
        · cases hb
        · go_enter Try.func7, Try.ntmps7
          go_wp2_with fail
          refine (CW.out _).mono ?_
          rintro e w1 ⟨rfl, hb1⟩
          go_wp2_with fail
          refine (CW.out _).mono ?_
          rintro e w2 ⟨rfl, hb2⟩
          go_wp2
          go_ret
          exact ⟨rfl, hb1.trans (hb2.mono hb1.size)⟩
      · go_enter Try.func7, Try.ntmps7
        go_wp2_with fail
        refine (CW.out _).mono ?_
        rintro e w1 ⟨rfl, hb1⟩
        go_wp2_with fail
        refine (CW.out _).mono ?_
        rintro e w2 ⟨rfl, hb2⟩
        go_wp2
        go_ret
        exact ⟨rfl, hb1.trans (hb2.mono hb1.size)⟩
    · go_enter Try.func7, Try.ntmps7
      go_wp2_with fail
      refine (CW.out _).mono ?_
      rintro e w1 ⟨rfl, hb1⟩
      go_wp2_with fail
      refine (CW.out _).mono ?_
      rintro e w2 ⟨rfl, hb2⟩
      go_wp2
      go_ret
      exact ⟨rfl, hb1.trans (hb2.mono hb1.size)⟩
  · go_enter Try.func7, Try.ntmps7
    go_wp2_with fail
    refine (CW.out _).mono ?_
    rintro e w1 ⟨rfl, hb1⟩
    go_wp2_with fail
    refine (CW.out _).mono ?_
    rintro e w2 ⟨rfl, hb2⟩
    go_wp2
    go_ret
    exact ⟨rfl, hb1.trans (hb2.mono hb1.size)⟩
set_option maxHeartbeats 4000000 in
set_option maxRecDepth 100000 in
theorem at_in (A : Option Addr) (N cap : Nat) (s : ByteArray) (L : List P2) (w : World) (h1 : decide ((60 : Int) < (N : Int)) = false) (h1' : decide (60 < N) = false) (h2 : s.toList.isEmpty = false)
    (h3 : (s.toList == [104, 116, 116, 112, 58, 47, 47, 119, 119, 119, 46, 119, 51, 46, 111, 114, 103, 47, 88, 77, 76, 47, 49, 57, 57, 56, 47, 110, 97, 109, 101, 115, 112, 97, 99, 101]) = false)
    (h4 : (s.toList == [104, 116, 116, 112, 58, 47, 47, 119, 119, 119, 46, 119, 51, 46, 111, 114, 103, 47, 50, 48, 48, 48, 47, 120, 109, 108, 110, 115, 47]) = false)
    (CE : Hid (∀ W, Below w.heap.size w W → Calls Try.prog 10 #[.slice A N cap, .agg #[.string ⟨#[97]⟩, .slice (some ⟨W.heap.size, 0, none⟩) 2 2]] (W.alloc (.cells #[.string ⟨#[120, 109, 108, 110, 115]⟩, .string s, .string ⟨#[98]⟩, .string ⟨#[49]⟩] 57)) (EnPost (W.alloc (.cells #[.string ⟨#[120, 109, 108, 110, 115]⟩, .string s, .string ⟨#[98]⟩, .string ⟨#[49]⟩] 57)) (.ok (L ++ [(em, s)], (s, ⟨#[97]⟩), [((em, ⟨#[98]⟩), ⟨#[49]⟩)])))))
    (hN : N ≤ 60) :
    Calls Try.prog 7 #[.slice A N cap, .string s] w fun e w' => e = .returned (.bool true) ∧ Below w.heap.size w w' := by
  have CW : Hid AwC := Lib.hid awake_any
  have q1 : (s.toList == s.toList) = true := beq_self_eq_true _
  go_enter Try.func7, Try.ntmps7
  go_wp2_with fail
  refine (CW.out _).mono ?_
  rintro e w1 ⟨rfl, hb1⟩
  go_wp2_with fail
  refine (CE.out w1 hb1).mono ?_
  rintro e w2 ⟨-, g2, hb2⟩
  obtain ⟨v, va, rfl, hv, hva⟩ := g2 _ _ _ rfl
  obtain ⟨Av, cv, rfl⟩ := own_slice hv
  obtain ⟨A3, c3, rfl, hrt⟩ := own_rdT' (n := 1) hva rfl
  unfold evV
  dsimp only
  obtain ⟨b3, o3, rfl, hb3, x0, x1, x2⟩ := hrt 0 _ rfl
  have HB := Lib.hid ((hb1.alloc hb1.size (.cells #[.string ⟨#[120, 109, 108, 110, 115]⟩, .string s, .string ⟨#[98]⟩, .string ⟨#[49]⟩] 57)).trans (hb2.mono (Nat.le_trans hb1.size (by simp))))
  rw [Nat.zero_mul, Nat.add_zero] at x0 x1 x2
  have y0 : (w2.alloc (.cells #[.int .i64 1, .string s, .string ⟨#[97]⟩, .slice (some ⟨b3, o3, none⟩) 1 c3, .string ⟨#[]⟩] 32)).cell? ⟨b3, o3, none⟩ = some (.string ⟨#[]⟩) := (World.cell?_alloc_lt _ _ _ (by exact hb3)).trans x0
  have y1 : (w2.alloc (.cells #[.int .i64 1, .string s, .string ⟨#[97]⟩, .slice (some ⟨b3, o3, none⟩) 1 c3, .string ⟨#[]⟩] 32)).cell? ⟨b3, o3 + 1, none⟩ = some (.string ⟨#[98]⟩) := (World.cell?_alloc_lt _ _ _ (by exact hb3)).trans x1
  generalize (L ++ [(em, s)]).length = NW at *
  clear g2 hb2 hv hva hrt CE CW x0 x1 x2
  go_wp2_with fail
  go_ret
  exact ⟨rfl, HB.out.alloc HB.out.size _⟩
theorem attrs_law (A : Option Addr) (N cap : Nat) (s : ByteArray) (L : List P2) (w : World) (hN : N = L.length) (hNm : N ≤ maxLen) (hl : LimL L) (hs : s.size ≤ Lim) (hR : RdR w A L) :
    Calls Try.prog 7 #[.slice A N cap, .string s] w fun e w' => e = .returned (.bool true) ∧ Below w.heap.size w w' := by
  have e1 : decide ((60 : Int) < (N : Int)) = decide (60 < N) := by simp; omega
  cases h1 : decide (60 < N)
  · cases h2 : eqb s em
    · cases h3 : eqb s XS
      · cases h4 : eqb s XN
        · refine at_in A N cap s L w (e1.trans h1) h1 (eqb_emp h2) (eqb_XS h3) (eqb_XN h4) (Lib.hid (fun W hW => ?_)) (by simpa using h1)
          have := enter_any cap 2 (ent_atk W A N L s hN (by simpa using h1) hl hs (hR.keep hW))
          rw [ent_at L s h2 h3 h4] at this
          exact this
        · exact at_out A N cap s w _ _ _ _ e1 rfl (eqb_emp rfl) (eqb_XS rfl) (eqb_XN rfl) (by rw [h1, h2, h3, h4]; rfl) hNm
      · exact at_out A N cap s w _ _ _ _ e1 rfl (eqb_emp rfl) (eqb_XS rfl) (eqb_XN rfl) (by rw [h1, h2, h3]; rfl) hNm
    · exact at_out A N cap s w _ _ _ _ e1 rfl (eqb_emp rfl) (eqb_XS rfl) (eqb_XN rfl) (by rw [h1, h2]; rfl) hNm
  · exact at_out A N cap s w _ _ _ _ e1 rfl (eqb_emp rfl) (eqb_XS rfl) (eqb_XN rfl) (by rw [h1]; rfl) hNm
end Go.Proofs.Ytepmleieekpdiaa
