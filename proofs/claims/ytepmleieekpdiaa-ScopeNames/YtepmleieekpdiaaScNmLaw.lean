/-
  The walk of the law ScopeNames.
-/
import Derived.Test.YtepmleieekpdiaaScAtLaw
import Derived.Test.YtepmleieekpdiaaScDoc
set_option linter.unusedSimpArgs false
set_option linter.unusedVariables false
namespace Go.Proofs.Ytepmleieekpdiaa
open Go.RowKit

theorem rdS_two (W : World) (a b : ByteArray) : RdS (W.alloc (.cells #[.string a, .string b] 9)) (some ⟨W.heap.size, 0, none⟩) [a, b] := fun k x hk => by
  have hk0 : k = 0 ∨ k = 1 := by
    have := (List.getElem?_eq_some_iff.1 hk).1
    simp at this
    omega
  rcases hk0 with rfl | rfl
  · have : a = x := by simpa using hk
    subst this
    exact ⟨_, _, rfl, by simp, by simp⟩
  · have : b = x := by simpa using hk
    subst this
    exact ⟨_, _, rfl, by simp, by simp⟩
set_option maxHeartbeats 4000000 in
set_option maxRecDepth 100000 in
theorem nm_out (A : Option Addr) (N cap : Nat) (a b : ByteArray) (w : World) (b1 b2 b3 : Bool) (h1 : decide ((60 : Int) < (N : Int)) = b1) (h1' : decide (60 < N) = b1) (h2 : decide ((200 : Int) < (a.size : Int)) = b2) (h2' : decide (200 < a.size) = b2)
    (h3 : decide ((200 : Int) < (b.size : Int)) = b3) (h3' : decide (200 < b.size) = b3) (hb : (b1 || b2 || b3) = true) (hN : N ≤ maxLen) (ha : a.size ≤ Lim) (hbz : b.size ≤ Lim) :
    Calls Try.prog 4 #[.slice A N cap, .string a, .string b] w fun e w' => e = .returned (.bool true) ∧ Below w.heap.size w w' := by
  have CW : Hid AwC := Lib.hid awake_any
  unfold maxLen at hN
  unfold Lim at ha hbz
  cases b1
  · cases b2
    · cases b3
      · cases hb
      · go_enter Try.func4, Try.ntmps4
        go_wp2_with fail
        refine (CW.out _).mono ?_
        rintro e w1 ⟨rfl, hb1⟩
        go_wp2_with fail
        refine (CW.out _).mono ?_
        rintro e w2 ⟨rfl, hb2⟩
        go_wp2
        go_ret
        exact ⟨rfl, hb1.trans (hb2.mono hb1.size)⟩
    · go_enter Try.func4, Try.ntmps4
      go_wp2_with fail
      refine (CW.out _).mono ?_
      rintro e w1 ⟨rfl, hb1⟩
      go_wp2_with fail
      refine (CW.out _).mono ?_
      rintro e w2 ⟨rfl, hb2⟩
      go_wp2
      go_ret
      exact ⟨rfl, hb1.trans (hb2.mono hb1.size)⟩
  · go_enter Try.func4, Try.ntmps4
    go_wp2_with fail
    refine (CW.out _).mono ?_
    rintro e w1 ⟨rfl, hb1⟩
    go_wp2_with fail
    refine (CW.out _).mono ?_
    rintro e w2 ⟨rfl, hb2⟩
    go_wp2
    go_ret
    exact ⟨rfl, hb1.trans (hb2.mono hb1.size)⟩
def Nm2C (A : Option Addr) (N cap : Nat) (a b : ByteArray) (o : Option (List P2)) (w : World) : Prop := ∀ W, Below w.heap.size w W → Calls Try.prog 16 #[.slice A N cap, .slice (some ⟨W.heap.size, 0, none⟩) 2 2] (W.alloc (.cells #[.string a, .string b] 9)) (NmPost (W.alloc (.cells #[.string a, .string b] 9)) o)
def Nm0C (A : Option Addr) (N cap : Nat) (w : World) : Prop := ∀ W, Below w.heap.size w W → Calls Try.prog 16 #[.slice A N cap, .slice none 0 0] W (NmPost W (some []))
def RvC (A : Option Addr) (N cap : Nat) (s : ByteArray) (o : Option P2) (w : World) : Prop := ∀ W, Below w.heap.size w W → Calls Try.prog 17 #[.slice A N cap, .string s, .bool true] W (RvPost W o)
set_option maxHeartbeats 4000000 in
set_option maxRecDepth 100000 in
theorem nm_bad (A : Option Addr) (N cap : Nat) (a b : ByteArray) (o1 o2 : Option P2) (i1 i2 : Bool) (w : World) (h1 : decide ((60 : Int) < (N : Int)) = false) (h1' : decide (60 < N) = false) (h2 : decide ((200 : Int) < (a.size : Int)) = false) (h2' : decide (200 < a.size) = false)
    (h3 : decide ((200 : Int) < (b.size : Int)) = false) (h3' : decide (200 < b.size) = false) (hN : N ≤ 60) (ha : a.size ≤ 200) (hbz : b.size ≤ 200) (e1 : o1.isSome = i1) (e2 : o2.isSome = i2) (hi : (i1 && i2) = false)
    (CN : Hid (Nm2C A N cap a b none w)) (C0 : Hid (Nm0C A N cap w)) (C1 : Hid (RvC A N cap a o1 w)) (C2 : Hid (RvC A N cap b o2 w)) :
    Calls Try.prog 4 #[.slice A N cap, .string a, .string b] w fun e w' => e = .returned (.bool true) ∧ Below w.heap.size w w' := by
  have CW : Hid AwC := Lib.hid awake_any
  have E1 := Lib.hid e1
  have E2 := Lib.hid e2
  clear e1 e2
  cases i1
  · go_enter Try.func4, Try.ntmps4
    go_wp2_with fail
    refine (CW.out _).mono ?_
    rintro e w1 ⟨rfl, hb1⟩
    go_wp2_with fail
    refine (CN.out w1 hb1).mono ?_
    rintro e w2 ⟨g, -, hb2⟩
    obtain rfl := g rfl
    have B2 := Lib.hid ((hb1.alloc hb1.size (.cells #[.string a, .string b] 9)).trans (hb2.mono (Nat.le_trans hb1.size (by simp))))
    clear g hb1 hb2 CN CW
    go_wp2_with fail
    refine (C1.out _ B2.out).mono ?_
    rintro e w3 ⟨⟨xa, xb⟩, rfl, -, hb3⟩
    rw [E1.out]
    have B3 := Lib.hid ((B2.out.trans (hb3.mono B2.out.size)).alloc (Nat.le_trans B2.out.size hb3.size) (.cells #[.string xa, .string xb] 29))
    clear hb3 B2 C1
    go_wp2_with fail
    refine (C2.out _ B3.out).mono ?_
    rintro e w4 ⟨⟨ya, yb⟩, rfl, -, hb4⟩
    rw [E2.out]
    have B4 := Lib.hid ((B3.out.trans (hb4.mono B3.out.size)).alloc (Nat.le_trans B3.out.size hb4.size) (.cells #[.string ya, .string yb] 29))
    clear hb4 B3 C2
    go_wp2_with fail
    refine (C0.out _ B4.out).mono ?_
    rintro e w5 ⟨-, g, hb5⟩
    obtain ⟨v, rfl, hv⟩ := g _ rfl
    obtain ⟨A', c', rfl⟩ := own_slice hv
    rw [List.length_nil] at *
    have B5 := Lib.hid (B4.out.trans (hb5.mono B4.out.size))
    clear g hv hb5 B4 C0
    go_wp2_with fail
    go_ret
    exact ⟨rfl, B5.out⟩
  · cases i2
    · go_enter Try.func4, Try.ntmps4
      go_wp2_with fail
      refine (CW.out _).mono ?_
      rintro e w1 ⟨rfl, hb1⟩
      go_wp2_with fail
      refine (CN.out w1 hb1).mono ?_
      rintro e w2 ⟨g, -, hb2⟩
      obtain rfl := g rfl
      have B2 := Lib.hid ((hb1.alloc hb1.size (.cells #[.string a, .string b] 9)).trans (hb2.mono (Nat.le_trans hb1.size (by simp))))
      clear g hb1 hb2 CN CW
      go_wp2_with fail
      refine (C1.out _ B2.out).mono ?_
      rintro e w3 ⟨⟨xa, xb⟩, rfl, -, hb3⟩
      rw [E1.out]
      have B3 := Lib.hid ((B2.out.trans (hb3.mono B2.out.size)).alloc (Nat.le_trans B2.out.size hb3.size) (.cells #[.string xa, .string xb] 29))
      clear hb3 B2 C1
      go_wp2_with fail
      refine (C2.out _ B3.out).mono ?_
      rintro e w4 ⟨⟨ya, yb⟩, rfl, -, hb4⟩
      rw [E2.out]
      have B4 := Lib.hid ((B3.out.trans (hb4.mono B3.out.size)).alloc (Nat.le_trans B3.out.size hb4.size) (.cells #[.string ya, .string yb] 29))
      clear hb4 B3 C2
      go_wp2_with fail
      refine (C0.out _ B4.out).mono ?_
      rintro e w5 ⟨-, g, hb5⟩
      obtain ⟨v, rfl, hv⟩ := g _ rfl
      obtain ⟨A', c', rfl⟩ := own_slice hv
      rw [List.length_nil] at *
      have B5 := Lib.hid (B4.out.trans (hb5.mono B4.out.size))
      clear g hv hb5 B4 C0
      go_wp2_with fail
      go_ret
      exact ⟨rfl, B5.out⟩
    · cases hi
set_option maxHeartbeats 4000000 in
set_option maxRecDepth 100000 in
theorem nm_good (A : Option Addr) (N cap : Nat) (a b xa xb ya yb : ByteArray) (w : World) (h1 : decide ((60 : Int) < (N : Int)) = false) (h1' : decide (60 < N) = false) (h2 : decide ((200 : Int) < (a.size : Int)) = false) (h2' : decide (200 < a.size) = false)
    (h3 : decide ((200 : Int) < (b.size : Int)) = false) (h3' : decide (200 < b.size) = false) (hN : N ≤ 60) (ha : a.size ≤ 200) (hbz : b.size ≤ 200)
    (CN : Hid (Nm2C A N cap a b (some [(xa, xb), (ya, yb)]) w)) (C0 : Hid (Nm0C A N cap w)) (C1 : Hid (RvC A N cap a (some (xa, xb)) w)) (C2 : Hid (RvC A N cap b (some (ya, yb)) w)) :
    Calls Try.prog 4 #[.slice A N cap, .string a, .string b] w fun e w' => e = .returned (.bool true) ∧ Below w.heap.size w w' := by
  have CW : Hid AwC := Lib.hid awake_any
  have q1 : (xa.toList == xa.toList) = true := beq_self_eq_true _
  have q2 : (xb.toList == xb.toList) = true := beq_self_eq_true _
  have q3 : (ya.toList == ya.toList) = true := beq_self_eq_true _
  have q4 : (yb.toList == yb.toList) = true := beq_self_eq_true _
  go_enter Try.func4, Try.ntmps4
  go_wp2_with fail
  refine (CW.out _).mono ?_
  rintro e w1 ⟨rfl, hb1⟩
  go_wp2_with fail
  refine (CN.out w1 hb1).mono ?_
  rintro e w2 ⟨-, g, hb2⟩
  obtain ⟨v, rfl, hv⟩ := g _ rfl
  obtain ⟨A2, c2, rfl, hrd⟩ := own_rdR' (n := 2) hv rfl
  have HR2 := Lib.hid hrd
  have B2 := Lib.hid ((hb1.alloc hb1.size (.cells #[.string a, .string b] 9)).trans (hb2.mono (Nat.le_trans hb1.size (by simp))))
  clear g hb1 hb2 CN CW hv hrd
  go_wp2_with fail
  refine (C1.out _ B2.out).mono ?_
  rintro e w3 ⟨x, rfl, hx, hb3⟩
  obtain rfl := hx _ rfl
  dsimp only [Option.isSome]
  have K3 := Lib.hid (nblk w3 29 #[.string xa, .string xb])
  have B3 := Lib.hid ((B2.out.trans (hb3.mono B2.out.size)).alloc (Nat.le_trans B2.out.size hb3.size) (.cells #[.string xa, .string xb] 29))
  have HR3 := Lib.hid ((HR2.out.keep hb3).keep ((Below.refl _ w3).alloc (Nat.le_refl _) (.cells #[.string xa, .string xb] 29)))
  clear hb3 B2 C1 hx HR2
  go_wp2_with fail
  refine (C2.out _ B3.out).mono ?_
  rintro e w4 ⟨y, rfl, hy, hb4⟩
  obtain rfl := hy _ rfl
  dsimp only [Option.isSome]
  have B4 := Lib.hid ((B3.out.trans (hb4.mono B3.out.size)).alloc (Nat.le_trans B3.out.size hb4.size) (.cells #[.string ya, .string yb] 29))
  have HR4 := Lib.hid ((HR3.out.keep hb4).keep ((Below.refl _ w4).alloc (Nat.le_refl _) (.cells #[.string ya, .string yb] 29)))
  have l4 : w3.heap.size < w4.heap.size := Nat.lt_of_lt_of_le (by simp) hb4.size
  have K4 := Lib.hid ((Below.heap_alloc w4 (.cells #[.string ya, .string yb] 29) _ l4).trans ((hb4.block w3.heap.size (by simp)).trans K3.out))
  have J4 := Lib.hid (nblk w4 29 #[.string ya, .string yb])
  clear hb4 B3 C2 hy HR3 K3
  go_wp2_with fail
  refine (C0.out _ B4.out).mono ?_
  rintro e w5 ⟨-, g, hb5⟩
  obtain ⟨v, rfl, hv⟩ := g _ rfl
  obtain ⟨A', c', rfl⟩ := own_slice hv
  rw [List.length_nil] at *
  have B5 := Lib.hid (B4.out.trans (hb5.mono B4.out.size))
  have HR5 := HR4.out.keep hb5
  have K5 := (hb5.block w3.heap.size (by simp; omega)).trans K4.out
  have J5 := (hb5.block w4.heap.size (by simp)).trans J4.out
  obtain ⟨bn, on, rfl, -, x0, x1⟩ := HR5 0 (xa, xb) rfl
  obtain ⟨bn', on', e', -, y0, y1⟩ := HR5 1 (ya, yb) rfl
  cases e'
  have k0 := cells_of K5 0 (u := .string xa) rfl
  have k1 := cells_of K5 1 (u := .string xb) rfl
  have j0 := cells_of J5 0 (u := .string ya) rfl
  have j1 := cells_of J5 1 (u := .string yb) rfl
  rw [Nat.zero_mul, Nat.add_zero] at x0 x1
  rw [Nat.one_mul] at y0 y1
  dsimp only at x0 x1 y0 y1
  rw [Nat.add_assoc] at y1
  clear g hv hb5 B4 C0 HR4 HR5 K4 J4 K5 J5
  go_wp2_with fail
  go_quiet (fail)
  go_wp2
  go_ret
  exact ⟨rfl, below_drewN B5.out _⟩
theorem names_law (A : Option Addr) (N cap : Nat) (a b : ByteArray) (L : List P2) (w : World) (hN : N = L.length) (hNm : N ≤ maxLen) (hl : LimL L) (ha : a.size ≤ Lim) (hb : b.size ≤ Lim) (hR : RdR w A L) :
    Calls Try.prog 4 #[.slice A N cap, .string a, .string b] w fun e w' => e = .returned (.bool true) ∧ Below w.heap.size w w' := by
  have e1 : decide ((60 : Int) < (N : Int)) = decide (60 < N) := by simp; omega
  have e2 : decide ((200 : Int) < (a.size : Int)) = decide (200 < a.size) := by simp; omega
  have e3 : decide ((200 : Int) < (b.size : Int)) = decide (200 < b.size) := by simp; omega
  cases h1 : decide (60 < N)
  · cases h2 : decide (200 < a.size)
    · cases h3 : decide (200 < b.size)
      · have n1 : N ≤ 60 := by simpa using h1
        have n2 : a.size ≤ 200 := by simpa using h2
        have n3 : b.size ≤ 200 := by simpa using h3
        have CN : Nm2C A N cap a b (nmsF L [] [a, b]) w := fun W hW => names_any A (some ⟨W.heap.size, 0, none⟩) N 2 cap 2 L [a, b] _ hN rfl (by omega) (by omega) hl (fun x hx => by simp only [List.mem_cons, List.not_mem_nil, or_false] at hx; rcases hx with rfl | rfl <;> omega) ((hR.keep hW).keep ((Below.refl _ W).alloc (Nat.le_refl _) _)) (rdS_two W a b)
        have C0 : Nm0C A N cap w := fun W hW => names_any A none N 0 cap 0 L [] W hN rfl (by omega) (by omega) hl (fun x hx => by simp at hx) (hR.keep hW) (fun k x hk => by simp at hk)
        have C1 : RvC A N cap a (namF L a) w := fun W hW => by rw [← rsv_nam]; exact rresolve_any A N cap a true L W hN (by omega) (hR.keep hW) (by omega)
        have C2 : RvC A N cap b (namF L b) w := fun W hW => by rw [← rsv_nam]; exact rresolve_any A N cap b true L W hN (by omega) (hR.keep hW) (by omega)
        cases g1 : namF L a with
        | none =>
          have e : nmsF L [] [a, b] = none := by rw [nmsF, g1]
          rw [e] at CN
          rw [g1] at C1
          exact nm_bad A N cap a b none _ false _ w (e1.trans h1) h1 (e2.trans h2) h2 (e3.trans h3) h3 n1 n2 n3 rfl rfl rfl (Lib.hid CN) (Lib.hid C0) (Lib.hid C1) (Lib.hid C2)
        | some x =>
          rw [g1] at C1
          cases g2 : namF L b with
          | none =>
            have e : nmsF L [] [a, b] = none := by rw [nmsF, g1]; dsimp only; rw [nmsF, g2]
            rw [e] at CN
            rw [g2] at C2
            exact nm_bad A N cap a b _ none true false w (e1.trans h1) h1 (e2.trans h2) h2 (e3.trans h3) h3 n1 n2 n3 rfl rfl rfl (Lib.hid CN) (Lib.hid C0) (Lib.hid C1) (Lib.hid C2)
          | some y =>
            have e : nmsF L [] [a, b] = some [x, y] := by rw [nmsF, g1]; dsimp only; rw [nmsF, g2]; rfl
            rw [e] at CN
            rw [g2] at C2
            obtain ⟨xa, xb⟩ := x
            obtain ⟨ya, yb⟩ := y
            exact nm_good A N cap a b xa xb ya yb w (e1.trans h1) h1 (e2.trans h2) h2 (e3.trans h3) h3 n1 n2 n3 (Lib.hid CN) (Lib.hid C0) (Lib.hid C1) (Lib.hid C2)
      · exact nm_out A N cap a b w _ _ _ e1 rfl e2 rfl e3 rfl (by rw [h1, h2, h3]; rfl) hNm ha hb
    · exact nm_out A N cap a b w _ _ _ e1 rfl e2 rfl e3 rfl (by rw [h1, h2]; rfl) hNm ha hb
  · exact nm_out A N cap a b w _ _ _ e1 rfl e2 rfl e3 rfl (by rw [h1]; rfl) hNm ha hb
end Go.Proofs.Ytepmleieekpdiaa
