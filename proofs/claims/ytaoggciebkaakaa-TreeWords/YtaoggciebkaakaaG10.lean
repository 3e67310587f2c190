/-
  Merged by program out of the texts WdRight, Rune, Canon, RuneAny, CMath, CLeaf, NzLeaf, NzConv, NzRune, NzNm, NzRef, NzPlain, Dec of one seat.
-/
import Derived.Test.YtaoggciebkaakaaG09
import Derived.Test.YtaoggciebkaakaaG02
import Derived.Test.YtaoggciebkaakaaG04
import Derived.Test.YtaoggciebkaakaaProg
import Derived.Lib.Hide
import Derived.Lib.DecodeN
import Derived.WalkKit
import Derived.WalkSpells
import Derived.WalkLawsBesides
import Derived.Laws.RangeAny
import Derived.Laws.Cover4
import Derived.Lib.Bytealg

/- word.Right. -/
set_option linter.unusedSimpArgs false
set_option linter.unusedVariables false
namespace Go.Proofs.Ytaoggciebkaakaa.Ev
open Go.RowKit

def AtC (pL tR : ByteArray → Bool) : Prop := ∀ (A : Option Addr) (n c : Nat) (l : List P3) (w : World), AttsIn w A n c l → (l.length ≤ 32 → ∀ y ∈ l, y.1.1.size ≤ 10000 ∧ y.1.2.size ≤ 10000 ∧ y.2.size ≤ 10000) → Calls Try.prog 46 #[.slice A n c] w fun e w' => e = .returned (.bool (decide (n ≤ 32) && goA (nmF pL tR) tR [] l)) ∧ Below w.heap.size w w'
/-- The event in its box; its attributes. -/
structure Bx1 (bx : Nat) (A : Option Addr) (n c : Nat) (x : RE) (W0 W : World) : Prop where
  a : W.heap[bx]? = some (.cells #[.int .i64 x.kind, .string x.sp, .string x.lo, .slice A n c, .string x.tx] 38 (0, 0))
  ta : AttsIn W A n c x.ats
  bel : Below W0.heap.size W0 W
theorem Bx1.keep {bx : Nat} {A : Option Addr} {n c : Nat} {x : RE} {W0 W W' : World} (h : Bx1 bx A n c x W0 W) (hb : Below W.heap.size W W') : Bx1 bx A n c x W0 W' :=
  ⟨(hb.block _ (Array.getElem?_eq_some_iff.1 h.a).1).trans h.a, h.ta.keep hb, h.bel.trans (hb.mono h.bel.size)⟩
set_option maxHeartbeats 8000000 in
set_option maxRecDepth 100000 in
theorem pright_of (pL tR : ByteArray → Bool) (C1 : Hid (NmC pL tR)) (C2 : Hid (StrC 48 tR)) (C3 : Hid (AtC pL tR)) (A : Option Addr) (n c : Nat) (x : RE) (w : World) (T : AttsIn w A n c x.ats) (hB : RgB x) :
    Calls Try.prog 41 #[.agg #[.int .i64 x.kind, .string x.sp, .string x.lo, .slice A n c, .string x.tx]] w fun e w' => e = .returned (.bool (rightF pL tR x)) ∧ Below w.heap.size w w' := by
  obtain ⟨W0, hW0⟩ : ∃ W0, W0 = w.alloc (.cells #[.int .i64 x.kind, .string x.sp, .string x.lo, .slice A n c, .string x.tx] 38) := ⟨_, rfl⟩
  have HX : Hid (Bx1 w.heap.size A n c x w W0) := Lib.hid (by
    rw [hW0]
    exact ⟨nblk w 38 _, T.keep ((Below.refl _ w).alloc (Nat.le_refl _) _), (Below.refl w.heap.size w).alloc (Nat.le_refl _) _⟩)
  have HN := Lib.hid (show n = x.ats.length from T.len)
  have C20 : Hid (∀ W, Calls Try.prog 45 #[.agg #[.string x.sp, .string x.lo]] W fun e w' => e = .returned (.bool (nmF pL tR (x.sp, x.lo))) ∧ Below W.heap.size W w') := Lib.hid fun W => C1.out _ _ W hB.sp hB.lo
  have C21 : Hid (∀ W, Bx1 w.heap.size A n c x w W → Calls Try.prog 46 #[.slice A n c] W fun e w' => e = .returned (.bool (decide (n ≤ 32) && goA (nmF pL tR) tR [] x.ats)) ∧ Below W.heap.size W w') := Lib.hid fun W h => C3.out A n c x.ats W h.ta hB.at_
  have C22 : Hid (∀ W, Calls Try.prog 47 #[.agg #[.int .i64 x.kind, .string x.sp, .string x.lo, .slice A n c, .string x.tx]] W fun e w' => e = .returned (.bool (noneF x)) ∧ Below W.heap.size W w') := Lib.hid fun W => bare_any A n c x W HN.out
  have C23 : Hid (∀ W, Calls Try.prog 48 #[.string x.tx] W fun e w' => e = .returned (.bool (tR x.tx)) ∧ Below W.heap.size W w') := Lib.hid fun W => C2.out _ W hB.tx
  have HK : Hid (∀ W W', Bx1 w.heap.size A n c x w W → Below W.heap.size W W' → Bx1 w.heap.size A n c x w W') := Lib.hid fun W W' h hb => h.keep hb
  obtain ⟨F, hF⟩ : ∃ F, F = rightF pL tR x := ⟨_, rfl⟩
  rw [← hF]
  have HF := Lib.hid hF
  clear T hB hF C1 C2 C3
  by_cases h2 : x.kind = 2
  · have HE : Hid (F = (noneF x && !emp x.tx && tR x.tx)) := Lib.hid (by rw [HF.out]; unfold rightF; rw [if_pos h2])
    clear HF C20 C21
    unfold emp at HE
    generalize noneF x = nn at *
    generalize tR x.tx = tt at *
    obtain ⟨kind, sp, lo, ats, tx⟩ := x
    dsimp only at *
    subst h2
    go_enter Try.func41, Try.ntmps41
    go_wp2_with fail
    generalize hw : w.alloc _ = W1 at *
    clear hw
    subst hW0
    refine (C22.out _).mono ?_
    rintro e w1 ⟨rfl, b1⟩
    replace HX := Lib.hid (HK.out _ _ HX.out b1)
    clear b1 C22
    obtain ⟨c0, c1, c2, c3, c4⟩ := cells5 HX.out.a
    clear c0 c1 c2 c3
    cases nn with
    | false =>
      have HE2 : Hid (F = false) := Lib.hid (by rw [HE.out]; rfl)
      clear HE
      go_wp2
      go_ret
      exact ⟨by rw [HE2.out] <;> rfl, HX.out.bel⟩
    | true =>
      cases t1 : tx.toList.isEmpty with
      | true =>
        have HE2 : Hid (F = false) := Lib.hid (by rw [HE.out, t1]; rfl)
        clear HE
        go_wp2
        go_ret
        exact ⟨by rw [HE2.out] <;> rfl, HX.out.bel⟩
      | false =>
        have HE2 : Hid (F = tt) := Lib.hid (by rw [HE.out, t1]; rfl)
        clear HE
        go_wp2_with fail
        refine (C23.out _).mono ?_
        rintro e w2 ⟨rfl, b2⟩
        replace HX := Lib.hid (HK.out _ _ HX.out b2)
        clear b2 C23 c4
        go_wp2
        go_ret
        exact ⟨by rw [HE2.out] <;> rfl, HX.out.bel⟩
  by_cases h3 : x.kind = 3
  · have HE : Hid (F = (noneF x && emp x.tx)) := Lib.hid (by rw [HF.out]; unfold rightF; rw [if_neg h2, if_pos h3])
    clear HF C20 C21 C23 h2
    unfold emp at HE
    generalize noneF x = nn at *
    obtain ⟨kind, sp, lo, ats, tx⟩ := x
    dsimp only at *
    subst h3
    go_enter Try.func41, Try.ntmps41
    go_wp2_with fail
    generalize hw : w.alloc _ = W1 at *
    clear hw
    subst hW0
    refine (C22.out _).mono ?_
    rintro e w1 ⟨rfl, b1⟩
    replace HX := Lib.hid (HK.out _ _ HX.out b1)
    clear b1 C22
    obtain ⟨c0, c1, c2, c3, c4⟩ := cells5 HX.out.a
    clear c0 c1 c2 c3
    cases nn with
    | false =>
      have HE2 : Hid (F = false) := Lib.hid (by rw [HE.out]; rfl)
      clear HE
      go_wp2
      go_ret
      exact ⟨by rw [HE2.out] <;> rfl, HX.out.bel⟩
    | true =>
      have HE2 : Hid (F = tx.toList.isEmpty) := Lib.hid (by rw [HE.out]; rfl)
      clear HE
      go_wp2
      go_ret
      exact ⟨by rw [HE2.out] <;> rfl, HX.out.bel⟩
  have HE : Hid (F = if x.kind ≠ 1 ∨ emp x.tx = false ∨ nmF pL tR (x.sp, x.lo) = false ∨ 32 < x.ats.length then false else goA (nmF pL tR) tR [] x.ats) := Lib.hid (by rw [HF.out]; unfold rightF; rw [if_neg h2, if_neg h3])
  have e2 : (x.kind == 2) = false := by simpa using h2
  have e3 : (x.kind == 3) = false := by simpa using h3
  clear HF C22 C23 h2 h3
  by_cases h1 : x.kind = 1
  · have HE1 : Hid (F = (nmF pL tR (x.sp, x.lo) && (decide (n ≤ 32) && goA (nmF pL tR) tR [] x.ats) && x.tx.toList.isEmpty)) := Lib.hid (by
      rw [HE.out]
      unfold emp
      rw [HN.out]
      cases nmF pL tR (x.sp, x.lo)
      · rw [if_pos (.inr (.inr (.inl rfl)))]; rfl
      · cases x.tx.toList.isEmpty
        · rw [if_pos (.inr (.inl rfl))]; simp
        · by_cases h : 32 < x.ats.length
          · rw [if_pos (.inr (.inr (.inr h))), decide_eq_false (by omega)]; rfl
          · rw [if_neg (by rintro (g | g | g | g); exact g h1; cases g; cases g; exact h g), decide_eq_true (by omega)]; simp)
    clear HE e2 e3
    generalize (decide (n ≤ 32) && goA (nmF pL tR) tR [] x.ats) = aa at *
    generalize nmF pL tR (x.sp, x.lo) = nn at *
    obtain ⟨kind, sp, lo, ats, tx⟩ := x
    dsimp only at *
    subst h1
    go_enter Try.func41, Try.ntmps41
    go_wp2_with fail
    generalize hw : w.alloc _ = W1 at *
    clear hw
    subst hW0
    refine (C20.out _).mono ?_
    rintro e w1 ⟨rfl, b1⟩
    replace HX := Lib.hid (HK.out _ _ HX.out b1)
    clear b1 C20
    cases nn with
    | false =>
      have HE2 : Hid (F = false) := Lib.hid (by rw [HE1.out]; rfl)
      clear HE1
      go_wp2
      go_ret
      exact ⟨by rw [HE2.out] <;> rfl, HX.out.bel⟩
    | true =>
      obtain ⟨c0, c1, c2, c3, c4⟩ := cells5 HX.out.a
      clear c0 c1 c2 c4
      go_wp2_with fail
      refine (C21.out _ HX.out).mono ?_
      rintro e w2 ⟨rfl, b2⟩
      replace HX := Lib.hid (HK.out _ _ HX.out b2)
      clear b2 C21 c3
      obtain ⟨c0, c1, c2, c3, c4⟩ := cells5 HX.out.a
      clear c0 c1 c2 c3
      cases aa with
      | false =>
        have HE2 : Hid (F = false) := Lib.hid (by rw [HE1.out]; rfl)
        clear HE1
        go_wp2
        go_ret
        exact ⟨by rw [HE2.out] <;> rfl, HX.out.bel⟩
      | true =>
        have HE2 : Hid (F = tx.toList.isEmpty) := Lib.hid (by rw [HE1.out]; rfl)
        clear HE1
        go_wp2
        go_ret
        exact ⟨by rw [HE2.out] <;> rfl, HX.out.bel⟩
  · have HE2 : Hid (F = false) := Lib.hid (by rw [HE.out, if_pos (.inl h1)])
    have e1 : (x.kind == 1) = false := by simpa using h1
    clear HE C20 C21 h1
    obtain ⟨kind, sp, lo, ats, tx⟩ := x
    dsimp only at *
    go_enter Try.func41, Try.ntmps41
    go_wp2_with fail
    generalize hw : w.alloc _ = W1 at *
    clear hw
    subst hW0
    go_ret
    exact ⟨by rw [HE2.out] <;> rfl, HX.out.bel⟩
theorem pright_c (pL tR : ByteArray → Bool) (C1 : Hid (StrC 52 pL)) (C2 : Hid (StrC 48 tR)) : EvP pL tR := fun A n c x W T hB => by
  have CN : Hid (NmC pL tR) := Lib.hid fun sp lo W h1 h2 => pnamed_any pL tR C1 C2 sp lo W h1 h2
  have CA : Hid (AtC pL tR) := Lib.hid fun A n c l W T hB => attributed_any pL tR CN C2 A n c l W T hB
  exact pright_of pL tR CN C2 CA A n c x W T hB
end Go.Proofs.Ytaoggciebkaakaa.Ev

/- The walk of utf.Rune. -/
namespace Go.Proofs.Ytaoggciebkaakaa
open Go.RowKit

def R3 (x : Int × Int × Int) : Value := .tuple #[.int .i32 x.1, .int .i64 x.2.1, .int .i64 x.2.2]

theorem poss_true (r : Int) (k n : Nat) (w : World) (h0 : 0 ≤ r) (h1 : r * p64 (n - k) < 2097152) (hk : 1 ≤ k) (hn : k ≤ n) (h4 : n ≤ 4) (h : possB r k n = true) :
    Calls Try.prog 62 #[.int .i32 r, .int .i64 k, .int .i64 n] w fun e w' => e = .returned (.bool true) ∧ w = w' := by
  rw [← h]; exact poss_any r k n w h0 h1 hk hn h4
theorem poss_false (r : Int) (k n : Nat) (w : World) (h0 : 0 ≤ r) (h1 : r * p64 (n - k) < 2097152) (hk : 1 ≤ k) (hn : k ≤ n) (h4 : n ≤ 4) (h : possB r k n = false) :
    Calls Try.prog 62 #[.int .i32 r, .int .i64 k, .int .i64 n] w fun e w' => e = .returned (.bool false) ∧ w = w' := by
  rw [← h]; exact poss_any r k n w h0 h1 hk hn h4

theorem leadR_bd (b : Int) (h0 : 0 ≤ b) (h1 : b < 256) (h : leadN b ≠ 0) : 1 ≤ leadN b ∧ leadN b ≤ 4 ∧ 0 ≤ leadR b ∧ leadR b * p64 (leadN b - 1) < 2097152 := by
  unfold leadN leadR at *
  by_cases q1 : b < 128
  · simp only [q1, if_true, Nat.reduceSub, p64_0]; omega
  by_cases q2 : b < 192
  · simp [q1, q2] at h
  by_cases q3 : b < 224
  · simp only [q1, q2, q3, if_true, if_false, Nat.reduceSub, p64_1]; omega
  by_cases q4 : b < 240
  · simp only [q1, q2, q3, q4, if_true, if_false, Nat.reduceSub, p64_2]; omega
  by_cases q5 : b < 248
  · simp only [q1, q2, q3, q4, q5, if_true, if_false, Nat.reduceSub, p64_3]; omega
  · simp [q1, q2, q3, q4, q5] at h

theorem next_bd (r b : Int) (n k : Nat) (h : k < n) (h4 : n ≤ 4) (h1 : 1 ≤ k) (hr : 0 ≤ r) (hb : r * p64 (n - k) < 2097152) :
    0 ≤ r * 64 + b % 64 ∧ (r * 64 + b % 64) * p64 (n - (k + 1)) < 2097152 := by
  have h : (k = 1 ∧ n = 2) ∨ (k = 1 ∧ n = 3) ∨ (k = 2 ∧ n = 3) ∨ (k = 1 ∧ n = 4) ∨ (k = 2 ∧ n = 4) ∨ (k = 3 ∧ n = 4) := by omega
  rcases h with ⟨rfl, rfl⟩ | ⟨rfl, rfl⟩ | ⟨rfl, rfl⟩ | ⟨rfl, rfl⟩ | ⟨rfl, rfl⟩ | ⟨rfl, rfl⟩
  all_goals
    simp only [Nat.reduceSub, Nat.reduceAdd, p64_0, p64_1, p64_2, p64_3] at hb ⊢
    omega

theorem r_small (r : Int) (n k : Nat) (h : k < n) (h4 : n ≤ 4) (h1 : 1 ≤ k) (hr : 0 ≤ r) (hb : r * p64 (n - k) < 2097152) : r < 32768 := by
  have h : (k = 1 ∧ n = 2) ∨ (k = 1 ∧ n = 3) ∨ (k = 2 ∧ n = 3) ∨ (k = 1 ∧ n = 4) ∨ (k = 2 ∧ n = 4) ∨ (k = 3 ∧ n = 4) := by omega
  rcases h with ⟨rfl, rfl⟩ | ⟨rfl, rfl⟩ | ⟨rfl, rfl⟩ | ⟨rfl, rfl⟩ | ⟨rfl, rfl⟩ | ⟨rfl, rfl⟩
  all_goals
    simp only [Nat.reduceSub, p64_1, p64_2, p64_3] at hb
    omega

set_option maxHeartbeats 1000000 in
set_option maxRecDepth 100000 in
theorem rune_in (s : ByteArray) (a : Nat) (w : World) (hs : s.size ≤ maxLen) (ha : a < s.size) :
    Calls Try.prog 53 #[.string s, .int .i64 a] w fun e w' => e = .returned (R3 (rgo (fun k => bt s (a + k)) (s.size - a) (leadN (bt s a)) 4 1 (leadR (bt s a)))) ∧ w = w' := by
  unfold maxLen at hs
  have b0 := bt_lo s a
  have b1 := bt_hi s a
  have t1 : decide ((a : Int) < 0) = false := by simp
  have t2 : decide (s.size ≤ a) = false := by simp; omega
  have HR := leadR_bd (bt s a) b0 b1
  have HB := Lib.hid (bt_eq s a ha)
  generalize hR : rgo (fun k => bt s (a + k)) (s.size - a) (leadN (bt s a)) 4 1 (leadR (bt s a)) = R
  have HR2 := Lib.hid hR
  clear hR
  by_cases hn : leadN (bt s a) = 0
  · have hR2 := HR2.out
    rw [hn, rgo0] at hR2
    subst hR2
    clear HR HR2
    have hn' : ((leadN (bt s a) : Nat) : Int) = 0 := by omega
    clear hn
    go_enter Try.func53, Try.ntmps53
    go_wp2_with fail
    rw [HB.out]
    refine (lead_any _ _ b0 b1).mono ?_
    rintro e w' ⟨rfl, rfl⟩
    rw [hn']
    clear hn'
    generalize leadR (bt s a) = r at *
    go_wp2_with fail
    refine wp_loop_rounds 1 ?_
    rw [rounds_succ]
    go_wp2_with (go_at_call 62; refine (poss_zero _ _ _).mono ?_; rintro e w' ⟨rfl, rfl⟩)
    go_ret3
    exact ⟨rfl, rfl⟩
  obtain ⟨n1, n4, r0, r1⟩ := HR hn
  clear hn HR
  go_enter Try.func53, Try.ntmps53
  go_wp2_with fail
  rw [HB.out]
  refine (lead_any _ _ b0 b1).mono ?_
  rintro e w' ⟨rfl, rfl⟩
  generalize leadN (bt s a) = n at *
  generalize leadR (bt s a) = r at *
  go_wp2_with fail
  go_loop [7, 9, 10] (fun q i _ => ∃ (k : Nat) (r' : Int), 1 ≤ k ∧ k ≤ n ∧ 0 ≤ r' ∧ r' * p64 (n - k) < 2097152 ∧ a + k ≤ s.size ∧ i = .int .i64 k ∧ q = .int .i32 r' ∧ rgo (fun k => bt s (a + k)) (s.size - a) n (5 - k) k r' = R) (fun _ i _ => 5 - (intOf i).toNat)
  case atStart => exact ⟨1, r, by omega, n1, r0, r1, by omega, rfl, rfl, HR2.out⟩
  case round =>
    obtain ⟨k, r', k1, kn, q0, q1, ka, rfl, rfl, hrel⟩ := hrel
    have e5 : 5 - k = (4 - k) + 1 := by omega
    rw [e5, rgo_step] at hrel
    clear e5 HR2 r0 r1 b0 b1 HB t1 t2
    have c0 := bt_lo s (a + k)
    have c1 := bt_hi s (a + k)
    by_cases hp : possB r' k n = false
    · rw [if_pos hp] at hrel
      have HR := Lib.hid hrel
      clear hrel
      go_wp2_with (go_at_call 62; refine (poss_false _ _ _ _ q0 q1 k1 kn n4 hp).mono ?_; rintro e w' ⟨rfl, rfl⟩)
      go_ret3
      exact ⟨by rw [← HR.out]; rfl, rfl⟩
    rw [if_neg hp] at hrel
    have hp' : possB r' k n = true := by simpa using hp
    clear hp
    by_cases hk : k = n
    · subst hk
      rw [if_pos rfl] at hrel
      have HR := Lib.hid hrel
      clear hrel
      go_wp2_with (go_at_call 62; refine (poss_true _ _ _ _ q0 q1 k1 kn n4 hp').mono ?_; rintro e w' ⟨rfl, rfl⟩)
      go_ret3
      exact ⟨by rw [← HR.out]; rfl, rfl⟩
    rw [if_neg hk] at hrel
    have tk : ((k : Int) == (n : Int)) = false := by simp; omega
    by_cases hl : k = s.size - a
    · rw [if_pos hl] at hrel
      have HR := Lib.hid hrel
      clear hrel hk
      have tl : ((a : Int) + (k : Int) == (s.size : Int)) = true := by simp; omega
      clear hl
      go_wp2_with (go_at_call 62; refine (poss_true _ _ _ _ q0 q1 k1 kn n4 hp').mono ?_; rintro e w' ⟨rfl, rfl⟩)
      go_ret3
      exact ⟨by rw [← HR.out]; rfl, rfl⟩
    rw [if_neg hl] at hrel
    have hlt : a + k < s.size := by omega
    have tl : ((a : Int) + (k : Int) == (s.size : Int)) = false := by simp; omega
    have HB := Lib.hid (bt_eq s (a + k) hlt)
    have hkn : k < n := by omega
    have hsm := r_small r' n k hkn n4 k1 q0 q1
    have hby : (s[a + k].toNat : Int) < 256 := by have := s[a + k].toNat_lt; omega
    by_cases hc : bt s (a + k) / 64 = 2
    · rw [if_pos hc] at hrel
      have HR := Lib.hid hrel
      have hc' : ((s[a + k].toNat : Int) / 64 != 2) = false := by rw [HB.out, hc]; rfl
      have NB := Lib.hid (next_bd r' (bt s (a + k)) n k hkn n4 k1 q0 q1)
      clear hl hk hrel hc c0 c1
      go_wp2_with (go_at_call 62; refine (poss_true _ _ _ _ q0 q1 k1 kn n4 hp').mono ?_; rintro e w' ⟨rfl, rfl⟩)
      go_round
      case rel => exact ⟨k + 1, r' * 64 + bt s (a + k) % 64, by omega, by omega, NB.out.1, NB.out.2, by omega, by go_num, by rw [HB.out], by rw [← HR.out]; congr 1; omega⟩
      case measure => simp [intOf]; omega
    · rw [if_neg hc] at hrel
      have HR := Lib.hid hrel
      have hc' : ((s[a + k].toNat : Int) / 64 != 2) = true := by rw [HB.out]; simpa using hc
      clear hl hk hrel hc c0 c1
      go_wp2_with (go_at_call 62; refine (poss_true _ _ _ _ q0 q1 k1 kn n4 hp').mono ?_; rintro e w' ⟨rfl, rfl⟩)
      go_ret3
      exact ⟨by rw [← HR.out]; rfl, rfl⟩
end Go.Proofs.Ytaoggciebkaakaa

/- The decoder's loop comes to what the table of first bytes says. -/
set_option linter.unusedSimpArgs false
set_option linter.unusedVariables false
namespace Go.Proofs.Ytaoggciebkaakaa
set_option maxHeartbeats 2000000 in
theorem rgo_canon (b : Nat → Int) (left : Nat) (hl : 1 ≤ left) (h0 : ∀ k, 0 ≤ b k) (h1 : ∀ k, b k < 256) :
    rgo b left (leadN (b 0)) 4 1 (leadR (b 0)) = canon b left := by
  have a0 := h0 0; have a1 := h1 0
  have b0 := h0 1; have b1 := h1 1
  have c0 := h0 2; have c1 := h1 2
  have d0 := h0 3; have d1 := h1 3
  unfold leadN leadR canon
  generalize e0 : b 0 = x0 at *
  by_cases q1 : x0 < 128
  · simp only [q1, if_true, rgo_step, possB_false, p64, most, least]
    simp
    omega
  by_cases q2 : x0 < 192
  · have : x0 < 194 := by omega
    simp only [q1, q2, this, if_true, if_false, rgo0]
  by_cases q3 : x0 < 224
  · simp only [q1, q2, q3, if_true, if_false, rgo_step, possB_false, p64_0, p64_1, p64_2, p64_3, least2, least3, least4, most2, most3, most4, Nat.reduceSub, Nat.reduceEqDiff, Nat.reduceAdd, false_or, e0]
    repeat' split
    all_goals (first | rfl | (exfalso; omega) | (refine tri ?_ ?_ ?_ <;> omega))
  by_cases q4 : x0 < 240
  · simp only [q1, q2, q3, q4, if_true, if_false, rgo_step, possB_false, p64_0, p64_1, p64_2, p64_3, least2, least3, least4, most2, most3, most4, Nat.reduceSub, Nat.reduceEqDiff, Nat.reduceAdd, false_or, e0]
    repeat' split
    all_goals (first | rfl | (exfalso; omega) | (refine tri ?_ ?_ ?_ <;> omega))
  by_cases q5 : x0 < 248
  · simp only [q1, q2, q3, q4, q5, if_true, if_false, rgo_step, possB_false, p64_0, p64_1, p64_2, p64_3, least2, least3, least4, most2, most3, most4, Nat.reduceSub, Nat.reduceEqDiff, Nat.reduceAdd, false_or, e0]
    repeat' split
    all_goals (first | rfl | (exfalso; omega) | (refine tri ?_ ?_ ?_ <;> omega))
  · have q6 : ¬ x0 < 245 := by omega
    simp only [q1, q2, q3, q4, q5, q6, if_false, rgo0]
    split
    · rfl
    · rfl
end Go.Proofs.Ytaoggciebkaakaa

/- utf.Rune, of whatever bytes, at whatever place. -/
set_option linter.unusedSimpArgs false
set_option linter.unusedVariables false
namespace Go.Proofs.Ytaoggciebkaakaa
open Go.RowKit

set_option maxHeartbeats 400000 in
theorem rune_out (s : ByteArray) (a : Int) (w : World) (hs : s.size ≤ maxLen) (ha : a < 0 ∨ (s.size : Int) ≤ a) :
    Calls Try.prog 53 #[.string s, .int .i64 a] w fun e w' => e = .returned (R3 (0, 0, 7)) ∧ w = w' := by
  unfold maxLen at hs
  by_cases h : a < 0
  · clear ha
    go_enter Try.func53, Try.ntmps53
    go_wp2
    go_ret3
    exact ⟨rfl, rfl⟩
  · have h2 : (s.size : Int) ≤ a := by omega
    clear ha
    go_enter Try.func53, Try.ntmps53
    go_wp2
    go_ret3
    exact ⟨rfl, rfl⟩

theorem rune_any (s : ByteArray) (a : Int) (w : World) (hs : s.size ≤ maxLen) :
    Calls Try.prog 53 #[.string s, .int .i64 a] w fun e w' => e = .returned (R3 (runeF s a)) ∧ w = w' := by
  unfold runeF
  by_cases h : a < 0 ∨ (s.size : Int) ≤ a
  · rw [if_pos h]
    exact rune_out s a w hs h
  · rw [if_neg h]
    obtain ⟨n, rfl⟩ := Int.eq_ofNat_of_zero_le (show 0 ≤ a by omega)
    rw [Int.toNat_natCast, ← rgo_canon _ _ (by omega) (fun k => bt_lo s _) (fun k => bt_hi s _)]
    exact rune_in s n w hs (by omega)
theorem rune_at (s : ByteArray) (a : Nat) (w : World) (hs : s.size ≤ maxLen) :
    Calls Try.prog 53 #[.string s, .int .i64 a] w fun e w' => e = .returned (.tuple #[.int .i32 (runeF s a).1, .int .i64 (runeF s a).2.1, .int .i64 (runeF s a).2.2]) ∧ w = w' := rune_any s a w hs
end Go.Proofs.Ytaoggciebkaakaa

/- Plain mathematics: the four classes of runes, as propositions that are decided. -/
set_option linter.unusedSimpArgs false
set_option linter.unusedVariables false
namespace Go.Proofs.Ytaoggciebkaakaa

def Btw (r a b : Int) : Prop := a ≤ r ∧ r ≤ b
def Blank (r : Int) : Prop := r = 9 ∨ r = 10 ∨ r = 13 ∨ r = 32
def Chr (r : Int) : Prop := r = 9 ∨ r = 10 ∨ r = 13 ∨ Btw r 32 55295 ∨ Btw r 57344 65533 ∨ Btw r 65536 1114111
def Start (r : Int) : Prop :=
  Btw r 65 90 ∨ Btw r 97 122 ∨ r = 95 ∨ Btw r 192 214 ∨ Btw r 216 246 ∨ Btw r 248 767 ∨ Btw r 880 893 ∨ Btw r 895 8191 ∨ Btw r 8204 8205 ∨ Btw r 8304 8591 ∨
  Btw r 11264 12271 ∨ Btw r 12289 55295 ∨ Btw r 63744 64975 ∨ Btw r 65008 65533 ∨ Btw r 65536 983039
def Part (r : Int) : Prop := Start r ∨ r = 45 ∨ r = 46 ∨ Btw r 48 57 ∨ r = 183 ∨ Btw r 768 879 ∨ Btw r 8255 8256

instance (r a b : Int) : Decidable (Btw r a b) := inferInstanceAs (Decidable (a ≤ r ∧ r ≤ b))
instance (r : Int) : Decidable (Blank r) := inferInstanceAs (Decidable (r = 9 ∨ r = 10 ∨ r = 13 ∨ r = 32))
instance (r : Int) : Decidable (Chr r) := inferInstanceAs (Decidable (r = 9 ∨ r = 10 ∨ r = 13 ∨ Btw r 32 55295 ∨ Btw r 57344 65533 ∨ Btw r 65536 1114111))
instance (r : Int) : Decidable (Start r) := by unfold Start; infer_instance
instance (r : Int) : Decidable (Part r) := by unfold Part; infer_instance

end Go.Proofs.Ytaoggciebkaakaa

/- Walks: what char's classes return (between, Blank, Char, Start, Part), whatever the world. -/
set_option linter.unusedSimpArgs false
set_option linter.unusedVariables false
namespace Go.Proofs.Ytaoggciebkaakaa
open Go.RowKit

theorem cret_bool {a b : Bool} (h : a = b) : Ending.returned (.bool a) = .returned (.bool b) := by rw [h]
theorem cbt {p : Prop} [Decidable p] (h : p) : true = decide p := (decide_eq_true h).symm
theorem cbf {p : Prop} [Decidable p] (h : ¬ p) : false = decide p := (decide_eq_false h).symm

set_option maxHeartbeats 400000 in
theorem between_any (r a b : Int) (w : World) : Calls Try.prog 64 #[.int .i32 r, .int .i32 a, .int .i32 b] w fun e w' => e = .returned (.bool (decide (Btw r a b))) ∧ w = w' := by
  go_enter Try.func64, Try.ntmps64
  go_wp2
  all_goals
    go_ret
    refine ⟨cret_bool ?_, rfl⟩
    first
      | refine cbt ?_
      | refine cbf ?_
      | (refine Bool.eq_iff_iff.2 ?_; simp only [decide_eq_true_eq, Bool.or_eq_true, beq_iff_eq])
    simp only [Part, Start, Chr, Blank, Btw] at *
    first
      | omega
      | (constructor <;> intro hq <;> omega)

set_option maxHeartbeats 400000 in
set_option maxRecDepth 100000 in
theorem blank_any (r : Int) (w : World) : Calls Try.prog 63 #[.int .i32 r] w fun e w' => e = .returned (.bool (decide (Blank r))) ∧ w = w' := by
  go_enter Try.func63, Try.ntmps63
  go_wp2
  all_goals
    go_ret
    refine ⟨cret_bool ?_, rfl⟩
    first
      | refine cbt ?_
      | refine cbf ?_
      | (refine Bool.eq_iff_iff.2 ?_; simp only [decide_eq_true_eq, Bool.or_eq_true, beq_iff_eq])
    simp only [Part, Start, Chr, Blank, Btw] at *
    first
      | omega
      | (constructor <;> intro hq <;> omega)

set_option maxHeartbeats 1000000 in
set_option maxRecDepth 100000 in
theorem chr_any (r : Int) (w : World) : Calls Try.prog 54 #[.int .i32 r] w fun e w' => e = .returned (.bool (decide (Chr r))) ∧ w = w' := by
  go_enter Try.func54, Try.ntmps54
  go_wp2_with (first | (go_at_call 63; refine (blank_any _ _).mono ?_; rintro e w' ⟨rfl, rfl⟩) | (go_at_call 64; refine (between_any _ _ _ _).mono ?_; rintro e w' ⟨rfl, rfl⟩))
  all_goals
    go_ret
    refine ⟨cret_bool ?_, rfl⟩
    first
      | refine cbt ?_
      | refine cbf ?_
      | (refine Bool.eq_iff_iff.2 ?_; simp only [decide_eq_true_eq, Bool.or_eq_true, beq_iff_eq])
    simp only [Part, Start, Chr, Blank, Btw] at *
    first
      | omega
      | (constructor <;> intro hq <;> omega)

end Go.Proofs.Ytaoggciebkaakaa

/- Walks: what char's classes return (between, Start, Part), whatever the world. -/
set_option linter.unusedSimpArgs false
set_option linter.unusedVariables false
namespace Go.Proofs.Ytaoggciebkaakaa.Nz
open Go.RowKit

theorem ret_bool {a b : Bool} (h : a = b) : Ending.returned (.bool a) = .returned (.bool b) := by rw [h]
theorem bt {p : Prop} [Decidable p] (h : p) : true = decide p := (decide_eq_true h).symm
theorem bf {p : Prop} [Decidable p] (h : ¬ p) : false = decide p := (decide_eq_false h).symm

set_option maxHeartbeats 400000 in
theorem between_any (r a b : Int) (w : World) : Calls Try.prog 64 #[.int .i32 r, .int .i32 a, .int .i32 b] w fun e w' => e = .returned (.bool (decide (Btw r a b))) ∧ w = w' := by
  go_enter Try.func64, Try.ntmps64
  go_wp2
  all_goals
    go_ret
    refine ⟨ret_bool ?_, rfl⟩
    first
      | refine bt ?_
      | refine bf ?_
      | (refine Bool.eq_iff_iff.2 ?_; simp only [decide_eq_true_eq, Bool.or_eq_true, beq_iff_eq])
    simp only [Part, Start, Chr, Blank, Btw] at *
    first
      | omega
      | (constructor <;> intro hq <;> omega)

set_option maxHeartbeats 4000000 in
set_option maxRecDepth 100000 in
theorem start_any (r : Int) (w : World) : Calls Try.prog 59 #[.int .i32 r] w fun e w' => e = .returned (.bool (decide (Start r))) ∧ w = w' := by
  go_enter Try.func59, Try.ntmps59
  go_wp2_with (first | (go_at_call 64; refine (between_any _ _ _ _).mono ?_; rintro e w' ⟨rfl, rfl⟩))
  all_goals
    go_ret
    refine ⟨ret_bool ?_, rfl⟩
    first
      | refine bt ?_
      | refine bf ?_
      | (refine Bool.eq_iff_iff.2 ?_; simp only [decide_eq_true_eq, Bool.or_eq_true, beq_iff_eq])
    simp only [Part, Start, Chr, Blank, Btw] at *
    first
      | omega
      | (constructor <;> intro hq <;> omega)

set_option maxHeartbeats 4000000 in
set_option maxRecDepth 100000 in
theorem part_any (r : Int) (w : World) : Calls Try.prog 60 #[.int .i32 r] w fun e w' => e = .returned (.bool (decide (Part r))) ∧ w = w' := by
  go_enter Try.func60, Try.ntmps60
  go_wp2_with (first | (go_at_call 59; refine (start_any _ _).mono ?_; rintro e w' ⟨rfl, rfl⟩) | (go_at_call 64; refine (between_any _ _ _ _).mono ?_; rintro e w' ⟨rfl, rfl⟩))
  all_goals
    go_ret
    refine ⟨ret_bool ?_, rfl⟩
    first
      | refine bt ?_
      | refine bf ?_
      | (refine Bool.eq_iff_iff.2 ?_; simp only [decide_eq_true_eq, Bool.or_eq_true, beq_iff_eq])
    simp only [Part, Start, Chr, Blank, Btw] at *
    first
      | omega
      | (constructor <;> intro hq <;> omega)

end Go.Proofs.Ytaoggciebkaakaa.Nz

/- []rune(s) in memory: a slice that reads as the text's runes. -/
set_option linter.unusedSimpArgs false
set_option linter.unusedVariables false
namespace Go.Proofs.Ytaoggciebkaakaa.Nz
open Go.RowKit

/-- A text's runes from a place on. -/
def rgo (s : ByteArray) : Nat → Nat → List Int
  | 0, _ => []
  | f + 1, i => if i < s.size then ((Utf8.decode s i).1 : Int) :: rgo s f (i + (Utf8.decode s i).2) else []
def runes (s : ByteArray) : List Int := rgo s s.size 0

theorem width_pos (s : ByteArray) (pos : Nat) (h : pos < s.size) : 1 ≤ (Utf8.decode s pos).2 := by
  by_cases ha : (s[pos]'h).toNat < 128
  · rw [decode_ascii s pos h ha]
    exact Nat.le_refl _
  · exact (decode_high s pos h (by omega)).2
theorem Blk0 (w : World) (t : TypeId) (cs : Array Value) (i : Nat) : (w.alloc (.cells cs t)).cell? ⟨w.heap.size, i, none⟩ = cs[i]? := World.cell?_alloc_mark w cs t (0, 0) i
theorem runesFrom_eq (s : ByteArray) : ∀ (b i : Nat) (acc : Array Value), Conv.runesFrom s b i acc = acc ++ ((rgo s b i).map (Value.int .i32)).toArray
  | 0, i, acc => by simp [Conv.runesFrom, rgo]
  | b + 1, i, acc => by
    unfold Conv.runesFrom rgo
    by_cases h : i < s.size
    · simp only [h, if_true]
      rw [runesFrom_eq s b]
      simp
    · simp [h]
theorem runesFrom_runes (s : ByteArray) : Conv.runesFrom s s.size 0 #[] = ((runes s).map (Value.int .i32)).toArray := by
  rw [runesFrom_eq]
  simp [runes]
theorem rgo_len (s : ByteArray) : ∀ (b i : Nat), (rgo s b i).length ≤ b
  | 0, i => by simp [rgo]
  | b + 1, i => by
    unfold rgo
    split
    · have := rgo_len s b (i + (Utf8.decode s i).2)
      simp only [List.length_cons]
      omega
    · simp
theorem runes_len (s : ByteArray) : (runes s).length ≤ s.size := rgo_len s s.size 0

/-- What '[]rune(s)' leaves. -/
def ConvPost (w : World) (s : ByteArray) (c : Nat) (w1 : World) : Prop :=
  (convert 9 74 (.string s)).run Try.prog w = .ok (.slice (some ⟨w.heap.size, 0, none⟩) (runes s).length c) w1 ∧ Below w.heap.size w w1 ∧ w1.heap.size = w.heap.size + 1 ∧
    ∀ j, j < (runes s).length → w1.cell? ⟨w.heap.size, j, none⟩ = some (.int .i32 ((runes s).getD j 0))
theorem conv_runes (w : World) (s : ByteArray) (hs : s.size ≤ 10000) : ∃ c w1, ConvPost w s c w1 := by
  have hl := runes_len s
  have hrun := run_runes_of_string (P := Try.prog) w 9 74 21 s Try.underlying9 Try.underlying74 Try.underlying21 (by rw [runesFrom_runes]; simp; omega)
  rw [runesFrom_runes] at hrun
  have hz : ((runes s).map (Value.int .i32)).toArray.size = (runes s).length := by simp
  rw [hz] at hrun
  refine ⟨_, _, hrun, ((Below.refl _ w).drew).alloc (Nat.le_refl _) _, by simp, fun j hj => ?_⟩
  have hb := Blk0 w.drew 21 (((runes s).map (Value.int .i32)).toArray ++ Array.replicate (grownCap w (runes s).length 0 21 - (runes s).length) (.int .i32 0)) j
  refine hb.trans ?_
  rw [Array.getElem?_append_left (by simpa using hj)]
  simp [List.getElem?_eq_getElem hj]
end Go.Proofs.Ytaoggciebkaakaa.Nz

/- Plain mathematics: a text's runes, over its bytes as a list: what a blank between, and what is encoded, is decoded to. -/
set_option linter.unusedSimpArgs false
set_option linter.unusedVariables false
namespace Go.Proofs.Ytaoggciebkaakaa.Nz
open Go.RowKit

def bl (s : ByteArray) : List Nat := s.data.toList.map UInt8.toNat
def dN (L : List Nat) : Nat × Nat := Lib.decodeN L.length (L.getD 0 0) (L.getD 1 0) (L.getD 2 0) (L.getD 3 0)
def rl : Nat → List Nat → List Int
  | 0, _ => []
  | f + 1, L => if L = [] then [] else ((dN L).1 : Int) :: rl f (L.drop (dN L).2)
def Rn (L : List Nat) : List Int := rl L.length L

theorem bl_len (s : ByteArray) : (bl s).length = s.size := by simp [bl]
theorem get_bl (s : ByteArray) (i k : Nat) : (s.get! (i + k)).toNat = ((bl s).drop i).getD k 0 := by
  rw [List.getD_eq_getElem?_getD, List.getElem?_drop]
  unfold bl
  rw [List.getElem?_map]
  show (s.data[i + k]!).toNat = _
  by_cases h : i + k < s.data.size
  · rw [getElem!_pos s.data (i + k) h]
    rw [Array.getElem?_toList, Array.getElem?_eq_getElem h]
    rfl
  · rw [getElem!_neg s.data (i + k) h, Array.getElem?_toList, Array.getElem?_eq_none (by omega)]
    rfl
theorem dec_dN (s : ByteArray) (i : Nat) : Utf8.decode s i = dN ((bl s).drop i) := by
  rw [Lib.decode_at]
  unfold dN
  rw [List.length_drop, bl_len, ← get_bl s i 0, ← get_bl s i 1, ← get_bl s i 2, ← get_bl s i 3]
  rfl

theorem dN_width (L : List Nat) (h : L ≠ []) : 1 ≤ (dN L).2 ∧ (dN L).2 ≤ L.length := by
  have hl : 1 ≤ L.length := List.length_pos_iff.2 h
  unfold dN Lib.decodeN
  repeat' split
  all_goals refine ⟨?_, ?_⟩ <;> simp <;> omega
theorem rl_nil (f : Nat) : rl f [] = [] := by cases f <;> simp [rl]
theorem rl_fuel : ∀ (f g : Nat) (L : List Nat), L.length ≤ f → L.length ≤ g → rl f L = rl g L
  | 0, g, L, h1, h2 => by
    have : L = [] := List.eq_nil_of_length_eq_zero (by omega)
    subst this
    rw [rl_nil, rl_nil]
  | f + 1, 0, L, h1, h2 => by
    have : L = [] := List.eq_nil_of_length_eq_zero (by omega)
    subst this
    rw [rl_nil, rl_nil]
  | f + 1, g + 1, L, h1, h2 => by
    by_cases h : L = []
    · subst h; rw [rl_nil, rl_nil]
    · have hw := dN_width L h
      simp only [rl, h, if_false]
      rw [rl_fuel f g (L.drop (dN L).2) (by simp; omega) (by simp; omega)]
theorem Rn_cons (L : List Nat) (h : L ≠ []) : Rn L = ((dN L).1 : Int) :: Rn (L.drop (dN L).2) := by
  have hl : 1 ≤ L.length := List.length_pos_iff.2 h
  have hw := dN_width L h
  unfold Rn
  obtain ⟨f, hf⟩ : ∃ f, L.length = f + 1 := ⟨L.length - 1, by omega⟩
  rw [hf]
  simp only [rl, h, if_false]
  rw [rl_fuel f (L.drop (dN L).2).length (L.drop (dN L).2) (by simp; omega) (Nat.le_refl _)]
theorem rgo_rl (s : ByteArray) : ∀ (b i : Nat), rgo s b i = rl b ((bl s).drop i)
  | 0, i => rfl
  | b + 1, i => by
    unfold rgo rl
    by_cases h : i < s.size
    · have hne : (bl s).drop i ≠ [] := by
        intro h2
        have := congrArg List.length h2
        simp [bl_len] at this
        omega
      rw [if_pos h, if_neg hne, rgo_rl s b, dec_dN, List.drop_drop]
    · have he : (bl s).drop i = [] := by
        rw [List.drop_eq_nil_iff, bl_len]
        omega
      rw [if_neg h, if_pos he]
theorem runes_Rn (s : ByteArray) : runes s = Rn (bl s) := by
  unfold runes Rn
  rw [rgo_rl, List.drop_zero, bl_len]

end Go.Proofs.Ytaoggciebkaakaa.Nz

/- Plain mathematics: plain names, the stretch of a name, the first colon, over a text's bytes as a list. -/
set_option linter.unusedSimpArgs false
set_option linter.unusedVariables false
namespace Go.Proofs.Ytaoggciebkaakaa.Nz
open Go.RowKit

/-- May the rune stand in a stretch: in a name, or as a colon. -/
def Ok (r : Int) : Prop := r = 58 ∨ Part r
instance (r : Int) : Decidable (Ok r) := inferInstanceAs (Decidable (r = 58 ∨ Part r))

/-- A plain name, of its runes. -/
def plR : List Int → Bool
  | [] => false
  | x :: l => decide (Start x) && (x :: l).all (fun r => decide (Part r))
def pl (L : List Nat) : Bool := plR (Rn L)

/-- How many bytes the stretch has that stands first. -/
def sp : Nat → List Nat → Nat
  | 0, _ => 0
  | f + 1, L => if L = [] then 0 else if Ok ((dN L).1 : Int) then (dN L).2 + sp f (L.drop (dN L).2) else 0
end Go.Proofs.Ytaoggciebkaakaa.Nz

/- Walks: what the document's own classes return (Start, Part), whatever the world. -/
set_option linter.unusedSimpArgs false
set_option linter.unusedVariables false
namespace Go.Proofs.Ytaoggciebkaakaa.Nz
open Go.RowKit

set_option maxHeartbeats 4000000 in
set_option maxRecDepth 100000 in
theorem rstart_any (r : Int) (w : World) : Calls Try.prog 57 #[.int .i64 r] w fun e w' => e = .returned (.bool (decide (Start r))) ∧ w = w' := by
  go_enter Try.func57, Try.ntmps57
  go_wp2
  all_goals
    go_ret
    refine ⟨ret_bool ?_, rfl⟩
    first
      | refine bt ?_
      | refine bf ?_
      | (refine Bool.eq_iff_iff.2 ?_; simp only [decide_eq_true_eq, Bool.or_eq_true, beq_iff_eq])
    try simp only [beq_iff_eq, Bool.or_eq_true, Bool.and_eq_true, decide_eq_true_eq, decide_eq_false_iff_not, beq_eq_false_iff_ne] at *
    simp only [Part, Start, Chr, Blank, Btw] at *
    first
      | omega
      | (constructor <;> intro hq <;> omega)

set_option maxHeartbeats 4000000 in
set_option maxRecDepth 100000 in
theorem rpart_any (r : Int) (w : World) : Calls Try.prog 58 #[.int .i64 r] w fun e w' => e = .returned (.bool (decide (Part r))) ∧ w = w' := by
  go_enter Try.func58, Try.ntmps58
  go_wp2_with (first | (go_at_call 57; refine (rstart_any _ _).mono ?_; rintro e w' ⟨rfl, rfl⟩))
  all_goals
    go_ret
    refine ⟨ret_bool ?_, rfl⟩
    first
      | refine bt ?_
      | refine bf ?_
      | (refine Bool.eq_iff_iff.2 ?_; simp only [decide_eq_true_eq, Bool.or_eq_true, beq_iff_eq])
    try simp only [beq_iff_eq, Bool.or_eq_true, Bool.and_eq_true, decide_eq_true_eq, decide_eq_false_iff_not, beq_eq_false_iff_ne] at *
    simp only [Part, Start, Chr, Blank, Btw] at *
    first
      | omega
      | (constructor <;> intro hq <;> omega)

end Go.Proofs.Ytaoggciebkaakaa.Nz

/- The walks of name.Plain and of the document's own. -/
set_option linter.unusedSimpArgs false
set_option linter.unusedVariables false
namespace Go.Proofs.Ytaoggciebkaakaa.Nz
open Go.RowKit

def aP (l : List Int) : Bool := l.all (fun r => decide (Part r))
theorem drop_ne (s : ByteArray) (pos : Nat) (h : pos < s.size) : (bl s).drop pos ≠ [] := by
  intro h2
  have := congrArg List.length h2
  simp [bl_len] at this
  omega
theorem Rn_at (s : ByteArray) (pos : Nat) (h : pos < s.size) : Rn ((bl s).drop pos) = ((Utf8.decode s pos).1 : Int) :: Rn ((bl s).drop (pos + (Utf8.decode s pos).2)) := by
  rw [Rn_cons _ (drop_ne s pos h), ← dec_dN, List.drop_drop]
theorem Rn_end (s : ByteArray) (pos : Nat) (h : ¬ pos < s.size) : Rn ((bl s).drop pos) = [] := by
  rw [List.drop_of_length_le (by rw [bl_len]; omega)]
  rfl
theorem pl_first (s : ByteArray) (h : 0 < s.size) : pl (bl s) = (decide (Start ((Utf8.decode s 0).1 : Int)) && (decide (Part ((Utf8.decode s 0).1 : Int)) && aP (Rn ((bl s).drop (0 + (Utf8.decode s 0).2))))) := by
  have := Rn_at s 0 h
  rw [List.drop_zero] at this
  unfold pl aP
  rw [this]
  simp only [plR, List.all_cons]

theorem isE (s : ByteArray) : s.toList.isEmpty = decide (s.size = 0) := by
  rw [Lib.toList_data, Lib.size_eq]
  cases s.data.toList <;> simp

def PlRel (s : ByteArray) (w : World) (wr : World) : Prop :=
  ∃ pos : Nat, wr = w.iter s pos ∧ (pos = 0 ∨ (pos ≠ 0 ∧ s.size ≠ 0 ∧ pl (bl s) = aP (Rn ((bl s).drop pos))))

set_option maxHeartbeats 1000000 in
set_option maxRecDepth 100000 in
theorem plain_any (s : ByteArray) (w : World) :
    Calls Try.prog 52 #[.string s] w fun e w' => e = .returned (.bool (pl (bl s))) ∧ Below w.heap.size w w' := by
  have HB := Lib.hid (fun pos => (Below.refl w.heap.size w).alloc (Nat.le_refl _) (.stringIter s pos))
  have HF := Lib.hid (pl_first s)
  have HA := Lib.hid (Rn_at s)
  have HE := Lib.hid (Rn_end s)
  have HZ : Hid (s.size = 0 → pl (bl s) = false) := Lib.hid (fun h => by
    have : bl s = [] := List.eq_nil_of_length_eq_zero (by rw [bl_len]; exact h)
    rw [this]; rfl)
  obtain ⟨res, hres⟩ : ∃ res, res = pl (bl s) := ⟨_, rfl⟩
  have HRES := Lib.hid hres
  rw [← hres]
  clear hres
  go_enter Try.func52, Try.ntmps52
  go_wp2_with fail
  go_loopw [3, 4] (fun _ _ wr => PlRel s w wr) (fun _ _ wr => s.size - wr.iterPos w.heap.size)
  case atStart => exact ⟨0, rfl, .inl rfl⟩
  case round =>
    obtain ⟨pos, rfl, hq⟩ := hrel
    have HQ := Lib.hid hq
    clear hq
    by_cases hp : pos < s.size
    · have hnx : ∀ ty, (Instr.next (.pointer (some ⟨w.heap.size, 0, none⟩)) true ty).run Try.prog (w.iter s pos) = _ := fun ty => run_next_any w s pos ty hp
      have hwd := width_pos s pos hp
      have HR := Lib.hid (HA.out pos hp)
      by_cases h0 : pos = 0
      · have F0 := Lib.hid (HF.out (by omega))
        have c0 : ((pos : Int) == 0) = true := by simp [h0]
        have H0 := Lib.hid h0
        rw [← h0] at F0
        clear h0 HA HQ
        generalize (Utf8.decode s pos).1 = r at *
        generalize (Utf8.decode s pos).2 = d at *
        go_wp2_with (first | (go_at_call 59; refine (start_any _ _).mono ?_; rintro e w' ⟨rfl, rfl⟩) | (go_at_call 60; refine (part_any _ _).mono ?_; rintro e w' ⟨rfl, rfl⟩))
        all_goals first
          | (go_ret
             refine ⟨ret_bool ?_, HB.out _⟩
             have f0 := F0.out
             try rw [HR.out] at f0
             rw [HRES.out, f0]
             simp_all [aP])
          | (refine ⟨⟨pos + d, rfl, .inr ⟨by omega, by omega, ?_⟩⟩, by simp; omega⟩
             have f0 := F0.out
             try rw [HR.out] at f0
             rw [f0]
             simp_all [aP])
      · have Q := HQ.out
        have c0 : ((pos : Int) == 0) = false := by simp; omega
        have F0 : Hid (pl (bl s) = aP (Rn ((bl s).drop pos))) := Lib.hid (by rcases Q with h | h; exact absurd h h0; exact h.2.2)
        clear Q HA HQ
        generalize (Utf8.decode s pos).1 = r at *
        generalize (Utf8.decode s pos).2 = d at *
        go_wp2_with (first | (go_at_call 59; refine (start_any _ _).mono ?_; rintro e w' ⟨rfl, rfl⟩) | (go_at_call 60; refine (part_any _ _).mono ?_; rintro e w' ⟨rfl, rfl⟩))
        all_goals first
          | (go_ret
             refine ⟨ret_bool ?_, HB.out _⟩
             have f0 := F0.out
             try rw [HR.out] at f0
             rw [HRES.out, f0]
             simp_all [aP])
          | (refine ⟨⟨pos + d, rfl, .inr ⟨by omega, by omega, ?_⟩⟩, by simp; omega⟩
             have f0 := F0.out
             try rw [HR.out] at f0
             rw [f0]
             simp_all [aP])
    · have hnx : ∀ ty, (Instr.next (.pointer (some ⟨w.heap.size, 0, none⟩)) true ty).run Try.prog (w.iter s pos) = _ := fun ty => run_next_end w s pos ty hp
      go_wp2
      go_ret
      refine ⟨ret_bool ?_, HB.out pos⟩
      rw [HRES.out, isE]
      by_cases hz : s.size = 0
      · rw [HZ.out hz]
        simp [hz]
      · rcases HQ.out with h | h
        · omega
        · rw [h.2.2, HE.out pos hp]
          simp [hz, aP]

def RpRel (l : List Int) (i : Value) : Prop := ∃ k : Nat, k ≤ l.length ∧ i = .int .i64 k ∧ aP l = aP (l.drop k)
theorem aP_drop (l : List Int) (k : Nat) (h : k < l.length) : aP (l.drop k) = (decide (Part (l.getD k 0)) && aP (l.drop (k + 1))) := by
  rw [List.drop_eq_getElem_cons h, List.getD_eq_getElem?_getD, List.getElem?_eq_getElem h]
  unfold aP
  rw [List.all_cons]
  rfl
theorem rgo_range (s : ByteArray) : ∀ (b i : Nat) (x : Int), x ∈ rgo s b i → 0 ≤ x ∧ x ≤ 2147483647
  | 0, i, x, h => by simp [rgo] at h
  | b + 1, i, x, h => by
    unfold rgo at h
    split at h
    · rcases List.mem_cons.1 h with rfl | h
      · have := decode_le s i
        omega
      · exact rgo_range s b _ x h
    · simp at h
theorem plR_eq (l : List Int) (h : 0 < l.length) : plR l = (decide (Start (l.getD 0 0)) && aP l) := by
  cases l with
  | nil => simp at h
  | cons x l => simp [plR, aP]

theorem rst_t {r : Int} (h : Start r) (w : World) : Calls Try.prog 57 #[.int .i64 r] w fun e w' => e = .returned (.bool true) ∧ w = w' := (rstart_any r w).mono fun e w' ⟨h1, h2⟩ => ⟨by rw [h1, decide_eq_true h], h2⟩
theorem rst_f {r : Int} (h : ¬ Start r) (w : World) : Calls Try.prog 57 #[.int .i64 r] w fun e w' => e = .returned (.bool false) ∧ w = w' := (rstart_any r w).mono fun e w' ⟨h1, h2⟩ => ⟨by rw [h1, decide_eq_false h], h2⟩

set_option maxHeartbeats 1000000 in
set_option maxRecDepth 100000 in
theorem rplain_any (s : ByteArray) (hs : s.size ≤ 10000) (w : World) :
    Calls Try.prog 51 #[.string s] w fun e w' => e = .returned (.bool (pl (bl s))) ∧ Below w.heap.size w w' := by
  obtain ⟨c, w1, hcv, hb1, hzz, hcell⟩ := conv_runes w s hs
  have hln := runes_len s
  have HRG := Lib.hid (fun x (hx : x ∈ runes s) => rgo_range s s.size 0 x hx)
  have HP : Hid (pl (bl s) = plR (runes s)) := Lib.hid (by unfold pl; rw [runes_Rn])
  have HB := Lib.hid hb1
  have hsz := hb1.size
  clear hzz hb1
  generalize pl (bl s) = res at *
  generalize runes s = l at *
  obtain ⟨n, hn⟩ : ∃ n, n = l.length := ⟨_, rfl⟩
  rw [← hn] at hcv
  have hn1 : n ≤ l.length := by omega
  have hn2 : l.length ≤ n := by omega
  have hn3 : n ≤ 10000 := by omega
  clear hn
  by_cases hz : n = 0
  · have q0 : ((n : Int) == 0) = true := by simp [hz]
    have HL : Hid (l = []) := Lib.hid (List.eq_nil_of_length_eq_zero (by omega))
    clear hcell
    go_enter Try.func51, Try.ntmps51
    go_wp2_with fail
    go_ret
    refine ⟨ret_bool ?_, HB.out⟩
    rw [HP.out, HL.out]
    rfl
  · have q0 : ((n : Int) == 0) = false := by simp; omega
    have hc0 := hcell 0 (by omega)
    have HX := Lib.hid (plR_eq l (by omega))
    obtain ⟨hx0, hx1⟩ := HRG.out (l.getD 0 0) (by rw [List.getD_eq_getElem?_getD, List.getElem?_eq_getElem (by omega)]; exact List.getElem_mem _)
    have HCELL := Lib.hid hcell
    clear hcell
    generalize l.getD 0 0 = x0 at *
    have i0 : (0 : Int) < (n : Int) := by omega
    by_cases hS : Start x0
    · have CS := Lib.hid (fun W => rst_t hS W)
      have HST : Hid (decide (Start x0) = true) := Lib.hid (decide_eq_true hS)
      clear hS
      go_enter Try.func51, Try.ntmps51
      go_wp2_with (first | (go_at_call 57; refine (CS.out _).mono ?_; rintro e w' ⟨rfl, rfl⟩))
      go_loop [4] (fun i => RpRel l i) (fun i => l.length - (intOf i).toNat)
      case atStart => exact ⟨0, Nat.zero_le _, rfl, by simp⟩
      case round =>
        obtain ⟨k, hk, rfl, ho⟩ := hrel
        have HO := Lib.hid ho
        clear ho hc0
        by_cases hlt : k < n
        · have hc := HCELL.out k (by omega)
          have HT := Lib.hid (aP_drop l k (by omega))
          obtain ⟨hy0, hy1⟩ := HRG.out (l.getD k 0) (by rw [List.getD_eq_getElem?_getD, List.getElem?_eq_getElem (by omega)]; exact List.getElem_mem _)
          generalize l.getD k 0 = y at hc HT hy0 hy1
          clear hcv
          go_wp2_with (first | (go_at_call 58; refine (rpart_any _ _).mono ?_; rintro e w' ⟨rfl, rfl⟩))
          · go_ret
            refine ⟨ret_bool ?_, HB.out⟩
            rw [HP.out, HX.out, HO.out, HT.out]
            simp_all
          · refine ⟨⟨k + 1, by omega, by go_num, ?_⟩, by simp [intOf]; omega⟩
            rw [HO.out, HT.out]
            simp_all
        · clear hcv
          go_wp2_with fail
          go_ret
          refine ⟨ret_bool ?_, HB.out⟩
          have hkn : k = l.length := by omega
          rw [HP.out, HX.out, HST.out, HO.out, hkn, List.drop_length]
          rfl
    · have CS := Lib.hid (fun W => rst_f hS W)
      have HST : Hid (decide (Start x0) = false) := Lib.hid (decide_eq_false hS)
      clear hS
      go_enter Try.func51, Try.ntmps51
      go_wp2_with (first | (go_at_call 57; refine (CS.out _).mono ?_; rintro e w' ⟨rfl, rfl⟩))
      go_ret
      refine ⟨ret_bool ?_, HB.out⟩
      rw [HP.out, HX.out, HST.out]
      rfl
end Go.Proofs.Ytaoggciebkaakaa.Nz

/- Decoding and encoding, on lists of bytes: each undoes the other; what begins a rune is cut off. -/
set_option linter.unusedSimpArgs false
set_option linter.unusedVariables false
namespace Go.Proofs.Ytaoggciebkaakaa

def dec1 (L : List Int) : Int × Int × Int := canon (fun k => L.getD k 0) L.length

theorem dec_enc (r : Int) (T : List Int) (h : ¬ Bad r) : dec1 (encB r ++ T) = (r, ((encB r).length : Int), 0) := by
  unfold Bad at h
  unfold dec1
  by_cases h1 : r < 128
  · rw [enc1 h1]
    simp [canon, h1]
  by_cases h2 : r < 2048
  · rw [enc2 (by omega) h2]
    simp only [canon, List.cons_append, List.nil_append, List.getD_cons_zero, List.getD_cons_succ, List.length_cons, List.length_nil]
    rw [if_neg (by omega), if_neg (by omega), if_pos (by omega), if_neg (by omega), if_neg (by omega)]
    exact tri (by omega) (by omega) rfl
  by_cases h3 : r < 65536
  · rw [enc3 (by omega) h3]
    simp only [canon, List.cons_append, List.nil_append, List.getD_cons_zero, List.getD_cons_succ, List.length_cons, List.length_nil]
    rw [if_neg (by omega), if_neg (by omega), if_neg (by omega), if_pos (by omega), if_neg (by omega), if_neg (by omega), if_neg (by omega), if_neg (by omega)]
    exact tri (by omega) (by omega) rfl
  · rw [enc4 (by omega)]
    simp only [canon, List.cons_append, List.nil_append, List.getD_cons_zero, List.getD_cons_succ, List.length_cons, List.length_nil]
    rw [if_neg (by omega), if_neg (by omega), if_neg (by omega), if_neg (by omega), if_pos (by omega), if_neg (by omega), if_neg (by omega), if_neg (by omega), if_neg (by omega), if_neg (by omega), if_neg (by omega)]
    exact tri (by omega) (by omega) rfl

/-- A proper beginning of a rune's bytes is cut off. -/
theorem dec_cut (r : Int) (j : Nat) (h : ¬ Bad r) (h1 : 1 ≤ j) (h2 : j < (encB r).length) : dec1 ((encB r).take j) = (0, 0, 7) := by
  unfold Bad at h
  unfold dec1
  by_cases q1 : r < 128
  · rw [enc1 q1] at h2; simp at h2; omega
  by_cases q2 : r < 2048
  · rw [enc2 (by omega) q2] at h2 ⊢
    have : j = 1 := by simp at h2; omega
    subst this
    simp only [canon, List.take_succ_cons, List.take_zero, List.getD_cons_zero, List.getD_cons_succ, List.length_cons, List.length_nil]
    rw [if_neg (by omega), if_neg (by omega), if_pos (by omega), if_pos (by omega)]
  by_cases q3 : r < 65536
  · rw [enc3 (by omega) q3] at h2 ⊢
    have : j = 1 ∨ j = 2 := by simp at h2; omega
    rcases this with rfl | rfl
    · simp only [canon, List.take_succ_cons, List.take_zero, List.getD_cons_zero, List.getD_cons_succ, List.length_cons, List.length_nil]
      rw [if_neg (by omega), if_neg (by omega), if_neg (by omega), if_pos (by omega), if_pos (by omega)]
    · simp only [canon, List.take_succ_cons, List.take_zero, List.getD_cons_zero, List.getD_cons_succ, List.length_cons, List.length_nil]
      rw [if_neg (by omega), if_neg (by omega), if_neg (by omega), if_pos (by omega), if_neg (by omega), if_neg (by omega), if_pos (by omega)]
  · rw [enc4 (by omega)] at h2 ⊢
    have : j = 1 ∨ j = 2 ∨ j = 3 := by simp at h2; omega
    rcases this with rfl | rfl | rfl
    · simp only [canon, List.take_succ_cons, List.take_zero, List.getD_cons_zero, List.getD_cons_succ, List.length_cons, List.length_nil]
      rw [if_neg (by omega), if_neg (by omega), if_neg (by omega), if_neg (by omega), if_pos (by omega), if_pos (by omega)]
    · simp only [canon, List.take_succ_cons, List.take_zero, List.getD_cons_zero, List.getD_cons_succ, List.length_cons, List.length_nil]
      rw [if_neg (by omega), if_neg (by omega), if_neg (by omega), if_neg (by omega), if_pos (by omega), if_neg (by omega), if_neg (by omega), if_pos (by omega)]
    · simp only [canon, List.take_succ_cons, List.take_zero, List.getD_cons_zero, List.getD_cons_succ, List.length_cons, List.length_nil]
      rw [if_neg (by omega), if_neg (by omega), if_neg (by omega), if_neg (by omega), if_pos (by omega), if_neg (by omega), if_neg (by omega), if_neg (by omega), if_neg (by omega), if_pos (by omega)]

/-- What is decoded is what was encoded. -/
def Inv (L : List Int) (x : Int × Int × Int) : Prop := x.2.2 = 0 → ¬ Bad x.1 ∧ x.2.1 = ((encB x.1).length : Int) ∧ L.take (encB x.1).length = encB x.1 ∧ (encB x.1).length ≤ L.length
theorem inv_ite {L : List Int} {c : Prop} [Decidable c] {x y : Int × Int × Int} (h1 : c → Inv L x) (h2 : ¬ c → Inv L y) : Inv L (if c then x else y) := by
  by_cases h : c
  · rw [if_pos h]; exact h1 h
  · rw [if_neg h]; exact h2 h
theorem inv2 {L : List Int} : Inv L (0, 0, 2) := fun h => by simp at h
theorem inv7 {L : List Int} : Inv L (0, 0, 7) := fun h => by simp at h
theorem inv_mk {L : List Int} {r n : Int} (h : ¬ Bad r) (hn : n = ((encB r).length : Int)) (h1 : L.take (encB r).length = encB r) : Inv L (r, n, 0) := fun _ => ⟨h, hn, h1, by
  have := congrArg List.length h1
  rw [List.length_take] at this
  dsimp only
  omega⟩
theorem take1 {L : List Int} (h : 1 ≤ L.length) : L.take 1 = [L.getD 0 0] := by
  match L, h with
  | a :: L, _ => simp
theorem take2 {L : List Int} (h : 2 ≤ L.length) : L.take 2 = [L.getD 0 0, L.getD 1 0] := by
  match L, h with
  | a :: b :: L, _ => simp
theorem take3 {L : List Int} (h : 3 ≤ L.length) : L.take 3 = [L.getD 0 0, L.getD 1 0, L.getD 2 0] := by
  match L, h with
  | a :: b :: c :: L, _ => simp
theorem take4 {L : List Int} (h : 4 ≤ L.length) : L.take 4 = [L.getD 0 0, L.getD 1 0, L.getD 2 0, L.getD 3 0] := by
  match L, h with
  | a :: b :: c :: d :: L, _ => simp
theorem cons_eq {a b : Int} {s t : List Int} (h : a = b) (h2 : s = t) : a :: s = b :: t := by rw [h, h2]

theorem inv_1 {L : List Int} (hl : 1 ≤ L.length) (h0 : 0 ≤ L.getD 0 0) (h1 : L.getD 0 0 < 128) : Inv L (L.getD 0 0, 1, 0) := by
  refine inv_mk (by unfold Bad; omega) ?_ ?_
  · rw [enc1 h1]; rfl
  · rw [enc1 h1]; exact take1 hl
theorem inv_2 {L : List Int} (hl : 2 ≤ L.length) (h0 : 194 ≤ L.getD 0 0) (h1 : L.getD 0 0 < 224) (h2 : 128 ≤ L.getD 1 0) (h3 : L.getD 1 0 ≤ 191) :
    Inv L ((L.getD 0 0 - 192) * 64 + (L.getD 1 0 - 128), 2, 0) := by
  have t := take2 hl
  generalize L.getD 0 0 = a at *
  generalize L.getD 1 0 = b at *
  refine inv_mk (by unfold Bad; omega) ?_ ?_
  · rw [enc2 (by omega) (by omega)]; rfl
  · rw [enc2 (by omega) (by omega)]
    refine t.trans (cons_eq (by omega) (cons_eq (by omega) rfl))
theorem inv_3 {L : List Int} (hl : 3 ≤ L.length) (h0 : 224 ≤ L.getD 0 0) (h1 : L.getD 0 0 < 240) (h2 : 128 ≤ L.getD 1 0) (h3 : L.getD 1 0 ≤ 191) (h4 : 128 ≤ L.getD 2 0) (h5 : L.getD 2 0 ≤ 191)
    (h6 : L.getD 0 0 = 224 → 160 ≤ L.getD 1 0) (h7 : L.getD 0 0 = 237 → L.getD 1 0 ≤ 159) :
    Inv L ((L.getD 0 0 - 224) * 4096 + (L.getD 1 0 - 128) * 64 + (L.getD 2 0 - 128), 3, 0) := by
  have t := take3 hl
  generalize L.getD 0 0 = a at *
  generalize L.getD 1 0 = b at *
  generalize L.getD 2 0 = c at *
  refine inv_mk (by unfold Bad; omega) ?_ ?_
  · rw [enc3 (by omega) (by omega)]; rfl
  · rw [enc3 (by omega) (by omega)]
    refine t.trans (cons_eq (by omega) (cons_eq (by omega) (cons_eq (by omega) rfl)))
theorem inv_4 {L : List Int} (hl : 4 ≤ L.length) (h0 : 240 ≤ L.getD 0 0) (h1 : L.getD 0 0 < 245) (h2 : 128 ≤ L.getD 1 0) (h3 : L.getD 1 0 ≤ 191) (h4 : 128 ≤ L.getD 2 0) (h5 : L.getD 2 0 ≤ 191) (h8 : 128 ≤ L.getD 3 0) (h9 : L.getD 3 0 ≤ 191)
    (h6 : L.getD 0 0 = 240 → 144 ≤ L.getD 1 0) (h7 : L.getD 0 0 = 244 → L.getD 1 0 ≤ 143) :
    Inv L ((L.getD 0 0 - 240) * 262144 + (L.getD 1 0 - 128) * 4096 + (L.getD 2 0 - 128) * 64 + (L.getD 3 0 - 128), 4, 0) := by
  have t := take4 hl
  generalize L.getD 0 0 = a at *
  generalize L.getD 1 0 = b at *
  generalize L.getD 2 0 = c at *
  generalize L.getD 3 0 = d at *
  refine inv_mk (by unfold Bad; omega) ?_ ?_
  · rw [enc4 (by omega)]; rfl
  · rw [enc4 (by omega)]
    refine t.trans (cons_eq (by omega) (cons_eq (by omega) (cons_eq (by omega) (cons_eq (by omega) rfl))))

theorem dec_inv (L : List Int) (hl : L ≠ []) (h0 : ∀ k, 0 ≤ L.getD k 0) : Inv L (dec1 L) := by
  have hp : 1 ≤ L.length := by
    have := List.length_pos_iff.2 hl
    omega
  have a0 := h0 0
  unfold dec1 canon
  simp only
  refine inv_ite (fun h => inv_1 hp a0 h) fun n1 => ?_
  refine inv_ite (fun h => inv2) fun n2 => ?_
  refine inv_ite (fun h => inv_ite (fun h => inv7) fun n3 => inv_ite (fun h => inv2) fun n4 => inv_2 (by omega) (by omega) (by omega) (by omega) (by omega)) fun n3 => ?_
  refine inv_ite (fun h => inv_ite (fun h => inv7) fun n3 => inv_ite (fun h => inv2) fun n4 => inv_ite (fun h => inv7) fun n5 => inv_ite (fun h => inv2) fun n6 =>
    inv_3 (by omega) (by omega) (by omega) (by split at n4 <;> omega) (by split at n4 <;> (try split at n4) <;> omega) (by omega) (by omega) (by intro e; rw [if_pos e] at n4; omega) (by intro e; rw [if_pos e] at n4; omega)) fun n3 => ?_
  refine inv_ite (fun h => inv_ite (fun h => inv7) fun n3 => inv_ite (fun h => inv2) fun n4 => inv_ite (fun h => inv7) fun n5 => inv_ite (fun h => inv2) fun n6 => inv_ite (fun h => inv7) fun n7 => inv_ite (fun h => inv2) fun n8 =>
    inv_4 (by omega) (by omega) (by omega) (by split at n4 <;> omega) (by split at n4 <;> (try split at n4) <;> omega) (by omega) (by omega) (by omega) (by omega) (by intro e; rw [if_pos e] at n4; omega) (by intro e; rw [if_pos e] at n4; omega)) fun n3 => ?_
  exact inv2
end Go.Proofs.Ytaoggciebkaakaa
