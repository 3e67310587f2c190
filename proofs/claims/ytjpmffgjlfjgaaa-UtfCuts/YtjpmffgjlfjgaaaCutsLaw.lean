/-
  The walk of the law UtfCuts.
-/
import Derived.Test.YtjpmffgjlfjgaaaAwake
import Derived.Test.YtjpmffgjlfjgaaaSame
import Derived.Test.YtjpmffgjlfjgaaaCutsMath
set_option linter.unusedSimpArgs false
set_option linter.unusedVariables false
namespace Go.Proofs.Ytjpmffgjlfjgaaa
open Go.RowKit

theorem own_after {w w' : World} {B : Nat} {e : TypeId} {size : Nat} {v : Value} {n : Nat} {xs : List Value} (h : w.ownsRow B e size v n xs) (hb : Below w.heap.size w w') : w'.ownsRow B e size v n xs := by
  rcases h with ⟨h1, ⟨rfl, h0⟩ | ⟨g, cap, cur, rfl, hg, hh, h3, h4, h5, h6⟩⟩
  · exact ⟨h1, .inl ⟨rfl, h0⟩⟩
  · refine ⟨h1, .inr ⟨g, cap, cur, rfl, hg, ?_, h3, h4, h5, h6⟩⟩
    rw [hb.block g (by
      rcases Nat.lt_or_ge g w.heap.size with hlt | hge
      · exact hlt
      · rw [Array.getElem?_eq_none hge] at hh; cases hh)]
    exact hh

/-- append of one slice of the call's own behind another. -/
theorem app_own {w : World} {B B2 : Nat} {v v2 : Value} {l l2 : List Int} (h : Own w B v l) (h2 : Own w B2 v2 l2) (hl : l.length + l2.length ≤ 100000) (hB : B ≤ w.heap.size) :
    ∃ v' w', (Builtin.append_ #[29, 29] 29 #[v, v2]).run Try.prog w = .ok v' w' ∧ Own w' B v' (l ++ l2) ∧ w.grownBy w' v.ownBlock := by
  obtain ⟨i0, hi, hz0, hz1, hz2⟩ := info_parts Try.info21
  rcases h2.2 with ⟨rfl, h0⟩ | ⟨g, cap, cur, rfl, hg, hh, _, _, _, _⟩
  · have : l2 = [] := List.eq_nil_of_length_eq_zero h0
    subst this
    exact ⟨v, w, run_append_owned_none w B 29 29 21 i0 1 Try.underlying29 hi v _ _ h, by rw [List.append_nil]; exact h, World.grownBy.refl w _⟩
  · obtain ⟨v', w', hr, ho, hgr, _⟩ := run_append_own (P := Try.prog) w B 29 29 21 i0 (.int .i32 0) 1 4 Try.underlying29 hi hz0 hz1 hz2 rfl (by decide) v l.length _ h ⟨g, 0, none⟩ l2.length cap _ h2.1 (World.ownsRow.cells h2 rfl) (ints_oneCell .i32 l2) (by unfold maxLen; omega) (by omega) hB
    refine ⟨v', w', hr, ?_, hgr⟩
    unfold Own
    rw [List.map_append, List.length_append]
    exact ho

/-- An append under a guard that says yes, by its run. -/
theorem wpList_append_run {P : Program} {w w' : World} {ops : Array Oper} {rest : List Oper} {o : Oper} {a : Act} {Q : Exit → Act → World → Prop} (hw : Region.wanted o (yielded ops a.tmps) = true) (s x : Operand) (t : TypeId)
    (ho : o.op = .call { callee := .builtin .append, args := #[s, x], argTypes := #[t, t] }) (v v2 v' : Value) (hs : a.eval s = v) (hx : a.eval x = v2)
    (hr : (Builtin.append_ #[t, t] o.type #[v, v2]).run P w = .ok v' w') (h : wpList P ops Q rest (a.put o.dst v') w') : wpList P ops Q (o :: rest) a w := by
  refine wpList_step fun K hK => ?_
  rw [if_pos hw]
  unfold Oper.wp execOp
  simp only [ho, resolve, invoke, builtin, Sem.run_bind, Sem.run_pure, Result.andThen_ok, List.map_toArray, List.map_cons, List.map_nil, hs, hx, hr]
  exact hK _ _ h

set_option maxHeartbeats 2000000 in
set_option maxRecDepth 100000 in
theorem cuts_law (s : ByteArray) (c : Int) (w : World) (hs : s.size ≤ 200) (h0 : 0 ≤ c) (h1 : c ≤ 255) :
    Calls Try.prog 7 #[.string s, .int .u8 c] w fun e w' => e = .returned (.bool true) ∧ Below w.heap.size w w' := by
  have t1 : decide ((200 : Int) < (s.size : Int)) = false := by simp; omega
  obtain ⟨k, hk⟩ := Int.eq_ofNat_of_zero_le (Int.emod_nonneg c (show ((s.size : Int) + 1) ≠ 0 by omega))
  have hkb : k ≤ s.size := by have := Int.emod_lt_of_pos c (show (0 : Int) < (s.size : Int) + 1 by omega); omega
  have hns : (s.extract 0 k).size ≤ maxLen := by rw [size_ext s k hkb]; unfold maxLen; omega
  have C1 := Lib.hid (fun W => whole_any (s.extract 0 k) W hns)
  have hnk := whole_le s k hkb
  have M1 := cut_err s (wholeF (s.extract 0 k)) (by omega)
  have M2 := fun h => cut_at s (wholeF (s.extract 0 k)) h (by omega)
  have M3 := cut_ok s k hkb
  have b0 := allF_len s
  generalize wholeF (s.extract 0 k) = n at *
  have C2 := Lib.hid (fun W => all_any (s.extract 0 n) W (by have := size_sub s 0 n; omega))
  have C3 := Lib.hid (fun W => all_any (s.extract n s.size) W (by have := size_sub s n s.size; omega))
  have C0 := Lib.hid (fun W => all_any s W (by omega))
  have b2 := Nat.le_trans (allF_len (s.extract 0 n)) (size_sub s 0 n)
  have b3 := Nat.le_trans (allF_len (s.extract n s.size)) (size_sub s n s.size)
  obtain ⟨l0, a0, e0, x0⟩ : ∃ l a e, allF s = (l, a, e) := ⟨_, _, _, rfl⟩
  obtain ⟨l2, a2, e2, x2⟩ : ∃ l a e, allF (s.extract 0 n) = (l, a, e) := ⟨_, _, _, rfl⟩
  obtain ⟨l3, a3, e3, x3⟩ : ∃ l a e, allF (s.extract n s.size) = (l, a, e) := ⟨_, _, _, rfl⟩
  rw [x0] at M1 M3 C0 b0
  rw [x2] at M1 M2 M3 C2 b2
  rw [x3] at M1 M3 C3 b3
  clear x0 x2 x3
  dsimp only at M1 M2 M3 b0 b2 b3
  have HM1 := Lib.hid M1
  have HM2 := Lib.hid M2
  have HM3 := Lib.hid M3
  clear M1 M2 M3
  have hns2 : n ≤ s.size := by omega
  go_enter Try.func7, Try.ntmps7
  go_wp2_with (go_at_call 8; refine (awake_any _).mono ?_; rintro e w1 ⟨rfl, hb1⟩)
  refine (C0.out _).mono ?_
  rintro e w2 ⟨v1, rfl, hown1, hb2⟩
  go_wp2_with fail
  rw [hk]
  clear hk
  refine (C1.out _).mono ?_
  rintro e w3 ⟨rfl, rfl⟩
  go_wp2_with fail
  refine (C2.out _).mono ?_
  rintro e w4 ⟨v2, rfl, hown2, hb4⟩
  go_wp2_with fail
  refine (C3.out _).mono ?_
  rintro e w5 ⟨v3, rfl, hown3, hb5⟩
  go_wp2_with fail
  refine (C0.out _).mono ?_
  rintro e w6 ⟨v4, rfl, hown4, hb6⟩
  have s1 := hb1.size
  have s2 := hb2.size
  have s4 := hb4.size
  have s5 := hb5.size
  have s6 := hb6.size
  have hb : Below w.heap.size w w6 := (((hb1.trans (hb2.mono s1)).trans (hb4.mono (by omega))).trans (hb5.mono (by omega))).trans (hb6.mono (by omega))
  dsimp only at hown1 hown2 hown3 hown4
  have o2 := own_after (own_after hown2 hb5) hb6
  have o3 := own_after hown3 hb6
  have o4 : Own w6 w5.heap.size v4 l0 := hown4
  clear hown1 hown2 hown3 hown4 C0 C1 C2 C3 hb1 hb2 hb4 hb5 hb6
  by_cases he : e0 = 0
  · obtain ⟨q1, q2, q3, q4⟩ := HM3.out he
    subst he q2 q3
    clear HM1 HM2 HM3
    have tk : (k : Int) - 3 ≤ (n : Int) := by omega
    have oE : Own (w6.alloc (.cells #[] 21)) w6.heap.size (.slice (some ⟨w6.heap.size, 0, none⟩) 0 0) [] := World.ownsRow_lit (base := w6.heap.size) (e := 21) (size := 1) w6 #[] 0 (Nat.le_refl _) (Nat.zero_le _) rfl
    have p2 := World.ownsRow.alloc o2 (.cells #[] 21)
    have p3 := World.ownsRow.alloc o3 (.cells #[] 21)
    have p4 := World.ownsRow.alloc o4 (.cells #[] 21)
    obtain ⟨u1, W2, hr1, oA, g1⟩ := app_own oE p2 (by simp; omega) (by simp)
    have r3 := World.ownsRow.kept p3 g1 (by
      rcases hx : v3.ownBlock with _ | g
      · exact .inl rfl
      · refine .inr fun e => ?_
        have e1 := (World.ownsRow.lt o3 g hx).2
        simp [Value.ownBlock] at e
        omega)
    have r4 := World.ownsRow.kept p4 g1 (by
      rcases hx : v4.ownBlock with _ | g
      · exact .inl rfl
      · refine .inr fun e => ?_
        have e1 := (World.ownsRow.lt o4 g hx).2
        simp [Value.ownBlock] at e
        omega)
    have z2 := g1.size
    rw [World.size_alloc] at z2
    obtain ⟨u2, W3, hr2, oB, g2⟩ := app_own oA r3 (by simp; omega) (by omega)
    have z3 := g2.size
    have r5 := World.ownsRow.kept r4 g2 (by
      rcases hx : v4.ownBlock with _ | g
      · exact .inl rfl
      · refine .inr fun e => ?_
        have e1 := (World.ownsRow.lt o4 g hx).2
        have e2 := (World.ownsRow.lt oA g (by rw [← e])).1
        omega)
    have hb2 : Below w.heap.size w W3 := ((hb.alloc hb.size _).grown g1 (by simp; have := hb.size; omega) (by intro g hg; simp [Value.ownBlock] at hg; have := hb.size; omega)).grown g2 (by have := hb.size; omega) (by intro g hg; have := (World.ownsRow.lt oA g hg).1; have := hb.size; omega)
    obtain ⟨A, c1, rfl, rd1⟩ := own_rd oB
    obtain ⟨A2, c2, rfl, rd2⟩ := own_rd r5
    have HS := Lib.hid (same_any A A2 c1 c2 _ _ W3 rd1 rd2 (by simp; omega) (by omega))
    rw [same_yes (by rw [List.nil_append]; exact q4)] at HS
    clear q4 oE p2 p3 p4 oA g1 r3 r4 oB g2 r5 rd1 rd2 o2 o3 o4
    generalize ([] ++ l2 ++ l3).length = m at hr2 HS
    have HR1 := Lib.hid hr1
    have HR2 := Lib.hid hr2
    clear hr1 hr2
    go_wp2_with (first | (at_builtin; refine wpList_append_run (by rfl) (.tmp 92) (.tmp 93) 29 rfl _ _ _ rfl rfl HR1.out ?_) | (at_builtin; refine wpList_append_run (by rfl) (.tmp 94) (.tmp 95) 29 rfl _ _ _ rfl rfl HR2.out ?_) | (go_at_call 13; refine HS.out.mono ?_; rintro e w7 ⟨rfl, hb7⟩))
    go_ret
    exact ⟨rfl, hb2.trans (hb7.mono hb2.size)⟩
  · have te : (e0 != 0) = true := by simpa using he
    clear o2 o3 o4
    by_cases hf : e2 = 0
    · have hg : (e3 == e0) = true := by simpa using HM1.out hf
      have tf : (e2 != 0) = false := by simpa using hf
      clear he hf
      go_wp2
      go_ret
      exact ⟨rfl, hb⟩
    · have tf : (e2 != 0) = true := by simpa using hf
      have tg : a2 < (n : Int) := HM2.out hf
      clear he hf
      go_wp2
      go_ret
      exact ⟨rfl, hb⟩
end Go.Proofs.Ytjpmffgjlfjgaaa
