/-
  The walk of the law CharTexts.
-/
import Derived.Test.YtooobhdpohnbhaaRune
set_option linter.unusedSimpArgs false
set_option linter.unusedVariables false
namespace Go.Proofs.Ytooobhdpohnbhaa
open Go.RowKit

/-- 'string([]rune(s))': what '[]rune(s)' left, as a text again. -/
theorem conv_back (w : World) (b c : Nat) (l : List Int) (h : ∀ j, j < l.length → w.cell? ⟨b, j, none⟩ = some (.int .i32 (l.getD j 0))) :
    (convert 25 9 (.slice (some ⟨b, 0, none⟩) l.length c)).run Try.prog w = .ok (.string (runesBytes l)) w := by
  rw [run_convert_runes_string w 25 9 21 _ _ _ Try.underlying25 Try.underlying21 Try.underlying9]
  have hl := run_loadCells_list (P := Try.prog) w ⟨b, 0, none⟩ (l.map (Value.int .i32)) (fun j v hj => by
    have hj' : j < l.length := by
      have := (List.getElem?_eq_some_iff.1 hj).1
      simpa using this
    have := h j hj'
    simp [List.getElem?_eq_getElem hj'] at hj
    rw [show (⟨b, 0, none⟩ : Addr).add j = ⟨b, j, none⟩ by simp [Addr.add] <;> omega, this, ← hj, List.getD_eq_getElem?_getD, List.getElem?_eq_getElem hj']
    rfl)
  rw [List.length_map] at hl
  exact run_runesToString w _ _ c l hl

theorem any15_32 : anyP [15] 32 = false := by decide
theorem any1511_32 : anyP [15, 11] 32 = true := by decide
theorem F1 (s t : ByteArray) : allP [15] (s ++ ⟨#[32]⟩ ++ t) = false := by
  unfold allP
  rw [runes_blank, List.all_append, List.all_cons, any15_32]
  simp
theorem F3 (s t : ByteArray) : allP [15, 11] (s ++ ⟨#[32]⟩ ++ t) = (allP [15, 11] s && allP [15, 11] t) := by
  unfold allP
  rw [runes_blank, List.all_append, List.all_cons, any1511_32, Bool.true_and]
theorem F4 (s t : ByteArray) : allP [15] (runesBytes (runes s) ++ runesBytes (runes t)) = (allP [15] s && allP [15] t) := by
  unfold allP
  rw [runes_back, List.all_append]
theorem F2 (s : ByteArray) (h : allP [15] s = true) : allP [15, 11] s = true := by
  unfold allP at *
  rw [List.all_eq_true] at *
  intro x hx
  have := h x hx
  simp [anyP] at *
  exact .inl this

theorem chain {w w1 w2 w3 w4 w5 w6 w7 w8 : World} (h1 : Below w.heap.size w w1) (h2 : Below w1.heap.size w1 w2) (h3 : Below w2.heap.size w2 w3) (h4 : Below w3.heap.size w3 w4) (h5 : Below w4.heap.size w4 w5) (h6 : Below w5.heap.size w5 w6)
    (h7 : Below w6.heap.size w6 w7) (h8 : Below w7.heap.size w7 w8) : Below w.heap.size w w8 := by
  have s1 := h1.size
  have s2 := h2.size
  have s3 := h3.size
  have s4 := h4.size
  have s5 := h5.size
  have s6 := h6.size
  have s7 := h7.size
  exact ((((((h1.trans (h2.mono (by omega))).trans (h3.mono (by omega))).trans (h4.mono (by omega))).trans (h5.mono (by omega))).trans (h6.mono (by omega))).trans (h7.mono (by omega))).trans (h8.mono (by omega))

set_option maxHeartbeats 2000000 in
set_option maxRecDepth 100000 in
theorem texts_law (s t : ByteArray) (hs : s.size ≤ 200) (ht : t.size ≤ 200) (w : World) :
    Calls Try.prog 7 #[.string s, .string t] w fun e w' => e = .returned (.bool true) ∧ Below w.heap.size w w' := by
  have t1 : decide ((200 : Int) < (s.size : Int)) = false := by simp; omega
  have t2 : decide ((200 : Int) < (t.size : Int)) = false := by simp; omega
  have K15 : Known 15 := by simp [Known]
  have K11 : Known 11 := by simp [Known]
  have z1 : (s ++ ⟨#[32]⟩).size ≤ 1000 := by rw [ByteArray.size_append]; show s.size + 1 ≤ 1000; omega
  have z2 : (s ++ ⟨#[32]⟩ ++ t).size ≤ 1000 := by rw [ByteArray.size_append, ByteArray.size_append]; show s.size + 1 + t.size ≤ 1000; omega
  have Ca := Lib.hid (fun W => all1 s 15 K15 W)
  have Cb := Lib.hid (fun W => all1 t 15 K15 W)
  have Cs := Lib.hid (fun W => all2 s 15 11 K15 K11 W)
  have Ct := Lib.hid (fun W => all2 t 15 11 K15 K11 W)
  have C1 := fun W => all1 (s ++ ⟨#[32]⟩ ++ t) 15 K15 W
  rw [F1] at C1
  replace C1 := Lib.hid C1
  have C3 := fun W => all2 (s ++ ⟨#[32]⟩ ++ t) 15 11 K15 K11 W
  rw [F3] at C3
  replace C3 := Lib.hid C3
  have C4 := fun W => all1 (runesBytes (runes s) ++ runesBytes (runes t)) 15 K15 W
  rw [F4] at C4
  replace C4 := Lib.hid C4
  have HF2 := Lib.hid (F2 s)
  have hcs := Lib.hid (fun W => conv_runes W s (by omega))
  have hct := Lib.hid (fun W => conv_runes W t (by omega))
  have hbs := Lib.hid (fun W b c => conv_back W b c (runes s))
  have hbt := Lib.hid (fun W b c => conv_back W b c (runes t))
  have ls := runes_len s
  have lt := runes_len t
  have y1 := runesBytes_size_le (runes s)
  have y2 := runesBytes_size_le (runes t)
  generalize allP [15] s = a at *
  generalize allP [15] t = b at *
  generalize allP [15, 11] s = p at *
  generalize allP [15, 11] t = q at *
  clear K15 K11
  have hap : (a = false ∧ p = false) ∨ (a = false ∧ p = true) ∨ (a = true ∧ p = true) := by
    have := HF2.out
    cases a <;> cases p <;> simp_all
  clear HF2
  rcases hap with ⟨rfl, rfl⟩ | ⟨rfl, rfl⟩ | ⟨rfl, rfl⟩
  · simp only [Bool.false_and, Bool.true_and] at C3 C4
    go_enter Try.func7, Try.ntmps7
    go_wp2_with fail
    refine (awake_any _).mono ?_
    rintro e w1 ⟨rfl, hb1⟩
    go_wp2_with fail
    refine (Ca.out _).mono ?_
    rintro e w2 ⟨rfl, hb2⟩
    go_wp2_with fail
    refine (Cb.out _).mono ?_
    rintro e w3 ⟨rfl, hb3⟩
    go_wp2_with fail
    refine (Cs.out _).mono ?_
    rintro e w4 ⟨rfl, hb4⟩
    go_wp2_with fail
    refine (C1.out _).mono ?_
    rintro e w5 ⟨rfl, hb5⟩
    go_wp2_with fail
    refine (C3.out _).mono ?_
    rintro e w6 ⟨rfl, hb6⟩
    obtain ⟨c1, w7, hcv1, hb7, hz7, hcell7⟩ := hcs.out w6
    have hbk1 := hbs.out w7 w6.heap.size c1 hcell7
    obtain ⟨c2, w8, hcv2, hb8, hz8, hcell8⟩ := hct.out w7
    have hbk2 := hbt.out w8 w7.heap.size c2 hcell8
    clear hz7 hz8 hcell7 hcell8 hcs hct hbs hbt
    generalize (runes s).length = n1 at *
    generalize (runes t).length = n2 at *
    generalize runesBytes (runes s) = u1 at *
    generalize runesBytes (runes t) = u2 at *
    have z3 : (u1 ++ u2).size ≤ 2000 := by rw [ByteArray.size_append]; omega
    have hbb := (chain hb1 hb2 hb3 hb4 hb5 hb6 hb7 hb8)
    go_wp2_with fail
    refine (C4.out _).mono ?_
    rintro e w9 ⟨rfl, hb9⟩
    go_wp2
    go_ret
    exact ⟨ret_bool (by simp), hbb.trans (hb9.mono hbb.size)⟩
  · simp only [Bool.false_and, Bool.true_and] at C3 C4
    go_enter Try.func7, Try.ntmps7
    go_wp2_with fail
    refine (awake_any _).mono ?_
    rintro e w1 ⟨rfl, hb1⟩
    go_wp2_with fail
    refine (Ca.out _).mono ?_
    rintro e w2 ⟨rfl, hb2⟩
    go_wp2_with fail
    refine (Cb.out _).mono ?_
    rintro e w3 ⟨rfl, hb3⟩
    go_wp2_with fail
    refine (Cs.out _).mono ?_
    rintro e w4 ⟨rfl, hb4⟩
    go_wp2_with fail
    refine (C1.out _).mono ?_
    rintro e w5 ⟨rfl, hb5⟩
    go_wp2_with fail
    refine (C3.out _).mono ?_
    rintro e w6 ⟨rfl, hb6⟩
    go_wp2_with fail
    refine (Ct.out _).mono ?_
    rintro e x6 ⟨rfl, kb6⟩
    replace hb6 : Below w5.heap.size w5 x6 := hb6.trans (kb6.mono hb6.size)
    clear kb6
    obtain ⟨c1, w7, hcv1, hb7, hz7, hcell7⟩ := hcs.out x6
    have hbk1 := hbs.out w7 x6.heap.size c1 hcell7
    obtain ⟨c2, w8, hcv2, hb8, hz8, hcell8⟩ := hct.out w7
    have hbk2 := hbt.out w8 w7.heap.size c2 hcell8
    clear hz7 hz8 hcell7 hcell8 hcs hct hbs hbt
    generalize (runes s).length = n1 at *
    generalize (runes t).length = n2 at *
    generalize runesBytes (runes s) = u1 at *
    generalize runesBytes (runes t) = u2 at *
    have z3 : (u1 ++ u2).size ≤ 2000 := by rw [ByteArray.size_append]; omega
    have hbb := (chain hb1 hb2 hb3 hb4 hb5 hb6 hb7 hb8)
    go_wp2_with fail
    refine (C4.out _).mono ?_
    rintro e w9 ⟨rfl, hb9⟩
    go_wp2
    go_ret
    exact ⟨ret_bool (by simp), hbb.trans (hb9.mono hbb.size)⟩
  · simp only [Bool.false_and, Bool.true_and] at C3 C4
    go_enter Try.func7, Try.ntmps7
    go_wp2_with fail
    refine (awake_any _).mono ?_
    rintro e w1 ⟨rfl, hb1⟩
    go_wp2_with fail
    refine (Ca.out _).mono ?_
    rintro e w2 ⟨rfl, hb2⟩
    go_wp2_with fail
    refine (Cb.out _).mono ?_
    rintro e w3 ⟨rfl, hb3⟩
    go_wp2_with fail
    refine (Cs.out _).mono ?_
    rintro e w4 ⟨rfl, hb4⟩
    go_wp2_with fail
    refine (C1.out _).mono ?_
    rintro e w5 ⟨rfl, hb5⟩
    go_wp2_with fail
    refine (C3.out _).mono ?_
    rintro e w6 ⟨rfl, hb6⟩
    go_wp2_with fail
    refine (Ct.out _).mono ?_
    rintro e x6 ⟨rfl, kb6⟩
    replace hb6 : Below w5.heap.size w5 x6 := hb6.trans (kb6.mono hb6.size)
    clear kb6
    obtain ⟨c1, w7, hcv1, hb7, hz7, hcell7⟩ := hcs.out x6
    have hbk1 := hbs.out w7 x6.heap.size c1 hcell7
    obtain ⟨c2, w8, hcv2, hb8, hz8, hcell8⟩ := hct.out w7
    have hbk2 := hbt.out w8 w7.heap.size c2 hcell8
    clear hz7 hz8 hcell7 hcell8 hcs hct hbs hbt
    generalize (runes s).length = n1 at *
    generalize (runes t).length = n2 at *
    generalize runesBytes (runes s) = u1 at *
    generalize runesBytes (runes t) = u2 at *
    have z3 : (u1 ++ u2).size ≤ 2000 := by rw [ByteArray.size_append]; omega
    have hbb := (chain hb1 hb2 hb3 hb4 hb5 hb6 hb7 hb8)
    go_wp2_with fail
    refine (C4.out _).mono ?_
    rintro e w9 ⟨rfl, hb9⟩
    go_wp2
    go_ret
    exact ⟨ret_bool (by simp), hbb.trans (hb9.mono hbb.size)⟩
end Go.Proofs.Ytooobhdpohnbhaa
