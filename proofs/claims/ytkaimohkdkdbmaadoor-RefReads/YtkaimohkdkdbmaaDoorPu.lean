/-
  The walks of strconv.ParseUint at 31 bits, base 10 and 16, and of ref.numbered.
-/
import Derived.Test.YtkaimohkdkdbmaaDoorSmall
import Derived.Test.YtkaimohkdkdbmaaDoorCLeaf
import Derived.Lib.ConvBytes
import Derived.Lib.BufferWrite
import Derived.Lib.UnsafeStr
import Derived.Lib.AtoiErrMem
import Derived.Lib.IfaceEq
import Derived.Laws.MakeOwn
import Derived.RegionTactic
import Derived.Deep.RegionWith
import Derived.Deep.RegionHeld3
import Derived.BigCall
set_option linter.unusedSimpArgs false
set_option linter.unusedVariables false
namespace Go.Proofs.YtkaimohkdkdbmaaDoor
open Go.RowKit

def low (c : Int) : Int := bits .or .u8 c 32
theorem low_tab : ∀ n : Fin 256, bits .or .u8 ((n : Nat) : Int) 32 = if (n : Nat) / 32 % 2 = 1 then ((n : Nat) : Int) else ((n : Nat) : Int) + 32 := by decide +kernel
theorem low_eq (c : Int) (h0 : 0 ≤ c) (h1 : c ≤ 255) : low c = if c / 32 % 2 = 1 then c else c + 32 := by
  obtain ⟨n, rfl⟩ := Int.eq_ofNat_of_zero_le h0
  have := low_tab ⟨n, by omega⟩
  simp only at this
  unfold low
  rw [this]
  by_cases h : n / 32 % 2 = 1
  · rw [if_pos h, if_pos (by omega)]
  · rw [if_neg h, if_neg (by omega)]
set_option maxHeartbeats 400000 in
theorem low_any (c : Int) (w : World) : Calls Tryd.prog 64 #[.int .u8 c] w fun e w' => e = .returned (.int .u8 (low c)) ∧ w = w' := by
  go_enter Tryd.func64, Tryd.ntmps64
  go_wp2
  go_ret
  exact ⟨rfl, rfl⟩

/-- What the inner ParseUint answers. -/
def PuPost (x : Int) (w : World) (e : Ending) (w' : World) : Prop :=
  ((0 ≤ x ∧ e = .returned (.tuple #[.int .u64 x, .nilIface])) ∨ (x = -1 ∧ ∃ y : Int, e = .returned (.tuple #[.int .u64 y, .iface 91 (.int .i64 1)])) ∨ (x = -1 ∧ ∃ y : Int, e = .returned (.tuple #[.int .u64 y, .iface 91 (.int .i64 2)]))) ∧ Below w.heap.size w w'

set_option maxHeartbeats 1000000 in
set_option maxRecDepth 100000 in
theorem pu_empty (b : Int) (w : World) : Calls Tryd.prog 56 #[.string ⟨#[]⟩, .int .i64 b, .int .i64 31] w (PuPost (-1) w) := by
  go_enter Tryd.func56, Tryd.ntmps56
  go_wp2
  go_ret2
  exact ⟨.inr (.inr ⟨rfl, 0, rfl⟩), Below.refl _ _⟩
theorem puGo_cons (b : Int) (c n : Int) (l : List Int) : puGo b (c :: l) n = if dig c < b then (if 2147483647 < n * b + dig c then -1 else puGo b l (n * b + dig c)) else -1 := rfl
theorem drop_cons (l : List Int) (k : Nat) (h : k < l.length) : l.drop k = l.getD k 0 :: l.drop (k + 1) := by
  rw [List.drop_eq_getElem_cons h]
  simp [List.getD_eq_getElem?_getD, List.getElem?_eq_getElem h]
theorem byt_at (t : ByteArray) (k : Nat) : 0 ≤ (byts t).getD k 0 ∧ (byts t).getD k 0 ≤ 255 := by
  rw [← bt_byts]
  have := bt_lo t k
  have := bt_hi t k
  omega
def PuRel (b : Int) (l : List Int) (k : Nat) (a : Int) : Prop := 0 ≤ a ∧ a ≤ 2147483647 ∧ puGo b l 0 = puGo b (l.drop k) a

set_option maxHeartbeats 8000000 in
set_option maxRecDepth 100000 in
theorem pu_10 (t : ByteArray) (hne : t.size ≠ 0) (hs : t.size ≤ 1000000) (w : World) : Calls Tryd.prog 56 #[.string t, .int .i64 10, .int .i64 31] w (PuPost (puGo 10 (byts t) 0) w) := by
  have hemp : t.toList.isEmpty = false := by
    rw [← decide_eq_emptyBytes]
    exact decide_eq_false (fun h => hne (by rw [h]; rfl))
  have hcv := Lib.run_convert_string_bytes (P := Tryd.prog) w 9 33 5 t (u := .string) Tryd.underlying9 Tryd.underlying33 Tryd.underlying5
  have hB : ∀ j, j < t.size → (Lib.bytesWorld w 5 t).cell? ⟨w.heap.size, j, none⟩ = some (.int .u8 ((byts t).getD j 0)) := fun j hj => by
    rw [Lib.bytesWorld_cell w 5 t j hj, ← bt_byts]; rfl
  have hW := Lib.hid (Lib.bytesWorld_below w 5 t)
  obtain ⟨W1, hW1⟩ : ∃ W1, W1 = Lib.bytesWorld w 5 t := ⟨_, rfl⟩
  rw [← hW1] at hcv hB hW
  clear hW1
  have hby := byt_at t
  have hLn := byts_len t
  obtain ⟨L, hL⟩ : ∃ L, L = byts t := ⟨_, rfl⟩
  rw [← hL] at hB hby hLn ⊢
  clear hL
  have hmv : IntKind.u64.wrap (IntKind.u64.wrap 2147483648 - 1) = 2147483647 := by
    rw [IntKind.wrap_u64, IntKind.wrap_u64]
    decide
  go_enter Tryd.func56, Tryd.ntmps56
  go_wp2
  go_loop [12, 13, 101] (fun vu vn vi => ∃ (k : Nat) (a : Int), vu = .bool false ∧ vn = .int .u64 a ∧ vi = .int .i64 k ∧ k ≤ t.size ∧ Hid (PuRel 10 L k a)) (fun _ _ vi => t.size - (intOf vi).toNat)
  case atStart => exact ⟨0, 0, rfl, rfl, rfl, by omega, Lib.hid ⟨by omega, by omega, rfl⟩⟩
  case round =>
    obtain ⟨k, a, rfl, rfl, rfl, hk, hh⟩ := hrel
    obtain ⟨a0, a1, hdec⟩ := hh.out
    clear hh
    by_cases hkn : k < t.size
    · have hc := hB k hkn
      have hb := hby k
      rw [drop_cons L k (by omega), puGo_cons] at hdec
      generalize L.getD k 0 = c at hc hdec hb
      obtain ⟨c0, c1⟩ := hb
      clear hB hby
      by_cases hdig : 48 ≤ c ∧ c ≤ 57
      · obtain ⟨hd0, hd1⟩ := hdig
        have hd : dig c = c - 48 := by unfold dig; rw [if_pos ⟨hd0, hd1⟩]
        rw [hd, if_pos (by omega)] at hdec
        by_cases hov : 2147483647 < a * 10 + (c - 48)
        · rw [if_pos hov] at hdec
          have HD := Lib.hid hdec
          clear hdec hd
          go_wp2
          go_ret2
          exact ⟨.inr (.inl ⟨HD.out, _, rfl⟩), hW.out⟩
        · rw [if_neg hov] at hdec
          have HN : Hid (PuRel 10 L (k + 1) (a * 10 + (c - 48))) := Lib.hid ⟨by omega, by omega, hdec⟩
          have iov : a * 10 + (c - 48) ≤ 2147483647 := by omega
          clear hdec hd hov
          go_wp2
          refine ⟨⟨k + 1, a * 10 + (c - 48), rfl, (by first | rfl | (congr 1; omega)), (by first | rfl | (congr 1; omega)), by omega, HN⟩, by simp [intOf]; omega⟩
      · have hl := low_eq c c0 c1

        have hd : ¬ dig c < 10 := by
          unfold dig
          rw [if_neg hdig]
          repeat' split
          all_goals omega

        rw [if_neg hd] at hdec
        have HD := Lib.hid hdec
        have LW := Lib.hid (low_any c)
        have y0 : low c < 97 ∨ 122 < low c ∨ (97 ≤ low c ∧ low c ≤ 122) := by
          rw [hl]
          split <;> omega
        have z0 : 0 ≤ low c := by rw [hl]; split <;> omega
        have z1 : low c ≤ 255 := by rw [hl]; split <;> omega
        clear hdec hd hl
        have nd : decide (c ≤ 57) = false ∨ decide (48 ≤ c) = false := by
          rw [decide_eq_false_iff_not, decide_eq_false_iff_not]; omega
        clear hdig
        by_cases h95 : c = 95
        · subst h95
          have y1 : low 95 = 127 := by decide +kernel
          rw [y1] at LW
          clear y0 z0 z1 nd c0 c1 y1
          go_wp2_with (go_at_call 64; refine (LW.out _).mono ?_; rintro e w' ⟨rfl, rfl⟩)
          all_goals go_ret2
          all_goals exact ⟨.inr (.inr ⟨HD.out, _, rfl⟩), hW.out⟩
        generalize low c = x at *
        rcases nd with nd | nd
        · rcases y0 with y0 | y0 | ⟨y0, y1⟩
          all_goals
            go_wp2_with (go_at_call 64; refine (LW.out _).mono ?_; rintro e w' ⟨rfl, rfl⟩)
            all_goals go_ret2
            all_goals exact ⟨.inr (.inr ⟨HD.out, _, rfl⟩), hW.out⟩
        · rcases y0 with y0 | y0 | ⟨y0, y1⟩
          all_goals
            go_wp2_with (go_at_call 64; refine (LW.out _).mono ?_; rintro e w' ⟨rfl, rfl⟩)
            all_goals go_ret2
            all_goals exact ⟨.inr (.inr ⟨HD.out, _, rfl⟩), hW.out⟩
    · have hkk : k = t.size := by omega
      subst hkk
      rw [List.drop_eq_nil_of_le (by omega)] at hdec
      have HD := Lib.hid hdec
      clear hdec
      go_wp2
      go_ret2
      exact ⟨.inl ⟨by rw [HD.out]; exact a0, by rw [HD.out]; rfl⟩, hW.out⟩

set_option maxHeartbeats 8000000 in
set_option maxRecDepth 100000 in
theorem pu_16 (t : ByteArray) (hne : t.size ≠ 0) (hs : t.size ≤ 1000000) (w : World) : Calls Tryd.prog 56 #[.string t, .int .i64 16, .int .i64 31] w (PuPost (puGo 16 (byts t) 0) w) := by
  have hemp : t.toList.isEmpty = false := by
    rw [← decide_eq_emptyBytes]
    exact decide_eq_false (fun h => hne (by rw [h]; rfl))
  have hcv := Lib.run_convert_string_bytes (P := Tryd.prog) w 9 33 5 t (u := .string) Tryd.underlying9 Tryd.underlying33 Tryd.underlying5
  have hB : ∀ j, j < t.size → (Lib.bytesWorld w 5 t).cell? ⟨w.heap.size, j, none⟩ = some (.int .u8 ((byts t).getD j 0)) := fun j hj => by
    rw [Lib.bytesWorld_cell w 5 t j hj, ← bt_byts]; rfl
  have hW := Lib.hid (Lib.bytesWorld_below w 5 t)
  obtain ⟨W1, hW1⟩ : ∃ W1, W1 = Lib.bytesWorld w 5 t := ⟨_, rfl⟩
  rw [← hW1] at hcv hB hW
  clear hW1
  have hby := byt_at t
  have hLn := byts_len t
  obtain ⟨L, hL⟩ : ∃ L, L = byts t := ⟨_, rfl⟩
  rw [← hL] at hB hby hLn ⊢
  clear hL
  have hmv : IntKind.u64.wrap (IntKind.u64.wrap 2147483648 - 1) = 2147483647 := by
    rw [IntKind.wrap_u64, IntKind.wrap_u64]
    decide
  go_enter Tryd.func56, Tryd.ntmps56
  go_wp2
  go_loop [12, 13, 101] (fun vu vn vi => ∃ (k : Nat) (a : Int), vu = .bool false ∧ vn = .int .u64 a ∧ vi = .int .i64 k ∧ k ≤ t.size ∧ Hid (PuRel 16 L k a)) (fun _ _ vi => t.size - (intOf vi).toNat)
  case atStart => exact ⟨0, 0, rfl, rfl, rfl, by omega, Lib.hid ⟨by omega, by omega, rfl⟩⟩
  case round =>
    obtain ⟨k, a, rfl, rfl, rfl, hk, hh⟩ := hrel
    obtain ⟨a0, a1, hdec⟩ := hh.out
    clear hh
    by_cases hkn : k < t.size
    · have hc := hB k hkn
      have hb := hby k
      rw [drop_cons L k (by omega), puGo_cons] at hdec
      generalize L.getD k 0 = c at hc hdec hb
      obtain ⟨c0, c1⟩ := hb
      clear hB hby
      by_cases hdig : 48 ≤ c ∧ c ≤ 57
      · obtain ⟨hd0, hd1⟩ := hdig
        have hd : dig c = c - 48 := by unfold dig; rw [if_pos ⟨hd0, hd1⟩]
        rw [hd, if_pos (by omega)] at hdec
        by_cases hov : 2147483647 < a * 16 + (c - 48)
        · rw [if_pos hov] at hdec
          have HD := Lib.hid hdec
          clear hdec hd
          go_wp2
          go_ret2
          exact ⟨.inr (.inl ⟨HD.out, _, rfl⟩), hW.out⟩
        · rw [if_neg hov] at hdec
          have HN : Hid (PuRel 16 L (k + 1) (a * 16 + (c - 48))) := Lib.hid ⟨by omega, by omega, hdec⟩
          have iov : a * 16 + (c - 48) ≤ 2147483647 := by omega
          clear hdec hd hov
          go_wp2
          refine ⟨⟨k + 1, a * 16 + (c - 48), rfl, (by first | rfl | (congr 1; omega)), (by first | rfl | (congr 1; omega)), by omega, HN⟩, by simp [intOf]; omega⟩
      · have hl := low_eq c c0 c1

        by_cases hx : (97 ≤ c ∧ c ≤ 102) ∨ (65 ≤ c ∧ c ≤ 70)
        · have hd : dig c = low c - 97 + 10 := by
            unfold dig
            rw [if_neg hdig, hl]
            by_cases h : 97 ≤ c ∧ c ≤ 102
            · rw [if_pos h, if_pos (by omega)]; omega
            · rw [if_neg h, if_pos (by omega), if_neg (by omega)]; omega
          have x0 : 97 ≤ low c := by rw [hl]; split <;> omega
          have x1 : low c ≤ 102 := by rw [hl]; split <;> omega
          have n0 : decide (48 ≤ c) = true := by rw [decide_eq_true_eq]; omega
          have n1 : decide (c ≤ 57) = false := by rw [decide_eq_false_iff_not]; omega
          have n2 : ¬ c = 95 := by omega
          have LW := Lib.hid (low_any c)
          rw [hd] at hdec
          clear hl hdig hx hd c0 c1
          generalize low c = x at *
          rw [if_pos (by omega)] at hdec
          by_cases hov : 2147483647 < a * 16 + (x - 97 + 10)
          · rw [if_pos hov] at hdec
            have HD := Lib.hid hdec
            clear hdec
            go_wp2_with (go_at_call 64; refine (LW.out _).mono ?_; rintro e w' ⟨rfl, rfl⟩)
            go_ret2
            exact ⟨.inr (.inl ⟨HD.out, _, rfl⟩), hW.out⟩
          · rw [if_neg hov] at hdec
            have HN : Hid (PuRel 16 L (k + 1) (a * 16 + (x - 97 + 10))) := Lib.hid ⟨by omega, by omega, hdec⟩
            have iov : a * 16 + (x - 97 + 10) ≤ 2147483647 := by omega
            clear hdec hov
            go_wp2_with (go_at_call 64; refine (LW.out _).mono ?_; rintro e w' ⟨rfl, rfl⟩)
            refine ⟨⟨k + 1, a * 16 + (x - 97 + 10), rfl, (by first | rfl | (congr 1; omega)), (by first | rfl | (congr 1; omega)), by omega, HN⟩, by simp [intOf]; omega⟩
        have hd : ¬ dig c < 16 := by
          unfold dig
          rw [if_neg hdig, if_neg (by omega), if_neg (by omega)]
          omega

        rw [if_neg hd] at hdec
        have HD := Lib.hid hdec
        have LW := Lib.hid (low_any c)
        have y0 : low c < 97 ∨ 122 < low c ∨ (103 ≤ low c ∧ low c ≤ 122) := by
          rw [hl]
          split <;> omega
        have z0 : 0 ≤ low c := by rw [hl]; split <;> omega
        have z1 : low c ≤ 255 := by rw [hl]; split <;> omega
        clear hdec hd hl
        have nd : decide (c ≤ 57) = false ∨ decide (48 ≤ c) = false := by
          rw [decide_eq_false_iff_not, decide_eq_false_iff_not]; omega
        clear hdig
        by_cases h95 : c = 95
        · subst h95
          have y1 : low 95 = 127 := by decide +kernel
          rw [y1] at LW
          clear y0 z0 z1 nd c0 c1 y1
          go_wp2_with (go_at_call 64; refine (LW.out _).mono ?_; rintro e w' ⟨rfl, rfl⟩)
          all_goals go_ret2
          all_goals exact ⟨.inr (.inr ⟨HD.out, _, rfl⟩), hW.out⟩
        generalize low c = x at *
        rcases nd with nd | nd
        · rcases y0 with y0 | y0 | ⟨y0, y1⟩
          all_goals
            go_wp2_with (go_at_call 64; refine (LW.out _).mono ?_; rintro e w' ⟨rfl, rfl⟩)
            all_goals go_ret2
            all_goals exact ⟨.inr (.inr ⟨HD.out, _, rfl⟩), hW.out⟩
        · rcases y0 with y0 | y0 | ⟨y0, y1⟩
          all_goals
            go_wp2_with (go_at_call 64; refine (LW.out _).mono ?_; rintro e w' ⟨rfl, rfl⟩)
            all_goals go_ret2
            all_goals exact ⟨.inr (.inr ⟨HD.out, _, rfl⟩), hW.out⟩
    · have hkk : k = t.size := by omega
      subst hkk
      rw [List.drop_eq_nil_of_le (by omega)] at hdec
      have HD := Lib.hid hdec
      clear hdec
      go_wp2
      go_ret2
      exact ⟨.inl ⟨by rw [HD.out]; exact a0, by rw [HD.out]; rfl⟩, hW.out⟩
end Go.Proofs.YtkaimohkdkdbmaaDoor
