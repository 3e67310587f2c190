/-
  The walk of the law NameParts.
-/
import Derived.Test.YtpfbnbmpeaihjaaPartsMath
set_option linter.unusedSimpArgs false
set_option linter.unusedVariables false
namespace Go.Proofs.Ytpfbnbmpeaihjaa
open Go.RowKit

theorem ple (s : ByteArray) (b : Bool) (h : pl (bl s) = b) (w : World) : Calls Try.prog 10 #[.string s] w fun e w' => e = .returned (.bool b) ∧ Below w.heap.size w w' := by
  rw [← h]
  exact plain_any s w
theorem spe (s a b : ByteArray) (c : Bool) (hs : s.size ≤ 1000) (h : splitA s = (a, b, c)) (w : World) : Calls Try.prog 8 #[.string s] w fun e w' => e = .returned (.tuple #[.string a, .string b, .bool c]) ∧ Below w.heap.size w w' := by
  have := split_any s hs w
  rw [h] at this
  exact this
theorem jne (p l s : ByteArray) (hs : p.size + l.size ≤ 900) (h : joinA p l = s) (w : World) : Calls Try.prog 14 #[.string p, .string l] w fun e w' => e = .returned (.string s) ∧ w = w' := by
  rw [← h]
  exact join_any p l hs w

set_option maxHeartbeats 1000000 in
set_option maxRecDepth 100000 in
/-- It is no name. -/
theorem parts_none (s t : ByteArray) (hs : s.size ≤ 200) (ht : t.size ≤ 200) (h1 : pl (bl s) = false) (h2 : splitA s = (em, em, false)) (w : World) :
    Calls Try.prog 5 #[.string s, .string t] w fun e w' => e = .returned (.bool true) ∧ Below w.heap.size w w' := by
  have t1 : decide ((200 : Int) < (s.size : Int)) = false := by simp; omega
  have t2 : decide ((200 : Int) < (t.size : Int)) = false := by simp; omega
  have C1 := Lib.hid (spe s em em false (by omega) h2)
  have C2 := Lib.hid (ple s false h1)
  clear h1 h2
  go_enter Try.func5, Try.ntmps5
  go_wp2_with fail
  refine (awake_any _).mono ?_
  rintro e w1 ⟨rfl, hb1⟩
  go_wp2_with fail
  refine (C1.out _).mono ?_
  rintro e w2 ⟨rfl, hb2⟩
  go_wp2_with fail
  refine (C2.out _).mono ?_
  rintro e w3 ⟨rfl, hb3⟩
  go_wp2_with fail
  go_ret
  exact ⟨rfl, chain2 (chain2 hb1 hb2) hb3⟩

set_option maxHeartbeats 1000000 in
set_option maxRecDepth 100000 in
/-- It is two plain names. -/
theorem parts_two (s t p l : ByteArray) (hs : s.size ≤ 200) (ht : t.size ≤ 200) (h1 : pl (bl s) = false) (h2 : splitA s = (p, l, true)) (h3 : s = p ++ ⟨#[58]⟩ ++ l) (h4 : pl (bl p) = true) (h5 : pl (bl l) = true) (w : World) :
    Calls Try.prog 5 #[.string s, .string t] w fun e w' => e = .returned (.bool true) ∧ Below w.heap.size w w' := by
  have t1 : decide ((200 : Int) < (s.size : Int)) = false := by simp; omega
  have t2 : decide ((200 : Int) < (t.size : Int)) = false := by simp; omega
  have hpz := pl_size h4
  have hsz : s.size = p.size + 1 + l.size := by rw [h3, size_two]
  have hj : joinA p l = s := by rw [joinA_two hpz, ← h3]
  have C1 := Lib.hid (spe s p l true (by omega) h2)
  have C2 := Lib.hid (ple s false h1)
  have C3 := Lib.hid (ple p true h4)
  have C4 := Lib.hid (ple l true h5)
  have C5 := Lib.hid (jne p l s (by omega) hj)
  have he := isE p
  rw [decide_eq_false hpz] at he
  clear h1 h2 h3 h4 h5 hj hpz hsz
  go_enter Try.func5, Try.ntmps5
  go_wp2_with fail
  refine (awake_any _).mono ?_
  rintro e w1 ⟨rfl, hb1⟩
  go_wp2_with fail
  refine (C1.out _).mono ?_
  rintro e w2 ⟨rfl, hb2⟩
  go_wp2_with fail
  refine (C5.out _).mono ?_
  rintro e w3 ⟨rfl, rfl⟩
  go_wp2_with fail
  refine (C4.out _).mono ?_
  rintro e w4 ⟨rfl, hb4⟩
  go_wp2_with fail
  refine (C3.out _).mono ?_
  rintro e w5 ⟨rfl, hb5⟩
  go_wp2_with fail
  refine (C2.out _).mono ?_
  rintro e w6 ⟨rfl, hb6⟩
  go_wp2_with fail
  go_ret
  exact ⟨rfl, chain hb1 hb2 hb4 hb5 hb6⟩

set_option maxHeartbeats 1000000 in
set_option maxRecDepth 100000 in
/-- It is a plain name, the other is none. -/
theorem parts_one (s t : ByteArray) (hs : s.size ≤ 200) (ht : t.size ≤ 200) (h1 : pl (bl s) = true) (h2 : pl (bl t) = false) (w : World) :
    Calls Try.prog 5 #[.string s, .string t] w fun e w' => e = .returned (.bool true) ∧ Below w.heap.size w w' := by
  have t1 : decide ((200 : Int) < (s.size : Int)) = false := by simp; omega
  have t2 : decide ((200 : Int) < (t.size : Int)) = false := by simp; omega
  have C1 : Hid (∀ w, Calls Try.prog 8 #[.string s] w fun e w' => e = .returned (.tuple #[.string ⟨#[]⟩, .string s, .bool true]) ∧ Below w.heap.size w w') := Lib.hid (spe s em s true (by omega) (plain_split h1))
  have C2 := Lib.hid (ple s true h1)
  have C3 := Lib.hid (ple t false h2)
  have C5 : Hid (∀ w, Calls Try.prog 14 #[.string ⟨#[]⟩, .string s] w fun e w' => e = .returned (.string s) ∧ w = w') := Lib.hid (jne em s s (by have : em.size = 0 := rfl; omega) (joinA_one s))
  clear h1 h2
  go_enter Try.func5, Try.ntmps5
  go_wp2_with fail
  refine (awake_any _).mono ?_
  rintro e w1 ⟨rfl, hb1⟩
  go_wp2_with fail
  refine (C1.out _).mono ?_
  rintro e w2 ⟨rfl, hb2⟩
  go_wp2_with fail
  refine (C5.out _).mono ?_
  rintro e w3 ⟨rfl, rfl⟩
  go_wp2_with fail
  refine (C2.out _).mono ?_
  rintro e w4 ⟨rfl, hb4⟩
  go_wp2_with fail
  refine (C2.out _).mono ?_
  rintro e w5 ⟨rfl, hb5⟩
  go_wp2_with fail
  refine (C3.out _).mono ?_
  rintro e w6 ⟨rfl, hb6⟩
  go_wp2_with fail
  go_ret
  exact ⟨rfl, chain hb1 hb2 hb4 hb5 hb6⟩

set_option maxHeartbeats 2000000 in
set_option maxRecDepth 100000 in
/-- Both are plain names. -/
theorem parts_both (s t : ByteArray) (hs : s.size ≤ 200) (ht : t.size ≤ 200) (h1 : pl (bl s) = true) (h2 : pl (bl t) = true) (w : World) :
    Calls Try.prog 5 #[.string s, .string t] w fun e w' => e = .returned (.bool true) ∧ Below w.heap.size w w' := by
  have t1 : decide ((200 : Int) < (s.size : Int)) = false := by simp; omega
  have t2 : decide ((200 : Int) < (t.size : Int)) = false := by simp; omega
  have C1 : Hid (∀ w, Calls Try.prog 8 #[.string s] w fun e w' => e = .returned (.tuple #[.string ⟨#[]⟩, .string s, .bool true]) ∧ Below w.heap.size w w') := Lib.hid (spe s em s true (by omega) (plain_split h1))
  have C2 := Lib.hid (ple s true h1)
  have C3 := Lib.hid (ple t true h2)
  have C5 : Hid (∀ w, Calls Try.prog 14 #[.string ⟨#[]⟩, .string s] w fun e w' => e = .returned (.string s) ∧ w = w') := Lib.hid (jne em s s (by have : em.size = 0 := rfl; omega) (joinA_one s))
  have z1 : (s ++ ⟨#[58]⟩ ++ t).size ≤ 500 := by rw [size_two]; omega
  have z2 : (t ++ ⟨#[58]⟩ ++ s).size ≤ 500 := by rw [size_two]; omega
  have hj1 := @joinA_two s t (pl_size h1)
  have hj2 := @joinA_two t s (pl_size h2)
  have hj3 := @joinA_two s (t ++ ⟨#[58]⟩ ++ s) (pl_size h1)
  have z3 : (s ++ ⟨#[58]⟩ ++ (t ++ ⟨#[58]⟩ ++ s)).size ≤ 800 := by rw [size_two, size_two]; omega
  have D1 := Lib.hid (jne s t _ (by omega) hj1)
  have D2 := Lib.hid (jne t s _ (by omega) hj2)
  have D3 := Lib.hid (jne s (t ++ ⟨#[58]⟩ ++ s) _ (by omega) hj3)
  have D4 := Lib.hid (spe _ s t true (by omega) (split_two' h1 h2))
  have D5 := Lib.hid (spe _ em em false (by omega) (split_three s t s))
  have z4 : (s ++ ⟨#[58]⟩ ++ t ++ ⟨#[32]⟩).size ≤ 600 := by rw [ByteArray.size_append]; have : (⟨#[32]⟩ : ByteArray).size = 1 := rfl; omega
  have D6 := Lib.hid (fun w => cut_any (s ++ ⟨#[58]⟩ ++ t ++ ⟨#[32]⟩) 0 (by omega) (by omega) w)
  rw [cut_two_x h1 h2, cut_two h1 h2] at D6
  have z5 : (s ++ ⟨#[58]⟩ : ByteArray).size ≤ 500 := by rw [ByteArray.size_append]; have : (⟨#[58]⟩ : ByteArray).size = 1 := rfl; omega
  clear h1 h2 hj1 hj2 hj3
  go_enter Try.func5, Try.ntmps5
  go_wp2_with fail
  refine (awake_any _).mono ?_
  rintro e w1 ⟨rfl, hb1⟩
  go_wp2_with fail
  refine (C1.out _).mono ?_
  rintro e w2 ⟨rfl, hb2⟩
  have k1 := chain2 hb1 hb2
  clear hb1 hb2
  go_wp2_with fail
  refine (C5.out _).mono ?_
  rintro e w3 ⟨rfl, rfl⟩
  go_wp2_with fail
  refine (C2.out _).mono ?_
  rintro e w4 ⟨rfl, hb4⟩
  have k2 := chain2 k1 hb4
  clear k1 hb4
  go_wp2_with fail
  refine (C2.out _).mono ?_
  rintro e w5 ⟨rfl, hb5⟩
  have k3 := chain2 k2 hb5
  clear k2 hb5
  go_wp2_with fail
  refine (C3.out _).mono ?_
  rintro e w6 ⟨rfl, hb6⟩
  have k4 := chain2 k3 hb6
  clear k3 hb6
  go_wp2_with fail
  refine (D1.out _).mono ?_
  rintro e w7 ⟨rfl, rfl⟩
  go_wp2_with fail
  refine (D4.out _).mono ?_
  rintro e w8 ⟨rfl, hb8⟩
  have k5 := chain2 k4 hb8
  clear k4 hb8
  go_wp2_with fail
  refine (D2.out _).mono ?_
  rintro e w9 ⟨rfl, rfl⟩
  go_wp2_with fail
  refine (D3.out _).mono ?_
  rintro e w9 ⟨rfl, rfl⟩
  go_wp2_with fail
  refine (D5.out _).mono ?_
  rintro e w10 ⟨rfl, hb10⟩
  have k6 := chain2 k5 hb10
  clear k5 hb10
  go_wp2_with fail
  refine (D1.out _).mono ?_
  rintro e w11 ⟨rfl, rfl⟩
  go_wp2_with fail
  refine (D6.out _).mono ?_
  rintro e w12 ⟨rfl, hb12⟩
  have k7 := chain2 k6 hb12
  clear k6 hb12
  go_wp2_with fail
  go_ret
  exact ⟨ret_bool (by simp), k7⟩

theorem parts_law (s t : ByteArray) (hs : s.size ≤ 200) (ht : t.size ≤ 200) (w : World) :
    Calls Try.prog 5 #[.string s, .string t] w fun e w' => e = .returned (.bool true) ∧ Below w.heap.size w w' := by
  rcases split_cases s with ⟨h1, h2⟩ | ⟨h1, h2⟩ | ⟨p, l, h1, h2, h3, h4, h5⟩
  · exact parts_none s t hs ht h1 h2 w
  · cases h3 : pl (bl t)
    · exact parts_one s t hs ht h1 h3 w
    · exact parts_both s t hs ht h1 h3 w
  · exact parts_two s t p l hs ht h1 h2 h3 h4 h5 w
end Go.Proofs.Ytpfbnbmpeaihjaa
