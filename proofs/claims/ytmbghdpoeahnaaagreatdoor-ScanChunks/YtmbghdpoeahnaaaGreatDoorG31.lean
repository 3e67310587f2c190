/-
  Merged by program out of the texts RBang, RStart of one seat.
-/
import Derived.Test.YtmbghdpoeahnaaaGreatDoorG30

/- The walk of the document's Next at markup: <! that begins none of the kinds; a start tag. -/
set_option linter.unusedSimpArgs false
set_option linter.unusedVariables false
namespace Go.Proofs.YtmbghdpoeahnaaaGreatDoor
open Go.RowKit

set_option maxHeartbeats 2000000 in
set_option maxRecDepth 100000 in
theorem rbang_doc (s : ByteArray) (a : Nat) (more : Bool) (w : World) (hs : s.size ≤ 1000) (ha : a < s.size) (h6 : (byts s).getD a 0 = 60) (HN : Hid (∀ j, j < 4 → AtC s a (bgK j) false)) (C1 : Hid (AtC s a ⟨#[60, 33]⟩ true)) (C2 : Hid (AtC s a ⟨#[60, 33, 68, 79, 67, 84, 89, 80, 69]⟩ true)) :
    Calls Tryz.prog 12 #[.string s, .int .i64 (a : Int), .bool more] w (NxPost (T0, 0, 12) a w) := by
  have HW := Lib.hid (rw_new w)
  have hbb := at_byt s a ha
  have t0 : ((a : Int) == (s.size : Int)) = false := by rw [beq_eq_false_iff_ne]; omega
  have t6 : (((s[a]).toNat : Int) != 60) = false := by rw [hbb, h6]; rfl
  have e0 : (0 : Int) ≤ (a : Int) := by omega
  have e1 : (a : Int) < (s.size : Int) := by omega
  clear hbb h6
  unfold begs stps at HW
  go_enter Tryz.func12, Tryz.ntmps12
  go_wp2_with fail
  generalize hw2 : World.alloc (World.alloc (World.alloc w _) _) _ = w2 at *
  clear hw2
  go_loop [15] (fun i => ∃ k : Nat, i = .int .i64 k ∧ k ≤ 4) (fun i => 4 - (intOf i).toNat)
  case atStart => exact ⟨0, rfl, Nat.zero_le _⟩
  case round =>
    obtain ⟨k, rfl, hk⟩ := hrel
    have d0 : (0 : Int) ≤ (k : Int) := by omega
    by_cases hk4 : k < 4
    · have d1 : (k : Int) < 4 := by omega
      have p2 := HW.out.beg k hk4
      have C := Lib.hid (HN.out k hk4)
      clear HN C1 C2
      generalize bgK k = bg at *
      go_wp2_with fail
      refine (C.out _).mono ?_
      rintro e wf ⟨rfl, rfl⟩
      go_wp2_with fail
      go_round
      case rel => exact ⟨k + 1, by go_num, by omega⟩
      case measure => simp only [intOf]; omega
    · have d1 : ¬ (k : Int) < 4 := by omega
      clear HN
      go_wp2_with fail
      refine (C1.out _).mono ?_
      rintro e wg ⟨rfl, rfl⟩
      go_wp2_with fail
      refine (C2.out _).mono ?_
      rintro e wg ⟨rfl, rfl⟩
      obtain ⟨hz, hb, ⟨c0, c1, c2, c3, f0, f1, f2, f3⟩⟩ := HW.out.end_
      have HB := Lib.hid hb
      clear hb
      go_wp2_with fail
      exact bodyPost_ret (v := .tuple #[tkV T0, .int .i64 (a : Int), .int .i64 12]) (by rw [tk0]; simp [results, Tryz.results12, go_sem, c0, c1, c2, c3, hz]) rfl (nx_mk (m := 0) rfl (by omega) rfl (below_set4 HB.out (Nat.le_refl _) _ _ _ _))
set_option maxHeartbeats 2000000 in
set_option maxRecDepth 100000 in
theorem rbang_1 (s : ByteArray) (a : Nat) (more : Bool) (w : World) (hs : s.size ≤ 1000) (ha : a < s.size) (h6 : (byts s).getD a 0 = 60) (HN : Hid (∀ j, j < 4 → AtC s a (bgK j) false)) (C1 : Hid (AtC s a ⟨#[60, 33]⟩ true)) (C2 : Hid (AtC s a ⟨#[60, 33, 68, 79, 67, 84, 89, 80, 69]⟩ false)) (C3 : Hid (AtC ⟨#[60, 33, 91, 67, 68, 65, 84, 65, 91]⟩ 0 (s.extract a s.size) true)) :
    Calls Tryz.prog 12 #[.string s, .int .i64 (a : Int), .bool more] w (NxPost (T0, 0, 7) a w) := by
  have g1 : (a : Int) ≤ (s.size : Int) := by omega
  have HW := Lib.hid (rw_new w)
  have hbb := at_byt s a ha
  have t0 : ((a : Int) == (s.size : Int)) = false := by rw [beq_eq_false_iff_ne]; omega
  have t6 : (((s[a]).toNat : Int) != 60) = false := by rw [hbb, h6]; rfl
  have e0 : (0 : Int) ≤ (a : Int) := by omega
  have e1 : (a : Int) < (s.size : Int) := by omega
  clear hbb h6
  unfold begs stps at HW
  go_enter Tryz.func12, Tryz.ntmps12
  go_wp2_with fail
  generalize hw2 : World.alloc (World.alloc (World.alloc w _) _) _ = w2 at *
  clear hw2
  go_loop [15] (fun i => ∃ k : Nat, i = .int .i64 k ∧ k ≤ 4) (fun i => 4 - (intOf i).toNat)
  case atStart => exact ⟨0, rfl, Nat.zero_le _⟩
  case round =>
    obtain ⟨k, rfl, hk⟩ := hrel
    have d0 : (0 : Int) ≤ (k : Int) := by omega
    by_cases hk4 : k < 4
    · have d1 : (k : Int) < 4 := by omega
      have p2 := HW.out.beg k hk4
      have C := Lib.hid (HN.out k hk4)
      clear HN C1 C2 C3
      generalize bgK k = bg at *
      go_wp2_with fail
      refine (C.out _).mono ?_
      rintro e wf ⟨rfl, rfl⟩
      go_wp2_with fail
      go_round
      case rel => exact ⟨k + 1, by go_num, by omega⟩
      case measure => simp only [intOf]; omega
    · have d1 : ¬ (k : Int) < 4 := by omega
      clear HN
      go_wp2_with fail
      refine (C1.out _).mono ?_
      rintro e wg ⟨rfl, rfl⟩
      go_wp2_with fail
      refine (C2.out _).mono ?_
      rintro e wg ⟨rfl, rfl⟩
      go_wp2_with fail
      refine (C3.out _).mono ?_
      rintro e wg ⟨rfl, rfl⟩
      obtain ⟨hz, hb, ⟨c0, c1, c2, c3, f0, f1, f2, f3⟩⟩ := HW.out.end_
      have HB := Lib.hid hb
      clear hb
      go_wp2_with fail
      exact bodyPost_ret (v := .tuple #[tkV T0, .int .i64 (a : Int), .int .i64 7]) (by rw [tk0]; simp [results, Tryz.results12, go_sem, c0, c1, c2, c3, hz]) rfl (nx_mk (m := 0) rfl (by omega) rfl (below_set4 HB.out (Nat.le_refl _) _ _ _ _))
set_option maxHeartbeats 2000000 in
set_option maxRecDepth 100000 in
theorem rbang_2 (s : ByteArray) (a : Nat) (more : Bool) (w : World) (hs : s.size ≤ 1000) (ha : a < s.size) (h6 : (byts s).getD a 0 = 60) (HN : Hid (∀ j, j < 4 → AtC s a (bgK j) false)) (C1 : Hid (AtC s a ⟨#[60, 33]⟩ true)) (C2 : Hid (AtC s a ⟨#[60, 33, 68, 79, 67, 84, 89, 80, 69]⟩ false)) (C3 : Hid (AtC ⟨#[60, 33, 91, 67, 68, 65, 84, 65, 91]⟩ 0 (s.extract a s.size) false)) (C4 : Hid (AtC ⟨#[60, 33, 45, 45]⟩ 0 (s.extract a s.size) true)) :
    Calls Tryz.prog 12 #[.string s, .int .i64 (a : Int), .bool more] w (NxPost (T0, 0, 7) a w) := by
  have g1 : (a : Int) ≤ (s.size : Int) := by omega
  have HW := Lib.hid (rw_new w)
  have hbb := at_byt s a ha
  have t0 : ((a : Int) == (s.size : Int)) = false := by rw [beq_eq_false_iff_ne]; omega
  have t6 : (((s[a]).toNat : Int) != 60) = false := by rw [hbb, h6]; rfl
  have e0 : (0 : Int) ≤ (a : Int) := by omega
  have e1 : (a : Int) < (s.size : Int) := by omega
  clear hbb h6
  unfold begs stps at HW
  go_enter Tryz.func12, Tryz.ntmps12
  go_wp2_with fail
  generalize hw2 : World.alloc (World.alloc (World.alloc w _) _) _ = w2 at *
  clear hw2
  go_loop [15] (fun i => ∃ k : Nat, i = .int .i64 k ∧ k ≤ 4) (fun i => 4 - (intOf i).toNat)
  case atStart => exact ⟨0, rfl, Nat.zero_le _⟩
  case round =>
    obtain ⟨k, rfl, hk⟩ := hrel
    have d0 : (0 : Int) ≤ (k : Int) := by omega
    by_cases hk4 : k < 4
    · have d1 : (k : Int) < 4 := by omega
      have p2 := HW.out.beg k hk4
      have C := Lib.hid (HN.out k hk4)
      clear HN C1 C2 C3 C4
      generalize bgK k = bg at *
      go_wp2_with fail
      refine (C.out _).mono ?_
      rintro e wf ⟨rfl, rfl⟩
      go_wp2_with fail
      go_round
      case rel => exact ⟨k + 1, by go_num, by omega⟩
      case measure => simp only [intOf]; omega
    · have d1 : ¬ (k : Int) < 4 := by omega
      clear HN
      go_wp2_with fail
      refine (C1.out _).mono ?_
      rintro e wg ⟨rfl, rfl⟩
      go_wp2_with fail
      refine (C2.out _).mono ?_
      rintro e wg ⟨rfl, rfl⟩
      go_wp2_with fail
      refine (C3.out _).mono ?_
      rintro e wg ⟨rfl, rfl⟩
      go_wp2_with fail
      refine (C4.out _).mono ?_
      rintro e wg ⟨rfl, rfl⟩
      obtain ⟨hz, hb, ⟨c0, c1, c2, c3, f0, f1, f2, f3⟩⟩ := HW.out.end_
      have HB := Lib.hid hb
      clear hb
      go_wp2_with fail
      exact bodyPost_ret (v := .tuple #[tkV T0, .int .i64 (a : Int), .int .i64 7]) (by rw [tk0]; simp [results, Tryz.results12, go_sem, c0, c1, c2, c3, hz]) rfl (nx_mk (m := 0) rfl (by omega) rfl (below_set4 HB.out (Nat.le_refl _) _ _ _ _))
set_option maxHeartbeats 2000000 in
set_option maxRecDepth 100000 in
theorem rbang_3 (s : ByteArray) (a : Nat) (more : Bool) (w : World) (hs : s.size ≤ 1000) (ha : a < s.size) (h6 : (byts s).getD a 0 = 60) (HN : Hid (∀ j, j < 4 → AtC s a (bgK j) false)) (C1 : Hid (AtC s a ⟨#[60, 33]⟩ true)) (C2 : Hid (AtC s a ⟨#[60, 33, 68, 79, 67, 84, 89, 80, 69]⟩ false)) (C3 : Hid (AtC ⟨#[60, 33, 91, 67, 68, 65, 84, 65, 91]⟩ 0 (s.extract a s.size) false)) (C4 : Hid (AtC ⟨#[60, 33, 45, 45]⟩ 0 (s.extract a s.size) false)) (C5 : Hid (AtC ⟨#[60, 33, 68, 79, 67, 84, 89, 80, 69]⟩ 0 (s.extract a s.size) true)) :
    Calls Tryz.prog 12 #[.string s, .int .i64 (a : Int), .bool more] w (NxPost (T0, 0, 7) a w) := by
  have g1 : (a : Int) ≤ (s.size : Int) := by omega
  have HW := Lib.hid (rw_new w)
  have hbb := at_byt s a ha
  have t0 : ((a : Int) == (s.size : Int)) = false := by rw [beq_eq_false_iff_ne]; omega
  have t6 : (((s[a]).toNat : Int) != 60) = false := by rw [hbb, h6]; rfl
  have e0 : (0 : Int) ≤ (a : Int) := by omega
  have e1 : (a : Int) < (s.size : Int) := by omega
  clear hbb h6
  unfold begs stps at HW
  go_enter Tryz.func12, Tryz.ntmps12
  go_wp2_with fail
  generalize hw2 : World.alloc (World.alloc (World.alloc w _) _) _ = w2 at *
  clear hw2
  go_loop [15] (fun i => ∃ k : Nat, i = .int .i64 k ∧ k ≤ 4) (fun i => 4 - (intOf i).toNat)
  case atStart => exact ⟨0, rfl, Nat.zero_le _⟩
  case round =>
    obtain ⟨k, rfl, hk⟩ := hrel
    have d0 : (0 : Int) ≤ (k : Int) := by omega
    by_cases hk4 : k < 4
    · have d1 : (k : Int) < 4 := by omega
      have p2 := HW.out.beg k hk4
      have C := Lib.hid (HN.out k hk4)
      clear HN C1 C2 C3 C4 C5
      generalize bgK k = bg at *
      go_wp2_with fail
      refine (C.out _).mono ?_
      rintro e wf ⟨rfl, rfl⟩
      go_wp2_with fail
      go_round
      case rel => exact ⟨k + 1, by go_num, by omega⟩
      case measure => simp only [intOf]; omega
    · have d1 : ¬ (k : Int) < 4 := by omega
      clear HN
      go_wp2_with fail
      refine (C1.out _).mono ?_
      rintro e wg ⟨rfl, rfl⟩
      go_wp2_with fail
      refine (C2.out _).mono ?_
      rintro e wg ⟨rfl, rfl⟩
      go_wp2_with fail
      refine (C3.out _).mono ?_
      rintro e wg ⟨rfl, rfl⟩
      go_wp2_with fail
      refine (C4.out _).mono ?_
      rintro e wg ⟨rfl, rfl⟩
      go_wp2_with fail
      refine (C5.out _).mono ?_
      rintro e wg ⟨rfl, rfl⟩
      obtain ⟨hz, hb, ⟨c0, c1, c2, c3, f0, f1, f2, f3⟩⟩ := HW.out.end_
      have HB := Lib.hid hb
      clear hb
      go_wp2_with fail
      exact bodyPost_ret (v := .tuple #[tkV T0, .int .i64 (a : Int), .int .i64 7]) (by rw [tk0]; simp [results, Tryz.results12, go_sem, c0, c1, c2, c3, hz]) rfl (nx_mk (m := 0) rfl (by omega) rfl (below_set4 HB.out (Nat.le_refl _) _ _ _ _))
set_option maxHeartbeats 2000000 in
set_option maxRecDepth 100000 in
theorem rbang_4 (s : ByteArray) (a : Nat) (more : Bool) (w : World) (hs : s.size ≤ 1000) (ha : a < s.size) (h6 : (byts s).getD a 0 = 60) (HN : Hid (∀ j, j < 4 → AtC s a (bgK j) false)) (C1 : Hid (AtC s a ⟨#[60, 33]⟩ true)) (C2 : Hid (AtC s a ⟨#[60, 33, 68, 79, 67, 84, 89, 80, 69]⟩ false)) (C3 : Hid (AtC ⟨#[60, 33, 91, 67, 68, 65, 84, 65, 91]⟩ 0 (s.extract a s.size) false)) (C4 : Hid (AtC ⟨#[60, 33, 45, 45]⟩ 0 (s.extract a s.size) false)) (C5 : Hid (AtC ⟨#[60, 33, 68, 79, 67, 84, 89, 80, 69]⟩ 0 (s.extract a s.size) false)) :
    Calls Tryz.prog 12 #[.string s, .int .i64 (a : Int), .bool more] w (NxPost (T0, 0, 6) a w) := by
  have g1 : (a : Int) ≤ (s.size : Int) := by omega
  have HW := Lib.hid (rw_new w)
  have hbb := at_byt s a ha
  have t0 : ((a : Int) == (s.size : Int)) = false := by rw [beq_eq_false_iff_ne]; omega
  have t6 : (((s[a]).toNat : Int) != 60) = false := by rw [hbb, h6]; rfl
  have e0 : (0 : Int) ≤ (a : Int) := by omega
  have e1 : (a : Int) < (s.size : Int) := by omega
  clear hbb h6
  unfold begs stps at HW
  go_enter Tryz.func12, Tryz.ntmps12
  go_wp2_with fail
  generalize hw2 : World.alloc (World.alloc (World.alloc w _) _) _ = w2 at *
  clear hw2
  go_loop [15] (fun i => ∃ k : Nat, i = .int .i64 k ∧ k ≤ 4) (fun i => 4 - (intOf i).toNat)
  case atStart => exact ⟨0, rfl, Nat.zero_le _⟩
  case round =>
    obtain ⟨k, rfl, hk⟩ := hrel
    have d0 : (0 : Int) ≤ (k : Int) := by omega
    by_cases hk4 : k < 4
    · have d1 : (k : Int) < 4 := by omega
      have p2 := HW.out.beg k hk4
      have C := Lib.hid (HN.out k hk4)
      clear HN C1 C2 C3 C4 C5
      generalize bgK k = bg at *
      go_wp2_with fail
      refine (C.out _).mono ?_
      rintro e wf ⟨rfl, rfl⟩
      go_wp2_with fail
      go_round
      case rel => exact ⟨k + 1, by go_num, by omega⟩
      case measure => simp only [intOf]; omega
    · have d1 : ¬ (k : Int) < 4 := by omega
      clear HN
      go_wp2_with fail
      refine (C1.out _).mono ?_
      rintro e wg ⟨rfl, rfl⟩
      go_wp2_with fail
      refine (C2.out _).mono ?_
      rintro e wg ⟨rfl, rfl⟩
      go_wp2_with fail
      refine (C3.out _).mono ?_
      rintro e wg ⟨rfl, rfl⟩
      go_wp2_with fail
      refine (C4.out _).mono ?_
      rintro e wg ⟨rfl, rfl⟩
      go_wp2_with fail
      refine (C5.out _).mono ?_
      rintro e wg ⟨rfl, rfl⟩
      obtain ⟨hz, hb, ⟨c0, c1, c2, c3, f0, f1, f2, f3⟩⟩ := HW.out.end_
      have HB := Lib.hid hb
      clear hb
      go_wp2_with fail
      exact bodyPost_ret (v := .tuple #[tkV T0, .int .i64 (a : Int), .int .i64 6]) (by rw [tk0]; simp [results, Tryz.results12, go_sem, c0, c1, c2, c3, hz]) rfl (nx_mk (m := 0) rfl (by omega) rfl (below_set4 HB.out (Nat.le_refl _) _ _ _ _))
/-- The end of a start tag: what its token is. -/
inductive SE (s : ByteArray) (a t : Nat) : Tk × Nat × Int → Prop
  | bad (er : Int) (he : er ≠ 0) (C : Hid (WrC (s.extract a (t + 1)) er)) : SE s a t (T0, 0, er)
  | emp (h1 : a + 1 < t) (h2 : (byts s).getD (t - 1) 0 = 47) (C : Hid (WrC (s.extract a (t + 1)) 0)) (y : Int) (hy : 0 ≤ y) (C2 : Hid (FdC (s.extract (a + 1) (t - 1)) 0 ⟨#[60]⟩ y)) : SE s a t (T0, 0, 6)
  | empok (h1 : a + 1 < t) (h2 : (byts s).getD (t - 1) 0 = 47) (C : Hid (WrC (s.extract a (t + 1)) 0)) (C2 : Hid (FdC (s.extract (a + 1) (t - 1)) 0 ⟨#[60]⟩ (-1))) (l : List Int) (hl : s.extract (a + 1) (t - 1) = strOfNums l) : SE s a t (⟨1, l, true, false⟩, t + 1 - a, 0)
  | one (h1 : a + 1 = t) (C : Hid (WrC (s.extract a (t + 1)) 0)) (y : Int) (hy : 0 ≤ y) (C2 : Hid (FdC (s.extract (a + 1) t) 0 ⟨#[60]⟩ y)) : SE s a t (T0, 0, 6)
  | oneok (h1 : a + 1 = t) (C : Hid (WrC (s.extract a (t + 1)) 0)) (C2 : Hid (FdC (s.extract (a + 1) t) 0 ⟨#[60]⟩ (-1))) (l : List Int) (hl : s.extract (a + 1) t = strOfNums l) : SE s a t (⟨1, l, false, false⟩, t + 1 - a, 0)
  | two (h1 : a + 1 < t) (h2 : (byts s).getD (t - 1) 0 ≠ 47) (C : Hid (WrC (s.extract a (t + 1)) 0)) (y : Int) (hy : 0 ≤ y) (C2 : Hid (FdC (s.extract (a + 1) t) 0 ⟨#[60]⟩ y)) : SE s a t (T0, 0, 6)
  | twook (h1 : a + 1 < t) (h2 : (byts s).getD (t - 1) 0 ≠ 47) (C : Hid (WrC (s.extract a (t + 1)) 0)) (C2 : Hid (FdC (s.extract (a + 1) t) 0 ⟨#[60]⟩ (-1))) (l : List Int) (hl : s.extract (a + 1) t = strOfNums l) : SE s a t (⟨1, l, false, false⟩, t + 1 - a, 0)
/-- Where the loop over the start tag's bytes stands: the place, the open quote. -/
def StRel (s : ByteArray) (a : Nat) (vt vq : Value) : Prop :=
  ∃ (t : Nat) (q : Int), a + 1 ≤ t ∧ t ≤ s.size ∧ 0 ≤ q ∧ q < 256 ∧ vt = .int .i64 t ∧ vq = .int .u8 q ∧ Hid (unq 0 ((byts s).drop (a + 1)) = (unq q ((byts s).drop t)).map (· + (t - (a + 1))))
theorem map_step (o : Option Nat) (k : Nat) : (o.map (· + 1)).map (· + k) = o.map (· + (k + 1)) := map_map1 o k
end Go.Proofs.YtmbghdpoeahnaaaGreatDoor

/- The walk of the document's Next at markup: a start tag. -/
set_option linter.unusedSimpArgs false
set_option linter.unusedVariables false
namespace Go.Proofs.YtmbghdpoeahnaaaGreatDoor
open Go.RowKit

set_option maxHeartbeats 8000000 in
set_option maxRecDepth 100000 in
theorem rstart_of (s : ByteArray) (a : Nat) (more : Bool) (w : World) (hs : s.size ≤ 1000) (ha : a < s.size) (h6 : (byts s).getD a 0 = 60) (HN : Hid (∀ j, j < 4 → AtC s a (bgK j) false)) (x : Tk × Nat × Int) (C1 : Hid (AtC s a ⟨#[60, 33]⟩ false)) (HC : Hid (unq 0 ((byts s).drop (a + 1)) = none → x = (T0, 0, 7))) (HS : Hid (∀ t, a + 1 ≤ t → t < s.size → unq 0 ((byts s).drop (a + 1)) = some (t - (a + 1)) → SE s a t x)) :
    Calls Tryz.prog 12 #[.string s, .int .i64 (a : Int), .bool more] w (NxPost x a w) := by
  have HW := Lib.hid (rw_new w)
  have hbb := at_byt s a ha
  have t0 : ((a : Int) == (s.size : Int)) = false := by rw [beq_eq_false_iff_ne]; omega
  have t6 : (((s[a]).toNat : Int) != 60) = false := by rw [hbb, h6]; rfl
  have e0 : (0 : Int) ≤ (a : Int) := by omega
  have e1 : (a : Int) < (s.size : Int) := by omega
  clear hbb h6
  unfold begs stps at HW
  go_enter Tryz.func12, Tryz.ntmps12
  go_wp2_with fail
  generalize hw2 : World.alloc (World.alloc (World.alloc w _) _) _ = w2 at *
  clear hw2
  go_loop [15] (fun i => ∃ k : Nat, i = .int .i64 k ∧ k ≤ 4) (fun i => 4 - (intOf i).toNat)
  case atStart => exact ⟨0, rfl, Nat.zero_le _⟩
  case round =>
    obtain ⟨k, rfl, hk⟩ := hrel
    have d0 : (0 : Int) ≤ (k : Int) := by omega
    by_cases hk4 : k < 4
    · have d1 : (k : Int) < 4 := by omega
      have p2 := HW.out.beg k hk4
      have C := Lib.hid (HN.out k hk4)
      clear HN C1 HC HS
      generalize bgK k = bg at *
      go_wp2_with fail
      refine (C.out _).mono ?_
      rintro e wf ⟨rfl, rfl⟩
      go_wp2_with fail
      go_round
      case rel => exact ⟨k + 1, by go_num, by omega⟩
      case measure => simp only [intOf]; omega
    · have d1 : ¬ (k : Int) < 4 := by omega
      clear HN
      go_wp2_with fail
      refine (C1.out _).mono ?_
      rintro e wg ⟨rfl, rfl⟩
      go_wp2_with fail
      go_loop [22, 23] (fun vt vq => StRel s a vt vq) (fun vt _ => s.size - (intOf vt).toNat)
      case atStart => exact ⟨a + 1, 0, Nat.le_refl _, by omega, by omega, by omega, by go_num, rfl, Lib.hid (by simp)⟩
      case round =>
        obtain ⟨t, q, ht1, ht2, hq0, hq1, rfl, rfl, hU⟩ := hrel
        have q3 : IntKind.i64.wrap ((a : Int) + 1) = ((a + 1 : Nat) : Int) := by rw [IntWalk.i64_in _ (by omega)]; omega
        have q4 : IntKind.i64.wrap ((t : Int) + 1) = ((t + 1 : Nat) : Int) := by rw [IntWalk.i64_in _ (by omega)]; omega
        have y0 : (0 : Int) ≤ (t : Int) := by omega
        by_cases hlt : t < s.size
        · have y1 : (t : Int) < (s.size : Int) := by omega
          have y2 : ¬ (s.size : Int) ≤ (t : Int) := by omega
          have hb := bt_eq s t hlt
          have hb0 := bt_lo s t
          have hb1 := bt_hi s t
          have hu := hU.out
          rw [unq_step (byts s) q t (by rw [byts_len]; exact hlt), ← bt_byts] at hu
          have key : t + 1 - (a + 1) = t - (a + 1) + 1 := by omega
          clear hU
          by_cases hqz : q = 0
          · subst hqz
            rw [if_neg (by omega)] at hu
            by_cases h1 : bt s t = 34 ∨ bt s t = 39
            · rw [if_pos h1, map_map1, ← key] at hu
              have HU := Lib.hid hu
              clear hu HS HC key
              have x1 : (((s[t]).toNat : Int) != 62) = true := by rw [hb, bne_iff_ne]; omega
              have hbb : ((s[t]).toNat : Int) = bt s t := hb
              generalize bt s t = c at *
              rcases h1 with h1 | h1
              · have x2 : (((s[t]).toNat : Int) == 34) = true := by rw [hbb, h1]; rfl
                have H9 := Lib.hid hbb
                clear hb hbb h1
                go_wp2_with fail
                go_round
                case rel => exact ⟨t + 1, c, by omega, by omega, by omega, by omega, by go_num, by rw [← H9.out], HU⟩
                case measure => simp only [intOf]; omega
              · have x2 : (((s[t]).toNat : Int) == 34) = false := by rw [hbb, h1]; rfl
                have x3 : (((s[t]).toNat : Int) == 39) = true := by rw [hbb, h1]; rfl
                have H9 := Lib.hid hbb
                clear hb hbb h1
                go_wp2_with fail
                go_round
                case rel => exact ⟨t + 1, c, by omega, by omega, by omega, by omega, by go_num, by rw [← H9.out], HU⟩
                case measure => simp only [intOf]; omega
            · rw [if_neg h1] at hu
              by_cases h2 : bt s t = 62
              · rw [if_pos h2] at hu
                have hS := HS.out t ht1 hlt (by rw [hu]; simp)
                have x1 : (((s[t]).toNat : Int) != 62) = false := by rw [hb, h2]; rfl
                clear hu HS HC key hb hb0 hb1 h1 h2
                have g2 : (a : Int) ≤ ((t + 1 : Nat) : Int) := by omega
                have g3 : ((t + 1 : Nat) : Int) ≤ (s.size : Int) := by omega
                have g4 : ((a + 1 : Nat) : Int) ≤ (t : Int) := by omega
                have g5 : (t : Int) ≤ (s.size : Int) := by omega
                have g6 : (0 : Int) ≤ ((a + 1 : Nat) : Int) := by omega
                cases hS with
                | bad er he C =>
                  have z1 : (er != 0) = true := by rw [bne_iff_ne]; exact he
                  clear he
                  go_wp2_with fail
                  refine (C.out _).mono ?_
                  rintro e w4 ⟨rfl, hb4⟩
                  have h4 := more_end HW.out.end_ hb4
                  clear hb4
                  go_wp2_with fail
                  refine (C.out _).mono ?_
                  rintro e w5 ⟨rfl, hb5⟩
                  have h5 := more_end h4 hb5
                  clear hb5 h4
                  obtain ⟨hz, hb, ⟨c0, c1, c2, c3, f0, f1, f2, f3⟩⟩ := h5
                  have HB := Lib.hid hb
                  clear hb
                  go_wp2_with fail
                  exact bodyPost_ret (v := .tuple #[tkV T0, .int .i64 (a : Int), .int .i64 er]) (by rw [tk0]; simp [results, Tryz.results12, go_sem, c0, c1, c2, c3, hz]) rfl (nx_mk (m := 0) rfl (by omega) rfl (below_set4 HB.out (Nat.le_refl _) _ _ _ _))
                | emp h1 h2 C y hy C2 =>
                  have z2 : ((a + 1 : Nat) : Int) < (t : Int) := by omega
                  have z3 : IntKind.i64.wrap ((t : Int) - 1) = ((t - 1 : Nat) : Int) := by rw [IntWalk.i64_in _ (by omega)]; omega
                  have z4 : t - 1 < s.size := by omega
                  have z5 : ((t - 1 : Nat) : Int) < (s.size : Int) := by omega
                  have z9 : (0 : Int) ≤ ((t - 1 : Nat) : Int) := by omega
                  have hb9 := at_byt s (t - 1) z4
                  have z6 : (((s[t - 1]).toNat : Int) == 47) = true := by rw [hb9]; simpa using h2
                  have z7 : ((a + 1 : Nat) : Int) ≤ ((t - 1 : Nat) : Int) := by omega
                  have z8 : ((t - 1 : Nat) : Int) ≤ (s.size : Int) := by omega
                  clear hb9 h2
                  go_wp2_with fail
                  refine (C.out _).mono ?_
                  rintro e w4 ⟨rfl, hb4⟩
                  have h4 := more_end HW.out.end_ hb4
                  clear hb4
                  have hA := (Below.refl w4.heap.size w4).alloc (Nat.le_refl _) (.cells #[.int .i64 1, .string (s.extract (a + 1) (t - 1)), .bool true, .bool false] 33)
                  have h6 := more_end h4 hA
                  clear hA h4
                  go_wp2_with fail
                  refine (C2.out _).mono ?_
                  rintro e wf ⟨rfl, rfl⟩
                  obtain ⟨hz, hb, ⟨c0, c1, c2, c3, f0, f1, f2, f3⟩⟩ := h6
                  have HB := Lib.hid hb
                  clear hb
                  go_wp2_with fail
                  exact bodyPost_ret (v := .tuple #[tkV T0, .int .i64 (a : Int), .int .i64 6]) (by rw [tk0]; simp [results, Tryz.results12, go_sem, c0, c1, c2, c3, hz]) rfl (nx_mk (m := 0) rfl (by omega) rfl (below_set4 HB.out (Nat.le_refl _) _ _ _ _))
                | empok h1 h2 C C2 l hl =>
                  have HL := Lib.hid hl
                  clear hl
                  have z2 : ((a + 1 : Nat) : Int) < (t : Int) := by omega
                  have z3 : IntKind.i64.wrap ((t : Int) - 1) = ((t - 1 : Nat) : Int) := by rw [IntWalk.i64_in _ (by omega)]; omega
                  have z4 : t - 1 < s.size := by omega
                  have z5 : ((t - 1 : Nat) : Int) < (s.size : Int) := by omega
                  have z9 : (0 : Int) ≤ ((t - 1 : Nat) : Int) := by omega
                  have hb9 := at_byt s (t - 1) z4
                  have z6 : (((s[t - 1]).toNat : Int) == 47) = true := by rw [hb9]; simpa using h2
                  have z7 : ((a + 1 : Nat) : Int) ≤ ((t - 1 : Nat) : Int) := by omega
                  have z8 : ((t - 1 : Nat) : Int) ≤ (s.size : Int) := by omega
                  clear hb9 h2
                  go_wp2_with fail
                  refine (C.out _).mono ?_
                  rintro e w4 ⟨rfl, hb4⟩
                  have h4 := more_end HW.out.end_ hb4
                  clear hb4
                  have hA := (Below.refl w4.heap.size w4).alloc (Nat.le_refl _) (.cells #[.int .i64 1, .string (s.extract (a + 1) (t - 1)), .bool true, .bool false] 33)
                  have h6 := more_end h4 hA
                  clear hA h4
                  go_wp2_with fail
                  refine (C2.out _).mono ?_
                  rintro e wf ⟨rfl, rfl⟩
                  obtain ⟨hz, hb, ⟨c0, c1, c2, c3, f0, f1, f2, f3⟩⟩ := h6
                  have HB := Lib.hid hb
                  clear hb
                  go_wp2_with fail
                  exact bodyPost_ret (v := .tuple #[.agg #[.int .i64 1, .string (s.extract (a + 1) (t - 1)), .bool true, .bool false], .int .i64 ((t + 1 : Nat) : Int), .int .i64 0]) (by simp [results, Tryz.results12, go_sem, c0, c1, c2, c3, hz]) rfl (nx_mk (y := ⟨1, l, true, false⟩) (k := ((t + 1 : Nat) : Int)) rfl (by omega) (by unfold tkV; rw [HL.out]) (below_set4 HB.out (Nat.le_refl _) _ _ _ _))
                | one h1 C y hy C2 =>
                  have z2 : ¬ ((a + 1 : Nat) : Int) < (t : Int) := by omega
                  clear h1
                  go_wp2_with fail
                  refine (C.out _).mono ?_
                  rintro e w4 ⟨rfl, hb4⟩
                  have h4 := more_end HW.out.end_ hb4
                  clear hb4
                  have hA := (Below.refl w4.heap.size w4).alloc (Nat.le_refl _) (.cells #[.int .i64 1, .string (s.extract (a + 1) t), .bool false, .bool false] 33)
                  have h6 := more_end h4 hA
                  clear hA h4
                  go_wp2_with fail
                  refine (C2.out _).mono ?_
                  rintro e wf ⟨rfl, rfl⟩
                  obtain ⟨hz, hb, ⟨c0, c1, c2, c3, f0, f1, f2, f3⟩⟩ := h6
                  have HB := Lib.hid hb
                  clear hb
                  go_wp2_with fail
                  exact bodyPost_ret (v := .tuple #[tkV T0, .int .i64 (a : Int), .int .i64 6]) (by rw [tk0]; simp [results, Tryz.results12, go_sem, c0, c1, c2, c3, hz]) rfl (nx_mk (m := 0) rfl (by omega) rfl (below_set4 HB.out (Nat.le_refl _) _ _ _ _))
                | oneok h1 C C2 l hl =>
                  have HL := Lib.hid hl
                  clear hl
                  have z2 : ¬ ((a + 1 : Nat) : Int) < (t : Int) := by omega
                  clear h1
                  go_wp2_with fail
                  refine (C.out _).mono ?_
                  rintro e w4 ⟨rfl, hb4⟩
                  have h4 := more_end HW.out.end_ hb4
                  clear hb4
                  have hA := (Below.refl w4.heap.size w4).alloc (Nat.le_refl _) (.cells #[.int .i64 1, .string (s.extract (a + 1) t), .bool false, .bool false] 33)
                  have h6 := more_end h4 hA
                  clear hA h4
                  go_wp2_with fail
                  refine (C2.out _).mono ?_
                  rintro e wf ⟨rfl, rfl⟩
                  obtain ⟨hz, hb, ⟨c0, c1, c2, c3, f0, f1, f2, f3⟩⟩ := h6
                  have HB := Lib.hid hb
                  clear hb
                  go_wp2_with fail
                  exact bodyPost_ret (v := .tuple #[.agg #[.int .i64 1, .string (s.extract (a + 1) t), .bool false, .bool false], .int .i64 ((t + 1 : Nat) : Int), .int .i64 0]) (by simp [results, Tryz.results12, go_sem, c0, c1, c2, c3, hz]) rfl (nx_mk (y := ⟨1, l, false, false⟩) (k := ((t + 1 : Nat) : Int)) rfl (by omega) (by unfold tkV; rw [HL.out]) (below_set4 HB.out (Nat.le_refl _) _ _ _ _))
                | two h1 h2 C y hy C2 =>
                  have z2 : ((a + 1 : Nat) : Int) < (t : Int) := by omega
                  have z3 : IntKind.i64.wrap ((t : Int) - 1) = ((t - 1 : Nat) : Int) := by rw [IntWalk.i64_in _ (by omega)]; omega
                  have z4 : t - 1 < s.size := by omega
                  have z5 : ((t - 1 : Nat) : Int) < (s.size : Int) := by omega
                  have z9 : (0 : Int) ≤ ((t - 1 : Nat) : Int) := by omega
                  have hb9 := at_byt s (t - 1) z4
                  have z6 : (((s[t - 1]).toNat : Int) == 47) = false := by rw [hb9]; simpa using h2
                  have z7 : ((a + 1 : Nat) : Int) ≤ ((t - 1 : Nat) : Int) := by omega
                  have z8 : ((t - 1 : Nat) : Int) ≤ (s.size : Int) := by omega
                  clear hb9 h2
                  go_wp2_with fail
                  refine (C.out _).mono ?_
                  rintro e w4 ⟨rfl, hb4⟩
                  have h4 := more_end HW.out.end_ hb4
                  clear hb4
                  have hA := (Below.refl w4.heap.size w4).alloc (Nat.le_refl _) (.cells #[.int .i64 1, .string (s.extract (a + 1) t), .bool false, .bool false] 33)
                  have h6 := more_end h4 hA
                  clear hA h4
                  go_wp2_with fail
                  refine (C2.out _).mono ?_
                  rintro e wf ⟨rfl, rfl⟩
                  obtain ⟨hz, hb, ⟨c0, c1, c2, c3, f0, f1, f2, f3⟩⟩ := h6
                  have HB := Lib.hid hb
                  clear hb
                  go_wp2_with fail
                  exact bodyPost_ret (v := .tuple #[tkV T0, .int .i64 (a : Int), .int .i64 6]) (by rw [tk0]; simp [results, Tryz.results12, go_sem, c0, c1, c2, c3, hz]) rfl (nx_mk (m := 0) rfl (by omega) rfl (below_set4 HB.out (Nat.le_refl _) _ _ _ _))
                | twook h1 h2 C C2 l hl =>
                  have HL := Lib.hid hl
                  clear hl
                  have z2 : ((a + 1 : Nat) : Int) < (t : Int) := by omega
                  have z3 : IntKind.i64.wrap ((t : Int) - 1) = ((t - 1 : Nat) : Int) := by rw [IntWalk.i64_in _ (by omega)]; omega
                  have z4 : t - 1 < s.size := by omega
                  have z5 : ((t - 1 : Nat) : Int) < (s.size : Int) := by omega
                  have z9 : (0 : Int) ≤ ((t - 1 : Nat) : Int) := by omega
                  have hb9 := at_byt s (t - 1) z4
                  have z6 : (((s[t - 1]).toNat : Int) == 47) = false := by rw [hb9]; simpa using h2
                  have z7 : ((a + 1 : Nat) : Int) ≤ ((t - 1 : Nat) : Int) := by omega
                  have z8 : ((t - 1 : Nat) : Int) ≤ (s.size : Int) := by omega
                  clear hb9 h2
                  go_wp2_with fail
                  refine (C.out _).mono ?_
                  rintro e w4 ⟨rfl, hb4⟩
                  have h4 := more_end HW.out.end_ hb4
                  clear hb4
                  have hA := (Below.refl w4.heap.size w4).alloc (Nat.le_refl _) (.cells #[.int .i64 1, .string (s.extract (a + 1) t), .bool false, .bool false] 33)
                  have h6 := more_end h4 hA
                  clear hA h4
                  go_wp2_with fail
                  refine (C2.out _).mono ?_
                  rintro e wf ⟨rfl, rfl⟩
                  obtain ⟨hz, hb, ⟨c0, c1, c2, c3, f0, f1, f2, f3⟩⟩ := h6
                  have HB := Lib.hid hb
                  clear hb
                  go_wp2_with fail
                  exact bodyPost_ret (v := .tuple #[.agg #[.int .i64 1, .string (s.extract (a + 1) t), .bool false, .bool false], .int .i64 ((t + 1 : Nat) : Int), .int .i64 0]) (by simp [results, Tryz.results12, go_sem, c0, c1, c2, c3, hz]) rfl (nx_mk (y := ⟨1, l, false, false⟩) (k := ((t + 1 : Nat) : Int)) rfl (by omega) (by unfold tkV; rw [HL.out]) (below_set4 HB.out (Nat.le_refl _) _ _ _ _))
              · rw [if_neg h2, map_map1, ← key] at hu
                have HU := Lib.hid hu
                have x1 : (((s[t]).toNat : Int) != 62) = true := by rw [hb, bne_iff_ne]; exact h2
                have x2 : (((s[t]).toNat : Int) == 34) = false := by rw [hb, beq_eq_false_iff_ne]; omega
                have x3 : (((s[t]).toNat : Int) == 39) = false := by rw [hb, beq_eq_false_iff_ne]; omega
                clear hu HS HC key hb hb0 hb1 h1 h2
                go_wp2_with fail
                go_round
                case rel => exact ⟨t + 1, 0, by omega, by omega, by omega, by omega, by go_num, rfl, HU⟩
                case measure => simp only [intOf]; omega
          · rw [if_pos hqz, map_map1, ← key] at hu
            have x0 : (q != 0) = true := by rw [bne_iff_ne]; exact hqz
            have x0' : (q == 0) = false := by rw [beq_eq_false_iff_ne]; exact hqz
            by_cases h1 : bt s t = q
            · rw [if_pos h1] at hu
              have HU := Lib.hid hu
              have x1 : (((s[t]).toNat : Int) == q) = true := by rw [hb, h1]; simp
              clear hu HS HC key hb hb0 hb1 h1
              go_wp2_with fail
              go_round
              case rel => exact ⟨t + 1, 0, by omega, by omega, by omega, by omega, by go_num, rfl, HU⟩
              case measure => simp only [intOf]; omega
            · rw [if_neg h1] at hu
              have HU := Lib.hid hu
              have x1 : (((s[t]).toNat : Int) == q) = false := by rw [hb, beq_eq_false_iff_ne]; exact h1
              clear hu HS HC key hb hb0 hb1 h1
              go_wp2_with fail
              go_round
              case rel => exact ⟨t + 1, q, by omega, by omega, by omega, by omega, by go_num, rfl, HU⟩
              case measure => simp only [intOf]; omega
        · have y1 : ¬ (t : Int) < (s.size : Int) := by omega
          have y2 : (s.size : Int) ≤ (t : Int) := by omega
          have HX := Lib.hid (HC.out (by
            rw [hU.out, List.drop_of_length_le (by rw [byts_len]; omega)]
            rfl))
          clear hU HS HC
          obtain ⟨hz, hb, ⟨c0, c1, c2, c3, f0, f1, f2, f3⟩⟩ := HW.out.end_
          have HB := Lib.hid hb
          clear hb
          go_wp2_with fail
          exact bodyPost_ret (v := .tuple #[tkV T0, .int .i64 (a : Int), .int .i64 7]) (by rw [tk0]; simp [results, Tryz.results12, go_sem, c0, c1, c2, c3, hz]) rfl (nx_mk (m := 0) HX.out (by omega) rfl (below_set4 HB.out (Nat.le_refl _) _ _ _ _))
end Go.Proofs.YtmbghdpoeahnaaaGreatDoor
