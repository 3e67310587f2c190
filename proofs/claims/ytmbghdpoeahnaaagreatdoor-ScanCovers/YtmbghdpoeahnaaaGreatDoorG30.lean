/-
  Merged by program out of the texts RNext, RMark of one seat.
-/
import Derived.Test.YtmbghdpoeahnaaaGreatDoorG24
import Derived.Test.YtmbghdpoeahnaaaGreatDoorG29

/- The walk of the document's Next: the end of the text, and Chars. -/
set_option linter.unusedSimpArgs false
set_option linter.unusedVariables false
namespace Go.Proofs.YtmbghdpoeahnaaaGreatDoor
open Go.RowKit

theorem nx_mk {x : Tk × Nat × Int} {y : Tk} {a m : Nat} {k er : Int} {w w' : World} {e : Ending} (hx : x = (y, m, er)) (hk : k = (a : Int) + (m : Int)) (he : e = .returned (.tuple #[tkV y, .int .i64 k, .int .i64 er])) (hb : Below w.heap.size w w') : NxPost x a w e w' := by
  subst hx hk
  exact ⟨he, hb⟩
def WrC (t : ByteArray) (er : Int) : Prop := ∀ W, Calls Tryz.prog 16 #[.string t] W fun e w' => e = .returned (.int .i64 er) ∧ Below W.heap.size W w'
def DrC (s t : ByteArray) (m er : Int) : Prop := ∀ W, Calls Tryz.prog 17 #[.string s, .bool false] W fun e w' => e = .returned (.tuple #[.string t, .int .i64 m, .int .i64 er]) ∧ Below W.heap.size W w'
def RbC (s : ByteArray) (b : Bool) : Prop := ∀ W, Calls Tryz.prog 18 #[.string s] W fun e w' => e = .returned (.bool b) ∧ W = w'
set_option maxHeartbeats 1000000 in
set_option maxRecDepth 100000 in
theorem rn_end (s : ByteArray) (a : Nat) (more : Bool) (w : World) (ha : a = s.size) : Calls Tryz.prog 12 #[.string s, .int .i64 (a : Int), .bool more] w (NxPost (if more = true then (T0, 0, 7) else (⟨6, [], false, false⟩, 0, 0)) a w) := by
  have t1 : ((a : Int) == (s.size : Int)) = true := by rw [beq_iff_eq]; omega
  clear ha
  cases more
  · go_enter Tryz.func12, Tryz.ntmps12
    go_wp2_with fail
    exact bodyPost_ret (v := .tuple #[tkV ⟨6, [], false, false⟩, .int .i64 (a : Int), .int .i64 0]) (by unfold tkV; rw [str_none]; simp [results, Tryz.results12, go_sem]) rfl (nx_mk (m := 0) rfl (by omega) rfl ((Below.refl _ w).alloc (Nat.le_refl _) _))
  · have HN := Lib.hid (new_end w)
    go_enter Tryz.func12, Tryz.ntmps12
    go_wp2_with fail
    exact bodyPost_ret (v := .tuple #[tkV T0, .int .i64 (a : Int), .int .i64 7]) (by rw [tk0]; simp [results, Tryz.results12, go_sem]) rfl (nx_mk (m := 0) rfl (by omega) rfl HN.out.2.1)
set_option maxHeartbeats 2000000 in
set_option maxRecDepth 100000 in
theorem rpl_cut (s : ByteArray) (a : Nat) (more : Bool) (hs : s.size ≤ 1000) (ha : a < s.size) (h6 : (byts s).getD a 0 ≠ 60) (hm : more = true) (C1 : Hid (FdC s a ⟨#[60]⟩ (-1))) (w : World) : Calls Tryz.prog 12 #[.string s, .int .i64 (a : Int), .bool more] w (NxPost (T0, 0, 7) a w) := by
  subst hm
  have HN := Lib.hid (new_end w)
  have hbb := at_byt s a ha
  have t0 : ((a : Int) == (s.size : Int)) = false := by rw [beq_eq_false_iff_ne]; omega
  have t6 : (((s[a]).toNat : Int) != 60) = true := by rw [hbb, bne_iff_ne]; exact h6
  have e0 : (0 : Int) ≤ (a : Int) := by omega
  have e1 : (a : Int) < (s.size : Int) := by omega
  clear hbb h6
  go_enter Tryz.func12, Tryz.ntmps12
  go_wp2_with fail
  refine (C1.out _).mono ?_
  rintro e w1 ⟨rfl, rfl⟩
  go_wp2_with fail
  exact bodyPost_ret (v := .tuple #[tkV T0, .int .i64 (a : Int), .int .i64 7]) (by rw [tk0]; simp [results, Tryz.results12, go_sem]) rfl (nx_mk (m := 0) rfl (by omega) rfl HN.out.2.1)
set_option maxHeartbeats 2000000 in
set_option maxRecDepth 100000 in
theorem rpl_bad (s : ByteArray) (a : Nat) (more : Bool) (hs : s.size ≤ 1000) (ha : a < s.size) (h6 : (byts s).getD a 0 ≠ 60) (x : Int) (t : Nat) (hat : a ≤ t) (ht : t ≤ s.size) (hx : x = (t : Int) ∨ (x = -1 ∧ more = false ∧ t = s.size)) (C1 : Hid (FdC s a ⟨#[60]⟩ x)) (er : Int) (her : er ≠ 0) (C2 : Hid (WrC (s.extract a t) er)) (w : World) : Calls Tryz.prog 12 #[.string s, .int .i64 (a : Int), .bool more] w (NxPost (T0, 0, er) a w) := by
  have HN := Lib.hid (new_end w)
  have hbb := at_byt s a ha
  have t0 : ((a : Int) == (s.size : Int)) = false := by rw [beq_eq_false_iff_ne]; omega
  have t6 : (((s[a]).toNat : Int) != 60) = true := by rw [hbb, bne_iff_ne]; exact h6
  have e0 : (0 : Int) ≤ (a : Int) := by omega
  have e1 : (a : Int) < (s.size : Int) := by omega
  clear hbb h6
  have d1 : (a : Int) ≤ (t : Int) := by omega
  have d2 : (t : Int) ≤ (s.size : Int) := by omega
  have d3 : ¬ (t : Int) < 0 := by omega
  have t1 : (er != 0) = true := by rw [bne_iff_ne]; exact her
  clear her
  rcases hx with rfl | ⟨rfl, rfl, rfl⟩
  · clear ht
    go_enter Tryz.func12, Tryz.ntmps12
    go_wp2_with fail
    refine (C1.out _).mono ?_
    rintro e w1 ⟨rfl, rfl⟩
    go_wp2_with fail
    refine (C2.out _).mono ?_
    rintro e w2 ⟨rfl, hb2⟩
    have h2 := more_end HN.out hb2
    clear hb2
    go_wp2_with fail
    refine (C2.out _).mono ?_
    rintro e w3 ⟨rfl, hb3⟩
    have h3 := more_end h2 hb3
    clear hb3
    clear h2
    obtain ⟨hz, hb, ⟨c0, c1, c2, c3, f0, f1, f2, f3⟩⟩ := h3
    have HB := Lib.hid hb
    clear hb
    go_wp2_with fail
    exact bodyPost_ret (v := .tuple #[tkV T0, .int .i64 (a : Int), .int .i64 er]) (by rw [tk0]; simp [results, Tryz.results12, go_sem, c0, c1, c2, c3, hz]) rfl (nx_mk (m := 0) rfl (by omega) rfl (below_set4 HB.out (Nat.le_refl _) _ _ _ _))
  · clear d3 d2 ht
    go_enter Tryz.func12, Tryz.ntmps12
    go_wp2_with fail
    refine (C1.out _).mono ?_
    rintro e w1 ⟨rfl, rfl⟩
    go_wp2_with fail
    refine (C2.out _).mono ?_
    rintro e w2 ⟨rfl, hb2⟩
    have h2 := more_end HN.out hb2
    clear hb2
    go_wp2_with fail
    refine (C2.out _).mono ?_
    rintro e w3 ⟨rfl, hb3⟩
    have h3 := more_end h2 hb3
    clear hb3
    clear h2
    obtain ⟨hz, hb, ⟨c0, c1, c2, c3, f0, f1, f2, f3⟩⟩ := h3
    have HB := Lib.hid hb
    clear hb
    go_wp2_with fail
    exact bodyPost_ret (v := .tuple #[tkV T0, .int .i64 (a : Int), .int .i64 er]) (by rw [tk0]; simp [results, Tryz.results12, go_sem, c0, c1, c2, c3, hz]) rfl (nx_mk (m := 0) rfl (by omega) rfl (below_set4 HB.out (Nat.le_refl _) _ _ _ _))
set_option maxHeartbeats 2000000 in
set_option maxRecDepth 100000 in
theorem rpl_mark (s : ByteArray) (a : Nat) (more : Bool) (hs : s.size ≤ 1000) (ha : a < s.size) (h6 : (byts s).getD a 0 ≠ 60) (x : Int) (t : Nat) (hat : a ≤ t) (ht : t ≤ s.size) (hx : x = (t : Int) ∨ (x = -1 ∧ more = false ∧ t = s.size)) (C1 : Hid (FdC s a ⟨#[60]⟩ x)) (y : Int) (hy : 0 ≤ y) (C2 : Hid (WrC (s.extract a t) 0)) (C3 : Hid (FdC (s.extract a t) 0 ⟨#[93, 93, 62]⟩ y)) (w : World) : Calls Tryz.prog 12 #[.string s, .int .i64 (a : Int), .bool more] w (NxPost (T0, 0, 6) a w) := by
  have HN := Lib.hid (new_end w)
  have hbb := at_byt s a ha
  have t0 : ((a : Int) == (s.size : Int)) = false := by rw [beq_eq_false_iff_ne]; omega
  have t6 : (((s[a]).toNat : Int) != 60) = true := by rw [hbb, bne_iff_ne]; exact h6
  have e0 : (0 : Int) ≤ (a : Int) := by omega
  have e1 : (a : Int) < (s.size : Int) := by omega
  clear hbb h6
  have d1 : (a : Int) ≤ (t : Int) := by omega
  have d2 : (t : Int) ≤ (s.size : Int) := by omega
  have d3 : ¬ (t : Int) < 0 := by omega
  rcases hx with rfl | ⟨rfl, rfl, rfl⟩
  · clear ht
    go_enter Tryz.func12, Tryz.ntmps12
    go_wp2_with fail
    refine (C1.out _).mono ?_
    rintro e w1 ⟨rfl, rfl⟩
    go_wp2_with fail
    refine (C2.out _).mono ?_
    rintro e w2 ⟨rfl, hb2⟩
    have h2 := more_end HN.out hb2
    clear hb2
    go_wp2_with fail
    refine (C3.out _).mono ?_
    rintro e w3 ⟨rfl, rfl⟩
    obtain ⟨hz, hb, ⟨c0, c1, c2, c3, f0, f1, f2, f3⟩⟩ := h2
    have HB := Lib.hid hb
    clear hb
    go_wp2_with fail
    exact bodyPost_ret (v := .tuple #[tkV T0, .int .i64 (a : Int), .int .i64 6]) (by rw [tk0]; simp [results, Tryz.results12, go_sem, c0, c1, c2, c3, hz]) rfl (nx_mk (m := 0) rfl (by omega) rfl (below_set4 HB.out (Nat.le_refl _) _ _ _ _))
  · clear d3 d2 ht
    go_enter Tryz.func12, Tryz.ntmps12
    go_wp2_with fail
    refine (C1.out _).mono ?_
    rintro e w1 ⟨rfl, rfl⟩
    go_wp2_with fail
    refine (C2.out _).mono ?_
    rintro e w2 ⟨rfl, hb2⟩
    have h2 := more_end HN.out hb2
    clear hb2
    go_wp2_with fail
    refine (C3.out _).mono ?_
    rintro e w3 ⟨rfl, rfl⟩
    obtain ⟨hz, hb, ⟨c0, c1, c2, c3, f0, f1, f2, f3⟩⟩ := h2
    have HB := Lib.hid hb
    clear hb
    go_wp2_with fail
    exact bodyPost_ret (v := .tuple #[tkV T0, .int .i64 (a : Int), .int .i64 6]) (by rw [tk0]; simp [results, Tryz.results12, go_sem, c0, c1, c2, c3, hz]) rfl (nx_mk (m := 0) rfl (by omega) rfl (below_set4 HB.out (Nat.le_refl _) _ _ _ _))
set_option maxHeartbeats 2000000 in
set_option maxRecDepth 100000 in
theorem rpl_ref (s : ByteArray) (a : Nat) (more : Bool) (hs : s.size ≤ 1000) (ha : a < s.size) (h6 : (byts s).getD a 0 ≠ 60) (x : Int) (t : Nat) (hat : a ≤ t) (ht : t ≤ s.size) (hx : x = (t : Int) ∨ (x = -1 ∧ more = false ∧ t = s.size)) (C1 : Hid (FdC s a ⟨#[60]⟩ x)) (u : ByteArray) (m er : Int) (her : er ≠ 0) (C2 : Hid (WrC (s.extract a t) 0)) (C3 : Hid (FdC (s.extract a t) 0 ⟨#[93, 93, 62]⟩ (-1))) (C4 : Hid (DrC (s.extract a t) u m er)) (w : World) : Calls Tryz.prog 12 #[.string s, .int .i64 (a : Int), .bool more] w (NxPost (T0, 0, er) a w) := by
  have HN := Lib.hid (new_end w)
  have hbb := at_byt s a ha
  have t0 : ((a : Int) == (s.size : Int)) = false := by rw [beq_eq_false_iff_ne]; omega
  have t6 : (((s[a]).toNat : Int) != 60) = true := by rw [hbb, bne_iff_ne]; exact h6
  have e0 : (0 : Int) ≤ (a : Int) := by omega
  have e1 : (a : Int) < (s.size : Int) := by omega
  clear hbb h6
  have d1 : (a : Int) ≤ (t : Int) := by omega
  have d2 : (t : Int) ≤ (s.size : Int) := by omega
  have d3 : ¬ (t : Int) < 0 := by omega
  have t1 : (er != 0) = true := by rw [bne_iff_ne]; exact her
  clear her
  rcases hx with rfl | ⟨rfl, rfl, rfl⟩
  · clear ht
    go_enter Tryz.func12, Tryz.ntmps12
    go_wp2_with fail
    refine (C1.out _).mono ?_
    rintro e w1 ⟨rfl, rfl⟩
    go_wp2_with fail
    refine (C2.out _).mono ?_
    rintro e w2 ⟨rfl, hb2⟩
    have h2 := more_end HN.out hb2
    clear hb2
    go_wp2_with fail
    refine (C3.out _).mono ?_
    rintro e w3 ⟨rfl, rfl⟩
    go_wp2_with fail
    refine (C4.out _).mono ?_
    rintro e w4 ⟨rfl, hb4⟩
    have h4 := more_end h2 hb4
    clear hb4
    clear h2
    obtain ⟨hz, hb, ⟨c0, c1, c2, c3, f0, f1, f2, f3⟩⟩ := h4
    have HB := Lib.hid hb
    clear hb
    go_wp2_with fail
    exact bodyPost_ret (v := .tuple #[tkV T0, .int .i64 (a : Int), .int .i64 er]) (by rw [tk0]; simp [results, Tryz.results12, go_sem, c0, c1, c2, c3, hz]) rfl (nx_mk (m := 0) rfl (by omega) rfl (below_set4 HB.out (Nat.le_refl _) _ _ _ _))
  · clear d3 d2 ht
    go_enter Tryz.func12, Tryz.ntmps12
    go_wp2_with fail
    refine (C1.out _).mono ?_
    rintro e w1 ⟨rfl, rfl⟩
    go_wp2_with fail
    refine (C2.out _).mono ?_
    rintro e w2 ⟨rfl, hb2⟩
    have h2 := more_end HN.out hb2
    clear hb2
    go_wp2_with fail
    refine (C3.out _).mono ?_
    rintro e w3 ⟨rfl, rfl⟩
    go_wp2_with fail
    refine (C4.out _).mono ?_
    rintro e w4 ⟨rfl, hb4⟩
    have h4 := more_end h2 hb4
    clear hb4
    clear h2
    obtain ⟨hz, hb, ⟨c0, c1, c2, c3, f0, f1, f2, f3⟩⟩ := h4
    have HB := Lib.hid hb
    clear hb
    go_wp2_with fail
    exact bodyPost_ret (v := .tuple #[tkV T0, .int .i64 (a : Int), .int .i64 er]) (by rw [tk0]; simp [results, Tryz.results12, go_sem, c0, c1, c2, c3, hz]) rfl (nx_mk (m := 0) rfl (by omega) rfl (below_set4 HB.out (Nat.le_refl _) _ _ _ _))
set_option maxHeartbeats 2000000 in
set_option maxRecDepth 100000 in
theorem rpl_ok (s : ByteArray) (a : Nat) (more : Bool) (hs : s.size ≤ 1000) (ha : a < s.size) (h6 : (byts s).getD a 0 ≠ 60) (x : Int) (t : Nat) (hat : a ≤ t) (ht : t ≤ s.size) (hx : x = (t : Int) ∨ (x = -1 ∧ more = false ∧ t = s.size)) (C1 : Hid (FdC s a ⟨#[60]⟩ x)) (u : ByteArray) (m : Int) (b : Bool) (l : List Int) (hu : u = strOfNums l) (C2 : Hid (WrC (s.extract a t) 0)) (C3 : Hid (FdC (s.extract a t) 0 ⟨#[93, 93, 62]⟩ (-1))) (C4 : Hid (DrC (s.extract a t) u m 0)) (C5 : Hid (RbC (s.extract a t) b)) (w : World) : Calls Tryz.prog 12 #[.string s, .int .i64 (a : Int), .bool more] w (NxPost (⟨3, l, false, b⟩, t - a, 0) a w) := by
  have HN := Lib.hid (new_end w)
  have hbb := at_byt s a ha
  have t0 : ((a : Int) == (s.size : Int)) = false := by rw [beq_eq_false_iff_ne]; omega
  have t6 : (((s[a]).toNat : Int) != 60) = true := by rw [hbb, bne_iff_ne]; exact h6
  have e0 : (0 : Int) ≤ (a : Int) := by omega
  have e1 : (a : Int) < (s.size : Int) := by omega
  clear hbb h6
  have d1 : (a : Int) ≤ (t : Int) := by omega
  have d2 : (t : Int) ≤ (s.size : Int) := by omega
  have d3 : ¬ (t : Int) < 0 := by omega
  have HU := Lib.hid hu
  clear hu
  rcases hx with rfl | ⟨rfl, rfl, rfl⟩
  · clear ht
    go_enter Tryz.func12, Tryz.ntmps12
    go_wp2_with fail
    refine (C1.out _).mono ?_
    rintro e w1 ⟨rfl, rfl⟩
    go_wp2_with fail
    refine (C2.out _).mono ?_
    rintro e w2 ⟨rfl, hb2⟩
    have h2 := more_end HN.out hb2
    clear hb2
    go_wp2_with fail
    refine (C3.out _).mono ?_
    rintro e w3 ⟨rfl, rfl⟩
    go_wp2_with fail
    refine (C4.out _).mono ?_
    rintro e w4 ⟨rfl, hb4⟩
    have h4 := more_end h2 hb4
    clear hb4
    clear h2
    go_wp2_with fail
    refine (C5.out _).mono ?_
    rintro e w5 ⟨rfl, rfl⟩
    obtain ⟨hz, hb, ⟨c0, c1, c2, c3, f0, f1, f2, f3⟩⟩ := h4
    have HB := Lib.hid hb
    clear hb
    go_wp2_with fail
    exact bodyPost_ret (v := .tuple #[.agg #[.int .i64 3, .string u, .bool false, .bool b], .int .i64 (t : Int), .int .i64 0]) (by simp [results, Tryz.results12, go_sem, c0, c1, c2, c3, hz]) rfl (nx_mk (y := ⟨3, l, false, b⟩) (k := (t : Int)) rfl (by omega) (by unfold tkV; rw [HU.out]) (below_set4 HB.out (Nat.le_refl _) _ _ _ _))
  · clear d3 d2 ht
    go_enter Tryz.func12, Tryz.ntmps12
    go_wp2_with fail
    refine (C1.out _).mono ?_
    rintro e w1 ⟨rfl, rfl⟩
    go_wp2_with fail
    refine (C2.out _).mono ?_
    rintro e w2 ⟨rfl, hb2⟩
    have h2 := more_end HN.out hb2
    clear hb2
    go_wp2_with fail
    refine (C3.out _).mono ?_
    rintro e w3 ⟨rfl, rfl⟩
    go_wp2_with fail
    refine (C4.out _).mono ?_
    rintro e w4 ⟨rfl, hb4⟩
    have h4 := more_end h2 hb4
    clear hb4
    clear h2
    go_wp2_with fail
    refine (C5.out _).mono ?_
    rintro e w5 ⟨rfl, rfl⟩
    obtain ⟨hz, hb, ⟨c0, c1, c2, c3, f0, f1, f2, f3⟩⟩ := h4
    have HB := Lib.hid hb
    clear hb
    go_wp2_with fail
    exact bodyPost_ret (v := .tuple #[.agg #[.int .i64 3, .string u, .bool false, .bool b], .int .i64 (s.size : Int), .int .i64 0]) (by simp [results, Tryz.results12, go_sem, c0, c1, c2, c3, hz]) rfl (nx_mk (y := ⟨3, l, false, b⟩) (k := (s.size : Int)) rfl (by omega) (by unfold tkV; rw [HU.out]) (below_set4 HB.out (Nat.le_refl _) _ _ _ _))
theorem mid_ext (s : ByteArray) (a t : Nat) : byts (s.extract a t) = ((byts s).drop a).take (t - a) := by rw [byts_extract, List.drop_take]
theorem rplain_tok (s : ByteArray) (a : Nat) (more : Bool) (w : World) (hs : s.size ≤ 1000) (ha : a < s.size) (h6 : (byts s).getD a 0 ≠ 60) : Calls Tryz.prog 12 #[.string s, .int .i64 (a : Int), .bool more] w (NxPost (plainF more ((byts s).drop a)) a w) := by
  have C1 : FdC s a ⟨#[60]⟩ (findI [60] (byts s) a) := fun W => rfind_any s ⟨#[60]⟩ a W (by omega) (by decide) (by omega)
  have key : ∀ (x : Int) (t : Nat), a ≤ t → t ≤ s.size → (x = (t : Int) ∨ (x = -1 ∧ more = false ∧ t = s.size)) → FdC s a ⟨#[60]⟩ x → Calls Tryz.prog 12 #[.string s, .int .i64 (a : Int), .bool more] w (NxPost (charsF ((byts s).drop a) (t - a)) a w) := fun x t hat ht hx C1 => by
    have hsz : (s.extract a t).size ≤ 1000 := by rw [ByteArray.size_extract]; omega
    have hE := mid_ext s a t
    have C2 : WrC (s.extract a t) (wrongF (((byts s).drop a).take (t - a))) := fun W => by
      have := rwrong_any (s.extract a t) W hsz
      rw [hE] at this
      exact this
    have C3 : FdC (s.extract a t) 0 ⟨#[93, 93, 62]⟩ (findI eCdata (((byts s).drop a).take (t - a)) 0) := fun W => by
      have := rfind_any (s.extract a t) ⟨#[93, 93, 62]⟩ 0 W (by omega) (by decide) (Nat.zero_le _)
      rw [hE] at this
      exact this
    have C4 : DrC (s.extract a t) (strOfNums (ansF false (((byts s).drop a).take (t - a))).1) (ansF false (((byts s).drop a).take (t - a))).2.1 (ansF false (((byts s).drop a).take (t - a))).2.2 := fun W => by
      have := dread_any (s.extract a t) false W hsz
      rw [hE] at this
      exact this
    have C5 : RbC (s.extract a t) ((((byts s).drop a).take (t - a)).all blk?) := fun W => by
      have := rblanks_any (s.extract a t) W (by omega)
      rw [hE] at this
      exact this
    unfold charsF
    by_cases h1 : wrongF (((byts s).drop a).take (t - a)) ≠ 0
    · rw [if_pos h1]
      exact rpl_bad s a more hs ha h6 x t hat ht hx (Lib.hid C1) _ h1 (Lib.hid C2) w
    rw [if_neg h1]
    have h1' : wrongF (((byts s).drop a).take (t - a)) = 0 := by simpa using h1
    rw [h1'] at C2
    unfold findI at C3
    rw [List.drop_zero] at C3
    cases h2 : fnd eCdata (((byts s).drop a).take (t - a)) with
    | some n =>
      rw [h2] at C3
      rw [if_pos (show (some n).isSome = true from rfl)]
      exact rpl_mark s a more hs ha h6 x t hat ht hx (Lib.hid C1) _ (by show (0 : Int) ≤ ((0 + n : Nat) : Int); omega) (Lib.hid C2) (Lib.hid C3) w
    | none =>
      rw [h2] at C3
      rw [if_neg (by simp)]
      by_cases h3 : (ansF false (((byts s).drop a).take (t - a))).2.2 ≠ 0
      · rw [if_pos h3]
        exact rpl_ref s a more hs ha h6 x t hat ht hx (Lib.hid C1) _ _ _ h3 (Lib.hid C2) (Lib.hid C3) (Lib.hid C4) w
      · rw [if_neg h3]
        have h3' : (ansF false (((byts s).drop a).take (t - a))).2.2 = 0 := by simpa using h3
        rw [h3'] at C4
        exact rpl_ok s a more hs ha h6 x t hat ht hx (Lib.hid C1) _ _ _ _ rfl (Lib.hid C2) (Lib.hid C3) (Lib.hid C4) (Lib.hid C5) w
  unfold findI at C1
  unfold plainF
  cases hf : fnd [60] ((byts s).drop a) with
  | some n =>
    rw [hf] at C1
    have hb := (fnd_some hf).1
    rw [List.length_drop, byts_len, List.length_singleton] at hb
    have := key ((a + n : Nat) : Int) (a + n) (by omega) (by omega) (.inl rfl) C1
    rw [show a + n - a = n by omega] at this
    exact this
  | none =>
    rw [hf] at C1
    cases more with
    | true => exact rpl_cut s a true hs ha h6 rfl (Lib.hid C1) w
    | false =>
      show Calls _ _ _ _ (NxPost (charsF ((byts s).drop a) ((byts s).drop a).length) a w)
      rw [List.length_drop, byts_len]
      exact key (-1) s.size (by omega) (Nat.le_refl _) (.inr ⟨rfl, rfl, rfl⟩) C1
end Go.Proofs.YtmbghdpoeahnaaaGreatDoor

/- The walk of the document's Next at markup: one of the four kinds with a mark at their end. -/
set_option linter.unusedSimpArgs false
set_option linter.unusedVariables false
namespace Go.Proofs.YtmbghdpoeahnaaaGreatDoor
open Go.RowKit

def begs : Array Value := #[.string ⟨#[60, 33, 91, 67, 68, 65, 84, 65, 91]⟩, .string ⟨#[60, 33, 45, 45]⟩, .string ⟨#[60, 63]⟩, .string ⟨#[60, 47]⟩]
def stps : Array Value := #[.string ⟨#[93, 93, 62]⟩, .string ⟨#[45, 45, 62]⟩, .string ⟨#[63, 62]⟩, .string ⟨#[62]⟩]
def bgK (k : Nat) : ByteArray := match begs[k]? with | some (.string s) => s | _ => ⟨#[]⟩
def stK (k : Nat) : ByteArray := match stps[k]? with | some (.string s) => s | _ => ⟨#[]⟩
theorem bs_at (k : Nat) (hk : k < 4) : begs[k]? = some (.string (bgK k)) ∧ stps[k]? = some (.string (stK k)) ∧ (bgK k).size ≤ 100 ∧ (stK k).size ≤ 100 := by
  rcases (show k = 0 ∨ k = 1 ∨ k = 2 ∨ k = 3 by omega) with rfl | rfl | rfl | rfl
  all_goals exact ⟨rfl, rfl, by decide, by decide⟩
/-- Memory behind the two lists: they, and the result's cells. -/
structure RW (B : Nat) (w wr : World) : Prop where
  end_ : w.heap.size < wr.heap.size ∧ Below w.heap.size w wr ∧ Res4 wr w.heap.size
  beg : ∀ k, k < 4 → wr.cell? ⟨B, k, none⟩ = some (.string (bgK k))
  stp : ∀ k, k < 4 → wr.cell? ⟨B + 1, k, none⟩ = some (.string (stK k))
  lt : B + 1 < wr.heap.size
theorem rw_new (w : World) : RW (w.heap.size + 1) w (((w.alloc (.cells #[.int .i64 0, .string ⟨#[]⟩, .bool false, .bool false] 33)).alloc (.cells begs 9)).alloc (.cells stps 9)) := by
  have h0 := new_end w
  generalize hw0 : w.alloc (.cells #[.int .i64 0, .string ⟨#[]⟩, .bool false, .bool false] 33) = w0 at *
  have s0 : w0.heap.size = w.heap.size + 1 := by rw [← hw0, alloc_size]
  have b1 := (Below.refl w0.heap.size w0).alloc (Nat.le_refl _) (.cells begs 9)
  have s1 : (w0.alloc (.cells begs 9)).heap.size = w.heap.size + 2 := by rw [alloc_size, s0]
  have b2 := (Below.refl (w0.alloc (.cells begs 9)).heap.size (w0.alloc (.cells begs 9))).alloc (Nat.le_refl _) (.cells stps 9)
  refine ⟨more_end (more_end h0 b1) b2, fun k hk => ?_, fun k hk => ?_, ?_⟩
  · have := Blk0 w0 9 begs k
    rw [s0, (bs_at k hk).1] at this
    exact alloc_keep _ this
  · have := Blk0 (w0.alloc (.cells begs 9)) 9 stps k
    rw [s1, (bs_at k hk).2.1] at this
    exact this
  · rw [alloc_size, s1]; omega
theorem RW.keep {B : Nat} {w wr w' : World} (h : RW B w wr) (hb : Below wr.heap.size wr w') : RW B w w' :=
  ⟨more_end h.end_ hb, fun k hk => (hb.cell (p := ⟨B, k, none⟩) (by show B < wr.heap.size; have := h.lt; omega)).trans (h.beg k hk), fun k hk => (hb.cell (p := ⟨B + 1, k, none⟩) h.lt).trans (h.stp k hk), Nat.lt_of_lt_of_le h.lt hb.size⟩
def InC (k : Nat) (t : ByteArray) (a : Nat) (y : Tk × Int) : Prop := ∀ W, Calls Tryz.prog 20 #[.int .i64 (k : Int), .string t, .int .i64 (a : Int)] W (RdrPost y W)
/-- What a kind's token is, once its beginning stands there. -/
inductive RM (s : ByteArray) (a m : Nat) : Tk × Nat × Int → Prop
  | cut (C : Hid (FdC s (a + (bgK m).size) (stK m) (-1))) : RM s a m (T0, 0, 7)
  | bad (t : Nat) (er : Int) (h1 : a + (bgK m).size ≤ t) (h2 : t + (stK m).size ≤ s.size) (he : er ≠ 0) (C : Hid (FdC s (a + (bgK m).size) (stK m) t)) (C2 : Hid (WrC (s.extract a (t + (stK m).size)) er)) : RM s a m (T0, 0, er)
  | err (t : Nat) (y : Tk) (er : Int) (h1 : a + (bgK m).size ≤ t) (h2 : t + (stK m).size ≤ s.size) (he : er ≠ 0) (C : Hid (FdC s (a + (bgK m).size) (stK m) t)) (C2 : Hid (WrC (s.extract a (t + (stK m).size)) 0)) (C3 : Hid (InC m (s.extract (a + (bgK m).size) t) a (y, er))) : RM s a m (T0, 0, er)
  | ok (t : Nat) (y : Tk) (h1 : a + (bgK m).size ≤ t) (h2 : t + (stK m).size ≤ s.size) (C : Hid (FdC s (a + (bgK m).size) (stK m) t)) (C2 : Hid (WrC (s.extract a (t + (stK m).size)) 0)) (C3 : Hid (InC m (s.extract (a + (bgK m).size) t) a (y, 0))) : RM s a m (y, t + (stK m).size - a, 0)
set_option maxHeartbeats 4000000 in
set_option maxRecDepth 100000 in
theorem rmark_hit (s : ByteArray) (a m : Nat) (more : Bool) (x : Tk × Nat × Int) (w : World) (hs : s.size ≤ 1000) (ha : a < s.size) (h6 : (byts s).getD a 0 = 60) (hm : m < 4) (HN : Hid (∀ j, j < m → AtC s a (bgK j) false)) (HM : Hid (AtC s a (bgK m) true)) (hx : RM s a m x) :
    Calls Tryz.prog 12 #[.string s, .int .i64 (a : Int), .bool more] w (NxPost x a w) := by
  have HW := Lib.hid (rw_new w)
  have hbb := at_byt s a ha
  have t0 : ((a : Int) == (s.size : Int)) = false := by rw [beq_eq_false_iff_ne]; omega
  have t6 : (((s[a]).toNat : Int) != 60) = false := by rw [hbb, h6]; rfl
  have e0 : (0 : Int) ≤ (a : Int) := by omega
  have e1 : (a : Int) < (s.size : Int) := by omega
  clear hbb h6
  unfold begs stps at HW
  go_enter Tryz.func12, Tryz.ntmps12
  go_wp2_with fail
  generalize hw2 : World.alloc (World.alloc (World.alloc w _) _) _ = w2 at *
  clear hw2
  go_loop [15] (fun i => ∃ k : Nat, i = .int .i64 k ∧ k ≤ m) (fun i => m - (intOf i).toNat)
  case atStart => exact ⟨0, rfl, Nat.zero_le _⟩
  case round =>
    obtain ⟨k, rfl, hk⟩ := hrel
    have hk4 : k < 4 := by omega
    have d1 : (k : Int) < 4 := by omega
    have d0 : (0 : Int) ≤ (k : Int) := by omega
    have p2 := HW.out.beg k hk4
    have r2 := HW.out.stp k hk4
    by_cases hlt : k < m
    · have C := Lib.hid (HN.out k hlt)
      clear hx HN HM
      generalize bgK k = bg at *
      go_wp2_with fail
      refine (C.out _).mono ?_
      rintro e wf ⟨rfl, rfl⟩
      go_wp2_with fail
      go_round
      case rel => exact ⟨k + 1, by go_num, by omega⟩
      case measure => simp only [intOf]; omega
    · obtain rfl : m = k := by omega
      obtain ⟨_, _, hz1, hz2⟩ := bs_at m hk4
      have q1 : IntKind.i64.wrap ((a : Int) + ((bgK m).size : Int)) = ((a + (bgK m).size : Nat) : Int) := by rw [IntWalk.i64_in _ (by omega)]; omega
      clear hlt HN hm hk
      cases hx with
      | cut C =>
        generalize bgK m = bg at *
        generalize stK m = st at *
        generalize hfr : a + bg.size = fr at *
        go_wp2_with fail
        refine (HM.out _).mono ?_
        rintro e wg ⟨rfl, rfl⟩
        go_wp2_with fail
        refine (C.out _).mono ?_
        rintro e wf ⟨rfl, rfl⟩
        obtain ⟨hz, hb, ⟨c0, c1, c2, c3, f0, f1, f2, f3⟩⟩ := HW.out.end_
        have HB := Lib.hid hb
        clear hb
        go_wp2_with fail
        exact bodyPost_ret (v := .tuple #[tkV T0, .int .i64 (a : Int), .int .i64 7]) (by rw [tk0]; simp [results, Tryz.results12, go_sem, c0, c1, c2, c3, hz]) rfl (nx_mk (m := 0) rfl (by omega) rfl (below_set4 HB.out (Nat.le_refl _) _ _ _ _))
      | bad t er h1 h2 he C C2 =>
        have t1 : (er != 0) = true := by rw [bne_iff_ne]; exact he
        have q2 : IntKind.i64.wrap ((t : Int) + ((stK m).size : Int)) = ((t + (stK m).size : Nat) : Int) := by rw [IntWalk.i64_in _ (by omega)]; omega
        have g1 : ¬ (t : Int) < 0 := by omega
        have g2 : (a : Int) ≤ ((t + (stK m).size : Nat) : Int) := by omega
        have g3 : ((t + (stK m).size : Nat) : Int) ≤ (s.size : Int) := by omega
        clear he
        generalize bgK m = bg at *
        generalize stK m = st at *
        generalize hfr : a + bg.size = fr at *
        generalize hto : t + st.size = n at *
        go_wp2_with fail
        refine (HM.out _).mono ?_
        rintro e wg ⟨rfl, rfl⟩
        go_wp2_with fail
        refine (C.out _).mono ?_
        rintro e wf ⟨rfl, rfl⟩
        go_wp2_with fail
        refine (C2.out _).mono ?_
        rintro e w4 ⟨rfl, hb4⟩
        have h4 := more_end HW.out.end_ hb4
        clear hb4
        go_wp2_with fail
        refine (C2.out _).mono ?_
        rintro e w5 ⟨rfl, hb5⟩
        have h5 := more_end h4 hb5
        clear hb5 h4
        obtain ⟨hz, hb, ⟨c0, c1, c2, c3, f0, f1, f2, f3⟩⟩ := h5
        have HB := Lib.hid hb
        clear hb
        go_wp2_with fail
        exact bodyPost_ret (v := .tuple #[tkV T0, .int .i64 (a : Int), .int .i64 er]) (by rw [tk0]; simp [results, Tryz.results12, go_sem, c0, c1, c2, c3, hz]) rfl (nx_mk (m := 0) rfl (by omega) rfl (below_set4 HB.out (Nat.le_refl _) _ _ _ _))
      | err t y er h1 h2 he C C2 C3 =>
        have t1 : (er != 0) = true := by rw [bne_iff_ne]; exact he
        have q2 : IntKind.i64.wrap ((t : Int) + ((stK m).size : Int)) = ((t + (stK m).size : Nat) : Int) := by rw [IntWalk.i64_in _ (by omega)]; omega
        have g1 : ¬ (t : Int) < 0 := by omega
        have g2 : (a : Int) ≤ ((t + (stK m).size : Nat) : Int) := by omega
        have g3 : ((t + (stK m).size : Nat) : Int) ≤ (s.size : Int) := by omega
        have g4 : ((a + (bgK m).size : Nat) : Int) ≤ (t : Int) := by omega
        have g5 : (t : Int) ≤ (s.size : Int) := by omega
        have g6 : (0 : Int) ≤ ((a + (bgK m).size : Nat) : Int) := by omega
        clear he
        generalize bgK m = bg at *
        generalize stK m = st at *
        generalize hfr : a + bg.size = fr at *
        generalize hto : t + st.size = n at *
        go_wp2_with fail
        refine (HM.out _).mono ?_
        rintro e wg ⟨rfl, rfl⟩
        go_wp2_with fail
        refine (C.out _).mono ?_
        rintro e wf ⟨rfl, rfl⟩
        go_wp2_with fail
        refine (C2.out _).mono ?_
        rintro e w4 ⟨rfl, hb4⟩
        have h4 := more_end HW.out.end_ hb4
        clear hb4
        go_wp2_with fail
        refine (C3.out _).mono ?_
        rintro e w5 ⟨rfl, hb5⟩
        have h5 := more_end h4 hb5
        clear hb5 h4
        obtain ⟨kd, tx, em, bk⟩ := y
        unfold tkV
        dsimp only
        generalize strOfNums tx = str
        have hA := (Below.refl w5.heap.size w5).alloc (Nat.le_refl _) (.cells #[.int .i64 kd, .string str, .bool em, .bool bk] 33)
        have h6 := more_end h5 hA
        clear hA h5
        obtain ⟨hz, hb, ⟨c0, c1, c2, c3, f0, f1, f2, f3⟩⟩ := h6
        have HB := Lib.hid hb
        clear hb
        go_wp2_with fail
        exact bodyPost_ret (v := .tuple #[tkV T0, .int .i64 (a : Int), .int .i64 er]) (by rw [tk0]; simp [results, Tryz.results12, go_sem, c0, c1, c2, c3, hz]) rfl (nx_mk (m := 0) rfl (by omega) rfl (below_set4 HB.out (Nat.le_refl _) _ _ _ _))
      | ok t y h1 h2 C C2 C3 =>
        have q2 : IntKind.i64.wrap ((t : Int) + ((stK m).size : Int)) = ((t + (stK m).size : Nat) : Int) := by rw [IntWalk.i64_in _ (by omega)]; omega
        have g1 : ¬ (t : Int) < 0 := by omega
        have g2 : (a : Int) ≤ ((t + (stK m).size : Nat) : Int) := by omega
        have g3 : ((t + (stK m).size : Nat) : Int) ≤ (s.size : Int) := by omega
        have g4 : ((a + (bgK m).size : Nat) : Int) ≤ (t : Int) := by omega
        have g5 : (t : Int) ≤ (s.size : Int) := by omega
        have g6 : (0 : Int) ≤ ((a + (bgK m).size : Nat) : Int) := by omega
        have HNN := Lib.hid h1
        have HN2 := Lib.hid h2
        generalize bgK m = bg at *
        generalize stK m = st at *
        generalize hfr : a + bg.size = fr at *
        generalize hto : t + st.size = n at *
        go_wp2_with fail
        refine (HM.out _).mono ?_
        rintro e wg ⟨rfl, rfl⟩
        go_wp2_with fail
        refine (C.out _).mono ?_
        rintro e wf ⟨rfl, rfl⟩
        go_wp2_with fail
        refine (C2.out _).mono ?_
        rintro e w4 ⟨rfl, hb4⟩
        have h4 := more_end HW.out.end_ hb4
        clear hb4
        go_wp2_with fail
        refine (C3.out _).mono ?_
        rintro e w5 ⟨rfl, hb5⟩
        have h5 := more_end h4 hb5
        clear hb5 h4
        obtain ⟨kd, tx, em, bk⟩ := y
        unfold tkV
        dsimp only
        generalize hst : strOfNums tx = str
        have HS := Lib.hid hst
        clear hst
        have hA := (Below.refl w5.heap.size w5).alloc (Nat.le_refl _) (.cells #[.int .i64 kd, .string str, .bool em, .bool bk] 33)
        have h6 := more_end h5 hA
        clear hA h5
        obtain ⟨hz, hb, ⟨c0, c1, c2, c3, f0, f1, f2, f3⟩⟩ := h6
        have HB := Lib.hid hb
        clear hb
        go_wp2_with fail
        exact bodyPost_ret (v := .tuple #[.agg #[.int .i64 kd, .string str, .bool em, .bool bk], .int .i64 (n : Int), .int .i64 0]) (by simp [results, Tryz.results12, go_sem, c0, c1, c2, c3, hz]) rfl (nx_mk (y := ⟨kd, tx, em, bk⟩) (k := (n : Int)) rfl (by omega) (by rw [← HS.out]; rfl) (below_set4 HB.out (Nat.le_refl _) _ _ _ _))
end Go.Proofs.YtmbghdpoeahnaaaGreatDoor
