/-
  Merged by program out of the texts Front, Front2 of one seat.
-/
import Derived.Test.YtmbghdpoeahnaaaGreatDoorG28

/- The walks of scan.plain, scan.front, scan.next, Next and More. -/
set_option linter.unusedSimpArgs false
set_option linter.unusedVariables false
namespace Go.Proofs.YtmbghdpoeahnaaaGreatDoor
open Go.RowKit

theorem more_end {w w2 w3 : World} (h : w.heap.size < w2.heap.size ∧ Below w.heap.size w w2 ∧ Res4 w2 w.heap.size) (hb3 : Below w2.heap.size w2 w3) : w.heap.size < w3.heap.size ∧ Below w.heap.size w w3 ∧ Res4 w3 w.heap.size :=
  ⟨Nat.lt_of_lt_of_le h.1 hb3.size, h.2.1.trans (hb3.mono h.2.1.size), h.2.2.keep hb3 h.1⟩
theorem new_end (w : World) : w.heap.size < (w.alloc (.cells #[.int .i64 0, .string ⟨#[]⟩, .bool false, .bool false] 33)).heap.size ∧ Below w.heap.size w (w.alloc (.cells #[.int .i64 0, .string ⟨#[]⟩, .bool false, .bool false] 33)) ∧ Res4 (w.alloc (.cells #[.int .i64 0, .string ⟨#[]⟩, .bool false, .bool false] 33)) w.heap.size :=
  ⟨by rw [alloc_size]; omega, (Below.refl _ w).alloc (Nat.le_refl _) _, res_new w⟩
def IxC (s : ByteArray) (x : Int) : Prop := ∀ W, Gl W → Calls Tryz.prog 49 #[.string s, .string ⟨#[60]⟩] W fun e w' => e = .returned (.int .i64 x) ∧ W = w'
def CoC (s : ByteArray) (b : Bool) : Prop := ∀ W, Gl W → Calls Tryz.prog 51 #[.string s, .string ⟨#[93, 93, 62]⟩] W fun e w' => e = .returned (.bool b) ∧ W = w'
def TxC (s t : ByteArray) (m er : Int) : Prop := ∀ W, Gl W → Calls Tryz.prog 52 #[.string s] W fun e w' => e = .returned (.tuple #[.string t, .int .i64 m, .int .i64 er]) ∧ Below W.heap.size W w'
set_option maxHeartbeats 2000000 in
set_option maxRecDepth 100000 in
theorem pl_cut (s : ByteArray) (more : Bool) (C1 : Hid (IxC s (-1))) (hm : more = true) (w : World) (hG : Gl w) : Calls Tryz.prog 36 #[.string s, .bool more] w (TokPost (T0, 0, 7) w) := by
  subst hm
  have HN := Lib.hid (new_end w)
  have HG := Lib.hid (hG.after HN.out.2.1)
  clear hG
  go_enter Tryz.func36, Tryz.ntmps36
  go_wp2_with fail
  refine (C1.out _ HG.out).mono ?_
  rintro e w1 ⟨rfl, rfl⟩
  obtain ⟨hz, hb, ⟨c0, c1, c2, c3, f0, f1, f2, f3⟩⟩ := HN.out
  have HB := Lib.hid hb
  clear hb
  go_wp2_with fail
  exact bodyPost_ret (v := .tuple #[tkV T0, .int .i64 0, .int .i64 7]) (by rw [tk0]; simp [results, Tryz.results36, go_sem, c0, c1, c2, c3, hz]) rfl ⟨T0, 0, rfl, fun _ => ⟨rfl, rfl⟩, HB.out⟩
set_option maxHeartbeats 2000000 in
set_option maxRecDepth 100000 in
theorem pl_bad (s : ByteArray) (more : Bool) (x : Int) (n : Nat) (hs : s.size ≤ 1000) (hn : n ≤ s.size) (hx : x = (n : Int) ∨ (x = -1 ∧ more = false ∧ n = s.size)) (C1 : Hid (IxC s x)) (er : Int) (her : er ≠ 0) (C2 : Hid (SoC (s.extract 0 n) er)) (w : World) (hG : Gl w) : Calls Tryz.prog 36 #[.string s, .bool more] w (TokPost (T0, 0, er) w) := by
  have HN := Lib.hid (new_end w)
  have HG := Lib.hid (hG.after HN.out.2.1)
  clear hG
  have d1 : (0 : Int) ≤ (n : Int) := by omega
  have d2 : (n : Int) ≤ (s.size : Int) := by omega
  have d3 : ¬ (n : Int) < 0 := by omega
  have t1 : (er != 0) = true := by rw [bne_iff_ne]; exact her
  clear her
  rcases hx with rfl | ⟨rfl, rfl, rfl⟩
  · clear hn
    go_enter Tryz.func36, Tryz.ntmps36
    go_wp2_with fail
    refine (C1.out _ HG.out).mono ?_
    rintro e w1 ⟨rfl, rfl⟩
    go_wp2_with fail
    refine (C2.out _).mono ?_
    rintro e w2 ⟨rfl, hb2⟩
    have h2 := more_end HN.out hb2
    have HG2 := Lib.hid (HG.out.after hb2)
    clear hb2
    obtain ⟨hz, hb, ⟨c0, c1, c2, c3, f0, f1, f2, f3⟩⟩ := h2
    have HB := Lib.hid hb
    clear hb
    go_wp2_with fail
    exact bodyPost_ret (v := .tuple #[tkV T0, .int .i64 0, .int .i64 er]) (by rw [tk0]; simp [results, Tryz.results36, go_sem, c0, c1, c2, c3, hz]) rfl ⟨T0, 0, rfl, fun _ => ⟨rfl, rfl⟩, below_set4 HB.out (Nat.le_refl _) _ _ _ _⟩
  · rw [Nz.ext_all s s.size (Nat.le_refl _)] at C2
    clear d3 d2 hn
    go_enter Tryz.func36, Tryz.ntmps36
    go_wp2_with fail
    refine (C1.out _ HG.out).mono ?_
    rintro e w1 ⟨rfl, rfl⟩
    go_wp2_with fail
    refine (C2.out _).mono ?_
    rintro e w2 ⟨rfl, hb2⟩
    have h2 := more_end HN.out hb2
    have HG2 := Lib.hid (HG.out.after hb2)
    clear hb2
    obtain ⟨hz, hb, ⟨c0, c1, c2, c3, f0, f1, f2, f3⟩⟩ := h2
    have HB := Lib.hid hb
    clear hb
    go_wp2_with fail
    exact bodyPost_ret (v := .tuple #[tkV T0, .int .i64 0, .int .i64 er]) (by rw [tk0]; simp [results, Tryz.results36, go_sem, c0, c1, c2, c3, hz]) rfl ⟨T0, 0, rfl, fun _ => ⟨rfl, rfl⟩, below_set4 HB.out (Nat.le_refl _) _ _ _ _⟩
set_option maxHeartbeats 2000000 in
set_option maxRecDepth 100000 in
theorem pl_mark (s : ByteArray) (more : Bool) (x : Int) (n : Nat) (hs : s.size ≤ 1000) (hn : n ≤ s.size) (hx : x = (n : Int) ∨ (x = -1 ∧ more = false ∧ n = s.size)) (C1 : Hid (IxC s x)) (C2 : Hid (SoC (s.extract 0 n) 0)) (C3 : Hid (CoC (s.extract 0 n) true)) (w : World) (hG : Gl w) : Calls Tryz.prog 36 #[.string s, .bool more] w (TokPost (T0, 0, 6) w) := by
  have HN := Lib.hid (new_end w)
  have HG := Lib.hid (hG.after HN.out.2.1)
  clear hG
  have d1 : (0 : Int) ≤ (n : Int) := by omega
  have d2 : (n : Int) ≤ (s.size : Int) := by omega
  have d3 : ¬ (n : Int) < 0 := by omega
  rcases hx with rfl | ⟨rfl, rfl, rfl⟩
  · clear hn
    go_enter Tryz.func36, Tryz.ntmps36
    go_wp2_with fail
    refine (C1.out _ HG.out).mono ?_
    rintro e w1 ⟨rfl, rfl⟩
    go_wp2_with fail
    refine (C2.out _).mono ?_
    rintro e w2 ⟨rfl, hb2⟩
    have h2 := more_end HN.out hb2
    have HG2 := Lib.hid (HG.out.after hb2)
    clear hb2
    go_wp2_with fail
    refine (C3.out _ HG2.out).mono ?_
    rintro e w3 ⟨rfl, rfl⟩
    obtain ⟨hz, hb, ⟨c0, c1, c2, c3, f0, f1, f2, f3⟩⟩ := h2
    have HB := Lib.hid hb
    clear hb
    go_wp2_with fail
    exact bodyPost_ret (v := .tuple #[tkV T0, .int .i64 0, .int .i64 6]) (by rw [tk0]; simp [results, Tryz.results36, go_sem, c0, c1, c2, c3, hz]) rfl ⟨T0, 0, rfl, fun _ => ⟨rfl, rfl⟩, below_set4 HB.out (Nat.le_refl _) _ _ _ _⟩
  · rw [Nz.ext_all s s.size (Nat.le_refl _)] at C2 C3
    clear d3 d2 hn
    go_enter Tryz.func36, Tryz.ntmps36
    go_wp2_with fail
    refine (C1.out _ HG.out).mono ?_
    rintro e w1 ⟨rfl, rfl⟩
    go_wp2_with fail
    refine (C2.out _).mono ?_
    rintro e w2 ⟨rfl, hb2⟩
    have h2 := more_end HN.out hb2
    have HG2 := Lib.hid (HG.out.after hb2)
    clear hb2
    go_wp2_with fail
    refine (C3.out _ HG2.out).mono ?_
    rintro e w3 ⟨rfl, rfl⟩
    obtain ⟨hz, hb, ⟨c0, c1, c2, c3, f0, f1, f2, f3⟩⟩ := h2
    have HB := Lib.hid hb
    clear hb
    go_wp2_with fail
    exact bodyPost_ret (v := .tuple #[tkV T0, .int .i64 0, .int .i64 6]) (by rw [tk0]; simp [results, Tryz.results36, go_sem, c0, c1, c2, c3, hz]) rfl ⟨T0, 0, rfl, fun _ => ⟨rfl, rfl⟩, below_set4 HB.out (Nat.le_refl _) _ _ _ _⟩
set_option maxHeartbeats 2000000 in
set_option maxRecDepth 100000 in
theorem pl_ref (s : ByteArray) (more : Bool) (x : Int) (n : Nat) (hs : s.size ≤ 1000) (hn : n ≤ s.size) (hx : x = (n : Int) ∨ (x = -1 ∧ more = false ∧ n = s.size)) (C1 : Hid (IxC s x)) (t : ByteArray) (m er : Int) (her : er ≠ 0) (C2 : Hid (SoC (s.extract 0 n) 0)) (C3 : Hid (CoC (s.extract 0 n) false)) (C4 : Hid (TxC (s.extract 0 n) t m er)) (w : World) (hG : Gl w) : Calls Tryz.prog 36 #[.string s, .bool more] w (TokPost (T0, 0, er) w) := by
  have HN := Lib.hid (new_end w)
  have HG := Lib.hid (hG.after HN.out.2.1)
  clear hG
  have d1 : (0 : Int) ≤ (n : Int) := by omega
  have d2 : (n : Int) ≤ (s.size : Int) := by omega
  have d3 : ¬ (n : Int) < 0 := by omega
  have t1 : (er != 0) = true := by rw [bne_iff_ne]; exact her
  clear her
  rcases hx with rfl | ⟨rfl, rfl, rfl⟩
  · clear hn
    go_enter Tryz.func36, Tryz.ntmps36
    go_wp2_with fail
    refine (C1.out _ HG.out).mono ?_
    rintro e w1 ⟨rfl, rfl⟩
    go_wp2_with fail
    refine (C2.out _).mono ?_
    rintro e w2 ⟨rfl, hb2⟩
    have h2 := more_end HN.out hb2
    have HG2 := Lib.hid (HG.out.after hb2)
    clear hb2
    go_wp2_with fail
    refine (C3.out _ HG2.out).mono ?_
    rintro e w3 ⟨rfl, rfl⟩
    go_wp2_with fail
    refine (C4.out _ HG2.out).mono ?_
    rintro e w4 ⟨rfl, hb4⟩
    have h4 := more_end h2 hb4
    clear hb4 h2 HG2
    obtain ⟨hz, hb, ⟨c0, c1, c2, c3, f0, f1, f2, f3⟩⟩ := h4
    have HB := Lib.hid hb
    clear hb
    go_wp2_with fail
    exact bodyPost_ret (v := .tuple #[tkV T0, .int .i64 0, .int .i64 er]) (by rw [tk0]; simp [results, Tryz.results36, go_sem, c0, c1, c2, c3, hz]) rfl ⟨T0, 0, rfl, fun _ => ⟨rfl, rfl⟩, below_set4 HB.out (Nat.le_refl _) _ _ _ _⟩
  · rw [Nz.ext_all s s.size (Nat.le_refl _)] at C2 C3 C4
    clear d3 d2 hn
    go_enter Tryz.func36, Tryz.ntmps36
    go_wp2_with fail
    refine (C1.out _ HG.out).mono ?_
    rintro e w1 ⟨rfl, rfl⟩
    go_wp2_with fail
    refine (C2.out _).mono ?_
    rintro e w2 ⟨rfl, hb2⟩
    have h2 := more_end HN.out hb2
    have HG2 := Lib.hid (HG.out.after hb2)
    clear hb2
    go_wp2_with fail
    refine (C3.out _ HG2.out).mono ?_
    rintro e w3 ⟨rfl, rfl⟩
    go_wp2_with fail
    refine (C4.out _ HG2.out).mono ?_
    rintro e w4 ⟨rfl, hb4⟩
    have h4 := more_end h2 hb4
    clear hb4 h2 HG2
    obtain ⟨hz, hb, ⟨c0, c1, c2, c3, f0, f1, f2, f3⟩⟩ := h4
    have HB := Lib.hid hb
    clear hb
    go_wp2_with fail
    exact bodyPost_ret (v := .tuple #[tkV T0, .int .i64 0, .int .i64 er]) (by rw [tk0]; simp [results, Tryz.results36, go_sem, c0, c1, c2, c3, hz]) rfl ⟨T0, 0, rfl, fun _ => ⟨rfl, rfl⟩, below_set4 HB.out (Nat.le_refl _) _ _ _ _⟩
set_option maxHeartbeats 2000000 in
set_option maxRecDepth 100000 in
theorem pl_ok (s : ByteArray) (more : Bool) (x : Int) (n : Nat) (hs : s.size ≤ 1000) (hn : n ≤ s.size) (hx : x = (n : Int) ∨ (x = -1 ∧ more = false ∧ n = s.size)) (C1 : Hid (IxC s x)) (t : ByteArray) (m : Int) (b : Bool) (l : List Int) (ht : t = strOfNums l) (C2 : Hid (SoC (s.extract 0 n) 0)) (C3 : Hid (CoC (s.extract 0 n) false)) (C4 : Hid (TxC (s.extract 0 n) t m 0)) (C5 : Hid (AllC (s.extract 0 n) b)) (w : World) (hG : Gl w) : Calls Tryz.prog 36 #[.string s, .bool more] w (TokPost (⟨3, l, false, b⟩, n, 0) w) := by
  have HN := Lib.hid (new_end w)
  have HG := Lib.hid (hG.after HN.out.2.1)
  clear hG
  have d1 : (0 : Int) ≤ (n : Int) := by omega
  have d2 : (n : Int) ≤ (s.size : Int) := by omega
  have d3 : ¬ (n : Int) < 0 := by omega
  have HT := Lib.hid ht
  clear ht
  rcases hx with rfl | ⟨rfl, rfl, rfl⟩
  · clear hn
    go_enter Tryz.func36, Tryz.ntmps36
    go_wp2_with fail
    refine (C1.out _ HG.out).mono ?_
    rintro e w1 ⟨rfl, rfl⟩
    go_wp2_with fail
    refine (C2.out _).mono ?_
    rintro e w2 ⟨rfl, hb2⟩
    have h2 := more_end HN.out hb2
    have HG2 := Lib.hid (HG.out.after hb2)
    clear hb2
    go_wp2_with fail
    refine (C3.out _ HG2.out).mono ?_
    rintro e w3 ⟨rfl, rfl⟩
    go_wp2_with fail
    refine (C4.out _ HG2.out).mono ?_
    rintro e w4 ⟨rfl, hb4⟩
    have h4 := more_end h2 hb4
    clear hb4 h2 HG2
    go_wp2_with fail
    refine (C5.out _).mono ?_
    rintro e w5 ⟨rfl, hb5⟩
    have h5 := more_end h4 hb5
    clear hb5 h4
    obtain ⟨hz, hb, ⟨c0, c1, c2, c3, f0, f1, f2, f3⟩⟩ := h5
    have HB := Lib.hid hb
    clear hb
    go_wp2_with fail
    exact bodyPost_ret (v := .tuple #[.agg #[.int .i64 3, .string t, .bool false, .bool b], .int .i64 (n : Int), .int .i64 0]) (by simp [results, Tryz.results36, go_sem, c0, c1, c2, c3, hz]) rfl ⟨⟨3, l, false, b⟩, (n : Int), by unfold tkV; rw [HT.out], fun _ => ⟨rfl, rfl⟩, below_set4 HB.out (Nat.le_refl _) _ _ _ _⟩
  · rw [Nz.ext_all s s.size (Nat.le_refl _)] at C2 C3 C4 C5
    clear d3 d2 hn
    go_enter Tryz.func36, Tryz.ntmps36
    go_wp2_with fail
    refine (C1.out _ HG.out).mono ?_
    rintro e w1 ⟨rfl, rfl⟩
    go_wp2_with fail
    refine (C2.out _).mono ?_
    rintro e w2 ⟨rfl, hb2⟩
    have h2 := more_end HN.out hb2
    have HG2 := Lib.hid (HG.out.after hb2)
    clear hb2
    go_wp2_with fail
    refine (C3.out _ HG2.out).mono ?_
    rintro e w3 ⟨rfl, rfl⟩
    go_wp2_with fail
    refine (C4.out _ HG2.out).mono ?_
    rintro e w4 ⟨rfl, hb4⟩
    have h4 := more_end h2 hb4
    clear hb4 h2 HG2
    go_wp2_with fail
    refine (C5.out _).mono ?_
    rintro e w5 ⟨rfl, hb5⟩
    have h5 := more_end h4 hb5
    clear hb5 h4
    obtain ⟨hz, hb, ⟨c0, c1, c2, c3, f0, f1, f2, f3⟩⟩ := h5
    have HB := Lib.hid hb
    clear hb
    go_wp2_with fail
    exact bodyPost_ret (v := .tuple #[.agg #[.int .i64 3, .string t, .bool false, .bool b], .int .i64 (s.size : Int), .int .i64 0]) (by simp [results, Tryz.results36, go_sem, c0, c1, c2, c3, hz]) rfl ⟨⟨3, l, false, b⟩, (s.size : Int), by unfold tkV; rw [HT.out], fun _ => ⟨rfl, rfl⟩, below_set4 HB.out (Nat.le_refl _) _ _ _ _⟩
theorem plain_tok (s : ByteArray) (more : Bool) (w : World) (hG : Gl w) (hs : s.size ≤ 1000) : Calls Tryz.prog 36 #[.string s, .bool more] w (TokPost (plainF more (byts s)) w) := by
  have C1 : IxC s (fndI [60] (byts s)) := fun W hW => index_any s ⟨#[60]⟩ W (by omega) hW
  have key : ∀ (x : Int) (n : Nat), n ≤ s.size → (x = (n : Int) ∨ (x = -1 ∧ more = false ∧ n = s.size)) → IxC s x → Calls Tryz.prog 36 #[.string s, .bool more] w (TokPost (charsF (byts s) n) w) := fun x n hn hx C1 => by
    have hsz : (s.extract 0 n).size ≤ 1000 := by rw [ByteArray.size_extract]; omega
    have C2 := soc_any s n hs
    have C3 : CoC (s.extract 0 n) (fnd eCdata ((byts s).take n)).isSome := fun W hW => cont_any (s.extract 0 n) ⟨#[93, 93, 62]⟩ W (by omega) hW _ (by rw [ext_take]; rfl)
    have C4 : TxC (s.extract 0 n) (strOfNums (ansF false ((byts s).take n)).1) (ansF false ((byts s).take n)).2.1 (ansF false ((byts s).take n)).2.2 := fun W hW => by
      have := text_any (s.extract 0 n) W (by omega) hW.vars
      rw [ext_take] at this
      exact this
    have C5 : AllC (s.extract 0 n) (((byts s).take n).all blk?) := by
      have := allc_any (s.extract 0 n)
      rw [ext_take] at this
      exact this
    unfold charsF
    by_cases h1 : wrongF ((byts s).take n) ≠ 0
    · rw [if_pos h1]
      exact pl_bad s more x n hs hn hx (Lib.hid C1) _ h1 (Lib.hid C2) w hG
    rw [if_neg h1]
    have h1' : wrongF ((byts s).take n) = 0 := by simpa using h1
    rw [h1'] at C2
    cases h2 : (fnd eCdata ((byts s).take n)).isSome with
    | true =>
      rw [h2] at C3
      rw [if_pos rfl]
      exact pl_mark s more x n hs hn hx (Lib.hid C1) (Lib.hid C2) (Lib.hid C3) w hG
    | false =>
      rw [h2] at C3
      rw [if_neg (by simp)]
      by_cases h3 : (ansF false ((byts s).take n)).2.2 ≠ 0
      · rw [if_pos h3]
        exact pl_ref s more x n hs hn hx (Lib.hid C1) _ _ _ h3 (Lib.hid C2) (Lib.hid C3) (Lib.hid C4) w hG
      · rw [if_neg h3]
        have h3' : (ansF false ((byts s).take n)).2.2 = 0 := by simpa using h3
        rw [h3'] at C4
        exact pl_ok s more x n hs hn hx (Lib.hid C1) _ _ _ _ rfl (Lib.hid C2) (Lib.hid C3) (Lib.hid C4) (Lib.hid C5) w hG
  unfold plainF
  cases hf : fnd [60] (byts s) with
  | some n =>
    rw [fndI_some hf] at C1
    have hb := (fnd_some hf).1
    rw [byts_len, List.length_singleton] at hb
    exact key n n (by omega) (.inl rfl) C1
  | none =>
    rw [fndI_none hf] at C1
    cases more with
    | true => exact pl_cut s true (Lib.hid C1) rfl w hG
    | false =>
      show Calls _ _ _ _ (TokPost (charsF (byts s) (byts s).length) w)
      rw [byts_len]
      exact key (-1) s.size (Nat.le_refl _) (.inr ⟨rfl, rfl, rfl⟩) C1
end Go.Proofs.YtmbghdpoeahnaaaGreatDoor

/- The walks of scan.front, scan.next, Next and More. -/
set_option linter.unusedSimpArgs false
set_option linter.unusedVariables false
namespace Go.Proofs.YtmbghdpoeahnaaaGreatDoor
open Go.RowKit

set_option maxHeartbeats 1000000 in
set_option maxRecDepth 100000 in
theorem front_nil_more (s : ByteArray) (at_ : Int) (w : World) (he : s.toList.isEmpty = true) : Calls Tryz.prog 21 #[.string s, .int .i64 at_, .bool true] w (TokPost (T0, 0, 7) w) := by
  have HN := Lib.hid (new_end w)
  go_enter Tryz.func21, Tryz.ntmps21
  go_wp2_with fail
  exact bodyPost_ret (v := .tuple #[tkV T0, .int .i64 0, .int .i64 7]) (by rw [tk0]; simp [results, Tryz.results21, go_sem]) rfl ⟨T0, 0, rfl, fun _ => ⟨rfl, rfl⟩, HN.out.2.1⟩
set_option maxHeartbeats 1000000 in
set_option maxRecDepth 100000 in
theorem front_nil_last (s : ByteArray) (at_ : Int) (w : World) (he : s.toList.isEmpty = true) : Calls Tryz.prog 21 #[.string s, .int .i64 at_, .bool false] w (TokPost (⟨6, [], false, false⟩, 0, 0) w) := by
  go_enter Tryz.func21, Tryz.ntmps21
  go_wp2_with fail
  exact bodyPost_ret (v := .tuple #[tkV ⟨6, [], false, false⟩, .int .i64 0, .int .i64 0]) (by unfold tkV; rw [str_none]; simp [results, Tryz.results21, go_sem]) rfl ⟨⟨6, [], false, false⟩, 0, rfl, fun _ => ⟨rfl, rfl⟩, (Below.refl _ w).alloc (Nat.le_refl _) _⟩
def ToC (f : Nat) (args : Array Value) (x : Tk × Nat × Int) : Prop := ∀ W, Gl W → Calls Tryz.prog f args W (TokPost x W)
set_option maxHeartbeats 1000000 in
set_option maxRecDepth 100000 in
theorem front_mark (s : ByteArray) (at_ : Int) (more : Bool) (x : Tk × Nat × Int) (w : World) (hG : Gl w) (he : s.toList.isEmpty = false) (h1 : 0 < s.size) (h0 : (((s[0]).toNat : Int) == 60) = true) (C : Hid (ToC 35 #[.string s, .int .i64 at_] x)) :
    Calls Tryz.prog 21 #[.string s, .int .i64 at_, .bool more] w (TokPost x w) := by
  have HN := Lib.hid (new_end w)
  have HG := Lib.hid (hG.after HN.out.2.1)
  clear hG
  go_enter Tryz.func21, Tryz.ntmps21
  go_wp2_with fail
  refine (C.out _ HG.out).mono ?_
  rintro e w3 ⟨⟨kd, tx, em, bk⟩, n, rfl, hx, hb3⟩
  have HX := Lib.hid hx
  obtain ⟨hz, hb, ⟨c0, c1, c2, c3, f0, f1, f2, f3⟩⟩ := more_end HN.out hb3
  have HB := Lib.hid hb
  clear hb3 hb hx
  unfold tkV
  dsimp only
  generalize hst : strOfNums tx = str
  have HS := Lib.hid hst
  clear hst
  go_wp2_with fail
  exact bodyPost_ret (v := .tuple #[.agg #[.int .i64 kd, .string str, .bool em, .bool bk], .int .i64 n, .int .i64 x.2.2]) (by simp [results, Tryz.results21, go_sem, c0, c1, c2, c3, hz]) rfl ⟨⟨kd, tx, em, bk⟩, n, by rw [← HS.out]; rfl, HX.out, below_set4 HB.out (Nat.le_refl _) _ _ _ _⟩
set_option maxHeartbeats 1000000 in
set_option maxRecDepth 100000 in
theorem front_plain (s : ByteArray) (at_ : Int) (more : Bool) (x : Tk × Nat × Int) (w : World) (hG : Gl w) (he : s.toList.isEmpty = false) (h1 : 0 < s.size) (h0 : (((s[0]).toNat : Int) == 60) = false) (C : Hid (ToC 36 #[.string s, .bool more] x)) :
    Calls Tryz.prog 21 #[.string s, .int .i64 at_, .bool more] w (TokPost x w) := by
  have HN := Lib.hid (new_end w)
  have HG := Lib.hid (hG.after HN.out.2.1)
  clear hG
  go_enter Tryz.func21, Tryz.ntmps21
  go_wp2_with fail
  refine (C.out _ HG.out).mono ?_
  rintro e w3 ⟨⟨kd, tx, em, bk⟩, n, rfl, hx, hb3⟩
  have HX := Lib.hid hx
  obtain ⟨hz, hb, ⟨c0, c1, c2, c3, f0, f1, f2, f3⟩⟩ := more_end HN.out hb3
  have HB := Lib.hid hb
  clear hb3 hb hx
  unfold tkV
  dsimp only
  generalize hst : strOfNums tx = str
  have HS := Lib.hid hst
  clear hst
  go_wp2_with fail
  exact bodyPost_ret (v := .tuple #[.agg #[.int .i64 kd, .string str, .bool em, .bool bk], .int .i64 n, .int .i64 x.2.2]) (by simp [results, Tryz.results21, go_sem, c0, c1, c2, c3, hz]) rfl ⟨⟨kd, tx, em, bk⟩, n, by rw [← HS.out]; rfl, HX.out, below_set4 HB.out (Nat.le_refl _) _ _ _ _⟩
theorem front_any (s : ByteArray) (a : Nat) (more : Bool) (w : World) (hG : Gl w) (hs : s.size ≤ 1000) : Calls Tryz.prog 21 #[.string s, .int .i64 (a : Int), .bool more] w (TokPost (frontF (decide (a = 0)) more (byts s)) w) := by
  have hE := Nz.isE s
  unfold frontF
  by_cases h0 : s.size = 0
  · have hn : byts s = [] := List.eq_nil_of_length_eq_zero (by rw [byts_len]; exact h0)
    rw [if_pos hn]
    rw [decide_eq_true h0] at hE
    cases more with
    | true => exact front_nil_more s a w hE
    | false => exact front_nil_last s a w hE
  · rw [decide_eq_false h0] at hE
    rw [if_neg (fun h => h0 (by rw [← byts_len, h]; rfl))]
    have h1 : 0 < s.size := by omega
    have hb := at_byt s 0 h1
    by_cases h2 : (byts s).getD 0 0 = 60
    · rw [if_pos h2]
      exact front_mark s a more _ w hG hE h1 (by rw [hb, h2]; rfl) (Lib.hid fun W hW => marked_any s a W hW hs h2)
    · rw [if_neg h2]
      exact front_plain s a more _ w hG hE h1 (by rw [hb, beq_eq_false_iff_ne]; exact h2) (Lib.hid fun W hW => plain_tok s more W hW hs)
/-- What Next, More and the document's Next answer: the token, where the next one begins, the error. -/
def NxPost (x : Tk × Nat × Int) (a : Nat) (w : World) (e : Ending) (w' : World) : Prop :=
  e = .returned (.tuple #[tkV x.1, .int .i64 ((a : Int) + (x.2.1 : Int)), .int .i64 x.2.2]) ∧ Below w.heap.size w w'
theorem front_zero (z more : Bool) (l : List Int) (h : (frontF z more l).2.2 ≠ 0) : frontF z more l = (T0, 0, (frontF z more l).2.2) := by
  by_cases hl : l = []
  · subst hl
    cases more with
    | true => rfl
    | false => exact absurd rfl h
  · obtain ⟨h1, h2⟩ := (fit_front z more l hl).zero h
    rw [← h1, ← h2]
theorem front_len (z more : Bool) (l : List Int) : (frontF z more l).2.1 ≤ l.length := by
  by_cases h : (frontF z more l).2.2 = 0
  · by_cases hl : l = []
    · subst hl
      cases more with
      | true => exact Nat.le_refl _
      | false => exact Nat.le_refl _
    · exact ((fit_front z more l hl).size h).2.1
  · rw [front_zero z more l h]
    exact Nat.zero_le _
set_option maxHeartbeats 1000000 in
set_option maxRecDepth 100000 in
theorem next_err (s : ByteArray) (a : Nat) (more : Bool) (m : Nat) (er : Int) (w : World) (hG : Gl w) (hs : s.size ≤ 1000) (ha : a ≤ s.size) (her : er ≠ 0) (y : Tk) (C : Hid (ToC 21 #[.string (s.extract a s.size), .int .i64 (a : Int), .bool more] (y, m, er))) :
    Calls Tryz.prog 14 #[.string s, .int .i64 (a : Int), .bool more] w (NxPost (T0, 0, er) a w) := by
  have HN := Lib.hid (new_end w)
  have HG := Lib.hid (hG.after HN.out.2.1)
  have t1 : (er != 0) = true := by rw [bne_iff_ne]; exact her
  have d1 : ¬ (a : Int) < 0 := by omega
  have d2 : ¬ (s.size : Int) < (a : Int) := by omega
  have d3 : (0 : Int) ≤ (a : Int) := by omega
  have d4 : (a : Int) ≤ (s.size : Int) := by omega
  have d5 : ¬ s.size < a := by omega
  clear hG her
  go_enter Tryz.func14, Tryz.ntmps14
  go_wp2_with fail
  refine (C.out _ HG.out).mono ?_
  rintro e w3 ⟨⟨kd, tx, em, bk⟩, n, rfl, hx, hb3⟩
  have h3 := more_end HN.out hb3
  clear hx hb3
  unfold tkV
  dsimp only
  generalize strOfNums tx = str
  have hA := (Below.refl w3.heap.size w3).alloc (Nat.le_refl _) (.cells #[.int .i64 kd, .string str, .bool em, .bool bk] 33)
  obtain ⟨hz, hb, ⟨c0, c1, c2, c3, f0, f1, f2, f3⟩⟩ := more_end h3 hA
  have HB := Lib.hid hb
  clear hb h3 hA
  go_wp2_with fail
  exact bodyPost_ret (v := .tuple #[tkV T0, .int .i64 (a : Int), .int .i64 er]) (by rw [tk0]; simp [results, Tryz.results14, go_sem, c0, c1, c2, c3, hz]) rfl ⟨by show _ = Ending.returned (.tuple #[tkV T0, .int .i64 ((a : Int) + ((0 : Nat) : Int)), .int .i64 er]); rw [show (a : Int) + ((0 : Nat) : Int) = a by omega], below_set4 HB.out (Nat.le_refl _) _ _ _ _⟩
set_option maxHeartbeats 1000000 in
set_option maxRecDepth 100000 in
theorem next_ok (s : ByteArray) (a : Nat) (more : Bool) (m : Nat) (w : World) (hG : Gl w) (hs : s.size ≤ 1000) (ha : a ≤ s.size) (hm : m ≤ 1000) (y : Tk) (C : Hid (ToC 21 #[.string (s.extract a s.size), .int .i64 (a : Int), .bool more] (y, m, 0))) :
    Calls Tryz.prog 14 #[.string s, .int .i64 (a : Int), .bool more] w (NxPost (y, m, 0) a w) := by
  have HN := Lib.hid (new_end w)
  have HG := Lib.hid (hG.after HN.out.2.1)
  have d1 : ¬ (a : Int) < 0 := by omega
  have d2 : ¬ (s.size : Int) < (a : Int) := by omega
  have d3 : (0 : Int) ≤ (a : Int) := by omega
  have d4 : (a : Int) ≤ (s.size : Int) := by omega
  have d5 : ¬ s.size < a := by omega
  have q1 : IntKind.i64.wrap ((a : Int) + (m : Int)) = (a : Int) + (m : Int) := IntWalk.i64_in _ (by omega)
  clear hG
  obtain ⟨kd, tx, em, bk⟩ := y
  go_enter Tryz.func14, Tryz.ntmps14
  go_wp2_with fail
  refine (C.out _ HG.out).mono ?_
  rintro e w3 ⟨y', n, rfl, hx, hb3⟩
  obtain ⟨rfl, rfl⟩ := hx rfl
  have h3 := more_end HN.out hb3
  clear hx hb3
  unfold tkV
  dsimp only
  generalize hst : strOfNums tx = str
  have HS := Lib.hid hst
  clear hst
  have hA := (Below.refl w3.heap.size w3).alloc (Nat.le_refl _) (.cells #[.int .i64 kd, .string str, .bool em, .bool bk] 33)
  obtain ⟨hz, hb, ⟨c0, c1, c2, c3, f0, f1, f2, f3⟩⟩ := more_end h3 hA
  have HB := Lib.hid hb
  clear hb h3 hA
  go_wp2_with fail
  exact bodyPost_ret (v := .tuple #[.agg #[.int .i64 kd, .string str, .bool em, .bool bk], .int .i64 ((a : Int) + (m : Int)), .int .i64 0]) (by simp [results, Tryz.results14, go_sem, c0, c1, c2, c3, hz]) rfl ⟨by rw [← HS.out]; rfl, below_set4 HB.out (Nat.le_refl _) _ _ _ _⟩
theorem snext_any (s : ByteArray) (a : Nat) (more : Bool) (w : World) (hG : Gl w) (hs : s.size ≤ 1000) (ha : a ≤ s.size) : Calls Tryz.prog 14 #[.string s, .int .i64 (a : Int), .bool more] w (NxPost (frontF (decide (a = 0)) more ((byts s).drop a)) a w) := by
  have e : byts (s.extract a s.size) = (byts s).drop a := by rw [byts_extract, List.take_of_length_le (by rw [byts_len]; omega)]
  have C : ToC 21 #[.string (s.extract a s.size), .int .i64 (a : Int), .bool more] (frontF (decide (a = 0)) more ((byts s).drop a)) := fun W hW => by
    have := front_any (s.extract a s.size) a more W hW (by rw [ByteArray.size_extract]; omega)
    rw [e] at this
    exact this
  have hl := front_len (decide (a = 0)) more ((byts s).drop a)
  rw [List.length_drop, byts_len] at hl
  by_cases h : (frontF (decide (a = 0)) more ((byts s).drop a)).2.2 = 0
  · obtain ⟨y, m, er, hx⟩ : ∃ y m er, frontF (decide (a = 0)) more ((byts s).drop a) = (y, m, er) := ⟨_, _, _, rfl⟩
    rw [hx] at C hl h ⊢
    have h' : er = 0 := h
    subst h'
    exact next_ok s a more m w hG hs ha (by have : m ≤ s.size - a := hl; omega) y (Lib.hid C)
  · rw [front_zero _ _ _ h] at C ⊢
    exact next_err s a more 0 _ w hG hs ha h T0 (Lib.hid C)
set_option maxHeartbeats 1000000 in
set_option maxRecDepth 100000 in
theorem Next_of (s : ByteArray) (a : Nat) (x : Tk × Nat × Int) (w : World) (hG : Gl w) (C : Hid (∀ W, Gl W → Calls Tryz.prog 14 #[.string s, .int .i64 (a : Int), .bool false] W (NxPost x a W))) :
    Calls Tryz.prog 11 #[.string s, .int .i64 (a : Int)] w (NxPost x a w) := by
  have HN := Lib.hid (new_end w)
  have HG := Lib.hid (hG.after HN.out.2.1)
  clear hG
  obtain ⟨⟨kd, tx, em, bk⟩, m, er⟩ := x
  go_enter Tryz.func11, Tryz.ntmps11
  go_wp2_with fail
  refine (C.out _ HG.out).mono ?_
  rintro e w3 ⟨rfl, hb3⟩
  obtain ⟨hz, hb, ⟨c0, c1, c2, c3, f0, f1, f2, f3⟩⟩ := more_end HN.out hb3
  have HB := Lib.hid hb
  clear hb hb3
  unfold tkV
  dsimp only
  generalize hst : strOfNums tx = str
  have HS := Lib.hid hst
  clear hst
  generalize hmm : (a : Int) + (m : Int) = k
  have HM := Lib.hid hmm
  clear hmm
  go_wp2_with fail
  exact bodyPost_ret (v := .tuple #[.agg #[.int .i64 kd, .string str, .bool em, .bool bk], .int .i64 k, .int .i64 er]) (by simp [results, Tryz.results11, go_sem, c0, c1, c2, c3, hz]) rfl ⟨by rw [← HS.out, ← HM.out]; rfl, below_set4 HB.out (Nat.le_refl _) _ _ _ _⟩
set_option maxHeartbeats 1000000 in
set_option maxRecDepth 100000 in
theorem More_of (s : ByteArray) (a : Nat) (x : Tk × Nat × Int) (w : World) (hG : Gl w) (C : Hid (∀ W, Gl W → Calls Tryz.prog 14 #[.string s, .int .i64 (a : Int), .bool true] W (NxPost x a W))) :
    Calls Tryz.prog 13 #[.string s, .int .i64 (a : Int)] w (NxPost x a w) := by
  have HN := Lib.hid (new_end w)
  have HG := Lib.hid (hG.after HN.out.2.1)
  clear hG
  obtain ⟨⟨kd, tx, em, bk⟩, m, er⟩ := x
  go_enter Tryz.func13, Tryz.ntmps13
  go_wp2_with fail
  refine (C.out _ HG.out).mono ?_
  rintro e w3 ⟨rfl, hb3⟩
  obtain ⟨hz, hb, ⟨c0, c1, c2, c3, f0, f1, f2, f3⟩⟩ := more_end HN.out hb3
  have HB := Lib.hid hb
  clear hb hb3
  unfold tkV
  dsimp only
  generalize hst : strOfNums tx = str
  have HS := Lib.hid hst
  clear hst
  generalize hmm : (a : Int) + (m : Int) = k
  have HM := Lib.hid hmm
  clear hmm
  go_wp2_with fail
  exact bodyPost_ret (v := .tuple #[.agg #[.int .i64 kd, .string str, .bool em, .bool bk], .int .i64 k, .int .i64 er]) (by simp [results, Tryz.results13, go_sem, c0, c1, c2, c3, hz]) rfl ⟨by rw [← HS.out, ← HM.out]; rfl, below_set4 HB.out (Nat.le_refl _) _ _ _ _⟩
theorem Next_any (s : ByteArray) (a : Nat) (w : World) (hG : Gl w) (hs : s.size ≤ 1000) (ha : a ≤ s.size) : Calls Tryz.prog 11 #[.string s, .int .i64 (a : Int)] w (NxPost (nx (byts s) a) a w) :=
  Next_of s a _ w hG (Lib.hid fun W hW => snext_any s a false W hW hs ha)
theorem More_any (s : ByteArray) (a : Nat) (w : World) (hG : Gl w) (hs : s.size ≤ 1000) (ha : a ≤ s.size) : Calls Tryz.prog 13 #[.string s, .int .i64 (a : Int)] w (NxPost (frontF (decide (a = 0)) true ((byts s).drop a)) a w) :=
  More_of s a _ w hG (Lib.hid fun W hW => snext_any s a true W hW hs ha)
end Go.Proofs.YtmbghdpoeahnaaaGreatDoor
