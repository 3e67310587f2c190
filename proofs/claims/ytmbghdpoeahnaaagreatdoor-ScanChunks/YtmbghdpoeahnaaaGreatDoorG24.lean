/-
  Merged by program out of the texts KIn, KIn2, KWrong of one seat.
-/
import Derived.Test.YtmbghdpoeahnaaaGreatDoorG22
import Derived.Test.YtmbghdpoeahnaaaGreatDoorG19
import Derived.Test.YtmbghdpoeahnaaaGreatDoorG23
import Derived.Test.YtmbghdpoeahnaaaGreatDoorG12
import Derived.Test.YtmbghdpoeahnaaaGreatDoorG08
import Derived.Test.YtmbghdpoeahnaaaGreatDoorG02
import Derived.Test.YtmbghdpoeahnaaaGreatDoorG03

/- The walk of the document's inside. -/
set_option linter.unusedSimpArgs false
set_option linter.unusedVariables false
namespace Go.Proofs.YtmbghdpoeahnaaaGreatDoor
open Go.RowKit

theorem one_end {w w1 : World} (hb1 : Below (w.alloc (.cells #[.int .i64 0, .string ⟨#[]⟩, .bool false, .bool false] 33)).heap.size (w.alloc (.cells #[.int .i64 0, .string ⟨#[]⟩, .bool false, .bool false] 33)) w1) :
    w.heap.size < w1.heap.size ∧ Below w.heap.size w w1 ∧ Res4 w1 w.heap.size := by
  have hz1 : w.heap.size < w1.heap.size := by have := hb1.size; simp at this; omega
  have hb := ((Below.refl w.heap.size w).alloc (Nat.le_refl _) (.cells #[.int .i64 0, .string ⟨#[]⟩, .bool false, .bool false] 33)).trans (hb1.mono (by simp))
  exact ⟨hz1, hb, (res_new w).keep hb1 (by simp)⟩
theorem rdr_of {x y : Tk × Int} {w w' : World} {e : Ending} (h : x = y) (hp : RdrPost y w e w') : RdrPost x w e w' := by rw [h]; exact hp
set_option maxHeartbeats 1000000 in
set_option maxRecDepth 100000 in
theorem in0_of (s t : ByteArray) (at_ : Int) (w : World) (C : Hid (∀ W, Calls Tryz.prog 28 #[.string s] W fun e w' => e = .returned (.string t) ∧ Below W.heap.size W w')) :
    Calls Tryz.prog 20 #[.int .i64 0, .string s, .int .i64 at_] w fun e w' => e = .returned (.tuple #[.agg #[.int .i64 3, .string t, .bool false, .bool false], .int .i64 0]) ∧ Below w.heap.size w w' := by
  go_enter Tryz.func20, Tryz.ntmps20
  go_wp2_with fail
  refine (C.out _).mono ?_
  rintro e w1 ⟨rfl, hb1⟩
  obtain ⟨hz, hb, ⟨c0, c1, c2, c3, f0, f1, f2, f3⟩⟩ := one_end hb1
  have HB := Lib.hid hb
  clear hb1 hb
  go_wp2_with fail
  exact bodyPost_ret (v := .tuple #[.agg #[.int .i64 3, .string t, .bool false, .bool false], .int .i64 0]) (by simp [results, Tryz.results20, go_sem, c0, c1, c2, c3, hz]) rfl ⟨rfl, below_set4 HB.out (Nat.le_refl _) _ _ _ _⟩
theorem in0_any (s : ByteArray) (at_ : Int) (w : World) (hs : s.size ≤ 1000) : Calls Tryz.prog 20 #[.int .i64 0, .string s, .int .i64 at_] w (RdrPost (dataR (byts s)) w) :=
  in0_of s _ at_ w (Lib.hid fun W => rends_any s W hs)
theorem last_get (l : List Int) (h : 1 ≤ l.length) : l.getLast? = some (l.getD (l.length - 1) 0) := by
  rw [List.getLast?_eq_getElem?, List.getD_eq_getElem?_getD, List.getElem?_eq_getElem (by omega)]
  rfl
set_option maxHeartbeats 2000000 in
set_option maxRecDepth 100000 in
theorem in1_any (s : ByteArray) (at_ : Int) (w : World) (hs : s.size ≤ 1000) : Calls Tryz.prog 20 #[.int .i64 1, .string s, .int .i64 at_] w (RdrPost (commR (byts s)) w) := by
  have C0 := rfind_any s ⟨#[45, 45]⟩ 0
  have hq : byts ⟨#[45, 45]⟩ = [45, 45] := rfl
  have HB := Lib.hid ((Below.refl w.heap.size w).alloc (Nat.le_refl _) (.cells #[.int .i64 0, .string ⟨#[]⟩, .bool false, .bool false] 33))
  rw [hq] at C0
  unfold findI at C0
  rw [List.drop_zero] at C0
  have C0' : ∀ W, Calls Tryz.prog 15 #[.string s, .int .i64 0, .string ⟨#[45, 45]⟩] W _ := fun W => C0 W (by omega) (by decide) (Nat.zero_le _)
  clear C0
  cases hf : fnd [45, 45] (byts s) with
  | some n =>
    rw [hf] at C0'
    have C := Lib.hid C0'
    clear C0'
    have HR : Hid (commR (byts s) = (T0, 6)) := Lib.hid (by unfold commR; rw [if_pos (.inl (by rw [hf]; rfl))])
    have hn := (fnd_some hf).1
    rw [byts_len] at hn
    have t1 : (0 : Int) ≤ ((0 + n : Nat) : Int) := by omega
    clear hf
    generalize (0 + n : Nat) = m at *
    go_enter Tryz.func20, Tryz.ntmps20
    go_wp2_with fail
    refine (C.out _).mono ?_
    rintro e w1 ⟨rfl, rfl⟩
    go_wp2_with fail
    refine bodyPost_ret (v := .tuple #[tkV T0, .int .i64 6]) (by rw [tk0]; simp [results, Tryz.results20, go_sem]) rfl (rdr_of HR.out ⟨rfl, HB.out⟩)
  | none =>
    rw [hf] at C0'
    have C := Lib.hid C0'
    clear C0'
    by_cases h0 : s.size = 0
    · have HR : Hid (commR (byts s) = (⟨4, byts s, false, false⟩, 0)) := Lib.hid (by
        have : byts s = [] := List.eq_nil_of_length_eq_zero (by rw [byts_len]; exact h0)
        unfold commR
        rw [if_neg (by rw [hf, this]; simp)])
      have t1 : ¬ (0 : Int) < (s.size : Int) := by omega
      have t1' : ¬ 0 < s.size := by omega
      clear hf h0
      go_enter Tryz.func20, Tryz.ntmps20
      go_wp2_with fail
      refine (C.out _).mono ?_
      rintro e w1 ⟨rfl, rfl⟩
      go_wp2_with fail
      refine bodyPost_ret (v := .tuple #[tkV ⟨4, byts s, false, false⟩, .int .i64 0]) (by unfold tkV; rw [str_byts]; simp [results, Tryz.results20, go_sem]) rfl (rdr_of HR.out ⟨rfl, (Below.refl w.heap.size w).alloc (Nat.le_refl _) _⟩)
    · have hl := last_get (byts s) (by rw [byts_len]; omega)
      rw [byts_len] at hl
      have hb := at_byt s (s.size - 1) (by omega)
      have t1 : (0 : Int) < (s.size : Int) := by omega
      have q1 : IntKind.i64.wrap ((s.size : Int) - 1) = ((s.size - 1 : Nat) : Int) := by rw [IntWalk.i64_in _ (by omega)]; omega
      have d1 : ((s.size - 1 : Nat) : Int) < (s.size : Int) := by omega
      have d2 : s.size - 1 < s.size := by omega
      by_cases h45 : (byts s).getD (s.size - 1) 0 = 45
      · have HR : Hid (commR (byts s) = (T0, 6)) := Lib.hid (by unfold commR; rw [if_pos (.inr (by rw [hl, h45]))])
        have t2 : (((s[s.size - 1]).toNat : Int) == 45) = true := by rw [hb]; simpa using h45
        clear hf hl hb h45 h0
        go_enter Tryz.func20, Tryz.ntmps20
        go_wp2_with fail
        refine (C.out _).mono ?_
        rintro e w1 ⟨rfl, rfl⟩
        go_wp2_with fail
        refine bodyPost_ret (v := .tuple #[tkV T0, .int .i64 6]) (by rw [tk0]; simp [results, Tryz.results20, go_sem]) rfl (rdr_of HR.out ⟨rfl, HB.out⟩)
      · have HR : Hid (commR (byts s) = (⟨4, byts s, false, false⟩, 0)) := Lib.hid (by
          unfold commR
          rw [if_neg (by rw [hf, hl]; simp; intro h; exact h45 (by rw [List.getD_eq_getElem?_getD]; exact h))])
        have t2 : (((s[s.size - 1]).toNat : Int) == 45) = false := by rw [hb]; simpa using h45
        clear hf hl hb h45 h0
        go_enter Tryz.func20, Tryz.ntmps20
        go_wp2_with fail
        refine (C.out _).mono ?_
        rintro e w1 ⟨rfl, rfl⟩
        go_wp2_with fail
        refine bodyPost_ret (v := .tuple #[tkV ⟨4, byts s, false, false⟩, .int .i64 0]) (by unfold tkV; rw [str_byts]; simp [results, Tryz.results20, go_sem]) rfl (rdr_of HR.out ⟨rfl, (Below.refl w.heap.size w).alloc (Nat.le_refl _) _⟩)
def RsC (s : ByteArray) (n : Nat) (b : Bool) : Prop := ∀ W, Calls Tryz.prog 34 #[.string (s.extract 0 n)] W fun e w' => (∃ a c, e = .returned (.tuple #[.string a, .string c, .bool b])) ∧ Below W.heap.size W w'
set_option maxHeartbeats 2000000 in
set_option maxRecDepth 100000 in
theorem in3_any (s : ByteArray) (at_ : Int) (w : World) (hs : s.size ≤ 1000) : Calls Tryz.prog 20 #[.int .i64 3, .string s, .int .i64 at_] w (RdrPost (endR (byts s)) w) := by
  have HE : Hid (∀ k, Rend (byts s) k → k ≤ s.size ∧ byts (s.extract 0 k) = trimR (byts s) ∧ ∃ b, RsC s k b ∧ endR (byts s) = if b = true then (⟨2, trimR (byts s), false, false⟩, 0) else (T0, 4)) := Lib.hid fun k hk => by
    have h1 := rend_trim hk
    have h2 := hk.1
    rw [byts_len] at h2
    have h3 : byts (s.extract 0 k) = trimR (byts s) := by rw [byts_extract, h1, List.drop_zero]
    have h4 : s.extract 0 k = strOfNums (trimR (byts s)) := str_of_byts h3
    refine ⟨h2, h3, (Nz.splitA (s.extract 0 k)).2.2, fun W => (Nz.rsplit_any (s.extract 0 k) (by rw [ByteArray.size_extract]; omega) W).mono fun e w' ⟨a, b⟩ => ⟨⟨_, _, a⟩, b⟩, ?_⟩
    unfold endR nmB
    rw [← h4]
    cases (Nz.splitA (s.extract 0 k)).2.2 <;> rfl
  have HS := Lib.hid (fun k (h : k < s.size) => at_byt s k h)
  go_enter Tryz.func20, Tryz.ntmps20
  go_wp2_with fail
  go_loop [10] (fun i => ∃ k : Nat, i = .int .i64 k ∧ k ≤ s.size ∧ Hid (∀ j, k ≤ j → j < s.size → blk? ((byts s).getD j 0) = true)) (fun i => (intOf i).toNat)
  case atStart => exact ⟨s.size, rfl, Nat.le_refl _, Lib.hid fun j h1 h2 => by omega⟩
  case round =>
    obtain ⟨k, rfl, hk, ho⟩ := hrel
    by_cases h0 : k = 0
    · have t1 : ¬ (0 : Int) < (k : Int) := by omega
      obtain ⟨h2, h3, b, hC, hR⟩ := HE.out k ⟨by rw [byts_len]; exact hk, fun j h1 h2 => ho.out j h1 (by rw [← byts_len]; exact h2), .inl h0⟩
      have C := Lib.hid hC
      have HR := Lib.hid hR
      have H3 := Lib.hid h3
      clear HE HS ho hC hR h3 h0
      have d0 : (0 : Int) ≤ (k : Int) := by omega
      have d1 : (k : Int) ≤ (s.size : Int) := by omega
      cases b
      · go_wp2_with fail
        refine (C.out _).mono ?_
        rintro e w1 ⟨⟨a, c, rfl⟩, hb1⟩
        obtain ⟨hz, hb, ⟨c0, c1, c2, c3, f0, f1, f2, f3⟩⟩ := one_end hb1
        have HB := Lib.hid hb
        clear hb1 hb
        go_wp2_with fail
        exact bodyPost_ret (v := .tuple #[tkV T0, .int .i64 4]) (by rw [tk0]; simp [results, Tryz.results20, go_sem, c0, c1, c2, c3, hz]) rfl (rdr_of HR.out ⟨rfl, below_set4 HB.out (Nat.le_refl _) _ _ _ _⟩)
      · go_wp2_with fail
        refine (C.out _).mono ?_
        rintro e w1 ⟨⟨a, c, rfl⟩, hb1⟩
        obtain ⟨hz, hb, ⟨c0, c1, c2, c3, f0, f1, f2, f3⟩⟩ := one_end hb1
        have HB := Lib.hid hb
        clear hb1 hb
        go_wp2_with fail
        exact bodyPost_ret (v := .tuple #[tkV ⟨2, trimR (byts s), false, false⟩, .int .i64 0]) (by unfold tkV; rw [← H3.out, str_byts]; simp [results, Tryz.results20, go_sem, c0, c1, c2, c3, hz]) rfl (rdr_of HR.out ⟨rfl, below_set4 HB.out (Nat.le_refl _) _ _ _ _⟩)
    · have t1 : (0 : Int) < (k : Int) := by omega
      have q1 : IntKind.i64.wrap ((k : Int) - 1) = ((k - 1 : Nat) : Int) := by rw [IntWalk.i64_in _ (by omega)]; omega
      have d3 : ((k - 1 : Nat) : Int) < (s.size : Int) := by omega
      have d4 : k - 1 < s.size := by omega
      have hbb := HS.out (k - 1) d4
      cases hq : blk? ((byts s).getD (k - 1) 0) with
      | true =>
        have HO : Hid (∀ j, k - 1 ≤ j → j < s.size → blk? ((byts s).getD j 0) = true) := Lib.hid fun j h1 h2 => by
          by_cases e : j = k - 1
          · rw [e]; exact hq
          · exact ho.out j (by omega) h2
        have C := Lib.hid (rbl_t hq)
        rw [← hbb] at C
        clear HE HS ho hq hbb
        go_wp2_with fail
        refine (C.out _).mono ?_
        rintro e w1 ⟨rfl, rfl⟩
        go_wp2_with fail
        go_round
        case rel => exact ⟨k - 1, rfl, by omega, HO⟩
        case measure => simp only [intOf]; omega
      | false =>
        have C0 := Lib.hid (rbl_f hq)
        rw [← hbb] at C0
        obtain ⟨h2, h3, b, hC, hR⟩ := HE.out k ⟨by rw [byts_len]; exact hk, fun j h1 h2 => ho.out j h1 (by rw [← byts_len]; exact h2), .inr hq⟩
        have C := Lib.hid hC
        have HR := Lib.hid hR
        have H3 := Lib.hid h3
        clear HE HS ho hC hR h3 hq hbb
        have d0 : (0 : Int) ≤ (k : Int) := by omega
        have d1 : (k : Int) ≤ (s.size : Int) := by omega
        cases b
        · go_wp2_with fail
          refine (C0.out _).mono ?_
          rintro e w1 ⟨rfl, rfl⟩
          go_wp2_with fail
          refine (C.out _).mono ?_
          rintro e w1 ⟨⟨a, c, rfl⟩, hb1⟩
          obtain ⟨hz, hb, ⟨c0, c1, c2, c3, f0, f1, f2, f3⟩⟩ := one_end hb1
          have HB := Lib.hid hb
          clear hb1 hb
          go_wp2_with fail
          exact bodyPost_ret (v := .tuple #[tkV T0, .int .i64 4]) (by rw [tk0]; simp [results, Tryz.results20, go_sem, c0, c1, c2, c3, hz]) rfl (rdr_of HR.out ⟨rfl, below_set4 HB.out (Nat.le_refl _) _ _ _ _⟩)
        · go_wp2_with fail
          refine (C0.out _).mono ?_
          rintro e w1 ⟨rfl, rfl⟩
          go_wp2_with fail
          refine (C.out _).mono ?_
          rintro e w1 ⟨⟨a, c, rfl⟩, hb1⟩
          obtain ⟨hz, hb, ⟨c0, c1, c2, c3, f0, f1, f2, f3⟩⟩ := one_end hb1
          have HB := Lib.hid hb
          clear hb1 hb
          go_wp2_with fail
          exact bodyPost_ret (v := .tuple #[tkV ⟨2, trimR (byts s), false, false⟩, .int .i64 0]) (by unfold tkV; rw [← H3.out, str_byts]; simp [results, Tryz.results20, go_sem, c0, c1, c2, c3, hz]) rfl (rdr_of HR.out ⟨rfl, below_set4 HB.out (Nat.le_refl _) _ _ _ _⟩)
end Go.Proofs.YtmbghdpoeahnaaaGreatDoor

/- The walk of the document's inside at an instruction. -/
set_option linter.unusedSimpArgs false
set_option linter.unusedVariables false
namespace Go.Proofs.YtmbghdpoeahnaaaGreatDoor
open Go.RowKit

def CuC (s t : ByteArray) (n : Nat) : Prop := ∀ W, Calls Tryz.prog 29 #[.string s, .int .i64 0] W fun e w' => e = .returned (.tuple #[.string t, .int .i64 (n : Int)]) ∧ Below W.heap.size W w'
def RpC (t : ByteArray) (b : Bool) : Prop := ∀ W, Calls Tryz.prog 30 #[.string t] W fun e w' => e = .returned (.bool b) ∧ Below W.heap.size W w'
def BlC (s : ByteArray) (n : Nat) (h : n < s.size) (b : Bool) : Prop := ∀ W, Calls Tryz.prog 31 #[.int .u8 ((s[n]).toNat : Int)] W fun e w' => e = .returned (.bool b) ∧ W = w'
def RdeC (s : ByteArray) (n : Nat) (b : Bool) : Prop := ∀ W, Calls Tryz.prog 33 #[.string (s.extract n s.size)] W fun e w' => e = .returned (.bool b) ∧ Below W.heap.size W w'
set_option maxHeartbeats 2000000 in
set_option maxRecDepth 100000 in
theorem in2_a (s t : ByteArray) (n : Nat) (at_ : Int) (w : World) (hs : s.size ≤ 1000) (C1 : Hid (CuC s t n)) (C2 : Hid (RpC t false)) : Calls Tryz.prog 20 #[.int .i64 2, .string s, .int .i64 at_] w (RdrPost (T0, 4) w) := by
  go_enter Tryz.func20, Tryz.ntmps20
  go_wp2_with fail
  refine (C1.out _).mono ?_
  rintro e w1 ⟨rfl, hb1⟩
  have h1 := one_end hb1
  clear hb1
  go_wp2_with fail
  refine (C2.out _).mono ?_
  rintro e w2 ⟨rfl, hb2⟩
  obtain ⟨hz, hb, ⟨c0, c1, c2, c3, f0, f1, f2, f3⟩⟩ := inst_more h1 hb2
  have HB := Lib.hid hb
  clear hb2 hb h1
  go_wp2_with fail
  exact bodyPost_ret (v := .tuple #[tkV T0, .int .i64 4]) (by rw [tk0]; simp [results, Tryz.results20, go_sem, c0, c1, c2, c3, hz]) rfl ⟨rfl, below_set4 HB.out (Nat.le_refl _) _ _ _ _⟩
set_option maxHeartbeats 2000000 in
set_option maxRecDepth 100000 in
theorem in2_b (s t : ByteArray) (n : Nat) (at_ : Int) (w : World) (hs : s.size ≤ 1000) (hn : n < s.size) (C1 : Hid (CuC s t n)) (C2 : Hid (RpC t true)) (C3 : Hid (BlC s n hn false)) : Calls Tryz.prog 20 #[.int .i64 2, .string s, .int .i64 at_] w (RdrPost (T0, 4) w) := by
  have d1 : (n : Int) < (s.size : Int) := by omega
  go_enter Tryz.func20, Tryz.ntmps20
  go_wp2_with fail
  refine (C1.out _).mono ?_
  rintro e w1 ⟨rfl, hb1⟩
  have h1 := one_end hb1
  clear hb1
  go_wp2_with fail
  refine (C2.out _).mono ?_
  rintro e w2 ⟨rfl, hb2⟩
  obtain ⟨hz, hb, ⟨c0, c1, c2, c3, f0, f1, f2, f3⟩⟩ := inst_more h1 hb2
  have HB := Lib.hid hb
  clear hb2 hb h1
  go_wp2_with fail
  refine (C3.out _).mono ?_
  rintro e w3 ⟨rfl, rfl⟩
  go_wp2_with fail
  exact bodyPost_ret (v := .tuple #[tkV T0, .int .i64 4]) (by rw [tk0]; simp [results, Tryz.results20, go_sem, c0, c1, c2, c3, hz]) rfl ⟨rfl, below_set4 HB.out (Nat.le_refl _) _ _ _ _⟩
/-- What the rest of an instruction's reading is, once its name stands. -/
inductive Rest (s t v : ByteArray) (n : Nat) (at_ : Int) : Tk × Int → Prop
  | plain (h : (v.toList == [120, 109, 108]) = false) : Rest s t v n at_ (⟨5, byts s, false, false⟩, 0)
  | far (h : (v.toList == [120, 109, 108]) = true) (h2 : (at_ != 0) = true) : Rest s t v n at_ (T0, 12)
  | other (h : (v.toList == [120, 109, 108]) = true) (h2 : (at_ != 0) = false) (h3 : (t.toList == [120, 109, 108]) = false) : Rest s t v n at_ (T0, 12)
  | no (h : (v.toList == [120, 109, 108]) = true) (h2 : (at_ != 0) = false) (h3 : (t.toList == [120, 109, 108]) = true) (h4 : Hid (RdeC s n false)) : Rest s t v n at_ (T0, 12)
  | yes (h : (v.toList == [120, 109, 108]) = true) (h2 : (at_ != 0) = false) (h3 : (t.toList == [120, 109, 108]) = true) (h4 : Hid (RdeC s n true)) : Rest s t v n at_ (⟨5, byts s, false, false⟩, 0)
set_option maxHeartbeats 4000000 in
set_option maxRecDepth 100000 in
theorem in2_c (s t v : ByteArray) (n : Nat) (at_ : Int) (x : Tk × Int) (w : World) (hs : s.size ≤ 1000) (hn : n = s.size) (C1 : Hid (CuC s t n)) (C2 : Hid (RpC t true)) (C4 : Hid (SmC t v)) (hx : Rest s t v n at_ x) : Calls Tryz.prog 20 #[.int .i64 2, .string s, .int .i64 at_] w (RdrPost x w) := by
  have d1 : ¬ (n : Int) < (s.size : Int) := by omega
  have d2 : (0 : Int) ≤ (n : Int) := by omega
  have d3 : (n : Int) ≤ (s.size : Int) := by omega
  clear hn
  cases hx with
  | plain h =>
    go_enter Tryz.func20, Tryz.ntmps20
    go_wp2_with fail
    refine (C1.out _).mono ?_
    rintro e w1 ⟨rfl, hb1⟩
    have h1 := one_end hb1
    clear hb1
    go_wp2_with fail
    refine (C2.out _).mono ?_
    rintro e w2 ⟨rfl, hb2⟩
    have h5 := inst_more h1 hb2
    clear h1 hb2
    go_wp2_with fail
    refine (C4.out _).mono ?_
    rintro e w3 ⟨rfl, hb3⟩
    obtain ⟨hz, hb, ⟨c0, c1, c2, c3, f0, f1, f2, f3⟩⟩ := inst_more h5 hb3
    have HB := Lib.hid hb
    clear hb3 hb h5
    go_wp2_with fail
    exact bodyPost_ret (v := .tuple #[tkV ⟨5, byts s, false, false⟩, .int .i64 0]) (by unfold tkV; rw [str_byts]; simp [results, Tryz.results20, go_sem, c0, c1, c2, c3, hz]) rfl ⟨rfl, below_set4 HB.out (Nat.le_refl _) _ _ _ _⟩
  | far h h2 =>
    go_enter Tryz.func20, Tryz.ntmps20
    go_wp2_with fail
    refine (C1.out _).mono ?_
    rintro e w1 ⟨rfl, hb1⟩
    have h1 := one_end hb1
    clear hb1
    go_wp2_with fail
    refine (C2.out _).mono ?_
    rintro e w2 ⟨rfl, hb2⟩
    have h5 := inst_more h1 hb2
    clear h1 hb2
    go_wp2_with fail
    refine (C4.out _).mono ?_
    rintro e w3 ⟨rfl, hb3⟩
    obtain ⟨hz, hb, ⟨c0, c1, c2, c3, f0, f1, f2, f3⟩⟩ := inst_more h5 hb3
    have HB := Lib.hid hb
    clear hb3 hb h5
    go_wp2_with fail
    exact bodyPost_ret (v := .tuple #[tkV T0, .int .i64 12]) (by rw [tk0]; simp [results, Tryz.results20, go_sem, c0, c1, c2, c3, hz]) rfl ⟨rfl, below_set4 HB.out (Nat.le_refl _) _ _ _ _⟩
  | other h h2 h3 =>
    go_enter Tryz.func20, Tryz.ntmps20
    go_wp2_with fail
    refine (C1.out _).mono ?_
    rintro e w1 ⟨rfl, hb1⟩
    have h1 := one_end hb1
    clear hb1
    go_wp2_with fail
    refine (C2.out _).mono ?_
    rintro e w2 ⟨rfl, hb2⟩
    have h5 := inst_more h1 hb2
    clear h1 hb2
    go_wp2_with fail
    refine (C4.out _).mono ?_
    rintro e w3 ⟨rfl, hb3⟩
    obtain ⟨hz, hb, ⟨c0, c1, c2, c3, f0, f1, f2, f3⟩⟩ := inst_more h5 hb3
    have HB := Lib.hid hb
    clear hb3 hb h5
    go_wp2_with fail
    exact bodyPost_ret (v := .tuple #[tkV T0, .int .i64 12]) (by rw [tk0]; simp [results, Tryz.results20, go_sem, c0, c1, c2, c3, hz]) rfl ⟨rfl, below_set4 HB.out (Nat.le_refl _) _ _ _ _⟩
  | no h h2 h3 h4 =>
    go_enter Tryz.func20, Tryz.ntmps20
    go_wp2_with fail
    refine (C1.out _).mono ?_
    rintro e w1 ⟨rfl, hb1⟩
    have h1 := one_end hb1
    clear hb1
    go_wp2_with fail
    refine (C2.out _).mono ?_
    rintro e w2 ⟨rfl, hb2⟩
    have h5 := inst_more h1 hb2
    clear h1 hb2
    go_wp2_with fail
    refine (C4.out _).mono ?_
    rintro e w3 ⟨rfl, hb3⟩
    have h6 := inst_more h5 hb3
    clear hb3 h5
    go_wp2_with fail
    refine (h4.out _).mono ?_
    rintro e w4 ⟨rfl, hb4⟩
    obtain ⟨hz, hb, ⟨c0, c1, c2, c3, f0, f1, f2, f3⟩⟩ := inst_more h6 hb4
    have HB := Lib.hid hb
    clear hb4 hb h6
    go_wp2_with fail
    exact bodyPost_ret (v := .tuple #[tkV T0, .int .i64 12]) (by rw [tk0]; simp [results, Tryz.results20, go_sem, c0, c1, c2, c3, hz]) rfl ⟨rfl, below_set4 HB.out (Nat.le_refl _) _ _ _ _⟩
  | yes h h2 h3 h4 =>
    go_enter Tryz.func20, Tryz.ntmps20
    go_wp2_with fail
    refine (C1.out _).mono ?_
    rintro e w1 ⟨rfl, hb1⟩
    have h1 := one_end hb1
    clear hb1
    go_wp2_with fail
    refine (C2.out _).mono ?_
    rintro e w2 ⟨rfl, hb2⟩
    have h5 := inst_more h1 hb2
    clear h1 hb2
    go_wp2_with fail
    refine (C4.out _).mono ?_
    rintro e w3 ⟨rfl, hb3⟩
    have h6 := inst_more h5 hb3
    clear hb3 h5
    go_wp2_with fail
    refine (h4.out _).mono ?_
    rintro e w4 ⟨rfl, hb4⟩
    obtain ⟨hz, hb, ⟨c0, c1, c2, c3, f0, f1, f2, f3⟩⟩ := inst_more h6 hb4
    have HB := Lib.hid hb
    clear hb4 hb h6
    go_wp2_with fail
    exact bodyPost_ret (v := .tuple #[tkV ⟨5, byts s, false, false⟩, .int .i64 0]) (by unfold tkV; rw [str_byts]; simp [results, Tryz.results20, go_sem, c0, c1, c2, c3, hz]) rfl ⟨rfl, below_set4 HB.out (Nat.le_refl _) _ _ _ _⟩
set_option maxHeartbeats 4000000 in
set_option maxRecDepth 100000 in
theorem in2_d (s t v : ByteArray) (n : Nat) (at_ : Int) (x : Tk × Int) (w : World) (hs : s.size ≤ 1000) (hn : n < s.size) (C1 : Hid (CuC s t n)) (C2 : Hid (RpC t true)) (C3 : Hid (BlC s n hn true)) (C4 : Hid (SmC t v)) (hx : Rest s t v n at_ x) : Calls Tryz.prog 20 #[.int .i64 2, .string s, .int .i64 at_] w (RdrPost x w) := by
  have d1 : (n : Int) < (s.size : Int) := by omega
  have d2 : (0 : Int) ≤ (n : Int) := by omega
  have d3 : (n : Int) ≤ (s.size : Int) := by omega
  cases hx with
  | plain h =>
    go_enter Tryz.func20, Tryz.ntmps20
    go_wp2_with fail
    refine (C1.out _).mono ?_
    rintro e w1 ⟨rfl, hb1⟩
    have h1 := one_end hb1
    clear hb1
    go_wp2_with fail
    refine (C2.out _).mono ?_
    rintro e w2 ⟨rfl, hb2⟩
    have h5 := inst_more h1 hb2
    clear h1 hb2
    go_wp2_with fail
    refine (C3.out _).mono ?_
    rintro e w9 ⟨rfl, rfl⟩
    go_wp2_with fail
    refine (C4.out _).mono ?_
    rintro e w3 ⟨rfl, hb3⟩
    obtain ⟨hz, hb, ⟨c0, c1, c2, c3, f0, f1, f2, f3⟩⟩ := inst_more h5 hb3
    have HB := Lib.hid hb
    clear hb3 hb h5
    go_wp2_with fail
    exact bodyPost_ret (v := .tuple #[tkV ⟨5, byts s, false, false⟩, .int .i64 0]) (by unfold tkV; rw [str_byts]; simp [results, Tryz.results20, go_sem, c0, c1, c2, c3, hz]) rfl ⟨rfl, below_set4 HB.out (Nat.le_refl _) _ _ _ _⟩
  | far h h2 =>
    go_enter Tryz.func20, Tryz.ntmps20
    go_wp2_with fail
    refine (C1.out _).mono ?_
    rintro e w1 ⟨rfl, hb1⟩
    have h1 := one_end hb1
    clear hb1
    go_wp2_with fail
    refine (C2.out _).mono ?_
    rintro e w2 ⟨rfl, hb2⟩
    have h5 := inst_more h1 hb2
    clear h1 hb2
    go_wp2_with fail
    refine (C3.out _).mono ?_
    rintro e w9 ⟨rfl, rfl⟩
    go_wp2_with fail
    refine (C4.out _).mono ?_
    rintro e w3 ⟨rfl, hb3⟩
    obtain ⟨hz, hb, ⟨c0, c1, c2, c3, f0, f1, f2, f3⟩⟩ := inst_more h5 hb3
    have HB := Lib.hid hb
    clear hb3 hb h5
    go_wp2_with fail
    exact bodyPost_ret (v := .tuple #[tkV T0, .int .i64 12]) (by rw [tk0]; simp [results, Tryz.results20, go_sem, c0, c1, c2, c3, hz]) rfl ⟨rfl, below_set4 HB.out (Nat.le_refl _) _ _ _ _⟩
  | other h h2 h3 =>
    go_enter Tryz.func20, Tryz.ntmps20
    go_wp2_with fail
    refine (C1.out _).mono ?_
    rintro e w1 ⟨rfl, hb1⟩
    have h1 := one_end hb1
    clear hb1
    go_wp2_with fail
    refine (C2.out _).mono ?_
    rintro e w2 ⟨rfl, hb2⟩
    have h5 := inst_more h1 hb2
    clear h1 hb2
    go_wp2_with fail
    refine (C3.out _).mono ?_
    rintro e w9 ⟨rfl, rfl⟩
    go_wp2_with fail
    refine (C4.out _).mono ?_
    rintro e w3 ⟨rfl, hb3⟩
    obtain ⟨hz, hb, ⟨c0, c1, c2, c3, f0, f1, f2, f3⟩⟩ := inst_more h5 hb3
    have HB := Lib.hid hb
    clear hb3 hb h5
    go_wp2_with fail
    exact bodyPost_ret (v := .tuple #[tkV T0, .int .i64 12]) (by rw [tk0]; simp [results, Tryz.results20, go_sem, c0, c1, c2, c3, hz]) rfl ⟨rfl, below_set4 HB.out (Nat.le_refl _) _ _ _ _⟩
  | no h h2 h3 h4 =>
    go_enter Tryz.func20, Tryz.ntmps20
    go_wp2_with fail
    refine (C1.out _).mono ?_
    rintro e w1 ⟨rfl, hb1⟩
    have h1 := one_end hb1
    clear hb1
    go_wp2_with fail
    refine (C2.out _).mono ?_
    rintro e w2 ⟨rfl, hb2⟩
    have h5 := inst_more h1 hb2
    clear h1 hb2
    go_wp2_with fail
    refine (C3.out _).mono ?_
    rintro e w9 ⟨rfl, rfl⟩
    go_wp2_with fail
    refine (C4.out _).mono ?_
    rintro e w3 ⟨rfl, hb3⟩
    have h6 := inst_more h5 hb3
    clear hb3 h5
    go_wp2_with fail
    refine (h4.out _).mono ?_
    rintro e w4 ⟨rfl, hb4⟩
    obtain ⟨hz, hb, ⟨c0, c1, c2, c3, f0, f1, f2, f3⟩⟩ := inst_more h6 hb4
    have HB := Lib.hid hb
    clear hb4 hb h6
    go_wp2_with fail
    exact bodyPost_ret (v := .tuple #[tkV T0, .int .i64 12]) (by rw [tk0]; simp [results, Tryz.results20, go_sem, c0, c1, c2, c3, hz]) rfl ⟨rfl, below_set4 HB.out (Nat.le_refl _) _ _ _ _⟩
  | yes h h2 h3 h4 =>
    go_enter Tryz.func20, Tryz.ntmps20
    go_wp2_with fail
    refine (C1.out _).mono ?_
    rintro e w1 ⟨rfl, hb1⟩
    have h1 := one_end hb1
    clear hb1
    go_wp2_with fail
    refine (C2.out _).mono ?_
    rintro e w2 ⟨rfl, hb2⟩
    have h5 := inst_more h1 hb2
    clear h1 hb2
    go_wp2_with fail
    refine (C3.out _).mono ?_
    rintro e w9 ⟨rfl, rfl⟩
    go_wp2_with fail
    refine (C4.out _).mono ?_
    rintro e w3 ⟨rfl, hb3⟩
    have h6 := inst_more h5 hb3
    clear hb3 h5
    go_wp2_with fail
    refine (h4.out _).mono ?_
    rintro e w4 ⟨rfl, hb4⟩
    obtain ⟨hz, hb, ⟨c0, c1, c2, c3, f0, f1, f2, f3⟩⟩ := inst_more h6 hb4
    have HB := Lib.hid hb
    clear hb4 hb h6
    go_wp2_with fail
    exact bodyPost_ret (v := .tuple #[tkV ⟨5, byts s, false, false⟩, .int .i64 0]) (by unfold tkV; rw [str_byts]; simp [results, Tryz.results20, go_sem, c0, c1, c2, c3, hz]) rfl ⟨rfl, below_set4 HB.out (Nat.le_refl _) _ _ _ _⟩
theorem in2_any (s : ByteArray) (a : Nat) (w : World) (hs : s.size ≤ 1000) : Calls Tryz.prog 20 #[.int .i64 2, .string s, .int .i64 (a : Int)] w (RdrPost (instR (decide (a = 0)) (byts s)) w) := by
  have hn0 : Nz.sn s 0 = stL (byts s) := by
    unfold Nz.sn stL
    rw [nats_byts, List.drop_zero]
  have hle := stL_le (byts s)
  rw [byts_len] at hle
  have ht : byts (Nz.sx s 0) = (byts s).take (stL (byts s)) := by
    unfold Nz.sx Nz.fr
    rw [byts_extract, byts_extract, List.drop_zero, List.drop_zero, hn0, show (byts s).take s.size = byts s from List.take_of_length_le (by rw [byts_len]; omega)]
  rw [← inst_same _ _ (fun x hx => (bts_byts s x hx).1)]
  have C1 : CuC s (Nz.sx s 0) (stL (byts s)) := fun W => by
    have := Nz.rcut_any s 0 hs (Nat.zero_le _) W
    rw [hn0] at this
    simpa using this
  generalize Nz.sx s 0 = t at *
  have hts : t.size ≤ 1000 := by
    rw [← byts_len, ht, List.length_take, byts_len]
    omega
  have C2 : RpC t (plB ((byts s).take (stL (byts s)))) := fun W => by
    have := Nz.rplain_any t hts W
    unfold plB
    rw [← ht, nats_byts]
    exact this
  have C4 : SmC t (strOfNums (smallF (byts t))) := fun W => rsmall_any t W hts
  have hv : ((strOfNums (smallF (byts t))).toList == [120, 109, 108]) = decide (smallF (byts t) = wXml) := by
    have := eqB (strOfNums (smallF (byts t))) [120, 109, 108] wXml rfl
    rw [this, (small_bts (bts_byts t)).str]
  have htx : (t.toList == [120, 109, 108]) = decide (byts t = wXml) := eqB t [120, 109, 108] wXml rfl
  have C5 : RdeC s (stL (byts s)) (declF ((byts s).drop (stL (byts s)))) := fun W => by
    have e : byts (s.extract (stL (byts s)) s.size) = (byts s).drop (stL (byts s)) := by
      rw [byts_extract, List.take_of_length_le (by rw [byts_len]; omega)]
    have := rdecl_any (s.extract (stL (byts s)) s.size) W (by rw [ByteArray.size_extract]; omega)
    rw [e] at this
    exact this
  have hbn := fun h : stL (byts s) < s.size => at_byt s (stL (byts s)) h
  unfold instD
  cases hp : plB ((byts s).take (stL (byts s))) with
  | false =>
    rw [hp] at C2
    rw [if_pos (.inl rfl)]
    exact in2_a s t _ _ w hs (Lib.hid C1) (Lib.hid C2)
  | true =>
    rw [hp] at C2
    have key : Rest s t (strOfNums (smallF (byts t))) (stL (byts s)) (a : Int) (if smallF ((byts s).take (stL (byts s))) = wXml ∧ (decide (a = 0) = false ∨ (byts s).take (stL (byts s)) ≠ wXml ∨ declF ((byts s).drop (stL (byts s))) = false) then (T0, 12) else (⟨5, byts s, false, false⟩, 0)) := by
      rw [← ht]
      by_cases g1 : smallF (byts t) = wXml
      · have h1 := hv
        rw [decide_eq_true g1] at h1
        by_cases g2 : a = 0
        · have h2 : (((a : Int)) != 0) = false := by rw [g2]; rfl
          by_cases g3 : byts t = wXml
          · have h3 := htx
            rw [decide_eq_true g3] at h3
            cases g4 : declF ((byts s).drop (stL (byts s))) with
            | false =>
              rw [g4] at C5
              rw [if_pos ⟨g1, .inr (.inr rfl)⟩]
              exact .no h1 h2 h3 (Lib.hid C5)
            | true =>
              rw [g4] at C5
              rw [if_neg (by rintro ⟨_, h | h | h⟩; exact absurd h (by simp [g2]); exact h g3; exact absurd h (by simp))]
              exact .yes h1 h2 h3 (Lib.hid C5)
          · have h3 := htx
            rw [decide_eq_false g3] at h3
            rw [if_pos ⟨g1, .inr (.inl g3)⟩]
            exact .other h1 h2 h3
        · rw [if_pos ⟨g1, .inl (decide_eq_false g2)⟩]
          exact .far h1 (by rw [bne_iff_ne]; omega)
      · have h1 := hv
        rw [decide_eq_false g1] at h1
        rw [if_neg (fun h => g1 h.1)]
        exact .plain h1
    by_cases hlt : stL (byts s) < s.size
    · have hb := hbn hlt
      cases hq : blk? ((byts s).getD (stL (byts s)) 0) with
      | false =>
        rw [if_pos (.inr ⟨by rw [byts_len]; exact hlt, rfl⟩)]
        have C3 : BlC s _ hlt false := fun W => by rw [hb]; exact rbl_f hq W
        exact in2_b s t _ _ w hs hlt (Lib.hid C1) (Lib.hid C2) (Lib.hid C3)
      | true =>
        rw [if_neg (by rintro (h | ⟨_, h⟩) <;> simp at h)]
        have C3 : BlC s _ hlt true := fun W => by rw [hb]; exact rbl_t hq W
        exact in2_d s t _ _ _ _ w hs hlt (Lib.hid C1) (Lib.hid C2) (Lib.hid C3) (Lib.hid C4) key
    · rw [if_neg (by rintro (h | ⟨h, _⟩); simp at h; exact hlt (by rw [← byts_len]; exact h))]
      exact in2_c s t _ _ _ _ w hs (by omega) (Lib.hid C1) (Lib.hid C2) (Lib.hid C4) key
end Go.Proofs.YtmbghdpoeahnaaaGreatDoor

/- The walk of the document's wrong. -/
set_option linter.unusedSimpArgs false
set_option linter.unusedVariables false
namespace Go.Proofs.YtmbghdpoeahnaaaGreatDoor
open Go.RowKit

/-- What is wrong with a token's bytes, by the document. -/
def WrPost (x : Int) (w : World) (e : Ending) (w' : World) : Prop := e = .returned (.int .i64 x) ∧ Below w.heap.size w w'
theorem wr_of {x y : Int} {w w' : World} {e : Ending} (h : x = y) (hp : WrPost y w e w') : WrPost x w e w' := by rw [h]; exact hp
theorem chr_take {l : List Int} {k : Nat} (h : ∀ x ∈ l.take k, Chr x) (hk : k < l.length) (hc : Chr (l.getD k 0)) : ∀ x ∈ l.take (k + 1), Chr x := by
  intro x hx
  rw [List.take_succ_eq_append_getElem hk] at hx
  rcases List.mem_append.1 hx with hx | hx
  · exact h x hx
  · simp only [List.mem_singleton] at hx
    rw [hx]
    simpa [List.getElem?_eq_getElem hk] using hc
theorem mem_getD {l : List Int} {k : Nat} (hk : k < l.length) : l.getD k 0 ∈ l := by
  simp [List.getElem?_eq_getElem hk]

set_option maxHeartbeats 4000000 in
set_option maxRecDepth 100000 in
theorem wrong_of (s : ByteArray) (l : List Int) (at_ res : Int) (w : World) (hg : Good l) (hn : l.length ≤ 100000) (H0 : Hid ((∀ r ∈ l, Chr r) → res = 0)) (H3 : Hid (∀ r ∈ l, ¬ Chr r → res = 3))
    (C : Hid (Calls Tryz.prog 22 #[.string s] w (AllPost s w (l, at_, 0)))) :
    Calls Tryz.prog 16 #[.string s] w (WrPost res w) := by
  go_enter Tryz.func16, Tryz.ntmps16
  go_wp2_with fail
  refine C.out.mono ?_
  rintro e w1 ⟨v, rfl, hown, hb⟩
  obtain ⟨A, c, hv, hrd⟩ := own_rd (k := .i32) hown
  simp only at hv hrd
  subst hv
  clear hown C
  obtain ⟨n, hnl⟩ : ∃ n, n = l.length := ⟨_, rfl⟩
  rw [← hnl]
  have HN := Lib.hid hnl
  have hn2 : n ≤ 100000 := by omega
  clear hnl
  go_wp2_with fail
  go_loop [6] (fun vi => ∃ k : Nat, vi = .int .i64 k ∧ k ≤ n ∧ Hid (∀ x ∈ l.take k, Chr x)) (fun vi => n - (intOf vi).toNat)
  case atStart => exact ⟨0, rfl, by omega, Lib.hid fun x hx => by simp at hx⟩
  case round =>
    obtain ⟨k, rfl, hk, hR⟩ := hrel
    by_cases hlt : k < n
    · have hkl : k < l.length := by rw [← HN.out]; exact hlt
      obtain ⟨b, off, rfl, hbl, hc⟩ := hrd.at_ (j := k) hkl
      have hgd := hg _ (mem_getD hkl)
      have hm := mem_getD hkl
      have hct := Lib.hid (chr_take hR.out hkl)
      have x0 : 0 ≤ l.getD k 0 := by unfold Bad at hgd; omega
      have x1 : l.getD k 0 ≤ 1114111 := by unfold Bad at hgd; omega
      have hi2 : (k : Int) < (n : Int) := by omega
      have CC := rchr_any (l.getD k 0)
      have HM := Lib.hid hm
      clear hm hgd hkl
      by_cases hch : Chr (l.getD k 0)
      · have HR := Lib.hid (hct.out hch)
        rw [decide_eq_true hch] at CC
        have CCH := Lib.hid CC
        clear hch hct hR CC HM
        generalize l.getD k 0 = x at *
        go_wp2_with (go_at_call 23; refine (CCH.out _).mono ?_; rintro e w' ⟨rfl, rfl⟩)
        refine ⟨⟨k + 1, by rw [Int.natCast_add]; rfl, by omega, HR⟩, by simp only [intOf]; omega⟩
      · rw [decide_eq_false hch] at CC
        have CCH := Lib.hid CC
        have HX := Lib.hid (H3.out _ HM.out hch)
        clear hch hct hR CC HM
        generalize l.getD k 0 = x at *
        go_wp2_with (go_at_call 23; refine (CCH.out _).mono ?_; rintro e w' ⟨rfl, rfl⟩)
        go_ret
        exact wr_of HX.out ⟨rfl, hb⟩
    · have hkk : k = n := by omega
      subst hkk
      have HX := Lib.hid (H0.out (by
        have := hR.out
        rw [HN.out, List.take_length] at this
        exact this))
      clear hR
      go_wp2
      go_ret
      exact wr_of HX.out ⟨rfl, hb⟩
set_option maxHeartbeats 4000000 in
set_option maxRecDepth 100000 in
theorem wrong_utf (s : ByteArray) (l : List Int) (at_ er : Int) (w : World) (he : er ≠ 0)
    (C : Hid (Calls Tryz.prog 22 #[.string s] w (AllPost s w (l, at_, er)))) : Calls Tryz.prog 16 #[.string s] w (WrPost 2 w) := by
  have t1 : (er != 0) = true := by rw [bne_iff_ne]; exact he
  clear he
  go_enter Tryz.func16, Tryz.ntmps16
  go_wp2_with fail
  refine C.out.mono ?_
  rintro e w1 ⟨v, rfl, hown, hb1⟩
  clear hown
  go_wp2_with fail
  go_ret
  exact ⟨rfl, hb1⟩
theorem rwrong_any (s : ByteArray) (w : World) (hs : s.size ≤ 1000) : Calls Tryz.prog 16 #[.string s] w (WrPost (wrongF (byts s)) w) := by
  have C := ref_all_any s w hs
  rw [allF_dec] at C
  have B := decF_back (byts s).length (byts s) (Nat.le_refl _) (byts_nn s)
  have hlen : (decF (byts s)).1.length ≤ 100000 := by
    obtain ⟨_, hp, h3, _, _⟩ := B
    rw [byts_len] at h3
    have : ∀ (m : List Int), m.length ≤ (m.flatMap putI).length := by
      intro m
      induction m with
      | nil => simp
      | cons x m ih =>
        have := (putI_len x).1
        rw [List.flatMap_cons, List.length_append, List.length_cons]
        omega
    have := this (decF (byts s)).1
    rw [hp, List.length_take] at this
    omega
  by_cases h0 : (decF (byts s)).2.2 = 0
  · rw [h0] at C
    refine wrong_of s _ _ _ w B.1 hlen (Lib.hid fun h => ?_) (Lib.hid fun r hr h => ?_) (Lib.hid C)
    · unfold wrongF; rw [if_neg (by rw [h0]; simp), if_pos h]
    · unfold wrongF; rw [if_neg (by rw [h0]; simp), if_neg (fun g => h (g r hr))]
  · have e : wrongF (byts s) = 2 := by unfold wrongF; rw [if_pos h0]
    rw [e]
    exact wrong_utf s _ _ _ w h0 (Lib.hid C)
end Go.Proofs.YtmbghdpoeahnaaaGreatDoor
