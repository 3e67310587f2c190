/-
  Merged by program out of the texts Inst3, Ends, Tok of one seat.
-/
import Derived.Test.YtkeilgompipfjaaGreatDoorG16
import Derived.Test.YtkeilgompipfjaaGreatDoorG05
import Derived.Deep.QuietTactic
import Derived.BigQuiet
import Derived.Deep.RegionHeld3
import Derived.RegionTactic
import Derived.BigRegion

/- The walk of scan.instruction. -/
set_option linter.unusedSimpArgs false
set_option linter.unusedVariables false
namespace Go.Proofs.YtkeilgompipfjaaGreatDoor
open Go.RowKit

def IdxC (s : ByteArray) (x : Int) : Prop := ∀ W, Calls Tryz.prog 96 #[.string s, .func (.func 55) #[] #[]] W fun e w' => e = .returned (.int .i64 x) ∧ Below W.heap.size W w'
def PlC (t : ByteArray) (b : Bool) : Prop := ∀ W, Calls Tryz.prog 43 #[.string t] W fun e w' => e = .returned (.bool b) ∧ Below W.heap.size W w'
def FoC (t : ByteArray) (b : Bool) : Prop := ∀ W, Gl W → Calls Tryz.prog 97 #[.string t, .string ⟨#[120, 109, 108]⟩] W fun e w' => e = .returned (.bool b) ∧ Below W.heap.size W w'
def DeC (s : ByteArray) (b : Bool) : Prop := ∀ W, Gl W → Calls Tryz.prog 98 #[.string s] W (BPost b W)
def Tgt (s t : ByteArray) (x : Int) : Prop := (x = -1 ∧ t = s) ∨ ∃ k : Nat, x = k ∧ k < s.size ∧ t = s.extract 0 k

theorem inst_end {w w1 w2 : World} (hb1 : Below (w.alloc (.cells #[.int .i64 0, .string ⟨#[]⟩, .bool false, .bool false] 41)).heap.size (w.alloc (.cells #[.int .i64 0, .string ⟨#[]⟩, .bool false, .bool false] 41)) w1) (hb2 : Below w1.heap.size w1 w2) :
    w.heap.size < w1.heap.size ∧ w.heap.size < w2.heap.size ∧ Below w.heap.size w w2 ∧ Res4 w2 w.heap.size := by
  have hz1 : w.heap.size < w1.heap.size := by have := hb1.size; simp at this; omega
  have hb := ((Below.refl w.heap.size w).alloc (Nat.le_refl _) (.cells #[.int .i64 0, .string ⟨#[]⟩, .bool false, .bool false] 41)).trans (hb1.mono (by simp))
  exact ⟨hz1, Nat.lt_of_lt_of_le hz1 hb2.size, hb.trans (hb2.mono hb.size), ((res_new w).keep hb1 (by simp)).keep hb2 hz1⟩
theorem inst_more {w w2 w3 : World} (h : w.heap.size < w2.heap.size ∧ Below w.heap.size w w2 ∧ Res4 w2 w.heap.size) (hb3 : Below w2.heap.size w2 w3) : w.heap.size < w3.heap.size ∧ Below w.heap.size w w3 ∧ Res4 w3 w.heap.size :=
  ⟨Nat.lt_of_lt_of_le h.1 hb3.size, h.2.1.trans (hb3.mono h.2.1.size), h.2.2.keep hb3 h.1⟩

set_option maxHeartbeats 2000000 in
set_option maxRecDepth 100000 in
theorem inst_no (s t : ByteArray) (x at_ : Int) (w : World) (hs : s.size ≤ 10000) (ht : Tgt s t x) (C1 : Hid (IdxC s x)) (C2 : Hid (PlC t false)) : Calls Tryz.prog 70 #[.string s, .int .i64 at_] w (RdrPost (T0, 4) w) := by
  rcases ht with ⟨rfl, rfl⟩ | ⟨k, rfl, hk, rfl⟩
  all_goals
    go_enter Tryz.func70, Tryz.ntmps70
    go_wp2_with fail
    refine (C1.out _).mono ?_
    rintro e w1 ⟨rfl, hb1⟩
    go_wp2_with fail
    refine (C2.out _).mono ?_
    rintro e w2 ⟨rfl, hb2⟩
    obtain ⟨hz1, hz2, hb, ⟨c0, c1, c2, c3, f0, f1, f2, f3⟩⟩ := inst_end hb1 hb2
    have HB := Lib.hid hb
    clear hb1 hb2 hb
    go_wp2_with fail
    exact bodyPost_ret (v := .tuple #[tkV T0, .int .i64 4]) (by rw [tk0]; simp [results, Tryz.results70, go_sem, c0, c1, c2, c3, hz2]) rfl ⟨rfl, below_set4 HB.out (Nat.le_refl _) _ _ _ _⟩
set_option maxHeartbeats 2000000 in
set_option maxRecDepth 100000 in
theorem inst_plain (s t : ByteArray) (x at_ : Int) (w : World) (hG : Gl w) (hs : s.size ≤ 10000) (ht : Tgt s t x) (C1 : Hid (IdxC s x)) (C2 : Hid (PlC t true)) (C3 : Hid (FoC t false)) : Calls Tryz.prog 70 #[.string s, .int .i64 at_] w (RdrPost (⟨5, byts s, false, false⟩, 0) w) := by
  have HG := Lib.hid (hG.alloc (.cells #[.int .i64 0, .string ⟨#[]⟩, .bool false, .bool false] 41))
  clear hG
  rcases ht with ⟨rfl, rfl⟩ | ⟨k, rfl, hk, rfl⟩
  all_goals
    go_enter Tryz.func70, Tryz.ntmps70
    go_wp2_with fail
    refine (C1.out _).mono ?_
    rintro e w1 ⟨rfl, hb1⟩
    go_wp2_with fail
    refine (C2.out _).mono ?_
    rintro e w2 ⟨rfl, hb2⟩
    have HG2 := Lib.hid ((HG.out.after hb1).after hb2)
    have h3 := (inst_end hb1 hb2).2
    go_wp2_with fail
    refine (C3.out _ HG2.out).mono ?_
    rintro e w3 ⟨rfl, hb3⟩
    obtain ⟨hz2, hb, ⟨c0, c1, c2, c3, f0, f1, f2, f3⟩⟩ := inst_more h3 hb3
    have HB := Lib.hid hb
    clear hb1 hb2 hb3 hb h3
    go_wp2_with fail
    exact bodyPost_ret (v := .tuple #[tkV ⟨5, byts _, false, false⟩, .int .i64 0]) (by unfold tkV; rw [str_byts]; simp [results, Tryz.results70, go_sem, c0, c1, c2, c3, hz2]) rfl ⟨rfl, below_set4 HB.out (Nat.le_refl _) _ _ _ _⟩
set_option maxHeartbeats 2000000 in
set_option maxRecDepth 100000 in
theorem inst_far (s t : ByteArray) (x at_ : Int) (w : World) (hG : Gl w) (hs : s.size ≤ 10000) (hat : at_ ≠ 0) (ht : Tgt s t x) (C1 : Hid (IdxC s x)) (C2 : Hid (PlC t true)) (C3 : Hid (FoC t true)) : Calls Tryz.prog 70 #[.string s, .int .i64 at_] w (RdrPost (T0, 12) w) := by
  have HG := Lib.hid (hG.alloc (.cells #[.int .i64 0, .string ⟨#[]⟩, .bool false, .bool false] 41))
  have t1 : (at_ != 0) = true := by rw [bne_iff_ne]; exact hat
  clear hG hat
  rcases ht with ⟨rfl, rfl⟩ | ⟨k, rfl, hk, rfl⟩
  all_goals
    go_enter Tryz.func70, Tryz.ntmps70
    go_wp2_with fail
    refine (C1.out _).mono ?_
    rintro e w1 ⟨rfl, hb1⟩
    go_wp2_with fail
    refine (C2.out _).mono ?_
    rintro e w2 ⟨rfl, hb2⟩
    have HG2 := Lib.hid ((HG.out.after hb1).after hb2)
    have h3 := (inst_end hb1 hb2).2
    go_wp2_with fail
    refine (C3.out _ HG2.out).mono ?_
    rintro e w3 ⟨rfl, hb3⟩
    obtain ⟨hz2, hb, ⟨c0, c1, c2, c3, f0, f1, f2, f3⟩⟩ := inst_more h3 hb3
    have HB := Lib.hid hb
    clear hb1 hb2 hb3 hb h3
    go_wp2_with fail
    exact bodyPost_ret (v := .tuple #[tkV T0, .int .i64 12]) (by rw [tk0]; simp [results, Tryz.results70, go_sem, c0, c1, c2, c3, hz2]) rfl ⟨rfl, below_set4 HB.out (Nat.le_refl _) _ _ _ _⟩
set_option maxHeartbeats 4000000 in
set_option maxRecDepth 100000 in
theorem inst_near (s t : ByteArray) (x : Int) (b : Bool) (w : World) (hG : Gl w) (hs : s.size ≤ 10000) (ht : Tgt s t x) (C1 : Hid (IdxC s x)) (C2 : Hid (PlC t true)) (C3 : Hid (FoC t true)) (C4 : Hid (DeC s b)) :
    Calls Tryz.prog 70 #[.string s, .int .i64 0] w (RdrPost (if b = true then (⟨5, byts s, false, false⟩, 0) else (T0, 12)) w) := by
  have HG := Lib.hid (hG.alloc (.cells #[.int .i64 0, .string ⟨#[]⟩, .bool false, .bool false] 41))
  clear hG
  cases b
  · simp only [Bool.false_eq_true, if_false]
    rcases ht with ⟨rfl, rfl⟩ | ⟨k, rfl, hk, rfl⟩
    all_goals
      go_enter Tryz.func70, Tryz.ntmps70
      go_wp2_with fail
      refine (C1.out _).mono ?_
      rintro e w1 ⟨rfl, hb1⟩
      go_wp2_with fail
      refine (C2.out _).mono ?_
      rintro e w2 ⟨rfl, hb2⟩
      have HG2 := Lib.hid ((HG.out.after hb1).after hb2)
      have h3 := (inst_end hb1 hb2).2
      go_wp2_with fail
      refine (C3.out _ HG2.out).mono ?_
      rintro e w3 ⟨rfl, hb3⟩
      have h4 := inst_more h3 hb3
      have HG3 := Lib.hid (HG2.out.after hb3)
      go_wp2_with fail
      refine (C4.out _ HG3.out).mono ?_
      rintro e w4 ⟨rfl, hb4⟩
      obtain ⟨hz2, hb, ⟨c0, c1, c2, c3, f0, f1, f2, f3⟩⟩ := inst_more h4 hb4
      have HB := Lib.hid hb
      clear hb1 hb2 hb3 hb4 hb h3 h4
      go_wp2_with fail
      exact bodyPost_ret (v := .tuple #[tkV T0, .int .i64 12]) (by rw [tk0]; simp [results, Tryz.results70, go_sem, c0, c1, c2, c3, hz2]) rfl ⟨rfl, below_set4 HB.out (Nat.le_refl _) _ _ _ _⟩
  · simp only [if_true]
    rcases ht with ⟨rfl, rfl⟩ | ⟨k, rfl, hk, rfl⟩
    all_goals
      go_enter Tryz.func70, Tryz.ntmps70
      go_wp2_with fail
      refine (C1.out _).mono ?_
      rintro e w1 ⟨rfl, hb1⟩
      go_wp2_with fail
      refine (C2.out _).mono ?_
      rintro e w2 ⟨rfl, hb2⟩
      have HG2 := Lib.hid ((HG.out.after hb1).after hb2)
      have h3 := (inst_end hb1 hb2).2
      go_wp2_with fail
      refine (C3.out _ HG2.out).mono ?_
      rintro e w3 ⟨rfl, hb3⟩
      have h4 := inst_more h3 hb3
      have HG3 := Lib.hid (HG2.out.after hb3)
      go_wp2_with fail
      refine (C4.out _ HG3.out).mono ?_
      rintro e w4 ⟨rfl, hb4⟩
      obtain ⟨hz2, hb, ⟨c0, c1, c2, c3, f0, f1, f2, f3⟩⟩ := inst_more h4 hb4
      have HB := Lib.hid hb
      clear hb1 hb2 hb3 hb4 hb h3 h4
      go_wp2_with fail
      exact bodyPost_ret (v := .tuple #[tkV ⟨5, byts _, false, false⟩, .int .i64 0]) (by unfold tkV; rw [str_byts]; simp [results, Tryz.results70, go_sem, c0, c1, c2, c3, hz2]) rfl ⟨rfl, below_set4 HB.out (Nat.le_refl _) _ _ _ _⟩
theorem nats_byts (s : ByteArray) : nats (byts s) = Nz.bl s := by
  unfold nats byts Nz.bl
  rw [List.map_map]
  exact List.map_congr_left fun x _ => by simp
theorem xml_fold (t : ByteArray) (ht : t.size ≤ 10000) : FoC t (decide (smallF (byts t) = wXml)) := fun W hW => by
  have C := fold_any t ⟨#[120, 109, 108]⟩ W (by omega) (by decide) (fun j hj => by
    have hj' : j < 3 := hj
    rcases (show j = 0 ∨ j = 1 ∨ j = 2 by omega) with rfl | rfl | rfl
    all_goals (unfold FO; decide)) hW
  have e : smallF (byts ⟨#[120, 109, 108]⟩) = wXml := by decide
  rw [e] at C
  exact C
theorem inst_any (s : ByteArray) (at_ : Int) (w : World) (hs : s.size ≤ 10000) (hG : Gl w) : Calls Tryz.prog 70 #[.string s, .int .i64 at_] w (RdrPost (instR (decide (at_ = 0)) (byts s)) w) := by
  obtain ⟨t, x, ht, hb, C1⟩ : ∃ t x, Tgt s t x ∧ byts t = tgt (byts s) ∧ IdxC s x := by
    rcases idx_blank s with ⟨h1, h2⟩ | ⟨k, h1, h2, h3⟩
    · exact ⟨s, -1, .inl ⟨rfl, rfl⟩, h2.symm, fun W => by have := idxf_any s W; rw [h1] at this; exact this⟩
    · refine ⟨s.extract 0 k, k, .inr ⟨k, rfl, h2, rfl⟩, ?_, fun W => by have := idxf_any s W; rw [h1] at this; exact this⟩
      rw [byts_extract, h3, List.drop_zero]
  have hts : t.size ≤ 10000 := by
    rw [← byts_len, hb]
    unfold tgt
    have := (List.takeWhile_prefix (fun c => !blk? c) (l := byts s)).length_le
    rw [byts_len] at this
    omega
  have C2 : PlC t (plB (tgt (byts s))) := fun W => by
    have := Nz.plain_any t W
    unfold plB
    rw [← hb, nats_byts]
    exact this
  have C3 := xml_fold t hts
  rw [hb] at C3
  have C4 : DeC s (declW (byts s)) := fun W hW => decl_any s W hs hW
  unfold instR
  cases hp : plB (tgt (byts s)) with
  | false =>
    rw [hp] at C2
    exact inst_no s t x at_ w hs ht (Lib.hid C1) (Lib.hid C2)
  | true =>
    rw [hp] at C2
    rw [if_neg (by simp)]
    by_cases hf : smallF (tgt (byts s)) = wXml
    · rw [decide_eq_true hf] at C3
      by_cases ha : at_ = 0
      · subst ha
        have h := inst_near s t x _ w hG hs ht (Lib.hid C1) (Lib.hid C2) (Lib.hid C3) (Lib.hid C4)
        cases hd : declW (byts s) with
        | true =>
          rw [hd] at h
          rw [if_neg (by simp)]
          exact h
        | false =>
          rw [hd] at h
          rw [if_pos ⟨hf, .inr rfl⟩]
          exact h
      · rw [if_pos ⟨hf, .inl (decide_eq_false ha)⟩]
        exact inst_far s t x at_ w hG hs ha ht (Lib.hid C1) (Lib.hid C2) (Lib.hid C3)
    · rw [decide_eq_false hf] at C3
      rw [if_neg (fun h => hf h.1)]
      exact inst_plain s t x at_ w hG hs ht (Lib.hid C1) (Lib.hid C2) (Lib.hid C3)
end Go.Proofs.YtkeilgompipfjaaGreatDoor

/- The walks of what tells the end of a kind of markup: upTo's function value, unquoted. -/
set_option linter.unusedSimpArgs false
set_option linter.unusedVariables false
namespace Go.Proofs.YtkeilgompipfjaaGreatDoor
open Go.RowKit

theorem below_drewN' {B : Nat} {w w' : World} (h : Below B w w') (n : Nat) : Below B w (w'.drewN n) := ⟨h.os, h.tape, h.output, h.size, h.block⟩
theorem fndI_bd (m l : List Int) : -1 ≤ fndI m l ∧ fndI m l ≤ l.length := by
  cases h : fnd m l with
  | none => rw [fndI_none h]; omega
  | some n => rw [fndI_some h]; have := (fnd_some h).1; omega
/-- What an end's function answers: x: how many bytes stand ahead of it; n: how many it has. -/
def EndPost (a b : Int) (ok : Bool) (w : World) (e : Ending) (w' : World) : Prop := e = .returned (.tuple #[.int .i64 a, .int .i64 b, .bool ok]) ∧ Below w.heap.size w w'
set_option maxHeartbeats 1000000 in
set_option maxRecDepth 100000 in
theorem upto_of (r m : ByteArray) (b : Nat) (x : Int) (ok : Bool) (w : World) (hm : m.size ≤ 100) (hx : -1 ≤ x) (hx2 : x ≤ 1000000) (hok : decide (0 ≤ x) = ok) (hc : w.cell? ⟨b, 0, none⟩ = some (.string m))
    (C : Hid (Calls Tryz.prog 50 #[.string r, .string m] w fun e w' => e = .returned (.int .i64 x) ∧ w = w')) :
    Calls Tryz.prog 92 #[.string r, .pointer (some ⟨b, 0, none⟩)] w (EndPost x (x + m.size) ok w) := by
  have q2 : IntKind.i64.wrap (x + (m.size : Int)) = x + (m.size : Int) := IntWalk.i64_in _ (by omega)
  go_enter Tryz.func92, Tryz.ntmps92
  go_wp2_with fail
  refine C.out.mono ?_
  rintro e w1 ⟨rfl, rfl⟩
  go_wp2_with fail
  go_quiet (fail)
  go_wp2_with fail
  go_ret3
  exact ⟨by cases hok; rfl, below_drewN' (Below.refl _ _) _⟩
theorem upto_any (r m : ByteArray) (b : Nat) (w : World) (hr : r.size ≤ 10000) (hm : m.size ≤ 100) (hc : w.cell? ⟨b, 0, none⟩ = some (.string m)) (hG : Gl w) :
    Calls Tryz.prog 92 #[.string r, .pointer (some ⟨b, 0, none⟩)] w (EndPost (fndI (byts m) (byts r)) (fndI (byts m) (byts r) + m.size) (decide (0 ≤ fndI (byts m) (byts r))) w) := by
  have h := fndI_bd (byts m) (byts r)
  rw [byts_len] at h
  exact upto_of r m b _ _ w hm h.1 (by omega) rfl hc (Lib.hid (index_any r m w (by omega) hG))

def UnRel (s : ByteArray) (qv i : Value) : Prop :=
  ∃ (k : Nat) (q : Int), k ≤ s.size ∧ 0 ≤ q ∧ q < 256 ∧ qv = .int .u8 q ∧ i = .int .i64 k ∧ unq 0 (byts s) = (unq q ((byts s).drop k)).map (· + k)
theorem map_map1 (o : Option Nat) (k : Nat) : (o.map (· + 1)).map (· + k) = o.map (· + (k + 1)) := by
  cases o with
  | none => rfl
  | some n => simp only [Option.map_some]; congr 1; omega
theorem unq_step (L : List Int) (q : Int) (k : Nat) (h : k < L.length) :
    unq q (L.drop k) = if q ≠ 0 then (unq (if L.getD k 0 = q then 0 else q) (L.drop (k + 1))).map (· + 1) else if L.getD k 0 = 34 ∨ L.getD k 0 = 39 then (unq (L.getD k 0) (L.drop (k + 1))).map (· + 1) else if L.getD k 0 = 62 then some 0 else (unq 0 (L.drop (k + 1))).map (· + 1) := by
  rw [List.drop_eq_getElem_cons h, List.getD_eq_getElem?_getD, List.getElem?_eq_getElem h, Option.getD_some]
  rfl
def UnPost (o : Option Nat) (w : World) (e : Ending) (w' : World) : Prop := e = .returned (.tuple #[.int .i64 (match o with | some n => (n : Int) | none => 0), .int .i64 (match o with | some n => ((n + 1 : Nat) : Int) | none => 0), .bool o.isSome]) ∧ w = w'
theorem un_some {o : Option Nat} {n : Nat} {w w' : World} {e : Ending} (h : o = some n) (he : e = .returned (.tuple #[.int .i64 (n : Int), .int .i64 ((n : Int) + 1), .bool true])) (hw : w = w') : UnPost o w e w' := by
  subst h; exact ⟨by rw [he]; rfl, hw⟩
theorem un_none {o : Option Nat} {w w' : World} {e : Ending} (h : o = none) (he : e = .returned (.tuple #[.int .i64 0, .int .i64 0, .bool false])) (hw : w = w') : UnPost o w e w' := by
  subst h; exact ⟨he, hw⟩
set_option maxHeartbeats 2000000 in
set_option maxRecDepth 100000 in
theorem unquoted_any (s : ByteArray) (w : World) (hs : s.size ≤ 1000000) : Calls Tryz.prog 72 #[.string s] w (UnPost (unq 0 (byts s)) w) := by
  go_enter Tryz.func72, Tryz.ntmps72
  go_wp2_with fail
  go_loop [5, 10] (fun q i => UnRel s q i) (fun _ i => s.size - (intOf i).toNat)
  case atStart => exact ⟨0, 0, Nat.zero_le _, by omega, by omega, rfl, rfl, by simp⟩
  case round =>
    obtain ⟨k, q, hk, hq0, hq1, rfl, rfl, hu⟩ := hrel
    by_cases hlt : k < s.size
    · have hb := bt_eq s k hlt
      have hb0 := bt_lo s k
      have hb1 := bt_hi s k
      have hstep := unq_step (byts s) q k (by rw [byts_len]; exact hlt)
      rw [← bt_byts] at hstep
      rw [hstep] at hu
      clear hstep
      have hk1 : (k : Int) < (s.size : Int) := by omega
      generalize bt s k = c at *
      by_cases hqz : q = 0
      · subst hqz
        rw [if_neg (by omega)] at hu
        by_cases h1 : c = 34 ∨ c = 39
        · rw [if_pos h1, map_map1] at hu
          have HU := Lib.hid hu
          clear hu
          rcases h1 with h1 | h1
          all_goals
            have t1 : (c == 34) = decide (c = 34) := by rw [Bool.eq_iff_iff]; simp
            subst h1
            go_wp2_with fail
            go_round
            case rel => exact ⟨k + 1, _, by omega, by omega, by omega, rfl, by go_num, HU.out⟩
            case measure => simp only [intOf]; omega
        · rw [if_neg h1] at hu
          have t1 : (c == 34) = false := by rw [beq_eq_false_iff_ne]; omega
          have t2 : (c == 39) = false := by rw [beq_eq_false_iff_ne]; omega
          by_cases h2 : c = 62
          · rw [if_pos h2] at hu
            have HU := Lib.hid hu
            clear hu
            subst h2
            go_wp2_with fail
            go_ret3
            exact un_some (n := k) (by rw [HU.out]; simp) rfl rfl
          · rw [if_neg h2, map_map1] at hu
            have HU := Lib.hid hu
            clear hu
            have t3 : (c == 62) = false := by rw [beq_eq_false_iff_ne]; omega
            go_wp2_with fail
            go_round
            case rel => exact ⟨k + 1, 0, by omega, by omega, by omega, rfl, by go_num, HU.out⟩
            case measure => simp only [intOf]; omega
      · rw [if_pos hqz, map_map1] at hu
        have t0 : (q == 0) = false := by rw [beq_eq_false_iff_ne]; exact hqz
        have t0' : (q != 0) = true := by rw [bne_iff_ne]; exact hqz
        by_cases h1 : c = q
        · rw [if_pos h1] at hu
          have HU := Lib.hid hu
          clear hu
          have t1 : (c == q) = true := by rw [beq_iff_eq]; exact h1
          go_wp2_with fail
          go_round
          case rel => exact ⟨k + 1, 0, by omega, by omega, by omega, rfl, by go_num, HU.out⟩
          case measure => simp only [intOf]; omega
        · rw [if_neg h1] at hu
          have HU := Lib.hid hu
          clear hu
          have t1 : (c == q) = false := by rw [beq_eq_false_iff_ne]; exact h1
          go_wp2_with fail
          go_round
          case rel => exact ⟨k + 1, q, by omega, by omega, by omega, rfl, by go_num, HU.out⟩
          case measure => simp only [intOf]; omega
    · have hkk : k = s.size := by omega
      rw [hkk, List.drop_of_length_le (by rw [byts_len]; omega)] at hu
      have HU := Lib.hid hu
      clear hu
      have hk1 : ¬ (k : Int) < (s.size : Int) := by omega
      go_wp2_with fail
      go_ret3
      exact un_none (by rw [HU.out]; simp [unq]) rfl rfl
end Go.Proofs.YtkeilgompipfjaaGreatDoor

/- The walks of markup's token: it is cut off; its bytes are wrong; it is read. -/
set_option linter.unusedSimpArgs false
set_option linter.unusedVariables false
namespace Go.Proofs.YtkeilgompipfjaaGreatDoor
open Go.RowKit

/-- What a token's reading answers: the error; without one the token, and how many bytes it has. -/
def TokPost (x : Tk × Nat × Int) (w : World) (e : Ending) (w' : World) : Prop :=
  ∃ (t : Tk) (n : Int), e = .returned (.tuple #[tkV t, .int .i64 n, .int .i64 x.2.2]) ∧ (x.2.2 = 0 → t = x.1 ∧ n = x.2.1) ∧ Below w.heap.size w w'
theorem kin_new (w : World) (a b c : Value) : Res4 ((w.alloc (.cells #[a, b, c] 99)).alloc (.cells #[.int .i64 0, .string ⟨#[]⟩, .bool false, .bool false] 41)) (w.heap.size + 1) := by
  have := res_new (w.alloc (.cells #[a, b, c] 99))
  rw [show (w.alloc (.cells #[a, b, c] 99)).heap.size = w.heap.size + 1 by simp] at this
  exact this
theorem kin_below (w : World) (a b c : Value) : Below w.heap.size w ((w.alloc (.cells #[a, b, c] 99)).alloc (.cells #[.int .i64 0, .string ⟨#[]⟩, .bool false, .bool false] 41)) :=
  ((Below.refl w.heap.size w).alloc (Nat.le_refl _) _).alloc (by simp) _
theorem kin_cells (w : World) (a b c : Value) : ((w.alloc (.cells #[a, b, c] 99)).alloc (.cells #[.int .i64 0, .string ⟨#[]⟩, .bool false, .bool false] 41)).cell? ⟨w.heap.size, 0, none⟩ = some a ∧
    ((w.alloc (.cells #[a, b, c] 99)).alloc (.cells #[.int .i64 0, .string ⟨#[]⟩, .bool false, .bool false] 41)).cell? ⟨w.heap.size, 1, none⟩ = some b ∧ ((w.alloc (.cells #[a, b, c] 99)).alloc (.cells #[.int .i64 0, .string ⟨#[]⟩, .bool false, .bool false] 41)).cell? ⟨w.heap.size, 2, none⟩ = some c := by
  refine ⟨?_, ?_, ?_⟩
  all_goals simp [go_sem]
theorem Res4.drew {w : World} {B : Nat} (h : Res4 w B) : Res4 w.drew B := ⟨h.c0, h.c1, h.c2, h.c3, h.f0, h.f1, h.f2, h.f3⟩
theorem keepA {w3 : World} {b o : Nat} {v : Value} (h : w3.cell? ⟨b, o, none⟩ = some v) (x : Obj) : (w3.alloc x).cell? ⟨b, o, none⟩ = some v :=
  (((Below.refl w3.heap.size w3).alloc (Nat.le_refl _) x).cell (p := ⟨b, o, none⟩) (Lib.lt_of_cell h)).trans h
theorem keepB {w3 : World} {b o B : Nat} {v : Value} (h : w3.cell? ⟨b, o, none⟩ = some v) (hB : b < B) (x0 x1 x2 x3 : Value) :
    ((((w3.setCell ⟨B, 0, none⟩ x0).setCell ⟨B, 1, none⟩ x1).setCell ⟨B, 2, none⟩ x2).setCell ⟨B, 3, none⟩ x3).cell? ⟨b, o, none⟩ = some v :=
  ((below_set4 (Below.refl B w3) (Nat.le_refl _) x0 x1 x2 x3).cell (p := ⟨b, o, none⟩) hB).trans h
def EndC (w : World) (f : Nat) (args : Array Value) (a b : Int) (ok : Bool) : Prop := ∀ W, Below w.heap.size w W → Gl W → Calls Tryz.prog f args W (EndPost a b ok W)
def SoC (s : ByteArray) (er : Int) : Prop := ∀ W, Calls Tryz.prog 51 #[.string s] W fun e w' => e = .returned (.int .i64 er) ∧ Below W.heap.size W w'
def RdC (w : World) (f : Nat) (args : Array Value) (kd : Int) (tx : ByteArray) (em bk : Bool) (er : Int) : Prop :=
  ∀ W, Below w.heap.size w W → Gl W → Calls Tryz.prog f args W fun e w' => e = .returned (.tuple #[.agg #[.int .i64 kd, .string tx, .bool em, .bool bk], .int .i64 er]) ∧ Below W.heap.size W w'
set_option maxHeartbeats 2000000 in
set_option maxRecDepth 100000 in
theorem tok_cut_u (bg r : ByteArray) (b : Nat) (rd : Value) (at_ a c : Int) (w : World) (hG : Gl w) (C1 : Hid (EndC w 92 #[.string r, .pointer (some ⟨b, 0, none⟩)] a c false)) :
    Calls Tryz.prog 48 #[.agg #[.string bg, .func (.func 92) #[] #[.pointer (some ⟨b, 0, none⟩)], rd], .string r, .int .i64 at_] w (TokPost (T0, 0, 7) w) := by
  have HB := Lib.hid (kin_below w (.string bg) (.func (.func 92) #[] #[.pointer (some ⟨b, 0, none⟩)]) rd)
  have HG := Lib.hid (hG.after HB.out)
  have HN := Lib.hid (kin_new w (.string bg) (.func (.func 92) #[] #[.pointer (some ⟨b, 0, none⟩)]) rd)
  clear hG
  go_enter Tryz.func48, Tryz.ntmps48
  go_wp2_with fail
  refine (C1.out _ HB.out HG.out).mono ?_
  rintro e w1 ⟨rfl, hb1⟩
  have hz : w.heap.size + 1 < w1.heap.size := by have := hb1.size; simp at this; omega
  have HB1 := Lib.hid (HB.out.trans (hb1.mono (by simp; omega)))
  obtain ⟨c0, c1, c2, c3, f0, f1, f2, f3⟩ := HN.out.keep hb1 (by simp)
  clear hb1
  go_wp2_with fail
  exact bodyPost_ret (v := .tuple #[tkV T0, .int .i64 0, .int .i64 7]) (by rw [tk0]; simp [results, Tryz.results48, go_sem, c0, c1, c2, c3, hz]) rfl ⟨T0, 0, rfl, fun _ => ⟨rfl, rfl⟩, below_set4 HB1.out (by omega) _ _ _ _⟩
set_option maxHeartbeats 2000000 in
set_option maxRecDepth 100000 in
theorem tok_bad_u (bg r : ByteArray) (b : Nat) (rd : Value) (at_ a er : Int) (m : Nat) (w : World) (hr : r.size ≤ 10000) (hm : m ≤ r.size) (her : er ≠ 0) (hG : Gl w) (C1 : Hid (EndC w 92 #[.string r, .pointer (some ⟨b, 0, none⟩)] a m true)) (C2 : Hid (SoC (r.extract 0 m) er)) :
    Calls Tryz.prog 48 #[.agg #[.string bg, .func (.func 92) #[] #[.pointer (some ⟨b, 0, none⟩)], rd], .string r, .int .i64 at_] w (TokPost (T0, 0, er) w) := by
  have HB := Lib.hid (kin_below w (.string bg) (.func (.func 92) #[] #[.pointer (some ⟨b, 0, none⟩)]) rd)
  have HG := Lib.hid (hG.after HB.out)
  have HN := Lib.hid (kin_new w (.string bg) (.func (.func 92) #[] #[.pointer (some ⟨b, 0, none⟩)]) rd)
  have t1 : (er != 0) = true := by rw [bne_iff_ne]; exact her
  clear hG her
  go_enter Tryz.func48, Tryz.ntmps48
  go_wp2_with fail
  refine (C1.out _ HB.out HG.out).mono ?_
  rintro e w1 ⟨rfl, hb1⟩
  have hz : w.heap.size + 1 < w1.heap.size := by have := hb1.size; simp at this; omega
  have HB1 := Lib.hid (HB.out.trans (hb1.mono (by simp; omega)))
  have HN1 := Lib.hid (HN.out.keep hb1 (by simp))
  clear hb1
  go_wp2_with fail
  refine (C2.out _).mono ?_
  rintro e w2 ⟨rfl, hb2⟩
  have hz2 : w.heap.size + 1 < w2.heap.size := Nat.lt_of_lt_of_le hz hb2.size
  have HB2 := Lib.hid (HB1.out.trans (hb2.mono HB1.out.size))
  obtain ⟨c0, c1, c2, c3, f0, f1, f2, f3⟩ := HN1.out.keep hb2 hz
  clear hb2
  go_wp2_with fail
  exact bodyPost_ret (v := .tuple #[tkV T0, .int .i64 0, .int .i64 er]) (by rw [tk0]; simp [results, Tryz.results48, go_sem, c0, c1, c2, c3, hz2]) rfl ⟨T0, 0, rfl, fun _ => ⟨rfl, rfl⟩, below_set4 HB2.out (by omega) _ _ _ _⟩
set_option maxHeartbeats 2000000 in
set_option maxRecDepth 100000 in
theorem tok_cut_q (bg r : ByteArray) (rd : Value) (at_ a c : Int) (w : World) (hG : Gl w) (C1 : Hid (EndC w 72 #[.string r] a c false)) :
    Calls Tryz.prog 48 #[.agg #[.string bg, .func (.func 72) #[] #[], rd], .string r, .int .i64 at_] w (TokPost (T0, 0, 7) w) := by
  have HB := Lib.hid (kin_below w (.string bg) (.func (.func 72) #[] #[]) rd)
  have HG := Lib.hid (hG.after HB.out)
  have HN := Lib.hid (kin_new w (.string bg) (.func (.func 72) #[] #[]) rd)
  clear hG
  go_enter Tryz.func48, Tryz.ntmps48
  go_wp2_with fail
  refine (C1.out _ HB.out HG.out).mono ?_
  rintro e w1 ⟨rfl, hb1⟩
  have hz : w.heap.size + 1 < w1.heap.size := by have := hb1.size; simp at this; omega
  have HB1 := Lib.hid (HB.out.trans (hb1.mono (by simp; omega)))
  obtain ⟨c0, c1, c2, c3, f0, f1, f2, f3⟩ := HN.out.keep hb1 (by simp)
  clear hb1
  go_wp2_with fail
  exact bodyPost_ret (v := .tuple #[tkV T0, .int .i64 0, .int .i64 7]) (by rw [tk0]; simp [results, Tryz.results48, go_sem, c0, c1, c2, c3, hz]) rfl ⟨T0, 0, rfl, fun _ => ⟨rfl, rfl⟩, below_set4 HB1.out (by omega) _ _ _ _⟩
set_option maxHeartbeats 2000000 in
set_option maxRecDepth 100000 in
theorem tok_bad_q (bg r : ByteArray) (rd : Value) (at_ a er : Int) (m : Nat) (w : World) (hr : r.size ≤ 10000) (hm : m ≤ r.size) (her : er ≠ 0) (hG : Gl w) (C1 : Hid (EndC w 72 #[.string r] a m true)) (C2 : Hid (SoC (r.extract 0 m) er)) :
    Calls Tryz.prog 48 #[.agg #[.string bg, .func (.func 72) #[] #[], rd], .string r, .int .i64 at_] w (TokPost (T0, 0, er) w) := by
  have HB := Lib.hid (kin_below w (.string bg) (.func (.func 72) #[] #[]) rd)
  have HG := Lib.hid (hG.after HB.out)
  have HN := Lib.hid (kin_new w (.string bg) (.func (.func 72) #[] #[]) rd)
  have t1 : (er != 0) = true := by rw [bne_iff_ne]; exact her
  clear hG her
  go_enter Tryz.func48, Tryz.ntmps48
  go_wp2_with fail
  refine (C1.out _ HB.out HG.out).mono ?_
  rintro e w1 ⟨rfl, hb1⟩
  have hz : w.heap.size + 1 < w1.heap.size := by have := hb1.size; simp at this; omega
  have HB1 := Lib.hid (HB.out.trans (hb1.mono (by simp; omega)))
  have HN1 := Lib.hid (HN.out.keep hb1 (by simp))
  clear hb1
  go_wp2_with fail
  refine (C2.out _).mono ?_
  rintro e w2 ⟨rfl, hb2⟩
  have hz2 : w.heap.size + 1 < w2.heap.size := Nat.lt_of_lt_of_le hz hb2.size
  have HB2 := Lib.hid (HB1.out.trans (hb2.mono HB1.out.size))
  obtain ⟨c0, c1, c2, c3, f0, f1, f2, f3⟩ := HN1.out.keep hb2 hz
  clear hb2
  go_wp2_with fail
  exact bodyPost_ret (v := .tuple #[tkV T0, .int .i64 0, .int .i64 er]) (by rw [tk0]; simp [results, Tryz.results48, go_sem, c0, c1, c2, c3, hz2]) rfl ⟨T0, 0, rfl, fun _ => ⟨rfl, rfl⟩, below_set4 HB2.out (by omega) _ _ _ _⟩
end Go.Proofs.YtkeilgompipfjaaGreatDoor
