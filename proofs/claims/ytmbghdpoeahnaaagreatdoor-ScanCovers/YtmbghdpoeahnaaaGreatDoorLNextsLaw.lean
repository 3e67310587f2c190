/-
  The walk of ScanNexts.
-/
import Derived.Test.YtmbghdpoeahnaaaGreatDoorLAwake
set_option linter.unusedSimpArgs false
set_option linter.unusedVariables false
namespace Go.Proofs.YtmbghdpoeahnaaaGreatDoor
open Go.RowKit

def NxC (f : Nat) (args : Array Value) (c : List Value) (m er : Int) : Prop := ∀ W, Gl W → Calls Tryz.prog f args W fun e w' => e = .returned (.tuple #[.agg c.toArray, .int .i64 m, .int .i64 er]) ∧ Below W.heap.size W w'
theorem nxc_of {f : Nat} {args : Array Value} {x : Tk × Nat × Int} {a : Nat} (h : ∀ W, Gl W → Calls Tryz.prog f args W (NxPost x a W)) : NxC f args [.int .i64 x.1.kind, .string (strOfNums x.1.text), .bool x.1.empty, .bool x.1.blank] ((a : Int) + (x.2.1 : Int)) x.2.2 := h
theorem put_tok {w wr w1 : World} (hG : Gl wr) (hb : Below w.heap.size w wr) (h1 : Below wr.heap.size wr w1) (o : Obj) : Below w.heap.size w (w1.alloc o) ∧ Gl (w1.alloc o) := by
  have h2 := h1.trans (((Below.refl w1.heap.size w1).alloc (Nat.le_refl _) o).mono h1.size)
  exact ⟨hb.trans (h2.mono hb.size), hG.after h2⟩
theorem tok_keep {w1 w2 : World} {b : Nat} {c0 c1 c2 c3 : Value} (h : w1.cell? ⟨b, 0, none⟩ = some c0 ∧ w1.cell? ⟨b, 1, none⟩ = some c1 ∧ w1.cell? ⟨b, 2, none⟩ = some c2 ∧ w1.cell? ⟨b, 3, none⟩ = some c3) (hb : Below w1.heap.size w1 w2) :
    w2.cell? ⟨b, 0, none⟩ = some c0 ∧ w2.cell? ⟨b, 1, none⟩ = some c1 ∧ w2.cell? ⟨b, 2, none⟩ = some c2 ∧ w2.cell? ⟨b, 3, none⟩ = some c3 := by
  have hl := Lib.lt_of_cell h.1
  exact ⟨(hb.cell (p := ⟨b, 0, none⟩) hl).trans h.1, (hb.cell (p := ⟨b, 1, none⟩) hl).trans h.2.1, (hb.cell (p := ⟨b, 2, none⟩) hl).trans h.2.2.1, (hb.cell (p := ⟨b, 3, none⟩) hl).trans h.2.2.2⟩
theorem tok_new (w : World) (c0 c1 c2 c3 : Value) : (w.alloc (.cells #[c0, c1, c2, c3] 33)).cell? ⟨w.heap.size, 0, none⟩ = some c0 ∧ (w.alloc (.cells #[c0, c1, c2, c3] 33)).cell? ⟨w.heap.size, 1, none⟩ = some c1 ∧ (w.alloc (.cells #[c0, c1, c2, c3] 33)).cell? ⟨w.heap.size, 2, none⟩ = some c2 ∧ (w.alloc (.cells #[c0, c1, c2, c3] 33)).cell? ⟨w.heap.size, 3, none⟩ = some c3 :=
  ⟨Blk0 w 33 _ 0, Blk0 w 33 _ 1, Blk0 w 33 _ 2, Blk0 w 33 _ 3⟩
theorem after_put {wr w1 : World} (h1 : Below wr.heap.size wr w1) (o : Obj) : Below wr.heap.size wr (w1.alloc o) := h1.trans (((Below.refl w1.heap.size w1).alloc (Nat.le_refl _) o).mono h1.size)
set_option maxHeartbeats 8000000 in
set_option maxRecDepth 100000 in
theorem nexts_of (s : ByteArray) (c : Int) (a : Nat) (kd kd2 : Int) (tx tx2 : ByteArray) (em em2 bk bk2 : Bool) (m m2 er er2 : Int) (w : World) (hs : s.size ≤ 400) (hc0 : 0 ≤ c) (hc1 : c ≤ 65535) (hk : c.tmod ((s.size : Int) + 1) = (a : Int)) (hG : Gl w)
    (C1 : Hid (NxC 11 #[.string s, .int .i64 (a : Int)] [.int .i64 kd, .string tx, .bool em, .bool bk] m er)) (C2 : Hid (NxC 12 #[.string s, .int .i64 (a : Int), .bool false] [.int .i64 kd, .string tx, .bool em, .bool bk] m er))
    (C3 : Hid (NxC 13 #[.string s, .int .i64 (a : Int)] [.int .i64 kd2, .string tx2, .bool em2, .bool bk2] m2 er2)) (C4 : Hid (NxC 12 #[.string s, .int .i64 (a : Int), .bool true] [.int .i64 kd2, .string tx2, .bool em2, .bool bk2] m2 er2)) :
    Calls Tryz.prog 4 #[.string s, .int .u16 c] w fun e w' => e = .returned (.bool true) ∧ Below w.heap.size w w' := by
  have HG := Lib.hid hG
  have i8 : decide ((400 : Int) < (s.size : Int)) = false := by rw [decide_eq_false_iff_not]; omega
  have j8 : decide (400 < s.size) = false := by rw [decide_eq_false_iff_not]; omega
  have q1 : IntKind.i64.wrap ((s.size : Int) + 1) = (s.size : Int) + 1 := IntWalk.i64_in _ (by omega)
  have q2 : IntKind.i64.wrap c = c := IntWalk.i64_in _ (by omega)
  have q3 : ((s.size : Int) + 1 == 0) = false := by rw [beq_eq_false_iff_ne]; omega
  clear hG
  go_enter Tryz.func4, Tryz.ntmps4
  go_wp2_with fail
  refine (awake_any w HG.out).mono ?_
  rintro e w1 ⟨rfl, b1⟩
  have HB1 := Lib.hid b1
  have HG1 := Lib.hid (HG.out.after b1)
  clear b1
  go_wp2_with fail
  refine (C1.out _ HG1.out).mono ?_
  rintro e w2 ⟨rfl, b2⟩
  have g2 := after_put b2 (.cells #[.int .i64 kd, .string tx, .bool em, .bool bk] 33)
  have HB2 := Lib.hid (HB1.out.trans (g2.mono HB1.out.size))
  have HG2 := Lib.hid (HG1.out.after g2)
  have T2_2 := Lib.hid (tok_new w2 (.int .i64 kd) (.string tx) (.bool em) (.bool bk))
  clear b2 g2
  go_wp2_with fail
  refine (C2.out _ HG2.out).mono ?_
  rintro e w3 ⟨rfl, b3⟩
  have g3 := after_put b3 (.cells #[.int .i64 kd, .string tx, .bool em, .bool bk] 33)
  have HB3 := Lib.hid (HB2.out.trans (g3.mono HB2.out.size))
  have HG3 := Lib.hid (HG2.out.after g3)
  have T2_3 := Lib.hid (tok_keep T2_2.out g3)
  have T3_3 := Lib.hid (tok_new w3 (.int .i64 kd) (.string tx) (.bool em) (.bool bk))
  clear b3 g3
  go_wp2_with fail
  refine (C3.out _ HG3.out).mono ?_
  rintro e w4 ⟨rfl, b4⟩
  have g4 := after_put b4 (.cells #[.int .i64 kd2, .string tx2, .bool em2, .bool bk2] 33)
  have HB4 := Lib.hid (HB3.out.trans (g4.mono HB3.out.size))
  have HG4 := Lib.hid (HG3.out.after g4)
  have T2_4 := Lib.hid (tok_keep T2_3.out g4)
  have T3_4 := Lib.hid (tok_keep T3_3.out g4)
  have T4_4 := Lib.hid (tok_new w4 (.int .i64 kd2) (.string tx2) (.bool em2) (.bool bk2))
  clear b4 g4
  go_wp2_with fail
  refine (C4.out _ HG4.out).mono ?_
  rintro e w5 ⟨rfl, b5⟩
  have g5 := after_put b5 (.cells #[.int .i64 kd2, .string tx2, .bool em2, .bool bk2] 33)
  have HB5 := Lib.hid (HB4.out.trans (g5.mono HB4.out.size))
  have HG5 := Lib.hid (HG4.out.after g5)
  have T2_5 := Lib.hid (tok_keep T2_4.out g5)
  have T3_5 := Lib.hid (tok_keep T3_4.out g5)
  have T4_5 := Lib.hid (tok_keep T4_4.out g5)
  have T5_5 := Lib.hid (tok_new w5 (.int .i64 kd2) (.string tx2) (.bool em2) (.bool bk2))
  clear b5 g5
  obtain ⟨x20, x21, x22, x23⟩ := T2_5.out
  obtain ⟨x30, x31, x32, x33⟩ := T3_5.out
  obtain ⟨x40, x41, x42, x43⟩ := T4_5.out
  obtain ⟨x50, x51, x52, x53⟩ := T5_5.out
  clear C1 C2 C3 C4
  go_wp2
  go_ret
  exact ⟨rfl, HB5.out⟩
theorem nexts_law (s : ByteArray) (c : Int) (w : World) (hs : s.size ≤ 400) (hc0 : 0 ≤ c) (hc1 : c ≤ 65535) (hG : Gl w) : Calls Tryz.prog 4 #[.string s, .int .u16 c] w fun e w' => e = .returned (.bool true) ∧ Below w.heap.size w w' := by
  obtain ⟨a, ha⟩ : ∃ a : Nat, c.tmod ((s.size : Int) + 1) = (a : Int) := ⟨(c.tmod ((s.size : Int) + 1)).toNat, by have := Int.tmod_nonneg ((s.size : Int) + 1) hc0; omega⟩
  have hle : a ≤ s.size := by have := Int.tmod_lt_of_pos c (show (0 : Int) < (s.size : Int) + 1 by omega); omega
  exact nexts_of s c a _ _ _ _ _ _ _ _ _ _ _ _ w hs hc0 hc1 ha hG (Lib.hid (nxc_of fun W hW => Next_any s a W hW (by omega) hle)) (Lib.hid (nxc_of fun W hW => rnext_any s a false W (by omega) hle))
    (Lib.hid (nxc_of fun W hW => More_any s a W hW (by omega) hle)) (Lib.hid (nxc_of fun W hW => rnext_any s a true W (by omega) hle))
set_option maxHeartbeats 4000000 in
set_option maxRecDepth 100000 in
theorem nexts_long (s : ByteArray) (c : Int) (w : World) (h : 400 < s.size) (hm : s.size ≤ maxLen) (hG : Gl w) : Calls Tryz.prog 4 #[.string s, .int .u16 c] w fun e w' => e = .returned (.bool true) ∧ Below w.heap.size w w' := by
  unfold maxLen at hm
  have HG := Lib.hid hG
  have i8 : decide ((400 : Int) < (s.size : Int)) = true := by rw [decide_eq_true_eq]; omega
  have j8 : decide (400 < s.size) = true := by rw [decide_eq_true_eq]; omega
  clear hG h
  go_enter Tryz.func4, Tryz.ntmps4
  go_wp2_with fail
  refine (awake_any w HG.out).mono ?_
  rintro e w1 ⟨rfl, b1⟩
  have HG1 := Lib.hid (HG.out.after b1)
  go_wp2_with fail
  refine (awake_any w1 HG1.out).mono ?_
  rintro e w2 ⟨rfl, c2⟩
  go_wp2
  go_ret
  exact ⟨rfl, b1.trans (c2.mono b1.size)⟩
end Go.Proofs.YtmbghdpoeahnaaaGreatDoor
