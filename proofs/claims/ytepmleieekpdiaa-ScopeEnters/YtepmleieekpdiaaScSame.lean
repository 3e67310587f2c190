/-
  The walks of the document's Same and SameEvent (layer 7), at two that are the same.
-/
import Derived.Test.YtepmleieekpdiaaScFew
set_option linter.unusedSimpArgs false
set_option linter.unusedVariables false
namespace Go.Proofs.Ytepmleieekpdiaa
open Go.RowKit

def S2Rel (n : Nat) (w : World) (i : Value) (wr : World) : Prop := ∃ k : Nat, i = .int .i64 k ∧ k ≤ n ∧ Hid (Below w.heap.size w wr)
set_option maxHeartbeats 4000000 in
set_option maxRecDepth 100000 in
theorem same_any (l : List P2) (n : Nat) (A1 A2 : Option Addr) (k1 k2 : Nat) (w : World) (hn : n = l.length) (hl : n ≤ 10000) (h1 : RdR w A1 l) (h2 : RdR w A2 l) :
    Calls Try.prog 14 #[.slice A1 n k1, .slice A2 n k2] w fun e w' => e = .returned (.bool true) ∧ Below w.heap.size w w' := by
  have H1 := Lib.hid h1
  have H2 := Lib.hid h2
  have HN := Lib.hid hn
  clear h1 h2 hn
  go_enter Try.func14, Try.ntmps14
  go_wp2_with fail
  go_loopw [5] (fun i wr => S2Rel n w i wr) (fun i _ => n - (intOf i).toNat)
  case atStart => exact ⟨0, rfl, Nat.zero_le _, Lib.hid (Below.refl _ _)⟩
  case round =>
    obtain ⟨k, rfl, hk, hB⟩ := hrel
    by_cases hlt : k < n
    · have hkl : k < l.length := by rw [← HN.out]; exact hlt
      obtain ⟨b1, o1, rfl, hb1, x0, x1⟩ := (H1.out.keep hB.out) k _ (List.getElem?_eq_getElem hkl)
      obtain ⟨b2, o2, rfl, hb2, y0, y1⟩ := (H2.out.keep hB.out) k _ (List.getElem?_eq_getElem hkl)
      have d1 : (k : Int) < (n : Int) := by omega
      have d0 : (0 : Int) ≤ (k : Int) := by omega
      generalize l[k] = t at *
      obtain ⟨tn, tv⟩ := t
      dsimp only at x0 x1 y0 y1
      go_wp2_with fail
      go_quiet (fail)
      go_wp2
      go_roundw
      case rel => exact ⟨k + 1, by go_num, by omega, Lib.hid (below_drewN hB.out _)⟩
      case measure => simp only [intOf]; omega
    · have d1 : ¬ (k : Int) < (n : Int) := by omega
      go_wp2_with fail
      go_ret
      exact ⟨rfl, hB.out⟩
def SeRel (n : Nat) (c1 c2 : Value) (w : World) (i : Value) (wr : World) : Prop := ∃ k : Nat, i = .int .i64 k ∧ k ≤ n ∧ Hid (Below w.heap.size w wr) ∧ wr.cell? ⟨w.heap.size, 3, none⟩ = some c1 ∧ wr.cell? ⟨w.heap.size + 1, 3, none⟩ = some c2
set_option maxHeartbeats 4000000 in
set_option maxRecDepth 100000 in
theorem sev_any (kd : Int) (na nb tx : ByteArray) (f : List P3) (n : Nat) (A1 A2 : Option Addr) (k1 k2 : Nat) (w : World) (hn : n = f.length) (hl : n ≤ 10000) (h1 : RdT w A1 f) (h2 : RdT w A2 f) :
    Calls Try.prog 15 #[.agg #[.int .i64 kd, .string na, .string nb, .slice A1 n k1, .string tx], .agg #[.int .i64 kd, .string na, .string nb, .slice A2 n k2, .string tx]] w fun e w' => e = .returned (.bool true) ∧ Below w.heap.size w w' := by
  have H1 := Lib.hid h1
  have H2 := Lib.hid h2
  have HN := Lib.hid hn
  have B1 := (Below.refl w.heap.size w).alloc (Nat.le_refl _) (.cells #[.int .i64 kd, .string na, .string nb, .slice A1 n k1, .string tx] 32)
  have HB := Lib.hid (B1.alloc B1.size (.cells #[.int .i64 kd, .string na, .string nb, .slice A2 n k2, .string tx] 32))
  have q1 : (na.toList == na.toList) = true := beq_self_eq_true _
  have q2 : (nb.toList == nb.toList) = true := beq_self_eq_true _
  have q3 : (tx.toList == tx.toList) = true := beq_self_eq_true _
  have q4 : (tx.toList != tx.toList) = false := bne_self_eq_false _
  clear h1 h2 hn B1
  go_enter Try.func15, Try.ntmps15
  go_wp2_with fail
  go_loopw [5] (fun i wr => SeRel n (.slice A1 n k1) (.slice A2 n k2) w i wr) (fun i _ => n - (intOf i).toNat)
  case atStart => exact ⟨0, rfl, Nat.zero_le _, HB, by simp, by simp⟩
  case round =>
    clear HB
    obtain ⟨k, rfl, hk, hB, g1, g2⟩ := hrel
    by_cases hlt : k < n
    · have hkl : k < f.length := by rw [← HN.out]; exact hlt
      obtain ⟨b1, o1, rfl, hb1, x0, x1, x2⟩ := (H1.out.keep hB.out) k _ (List.getElem?_eq_getElem hkl)
      obtain ⟨b2, o2, rfl, hb2, y0, y1, y2⟩ := (H2.out.keep hB.out) k _ (List.getElem?_eq_getElem hkl)
      have d1 : (k : Int) < (n : Int) := by omega
      have d0 : (0 : Int) ≤ (k : Int) := by omega
      generalize f[k] = t at *
      obtain ⟨⟨ta, tb⟩, tv⟩ := t
      dsimp only at x0 x1 x2 y0 y1 y2
      go_wp2_with fail
      go_quiet (fail)
      go_wp2
      go_roundw
      case rel => exact ⟨k + 1, by go_num, by omega, Lib.hid (below_drewN hB.out _), g1, g2⟩
      case measure => simp only [intOf]; omega
    · have d1 : ¬ (k : Int) < (n : Int) := by omega
      go_wp2_with fail
      go_ret
      exact ⟨rfl, hB.out⟩
end Go.Proofs.Ytepmleieekpdiaa
