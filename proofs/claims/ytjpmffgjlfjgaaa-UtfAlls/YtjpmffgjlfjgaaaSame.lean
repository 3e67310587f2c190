/-
  The walk of the document's Same.
-/
import Derived.Test.YtjpmffgjlfjgaaaLeaf
import Derived.Test.YtjpmffgjlfjgaaaMem
import Derived.Deep.QuietTactic
import Derived.BigQuiet
set_option linter.unusedSimpArgs false
set_option linter.unusedVariables false
namespace Go.Proofs.Ytjpmffgjlfjgaaa
open Go.RowKit

def sameB (l m : List Int) : Bool := decide (l = m)
theorem same_yes {l m : List Int} (h : l = m) : sameB l m = true := by simp [sameB, h]
theorem same_no {l m : List Int} (h : l ≠ m) : sameB l m = false := by simp [sameB, h]
def SameRel (w : World) (l m : List Int) (i : Value) (wr : World) : Prop :=
  ∃ k : Nat, k ≤ l.length ∧ i = .int .i64 k ∧ l.take k = m.take k ∧ Below w.heap.size w wr
theorem below_drewN {B : Nat} {w w' : World} (h : Below B w w') (n : Nat) : Below B w (w'.drewN n) := ⟨h.os, h.tape, h.output, h.size, h.block⟩
theorem take_same (l m : List Int) (k : Nat) (h1 : k < l.length) (h2 : k < m.length) (h : l.take k = m.take k) (e : l.getD k 0 = m.getD k 0) : l.take (k + 1) = m.take (k + 1) := by
  rw [List.take_succ_eq_append_getElem h1, List.take_succ_eq_append_getElem h2, h]
  simp [List.getElem?_eq_getElem h1, List.getElem?_eq_getElem h2] at e
  rw [e]

set_option maxHeartbeats 1000000 in
set_option maxRecDepth 100000 in
theorem same_any (A A' : Option Addr) (c c' : Nat) (l m : List Int) (w : World) (h : Rd .i32 w w.heap.size A l) (h' : Rd .i32 w w.heap.size A' m) (hl : l.length ≤ 100000) (hm : m.length ≤ 100000) :
    Calls Try.prog 13 #[.slice A l.length c, .slice A' m.length c'] w fun e w' => e = .returned (.bool (sameB l m)) ∧ Below w.heap.size w w' := by
  by_cases hlen : l.length = m.length
  · rw [← hlen]
    obtain ⟨n, hn⟩ : ∃ n, n = l.length := ⟨_, rfl⟩
    rw [← hn]
    have hn1 : n ≤ l.length := by omega
    have hn2 : l.length ≤ n := by omega
    have hn3 : n ≤ m.length := by omega
    have HL := Lib.hid hlen
    clear hn hlen
    go_enter Try.func13, Try.ntmps13
    go_wp2_with fail
    go_loopw [5] (fun i wr => SameRel w l m i wr) (fun i _ => l.length - (intOf i).toNat)
    case atStart => exact ⟨0, Nat.zero_le _, rfl, rfl, Below.refl _ _⟩
    case round =>
      obtain ⟨k, hk, rfl, htk, hbel⟩ := hrel
      have HT := Lib.hid htk
      clear htk
      by_cases hlt : k < n
      · obtain ⟨b, off, rfl, hb, hc⟩ := (h.below hbel).at_ (j := k) (by omega)
        obtain ⟨b2, off2, rfl, hb2, hc2⟩ := (h'.below hbel).at_ (j := k) (by omega)
        have HS := Lib.hid (take_same l m k (by omega) (by omega) HT.out)
        have hle : (k : Int) < (n : Int) := by omega
        by_cases he : l.getD k 0 = m.getD k 0
        · have he' : (l.getD k 0 != m.getD k 0) = false := by simpa using he
          have HE := Lib.hid he
          clear he
          generalize l.getD k 0 = x at *
          generalize m.getD k 0 = y at *
          go_wp2_with fail
          go_quiet (fail)
          go_wp2
          go_roundw
          case rel => exact ⟨k + 1, by omega, by go_num, HS.out HE.out, below_drewN hbel _⟩
          case measure => simp [intOf]; omega
        · have he' : (l.getD k 0 != m.getD k 0) = true := by simpa using he
          have HE : Hid (l ≠ m) := fun e => he (by rw [e])
          clear he HS
          generalize l.getD k 0 = x at *
          generalize m.getD k 0 = y at *
          go_wp2_with fail
          go_quiet (fail)
          go_wp2
          go_ret
          exact ⟨ret_bool (same_no HE.out).symm, below_drewN hbel _⟩
      · have e : l = m := by
          have := HT.out
          rwa [List.take_of_length_le (by omega), List.take_of_length_le (by have := HL.out; omega)] at this
        have HE := Lib.hid e
        clear e
        go_wp2
        go_ret
        exact ⟨ret_bool (same_yes HE.out).symm, hbel⟩
  · have t : ((l.length : Int) != (m.length : Int)) = true := by simpa using fun e => hlen (by omega)
    have HE : Hid (l ≠ m) := fun e => hlen (by rw [e])
    clear hlen
    go_enter Try.func13, Try.ntmps13
    go_wp2
    go_ret
    exact ⟨ret_bool (same_no HE.out).symm, Below.refl _ _⟩
end Go.Proofs.Ytjpmffgjlfjgaaa
