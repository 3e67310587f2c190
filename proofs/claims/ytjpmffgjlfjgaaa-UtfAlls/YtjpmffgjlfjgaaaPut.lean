/-
  The walk of utf.Put.
-/
import Derived.Test.YtjpmffgjlfjgaaaAdd
import Derived.Test.YtjpmffgjlfjgaaaMem
set_option linter.unusedSimpArgs false
set_option linter.unusedVariables false
namespace Go.Proofs.Ytjpmffgjlfjgaaa
open Go.RowKit

/-- The runes' bytes, one behind the other. -/
def putL (l : List Int) : List Int := l.flatMap putI
theorem putL_len (l : List Int) : (putL l).length ≤ 4 * l.length := by
  induction l with
  | nil => simp [putL]
  | cons r l ih =>
    have := putI_len r
    simp only [putL, List.flatMap_cons, List.length_append, List.length_cons] at ih ⊢
    omega
theorem take_succ_getD (l : List Int) (k : Nat) (h : k < l.length) : l.take (k + 1) = l.take k ++ [l.getD k 0] := by
  rw [List.take_succ_eq_append_getElem h]
  simp [List.getElem?_eq_getElem h]
theorem putL_step (l : List Int) (k : Nat) (h : k < l.length) : putL (l.take (k + 1)) = putL (l.take k) ++ putI (l.getD k 0) := by
  rw [take_succ_getD l k h]
  simp [putL]

def PutRel (w : World) (l : List Int) (v i : Value) (wr : World) : Prop :=
  ∃ k : Nat, k ≤ l.length ∧ i = .int .i64 k ∧ OwnB wr w.heap.size v (putL (l.take k)) ∧ Below w.heap.size w wr
def PutPost (w : World) (l : List Int) (e : Ending) (w' : World) : Prop := e = .returned (.string (strOfNums (putL l))) ∧ Below w.heap.size w w'

set_option maxHeartbeats 1000000 in
set_option maxRecDepth 100000 in
theorem put_any (A : Option Addr) (c : Nat) (l : List Int) (w : World) (h : Rd .i32 w w.heap.size A l) (hl : l.length ≤ 1000) :
    Calls Try.prog 17 #[.slice A l.length c] w (PutPost w l) := by
  obtain ⟨i0, hi, hz0, hz1, hz2⟩ := info_parts Try.info5
  obtain ⟨n, hn⟩ : ∃ n, n = l.length := ⟨_, rfl⟩
  rw [← hn]
  have HN := Lib.hid hn
  have hn1 : n ≤ l.length := by omega
  have hn2 : l.length ≤ n := by omega
  clear hn
  go_enter Try.func17, Try.ntmps17
  go_wp2_with (refine wpList_make_own _ rfl _ _ 37 rfl w.heap.size 5 i0 (.int .u8 0) 1 Try.underlying37 hi hz0 hz1 _ _ _ n rfl rfl rfl (by rw [hz2]; omega) (by unfold maxLen; omega) (Nat.le_refl _) ?_)
  intro w1 hown hgrow
  go_wp2_with fail
  go_loopw [3, 11] (fun v i wr => PutRel w l v i wr) (fun _ i _ => l.length - (intOf i).toNat)
  case atStart => exact ⟨0, Nat.zero_le _, rfl, hown, (Below.refl _ _).grown hgrow (Nat.le_refl _) (by intro k hk; cases hk)⟩
  case round =>
    obtain ⟨k, hk, rfl, hown, hbel⟩ := hrel
    clear hgrow
    by_cases hlt : k < n
    · obtain ⟨b, off, rfl, hb, hc⟩ := (h.below hbel).at_ (j := k) (by omega)
      have HS := Lib.hid (putL_step l k (by omega))
      have hpl := putL_len (l.take k)
      have hpt : (l.take k).length ≤ 1000 := by simp; omega
      generalize l.getD k 0 = r at hc HS
      have hsz := hbel.size
      go_wp2_with (go_at_call 23; refine (add_any _ _ _ _ _ hsz hown (by omega)).mono ?_; rintro e w2 ⟨v, rfl, hown2, hbel2⟩)
      go_roundw
      case rel => exact ⟨k + 1, by omega, by go_num, by rw [HS.out]; exact hown2, hbel.trans hbel2⟩
      case measure => simp [intOf]; omega
    · have hkn : k = l.length := by omega
      subst hkn
      rw [List.take_length] at hown
      obtain ⟨A2, c2, rfl, hrd⟩ := own_rd hown
      have hcv := conv_rd (c := c2) hrd
      go_wp2
      go_ret
      exact ⟨rfl, hbel⟩
end Go.Proofs.Ytjpmffgjlfjgaaa
