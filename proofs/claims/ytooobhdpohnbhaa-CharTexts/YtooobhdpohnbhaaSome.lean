/-
  The walk of char's some: whether a rune is in one of the classes that a slice of functions holds.
-/
import Derived.Test.YtooobhdpohnbhaaLeaf
import Derived.Lib.Hide
import Derived.Below
set_option linter.unusedSimpArgs false
set_option linter.unusedVariables false
namespace Go.Proofs.Ytooobhdpohnbhaa
open Go.RowKit

def clsP (k : Nat) (r : Int) : Bool := if k = 9 then decide (Chr r) else if k = 11 then decide (Blank r) else if k = 13 then decide (Start r) else decide (Part r)
def Known (k : Nat) : Prop := k = 9 ∨ k = 11 ∨ k = 13 ∨ k = 15
def anyP (ks : List Nat) (r : Int) : Bool := ks.any (clsP · r)
theorem any_take (ks : List Nat) (r : Int) (i : Nat) (h : i < ks.length) : (ks.take (i + 1)).any (clsP · r) = ((ks.take i).any (clsP · r) || clsP (ks.getD i 0) r) := by
  rw [List.take_succ_eq_append_getElem h, List.any_append, List.any_cons, List.any_nil, Bool.or_false, List.getD_eq_getElem?_getD, List.getElem?_eq_getElem h]
  rfl
theorem any_hit (ks : List Nat) (r : Int) (i : Nat) (h : i < ks.length) (hc : clsP (ks.getD i 0) r = true) : anyP ks r = true := by
  refine List.any_eq_true.2 ⟨ks.getD i 0, ?_, hc⟩
  rw [List.getD_eq_getElem?_getD, List.getElem?_eq_getElem h]
  exact List.getElem_mem _

/-- The slice at A holds the classes ks. -/
def RdF (w : World) (A : Option Addr) (ks : List Nat) : Prop :=
  (∀ k ∈ ks, Known k) ∧ (ks = [] ∨ ∃ b off, A = some ⟨b, off, none⟩ ∧ b < w.heap.size ∧ ∀ j, j < ks.length → w.cell? ⟨b, off + j, none⟩ = some (.func (.func (ks.getD j 0)) #[] #[]))
theorem RdF.at_ {w : World} {A : Option Addr} {ks : List Nat} (h : RdF w A ks) {j : Nat} (hj : j < ks.length) :
    Known (ks.getD j 0) ∧ ∃ b off, A = some ⟨b, off, none⟩ ∧ b < w.heap.size ∧ w.cell? ⟨b, off + j, none⟩ = some (.func (.func (ks.getD j 0)) #[] #[]) := by
  refine ⟨h.1 _ (by rw [List.getD_eq_getElem?_getD, List.getElem?_eq_getElem hj]; exact List.getElem_mem _), ?_⟩
  rcases h.2 with h | ⟨b, off, rfl, hlt, hc⟩
  · subst h; simp at hj
  · exact ⟨b, off, rfl, hlt, hc j hj⟩

def SomeRel (ks : List Nat) (r : Int) (i : Value) : Prop := ∃ k : Nat, k ≤ ks.length ∧ i = .int .i64 k ∧ (ks.take k).any (clsP · r) = false

set_option maxHeartbeats 1000000 in
set_option maxRecDepth 100000 in
theorem some_any (r : Int) (A : Option Addr) (c : Nat) (ks : List Nat) (w : World) (h : RdF w A ks) (hl : ks.length ≤ 100) :
    Calls Try.prog 19 #[.int .i32 r, .slice A ks.length c] w fun e w' => e = .returned (.bool (anyP ks r)) ∧ w = w' := by
  obtain ⟨n, hn⟩ : ∃ n, n = ks.length := ⟨_, rfl⟩
  rw [← hn]
  have hn1 : n ≤ ks.length := by omega
  have hn2 : ks.length ≤ n := by omega
  clear hn
  go_enter Try.func19, Try.ntmps19
  go_wp2_with fail
  go_loop [9] (fun i => SomeRel ks r i) (fun i => ks.length - (intOf i).toNat)
  case atStart => exact ⟨0, Nat.zero_le _, rfl, by simp⟩
  case round =>
    obtain ⟨k, hk, rfl, ha⟩ := hrel
    have HA := Lib.hid ha
    clear ha
    by_cases hlt : k < n
    · obtain ⟨hkn, b, off, rfl, hb, hc⟩ := h.at_ (j := k) (by omega)
      have HS := Lib.hid (any_take ks r k (by omega))
      have HT := Lib.hid (any_hit ks r k (by omega))
      generalize ks.getD k 0 = f at hkn hc HS HT
      have hne : ∀ fn, Sem.run Try.prog (binOp BinOp.neq 23 (Value.func fn #[] #[]) Value.nilFunc) w = .ok (.bool true) w := fun fn => by kernel_rfl
      rcases hkn with rfl | rfl | rfl | rfl
      all_goals
        go_wp2_with (first | (go_at_call 9; refine (chr_any _ _).mono ?_; rintro e w' ⟨rfl, rfl⟩) | (go_at_call 11; refine (blank_any _ _).mono ?_; rintro e w' ⟨rfl, rfl⟩) | (go_at_call 13; refine (start_any _ _).mono ?_; rintro e w' ⟨rfl, rfl⟩) | (go_at_call 15; refine (part_any _ _).mono ?_; rintro e w' ⟨rfl, rfl⟩))
        · go_ret
          refine ⟨ret_bool (HT.out ?_).symm, rfl⟩
          simp_all [clsP]
        · go_round
          case rel => 
            refine ⟨k + 1, by omega, by go_num, ?_⟩
            rw [HS.out, HA.out]
            simp_all [clsP]
          case measure => simp [intOf]; omega
    · go_wp2
      go_ret
      have hkn : k = ks.length := by omega
      subst hkn
      have := HA.out
      rw [List.take_length] at this
      exact ⟨ret_bool this.symm, rfl⟩
end Go.Proofs.Ytooobhdpohnbhaa
