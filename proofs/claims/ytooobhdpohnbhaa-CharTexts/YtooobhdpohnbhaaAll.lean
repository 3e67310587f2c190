/-
  The walk of char.All: each rune of a text, as a range over it has them, is in one of the classes.
-/
import Derived.Test.YtooobhdpohnbhaaSome
import Derived.Laws.RangeAny
set_option linter.unusedSimpArgs false
set_option linter.unusedVariables false
namespace Go.Proofs.Ytooobhdpohnbhaa
open Go.RowKit

/-- A text's runes from a place on. -/
def rgo (s : ByteArray) : Nat → Nat → List Int
  | 0, _ => []
  | f + 1, i => if i < s.size then ((Utf8.decode s i).1 : Int) :: rgo s f (i + (Utf8.decode s i).2) else []
def runes (s : ByteArray) : List Int := rgo s s.size 0
def allP (ks : List Nat) (s : ByteArray) : Bool := (runes s).all (anyP ks)

theorem width_pos (s : ByteArray) (pos : Nat) (h : pos < s.size) : 1 ≤ (Utf8.decode s pos).2 := by
  by_cases ha : (s[pos]'h).toNat < 128
  · rw [decode_ascii s pos h ha]
    exact Nat.le_refl _
  · exact (decode_high s pos h (by omega)).2
theorem rgo_end (s : ByteArray) (b pos : Nat) (h : ¬ pos < s.size) : rgo s b pos = [] := by
  cases b with
  | zero => rfl
  | succ b => simp [rgo, h]
theorem RdF.iter {w : World} {A : Option Addr} {ks : List Nat} (h : RdF w A ks) (s : ByteArray) (pos : Nat) : RdF (w.iter s pos) A ks := by
  refine ⟨h.1, ?_⟩
  rcases h.2 with h2 | ⟨b, off, rfl, hlt, hc⟩
  · exact .inl h2
  · refine .inr ⟨b, off, rfl, by simp [World.iter]; omega, fun j hj => ?_⟩
    rw [← hc j hj]
    exact ((Below.refl w.heap.size w).alloc (Nat.le_refl _) _).cell (p := ⟨b, off + j, none⟩) hlt

def AllRel (s : ByteArray) (ks : List Nat) (w : World) (wr : World) : Prop :=
  ∃ pos b : Nat, wr = w.iter s pos ∧ s.size ≤ pos + b ∧ (rgo s b pos).all (anyP ks) = allP ks s

set_option maxHeartbeats 1000000 in
set_option maxRecDepth 100000 in
theorem all_any (s : ByteArray) (A : Option Addr) (c n : Nat) (ks : List Nat) (w : World) (h : RdF w A ks) (hn : n = ks.length) (hl : ks.length ≤ 100) :
    Calls Try.prog 17 #[.string s, .slice A n c] w fun e w' => e = .returned (.bool (allP ks s)) ∧ Below w.heap.size w w' := by
  have HB := Lib.hid (fun pos => (Below.refl w.heap.size w).alloc (Nat.le_refl _) (.stringIter s pos))
  have HSM := Lib.hid (fun r pos => some_any r A c ks (w.iter s pos) (h.iter s pos) hl)
  rw [← hn] at HSM
  clear hn h
  go_enter Try.func17, Try.ntmps17
  go_wp2_with fail
  go_loopw [6] (fun _ wr => AllRel s ks w wr) (fun _ wr => s.size - wr.iterPos w.heap.size)
  case atStart => exact ⟨0, s.size, rfl, by omega, rfl⟩
  case round =>
    obtain ⟨pos, b, rfl, hb, ha⟩ := hrel
    have HA := Lib.hid ha
    clear ha
    by_cases hp : pos < s.size
    · have hnx : ∀ ty, (Instr.next (.pointer (some ⟨w.heap.size, 0, none⟩)) true ty).run Try.prog (w.iter s pos) = _ := fun ty => run_next_any w s pos ty hp
      have hwd := width_pos s pos hp
      obtain ⟨b, rfl⟩ : ∃ b', b = b' + 1 := ⟨b - 1, by omega⟩
      have HR : Hid (rgo s (b + 1) pos = ((Utf8.decode s pos).1 : Int) :: rgo s b (pos + (Utf8.decode s pos).2)) := Lib.hid (by simp [rgo, hp])
      generalize (Utf8.decode s pos).1 = r at *
      generalize (Utf8.decode s pos).2 = d at *
      go_wp2_with (go_at_call 19; refine (HSM.out _ _).mono ?_; rintro e w' ⟨rfl, rfl⟩)
      · go_ret
        rename_i hq
        have hz : anyP ks (r : Int) = false := by simpa using hq
        refine ⟨ret_bool ?_, HB.out _⟩
        rw [← HA.out, HR.out, List.all_cons, hz, Bool.false_and]
      · rename_i hq
        have hz : anyP ks (r : Int) = true := by simpa using hq
        refine ⟨⟨pos + d, b, rfl, by omega, ?_⟩, ?_⟩
        · rw [← HA.out, HR.out, List.all_cons, hz, Bool.true_and]
        · simp
          omega
    · have hnx : ∀ ty, (Instr.next (.pointer (some ⟨w.heap.size, 0, none⟩)) true ty).run Try.prog (w.iter s pos) = _ := fun ty => run_next_end w s pos ty hp
      have HE := Lib.hid (rgo_end s b pos hp)
      go_wp2
      go_ret
      have := HA.out
      rw [HE.out] at this
      exact ⟨ret_bool (by rw [← this]; rfl), HB.out pos⟩
end Go.Proofs.Ytooobhdpohnbhaa
