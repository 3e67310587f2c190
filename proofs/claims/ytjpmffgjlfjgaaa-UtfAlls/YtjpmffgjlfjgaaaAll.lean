/-
  The walk of utf.All.
-/
import Derived.Test.YtjpmffgjlfjgaaaRuneAny
set_option linter.unusedSimpArgs false
set_option linter.unusedVariables false
namespace Go.Proofs.Ytjpmffgjlfjgaaa
open Go.RowKit

theorem Try.info21 : (Try.prog.info? 21).map (fun i => (i.zero, i.size, i.bytes)) = some (some (.int .i32 0), 1, 4) := by kernel_rfl
theorem Try.info5 : (Try.prog.info? 5).map (fun i => (i.zero, i.size, i.bytes)) = some (some (.int .u8 0), 1, 1) := by kernel_rfl

/-- A slice of runes of the call's own: from block B on. -/
def Own (w : World) (B : Nat) (v : Value) (l : List Int) : Prop := w.ownsRow B 21 1 v l.length (l.map (Value.int .i32))

def AllPost (s : ByteArray) (w : World) (x : List Int × Int × Int) (e : Ending) (w' : World) : Prop :=
  ∃ v, e = .returned (.tuple #[v, .int .i64 x.2.1, .int .i64 x.2.2]) ∧ Own w' w.heap.size v x.1 ∧ Below w.heap.size w w'

def AllRel (s : ByteArray) (w : World) (v i : Value) (wr : World) : Prop :=
  ∃ (a : Nat) (pre : List Int), a ≤ s.size ∧ i = .int .i64 a ∧ Own wr w.heap.size v pre ∧ Below w.heap.size w wr ∧ pre.length ≤ a ∧ allF s = (pre ++ (allAt s a).1, (allAt s a).2)

set_option maxHeartbeats 1000000 in
set_option maxRecDepth 100000 in
theorem all_any (s : ByteArray) (w : World) (hs : s.size ≤ 1000) :
    Calls Try.prog 11 #[.string s] w (AllPost s w (allF s)) := by
  obtain ⟨i0, hi, hz0, hz1, hz2⟩ := info_parts Try.info21
  have hm : s.size ≤ maxLen := by unfold maxLen; omega
  go_enter Try.func11, Try.ntmps11
  go_wp2_with fail
  go_loopw [5, 6] (fun v i wr => AllRel s w v i wr) (fun _ i _ => s.size - (intOf i).toNat)
  case atStart => exact ⟨0, [], Nat.zero_le _, rfl, World.ownsRow_nil _ _ _ _, Below.refl _ _, Nat.le_refl _, by simp [allF_eq]⟩
  case round =>
    obtain ⟨a, pre, ha, rfl, hown, hbel, hpre, hall⟩ := hrel
    by_cases hlt : a < s.size
    · have hk := runeF_okay s a hlt
      obtain ⟨r, n, er, hx⟩ : ∃ r n er, runeF s a = (r, n, er) := ⟨_, _, _, rfl⟩
      have hc := rune_at s a wr hm
      have H0 := allAt_err s a hlt
      have H1 := allAt_ok s a hlt
      rw [hx] at hk hc H0 H1
      clear hx
      unfold Okay at hk
      dsimp only at hk hc H0 H1
      have HC := Lib.hid hc
      clear hc
      by_cases he : er = 0
      · subst he
        have hn : 1 ≤ n ∧ n ≤ (s.size - a : Nat) := by omega
        have HF : Hid (allF s = ((pre ++ [r]) ++ (allAt s (a + n.toNat)).1, (allAt s (a + n.toNat)).2)) := by
          rw [H1 rfl] at hall
          show allF s = _
          rw [hall]
          simp
        obtain ⟨n, rfl⟩ := Int.eq_ofNat_of_zero_le (show 0 ≤ n by omega)
        rw [Int.toNat_natCast] at HF
        have hown' := hown.alloc (.cells #[.int .i32 r] 21)
        have hl2 := hbel.size
        clear H0 H1 hall hk
        go_wp2_with fail
        refine HC.out.mono ?_
        rintro e w1 ⟨rfl, rfl⟩
        go_wp2_with (at_builtin; refine wpList_append_own _ rfl _ _ 29 rfl w.heap.size 21 i0 (.int .i32 0) 1 4 Try.underlying29 hi hz0 hz1 hz2 rfl (by decide) _ _ _ rfl hown' ⟨wr.heap.size, 0, none⟩ 1 1 [.int .i32 r] rfl rfl ?c1 ?c2 ?c3 ?c4 ?c5 ?_)
        case c1 => exact cell_one_new _ _ _
        case c2 => intro u hu; simp at hu; subst hu; rfl
        case c3 => unfold maxLen; omega
        case c4 => omega
        case c5 => simp; omega
        intro v' w1 hown2 hgrow _
        go_wp2
        go_roundw
        case rel =>
          refine ⟨a + n, pre ++ [r], by omega, by go_num, ?_, ?_, by simp; omega, HF.out⟩
          · unfold Own; rw [List.map_append, List.length_append]; exact hown2
          · exact (hbel.alloc hl2 _).grown hgrow (by simp; omega) (fun g hg => (hown.lt g hg).1)
        case measure => simp [intOf]; omega
      · have HF : Hid (allF s = (pre, (a : Int), er)) := by
          rw [H0 he] at hall
          show allF s = _
          rw [hall]
          simp
        have te : (er != 0) = true := by simpa using he
        clear H0 H1 hall hk he
        go_wp2_with fail
        refine HC.out.mono ?_
        rintro e w1 ⟨rfl, rfl⟩
        go_wp2
        go_ret3
        rw [HF.out]
        exact ⟨_, rfl, hown, hbel⟩
    · have HF : Hid (allF s = (pre, (a : Int), 0)) := by
        rw [allAt_done s a (by omega)] at hall
        show allF s = _
        rw [hall]
        simp
      clear hall
      go_wp2
      go_ret3
      rw [HF.out]
      exact ⟨_, rfl, hown, hbel⟩
end Go.Proofs.Ytjpmffgjlfjgaaa
