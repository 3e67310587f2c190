/-
  The walk of name.Cut.
-/
import Derived.Test.YtpfbnbmpeaihjaaPlain
set_option linter.unusedSimpArgs false
set_option linter.unusedVariables false
namespace Go.Proofs.Ytpfbnbmpeaihjaa
open Go.RowKit

/-- What stands from a place on, and the stretch of it. -/
def fr (s : ByteArray) (k : Nat) : ByteArray := s.extract k s.size
def sn (s : ByteArray) (k : Nat) : Nat := St ((bl s).drop k)
def sx (s : ByteArray) (k : Nat) : ByteArray := (fr s k).extract 0 (sn s k)

theorem bl_ext (s : ByteArray) (i j : Nat) : bl (s.extract i j) = ((bl s).drop i).take (j - i) := by
  simp [bl, ByteArray.data_extract, List.map_take, List.map_drop, List.extract_eq_take_drop]
theorem bl_fr (s : ByteArray) (k : Nat) : bl (fr s k) = (bl s).drop k := by
  rw [fr, bl_ext, List.take_of_length_le]
  simp [bl_len]
theorem bl_inj {a b : ByteArray} (h : bl a = bl b) : a = b := by
  have h1 : a.data.toList = b.data.toList := by
    unfold bl at h
    exact (List.map_inj_right (fun x y hxy => UInt8.toNat_inj.1 hxy)).1 h
  have h2 : a.data = b.data := by
    rw [← Array.toArray_toList (xs := a.data), h1, Array.toArray_toList]
  cases a; cases b; simp at h2; rw [h2]
theorem ext_all (u : ByteArray) (n : Nat) (h : u.size ≤ n) : u.extract 0 n = u := by
  apply bl_inj
  rw [bl_ext, List.drop_zero, List.take_of_length_le (by rw [bl_len]; omega)]
theorem fr_size (s : ByteArray) (k : Nat) : (fr s k).size = s.size - k := by
  rw [← bl_len, bl_fr, List.length_drop, bl_len]
theorem sn_le (s : ByteArray) (k : Nat) : sn s k ≤ s.size - k := by
  have := St_le _ ((bl s).drop k) (Nat.le_refl _)
  rw [List.length_drop, bl_len] at this
  exact this
theorem St_at (u : ByteArray) (pos : Nat) (h : pos < u.size) : St ((bl u).drop pos) = if Ok ((Utf8.decode u pos).1 : Int) then (Utf8.decode u pos).2 + St ((bl u).drop (pos + (Utf8.decode u pos).2)) else 0 := by
  rw [St_cons _ (drop_ne u pos h), ← dec_dN, List.drop_drop]
theorem St_end (u : ByteArray) (pos : Nat) (h : ¬ pos < u.size) : St ((bl u).drop pos) = 0 := by
  rw [List.drop_of_length_le (by rw [bl_len]; omega)]
  rfl

def CutRel (u : ByteArray) (m : Nat) (w : World) (wr : World) : Prop := ∃ pos : Nat, wr = w.iter u pos ∧ pos + St ((bl u).drop pos) = m ∧ pos ≤ u.size
theorem dec_le (u : ByteArray) (pos : Nat) (h : pos < u.size) : pos + (Utf8.decode u pos).2 ≤ u.size := by
  rw [dec_dN]
  have := (dN_width _ (drop_ne u pos h)).2
  rw [List.length_drop, bl_len] at this
  omega
theorem pt_t {r : Int} (h : Part r) (w : World) : Calls Try.prog 18 #[.int .i32 r] w fun e w' => e = .returned (.bool true) ∧ w = w' := (part_any r w).mono fun e w' ⟨h1, h2⟩ => ⟨by rw [h1, decide_eq_true h], h2⟩
theorem pt_f {r : Int} (h : ¬ Part r) (w : World) : Calls Try.prog 18 #[.int .i32 r] w fun e w' => e = .returned (.bool false) ∧ w = w' := (part_any r w).mono fun e w' ⟨h1, h2⟩ => ⟨by rw [h1, decide_eq_false h], h2⟩
theorem ret_two {a b : ByteArray} {x y : Int} (h : a = b) (h2 : x = y) : Ending.returned (.tuple #[.string a, .int .i64 x]) = .returned (.tuple #[.string b, .int .i64 y]) := by rw [h, h2]

set_option maxHeartbeats 1000000 in
set_option maxRecDepth 100000 in
theorem cut_any (s : ByteArray) (k : Nat) (hs : s.size ≤ 1000) (hk : k ≤ s.size) (w : World) :
    Calls Try.prog 12 #[.string s, .int .i64 k] w fun e w' => e = .returned (.tuple #[.string (sx s k), .int .i64 ((k : Int) + (sn s k : Int))]) ∧ Below w.heap.size w w' := by
  have b1 : decide ((k : Int) < 0) = false := by simp
  have b2 : decide ((s.size : Int) < (k : Int)) = false := by simp; omega
  have b3 : decide (s.size < k) = false := by simp; omega
  have i1 : (0 : Int) ≤ (k : Int) := by omega
  have i2 : (k : Int) ≤ (s.size : Int) := by omega
  have hu : fr s k = s.extract k s.size := rfl
  have hz := fr_size s k
  have HM : Hid (sn s k = St (bl (fr s k))) := Lib.hid (by rw [sn, bl_fr])
  have HX : Hid (sx s k = (fr s k).extract 0 (sn s k)) := Lib.hid rfl
  generalize sx s k = res at *
  generalize sn s k = m at *
  go_enter Try.func12, Try.ntmps12
  go_wp2_with fail
  rw [← hu]
  clear hu
  generalize fr s k = u at *
  have HB := Lib.hid (fun pos => (Below.refl w.heap.size w).alloc (Nat.le_refl _) (.stringIter u pos))
  have HA := Lib.hid (St_at u)
  have HE := Lib.hid (St_end u)
  have HD := Lib.hid (dec_le u)
  go_loopw [7, 8] (fun _ _ wr => CutRel u m w wr) (fun _ _ wr => u.size - wr.iterPos w.heap.size)
  case atStart => exact ⟨0, rfl, by rw [HM.out, List.drop_zero]; omega, by omega⟩
  case round =>
    obtain ⟨pos, rfl, hq, hpl⟩ := hrel
    have HQ := Lib.hid hq
    clear hq
    by_cases hp : pos < u.size
    · have hnx : ∀ ty, (Instr.next (.pointer (some ⟨w.heap.size, 0, none⟩)) true ty).run Try.prog (w.iter u pos) = _ := fun ty => run_next_any w u pos ty hp
      have hwd := width_pos u pos hp
      have HR := Lib.hid (HA.out pos hp)
      have hd := HD.out pos hp
      have i3 : (0 : Int) ≤ (pos : Int) := by omega
      have i4 : (pos : Int) ≤ (u.size : Int) := by omega
      clear HA HD
      generalize (Utf8.decode u pos).1 = r at *
      generalize (Utf8.decode u pos).2 = d at *
      by_cases h58 : (r : Int) = 58
      · have c1 : ((r : Int) != 58) = false := by simp [h58]
        have HO : Hid (Ok (r : Int)) := Lib.hid (.inl h58)
        clear h58
        go_wp2_with fail
        go_roundw
        case rel =>
          refine ⟨pos + d, rfl, ?_, hd⟩
          have q := HQ.out
          rw [HR.out, if_pos HO.out] at q
          omega
        case measure => simp; omega
      · have c1 : ((r : Int) != 58) = true := by simp [h58]
        by_cases hP : Part (r : Int)
        · have HO : Hid (Ok (r : Int)) := Lib.hid (.inr hP)
          have CP := Lib.hid (fun W => pt_t hP W)
          clear h58 hP
          go_wp2_with (first | (go_at_call 18; refine (CP.out _).mono ?_; rintro e w' ⟨rfl, rfl⟩))
          go_roundw
          case rel =>
            refine ⟨pos + d, rfl, ?_, hd⟩
            have q := HQ.out
            rw [HR.out, if_pos HO.out] at q
            omega
          case measure => simp; omega
        · have HO : Hid (¬ Ok (r : Int)) := Lib.hid (by rintro (h | h); exact h58 h; exact hP h)
          have CP := Lib.hid (fun W => pt_f hP W)
          clear h58 hP
          go_wp2_with (first | (go_at_call 18; refine (CP.out _).mono ?_; rintro e w' ⟨rfl, rfl⟩))
          go_ret2
          have q := HQ.out
          rw [HR.out, if_neg HO.out] at q
          refine ⟨ret_two ?_ ?_, HB.out _⟩
          · rw [HX.out, ← q]
            rfl
          · omega
    · have hnx : ∀ ty, (Instr.next (.pointer (some ⟨w.heap.size, 0, none⟩)) true ty).run Try.prog (w.iter u pos) = _ := fun ty => run_next_end w u pos ty hp
      go_wp2
      go_ret2
      have q := HQ.out
      rw [HE.out pos hp] at q
      have hm : m = u.size := by omega
      refine ⟨ret_two ?_ ?_, HB.out pos⟩
      · rw [HX.out, ext_all _ _ (by omega)]
      · omega

set_option maxHeartbeats 1000000 in
set_option maxRecDepth 100000 in
theorem cut_out (s : ByteArray) (k : Int) (hk : k < 0 ∨ (s.size : Int) < k) (w : World) :
    Calls Try.prog 12 #[.string s, .int .i64 k] w fun e w' => e = .returned (.tuple #[.string ⟨#[]⟩, .int .i64 k]) ∧ Below w.heap.size w w' := by
  by_cases h0 : k < 0
  · have b1 : decide (k < 0) = true := by simp [h0]
    clear hk
    go_enter Try.func12, Try.ntmps12
    go_wp2_with fail
    go_ret2
    exact ⟨rfl, Below.refl _ _⟩
  · have b1 : decide (k < 0) = false := by simp; omega
    have b2 : decide ((s.size : Int) < k) = true := by simp; omega
    clear hk
    go_enter Try.func12, Try.ntmps12
    go_wp2_with fail
    go_ret2
    exact ⟨rfl, Below.refl _ _⟩
end Go.Proofs.Ytpfbnbmpeaihjaa
