/-
  The walks of name.Plain and of the document's own.
-/
import Derived.Test.YtepmleieekpdiaaNm
import Derived.Test.YtepmleieekpdiaaRef
set_option linter.unusedSimpArgs false
set_option linter.unusedVariables false
namespace Go.Proofs.Ytepmleieekpdiaa
open Go.RowKit

def aP (l : List Int) : Bool := l.all (fun r => decide (Part r))
theorem drop_ne (s : ByteArray) (pos : Nat) (h : pos < s.size) : (bl s).drop pos ≠ [] := by
  intro h2
  have := congrArg List.length h2
  simp [bl_len] at this
  omega
theorem Rn_at (s : ByteArray) (pos : Nat) (h : pos < s.size) : Rn ((bl s).drop pos) = ((Utf8.decode s pos).1 : Int) :: Rn ((bl s).drop (pos + (Utf8.decode s pos).2)) := by
  rw [Rn_cons _ (drop_ne s pos h), ← dec_dN, List.drop_drop]
theorem Rn_end (s : ByteArray) (pos : Nat) (h : ¬ pos < s.size) : Rn ((bl s).drop pos) = [] := by
  rw [List.drop_of_length_le (by rw [bl_len]; omega)]
  rfl
theorem pl_first (s : ByteArray) (h : 0 < s.size) : pl (bl s) = (decide (Start ((Utf8.decode s 0).1 : Int)) && (decide (Part ((Utf8.decode s 0).1 : Int)) && aP (Rn ((bl s).drop (0 + (Utf8.decode s 0).2))))) := by
  have := Rn_at s 0 h
  rw [List.drop_zero] at this
  unfold pl aP
  rw [this]
  simp only [plR, List.all_cons]

theorem isE (s : ByteArray) : s.toList.isEmpty = decide (s.size = 0) := by
  rw [Lib.toList_data, Lib.size_eq]
  cases s.data.toList <;> simp

def PlRel (s : ByteArray) (w : World) (wr : World) : Prop :=
  ∃ pos : Nat, wr = w.iter s pos ∧ (pos = 0 ∨ (pos ≠ 0 ∧ s.size ≠ 0 ∧ pl (bl s) = aP (Rn ((bl s).drop pos))))

set_option maxHeartbeats 1000000 in
set_option maxRecDepth 100000 in
theorem plain_any (s : ByteArray) (w : World) :
    Calls Try.prog 38 #[.string s] w fun e w' => e = .returned (.bool (pl (bl s))) ∧ Below w.heap.size w w' := by
  have HB := Lib.hid (fun pos => (Below.refl w.heap.size w).alloc (Nat.le_refl _) (.stringIter s pos))
  have HF := Lib.hid (pl_first s)
  have HA := Lib.hid (Rn_at s)
  have HE := Lib.hid (Rn_end s)
  have HZ : Hid (s.size = 0 → pl (bl s) = false) := Lib.hid (fun h => by
    have : bl s = [] := List.eq_nil_of_length_eq_zero (by rw [bl_len]; exact h)
    rw [this]; rfl)
  obtain ⟨res, hres⟩ : ∃ res, res = pl (bl s) := ⟨_, rfl⟩
  have HRES := Lib.hid hres
  rw [← hres]
  clear hres
  go_enter Try.func38, Try.ntmps38
  go_wp2_with fail
  go_loopw [3, 4] (fun _ _ wr => PlRel s w wr) (fun _ _ wr => s.size - wr.iterPos w.heap.size)
  case atStart => exact ⟨0, rfl, .inl rfl⟩
  case round =>
    obtain ⟨pos, rfl, hq⟩ := hrel
    have HQ := Lib.hid hq
    clear hq
    by_cases hp : pos < s.size
    · have hnx : ∀ ty, (Instr.next (.pointer (some ⟨w.heap.size, 0, none⟩)) true ty).run Try.prog (w.iter s pos) = _ := fun ty => run_next_any w s pos ty hp
      have hwd := width_pos s pos hp
      have HR := Lib.hid (HA.out pos hp)
      by_cases h0 : pos = 0
      · have F0 := Lib.hid (HF.out (by omega))
        have c0 : ((pos : Int) == 0) = true := by simp [h0]
        have H0 := Lib.hid h0
        rw [← h0] at F0
        clear h0 HA HQ
        generalize (Utf8.decode s pos).1 = r at *
        generalize (Utf8.decode s pos).2 = d at *
        go_wp2_with (first | (go_at_call 41; refine (start_any _ _).mono ?_; rintro e w' ⟨rfl, rfl⟩) | (go_at_call 42; refine (part_any _ _).mono ?_; rintro e w' ⟨rfl, rfl⟩))
        all_goals first
          | (go_ret
             refine ⟨ret_bool ?_, HB.out _⟩
             have f0 := F0.out
             try rw [HR.out] at f0
             rw [HRES.out, f0]
             simp_all [aP])
          | (refine ⟨⟨pos + d, rfl, .inr ⟨by omega, by omega, ?_⟩⟩, by simp; omega⟩
             have f0 := F0.out
             try rw [HR.out] at f0
             rw [f0]
             simp_all [aP])
      · have Q := HQ.out
        have c0 : ((pos : Int) == 0) = false := by simp; omega
        have F0 : Hid (pl (bl s) = aP (Rn ((bl s).drop pos))) := Lib.hid (by rcases Q with h | h; exact absurd h h0; exact h.2.2)
        clear Q HA HQ
        generalize (Utf8.decode s pos).1 = r at *
        generalize (Utf8.decode s pos).2 = d at *
        go_wp2_with (first | (go_at_call 41; refine (start_any _ _).mono ?_; rintro e w' ⟨rfl, rfl⟩) | (go_at_call 42; refine (part_any _ _).mono ?_; rintro e w' ⟨rfl, rfl⟩))
        all_goals first
          | (go_ret
             refine ⟨ret_bool ?_, HB.out _⟩
             have f0 := F0.out
             try rw [HR.out] at f0
             rw [HRES.out, f0]
             simp_all [aP])
          | (refine ⟨⟨pos + d, rfl, .inr ⟨by omega, by omega, ?_⟩⟩, by simp; omega⟩
             have f0 := F0.out
             try rw [HR.out] at f0
             rw [f0]
             simp_all [aP])
    · have hnx : ∀ ty, (Instr.next (.pointer (some ⟨w.heap.size, 0, none⟩)) true ty).run Try.prog (w.iter s pos) = _ := fun ty => run_next_end w s pos ty hp
      go_wp2
      go_ret
      refine ⟨ret_bool ?_, HB.out pos⟩
      rw [HRES.out, isE]
      by_cases hz : s.size = 0
      · rw [HZ.out hz]
        simp [hz]
      · rcases HQ.out with h | h
        · omega
        · rw [h.2.2, HE.out pos hp]
          simp [hz, aP]

def RpRel (l : List Int) (i : Value) : Prop := ∃ k : Nat, k ≤ l.length ∧ i = .int .i64 k ∧ aP l = aP (l.drop k)
theorem aP_drop (l : List Int) (k : Nat) (h : k < l.length) : aP (l.drop k) = (decide (Part (l.getD k 0)) && aP (l.drop (k + 1))) := by
  rw [List.drop_eq_getElem_cons h, List.getD_eq_getElem?_getD, List.getElem?_eq_getElem h]
  unfold aP
  rw [List.all_cons]
  rfl
theorem rgo_range (s : ByteArray) : ∀ (b i : Nat) (x : Int), x ∈ rgo s b i → 0 ≤ x ∧ x ≤ 2147483647
  | 0, i, x, h => by simp [rgo] at h
  | b + 1, i, x, h => by
    unfold rgo at h
    split at h
    · rcases List.mem_cons.1 h with rfl | h
      · have := decode_le s i
        omega
      · exact rgo_range s b _ x h
    · simp at h
theorem plR_eq (l : List Int) (h : 0 < l.length) : plR l = (decide (Start (l.getD 0 0)) && aP l) := by
  cases l with
  | nil => simp at h
  | cons x l => simp [plR, aP]

theorem rst_t {r : Int} (h : Start r) (w : World) : Calls Try.prog 43 #[.int .i64 r] w fun e w' => e = .returned (.bool true) ∧ w = w' := (rstart_any r w).mono fun e w' ⟨h1, h2⟩ => ⟨by rw [h1, decide_eq_true h], h2⟩
theorem rst_f {r : Int} (h : ¬ Start r) (w : World) : Calls Try.prog 43 #[.int .i64 r] w fun e w' => e = .returned (.bool false) ∧ w = w' := (rstart_any r w).mono fun e w' ⟨h1, h2⟩ => ⟨by rw [h1, decide_eq_false h], h2⟩

set_option maxHeartbeats 1000000 in
set_option maxRecDepth 100000 in
theorem rplain_any (s : ByteArray) (hs : s.size ≤ 1000) (w : World) :
    Calls Try.prog 39 #[.string s] w fun e w' => e = .returned (.bool (pl (bl s))) ∧ Below w.heap.size w w' := by
  obtain ⟨c, w1, hcv, hb1, hzz, hcell⟩ := conv_runes w s hs
  have hln := runes_len s
  have HRG := Lib.hid (fun x (hx : x ∈ runes s) => rgo_range s s.size 0 x hx)
  have HP : Hid (pl (bl s) = plR (runes s)) := Lib.hid (by unfold pl; rw [runes_Rn])
  have HB := Lib.hid hb1
  have hsz := hb1.size
  clear hzz hb1
  generalize pl (bl s) = res at *
  generalize runes s = l at *
  obtain ⟨n, hn⟩ : ∃ n, n = l.length := ⟨_, rfl⟩
  rw [← hn] at hcv
  have hn1 : n ≤ l.length := by omega
  have hn2 : l.length ≤ n := by omega
  have hn3 : n ≤ 1000 := by omega
  clear hn
  by_cases hz : n = 0
  · have q0 : ((n : Int) == 0) = true := by simp [hz]
    have HL : Hid (l = []) := Lib.hid (List.eq_nil_of_length_eq_zero (by omega))
    clear hcell
    go_enter Try.func39, Try.ntmps39
    go_wp2_with fail
    go_ret
    refine ⟨ret_bool ?_, HB.out⟩
    rw [HP.out, HL.out]
    rfl
  · have q0 : ((n : Int) == 0) = false := by simp; omega
    have hc0 := hcell 0 (by omega)
    have HX := Lib.hid (plR_eq l (by omega))
    obtain ⟨hx0, hx1⟩ := HRG.out (l.getD 0 0) (by rw [List.getD_eq_getElem?_getD, List.getElem?_eq_getElem (by omega)]; exact List.getElem_mem _)
    have HCELL := Lib.hid hcell
    clear hcell
    generalize l.getD 0 0 = x0 at *
    have i0 : (0 : Int) < (n : Int) := by omega
    by_cases hS : Start x0
    · have CS := Lib.hid (fun W => rst_t hS W)
      have HST : Hid (decide (Start x0) = true) := Lib.hid (decide_eq_true hS)
      clear hS
      go_enter Try.func39, Try.ntmps39
      go_wp2_with (first | (go_at_call 43; refine (CS.out _).mono ?_; rintro e w' ⟨rfl, rfl⟩))
      go_loop [4] (fun i => RpRel l i) (fun i => l.length - (intOf i).toNat)
      case atStart => exact ⟨0, Nat.zero_le _, rfl, by simp⟩
      case round =>
        obtain ⟨k, hk, rfl, ho⟩ := hrel
        have HO := Lib.hid ho
        clear ho hc0
        by_cases hlt : k < n
        · have hc := HCELL.out k (by omega)
          have HT := Lib.hid (aP_drop l k (by omega))
          obtain ⟨hy0, hy1⟩ := HRG.out (l.getD k 0) (by rw [List.getD_eq_getElem?_getD, List.getElem?_eq_getElem (by omega)]; exact List.getElem_mem _)
          generalize l.getD k 0 = y at hc HT hy0 hy1
          clear hcv
          go_wp2_with (first | (go_at_call 44; refine (rpart_any _ _).mono ?_; rintro e w' ⟨rfl, rfl⟩))
          · go_ret
            refine ⟨ret_bool ?_, HB.out⟩
            rw [HP.out, HX.out, HO.out, HT.out]
            simp_all
          · refine ⟨⟨k + 1, by omega, by go_num, ?_⟩, by simp [intOf]; omega⟩
            rw [HO.out, HT.out]
            simp_all
        · clear hcv
          go_wp2_with fail
          go_ret
          refine ⟨ret_bool ?_, HB.out⟩
          have hkn : k = l.length := by omega
          rw [HP.out, HX.out, HST.out, HO.out, hkn, List.drop_length]
          rfl
    · have CS := Lib.hid (fun W => rst_f hS W)
      have HST : Hid (decide (Start x0) = false) := Lib.hid (decide_eq_false hS)
      clear hS
      go_enter Try.func39, Try.ntmps39
      go_wp2_with (first | (go_at_call 43; refine (CS.out _).mono ?_; rintro e w' ⟨rfl, rfl⟩))
      go_ret
      refine ⟨ret_bool ?_, HB.out⟩
      rw [HP.out, HX.out, HST.out]
      rfl
end Go.Proofs.Ytepmleieekpdiaa
