/-
  Merged by program out of the texts NzPlain, NzCut, NzIdx, NzSplit of one seat.
-/
import Derived.Test.YtmbghdpoeahnaaaGreatDoorG15
import Derived.Deep.QuietTactic
import Derived.BigQuiet
import Derived.Deep.RegionWith

/- The walks of name.Plain and of the document's own. -/
set_option linter.unusedSimpArgs false
set_option linter.unusedVariables false
namespace Go.Proofs.YtmbghdpoeahnaaaGreatDoor.Nz
open Go.RowKit

def aP (l : List Int) : Bool := l.all (fun r => decide (Part r))
theorem drop_ne (s : ByteArray) (pos : Nat) (h : pos < s.size) : (bl s).drop pos ≠ [] := by
  intro h2
  have := congrArg List.length h2
  simp [bl_len] at this
  omega
theorem Rn_at (s : ByteArray) (pos : Nat) (h : pos < s.size) : Rn ((bl s).drop pos) = ((Utf8.decode s pos).1 : Int) :: Rn ((bl s).drop (pos + (Utf8.decode s pos).2)) := by
  rw [Rn_cons _ (drop_ne s pos h), ← dec_dN, List.drop_drop]
theorem Rn_end (s : ByteArray) (pos : Nat) (h : ¬ pos < s.size) : Rn ((bl s).drop pos) = [] := by
  rw [List.drop_of_length_le (by rw [bl_len]; omega)]
  rfl
theorem pl_first (s : ByteArray) (h : 0 < s.size) : pl (bl s) = (decide (Start ((Utf8.decode s 0).1 : Int)) && (decide (Part ((Utf8.decode s 0).1 : Int)) && aP (Rn ((bl s).drop (0 + (Utf8.decode s 0).2))))) := by
  have := Rn_at s 0 h
  rw [List.drop_zero] at this
  unfold pl aP
  rw [this]
  simp only [plR, List.all_cons]

theorem isE (s : ByteArray) : s.toList.isEmpty = decide (s.size = 0) := by
  rw [Lib.toList_data, Lib.size_eq]
  cases s.data.toList <;> simp

def PlRel (s : ByteArray) (w : World) (wr : World) : Prop :=
  ∃ pos : Nat, wr = w.iter s pos ∧ (pos = 0 ∨ (pos ≠ 0 ∧ s.size ≠ 0 ∧ pl (bl s) = aP (Rn ((bl s).drop pos))))

set_option maxHeartbeats 1000000 in
set_option maxRecDepth 100000 in
theorem plain_any (s : ByteArray) (w : World) :
    Calls Tryz.prog 75 #[.string s] w fun e w' => e = .returned (.bool (pl (bl s))) ∧ Below w.heap.size w w' := by
  have HB := Lib.hid (fun pos => (Below.refl w.heap.size w).alloc (Nat.le_refl _) (.stringIter s pos))
  have HF := Lib.hid (pl_first s)
  have HA := Lib.hid (Rn_at s)
  have HE := Lib.hid (Rn_end s)
  have HZ : Hid (s.size = 0 → pl (bl s) = false) := Lib.hid (fun h => by
    have : bl s = [] := List.eq_nil_of_length_eq_zero (by rw [bl_len]; exact h)
    rw [this]; rfl)
  obtain ⟨res, hres⟩ : ∃ res, res = pl (bl s) := ⟨_, rfl⟩
  have HRES := Lib.hid hres
  rw [← hres]
  clear hres
  go_enter Tryz.func75, Tryz.ntmps75
  go_wp2_with fail
  go_loopw [3, 4] (fun _ _ wr => PlRel s w wr) (fun _ _ wr => s.size - wr.iterPos w.heap.size)
  case atStart => exact ⟨0, rfl, .inl rfl⟩
  case round =>
    obtain ⟨pos, rfl, hq⟩ := hrel
    have HQ := Lib.hid hq
    clear hq
    by_cases hp : pos < s.size
    · have hnx : ∀ ty, (Instr.next (.pointer (some ⟨w.heap.size, 0, none⟩)) true ty).run Tryz.prog (w.iter s pos) = _ := fun ty => run_next_any w s pos ty hp
      have hwd := width_pos s pos hp
      have HR := Lib.hid (HA.out pos hp)
      by_cases h0 : pos = 0
      · have F0 := Lib.hid (HF.out (by omega))
        have c0 : ((pos : Int) == 0) = true := by simp [h0]
        have H0 := Lib.hid h0
        rw [← h0] at F0
        clear h0 HA HQ
        generalize (Utf8.decode s pos).1 = r at *
        generalize (Utf8.decode s pos).2 = d at *
        go_wp2_with (first | (go_at_call 92; refine (start_any _ _).mono ?_; rintro e w' ⟨rfl, rfl⟩) | (go_at_call 93; refine (part_any _ _).mono ?_; rintro e w' ⟨rfl, rfl⟩))
        all_goals first
          | (go_ret
             refine ⟨ret_bool ?_, HB.out _⟩
             have f0 := F0.out
             try rw [HR.out] at f0
             rw [HRES.out, f0]
             simp_all [aP])
          | (refine ⟨⟨pos + d, rfl, .inr ⟨by omega, by omega, ?_⟩⟩, by simp; omega⟩
             have f0 := F0.out
             try rw [HR.out] at f0
             rw [f0]
             simp_all [aP])
      · have Q := HQ.out
        have c0 : ((pos : Int) == 0) = false := by simp; omega
        have F0 : Hid (pl (bl s) = aP (Rn ((bl s).drop pos))) := Lib.hid (by rcases Q with h | h; exact absurd h h0; exact h.2.2)
        clear Q HA HQ
        generalize (Utf8.decode s pos).1 = r at *
        generalize (Utf8.decode s pos).2 = d at *
        go_wp2_with (first | (go_at_call 92; refine (start_any _ _).mono ?_; rintro e w' ⟨rfl, rfl⟩) | (go_at_call 93; refine (part_any _ _).mono ?_; rintro e w' ⟨rfl, rfl⟩))
        all_goals first
          | (go_ret
             refine ⟨ret_bool ?_, HB.out _⟩
             have f0 := F0.out
             try rw [HR.out] at f0
             rw [HRES.out, f0]
             simp_all [aP])
          | (refine ⟨⟨pos + d, rfl, .inr ⟨by omega, by omega, ?_⟩⟩, by simp; omega⟩
             have f0 := F0.out
             try rw [HR.out] at f0
             rw [f0]
             simp_all [aP])
    · have hnx : ∀ ty, (Instr.next (.pointer (some ⟨w.heap.size, 0, none⟩)) true ty).run Tryz.prog (w.iter s pos) = _ := fun ty => run_next_end w s pos ty hp
      go_wp2
      go_ret
      refine ⟨ret_bool ?_, HB.out pos⟩
      rw [HRES.out, isE]
      by_cases hz : s.size = 0
      · rw [HZ.out hz]
        simp [hz]
      · rcases HQ.out with h | h
        · omega
        · rw [h.2.2, HE.out pos hp]
          simp [hz, aP]

def RpRel (l : List Int) (i : Value) : Prop := ∃ k : Nat, k ≤ l.length ∧ i = .int .i64 k ∧ aP l = aP (l.drop k)
theorem aP_drop (l : List Int) (k : Nat) (h : k < l.length) : aP (l.drop k) = (decide (Part (l.getD k 0)) && aP (l.drop (k + 1))) := by
  rw [List.drop_eq_getElem_cons h, List.getD_eq_getElem?_getD, List.getElem?_eq_getElem h]
  unfold aP
  rw [List.all_cons]
  rfl
theorem rgo_range (s : ByteArray) : ∀ (b i : Nat) (x : Int), x ∈ rgo s b i → 0 ≤ x ∧ x ≤ 2147483647
  | 0, i, x, h => by simp [rgo] at h
  | b + 1, i, x, h => by
    unfold rgo at h
    split at h
    · rcases List.mem_cons.1 h with rfl | h
      · have := decode_le s i
        omega
      · exact rgo_range s b _ x h
    · simp at h
theorem plR_eq (l : List Int) (h : 0 < l.length) : plR l = (decide (Start (l.getD 0 0)) && aP l) := by
  cases l with
  | nil => simp at h
  | cons x l => simp [plR, aP]

theorem rst_t {r : Int} (h : Start r) (w : World) : Calls Tryz.prog 43 #[.int .i64 r] w fun e w' => e = .returned (.bool true) ∧ w = w' := (rstart_any r w).mono fun e w' ⟨h1, h2⟩ => ⟨by rw [h1, decide_eq_true h], h2⟩
theorem rst_f {r : Int} (h : ¬ Start r) (w : World) : Calls Tryz.prog 43 #[.int .i64 r] w fun e w' => e = .returned (.bool false) ∧ w = w' := (rstart_any r w).mono fun e w' ⟨h1, h2⟩ => ⟨by rw [h1, decide_eq_false h], h2⟩

set_option maxHeartbeats 1000000 in
set_option maxRecDepth 100000 in
theorem rplain_any (s : ByteArray) (hs : s.size ≤ 1000) (w : World) :
    Calls Tryz.prog 30 #[.string s] w fun e w' => e = .returned (.bool (pl (bl s))) ∧ Below w.heap.size w w' := by
  obtain ⟨c, w1, hcv, hb1, hzz, hcell⟩ := conv_runes w s hs
  have hln := runes_len s
  have HRG := Lib.hid (fun x (hx : x ∈ runes s) => rgo_range s s.size 0 x hx)
  have HP : Hid (pl (bl s) = plR (runes s)) := Lib.hid (by unfold pl; rw [runes_Rn])
  have HB := Lib.hid hb1
  have hsz := hb1.size
  clear hzz hb1
  generalize pl (bl s) = res at *
  generalize runes s = l at *
  obtain ⟨n, hn⟩ : ∃ n, n = l.length := ⟨_, rfl⟩
  rw [← hn] at hcv
  have hn1 : n ≤ l.length := by omega
  have hn2 : l.length ≤ n := by omega
  have hn3 : n ≤ 1000 := by omega
  clear hn
  by_cases hz : n = 0
  · have q0 : ((n : Int) == 0) = true := by simp [hz]
    have HL : Hid (l = []) := Lib.hid (List.eq_nil_of_length_eq_zero (by omega))
    clear hcell
    go_enter Tryz.func30, Tryz.ntmps30
    go_wp2_with fail
    go_ret
    refine ⟨ret_bool ?_, HB.out⟩
    rw [HP.out, HL.out]
    rfl
  · have q0 : ((n : Int) == 0) = false := by simp; omega
    have hc0 := hcell 0 (by omega)
    have HX := Lib.hid (plR_eq l (by omega))
    obtain ⟨hx0, hx1⟩ := HRG.out (l.getD 0 0) (by rw [List.getD_eq_getElem?_getD, List.getElem?_eq_getElem (by omega)]; exact List.getElem_mem _)
    have HCELL := Lib.hid hcell
    clear hcell
    generalize l.getD 0 0 = x0 at *
    have i0 : (0 : Int) < (n : Int) := by omega
    by_cases hS : Start x0
    · have CS := Lib.hid (fun W => rst_t hS W)
      have HST : Hid (decide (Start x0) = true) := Lib.hid (decide_eq_true hS)
      clear hS
      go_enter Tryz.func30, Tryz.ntmps30
      go_wp2_with (first | (go_at_call 43; refine (CS.out _).mono ?_; rintro e w' ⟨rfl, rfl⟩))
      go_loop [4] (fun i => RpRel l i) (fun i => l.length - (intOf i).toNat)
      case atStart => exact ⟨0, Nat.zero_le _, rfl, by simp⟩
      case round =>
        obtain ⟨k, hk, rfl, ho⟩ := hrel
        have HO := Lib.hid ho
        clear ho hc0
        by_cases hlt : k < n
        · have hc := HCELL.out k (by omega)
          have HT := Lib.hid (aP_drop l k (by omega))
          obtain ⟨hy0, hy1⟩ := HRG.out (l.getD k 0) (by rw [List.getD_eq_getElem?_getD, List.getElem?_eq_getElem (by omega)]; exact List.getElem_mem _)
          generalize l.getD k 0 = y at hc HT hy0 hy1
          clear hcv
          go_wp2_with (first | (go_at_call 42; refine (rpart_any _ _).mono ?_; rintro e w' ⟨rfl, rfl⟩))
          · go_ret
            refine ⟨ret_bool ?_, HB.out⟩
            rw [HP.out, HX.out, HO.out, HT.out]
            simp_all
          · refine ⟨⟨k + 1, by omega, by go_num, ?_⟩, by simp [intOf]; omega⟩
            rw [HO.out, HT.out]
            simp_all
        · clear hcv
          go_wp2_with fail
          go_ret
          refine ⟨ret_bool ?_, HB.out⟩
          have hkn : k = l.length := by omega
          rw [HP.out, HX.out, HST.out, HO.out, hkn, List.drop_length]
          rfl
    · have CS := Lib.hid (fun W => rst_f hS W)
      have HST : Hid (decide (Start x0) = false) := Lib.hid (decide_eq_false hS)
      clear hS
      go_enter Tryz.func30, Tryz.ntmps30
      go_wp2_with (first | (go_at_call 43; refine (CS.out _).mono ?_; rintro e w' ⟨rfl, rfl⟩))
      go_ret
      refine ⟨ret_bool ?_, HB.out⟩
      rw [HP.out, HX.out, HST.out]
      rfl
end Go.Proofs.YtmbghdpoeahnaaaGreatDoor.Nz

/- The walk of name.Cut. -/
set_option linter.unusedSimpArgs false
set_option linter.unusedVariables false
namespace Go.Proofs.YtmbghdpoeahnaaaGreatDoor.Nz
open Go.RowKit

/-- What stands from a place on, and the stretch of it. -/
def fr (s : ByteArray) (k : Nat) : ByteArray := s.extract k s.size
def sn (s : ByteArray) (k : Nat) : Nat := St ((bl s).drop k)
def sx (s : ByteArray) (k : Nat) : ByteArray := (fr s k).extract 0 (sn s k)

theorem bl_ext (s : ByteArray) (i j : Nat) : bl (s.extract i j) = ((bl s).drop i).take (j - i) := by
  simp [bl, ByteArray.data_extract, List.map_take, List.map_drop, List.extract_eq_take_drop]
theorem bl_fr (s : ByteArray) (k : Nat) : bl (fr s k) = (bl s).drop k := by
  rw [fr, bl_ext, List.take_of_length_le]
  simp [bl_len]
theorem bl_inj {a b : ByteArray} (h : bl a = bl b) : a = b := by
  have h1 : a.data.toList = b.data.toList := by
    unfold bl at h
    exact (List.map_inj_right (fun x y hxy => UInt8.toNat_inj.1 hxy)).1 h
  have h2 : a.data = b.data := by
    rw [← Array.toArray_toList (xs := a.data), h1, Array.toArray_toList]
  cases a; cases b; simp at h2; rw [h2]
theorem ext_all (u : ByteArray) (n : Nat) (h : u.size ≤ n) : u.extract 0 n = u := by
  apply bl_inj
  rw [bl_ext, List.drop_zero, List.take_of_length_le (by rw [bl_len]; omega)]
theorem fr_size (s : ByteArray) (k : Nat) : (fr s k).size = s.size - k := by
  rw [← bl_len, bl_fr, List.length_drop, bl_len]
theorem sn_le (s : ByteArray) (k : Nat) : sn s k ≤ s.size - k := by
  have := St_le _ ((bl s).drop k) (Nat.le_refl _)
  rw [List.length_drop, bl_len] at this
  exact this
theorem St_at (u : ByteArray) (pos : Nat) (h : pos < u.size) : St ((bl u).drop pos) = if Ok ((Utf8.decode u pos).1 : Int) then (Utf8.decode u pos).2 + St ((bl u).drop (pos + (Utf8.decode u pos).2)) else 0 := by
  rw [St_cons _ (drop_ne u pos h), ← dec_dN, List.drop_drop]
theorem St_end (u : ByteArray) (pos : Nat) (h : ¬ pos < u.size) : St ((bl u).drop pos) = 0 := by
  rw [List.drop_of_length_le (by rw [bl_len]; omega)]
  rfl

def CutRel (u : ByteArray) (m : Nat) (w : World) (wr : World) : Prop := ∃ pos : Nat, wr = w.iter u pos ∧ pos + St ((bl u).drop pos) = m ∧ pos ≤ u.size
theorem dec_le (u : ByteArray) (pos : Nat) (h : pos < u.size) : pos + (Utf8.decode u pos).2 ≤ u.size := by
  rw [dec_dN]
  have := (dN_width _ (drop_ne u pos h)).2
  rw [List.length_drop, bl_len] at this
  omega
theorem pt_t {r : Int} (h : Part r) (w : World) : Calls Tryz.prog 93 #[.int .i32 r] w fun e w' => e = .returned (.bool true) ∧ w = w' := (part_any r w).mono fun e w' ⟨h1, h2⟩ => ⟨by rw [h1, decide_eq_true h], h2⟩
theorem pt_f {r : Int} (h : ¬ Part r) (w : World) : Calls Tryz.prog 93 #[.int .i32 r] w fun e w' => e = .returned (.bool false) ∧ w = w' := (part_any r w).mono fun e w' ⟨h1, h2⟩ => ⟨by rw [h1, decide_eq_false h], h2⟩
theorem ret_two {a b : ByteArray} {x y : Int} (h : a = b) (h2 : x = y) : Ending.returned (.tuple #[.string a, .int .i64 x]) = .returned (.tuple #[.string b, .int .i64 y]) := by rw [h, h2]

end Go.Proofs.YtmbghdpoeahnaaaGreatDoor.Nz

/- The walk of strings.Cut at a colon. -/
set_option linter.unusedSimpArgs false
set_option linter.unusedVariables false
namespace Go.Proofs.YtmbghdpoeahnaaaGreatDoor.Nz
open Go.RowKit

theorem below_drewN {B : Nat} {w w' : World} (h : Below B w w') (n : Nat) : Below B w (w'.drewN n) := ⟨h.os, h.tape, h.output, h.size, h.block⟩

/-- Where the first colon stands. -/
def ci (s : ByteArray) : Int := Lib.indexByte s.data.toList 58
theorem ib_cases : ∀ (l : List UInt8), (Lib.indexByte l 58 = -1 ∧ 58 ∉ l.map UInt8.toNat) ∨
    ∃ i : Nat, Lib.indexByte l 58 = i ∧ i < l.length ∧ l.map UInt8.toNat = (l.map UInt8.toNat).take i ++ 58 :: (l.map UInt8.toNat).drop (i + 1) ∧ 58 ∉ (l.map UInt8.toNat).take i
  | [] => .inl ⟨rfl, by simp⟩
  | b :: l => by
    unfold Lib.indexByte
    by_cases hb : b = 58
    · subst hb
      exact .inr ⟨0, by simp, by simp, by simp, by simp⟩
    · have hb1 : (b == 58) = false := by simpa using hb
      have hb2 : b.toNat ≠ 58 := fun h => hb (UInt8.toNat_inj.1 (by rw [h]; rfl))
      rw [hb1]
      rcases ib_cases l with ⟨h1, h2⟩ | ⟨i, h1, h2, h3, h4⟩
      · refine .inl ⟨by rw [h1]; rfl, ?_⟩
        rw [List.map_cons, List.mem_cons]
        rintro (h | h)
        · exact hb2 h.symm
        · exact h2 h
      · refine .inr ⟨i + 1, ?_, by simp; omega, ?_, ?_⟩
        · rw [h1]
          have : (((i : Int)) == -1) = false := by rw [beq_eq_false_iff_ne]; omega
          simp [this]
        · rw [List.map_cons, List.take_succ_cons, List.drop_succ_cons, List.cons_append, ← h3]
        · rw [List.map_cons, List.take_succ_cons, List.mem_cons]
          rintro (h | h)
          · exact hb2 h.symm
          · exact h4 h
theorem ci_cases (s : ByteArray) : (ci s = -1 ∧ 58 ∉ bl s) ∨ ∃ i : Nat, ci s = i ∧ i < s.size ∧ bl s = (bl s).take i ++ 58 :: (bl s).drop (i + 1) ∧ 58 ∉ (bl s).take i := by
  have := ib_cases s.data.toList
  rw [← Lib.size_eq] at this
  exact this

def em : ByteArray := ⟨#[]⟩
/-- What Split answers. -/
def splitA (s : ByteArray) : ByteArray × ByteArray × Bool :=
  if ci s = -1 then (if pl (bl s) = true then (em, s, true) else (em, em, false))
  else if pl (bl (s.extract 0 (ci s).toNat)) = true ∧ pl (bl (s.extract ((ci s).toNat + 1) s.size)) = true then (s.extract 0 (ci s).toNat, s.extract ((ci s).toNat + 1) s.size, true) else (em, em, false)
theorem bl_pre (s : ByteArray) (i : Nat) : bl (s.extract 0 i) = (bl s).take i := by rw [bl_ext]; simp
theorem bl_post (s : ByteArray) (i : Nat) : bl (s.extract i s.size) = (bl s).drop i := bl_fr s i

set_option maxHeartbeats 400000 in
set_option maxRecDepth 100000 in
theorem idxb_any (s : ByteArray) (c : Int) (w : World) :
    Calls Tryz.prog 81 #[.string s, .int .u8 c] w fun e w' => e = .returned (.int .i64 (Lib.indexByte s.data.toList c.toNat.toUInt8)) ∧ w = w' := by
  go_enter Tryz.func81, Tryz.ntmps81
  go_wp2
  rw [run_callFunc_extern Tryz.func104 (by kernel_rfl) (by kernel_rfl) (by kernel_rfl) (e := Extern.BytealgIndexByte.indexByte) (by kernel_rfl), Lib.run_indexByteString]
  simp only [Result.andThen]
  rw [Oper.upon_value]
  go_wp2
  go_ret
  exact ⟨rfl, rfl⟩

set_option maxHeartbeats 1000000 in
set_option maxRecDepth 100000 in
theorem idx_any (s : ByteArray) (w : World) :
    Calls Tryz.prog 65 #[.string s, .string ⟨#[58]⟩] w fun e w' => e = .returned (.int .i64 (ci s)) ∧ w = w' := by
  go_enter Tryz.func65, Tryz.ntmps65
  go_wp2_with (go_at_call 81; refine (idxb_any _ _ _).mono ?_; rintro e w' ⟨rfl, rfl⟩)
  · have h : ([58] == s.toList) = true := by assumption
    go_ret
    refine ⟨?_, rfl⟩
    have e : s.data.toList = [58] := by rw [← Lib.toList_data]; exact (beq_iff_eq.1 h).symm
    unfold ci
    rw [e]
    rfl
  · go_ret
    exact ⟨rfl, rfl⟩
theorem ret_three {a b c d : ByteArray} {x y : Bool} (h : a = b) (h1 : c = d) (h2 : x = y) : Ending.returned (.tuple #[.string a, .string c, .bool x]) = .returned (.tuple #[.string b, .string d, .bool y]) := by rw [h, h1, h2]

set_option maxHeartbeats 1000000 in
set_option maxRecDepth 100000 in
theorem lcut_hit (s : ByteArray) (i : Nat) (h : ci s = i) (hi : i < s.size) (hs : s.size ≤ 1000) (w : World) :
    Calls Tryz.prog 119 #[.string s, .string ⟨#[58]⟩] w fun e w' => e = .returned (.tuple #[.string (s.extract 0 i), .string (s.extract (i + 1) s.size), .bool true]) ∧ Below w.heap.size w w' := by
  have CI := Lib.hid (idx_any s)
  rw [h] at CI
  clear h
  have c1 : (0 : Int) ≤ (i : Int) := by omega
  have c2 : (i : Int) ≤ (s.size : Int) := by omega
  have c3 : (0 : Int) ≤ (i : Int) + 1 := by omega
  have c4 : (i : Int) + 1 ≤ (s.size : Int) := by omega
  have c5 : decide ((0 : Int) ≤ (i : Int)) = true := by simp
  have q3 : ((i : Int) + 1).toNat = i + 1 := by omega
  have q2 : IntKind.i64.wrap ((i : Int) + 1) = (i : Int) + 1 := IntWalk.i64_in _ (by omega)
  go_enter Tryz.func119, Tryz.ntmps119
  go_wp2_with (go_at_call 65; refine (CI.out _).mono ?_; rintro e w' ⟨rfl, rfl⟩)
  go_quiet (fail)
  go_wp2
  go_ret3
  exact ⟨rfl, below_drewN (Below.refl _ _) _⟩

set_option maxHeartbeats 1000000 in
set_option maxRecDepth 100000 in
theorem lcut_miss (s : ByteArray) (h : ci s = -1) (w : World) :
    Calls Tryz.prog 119 #[.string s, .string ⟨#[58]⟩] w fun e w' => e = .returned (.tuple #[.string s, .string ⟨#[]⟩, .bool false]) ∧ Below w.heap.size w w' := by
  have CI := Lib.hid (idx_any s)
  rw [h] at CI
  clear h
  go_enter Tryz.func119, Tryz.ntmps119
  go_wp2_with (go_at_call 65; refine (CI.out _).mono ?_; rintro e w' ⟨rfl, rfl⟩)
  go_ret3
  exact ⟨rfl, Below.refl _ _⟩

set_option maxHeartbeats 1000000 in
set_option maxRecDepth 100000 in
theorem scut_hit (s : ByteArray) (i : Nat) (h : ci s = i) (hi : i < s.size) (hs : s.size ≤ 1000) (w : World) :
    Calls Tryz.prog 101 #[.string s, .string ⟨#[58]⟩] w fun e w' => e = .returned (.tuple #[.string (s.extract 0 i), .string (s.extract (i + 1) s.size), .bool true]) ∧ Below w.heap.size w w' := by
  have CL := Lib.hid (lcut_hit s i h hi hs)
  clear h hi hs
  go_enter Tryz.func101, Tryz.ntmps101
  go_wp2_with (go_at_call 119; refine (CL.out _).mono ?_; rintro e w' ⟨rfl, hb⟩)
  go_ret3
  exact ⟨rfl, hb⟩
set_option maxHeartbeats 1000000 in
set_option maxRecDepth 100000 in
theorem scut_miss (s : ByteArray) (h : ci s = -1) (w : World) :
    Calls Tryz.prog 101 #[.string s, .string ⟨#[58]⟩] w fun e w' => e = .returned (.tuple #[.string s, .string ⟨#[]⟩, .bool false]) ∧ Below w.heap.size w w' := by
  have CL := Lib.hid (lcut_miss s h)
  clear h
  go_enter Tryz.func101, Tryz.ntmps101
  go_wp2_with (go_at_call 119; refine (CL.out _).mono ?_; rintro e w' ⟨rfl, hb⟩)
  go_ret3
  exact ⟨rfl, hb⟩

end Go.Proofs.YtmbghdpoeahnaaaGreatDoor.Nz

/- The walks of name.Split and of name.Join. -/
set_option linter.unusedSimpArgs false
set_option linter.unusedVariables false
namespace Go.Proofs.YtmbghdpoeahnaaaGreatDoor.Nz
open Go.RowKit

set_option maxHeartbeats 1000000 in
set_option maxRecDepth 100000 in
theorem alone_any (s : ByteArray) (w : World) :
    Calls Tryz.prog 102 #[.string s] w fun e w' => e = .returned (.tuple #[.string em, .string (if pl (bl s) = true then s else em), .bool (pl (bl s))]) ∧ Below w.heap.size w w' := by
  have CL := Lib.hid (plain_any s)
  cases hp : pl (bl s) <;> rw [hp] at CL <;> clear hp
  · go_enter Tryz.func102, Tryz.ntmps102
    go_wp2_with (go_at_call 75; refine (CL.out _).mono ?_; rintro e w' ⟨rfl, hb⟩)
    go_ret3
    exact ⟨rfl, hb⟩
  · go_enter Tryz.func102, Tryz.ntmps102
    go_wp2_with (go_at_call 75; refine (CL.out _).mono ?_; rintro e w' ⟨rfl, hb⟩)
    go_ret3
    exact ⟨rfl, hb⟩


set_option maxHeartbeats 400000 in
set_option maxRecDepth 100000 in
theorem split_miss (s res : ByteArray) (ok : Bool) (CS : Hid (∀ w, Calls Tryz.prog 101 #[.string s, .string ⟨#[58]⟩] w fun e w' => e = .returned (.tuple #[.string s, .string ⟨#[]⟩, .bool false]) ∧ Below w.heap.size w w'))
    (CA : Hid (∀ w, Calls Tryz.prog 102 #[.string s] w fun e w' => e = .returned (.tuple #[.string em, .string res, .bool ok]) ∧ Below w.heap.size w w')) (w : World) :
    Calls Tryz.prog 79 #[.string s] w fun e w' => e = .returned (.tuple #[.string em, .string res, .bool ok]) ∧ Below w.heap.size w w' := by
  go_enter Tryz.func79, Tryz.ntmps79
  go_wp2_with fail
  refine (CS.out _).mono ?_
  rintro e w1 ⟨rfl, hb1⟩
  go_wp2_with fail
  refine (CA.out _).mono ?_
  rintro e w2 ⟨rfl, hb2⟩
  go_wp2_with fail
  go_ret3
  exact ⟨rfl, hb1.trans (hb2.mono hb1.size)⟩

set_option maxHeartbeats 400000 in
set_option maxRecDepth 100000 in
theorem split_no1 (s p l : ByteArray) (CS : Hid (∀ w, Calls Tryz.prog 101 #[.string s, .string ⟨#[58]⟩] w fun e w' => e = .returned (.tuple #[.string p, .string l, .bool true]) ∧ Below w.heap.size w w'))
    (CP : Hid (∀ w, Calls Tryz.prog 75 #[.string p] w fun e w' => e = .returned (.bool false) ∧ Below w.heap.size w w')) (w : World) :
    Calls Tryz.prog 79 #[.string s] w fun e w' => e = .returned (.tuple #[.string em, .string em, .bool false]) ∧ Below w.heap.size w w' := by
  go_enter Tryz.func79, Tryz.ntmps79
  go_wp2_with fail
  refine (CS.out _).mono ?_
  rintro e w1 ⟨rfl, hb1⟩
  go_wp2_with fail
  refine (CP.out _).mono ?_
  rintro e w2 ⟨rfl, hb2⟩
  go_wp2_with fail
  go_ret3
  exact ⟨rfl, hb1.trans (hb2.mono hb1.size)⟩

set_option maxHeartbeats 400000 in
set_option maxRecDepth 100000 in
theorem split_two (s p l : ByteArray) (ok : Bool) (CS : Hid (∀ w, Calls Tryz.prog 101 #[.string s, .string ⟨#[58]⟩] w fun e w' => e = .returned (.tuple #[.string p, .string l, .bool true]) ∧ Below w.heap.size w w'))
    (CP : Hid (∀ w, Calls Tryz.prog 75 #[.string p] w fun e w' => e = .returned (.bool true) ∧ Below w.heap.size w w'))
    (CL : Hid (∀ w, Calls Tryz.prog 75 #[.string l] w fun e w' => e = .returned (.bool ok) ∧ Below w.heap.size w w')) (w : World) :
    Calls Tryz.prog 79 #[.string s] w fun e w' => e = .returned (.tuple #[.string (if ok = true then p else em), .string (if ok = true then l else em), .bool ok]) ∧ Below w.heap.size w w' := by
  cases ok
  all_goals
    go_enter Tryz.func79, Tryz.ntmps79
    go_wp2_with fail
    refine (CS.out _).mono ?_
    rintro e w1 ⟨rfl, hb1⟩
    go_wp2_with fail
    refine (CP.out _).mono ?_
    rintro e w2 ⟨rfl, hb2⟩
    go_wp2_with fail
    refine (CL.out _).mono ?_
    rintro e w3 ⟨rfl, hb3⟩
    go_wp2_with fail
    go_ret3
    exact ⟨rfl, (hb1.trans (hb2.mono hb1.size)).trans (hb3.mono (by have := hb1.size; have := hb2.size; omega))⟩

theorem split_any (s : ByteArray) (hs : s.size ≤ 1000) (w : World) :
    Calls Tryz.prog 79 #[.string s] w fun e w' => e = .returned (.tuple #[.string (splitA s).1, .string (splitA s).2.1, .bool (splitA s).2.2]) ∧ Below w.heap.size w w' := by
  rcases ci_cases s with ⟨h1, h2⟩ | ⟨i, h1, h2, h3, h4⟩
  · have e1 : splitA s = (em, (if pl (bl s) = true then s else em), pl (bl s)) := by
      unfold splitA
      rw [if_pos h1]
      cases hp : pl (bl s) <;> simp
    rw [e1]
    exact split_miss s _ _ (Lib.hid (scut_miss s h1)) (Lib.hid (alone_any s)) w
  · have e1 : splitA s = if pl (bl (s.extract 0 i)) = true ∧ pl (bl (s.extract (i + 1) s.size)) = true then (s.extract 0 i, s.extract (i + 1) s.size, true) else (em, em, false) := by
      unfold splitA
      rw [if_neg (by rw [h1]; omega), h1]
      rfl
    rw [e1]
    have CP := plain_any (s.extract 0 i)
    have CL := plain_any (s.extract (i + 1) s.size)
    cases hp : pl (bl (s.extract 0 i))
    · rw [hp] at CP
      rw [if_neg (by simp)]
      exact split_no1 s _ _ (Lib.hid (scut_hit s i h1 h2 hs)) (Lib.hid CP) w
    · rw [hp] at CP
      have := split_two s _ _ _ (Lib.hid (scut_hit s i h1 h2 hs)) (Lib.hid CP) (Lib.hid CL) w
      cases hl : pl (bl (s.extract (i + 1) s.size))
      · rw [hl] at this
        exact this
      · rw [hl] at this
        exact this

/-- What Join answers. -/
def joinA (p l : ByteArray) : ByteArray := if p.size = 0 then l else p ++ ⟨#[58]⟩ ++ l
/-- A colon with a plain name on each side. -/
def Hit (s : ByteArray) (i : Nat) : Prop := i < s.size ∧ (bl s).getD i 0 = 58 ∧ pl ((bl s).take i) = true ∧ pl ((bl s).drop (i + 1)) = true
theorem plain_split {s : ByteArray} (h : pl (bl s) = true) : splitA s = (em, s, true) := by
  rcases ci_cases s with ⟨h1, h2⟩ | ⟨i, h1, h2, h3, h4⟩
  · unfold splitA
    rw [if_pos h1, if_pos h]
  · rw [h3, pl_colon] at h
    exact absurd h (by simp)
theorem take_mem (L : List Nat) (i j : Nat) (h : i < j) (hj : j ≤ L.length) (he : L.getD i 0 = 58) : 58 ∈ L.take j := by
  rw [List.getD_eq_getElem?_getD, List.getElem?_eq_getElem (by omega)] at he
  have he' : L[i]'(by omega) = 58 := he
  rw [← he']
  exact List.mem_iff_getElem.2 ⟨i, by simp; omega, by simp⟩
theorem hit_split {s : ByteArray} {i : Nat} (h : Hit s i) : splitA s = (s.extract 0 i, s.extract (i + 1) s.size, true) := by
  obtain ⟨g1, g2, g3, g4⟩ := h
  rcases ci_cases s with ⟨h1, h2⟩ | ⟨j, h1, h2, h3, h4⟩
  · refine absurd (List.mem_of_mem_take (take_mem (bl s) i (i + 1) (by omega) (by rw [bl_len]; omega) g2)) h2
  · have hij : i = j := by
      rcases Nat.lt_trichotomy i j with h | h | h
      · exact absurd (take_mem (bl s) i j h (by rw [bl_len]; omega) g2) h4
      · exact h
      · have hj : (bl s).getD j 0 = 58 := by
          rw [h3, List.getD_eq_getElem?_getD, List.getElem?_append_right (by simp; omega)]
          simp [bl_len]
          rw [Nat.min_eq_left (by omega), Nat.sub_self]
          rfl
        rw [pl_mem _ (take_mem (bl s) j i h (by rw [bl_len]; omega) hj)] at g3
        exact absurd g3 (by simp)
    subst hij
    unfold splitA
    rw [if_neg (by rw [h1]; omega), h1, Int.toNat_natCast, bl_pre, bl_post, if_pos ⟨g3, g4⟩]
theorem nohit_split {s : ByteArray} (h : pl (bl s) = false) (hn : ∀ i, i < s.size → ¬ Hit s i) : splitA s = (em, em, false) := by
  rcases ci_cases s with ⟨h1, h2⟩ | ⟨j, h1, h2, h3, h4⟩
  · unfold splitA
    rw [if_pos h1, h]
    rfl
  · have hj : (bl s).getD j 0 = 58 := by
      rw [h3, List.getD_eq_getElem?_getD, List.getElem?_append_right (by simp; omega)]
      simp [bl_len]
      rw [Nat.min_eq_left (by omega), Nat.sub_self]
      rfl
    unfold splitA
    rw [if_neg (by rw [h1]; omega), h1, Int.toNat_natCast, bl_pre, bl_post, if_neg]
    rintro ⟨g3, g4⟩
    exact hn j h2 ⟨h2, hj, g3, g4⟩
end Go.Proofs.YtmbghdpoeahnaaaGreatDoor.Nz
