/-
  Merged by program out of the texts NzCut, NzIdx, NzSplit, Mem, Str, Leaf, Begins of one seat.
-/
import Derived.Test.YtaoklhalkfcpfaaGreatDoorG03
import Derived.Test.YtaoklhalkfcpfaaGreatDoorProg
import Derived.Test.YtaoklhalkfcpfaaGreatDoorG01
import Derived.Deep.QuietTactic
import Derived.BigQuiet
import Derived.Deep.RegionWith
import Derived.WalkKit
import Derived.WalkSpells
import Derived.WalkLawsBesides
import Derived.Laws.BytesArg
import Derived.Laws.OwnMore
import Derived.Lib.Hide

/- The walk of name.Cut. -/
set_option linter.unusedSimpArgs false
set_option linter.unusedVariables false
namespace Go.Proofs.YtaoklhalkfcpfaaGreatDoor.Nz
open Go.RowKit

/-- What stands from a place on, and the stretch of it. -/
def fr (s : ByteArray) (k : Nat) : ByteArray := s.extract k s.size
def sn (s : ByteArray) (k : Nat) : Nat := St ((bl s).drop k)
def sx (s : ByteArray) (k : Nat) : ByteArray := (fr s k).extract 0 (sn s k)

theorem bl_ext (s : ByteArray) (i j : Nat) : bl (s.extract i j) = ((bl s).drop i).take (j - i) := by
  simp [bl, ByteArray.data_extract, List.map_take, List.map_drop, List.extract_eq_take_drop]
theorem bl_fr (s : ByteArray) (k : Nat) : bl (fr s k) = (bl s).drop k := by
  rw [fr, bl_ext, List.take_of_length_le]
  simp [bl_len]
theorem bl_inj {a b : ByteArray} (h : bl a = bl b) : a = b := by
  have h1 : a.data.toList = b.data.toList := by
    unfold bl at h
    exact (List.map_inj_right (fun x y hxy => UInt8.toNat_inj.1 hxy)).1 h
  have h2 : a.data = b.data := by
    rw [← Array.toArray_toList (xs := a.data), h1, Array.toArray_toList]
  cases a; cases b; simp at h2; rw [h2]
theorem ext_all (u : ByteArray) (n : Nat) (h : u.size ≤ n) : u.extract 0 n = u := by
  apply bl_inj
  rw [bl_ext, List.drop_zero, List.take_of_length_le (by rw [bl_len]; omega)]
theorem fr_size (s : ByteArray) (k : Nat) : (fr s k).size = s.size - k := by
  rw [← bl_len, bl_fr, List.length_drop, bl_len]
theorem sn_le (s : ByteArray) (k : Nat) : sn s k ≤ s.size - k := by
  have := St_le _ ((bl s).drop k) (Nat.le_refl _)
  rw [List.length_drop, bl_len] at this
  exact this
theorem St_at (u : ByteArray) (pos : Nat) (h : pos < u.size) : St ((bl u).drop pos) = if Ok ((Utf8.decode u pos).1 : Int) then (Utf8.decode u pos).2 + St ((bl u).drop (pos + (Utf8.decode u pos).2)) else 0 := by
  rw [St_cons _ (drop_ne u pos h), ← dec_dN, List.drop_drop]
theorem St_end (u : ByteArray) (pos : Nat) (h : ¬ pos < u.size) : St ((bl u).drop pos) = 0 := by
  rw [List.drop_of_length_le (by rw [bl_len]; omega)]
  rfl

def CutRel (u : ByteArray) (m : Nat) (w : World) (wr : World) : Prop := ∃ pos : Nat, wr = w.iter u pos ∧ pos + St ((bl u).drop pos) = m ∧ pos ≤ u.size
theorem dec_le (u : ByteArray) (pos : Nat) (h : pos < u.size) : pos + (Utf8.decode u pos).2 ≤ u.size := by
  rw [dec_dN]
  have := (dN_width _ (drop_ne u pos h)).2
  rw [List.length_drop, bl_len] at this
  omega
theorem pt_t {r : Int} (h : Part r) (w : World) : Calls Tryz.prog 54 #[.int .i32 r] w fun e w' => e = .returned (.bool true) ∧ w = w' := (part_any r w).mono fun e w' ⟨h1, h2⟩ => ⟨by rw [h1, decide_eq_true h], h2⟩
theorem pt_f {r : Int} (h : ¬ Part r) (w : World) : Calls Tryz.prog 54 #[.int .i32 r] w fun e w' => e = .returned (.bool false) ∧ w = w' := (part_any r w).mono fun e w' ⟨h1, h2⟩ => ⟨by rw [h1, decide_eq_false h], h2⟩
theorem ret_two {a b : ByteArray} {x y : Int} (h : a = b) (h2 : x = y) : Ending.returned (.tuple #[.string a, .int .i64 x]) = .returned (.tuple #[.string b, .int .i64 y]) := by rw [h, h2]

set_option maxHeartbeats 1000000 in
set_option maxRecDepth 100000 in
theorem cut_any (s : ByteArray) (k : Nat) (hs : s.size ≤ 1000000) (hk : k ≤ s.size) (w : World) :
    Calls Tryz.prog 39 #[.string s, .int .i64 k] w fun e w' => e = .returned (.tuple #[.string (sx s k), .int .i64 ((k : Int) + (sn s k : Int))]) ∧ Below w.heap.size w w' := by
  have b1 : decide ((k : Int) < 0) = false := by simp
  have b2 : decide ((s.size : Int) < (k : Int)) = false := by simp; omega
  have b3 : decide (s.size < k) = false := by simp; omega
  have i1 : (0 : Int) ≤ (k : Int) := by omega
  have i2 : (k : Int) ≤ (s.size : Int) := by omega
  have hu : fr s k = s.extract k s.size := rfl
  have hz := fr_size s k
  have HM : Hid (sn s k = St (bl (fr s k))) := Lib.hid (by rw [sn, bl_fr])
  have HX : Hid (sx s k = (fr s k).extract 0 (sn s k)) := Lib.hid rfl
  generalize sx s k = res at *
  generalize sn s k = m at *
  go_enter Tryz.func39, Tryz.ntmps39
  go_wp2_with fail
  rw [← hu]
  clear hu
  generalize fr s k = u at *
  have HB := Lib.hid (fun pos => (Below.refl w.heap.size w).alloc (Nat.le_refl _) (.stringIter u pos))
  have HA := Lib.hid (St_at u)
  have HE := Lib.hid (St_end u)
  have HD := Lib.hid (dec_le u)
  go_loopw [7, 8] (fun _ _ wr => CutRel u m w wr) (fun _ _ wr => u.size - wr.iterPos w.heap.size)
  case atStart => exact ⟨0, rfl, by rw [HM.out, List.drop_zero]; omega, by omega⟩
  case round =>
    obtain ⟨pos, rfl, hq, hpl⟩ := hrel
    have HQ := Lib.hid hq
    clear hq
    by_cases hp : pos < u.size
    · have hnx : ∀ ty, (Instr.next (.pointer (some ⟨w.heap.size, 0, none⟩)) true ty).run Tryz.prog (w.iter u pos) = _ := fun ty => run_next_any w u pos ty hp
      have hwd := width_pos u pos hp
      have HR := Lib.hid (HA.out pos hp)
      have hd := HD.out pos hp
      have i3 : (0 : Int) ≤ (pos : Int) := by omega
      have i4 : (pos : Int) ≤ (u.size : Int) := by omega
      clear HA HD
      generalize (Utf8.decode u pos).1 = r at *
      generalize (Utf8.decode u pos).2 = d at *
      by_cases h58 : (r : Int) = 58
      · have c1 : ((r : Int) != 58) = false := by simp [h58]
        have HO : Hid (Ok (r : Int)) := Lib.hid (.inl h58)
        clear h58
        go_wp2_with fail
        go_roundw
        case rel =>
          refine ⟨pos + d, rfl, ?_, hd⟩
          have q := HQ.out
          rw [HR.out, if_pos HO.out] at q
          omega
        case measure => simp; omega
      · have c1 : ((r : Int) != 58) = true := by simp [h58]
        by_cases hP : Part (r : Int)
        · have HO : Hid (Ok (r : Int)) := Lib.hid (.inr hP)
          have CP := Lib.hid (fun W => pt_t hP W)
          clear h58 hP
          go_wp2_with (first | (go_at_call 54; refine (CP.out _).mono ?_; rintro e w' ⟨rfl, rfl⟩))
          go_roundw
          case rel =>
            refine ⟨pos + d, rfl, ?_, hd⟩
            have q := HQ.out
            rw [HR.out, if_pos HO.out] at q
            omega
          case measure => simp; omega
        · have HO : Hid (¬ Ok (r : Int)) := Lib.hid (by rintro (h | h); exact h58 h; exact hP h)
          have CP := Lib.hid (fun W => pt_f hP W)
          clear h58 hP
          go_wp2_with (first | (go_at_call 54; refine (CP.out _).mono ?_; rintro e w' ⟨rfl, rfl⟩))
          go_ret2
          have q := HQ.out
          rw [HR.out, if_neg HO.out] at q
          refine ⟨ret_two ?_ ?_, HB.out _⟩
          · rw [HX.out, ← q]
            rfl
          · omega
    · have hnx : ∀ ty, (Instr.next (.pointer (some ⟨w.heap.size, 0, none⟩)) true ty).run Tryz.prog (w.iter u pos) = _ := fun ty => run_next_end w u pos ty hp
      go_wp2
      go_ret2
      have q := HQ.out
      rw [HE.out pos hp] at q
      have hm : m = u.size := by omega
      refine ⟨ret_two ?_ ?_, HB.out pos⟩
      · rw [HX.out, ext_all _ _ (by omega)]
      · omega


end Go.Proofs.YtaoklhalkfcpfaaGreatDoor.Nz

/- The walk of strings.Cut at a colon. -/
set_option linter.unusedSimpArgs false
set_option linter.unusedVariables false
namespace Go.Proofs.YtaoklhalkfcpfaaGreatDoor.Nz
open Go.RowKit

theorem below_drewN {B : Nat} {w w' : World} (h : Below B w w') (n : Nat) : Below B w (w'.drewN n) := ⟨h.os, h.tape, h.output, h.size, h.block⟩

/-- Where the first colon stands. -/
def ci (s : ByteArray) : Int := Lib.indexByte s.data.toList 58
theorem ib_cases : ∀ (l : List UInt8), (Lib.indexByte l 58 = -1 ∧ 58 ∉ l.map UInt8.toNat) ∨
    ∃ i : Nat, Lib.indexByte l 58 = i ∧ i < l.length ∧ l.map UInt8.toNat = (l.map UInt8.toNat).take i ++ 58 :: (l.map UInt8.toNat).drop (i + 1) ∧ 58 ∉ (l.map UInt8.toNat).take i
  | [] => .inl ⟨rfl, by simp⟩
  | b :: l => by
    unfold Lib.indexByte
    by_cases hb : b = 58
    · subst hb
      exact .inr ⟨0, by simp, by simp, by simp, by simp⟩
    · have hb1 : (b == 58) = false := by simpa using hb
      have hb2 : b.toNat ≠ 58 := fun h => hb (UInt8.toNat_inj.1 (by rw [h]; rfl))
      rw [hb1]
      rcases ib_cases l with ⟨h1, h2⟩ | ⟨i, h1, h2, h3, h4⟩
      · refine .inl ⟨by rw [h1]; rfl, ?_⟩
        rw [List.map_cons, List.mem_cons]
        rintro (h | h)
        · exact hb2 h.symm
        · exact h2 h
      · refine .inr ⟨i + 1, ?_, by simp; omega, ?_, ?_⟩
        · rw [h1]
          have : (((i : Int)) == -1) = false := by rw [beq_eq_false_iff_ne]; omega
          simp [this]
        · rw [List.map_cons, List.take_succ_cons, List.drop_succ_cons, List.cons_append, ← h3]
        · rw [List.map_cons, List.take_succ_cons, List.mem_cons]
          rintro (h | h)
          · exact hb2 h.symm
          · exact h4 h
theorem ci_cases (s : ByteArray) : (ci s = -1 ∧ 58 ∉ bl s) ∨ ∃ i : Nat, ci s = i ∧ i < s.size ∧ bl s = (bl s).take i ++ 58 :: (bl s).drop (i + 1) ∧ 58 ∉ (bl s).take i := by
  have := ib_cases s.data.toList
  rw [← Lib.size_eq] at this
  exact this

def em : ByteArray := ⟨#[]⟩
/-- What Split answers. -/
def splitA (s : ByteArray) : ByteArray × ByteArray × Bool :=
  if ci s = -1 then (if pl (bl s) = true then (em, s, true) else (em, em, false))
  else if pl (bl (s.extract 0 (ci s).toNat)) = true ∧ pl (bl (s.extract ((ci s).toNat + 1) s.size)) = true then (s.extract 0 (ci s).toNat, s.extract ((ci s).toNat + 1) s.size, true) else (em, em, false)
theorem bl_pre (s : ByteArray) (i : Nat) : bl (s.extract 0 i) = (bl s).take i := by rw [bl_ext]; simp
theorem bl_post (s : ByteArray) (i : Nat) : bl (s.extract i s.size) = (bl s).drop i := bl_fr s i

set_option maxHeartbeats 400000 in
set_option maxRecDepth 100000 in
theorem idxb_any (s : ByteArray) (c : Int) (w : World) :
    Calls Tryz.prog 81 #[.string s, .int .u8 c] w fun e w' => e = .returned (.int .i64 (Lib.indexByte s.data.toList c.toNat.toUInt8)) ∧ w = w' := by
  go_enter Tryz.func81, Tryz.ntmps81
  go_wp2
  rw [run_callFunc_extern Tryz.func92 (by kernel_rfl) (by kernel_rfl) (by kernel_rfl) (e := Extern.BytealgIndexByte.indexByte) (by kernel_rfl), Lib.run_indexByteString]
  simp only [Result.andThen]
  rw [Oper.upon_value]
  go_wp2
  go_ret
  exact ⟨rfl, rfl⟩

set_option maxHeartbeats 1000000 in
set_option maxRecDepth 100000 in
theorem idx_any (s : ByteArray) (w : World) :
    Calls Tryz.prog 76 #[.string s, .string ⟨#[58]⟩] w fun e w' => e = .returned (.int .i64 (ci s)) ∧ w = w' := by
  go_enter Tryz.func76, Tryz.ntmps76
  go_wp2_with (go_at_call 81; refine (idxb_any _ _ _).mono ?_; rintro e w' ⟨rfl, rfl⟩)
  · have h : ([58] == s.toList) = true := by assumption
    go_ret
    refine ⟨?_, rfl⟩
    have e : s.data.toList = [58] := by rw [← Lib.toList_data]; exact (beq_iff_eq.1 h).symm
    unfold ci
    rw [e]
    rfl
  · go_ret
    exact ⟨rfl, rfl⟩
theorem ret_three {a b c d : ByteArray} {x y : Bool} (h : a = b) (h1 : c = d) (h2 : x = y) : Ending.returned (.tuple #[.string a, .string c, .bool x]) = .returned (.tuple #[.string b, .string d, .bool y]) := by rw [h, h1, h2]

set_option maxHeartbeats 1000000 in
set_option maxRecDepth 100000 in
theorem lcut_hit (s : ByteArray) (i : Nat) (h : ci s = i) (hi : i < s.size) (hs : s.size ≤ 1000000) (w : World) :
    Calls Tryz.prog 70 #[.string s, .string ⟨#[58]⟩] w fun e w' => e = .returned (.tuple #[.string (s.extract 0 i), .string (s.extract (i + 1) s.size), .bool true]) ∧ Below w.heap.size w w' := by
  have CI := Lib.hid (idx_any s)
  rw [h] at CI
  clear h
  have c1 : (0 : Int) ≤ (i : Int) := by omega
  have c2 : (i : Int) ≤ (s.size : Int) := by omega
  have c3 : (0 : Int) ≤ (i : Int) + 1 := by omega
  have c4 : (i : Int) + 1 ≤ (s.size : Int) := by omega
  have c5 : decide ((0 : Int) ≤ (i : Int)) = true := by simp
  have q3 : ((i : Int) + 1).toNat = i + 1 := by omega
  have q2 : IntKind.i64.wrap ((i : Int) + 1) = (i : Int) + 1 := IntWalk.i64_in _ (by omega)
  go_enter Tryz.func70, Tryz.ntmps70
  go_wp2_with (go_at_call 76; refine (CI.out _).mono ?_; rintro e w' ⟨rfl, rfl⟩)
  go_quiet (fail)
  go_wp2
  go_ret3
  exact ⟨rfl, below_drewN (Below.refl _ _) _⟩

set_option maxHeartbeats 1000000 in
set_option maxRecDepth 100000 in
theorem lcut_miss (s : ByteArray) (h : ci s = -1) (w : World) :
    Calls Tryz.prog 70 #[.string s, .string ⟨#[58]⟩] w fun e w' => e = .returned (.tuple #[.string s, .string ⟨#[]⟩, .bool false]) ∧ Below w.heap.size w w' := by
  have CI := Lib.hid (idx_any s)
  rw [h] at CI
  clear h
  go_enter Tryz.func70, Tryz.ntmps70
  go_wp2_with (go_at_call 76; refine (CI.out _).mono ?_; rintro e w' ⟨rfl, rfl⟩)
  go_ret3
  exact ⟨rfl, Below.refl _ _⟩

set_option maxHeartbeats 1000000 in
set_option maxRecDepth 100000 in
theorem scut_hit (s : ByteArray) (i : Nat) (h : ci s = i) (hi : i < s.size) (hs : s.size ≤ 1000000) (w : World) :
    Calls Tryz.prog 55 #[.string s, .string ⟨#[58]⟩] w fun e w' => e = .returned (.tuple #[.string (s.extract 0 i), .string (s.extract (i + 1) s.size), .bool true]) ∧ Below w.heap.size w w' := by
  have CL := Lib.hid (lcut_hit s i h hi hs)
  clear h hi hs
  go_enter Tryz.func55, Tryz.ntmps55
  go_wp2_with (go_at_call 70; refine (CL.out _).mono ?_; rintro e w' ⟨rfl, hb⟩)
  go_ret3
  exact ⟨rfl, hb⟩
set_option maxHeartbeats 1000000 in
set_option maxRecDepth 100000 in
theorem scut_miss (s : ByteArray) (h : ci s = -1) (w : World) :
    Calls Tryz.prog 55 #[.string s, .string ⟨#[58]⟩] w fun e w' => e = .returned (.tuple #[.string s, .string ⟨#[]⟩, .bool false]) ∧ Below w.heap.size w w' := by
  have CL := Lib.hid (lcut_miss s h)
  clear h
  go_enter Tryz.func55, Tryz.ntmps55
  go_wp2_with (go_at_call 70; refine (CL.out _).mono ?_; rintro e w' ⟨rfl, hb⟩)
  go_ret3
  exact ⟨rfl, hb⟩

end Go.Proofs.YtaoklhalkfcpfaaGreatDoor.Nz

/- The walks of name.Split and of name.Join. -/
set_option linter.unusedSimpArgs false
set_option linter.unusedVariables false
namespace Go.Proofs.YtaoklhalkfcpfaaGreatDoor.Nz
open Go.RowKit

set_option maxHeartbeats 1000000 in
set_option maxRecDepth 100000 in
theorem alone_any (s : ByteArray) (w : World) :
    Calls Tryz.prog 56 #[.string s] w fun e w' => e = .returned (.tuple #[.string em, .string (if pl (bl s) = true then s else em), .bool (pl (bl s))]) ∧ Below w.heap.size w w' := by
  have CL := Lib.hid (plain_any s)
  cases hp : pl (bl s) <;> rw [hp] at CL <;> clear hp
  · go_enter Tryz.func56, Tryz.ntmps56
    go_wp2_with (go_at_call 57; refine (CL.out _).mono ?_; rintro e w' ⟨rfl, hb⟩)
    go_ret3
    exact ⟨rfl, hb⟩
  · go_enter Tryz.func56, Tryz.ntmps56
    go_wp2_with (go_at_call 57; refine (CL.out _).mono ?_; rintro e w' ⟨rfl, hb⟩)
    go_ret3
    exact ⟨rfl, hb⟩


set_option maxHeartbeats 400000 in
set_option maxRecDepth 100000 in
theorem split_miss (s res : ByteArray) (ok : Bool) (CS : Hid (∀ w, Calls Tryz.prog 55 #[.string s, .string ⟨#[58]⟩] w fun e w' => e = .returned (.tuple #[.string s, .string ⟨#[]⟩, .bool false]) ∧ Below w.heap.size w w'))
    (CA : Hid (∀ w, Calls Tryz.prog 56 #[.string s] w fun e w' => e = .returned (.tuple #[.string em, .string res, .bool ok]) ∧ Below w.heap.size w w')) (w : World) :
    Calls Tryz.prog 40 #[.string s] w fun e w' => e = .returned (.tuple #[.string em, .string res, .bool ok]) ∧ Below w.heap.size w w' := by
  go_enter Tryz.func40, Tryz.ntmps40
  go_wp2_with fail
  refine (CS.out _).mono ?_
  rintro e w1 ⟨rfl, hb1⟩
  go_wp2_with fail
  refine (CA.out _).mono ?_
  rintro e w2 ⟨rfl, hb2⟩
  go_wp2_with fail
  go_ret3
  exact ⟨rfl, hb1.trans (hb2.mono hb1.size)⟩

set_option maxHeartbeats 400000 in
set_option maxRecDepth 100000 in
theorem split_no1 (s p l : ByteArray) (CS : Hid (∀ w, Calls Tryz.prog 55 #[.string s, .string ⟨#[58]⟩] w fun e w' => e = .returned (.tuple #[.string p, .string l, .bool true]) ∧ Below w.heap.size w w'))
    (CP : Hid (∀ w, Calls Tryz.prog 57 #[.string p] w fun e w' => e = .returned (.bool false) ∧ Below w.heap.size w w')) (w : World) :
    Calls Tryz.prog 40 #[.string s] w fun e w' => e = .returned (.tuple #[.string em, .string em, .bool false]) ∧ Below w.heap.size w w' := by
  go_enter Tryz.func40, Tryz.ntmps40
  go_wp2_with fail
  refine (CS.out _).mono ?_
  rintro e w1 ⟨rfl, hb1⟩
  go_wp2_with fail
  refine (CP.out _).mono ?_
  rintro e w2 ⟨rfl, hb2⟩
  go_wp2_with fail
  go_ret3
  exact ⟨rfl, hb1.trans (hb2.mono hb1.size)⟩

set_option maxHeartbeats 400000 in
set_option maxRecDepth 100000 in
theorem split_two (s p l : ByteArray) (ok : Bool) (CS : Hid (∀ w, Calls Tryz.prog 55 #[.string s, .string ⟨#[58]⟩] w fun e w' => e = .returned (.tuple #[.string p, .string l, .bool true]) ∧ Below w.heap.size w w'))
    (CP : Hid (∀ w, Calls Tryz.prog 57 #[.string p] w fun e w' => e = .returned (.bool true) ∧ Below w.heap.size w w'))
    (CL : Hid (∀ w, Calls Tryz.prog 57 #[.string l] w fun e w' => e = .returned (.bool ok) ∧ Below w.heap.size w w')) (w : World) :
    Calls Tryz.prog 40 #[.string s] w fun e w' => e = .returned (.tuple #[.string (if ok = true then p else em), .string (if ok = true then l else em), .bool ok]) ∧ Below w.heap.size w w' := by
  cases ok
  all_goals
    go_enter Tryz.func40, Tryz.ntmps40
    go_wp2_with fail
    refine (CS.out _).mono ?_
    rintro e w1 ⟨rfl, hb1⟩
    go_wp2_with fail
    refine (CP.out _).mono ?_
    rintro e w2 ⟨rfl, hb2⟩
    go_wp2_with fail
    refine (CL.out _).mono ?_
    rintro e w3 ⟨rfl, hb3⟩
    go_wp2_with fail
    go_ret3
    exact ⟨rfl, (hb1.trans (hb2.mono hb1.size)).trans (hb3.mono (by have := hb1.size; have := hb2.size; omega))⟩

theorem split_any (s : ByteArray) (hs : s.size ≤ 1000000) (w : World) :
    Calls Tryz.prog 40 #[.string s] w fun e w' => e = .returned (.tuple #[.string (splitA s).1, .string (splitA s).2.1, .bool (splitA s).2.2]) ∧ Below w.heap.size w w' := by
  rcases ci_cases s with ⟨h1, h2⟩ | ⟨i, h1, h2, h3, h4⟩
  · have e1 : splitA s = (em, (if pl (bl s) = true then s else em), pl (bl s)) := by
      unfold splitA
      rw [if_pos h1]
      cases hp : pl (bl s) <;> simp
    rw [e1]
    exact split_miss s _ _ (Lib.hid (scut_miss s h1)) (Lib.hid (alone_any s)) w
  · have e1 : splitA s = if pl (bl (s.extract 0 i)) = true ∧ pl (bl (s.extract (i + 1) s.size)) = true then (s.extract 0 i, s.extract (i + 1) s.size, true) else (em, em, false) := by
      unfold splitA
      rw [if_neg (by rw [h1]; omega), h1]
      rfl
    rw [e1]
    have CP := plain_any (s.extract 0 i)
    have CL := plain_any (s.extract (i + 1) s.size)
    cases hp : pl (bl (s.extract 0 i))
    · rw [hp] at CP
      rw [if_neg (by simp)]
      exact split_no1 s _ _ (Lib.hid (scut_hit s i h1 h2 hs)) (Lib.hid CP) w
    · rw [hp] at CP
      have := split_two s _ _ _ (Lib.hid (scut_hit s i h1 h2 hs)) (Lib.hid CP) (Lib.hid CL) w
      cases hl : pl (bl (s.extract (i + 1) s.size))
      · rw [hl] at this
        exact this
      · rw [hl] at this
        exact this

/-- What Join answers. -/
def joinA (p l : ByteArray) : ByteArray := if p.size = 0 then l else p ++ ⟨#[58]⟩ ++ l
/-- A colon with a plain name on each side. -/
def Hit (s : ByteArray) (i : Nat) : Prop := i < s.size ∧ (bl s).getD i 0 = 58 ∧ pl ((bl s).take i) = true ∧ pl ((bl s).drop (i + 1)) = true
theorem plain_split {s : ByteArray} (h : pl (bl s) = true) : splitA s = (em, s, true) := by
  rcases ci_cases s with ⟨h1, h2⟩ | ⟨i, h1, h2, h3, h4⟩
  · unfold splitA
    rw [if_pos h1, if_pos h]
  · rw [h3, pl_colon] at h
    exact absurd h (by simp)
theorem take_mem (L : List Nat) (i j : Nat) (h : i < j) (hj : j ≤ L.length) (he : L.getD i 0 = 58) : 58 ∈ L.take j := by
  rw [List.getD_eq_getElem?_getD, List.getElem?_eq_getElem (by omega)] at he
  have he' : L[i]'(by omega) = 58 := he
  rw [← he']
  exact List.mem_iff_getElem.2 ⟨i, by simp; omega, by simp⟩
theorem hit_split {s : ByteArray} {i : Nat} (h : Hit s i) : splitA s = (s.extract 0 i, s.extract (i + 1) s.size, true) := by
  obtain ⟨g1, g2, g3, g4⟩ := h
  rcases ci_cases s with ⟨h1, h2⟩ | ⟨j, h1, h2, h3, h4⟩
  · refine absurd (List.mem_of_mem_take (take_mem (bl s) i (i + 1) (by omega) (by rw [bl_len]; omega) g2)) h2
  · have hij : i = j := by
      rcases Nat.lt_trichotomy i j with h | h | h
      · exact absurd (take_mem (bl s) i j h (by rw [bl_len]; omega) g2) h4
      · exact h
      · have hj : (bl s).getD j 0 = 58 := by
          rw [h3, List.getD_eq_getElem?_getD, List.getElem?_append_right (by simp; omega)]
          simp [bl_len]
          rw [Nat.min_eq_left (by omega), Nat.sub_self]
          rfl
        rw [pl_mem _ (take_mem (bl s) j i h (by rw [bl_len]; omega) hj)] at g3
        exact absurd g3 (by simp)
    subst hij
    unfold splitA
    rw [if_neg (by rw [h1]; omega), h1, Int.toNat_natCast, bl_pre, bl_post, if_pos ⟨g3, g4⟩]
theorem nohit_split {s : ByteArray} (h : pl (bl s) = false) (hn : ∀ i, i < s.size → ¬ Hit s i) : splitA s = (em, em, false) := by
  rcases ci_cases s with ⟨h1, h2⟩ | ⟨j, h1, h2, h3, h4⟩
  · unfold splitA
    rw [if_pos h1, h]
    rfl
  · have hj : (bl s).getD j 0 = 58 := by
      rw [h3, List.getD_eq_getElem?_getD, List.getElem?_append_right (by simp; omega)]
      simp [bl_len]
      rw [Nat.min_eq_left (by omega), Nat.sub_self]
      rfl
    unfold splitA
    rw [if_neg (by rw [h1]; omega), h1, Int.toNat_natCast, bl_pre, bl_post, if_neg]
    rintro ⟨g3, g4⟩
    exact hn j h2 ⟨h2, hj, g3, g4⟩
end Go.Proofs.YtaoklhalkfcpfaaGreatDoor.Nz

/- Slices of numbers in memory: what a slice reads as; what a slice of the call's own reads as; bytes as a string. -/
set_option linter.unusedSimpArgs false
set_option linter.unusedVariables false
namespace Go.Proofs.YtaoklhalkfcpfaaGreatDoor
open Go.RowKit

/-- The slice at A reads as the numbers l, and lies below block B. -/
def Rd (k : IntKind) (w : World) (B : Nat) (A : Option Addr) (l : List Int) : Prop :=
  l = [] ∨ ∃ b off, A = some ⟨b, off, none⟩ ∧ b < B ∧ ∀ j, j < l.length → w.cell? ⟨b, off + j, none⟩ = some (.int k (l.getD j 0))

theorem Rd.below {k : IntKind} {w w' : World} {B : Nat} {A : Option Addr} {l : List Int} (h : Rd k w B A l) (hb : Below B w w') : Rd k w' B A l := by
  rcases h with h | ⟨b, off, rfl, hlt, hc⟩
  · exact .inl h
  · exact .inr ⟨b, off, rfl, hlt, fun j hj => (hb.cell (p := ⟨b, off + j, none⟩) hlt).trans (hc j hj)⟩
theorem Rd.more {k : IntKind} {w : World} {B B' : Nat} {A : Option Addr} {l : List Int} (h : Rd k w B A l) (hB : B ≤ B') : Rd k w B' A l := by
  rcases h with h | ⟨b, off, rfl, hlt, hc⟩
  · exact .inl h
  · exact .inr ⟨b, off, rfl, by omega, hc⟩
theorem Rd.at_ {k : IntKind} {w : World} {B : Nat} {A : Option Addr} {l : List Int} (h : Rd k w B A l) {j : Nat} (hj : j < l.length) :
    ∃ b off, A = some ⟨b, off, none⟩ ∧ b < B ∧ w.cell? ⟨b, off + j, none⟩ = some (.int k (l.getD j 0)) := by
  rcases h with h | ⟨b, off, rfl, hlt, hc⟩
  · subst h; simp at hj
  · exact ⟨b, off, rfl, hlt, hc j hj⟩
/-- A slice of the call's own is a slice value, and reads as what it owns. -/
theorem own_rd {k : IntKind} {w : World} {B : Nat} {e : TypeId} {v : Value} {l : List Int} (h : w.ownsRow B e 1 v l.length (l.map (Value.int k))) :
    ∃ A c, v = .slice A l.length c ∧ Rd k w w.heap.size A l := by
  rcases h.2 with ⟨rfl, h0⟩ | ⟨g, cap, cur, rfl, _, hh, _, _, _, _⟩
  · have : l = [] := List.eq_nil_of_length_eq_zero h0
    subst this
    exact ⟨none, 0, rfl, .inl rfl⟩
  · refine ⟨_, cap, rfl, .inr ⟨g, 0, rfl, ?_, fun j hj => ?_⟩⟩
    · exact (h.lt g rfl).2
    · have := h.cellAt (g := g) j (by omega)
      rw [Nat.zero_add, this]
      simp [List.getElem?_eq_getElem hj]
/-- 'string(b)'. -/
theorem conv_rd {w : World} {B : Nat} {A : Option Addr} {l : List Int} {c : Nat} (h : Rd .u8 w B A l) :
    (convert 53 9 (.slice A l.length c)).run Tryz.prog w = .ok (.string (strOfNums l)) w := by
  rcases h with rfl | ⟨b, off, rfl, hlt, hc⟩
  · cases A with
    | none => exact run_convert_bytes_nil w 53 5 Tryz.underlying53 Tryz.underlying5 _ _ 9 Tryz.underlying9
    | some a =>
      rw [run_convert_bytes_string w 53 9 5 _ _ c Tryz.underlying53 Tryz.underlying5 Tryz.underlying9, run_bytesToString w a _ c [] (by simp [loadCells, loadCellsFrom])]
      rfl
  · exact run_convert_bytes_arg w 53 5 Tryz.underlying53 Tryz.underlying5 b off l.length c l rfl hc 9 Tryz.underlying9
end Go.Proofs.YtaoklhalkfcpfaaGreatDoor

/- Strings as lists of bytes: Rune, All and Whole by them. -/
set_option linter.unusedSimpArgs false
set_option linter.unusedVariables false
namespace Go.Proofs.YtaoklhalkfcpfaaGreatDoor

def byts (s : ByteArray) : List Int := s.data.toList.map fun b => (b.toNat : Int)
theorem byts_len (s : ByteArray) : (byts s).length = s.size := by simp [byts]
theorem byts_nn (s : ByteArray) : NN (byts s) := fun x hx => by
  obtain ⟨b, _, rfl⟩ := List.mem_map.1 hx
  omega
theorem bt_byts (s : ByteArray) (k : Nat) : bt s k = (byts s).getD k 0 := by
  unfold bt byts
  simp only [List.getD_eq_getElem?_getD, List.getElem?_map]
  cases s.data.toList[k]? <;> simp
theorem runeF_dec (s : ByteArray) (a : Nat) (h : a < s.size) : runeF s a = dec1 ((byts s).drop a) := by
  unfold runeF dec1
  rw [if_neg (by omega), Int.toNat_natCast, List.length_drop, byts_len]
  congr 1
  funext k
  rw [bt_byts]
  simp [List.getD_eq_getElem?_getD, List.getElem?_drop]
theorem allGo_dec (s : ByteArray) : ∀ (f a : Nat), a ≤ s.size →
    allGo s f a = ((decL f ((byts s).drop a)).1, ((a + (decL f ((byts s).drop a)).2.1 : Nat) : Int), (decL f ((byts s).drop a)).2.2)
  | 0, a, h => by simp [allGo, decL]
  | f + 1, a, h => by
    by_cases hlt : a < s.size
    · have hne : (byts s).drop a ≠ [] := by
        intro e
        have := congrArg List.length e
        rw [List.length_drop, byts_len] at this
        simp at this
        omega
      by_cases he : (runeF s a).2.2 = 0
      · rw [allGo_ok s f a hlt he]
        have hk := runeF_okay s a hlt
        have hn : (runeF s a).2.1.toNat ≤ s.size - a := by
          rcases hk with hk | hk
          · omega
          · omega
        rw [runeF_dec s a hlt] at he hn ⊢
        rw [decL_ok f _ hne he, allGo_dec s f _ (by omega)]
        simp [Nat.add_assoc]
      · rw [allGo_err s f a hlt he]
        rw [runeF_dec s a hlt] at he ⊢
        rw [decL_err f _ hne he]
        simp
    · rw [allGo_done s _ a (by omega)]
      have : (byts s).drop a = [] := List.drop_of_length_le (by rw [byts_len]; omega)
      rw [this, decL_nil]
      simp
theorem allF_dec (s : ByteArray) : allF s = ((decF (byts s)).1, ((decF (byts s)).2.1 : Int), (decF (byts s)).2.2) := by
  unfold allF decF
  rw [allGo_dec s s.size 0 (by omega), byts_len]
  simp

theorem ofNat_toNat (x : Int) (h0 : 0 ≤ x) (h1 : x ≤ 255) : ((UInt8.ofNat x.toNat).toNat : Int) = x := by
  rw [UInt8.toNat_ofNat']
  omega
theorem byts_str (l : List Int) (h : NN l) (h1 : ∀ x ∈ l, x ≤ 255) : byts (strOfNums l) = l := by
  unfold byts
  rw [strOfNums_data, List.map_map]
  conv => rhs; rw [← List.map_id l]
  refine List.map_congr_left fun x hx => ?_
  simp only [Function.comp]
  exact ofNat_toNat x (h x hx) (h1 x hx)
theorem byts_inj {s t : ByteArray} (h : byts s = byts t) : s = t := by
  unfold byts at h
  have hl := congrArg List.length h
  simp only [List.length_map] at hl
  have : s.data.toList = t.data.toList := by
    refine List.ext_getElem hl fun i h1 h2 => ?_
    have := congrArg (fun l => l[i]?) h
    simp only [List.getElem?_map, List.getElem?_eq_getElem h1, List.getElem?_eq_getElem h2, Option.map_some, Option.some.injEq] at this
    exact UInt8.toNat_inj.1 (by omega)
  cases s; cases t
  simp only [ByteArray.mk.injEq] at this ⊢
  exact Array.toList_inj.1 this
theorem byts_extract (s : ByteArray) (a b : Nat) : byts (s.extract a b) = ((byts s).take b).drop a := by
  unfold byts
  rw [ByteArray.data_extract, Array.toList_extract, List.extract_eq_take_drop, List.map_take, List.map_drop, List.drop_take]
end Go.Proofs.YtaoklhalkfcpfaaGreatDoor

/- Walks: what utf's small functions return (lead, span, follow, possible), whatever the world. -/
namespace Go.Proofs.YtaoklhalkfcpfaaGreatDoor
open Go.RowKit

theorem i32_or0 (x : Int) (h0 : 0 ≤ x) (h1 : x < 2147483648) : bits .or .i32 x 0 = x := by
  have := bits_join .i32 31 (by decide) wraps_i32 0 x 0 h0 (by omega) h1 (by omega) (by omega) (by omega)
  simpa using this
theorem ret_two {k1 k2 : IntKind} {a b a1 b1 : Int} (h : a = a1) (h1 : b = b1) : Ending.returned (.tuple #[.int k1 a, .int k2 b]) = .returned (.tuple #[.int k1 a1, .int k2 b1]) := by rw [h, h1]
theorem ret_int {k : IntKind} {a b : Int} (h : a = b) : Ending.returned (.int k a) = .returned (.int k b) := by rw [h]
theorem ret_bool {a b : Bool} (h : a = b) : Ending.returned (.bool a) = .returned (.bool b) := by rw [h]

set_option maxHeartbeats 400000 in
theorem span_any (n : Nat) (w : World) (h0 : 1 ≤ n) (h1 : n ≤ 4) : Calls Tryz.prog 107 #[.int .i64 n] w fun e w' => e = .returned (.tuple #[.int .i32 (least n), .int .i32 (most n)]) ∧ w = w' := by
  have h : n = 1 ∨ n = 2 ∨ n = 3 ∨ n = 4 := by omega
  rcases h with rfl | rfl | rfl | rfl
  all_goals
    go_enter Tryz.func107, Tryz.ntmps107
    go_wp2
    go_ret2
    exact ⟨rfl, rfl⟩

set_option maxHeartbeats 400000 in
theorem lead_any (b : Int) (w : World) (h0 : 0 ≤ b) (h1 : b < 256) : Calls Tryz.prog 101 #[.int .u8 b] w fun e w' => e = .returned (.tuple #[.int .i32 (leadR b), .int .i64 (leadN b)]) ∧ w = w' := by
  go_enter Tryz.func101, Tryz.ntmps101
  go_wp2
  all_goals
    go_ret2
    refine ⟨?_, rfl⟩
    simp only [beq_iff_eq, beq_eq_false_iff_ne] at *
    unfold leadR leadN
    refine ret_two ?_ ?_
    · repeat' split
      all_goals omega
    · repeat' split
      all_goals omega

set_option maxHeartbeats 4000000 in
theorem poss_any (r : Int) (k n : Nat) (w : World) (h0 : 0 ≤ r) (h1 : r * p64 (n - k) < 2097152) (hk : 1 ≤ k) (hn : k ≤ n) (h4 : n ≤ 4) :
    Calls Tryz.prog 102 #[.int .i32 r, .int .i64 k, .int .i64 n] w fun e w' => e = .returned (.bool (possB r k n)) ∧ w = w' := by
  have h : (k = 1 ∧ n = 1) ∨ (k = 1 ∧ n = 2) ∨ (k = 2 ∧ n = 2) ∨ (k = 1 ∧ n = 3) ∨ (k = 2 ∧ n = 3) ∨ (k = 3 ∧ n = 3) ∨ (k = 1 ∧ n = 4) ∨ (k = 2 ∧ n = 4) ∨ (k = 3 ∧ n = 4) ∨ (k = 4 ∧ n = 4) := by omega
  rcases h with ⟨rfl, rfl⟩ | ⟨rfl, rfl⟩ | ⟨rfl, rfl⟩ | ⟨rfl, rfl⟩ | ⟨rfl, rfl⟩ | ⟨rfl, rfl⟩ | ⟨rfl, rfl⟩ | ⟨rfl, rfl⟩ | ⟨rfl, rfl⟩ | ⟨rfl, rfl⟩
  all_goals
    simp only [Nat.reduceSub, p64_0, p64_1, p64_2, p64_3] at h1
    have h00 := i32_or0 r h0 (by omega)
    go_enter Tryz.func102, Tryz.ntmps102
    go_wp2
    all_goals
      go_ret
      refine ⟨ret_bool (possB_eq _ _ _ _ ?_).symm, rfl⟩
      simp only [Nat.reduceSub, p64_0, p64_1, p64_2, p64_3, least1, least2, least3, least4, most1, most2, most3, most4, decide_eq_true_eq, Bool.false_eq_true, iff_false]
      first
        | omega
        | (simp only [iff_true]; omega)
        | (simp; omega)

set_option maxHeartbeats 400000 in
theorem poss_zero (r : Int) (k : Int) (w : World) :
    Calls Tryz.prog 102 #[.int .i32 r, .int .i64 k, .int .i64 0] w fun e w' => e = .returned (.bool false) ∧ w = w' := by
  go_enter Tryz.func102, Tryz.ntmps102
  go_wp2
  go_ret
  exact ⟨rfl, rfl⟩
end Go.Proofs.YtaoklhalkfcpfaaGreatDoor

/- The walk of the document's begins. -/
set_option linter.unusedSimpArgs false
set_option linter.unusedVariables false
namespace Go.Proofs.YtaoklhalkfcpfaaGreatDoor
open Go.RowKit

theorem below_drewN {B : Nat} {w w' : World} (h : Below B w w') (n : Nat) : Below B w (w'.drewN n) := ⟨h.os, h.tape, h.output, h.size, h.block⟩
def begP (s : ByteArray) (a : Nat) (L : List Int) : Prop := 0 < L.length ∧ a + L.length ≤ s.size ∧ ∀ j, j < L.length → bt s (a + j) = L.getD j 0
def BegRel (s : ByteArray) (a : Nat) (L : List Int) (w : World) (i : Value) (wr : World) : Prop :=
  ∃ k : Nat, k ≤ L.length ∧ i = .int .i64 k ∧ (∀ j, j < k → bt s (a + j) = L.getD j 0) ∧ Below w.heap.size w wr
def BegPost (s : ByteArray) (a : Nat) (L : List Int) (w : World) (e : Ending) (w' : World) : Prop :=
  ∃ b : Bool, e = .returned (.bool b) ∧ (b = true ↔ begP s a L) ∧ Below w.heap.size w w'

set_option maxHeartbeats 1000000 in
set_option maxRecDepth 100000 in
theorem begins_post (s : ByteArray) (a : Nat) (A : Option Addr) (c : Nat) (L : List Int) (w : World) (h : Rd .u8 w w.heap.size A L) (hs : s.size ≤ 100000) (hL : L.length ≤ 100000) (ha : a ≤ 100000) :
    Calls Tryz.prog 49 #[.string s, .int .i64 a, .slice A L.length c] w (BegPost s a L w) := by
  obtain ⟨n, hn⟩ : ∃ n, n = L.length := ⟨_, rfl⟩
  rw [← hn]
  have HN := Lib.hid hn
  have hn1 : n ≤ L.length := by omega
  have hn2 : L.length ≤ n := by omega
  clear hn
  by_cases h0 : n = 0
  · have t0 : ((n : Int) == 0) = true := by simp; omega
    have HP : Hid (¬ begP s a L) := fun hp => by have := hp.1; omega
    clear h0
    go_enter Tryz.func49, Tryz.ntmps49
    go_wp2
    go_ret
    exact ⟨false, rfl, by simp; exact HP.out, Below.refl _ _⟩
  have t0 : ((n : Int) == 0) = false := by simp; omega
  by_cases h1 : s.size < a + n
  · have t1 : decide ((s.size : Int) < (a : Int) + (n : Int)) = true := by simp; omega
    have HP : Hid (¬ begP s a L) := fun hp => by have := hp.2.1; omega
    clear h0
    go_enter Tryz.func49, Tryz.ntmps49
    go_wp2
    go_ret
    exact ⟨false, rfl, by simp; exact HP.out, Below.refl _ _⟩
  have t1 : decide ((s.size : Int) < (a : Int) + (n : Int)) = false := by simp; omega
  have hfit : a + n ≤ s.size := by omega
  have hpos : 0 < n := by omega
  clear h0 h1
  go_enter Tryz.func49, Tryz.ntmps49
  go_wp2_with fail
  go_loopw [7] (fun i wr => BegRel s a L w i wr) (fun i _ => L.length - (intOf i).toNat)
  case atStart => exact ⟨0, Nat.zero_le _, rfl, fun j hj => by omega, Below.refl _ _⟩
  case round =>
    obtain ⟨k, hk, rfl, hall, hbel⟩ := hrel
    have HA := Lib.hid hall
    clear hall
    by_cases hlt : k < n
    · obtain ⟨b, off, rfl, hb, hc⟩ := (h.below hbel).at_ (j := k) (by omega)
      have hbe := bt_eq s (a + k) (by omega)
      have hi1 : (a : Int) + (k : Int) < (s.size : Int) := by omega
      have hi2 : (k : Int) < (n : Int) := by omega
      by_cases he : bt s (a + k) = L.getD k 0
      · have HR : Hid (∀ j, j < k + 1 → bt s (a + j) = L.getD j 0) := fun j hj => by
          rcases Nat.lt_or_ge j k with hj' | hj'
          · exact HA.out j hj'
          · obtain rfl : j = k := by omega
            exact he
        have te : ((s[a + k].toNat : Int) != L.getD k 0) = false := by rw [hbe]; simpa using he
        clear he hbe HA
        generalize L.getD k 0 = x at *
        go_wp2_with fail
        have q1 : (0 : Int) ≤ (a : Int) + (k : Int) := by omega
        have q3 : ((a : Int) + (k : Int)).toNat = a + k := by omega
        have q2 : IntKind.i64.wrap ((a : Int) + (k : Int)) = (a : Int) + (k : Int) := IntWalk.i64_in _ (by omega)
        go_quiet (fail)
        go_wp2
        go_roundw
        case rel =>
          exact ⟨k + 1, by omega, by go_num, HR.out, below_drewN hbel _⟩
        case measure => simp [intOf]; omega
      · have te : ((s[a + k].toNat : Int) != L.getD k 0) = true := by rw [hbe]; simpa using he
        have HP : Hid (¬ begP s a L) := fun hp => he (hp.2.2 k (by omega))
        clear he hbe
        generalize L.getD k 0 = x at *
        go_wp2_with fail
        have q1 : (0 : Int) ≤ (a : Int) + (k : Int) := by omega
        have q3 : ((a : Int) + (k : Int)).toNat = a + k := by omega
        have q2 : IntKind.i64.wrap ((a : Int) + (k : Int)) = (a : Int) + (k : Int) := IntWalk.i64_in _ (by omega)
        go_quiet (fail)
        go_wp2
        go_ret
        exact ⟨false, rfl, by simp; exact HP.out, below_drewN hbel _⟩
    · have HP : Hid (begP s a L) := ⟨by omega, by omega, fun j hj => HA.out j (by omega)⟩
      go_wp2
      go_ret
      exact ⟨true, rfl, by simp; exact HP.out, hbel⟩

theorem begins_yes (s : ByteArray) (a : Nat) (A : Option Addr) (c : Nat) (L : List Int) (w : World) (h : Rd .u8 w w.heap.size A L) (hs : s.size ≤ 100000) (hL : L.length ≤ 100000) (ha : a ≤ 100000) (hp : begP s a L) :
    Calls Tryz.prog 49 #[.string s, .int .i64 a, .slice A L.length c] w fun e w' => e = .returned (.bool true) ∧ Below w.heap.size w w' :=
  (begins_post s a A c L w h hs hL ha).mono fun e w' ⟨b, h1, h2, h3⟩ => ⟨by rw [h1, h2.2 hp], h3⟩
theorem begins_no (s : ByteArray) (a : Nat) (A : Option Addr) (c : Nat) (L : List Int) (w : World) (h : Rd .u8 w w.heap.size A L) (hs : s.size ≤ 100000) (hL : L.length ≤ 100000) (ha : a ≤ 100000) (hp : ¬ begP s a L) :
    Calls Tryz.prog 49 #[.string s, .int .i64 a, .slice A L.length c] w fun e w' => e = .returned (.bool false) ∧ Below w.heap.size w w' :=
  (begins_post s a A c L w h hs hL ha).mono fun e w' ⟨b, h1, h2, h3⟩ => ⟨by rw [h1, Bool.eq_false_iff.2 fun hb => hp (h2.1 hb)], h3⟩
end Go.Proofs.YtaoklhalkfcpfaaGreatDoor
