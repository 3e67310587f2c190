/-
  Merged by program out of the texts NzCut, NzIdx, NzSplit, TMath, UMath, Gl, Laid of one seat.
-/
import Derived.Test.YtkeilgompipfjaaGreatDoorG04
import Derived.Test.YtkeilgompipfjaaGreatDoorG01
import Derived.Test.YtkeilgompipfjaaGreatDoorRows
import Derived.Deep.QuietTactic
import Derived.BigQuiet
import Derived.Deep.RegionWith
import Derived.ProofKit
import Derived.LaidMore
import Derived.LaidLaws
import Derived.OpenShut
import Derived.Stop.Joined
import Derived.Lay
import Derived.HandedShaped
import Derived.Shelf.Vars
import Derived.Lib.LaidU8

/- The walk of name.Cut. -/
set_option linter.unusedSimpArgs false
set_option linter.unusedVariables false
namespace Go.Proofs.YtkeilgompipfjaaGreatDoor.Nz
open Go.RowKit

/-- What stands from a place on, and the stretch of it. -/
def fr (s : ByteArray) (k : Nat) : ByteArray := s.extract k s.size
def sn (s : ByteArray) (k : Nat) : Nat := St ((bl s).drop k)
def sx (s : ByteArray) (k : Nat) : ByteArray := (fr s k).extract 0 (sn s k)

theorem bl_ext (s : ByteArray) (i j : Nat) : bl (s.extract i j) = ((bl s).drop i).take (j - i) := by
  simp [bl, ByteArray.data_extract, List.map_take, List.map_drop, List.extract_eq_take_drop]
theorem bl_fr (s : ByteArray) (k : Nat) : bl (fr s k) = (bl s).drop k := by
  rw [fr, bl_ext, List.take_of_length_le]
  simp [bl_len]
theorem bl_inj {a b : ByteArray} (h : bl a = bl b) : a = b := by
  have h1 : a.data.toList = b.data.toList := by
    unfold bl at h
    exact (List.map_inj_right (fun x y hxy => UInt8.toNat_inj.1 hxy)).1 h
  have h2 : a.data = b.data := by
    rw [← Array.toArray_toList (xs := a.data), h1, Array.toArray_toList]
  cases a; cases b; simp at h2; rw [h2]
theorem ext_all (u : ByteArray) (n : Nat) (h : u.size ≤ n) : u.extract 0 n = u := by
  apply bl_inj
  rw [bl_ext, List.drop_zero, List.take_of_length_le (by rw [bl_len]; omega)]
theorem fr_size (s : ByteArray) (k : Nat) : (fr s k).size = s.size - k := by
  rw [← bl_len, bl_fr, List.length_drop, bl_len]
theorem sn_le (s : ByteArray) (k : Nat) : sn s k ≤ s.size - k := by
  have := St_le _ ((bl s).drop k) (Nat.le_refl _)
  rw [List.length_drop, bl_len] at this
  exact this
theorem St_at (u : ByteArray) (pos : Nat) (h : pos < u.size) : St ((bl u).drop pos) = if Ok ((Utf8.decode u pos).1 : Int) then (Utf8.decode u pos).2 + St ((bl u).drop (pos + (Utf8.decode u pos).2)) else 0 := by
  rw [St_cons _ (drop_ne u pos h), ← dec_dN, List.drop_drop]
theorem St_end (u : ByteArray) (pos : Nat) (h : ¬ pos < u.size) : St ((bl u).drop pos) = 0 := by
  rw [List.drop_of_length_le (by rw [bl_len]; omega)]
  rfl

def CutRel (u : ByteArray) (m : Nat) (w : World) (wr : World) : Prop := ∃ pos : Nat, wr = w.iter u pos ∧ pos + St ((bl u).drop pos) = m ∧ pos ≤ u.size
theorem dec_le (u : ByteArray) (pos : Nat) (h : pos < u.size) : pos + (Utf8.decode u pos).2 ≤ u.size := by
  rw [dec_dN]
  have := (dN_width _ (drop_ne u pos h)).2
  rw [List.length_drop, bl_len] at this
  omega
theorem pt_t {r : Int} (h : Part r) (w : World) : Calls Tryz.prog 62 #[.int .i32 r] w fun e w' => e = .returned (.bool true) ∧ w = w' := (part_any r w).mono fun e w' ⟨h1, h2⟩ => ⟨by rw [h1, decide_eq_true h], h2⟩
theorem pt_f {r : Int} (h : ¬ Part r) (w : World) : Calls Tryz.prog 62 #[.int .i32 r] w fun e w' => e = .returned (.bool false) ∧ w = w' := (part_any r w).mono fun e w' ⟨h1, h2⟩ => ⟨by rw [h1, decide_eq_false h], h2⟩
theorem ret_two {a b : ByteArray} {x y : Int} (h : a = b) (h2 : x = y) : Ending.returned (.tuple #[.string a, .int .i64 x]) = .returned (.tuple #[.string b, .int .i64 y]) := by rw [h, h2]

set_option maxHeartbeats 1000000 in
set_option maxRecDepth 100000 in
theorem cut_any (s : ByteArray) (k : Nat) (hs : s.size ≤ 1000000) (hk : k ≤ s.size) (w : World) :
    Calls Tryz.prog 107 #[.string s, .int .i64 k] w fun e w' => e = .returned (.tuple #[.string (sx s k), .int .i64 ((k : Int) + (sn s k : Int))]) ∧ Below w.heap.size w w' := by
  have b1 : decide ((k : Int) < 0) = false := by simp
  have b2 : decide ((s.size : Int) < (k : Int)) = false := by simp; omega
  have b3 : decide (s.size < k) = false := by simp; omega
  have i1 : (0 : Int) ≤ (k : Int) := by omega
  have i2 : (k : Int) ≤ (s.size : Int) := by omega
  have hu : fr s k = s.extract k s.size := rfl
  have hz := fr_size s k
  have HM : Hid (sn s k = St (bl (fr s k))) := Lib.hid (by rw [sn, bl_fr])
  have HX : Hid (sx s k = (fr s k).extract 0 (sn s k)) := Lib.hid rfl
  generalize sx s k = res at *
  generalize sn s k = m at *
  go_enter Tryz.func107, Tryz.ntmps107
  go_wp2_with fail
  rw [← hu]
  clear hu
  generalize fr s k = u at *
  have HB := Lib.hid (fun pos => (Below.refl w.heap.size w).alloc (Nat.le_refl _) (.stringIter u pos))
  have HA := Lib.hid (St_at u)
  have HE := Lib.hid (St_end u)
  have HD := Lib.hid (dec_le u)
  go_loopw [7, 8] (fun _ _ wr => CutRel u m w wr) (fun _ _ wr => u.size - wr.iterPos w.heap.size)
  case atStart => exact ⟨0, rfl, by rw [HM.out, List.drop_zero]; omega, by omega⟩
  case round =>
    obtain ⟨pos, rfl, hq, hpl⟩ := hrel
    have HQ := Lib.hid hq
    clear hq
    by_cases hp : pos < u.size
    · have hnx : ∀ ty, (Instr.next (.pointer (some ⟨w.heap.size, 0, none⟩)) true ty).run Tryz.prog (w.iter u pos) = _ := fun ty => run_next_any w u pos ty hp
      have hwd := width_pos u pos hp
      have HR := Lib.hid (HA.out pos hp)
      have hd := HD.out pos hp
      have i3 : (0 : Int) ≤ (pos : Int) := by omega
      have i4 : (pos : Int) ≤ (u.size : Int) := by omega
      clear HA HD
      generalize (Utf8.decode u pos).1 = r at *
      generalize (Utf8.decode u pos).2 = d at *
      by_cases h58 : (r : Int) = 58
      · have c1 : ((r : Int) != 58) = false := by simp [h58]
        have HO : Hid (Ok (r : Int)) := Lib.hid (.inl h58)
        clear h58
        go_wp2_with fail
        go_roundw
        case rel =>
          refine ⟨pos + d, rfl, ?_, hd⟩
          have q := HQ.out
          rw [HR.out, if_pos HO.out] at q
          omega
        case measure => simp; omega
      · have c1 : ((r : Int) != 58) = true := by simp [h58]
        by_cases hP : Part (r : Int)
        · have HO : Hid (Ok (r : Int)) := Lib.hid (.inr hP)
          have CP := Lib.hid (fun W => pt_t hP W)
          clear h58 hP
          go_wp2_with (first | (go_at_call 62; refine (CP.out _).mono ?_; rintro e w' ⟨rfl, rfl⟩))
          go_roundw
          case rel =>
            refine ⟨pos + d, rfl, ?_, hd⟩
            have q := HQ.out
            rw [HR.out, if_pos HO.out] at q
            omega
          case measure => simp; omega
        · have HO : Hid (¬ Ok (r : Int)) := Lib.hid (by rintro (h | h); exact h58 h; exact hP h)
          have CP := Lib.hid (fun W => pt_f hP W)
          clear h58 hP
          go_wp2_with (first | (go_at_call 62; refine (CP.out _).mono ?_; rintro e w' ⟨rfl, rfl⟩))
          go_ret2
          have q := HQ.out
          rw [HR.out, if_neg HO.out] at q
          refine ⟨ret_two ?_ ?_, HB.out _⟩
          · rw [HX.out, ← q]
            rfl
          · omega
    · have hnx : ∀ ty, (Instr.next (.pointer (some ⟨w.heap.size, 0, none⟩)) true ty).run Tryz.prog (w.iter u pos) = _ := fun ty => run_next_end w u pos ty hp
      go_wp2
      go_ret2
      have q := HQ.out
      rw [HE.out pos hp] at q
      have hm : m = u.size := by omega
      refine ⟨ret_two ?_ ?_, HB.out pos⟩
      · rw [HX.out, ext_all _ _ (by omega)]
      · omega

end Go.Proofs.YtkeilgompipfjaaGreatDoor.Nz

/- The walk of strings.Cut at a colon. -/
set_option linter.unusedSimpArgs false
set_option linter.unusedVariables false
namespace Go.Proofs.YtkeilgompipfjaaGreatDoor.Nz
open Go.RowKit

theorem below_drewN {B : Nat} {w w' : World} (h : Below B w w') (n : Nat) : Below B w (w'.drewN n) := ⟨h.os, h.tape, h.output, h.size, h.block⟩

/-- Where the first colon stands. -/
def ci (s : ByteArray) : Int := Lib.indexByte s.data.toList 58
theorem ib_cases : ∀ (l : List UInt8), (Lib.indexByte l 58 = -1 ∧ 58 ∉ l.map UInt8.toNat) ∨
    ∃ i : Nat, Lib.indexByte l 58 = i ∧ i < l.length ∧ l.map UInt8.toNat = (l.map UInt8.toNat).take i ++ 58 :: (l.map UInt8.toNat).drop (i + 1) ∧ 58 ∉ (l.map UInt8.toNat).take i
  | [] => .inl ⟨rfl, by simp⟩
  | b :: l => by
    unfold Lib.indexByte
    by_cases hb : b = 58
    · subst hb
      exact .inr ⟨0, by simp, by simp, by simp, by simp⟩
    · have hb1 : (b == 58) = false := by simpa using hb
      have hb2 : b.toNat ≠ 58 := fun h => hb (UInt8.toNat_inj.1 (by rw [h]; rfl))
      rw [hb1]
      rcases ib_cases l with ⟨h1, h2⟩ | ⟨i, h1, h2, h3, h4⟩
      · refine .inl ⟨by rw [h1]; rfl, ?_⟩
        rw [List.map_cons, List.mem_cons]
        rintro (h | h)
        · exact hb2 h.symm
        · exact h2 h
      · refine .inr ⟨i + 1, ?_, by simp; omega, ?_, ?_⟩
        · rw [h1]
          have : (((i : Int)) == -1) = false := by rw [beq_eq_false_iff_ne]; omega
          simp [this]
        · rw [List.map_cons, List.take_succ_cons, List.drop_succ_cons, List.cons_append, ← h3]
        · rw [List.map_cons, List.take_succ_cons, List.mem_cons]
          rintro (h | h)
          · exact hb2 h.symm
          · exact h4 h
theorem ci_cases (s : ByteArray) : (ci s = -1 ∧ 58 ∉ bl s) ∨ ∃ i : Nat, ci s = i ∧ i < s.size ∧ bl s = (bl s).take i ++ 58 :: (bl s).drop (i + 1) ∧ 58 ∉ (bl s).take i := by
  have := ib_cases s.data.toList
  rw [← Lib.size_eq] at this
  exact this

def em : ByteArray := ⟨#[]⟩
/-- What Split answers. -/
def splitA (s : ByteArray) : ByteArray × ByteArray × Bool :=
  if ci s = -1 then (if pl (bl s) = true then (em, s, true) else (em, em, false))
  else if pl (bl (s.extract 0 (ci s).toNat)) = true ∧ pl (bl (s.extract ((ci s).toNat + 1) s.size)) = true then (s.extract 0 (ci s).toNat, s.extract ((ci s).toNat + 1) s.size, true) else (em, em, false)
theorem bl_pre (s : ByteArray) (i : Nat) : bl (s.extract 0 i) = (bl s).take i := by rw [bl_ext]; simp
theorem bl_post (s : ByteArray) (i : Nat) : bl (s.extract i s.size) = (bl s).drop i := bl_fr s i

set_option maxHeartbeats 400000 in
set_option maxRecDepth 100000 in
theorem idxb_any (s : ByteArray) (c : Int) (w : World) :
    Calls Tryz.prog 101 #[.string s, .int .u8 c] w fun e w' => e = .returned (.int .i64 (Lib.indexByte s.data.toList c.toNat.toUInt8)) ∧ w = w' := by
  go_enter Tryz.func101, Tryz.ntmps101
  go_wp2
  rw [run_callFunc_extern Tryz.func127 (by kernel_rfl) (by kernel_rfl) (by kernel_rfl) (e := Extern.BytealgIndexByte.indexByte) (by kernel_rfl), Lib.run_indexByteString]
  simp only [Result.andThen]
  rw [Oper.upon_value]
  go_wp2
  go_ret
  exact ⟨rfl, rfl⟩

set_option maxHeartbeats 1000000 in
set_option maxRecDepth 100000 in
theorem idx_any (s : ByteArray) (w : World) :
    Calls Tryz.prog 76 #[.string s, .string ⟨#[58]⟩] w fun e w' => e = .returned (.int .i64 (ci s)) ∧ w = w' := by
  go_enter Tryz.func76, Tryz.ntmps76
  go_wp2_with (go_at_call 101; refine (idxb_any _ _ _).mono ?_; rintro e w' ⟨rfl, rfl⟩)
  · have h : ([58] == s.toList) = true := by assumption
    go_ret
    refine ⟨?_, rfl⟩
    have e : s.data.toList = [58] := by rw [← Lib.toList_data]; exact (beq_iff_eq.1 h).symm
    unfold ci
    rw [e]
    rfl
  · go_ret
    exact ⟨rfl, rfl⟩
set_option maxHeartbeats 1000000 in
set_option maxRecDepth 100000 in
theorem lcut_hit (s : ByteArray) (i : Nat) (h : ci s = i) (hi : i < s.size) (hs : s.size ≤ 1000000) (w : World) :
    Calls Tryz.prog 140 #[.string s, .string ⟨#[58]⟩] w fun e w' => e = .returned (.tuple #[.string (s.extract 0 i), .string (s.extract (i + 1) s.size), .bool true]) ∧ Below w.heap.size w w' := by
  have CI := Lib.hid (idx_any s)
  rw [h] at CI
  clear h
  have c1 : (0 : Int) ≤ (i : Int) := by omega
  have c2 : (i : Int) ≤ (s.size : Int) := by omega
  have c3 : (0 : Int) ≤ (i : Int) + 1 := by omega
  have c4 : (i : Int) + 1 ≤ (s.size : Int) := by omega
  have c5 : decide ((0 : Int) ≤ (i : Int)) = true := by simp
  have q3 : ((i : Int) + 1).toNat = i + 1 := by omega
  have q2 : IntKind.i64.wrap ((i : Int) + 1) = (i : Int) + 1 := IntWalk.i64_in _ (by omega)
  go_enter Tryz.func140, Tryz.ntmps140
  go_wp2_with (go_at_call 76; refine (CI.out _).mono ?_; rintro e w' ⟨rfl, rfl⟩)
  go_quiet (fail)
  go_wp2
  go_ret3
  exact ⟨rfl, below_drewN (Below.refl _ _) _⟩

set_option maxHeartbeats 1000000 in
set_option maxRecDepth 100000 in
theorem lcut_miss (s : ByteArray) (h : ci s = -1) (w : World) :
    Calls Tryz.prog 140 #[.string s, .string ⟨#[58]⟩] w fun e w' => e = .returned (.tuple #[.string s, .string ⟨#[]⟩, .bool false]) ∧ Below w.heap.size w w' := by
  have CI := Lib.hid (idx_any s)
  rw [h] at CI
  clear h
  go_enter Tryz.func140, Tryz.ntmps140
  go_wp2_with (go_at_call 76; refine (CI.out _).mono ?_; rintro e w' ⟨rfl, rfl⟩)
  go_ret3
  exact ⟨rfl, Below.refl _ _⟩

set_option maxHeartbeats 1000000 in
set_option maxRecDepth 100000 in
theorem scut_hit (s : ByteArray) (i : Nat) (h : ci s = i) (hi : i < s.size) (hs : s.size ≤ 1000000) (w : World) :
    Calls Tryz.prog 112 #[.string s, .string ⟨#[58]⟩] w fun e w' => e = .returned (.tuple #[.string (s.extract 0 i), .string (s.extract (i + 1) s.size), .bool true]) ∧ Below w.heap.size w w' := by
  have CL := Lib.hid (lcut_hit s i h hi hs)
  clear h hi hs
  go_enter Tryz.func112, Tryz.ntmps112
  go_wp2_with (go_at_call 140; refine (CL.out _).mono ?_; rintro e w' ⟨rfl, hb⟩)
  go_ret3
  exact ⟨rfl, hb⟩
set_option maxHeartbeats 1000000 in
set_option maxRecDepth 100000 in
theorem scut_miss (s : ByteArray) (h : ci s = -1) (w : World) :
    Calls Tryz.prog 112 #[.string s, .string ⟨#[58]⟩] w fun e w' => e = .returned (.tuple #[.string s, .string ⟨#[]⟩, .bool false]) ∧ Below w.heap.size w w' := by
  have CL := Lib.hid (lcut_miss s h)
  clear h
  go_enter Tryz.func112, Tryz.ntmps112
  go_wp2_with (go_at_call 140; refine (CL.out _).mono ?_; rintro e w' ⟨rfl, hb⟩)
  go_ret3
  exact ⟨rfl, hb⟩

end Go.Proofs.YtkeilgompipfjaaGreatDoor.Nz

/- The walks of name.Split and of name.Join. -/
set_option linter.unusedSimpArgs false
set_option linter.unusedVariables false
namespace Go.Proofs.YtkeilgompipfjaaGreatDoor.Nz
open Go.RowKit

set_option maxHeartbeats 1000000 in
set_option maxRecDepth 100000 in
theorem alone_any (s : ByteArray) (w : World) :
    Calls Tryz.prog 113 #[.string s] w fun e w' => e = .returned (.tuple #[.string em, .string (if pl (bl s) = true then s else em), .bool (pl (bl s))]) ∧ Below w.heap.size w w' := by
  have CL := Lib.hid (plain_any s)
  cases hp : pl (bl s) <;> rw [hp] at CL <;> clear hp
  · go_enter Tryz.func113, Tryz.ntmps113
    go_wp2_with (go_at_call 43; refine (CL.out _).mono ?_; rintro e w' ⟨rfl, hb⟩)
    go_ret3
    exact ⟨rfl, hb⟩
  · go_enter Tryz.func113, Tryz.ntmps113
    go_wp2_with (go_at_call 43; refine (CL.out _).mono ?_; rintro e w' ⟨rfl, hb⟩)
    go_ret3
    exact ⟨rfl, hb⟩

set_option maxHeartbeats 400000 in
set_option maxRecDepth 100000 in
theorem split_miss (s res : ByteArray) (ok : Bool) (CS : Hid (∀ w, Calls Tryz.prog 112 #[.string s, .string ⟨#[58]⟩] w fun e w' => e = .returned (.tuple #[.string s, .string ⟨#[]⟩, .bool false]) ∧ Below w.heap.size w w'))
    (CA : Hid (∀ w, Calls Tryz.prog 113 #[.string s] w fun e w' => e = .returned (.tuple #[.string em, .string res, .bool ok]) ∧ Below w.heap.size w w')) (w : World) :
    Calls Tryz.prog 87 #[.string s] w fun e w' => e = .returned (.tuple #[.string em, .string res, .bool ok]) ∧ Below w.heap.size w w' := by
  go_enter Tryz.func87, Tryz.ntmps87
  go_wp2_with fail
  refine (CS.out _).mono ?_
  rintro e w1 ⟨rfl, hb1⟩
  go_wp2_with fail
  refine (CA.out _).mono ?_
  rintro e w2 ⟨rfl, hb2⟩
  go_wp2_with fail
  go_ret3
  exact ⟨rfl, hb1.trans (hb2.mono hb1.size)⟩

set_option maxHeartbeats 400000 in
set_option maxRecDepth 100000 in
theorem split_no1 (s p l : ByteArray) (CS : Hid (∀ w, Calls Tryz.prog 112 #[.string s, .string ⟨#[58]⟩] w fun e w' => e = .returned (.tuple #[.string p, .string l, .bool true]) ∧ Below w.heap.size w w'))
    (CP : Hid (∀ w, Calls Tryz.prog 43 #[.string p] w fun e w' => e = .returned (.bool false) ∧ Below w.heap.size w w')) (w : World) :
    Calls Tryz.prog 87 #[.string s] w fun e w' => e = .returned (.tuple #[.string em, .string em, .bool false]) ∧ Below w.heap.size w w' := by
  go_enter Tryz.func87, Tryz.ntmps87
  go_wp2_with fail
  refine (CS.out _).mono ?_
  rintro e w1 ⟨rfl, hb1⟩
  go_wp2_with fail
  refine (CP.out _).mono ?_
  rintro e w2 ⟨rfl, hb2⟩
  go_wp2_with fail
  go_ret3
  exact ⟨rfl, hb1.trans (hb2.mono hb1.size)⟩

set_option maxHeartbeats 400000 in
set_option maxRecDepth 100000 in
theorem split_two (s p l : ByteArray) (ok : Bool) (CS : Hid (∀ w, Calls Tryz.prog 112 #[.string s, .string ⟨#[58]⟩] w fun e w' => e = .returned (.tuple #[.string p, .string l, .bool true]) ∧ Below w.heap.size w w'))
    (CP : Hid (∀ w, Calls Tryz.prog 43 #[.string p] w fun e w' => e = .returned (.bool true) ∧ Below w.heap.size w w'))
    (CL : Hid (∀ w, Calls Tryz.prog 43 #[.string l] w fun e w' => e = .returned (.bool ok) ∧ Below w.heap.size w w')) (w : World) :
    Calls Tryz.prog 87 #[.string s] w fun e w' => e = .returned (.tuple #[.string (if ok = true then p else em), .string (if ok = true then l else em), .bool ok]) ∧ Below w.heap.size w w' := by
  cases ok
  all_goals
    go_enter Tryz.func87, Tryz.ntmps87
    go_wp2_with fail
    refine (CS.out _).mono ?_
    rintro e w1 ⟨rfl, hb1⟩
    go_wp2_with fail
    refine (CP.out _).mono ?_
    rintro e w2 ⟨rfl, hb2⟩
    go_wp2_with fail
    refine (CL.out _).mono ?_
    rintro e w3 ⟨rfl, hb3⟩
    go_wp2_with fail
    go_ret3
    exact ⟨rfl, (hb1.trans (hb2.mono hb1.size)).trans (hb3.mono (by have := hb1.size; have := hb2.size; omega))⟩

theorem split_any (s : ByteArray) (hs : s.size ≤ 1000000) (w : World) :
    Calls Tryz.prog 87 #[.string s] w fun e w' => e = .returned (.tuple #[.string (splitA s).1, .string (splitA s).2.1, .bool (splitA s).2.2]) ∧ Below w.heap.size w w' := by
  rcases ci_cases s with ⟨h1, h2⟩ | ⟨i, h1, h2, h3, h4⟩
  · have e1 : splitA s = (em, (if pl (bl s) = true then s else em), pl (bl s)) := by
      unfold splitA
      rw [if_pos h1]
      cases hp : pl (bl s) <;> simp
    rw [e1]
    exact split_miss s _ _ (Lib.hid (scut_miss s h1)) (Lib.hid (alone_any s)) w
  · have e1 : splitA s = if pl (bl (s.extract 0 i)) = true ∧ pl (bl (s.extract (i + 1) s.size)) = true then (s.extract 0 i, s.extract (i + 1) s.size, true) else (em, em, false) := by
      unfold splitA
      rw [if_neg (by rw [h1]; omega), h1]
      rfl
    rw [e1]
    have CP := plain_any (s.extract 0 i)
    have CL := plain_any (s.extract (i + 1) s.size)
    cases hp : pl (bl (s.extract 0 i))
    · rw [hp] at CP
      rw [if_neg (by simp)]
      exact split_no1 s _ _ (Lib.hid (scut_hit s i h1 h2 hs)) (Lib.hid CP) w
    · rw [hp] at CP
      have := split_two s _ _ _ (Lib.hid (scut_hit s i h1 h2 hs)) (Lib.hid CP) (Lib.hid CL) w
      cases hl : pl (bl (s.extract (i + 1) s.size))
      · rw [hl] at this
        exact this
      · rw [hl] at this
        exact this

/-- A colon with a plain name on each side. -/
def Hit (s : ByteArray) (i : Nat) : Prop := i < s.size ∧ (bl s).getD i 0 = 58 ∧ pl ((bl s).take i) = true ∧ pl ((bl s).drop (i + 1)) = true
theorem plain_split {s : ByteArray} (h : pl (bl s) = true) : splitA s = (em, s, true) := by
  rcases ci_cases s with ⟨h1, h2⟩ | ⟨i, h1, h2, h3, h4⟩
  · unfold splitA
    rw [if_pos h1, if_pos h]
  · rw [h3, pl_colon] at h
    exact absurd h (by simp)
theorem take_mem (L : List Nat) (i j : Nat) (h : i < j) (hj : j ≤ L.length) (he : L.getD i 0 = 58) : 58 ∈ L.take j := by
  rw [List.getD_eq_getElem?_getD, List.getElem?_eq_getElem (by omega)] at he
  have he' : L[i]'(by omega) = 58 := he
  rw [← he']
  exact List.mem_iff_getElem.2 ⟨i, by simp; omega, by simp⟩
theorem hit_split {s : ByteArray} {i : Nat} (h : Hit s i) : splitA s = (s.extract 0 i, s.extract (i + 1) s.size, true) := by
  obtain ⟨g1, g2, g3, g4⟩ := h
  rcases ci_cases s with ⟨h1, h2⟩ | ⟨j, h1, h2, h3, h4⟩
  · refine absurd (List.mem_of_mem_take (take_mem (bl s) i (i + 1) (by omega) (by rw [bl_len]; omega) g2)) h2
  · have hij : i = j := by
      rcases Nat.lt_trichotomy i j with h | h | h
      · exact absurd (take_mem (bl s) i j h (by rw [bl_len]; omega) g2) h4
      · exact h
      · have hj : (bl s).getD j 0 = 58 := by
          rw [h3, List.getD_eq_getElem?_getD, List.getElem?_append_right (by simp; omega)]
          simp [bl_len]
          rw [Nat.min_eq_left (by omega), Nat.sub_self]
          rfl
        rw [pl_mem _ (take_mem (bl s) j i h (by rw [bl_len]; omega) hj)] at g3
        exact absurd g3 (by simp)
    subst hij
    unfold splitA
    rw [if_neg (by rw [h1]; omega), h1, Int.toNat_natCast, bl_pre, bl_post, if_pos ⟨g3, g4⟩]
theorem nohit_split {s : ByteArray} (h : pl (bl s) = false) (hn : ∀ i, i < s.size → ¬ Hit s i) : splitA s = (em, em, false) := by
  rcases ci_cases s with ⟨h1, h2⟩ | ⟨j, h1, h2, h3, h4⟩
  · unfold splitA
    rw [if_pos h1, h]
    rfl
  · have hj : (bl s).getD j 0 = 58 := by
      rw [h3, List.getD_eq_getElem?_getD, List.getElem?_append_right (by simp; omega)]
      simp [bl_len]
      rw [Nat.min_eq_left (by omega), Nat.sub_self]
      rfl
    unfold splitA
    rw [if_neg (by rw [h1]; omega), h1, Int.toNat_natCast, bl_pre, bl_post, if_neg]
    rintro ⟨g3, g4⟩
    exact hn j h2 ⟨h2, hj, g3, g4⟩
end Go.Proofs.YtkeilgompipfjaaGreatDoor.Nz

/- Plain mathematics: what a token is, by the bytes that stand at a place; that what follows changes nothing of it. -/
set_option linter.unusedSimpArgs false
set_option linter.unusedVariables false
namespace Go.Proofs.YtkeilgompipfjaaGreatDoor

structure Tk where
  kind : Int
  text : List Int
  empty : Bool
  blank : Bool
def T0 : Tk := ⟨0, [], false, false⟩

def nats (l : List Int) : List Nat := l.map Int.toNat
/-- A plain name; a name. -/
def plB (l : List Int) : Bool := Nz.pl (nats l)
def nmB (l : List Int) : Bool := (Nz.splitA (strOfNums l)).2.2

/-- What stands behind blanks, a word, = and a right value between two like quotes. -/
def quo (q : Int) : Prop := q = 34 ∨ q = 39
instance (q : Int) : Decidable (quo q) := inferInstanceAs (Decidable (q = 34 ∨ q = 39))
def setVal (q : Int) (r : List Int) (ok : List Int → Bool) : Option (List Int) :=
  match fnd [q] r with
  | none => none
  | some n => if ok (r.take n) = true then some (r.drop (n + 1)) else none
def setF (l key : List Int) (ok : List Int → Bool) : Option (List Int) :=
  if (l.dropWhile blk?).length = l.length then none
  else if (key ++ [61]).isPrefixOf (l.dropWhile blk?) = true then
    match (l.dropWhile blk?).drop (key.length + 1) with
    | [] => none
    | q :: r => if quo q then setVal q r ok else none
  else none
def orF (x : Option (List Int)) (d : List Int) : List Int := match x with | some r => r | none => d
def wVersion : List Int := [118, 101, 114, 115, 105, 111, 110]
def wEncoding : List Int := [101, 110, 99, 111, 100, 105, 110, 103]
def wStandalone : List Int := [115, 116, 97, 110, 100, 97, 108, 111, 110, 101]
def okVersion (l : List Int) : Bool := decide (l = [49, 46, 48])
def okEncoding (l : List Int) : Bool := decide (smallF l = [117, 116, 102, 45, 56])
def okStandalone (l : List Int) : Bool := decide (l = [121, 101, 115] ∨ l = [110, 111])
def dec3 (l : List Int) : Bool := (orF (setF l wStandalone okStandalone) l).all blk?
def dec2 (l : List Int) : Bool := dec3 (orF (setF l wEncoding okEncoding) l)
def declF (l : List Int) : Bool := match setF l wVersion okVersion with | none => false | some r => dec2 r
def wXml : List Int := [120, 109, 108]
/-- Is it the declaration, whole? -/
def declW (l : List Int) : Bool := wXml.isPrefixOf l && declF (l.drop 3)

/-- What a kind's inside is read as. -/
def dataR (l : List Int) : Tk × Int := (⟨3, endsF l, false, false⟩, 0)
def commR (l : List Int) : Tk × Int := if (fnd [45, 45] l).isSome = true ∨ l.getLast? = some 45 then (T0, 6) else (⟨4, l, false, false⟩, 0)
def tgt (l : List Int) : List Int := l.takeWhile fun c => !blk? c
def instR (z : Bool) (l : List Int) : Tk × Int :=
  if plB (tgt l) = false then (T0, 4) else if smallF (tgt l) = wXml ∧ (z = false ∨ declW l = false) then (T0, 12) else (⟨5, l, false, false⟩, 0)
def endR (l : List Int) : Tk × Int := if nmB (trimR l) = false then (T0, 4) else (⟨2, trimR l, false, false⟩, 0)
def startR (l : List Int) : Tk × Int :=
  if (60 : Int) ∈ l then (T0, 6) else if l.getLast? = some 47 then (⟨1, l.dropLast, true, false⟩, 0) else (⟨1, l, false, false⟩, 0)

/-- A token of a kind of markup: b bytes begin it; what is wrong, what it is read as. -/
def fin (b n m : Nat) (rd : List Int → Tk × Int) (r : List Int) : Tk × Nat × Int :=
  if wrongF (r.take (n + m)) ≠ 0 then (T0, 0, wrongF (r.take (n + m))) else if (rd (r.take n)).2 ≠ 0 then (T0, 0, (rd (r.take n)).2) else ((rd (r.take n)).1, b + (n + m), 0)
def span (b : Nat) (stop : List Int) (rd : List Int → Tk × Int) (l : List Int) : Tk × Nat × Int :=
  match fnd stop (l.drop b) with
  | none => (T0, 0, 7)
  | some n => fin b n stop.length rd (l.drop b)
def startF (l : List Int) : Tk × Nat × Int :=
  match unq 0 (l.drop 1) with
  | none => (T0, 0, 7)
  | some n => fin 1 n 1 startR (l.drop 1)

def bCdata : List Int := [60, 33, 91, 67, 68, 65, 84, 65, 91]
def bComm : List Int := [60, 33, 45, 45]
def bDoc : List Int := [60, 33, 68, 79, 67, 84, 89, 80, 69]
def bBang : List Int := [60, 33]
def bInst : List Int := [60, 63]
def bEnd : List Int := [60, 47]
def eCdata : List Int := [93, 93, 62]
def eComm : List Int := [45, 45, 62]
def eInst : List Int := [63, 62]
def eEnd : List Int := [62]

def markF (z : Bool) (l : List Int) : Tk × Nat × Int :=
  if bCdata.isPrefixOf l = true then span 9 eCdata dataR l
  else if bComm.isPrefixOf l = true then span 4 eComm commR l
  else if bInst.isPrefixOf l = true then span 2 eInst (instR z) l
  else if bEnd.isPrefixOf l = true then span 2 eEnd endR l
  else if bBang.isPrefixOf l = true then
    (if bDoc.isPrefixOf l = true then (T0, 0, 12) else if l.isPrefixOf bCdata = true ∨ l.isPrefixOf bComm = true ∨ l.isPrefixOf bDoc = true then (T0, 0, 7) else (T0, 0, 6))
  else startF l

def charsF (l : List Int) (n : Nat) : Tk × Nat × Int :=
  if wrongF (l.take n) ≠ 0 then (T0, 0, wrongF (l.take n)) else if (fnd eCdata (l.take n)).isSome = true then (T0, 0, 6)
  else if (ansF false (l.take n)).2.2 ≠ 0 then (T0, 0, (ansF false (l.take n)).2.2) else (⟨3, (ansF false (l.take n)).1, false, (l.take n).all blk?⟩, n, 0)
def plainF (more : Bool) (l : List Int) : Tk × Nat × Int :=
  match fnd [60] l with
  | some n => charsF l n
  | none => if more = true then (T0, 0, 7) else charsF l l.length
/-- The token at the front of a list: it, how many bytes it has, the error's number. z: it stands at 0. -/
def frontF (z more : Bool) (l : List Int) : Tk × Nat × Int :=
  if l = [] then (if more = true then (T0, 0, 7) else (⟨6, [], false, false⟩, 0, 0)) else if l.getD 0 0 = 60 then markF z l else plainF more l

theorem fin_ne (b n m : Nat) (rd : List Int → Tk × Int) (r : List Int) (h : (fin b n m rd r).2.2 = 0) : (fin b n m rd r).2.1 = b + (n + m) := by
  unfold fin at *
  split at h
  · rename_i h1; exact absurd h h1
  · rename_i h1
    rw [if_neg h1]
    split at h
    · rename_i h2; exact absurd h h2
    · rename_i h2; rw [if_neg h2]
theorem fin_z (b n m : Nat) (rd : List Int → Tk × Int) (r : List Int) (h : (fin b n m rd r).2.2 ≠ 0) : (fin b n m rd r).1 = T0 ∧ (fin b n m rd r).2.1 = 0 := by
  unfold fin at *
  split at h
  · rename_i h1; rw [if_pos h1]; exact ⟨rfl, rfl⟩
  · rename_i h1
    rw [if_neg h1]
    split at h
    · rename_i h2; rw [if_pos h2]; exact ⟨rfl, rfl⟩
    · rename_i h2; exact absurd rfl h

/-- An answer that is as it should be: without an error at least a byte, and no more than there are. -/
structure Fit (l : List Int) (x : Tk × Nat × Int) : Prop where
  zero : x.2.2 ≠ 0 → x.1 = T0 ∧ x.2.1 = 0
  size : x.2.2 = 0 → 1 ≤ x.2.1 ∧ x.2.1 ≤ l.length ∧ x.1.kind ≠ 6 ∧ 1 ≤ x.1.kind ∧ x.1.kind ≤ 6
theorem fit_err (l : List Int) (e : Int) (he : e ≠ 0) : Fit l (T0, 0, e) := ⟨fun _ => ⟨rfl, rfl⟩, fun h => absurd h he⟩
def Kd (rd : List Int → Tk × Int) : Prop := ∀ l, (rd l).2 = 0 → (rd l).1.kind ≠ 6 ∧ 1 ≤ (rd l).1.kind ∧ (rd l).1.kind ≤ 6
theorem fit_fin (b n m : Nat) (rd : List Int → Tk × Int) (r l : List Int) (hk : Kd rd) (hb : 1 ≤ b) (h : b + (n + m) ≤ l.length) : Fit l (fin b n m rd r) := by
  refine ⟨fin_z b n m rd r, fun h0 => ?_⟩
  have h1 := fin_ne b n m rd r h0
  refine ⟨by omega, by omega, ?_⟩
  unfold fin at h0 ⊢
  split at h0
  · rename_i h1; exact absurd h0 h1
  · rename_i h1
    rw [if_neg h1]
    split at h0
    · rename_i h2; exact absurd h0 h2
    · rename_i h2
      rw [if_neg h2]
      exact hk _ (by simpa using h2)
theorem fit_span (b : Nat) (stop : List Int) (rd : List Int → Tk × Int) (l : List Int) (hk : Kd rd) (hb : 1 ≤ b) (hl : b ≤ l.length) : Fit l (span b stop rd l) := by
  unfold span
  split
  · exact fit_err l 7 (by omega)
  · rename_i n hn
    have := (fnd_some hn).1
    rw [List.length_drop] at this
    exact fit_fin b n _ rd _ l hk hb (by omega)
theorem kd_data : Kd dataR := fun l h => by simp [dataR]
theorem kd_comm : Kd commR := fun l h => by
  unfold commR at *
  split at h
  · simp at h
  · rename_i h1; rw [if_neg h1]; simp
theorem kd_inst (z : Bool) : Kd (instR z) := fun l h => by
  unfold instR at *
  split at h
  · simp at h
  · rename_i h1
    rw [if_neg h1]
    split at h
    · simp at h
    · rename_i h2; rw [if_neg h2]; simp
theorem kd_end : Kd endR := fun l h => by
  unfold endR at *
  split at h
  · simp at h
  · rename_i h1; rw [if_neg h1]; simp
theorem kd_start : Kd startR := fun l h => by
  unfold startR at *
  split at h
  · simp at h
  · rename_i h1
    rw [if_neg h1]
    split <;> simp
theorem fit_start (l : List Int) : Fit l (startF l) := by
  unfold startF
  split
  · exact fit_err l 7 (by omega)
  · rename_i n hn
    have := (unq_app _ _ n [] hn).2
    rw [List.length_drop] at this
    exact fit_fin 1 n 1 startR _ l kd_start (by omega) (by omega)
theorem pre_len {p l : List Int} (h : p.isPrefixOf l = true) : p.length ≤ l.length := (List.isPrefixOf_iff_prefix.1 h).length_le
theorem fit_mark (z : Bool) (l : List Int) : Fit l (markF z l) := by
  unfold markF
  split
  · rename_i h; exact fit_span 9 eCdata dataR l kd_data (by omega) (pre_len h)
  · split
    · rename_i h; exact fit_span 4 eComm commR l kd_comm (by omega) (pre_len h)
    · split
      · rename_i h; exact fit_span 2 eInst _ l (kd_inst z) (by omega) (pre_len h)
      · split
        · rename_i h; exact fit_span 2 eEnd endR l kd_end (by omega) (pre_len h)
        · split
          · split
            · exact fit_err l 12 (by omega)
            · split
              · exact fit_err l 7 (by omega)
              · exact fit_err l 6 (by omega)
          · exact fit_start l
theorem fit_chars (l : List Int) (n : Nat) (h1 : 1 ≤ n) (h2 : n ≤ l.length) : Fit l (charsF l n) := by
  unfold charsF
  split
  · rename_i h; exact fit_err l _ h
  · split
    · exact fit_err l 6 (by omega)
    · split
      · rename_i h; exact fit_err l _ h
      · exact ⟨fun h => absurd rfl h, fun _ => ⟨h1, h2, by simp⟩⟩
theorem head_fnd {l : List Int} {n : Nat} (h : l.getD 0 0 ≠ 60) (hn : fnd [60] l = some n) : 1 ≤ n := by
  obtain ⟨h1, h2, h3⟩ := fnd_some hn
  cases n with
  | zero =>
    simp only [List.length_singleton] at h1
    exact absurd ((occ_one 60 l 0 (by omega)).1 h2) h
  | succ n => omega
theorem fit_front (z more : Bool) (l : List Int) (hl : l ≠ []) : Fit l (frontF z more l) := by
  unfold frontF
  rw [if_neg hl]
  split
  · exact fit_mark z l
  · rename_i h
    unfold plainF
    split
    · rename_i n hn
      have h1 := (fnd_some hn).1
      simp only [List.length_singleton] at h1
      exact fit_chars l n (head_fnd h hn) (by omega)
    · split
      · exact fit_err l 7 (by omega)
      · exact fit_chars l l.length (List.length_pos_iff.2 hl) (Nat.le_refl _)
end Go.Proofs.YtkeilgompipfjaaGreatDoor

/- Plain mathematics: what follows changes nothing of a token that is told; the kinds of markup in the program's order; all tokens of a text. -/
set_option linter.unusedSimpArgs false
set_option linter.unusedVariables false
namespace Go.Proofs.YtkeilgompipfjaaGreatDoor

theorem pre_take {l p : List Int} (h : l.isPrefixOf p = true) : l = p.take l.length ∧ l.length ≤ p.length :=
  ⟨List.prefix_iff_eq_take.1 (List.isPrefixOf_iff_prefix.1 h), pre_len h⟩
/-- The kinds of markup in the program's order. -/
def progF (z : Bool) (l : List Int) : Tk × Nat × Int :=
  if bCdata.isPrefixOf l = true then span 9 eCdata dataR l else if l.isPrefixOf bCdata = true then (T0, 0, 7)
  else if bComm.isPrefixOf l = true then span 4 eComm commR l else if l.isPrefixOf bComm = true then (T0, 0, 7)
  else if bDoc.isPrefixOf l = true then (T0, 0, 12) else if l.isPrefixOf bDoc = true then (T0, 0, 7)
  else if bBang.isPrefixOf l = true then (T0, 0, 6) else if l.isPrefixOf bBang = true then (T0, 0, 7)
  else if bInst.isPrefixOf l = true then span 2 eInst (instR z) l else if l.isPrefixOf bInst = true then (T0, 0, 7)
  else if bEnd.isPrefixOf l = true then span 2 eEnd endR l else if l.isPrefixOf bEnd = true then (T0, 0, 7)
  else startF l
theorem prog_mark (z : Bool) (l : List Int) (hl : l.getD 0 0 = 60) : progF z l = markF z l := by
  match l, hl with
  | [], hl => simp at hl
  | [c], hl =>
    have : c = 60 := by simpa using hl
    subst this
    rfl
  | c :: d :: r, hl =>
    have : c = 60 := by simpa using hl
    subst this
    unfold progF markF
    by_cases h3 : d = 33
    · subst h3
      have e1 : bInst.isPrefixOf (60 :: 33 :: r) = false := by simp [bInst, List.isPrefixOf]
      have e2 : bEnd.isPrefixOf (60 :: 33 :: r) = false := by simp [bEnd, List.isPrefixOf]
      have e3 : bBang.isPrefixOf (60 :: 33 :: r) = true := by simp [bBang, List.isPrefixOf]
      simp only [e1, e2, e3, Bool.false_eq_true, if_false, if_true]
      by_cases c1 : bCdata.isPrefixOf (60 :: 33 :: r) = true
      · simp only [if_pos c1]
      simp only [if_neg c1]
      by_cases c2 : (60 :: 33 :: r).isPrefixOf bCdata = true
      · have c3 : ¬ bComm.isPrefixOf (60 :: 33 :: r) = true := fun g => by
          have := (List.isPrefixOf_iff_prefix.1 g).trans (List.isPrefixOf_iff_prefix.1 c2)
          exact absurd (List.isPrefixOf_iff_prefix.2 this) (by decide)
        have c4 : ¬ bDoc.isPrefixOf (60 :: 33 :: r) = true := fun g => by
          have := (List.isPrefixOf_iff_prefix.1 g).trans (List.isPrefixOf_iff_prefix.1 c2)
          exact absurd (List.isPrefixOf_iff_prefix.2 this) (by decide)
        simp only [if_pos c2, if_neg c3, if_neg c4, if_pos (Or.inl c2)]
      simp only [if_neg c2]
      by_cases c3 : bComm.isPrefixOf (60 :: 33 :: r) = true
      · simp only [if_pos c3]
      simp only [if_neg c3]
      by_cases c4 : (60 :: 33 :: r).isPrefixOf bComm = true
      · have c5 : ¬ bDoc.isPrefixOf (60 :: 33 :: r) = true := fun g => by
          have := (List.isPrefixOf_iff_prefix.1 g).trans (List.isPrefixOf_iff_prefix.1 c4)
          exact absurd (List.isPrefixOf_iff_prefix.2 this) (by decide)
        simp only [if_pos c4, if_neg c5, c2, c4, Bool.false_eq_true, true_or, or_true, if_true]
      simp only [if_neg c4]
      by_cases c5 : bDoc.isPrefixOf (60 :: 33 :: r) = true
      · simp only [if_pos c5]
      simp only [if_neg c5]
      by_cases c6 : (60 :: 33 :: r).isPrefixOf bDoc = true
      · simp only [if_pos c6, c6, or_true, if_true]
      · simp only [if_neg c6, c2, c4, c6, Bool.false_eq_true, or_self, if_false]
    · have f1 : bCdata.isPrefixOf (60 :: d :: r) = false := by simp [bCdata, List.isPrefixOf]; omega
      have f2 : bComm.isPrefixOf (60 :: d :: r) = false := by simp [bComm, List.isPrefixOf]; omega
      have f3 : bDoc.isPrefixOf (60 :: d :: r) = false := by simp [bDoc, List.isPrefixOf]; omega
      have f4 : bBang.isPrefixOf (60 :: d :: r) = false := by simp [bBang, List.isPrefixOf]; omega
      have g1 : (60 :: d :: r).isPrefixOf bCdata = false := by simp [bCdata, List.isPrefixOf, h3]
      have g2 : (60 :: d :: r).isPrefixOf bComm = false := by simp [bComm, List.isPrefixOf, h3]
      have g3 : (60 :: d :: r).isPrefixOf bDoc = false := by simp [bDoc, List.isPrefixOf, h3]
      have g4 : (60 :: d :: r).isPrefixOf bBang = false := by simp [bBang, List.isPrefixOf, h3]
      simp only [f1, f2, f3, f4, g1, g2, g3, g4, Bool.false_eq_true, if_false]
      by_cases c1 : bInst.isPrefixOf (60 :: d :: r) = true
      · simp only [if_pos c1]
      have n1 : (60 :: d :: r).isPrefixOf bInst = false := by
        cases hq : (60 :: d :: r).isPrefixOf bInst with
        | false => rfl
        | true =>
          exfalso
          apply c1
          have h5 := pre_take hq
          have h6 : r = [] := by
            have := h5.2
            simp [bInst] at this
            exact this
          subst h6
          simp only [bInst, List.isPrefixOf, Bool.and_true] at hq ⊢
          simp at hq ⊢
          exact hq.symm
      simp only [if_neg c1, n1, Bool.false_eq_true, if_false]
      by_cases c2 : bEnd.isPrefixOf (60 :: d :: r) = true
      · simp only [if_pos c2]
      have n2 : (60 :: d :: r).isPrefixOf bEnd = false := by
        cases hq : (60 :: d :: r).isPrefixOf bEnd with
        | false => rfl
        | true =>
          exfalso
          apply c2
          have h5 := pre_take hq
          have h6 : r = [] := by
            have := h5.2
            simp [bEnd] at this
            exact this
          subst h6
          simp only [bEnd, List.isPrefixOf, Bool.and_true] at hq ⊢
          simp at hq ⊢
          exact hq.symm
      simp only [if_neg c2, n2, Bool.false_eq_true, if_false]

def nx (L : List Int) (a : Nat) : Tk × Nat × Int := frontF (decide (a = 0)) false (L.drop a)
theorem nx_last (L : List Int) (a : Nat) (h : L.length ≤ a) : nx L a = (⟨6, [], false, false⟩, 0, 0) := by
  unfold nx
  rw [List.drop_of_length_le h]
  rfl
theorem nx_fit (L : List Int) (a : Nat) (h : a < L.length) : Fit (L.drop a) (nx L a) := by
  refine fit_front _ _ _ fun e => ?_
  have := congrArg List.length e
  rw [List.length_drop, List.length_nil] at this
  omega
theorem nx_kind (L : List Int) (a : Nat) (h : (nx L a).2.2 = 0) : (nx L a).1.kind = 6 ↔ L.length ≤ a := by
  rcases Nat.lt_or_ge a L.length with g | g
  · have := ((nx_fit L a g).size h).2.2.1
    exact ⟨fun e => absurd e this, fun e => by omega⟩
  · rw [nx_last L a g]
    exact ⟨fun _ => g, fun _ => rfl⟩
end Go.Proofs.YtkeilgompipfjaaGreatDoor

/- What the package-level variables of the library hold, as the walks need it; the library's contracts in terms of lists of numbers. -/
set_option linter.unusedSimpArgs false
set_option linter.unusedVariables false
namespace Go.Proofs.YtkeilgompipfjaaGreatDoor
open Go.RowKit

/-- What unicode's table of small letters holds at a byte below 80. -/
def foldC (k : Nat) : Int := if 65 ≤ k ∧ k ≤ 90 then k + 32 else if k = 107 then 8490 else if k = 115 then 383 else if 97 ≤ k ∧ k ≤ 122 then k - 32 else k
structure Gl (w : World) : Prop where
  vars : Vars w
  size : 11 ≤ w.heap.size
  max : ∃ m, w.cell? ⟨0, 0, none⟩ = some (.int .i64 m)
  tabs : Lib.Utf8Tabs 4 5 w
  fold : ∀ k, k < 128 → w.cell? ⟨1, k, none⟩ = some (.int .u16 (foldC k))
theorem Gl.keep {w w' : World} {B : Nat} (h : Gl w) (hb : Below B w w') (hB : 11 ≤ B) : Gl w' := by
  refine ⟨h.vars.keep hb (by omega), Nat.le_trans h.size hb.size, ?_, ⟨fun c hc => ?_, fun i hi => ⟨?_, ?_⟩⟩, fun k hk => ?_⟩
  · obtain ⟨m, hm⟩ := h.max
    exact ⟨m, (hb.cell (p := ⟨0, 0, none⟩) (show 0 < B by omega)).trans hm⟩
  · exact (hb.cell (p := ⟨4, c, none⟩) (show 4 < B by omega)).trans (h.tabs.1 c hc)
  · exact (hb.cell (p := ⟨5, 2 * i, none⟩) (show 5 < B by omega)).trans (h.tabs.2 i hi).1
  · exact (hb.cell (p := ⟨5, 2 * i + 1, none⟩) (show 5 < B by omega)).trans (h.tabs.2 i hi).2
  · exact (hb.cell (p := ⟨1, k, none⟩) (show 1 < B by omega)).trans (h.fold k hk)
theorem Gl.after {w w' : World} (h : Gl w) (hb : Below w.heap.size w w') : Gl w' := h.keep hb h.size
theorem Gl.alloc {w : World} (h : Gl w) (o : Obj) : Gl (w.alloc o) := h.after ((Below.refl _ w).alloc (Nat.le_refl _) o)
theorem Gl.drew {w : World} (h : Gl w) : Gl w.drew := h.after (Below.refl _ w).drew

theorem uinj {a b : UInt8} (h : (a.toNat : Int) = (b.toNat : Int)) : a = b := UInt8.toNat_inj.1 (by omega)
theorem pre_map : ∀ (p l : List UInt8), (p.map fun b => (b.toNat : Int)).isPrefixOf (l.map fun b => (b.toNat : Int)) = p.isPrefixOf l
  | [], l => by simp [List.isPrefixOf]
  | a :: p, [] => by simp [List.isPrefixOf]
  | a :: p, b :: l => by
    simp only [List.map_cons, List.isPrefixOf, pre_map p l]
    congr 1
    rw [Bool.eq_iff_iff]
    simp only [beq_iff_eq]
    exact ⟨uinj, fun h => by rw [h]⟩
theorem index_fnd (m : List UInt8) : ∀ (l : List UInt8), Lib.index l m = fndI (m.map fun b => (b.toNat : Int)) (l.map fun b => (b.toNat : Int))
  | [] => by
    cases m with
    | nil => rfl
    | cons a b => simp [Lib.index, fndI, fnd]
  | c :: l => by
    have ih := index_fnd m l
    have hp := pre_map m (c :: l)
    simp only [List.map_cons] at hp ⊢
    unfold Lib.index
    by_cases h : m.isPrefixOf (c :: l) = true
    · rw [if_pos h]
      rw [h] at hp
      unfold fndI fnd
      rw [if_pos hp]
      rfl
    · rw [if_neg h, ih]
      rw [Bool.eq_false_iff.2 h] at hp
      generalize (m.map fun b => (b.toNat : Int)) = M at *
      generalize (l.map fun b => (b.toNat : Int)) = L at *
      generalize (c.toNat : Int) = x at *
      have hc : fnd M (x :: L) = (fnd M L).map (· + 1) := by rw [fnd, if_neg (by rw [hp]; simp)]
      cases hf : fnd M L with
      | none =>
        rw [fndI_none hf, fndI_none (by rw [hc, hf]; rfl)]
        simp
      | some n =>
        rw [fndI_some hf, fndI_some (n := n + 1) (by rw [hc, hf]; rfl)]
        have : (((n : Nat) : Int) == -1) = false := by rw [beq_eq_false_iff_ne]; omega
        simp [this]
theorem index_byts (s m : ByteArray) : Lib.index s.data.toList m.data.toList = fndI (byts m) (byts s) := index_fnd _ _
theorem contains_byts (s m : ByteArray) : Lib.contains s.data.toList m.data.toList = (fnd (byts m) (byts s)).isSome := by
  unfold Lib.contains
  rw [index_byts]
  unfold fndI
  cases fnd (byts m) (byts s) <;> simp
/-- strings.Index, strings.Contains. -/
theorem index_any (s m : ByteArray) (w : World) (hs : s.size ≤ 1000000) (hG : Gl w) : Calls Tryz.prog 50 #[.string s, .string m] w fun e w' => e = .returned (.int .i64 (fndI (byts m) (byts s))) ∧ w = w' := by
  obtain ⟨k, hk⟩ := hG.max
  refine (Tryz.strings_Index s m k w (by omega) hk).mono ?_
  rintro e w' ⟨rfl, rfl⟩
  exact ⟨by rw [index_byts], rfl⟩
theorem cont_any (s m : ByteArray) (w : World) (hs : s.size ≤ 1000000) (hG : Gl w) (b : Bool) (hb : (fnd (byts m) (byts s)).isSome = b) : Calls Tryz.prog 52 #[.string s, .string m] w fun e w' => e = .returned (.bool b) ∧ w = w' := by
  obtain ⟨k, hk⟩ := hG.max
  refine (Tryz.strings_Contains s m k w (by omega) hk).mono ?_
  rintro e w' ⟨rfl, rfl⟩
  exact ⟨by rw [contains_byts, hb], rfl⟩
theorem mk_byts (l : List UInt8) : byts ⟨l.toArray⟩ = l.map fun b => (b.toNat : Int) := by simp [byts]
theorem suf_map (p l : List UInt8) : (p.map fun b => (b.toNat : Int)).isSuffixOf (l.map fun b => (b.toNat : Int)) = p.isSuffixOf l := by
  unfold List.isSuffixOf
  rw [← List.map_reverse, ← List.map_reverse, pre_map]
theorem suf_one (l : List Int) (c : Int) : [c].isSuffixOf l = decide (l.getLast? = some c) := by
  unfold List.isSuffixOf
  rw [List.getLast?_eq_head?_reverse]
  cases l.reverse with
  | nil => simp [List.isPrefixOf]
  | cons a b =>
    rw [Bool.eq_iff_iff]
    simp [List.isPrefixOf]
    exact eq_comm
/-- strings.HasSuffix and CutSuffix at one byte. -/
theorem hassuf_any (s : ByteArray) (c : UInt8) (w : World) (hs : s.size ≤ 1000000) (b : Bool) (hb : decide ((byts s).getLast? = some (c.toNat : Int)) = b) : Calls Tryz.prog 94 #[.string s, .string ⟨#[c]⟩] w fun e w' => e = .returned (.bool b) ∧ w = w' := by
  refine (Tryz.strings_HasSuffix s ⟨#[c]⟩ w (by omega)).mono ?_
  rintro e w' ⟨rfl, rfl⟩
  refine ⟨?_, rfl⟩
  rw [← hb, ← suf_one]
  unfold Lib.hasSuffix
  rw [← suf_map]
  rfl
theorem cutsuf_any (s : ByteArray) (c : UInt8) (w : World) (hs : s.size ≤ 1000000) (b : Bool) (hb : decide ((byts s).getLast? = some (c.toNat : Int)) = b) :
    Calls Tryz.prog 100 #[.string s, .string ⟨#[c]⟩] w fun e w' => e = .returned (.tuple #[.string (if b = true then strOfNums (byts s).dropLast else s), .bool b]) ∧ w = w' := by
  refine (Tryz.strings_CutSuffix s ⟨#[c]⟩ w (by omega)).mono ?_
  rintro e w' ⟨rfl, rfl⟩
  have h1 : Lib.hasSuffix s.data.toList [c] = b := by
    rw [← hb, ← suf_one]
    unfold Lib.hasSuffix
    rw [← suf_map]
    rfl
  have h1' : Lib.hasSuffix s.data.toList (ByteArray.mk #[c]).data.toList = b := h1
  refine ⟨?_, rfl⟩
  rw [h1']
  have h2 : (⟨(Lib.trimSuffix s.data.toList (ByteArray.mk #[c]).data.toList).toArray⟩ : ByteArray) = if b = true then strOfNums (byts s).dropLast else s := by
    unfold Lib.trimSuffix
    rw [h1']
    cases b with
    | true =>
      simp only [if_true]
      refine str_of_byts ?_
      rw [mk_byts, List.map_take, List.dropLast_eq_take]
      congr 1
      simp [byts]
    | false =>
      simp
  rw [h2]
end Go.Proofs.YtkeilgompipfjaaGreatDoor

/- What the rows' listed variables, and the world's shape, give the walks; a world in which they are so; the wrap that hands a contract both. -/
set_option linter.unusedSimpArgs false
set_option linter.unusedVariables false
namespace Go.Proofs.YtkeilgompipfjaaGreatDoor
open Go.ChangeShapes Go.WideShapes Go.ChangeAt Go.RowKit
open Go.Lib (VarReads)

theorem own : ownKnob Tryz.prog.godebug = none := by kernel_rfl
def laid10 : List (String × DataW Unit) := Rows.wordWellsRow.laid
set_option maxRecDepth 100000 in
theorem first_eq : Rows.laid_unicode_utf8_first = Go.Lib.firstData := by kernel_rfl
set_option maxRecDepth 100000 in
theorem accept_eq : (Rows.laid_unicode_utf8_acceptRanges : DataW Unit) = Go.Lib.acceptData := by kernel_rfl
set_option maxRecDepth 100000 in
theorem fold_eq : (Rows.laid_unicode_asciiFold : DataW Unit) = Go.Lib.tabData .u16 ((List.range 128).map foldC) := by kernel_rfl
theorem reads_cells {W : World} {n : String} {d : DataW Unit} (h : VarReads Tryz.prog W n d) {g t : Nat} (hg : Tryz.prog.globalNamed n = some g) (ht : (Tryz.prog.globals[g]?).map (·.type) = some t) :
    ∃ (cs : Array Value) (fuel : Nat) (p : List MemPlace), (∀ j, W.cell? ⟨g, j, none⟩ = cs[j]?) ∧ DataW.trod (fun _ => ()) Tryz.prog W 0 (fun _ => true) false fuel t cs.toList = some (d, p) := by
  obtain ⟨g', t', cs, fuel, p, h1, h2, h3, h4⟩ := h
  obtain rfl := Option.some.inj (hg.symm.trans h1)
  obtain rfl := Option.some.inj (ht.symm.trans h2)
  exact ⟨cs, fuel, p, fun j => World.var?_cell h1 h3 j, h4⟩
theorem err_cell {W : World} {n : String} {d : DataW Unit} (h : VarReads Tryz.prog W n d) {g : Nat} (hg : Tryz.prog.globalNamed n = some g) (ht : (Tryz.prog.globals[g]?).map (·.type) = some 199) (s : String) (d' : DataW Unit) (hd : d = .iface s d') :
    ∃ t p, W.cell? ⟨g, 0, none⟩ = some (.iface t p) := by
  subst hd
  obtain ⟨cs, fuel, p, hc, htr⟩ := reads_cells h hg ht
  obtain ⟨_, u, v, e, _⟩ := iface_of_trod Tryz.underlying199 htr
  refine ⟨u, v, ?_⟩
  rw [hc 0, Array.eq_one_of_toList e]
  rfl
theorem tab_cells {W : World} {n : String} {g t e : Nat} {k : IntKind} {m : Nat} {zs : List Int} (h : VarReads Tryz.prog W n (Go.Lib.tabData k zs)) (hg : Tryz.prog.globalNamed n = some g) (ht : (Tryz.prog.globals[g]?).map (·.type) = some t)
    (hu : Tryz.prog.underlying t = some (.array m e)) (he : Tryz.prog.underlying e = some (.int k)) (hce : Tryz.prog.cellsOf e = 1) (hct : Tryz.prog.cellsOf t = m) (j : Nat) : W.cell? ⟨g, j, none⟩ = (zs.map fun z => Value.int k z)[j]? := by
  obtain ⟨cs, fuel, p, hc, htr⟩ := reads_cells h hg ht
  have := Go.Lib.cells_of_tab hu he hce hct htr
  rw [hc j, ← Array.getElem?_toList, this]
theorem acc_cells {W : World} (h : VarReads Tryz.prog W "unicode/utf8.acceptRanges" Go.Lib.acceptData) (i : Nat) (hi : i < 16) :
    W.cell? ⟨5, 2 * i, none⟩ = some (.int .u8 (Lib.accLo i : Int)) ∧ W.cell? ⟨5, 2 * i + 1, none⟩ = some (.int .u8 (Lib.accHi i : Int)) := by
  obtain ⟨cs, fuel, p, hc, htr⟩ := reads_cells h (g := 5) (t := 222) (by kernel_rfl) (by kernel_rfl)
  obtain ⟨fuel', d, q, hdi, he⟩ := Go.Lib.array_elem Tryz.underlying222 htr i hi
  simp only [List.getElem?_map, List.getElem?_range hi, Option.map_some, Option.some.injEq] at hdi
  subst hdi
  have c2 : Tryz.prog.cellsOf 221 = 2 := by kernel_rfl
  have c1 : Tryz.prog.cellsOf 5 = 1 := by kernel_rfl
  rw [c2] at he
  have hcs := Go.Lib.ints_of_struct Tryz.underlying221 (fun j f hj => by
    match j, hj with
    | 0, hj => simp at hj; subst hj; exact ⟨Tryz.underlying5, rfl, c1⟩
    | 1, hj => simp at hj; subst hj; exact ⟨Tryz.underlying5, rfl, c1⟩
    | j + 2, hj => simp at hj) (by rw [c2]; rfl) he
  have e0 := congrArg (·[0]?) hcs
  have e1 := congrArg (·[1]?) hcs
  simp only [List.getElem?_take, List.getElem?_drop] at e0 e1
  constructor
  · rw [hc (2 * i), ← Array.getElem?_toList]
    simpa [Nat.mul_comm] using e0
  · rw [hc (2 * i + 1), ← Array.getElem?_toList]
    simpa [Nat.mul_comm] using e1
set_option maxRecDepth 100000 in
theorem arr_cell {W : World} {n : String} {d : DataW Unit} (h : VarReads Tryz.prog W n d) (hg : Tryz.prog.globalNamed n = some 10) (ht : (Tryz.prog.globals[10]?).map (·.type) = some 260) : ∃ u, W.cell? ⟨10, 0, none⟩ = some u := by
  obtain ⟨cs, fuel, p, hc, htr⟩ := reads_cells h hg ht
  obtain ⟨xs, m, _, _, _, hl, hel⟩ := DataW.trod_array Tryz.underlying260 htr
  have c5 : Tryz.prog.cellsOf 5 = 1 := by kernel_rfl
  have hE := hel 0 (by decide)
  rw [c5, Nat.mul_one, List.getElem?_eq_getElem (by omega)] at hE
  obtain ⟨z, e1, _⟩ := DataW.trod_int Tryz.underlying5 hE
  refine ⟨.int .u8 z, ?_⟩
  rw [hc 0, ← Array.getElem?_toList]
  have h0 : ((cs.toList.drop 0).take 1)[0]? = some (.int .u8 z) := by rw [e1]; rfl
  simpa using h0
set_option maxRecDepth 100000 in
theorem of_laid {W : World} (hL : laidMetH Tryz.prog laid10 W) (hS : W.ShapedOpen Tryz.prog) : Gl W := by
  rw [MakeChecks.laidMetH_plain _ _ _ (by kernel_rfl)] at hL
  have rd : ∀ n d, (n, d) ∈ laid10 → VarReads Tryz.prog W n d := fun n d h => Go.Lib.laidMet.reads hL h
  have r1 := rd "unicode.asciiFold" Rows.laid_unicode_asciiFold (by unfold laid10 Rows.wordWellsRow; simp)
  have r4 := rd "unicode/utf8.first" Rows.laid_unicode_utf8_first (by unfold laid10 Rows.wordWellsRow; simp)
  have r5 := rd "unicode/utf8.acceptRanges" Rows.laid_unicode_utf8_acceptRanges (by unfold laid10 Rows.wordWellsRow; simp)
  have r6 := rd "strconv.ErrSyntax" Rows.laid_strconv_ErrSyntax (by unfold laid10 Rows.wordWellsRow; simp)
  have r7 := rd "strconv.ErrRange" Rows.laid_strconv_ErrRange (by unfold laid10 Rows.wordWellsRow; simp)
  have r10 := rd "math/bits.deBruijn64tab" Rows.laid_math_bits_deBruijn64tab (by unfold laid10 Rows.wordWellsRow; simp)
  rw [fold_eq] at r1
  rw [first_eq] at r4
  rw [accept_eq] at r5
  have c6 := err_cell r6 (g := 6) (by kernel_rfl) (by kernel_rfl) _ _ rfl
  have c7 := err_cell r7 (g := 7) (by kernel_rfl) (by kernel_rfl) _ _ rfl
  have c10 := arr_cell r10 (by kernel_rfl) (by kernel_rfl)
  have hz : 11 ≤ W.heap.size := by
    obtain ⟨u, hu⟩ := c10
    exact Lib.lt_of_cell hu
  refine ⟨⟨by omega, c6, c7⟩, hz, cell_of_shapedOpen_int hS (g := 0) (t := 3) (zero := #[.int .i64 0]) (of_decide_eq_true (by kernel_rfl)) (by kernel_rfl) (by kernel_rfl) (by kernel_rfl) (by kernel_rfl) Tryz.underlying3, ⟨fun c hc => ?_, acc_cells r5⟩, fun k hk => ?_⟩
  · have := tab_cells r4 (g := 4) (t := 219) (by kernel_rfl) (by kernel_rfl) Tryz.underlying219 Tryz.underlying5 (by kernel_rfl) (by kernel_rfl) c
    rw [this]
    simp [Go.Lib.firstTab, hc]
  · have := tab_cells r1 (g := 1) (t := 203) (by kernel_rfl) (by kernel_rfl) Tryz.underlying203 Tryz.underlying202 (by kernel_rfl) (by kernel_rfl) k
    rw [this]
    simp [hk]
/-- The wrap for a row that lists variables: the contract is handed what they hold, and the world's shape. -/
theorem lift_both {H : Type} {enc : TypeId × Value → H} {a : Assume} {C : Checked} {os : Os} {f : FuncId} {fn : Func} {s : ChangeSpec} {conds : List PathCond} {apart fresh handsOn again : Bool} {X : World → Array Value → Prop}
    (hX : ∀ (w w' : World) (args : Array Value), w.heap = w'.heap → X w args → X w' args)
    (own : ownKnob C.prog.godebug = none) (started : os.Started) (noInit : C.prog.inits.idxOf? f = none) (hfn : C.prog.funcs[f]? = some fn)
    (witness : ∃ (w : World) (tape : Tape) (i : Input), w.os = os ∧ (w.forCall tape i).Shaped C.prog ∧ i.vars = [] ∧ Input.okWide C.prog (w.forCall tape i) .any w.heap.size f i ∧
      ((s.pre enc C.prog fn conds apart (w.forCall tape i).memory i.args ∧ X (w.forCall tape i).memory i.args) ∧ sizedMet enc C.prog fn (OpenSpec.ofChange s) apart (w.forCall tape i).memory i.args) ∧ a.holds C.prog (lone (Frame.enter C.prog f i.args .normal) [] (w.forCall tape i)))
    (contract : ∀ (W : World) (base : Nat) (args : Array Value) (ds gs : List (DataW H)) (before : List MemPlace),
      (∀ (j : Nat) t v, fn.params[j]? = some t → args[j]? = some v → Value.okWide C.prog W .any base t v) →
      DataW.Whole enc C.prog fn.params.toList s.vars apart W args.toList ds gs before → X W args → W.ShapedOpen C.prog →
      Calls C.prog f args W fun e W' => ∃ v, e = .returned v ∧ s.post enc C.prog fn apart fresh handsOn again W args v W') :
    ReturnsInHanded a C os f .any (fun w args => (s.pre enc C.prog fn conds apart w args ∧ X w args) ∧ sizedMet enc C.prog fn (OpenSpec.ofChange s) apart w args) (s.post enc C.prog fn apart fresh handsOn again) := by
  refine returnsInHanded_of_calls own started noInit witness ?_
  intro w tape i _ hsh _ hok hpre _
  obtain ⟨_, _, _, fn', hfn', _, _, _, _, hval⟩ := hok
  obtain rfl : fn' = fn := Option.some.inj (hfn'.symm.trans hfn)
  obtain ⟨⟨⟨ds, gs, before, hw, _⟩, hx⟩, _⟩ := hpre
  refine (contract (w.forCall tape i) w.heap.size i.args ds gs before hval (DataW.Whole.of_heap (w' := w.forCall tape i) (by rfl) hw) (hX _ _ _ (by rfl) hx) hsh).mono fun e W' ⟨v, he, hp⟩ => ?_
  subst he
  exact ChangeSpec.post_blind hp
end Go.Proofs.YtkeilgompipfjaaGreatDoor
