/-
  Merged by program out of the texts TgCut, TgPair of one seat.
-/
import Derived.Test.YtnomcldpbkinmaaGreatDoorG10
import Derived.Deep.QuietTactic
import Derived.BigQuiet

/- Where a quote stands; strings.Cut at a quote. -/
set_option linter.unusedSimpArgs false
set_option linter.unusedVariables false
namespace Go.Proofs.YtnomcldpbkinmaaGreatDoor.Tg
open Go.RowKit

theorem ibq (q : UInt8) : ∀ (l : List UInt8), (Lib.indexByte l q = -1 ∧ q ∉ l) ∨ ∃ i : Nat, Lib.indexByte l q = i ∧ i < l.length ∧ l[i]? = some q ∧ ∀ j, j < i → l[j]? ≠ some q
  | [] => .inl ⟨rfl, by simp⟩
  | b :: l => by
    unfold Lib.indexByte
    by_cases hb : b = q
    · subst hb
      exact .inr ⟨0, by simp, by simp, by simp, by simp⟩
    · have hb1 : (b == q) = false := by simpa using hb
      rw [hb1]
      rcases ibq q l with ⟨h1, h2⟩ | ⟨i, h1, h2, h3, h4⟩
      · refine .inl ⟨by rw [h1]; rfl, ?_⟩
        rw [List.mem_cons]
        rintro (h | h)
        · exact hb h.symm
        · exact h2 h
      · refine .inr ⟨i + 1, ?_, by simp; omega, by simpa using h3, ?_⟩
        · rw [h1]
          have : (((i : Int)) == -1) = false := by rw [beq_eq_false_iff_ne]; omega
          simp [this]
        · intro j hj
          cases j with
          | zero => simpa using hb
          | succ j => simpa using h4 j (by omega)
theorem byt_q (u : ByteArray) (q : UInt8) (j : Nat) (hj : j < u.size) : (byts u).getD j 0 = (q.toNat : Int) ↔ u.data.toList[j]? = some q := by
  have hl : j < u.data.toList.length := by rw [← Lib.size_eq]; exact hj
  unfold byts
  rw [List.getD_eq_getElem?_getD, List.getElem?_map, List.getElem?_eq_getElem hl]
  simp only [Option.map_some, Option.getD_some, Option.some.injEq]
  constructor
  · intro h
    exact UInt8.toNat_inj.1 (by omega)
  · intro h
    rw [h]
theorem qi_cases (q : UInt8) (u : ByteArray) : (qi q u = -1 ∧ ∀ j, j < u.size → (byts u).getD j 0 ≠ (q.toNat : Int)) ∨ ∃ i : Nat, qi q u = i ∧ i < u.size ∧ (byts u).getD i 0 = (q.toNat : Int) ∧ ∀ j, j < i → (byts u).getD j 0 ≠ (q.toNat : Int) := by
  rcases ibq q u.data.toList with ⟨h1, h2⟩ | ⟨i, h1, h2, h3, h4⟩
  · refine .inl ⟨h1, fun j hj e => h2 ?_⟩
    exact List.mem_of_getElem? ((byt_q u q j hj).1 e)
  · have hi : i < u.size := by rw [Lib.size_eq]; exact h2
    exact .inr ⟨i, h1, hi, (byt_q u q i hi).2 h3, fun j hj e => h4 j hj ((byt_q u q j (by omega)).1 e)⟩
theorem qi_none (q : UInt8) (u : ByteArray) (h : ∀ j, j < u.size → (byts u).getD j 0 ≠ (q.toNat : Int)) : qi q u = -1 := by
  rcases qi_cases q u with ⟨h1, _⟩ | ⟨i, _, h2, h3, _⟩
  · exact h1
  · exact absurd h3 (h i h2)
theorem qi_some (q : UInt8) (u : ByteArray) (i : Nat) (hi : i < u.size) (he : (byts u).getD i 0 = (q.toNat : Int)) (h : ∀ j, j < i → (byts u).getD j 0 ≠ (q.toNat : Int)) : qi q u = i := by
  rcases qi_cases q u with ⟨h1, h2⟩ | ⟨k, h1, h2, h3, h4⟩
  · exact absurd he (h2 i hi)
  · have : k = i := by
      rcases Nat.lt_trichotomy k i with hlt | heq | hgt
      · exact absurd h3 (h k hlt)
      · exact heq
      · exact absurd he (h4 i hgt)
    rw [h1, this]
set_option maxHeartbeats 1000000 in
set_option maxRecDepth 100000 in
theorem idx_any34 (s : ByteArray) (w : World) :
    Calls Tryz.prog 113 #[.string s, .string ⟨#[34]⟩] w fun e w' => e = .returned (.int .i64 (qi 34 s)) ∧ w = w' := by
  go_enter Tryz.func113, Tryz.ntmps113
  go_wp2_with (go_at_call 137; refine (idxb_any _ _ _).mono ?_; rintro e w' ⟨rfl, rfl⟩)
  · have h : ([34] == s.toList) = true := by assumption
    go_ret
    refine ⟨?_, rfl⟩
    have e : s.data.toList = [34] := by rw [← Lib.toList_data]; exact (beq_iff_eq.1 h).symm
    unfold qi
    rw [e]
    rfl
  · go_ret
    exact ⟨rfl, rfl⟩

set_option maxHeartbeats 1000000 in
set_option maxRecDepth 100000 in
theorem lcut_hit34 (s : ByteArray) (i : Nat) (h : qi 34 s = i) (hi : i < s.size) (hs : s.size ≤ 1000000) (w : World) :
    Calls Tryz.prog 154 #[.string s, .string ⟨#[34]⟩] w fun e w' => e = .returned (.tuple #[.string (s.extract 0 i), .string (s.extract (i + 1) s.size), .bool true]) ∧ Below w.heap.size w w' := by
  have CI := Lib.hid (idx_any34 s)
  rw [h] at CI
  clear h
  have c1 : (0 : Int) ≤ (i : Int) := by omega
  have c2 : (i : Int) ≤ (s.size : Int) := by omega
  have c3 : (0 : Int) ≤ (i : Int) + 1 := by omega
  have c4 : (i : Int) + 1 ≤ (s.size : Int) := by omega
  have c5 : decide ((0 : Int) ≤ (i : Int)) = true := by simp
  have q3 : ((i : Int) + 1).toNat = i + 1 := by omega
  have q2 : IntKind.i64.wrap ((i : Int) + 1) = (i : Int) + 1 := IntWalk.i64_in _ (by omega)
  go_enter Tryz.func154, Tryz.ntmps154
  go_wp2_with (go_at_call 113; refine (CI.out _).mono ?_; rintro e w' ⟨rfl, rfl⟩)
  go_quiet (fail)
  go_wp2
  go_ret3
  exact ⟨rfl, below_drewN (Below.refl _ _) _⟩

set_option maxHeartbeats 1000000 in
set_option maxRecDepth 100000 in
theorem lcut_miss34 (s : ByteArray) (h : qi 34 s = -1) (w : World) :
    Calls Tryz.prog 154 #[.string s, .string ⟨#[34]⟩] w fun e w' => e = .returned (.tuple #[.string s, .string ⟨#[]⟩, .bool false]) ∧ Below w.heap.size w w' := by
  have CI := Lib.hid (idx_any34 s)
  rw [h] at CI
  clear h
  go_enter Tryz.func154, Tryz.ntmps154
  go_wp2_with (go_at_call 113; refine (CI.out _).mono ?_; rintro e w' ⟨rfl, rfl⟩)
  go_ret3
  exact ⟨rfl, Below.refl _ _⟩

set_option maxHeartbeats 1000000 in
set_option maxRecDepth 100000 in
theorem scut_hit34 (s : ByteArray) (i : Nat) (h : qi 34 s = i) (hi : i < s.size) (hs : s.size ≤ 1000000) (w : World) :
    Calls Tryz.prog 123 #[.string s, .string ⟨#[34]⟩] w fun e w' => e = .returned (.tuple #[.string (s.extract 0 i), .string (s.extract (i + 1) s.size), .bool true]) ∧ Below w.heap.size w w' := by
  have CL := Lib.hid (lcut_hit34 s i h hi hs)
  clear h hi hs
  go_enter Tryz.func123, Tryz.ntmps123
  go_wp2_with (go_at_call 154; refine (CL.out _).mono ?_; rintro e w' ⟨rfl, hb⟩)
  go_ret3
  exact ⟨rfl, hb⟩
set_option maxHeartbeats 1000000 in
set_option maxRecDepth 100000 in
theorem scut_miss34 (s : ByteArray) (h : qi 34 s = -1) (w : World) :
    Calls Tryz.prog 123 #[.string s, .string ⟨#[34]⟩] w fun e w' => e = .returned (.tuple #[.string s, .string ⟨#[]⟩, .bool false]) ∧ Below w.heap.size w w' := by
  have CL := Lib.hid (lcut_miss34 s h)
  clear h
  go_enter Tryz.func123, Tryz.ntmps123
  go_wp2_with (go_at_call 154; refine (CL.out _).mono ?_; rintro e w' ⟨rfl, hb⟩)
  go_ret3
  exact ⟨rfl, hb⟩
set_option maxHeartbeats 1000000 in
set_option maxRecDepth 100000 in
theorem idx_any39 (s : ByteArray) (w : World) :
    Calls Tryz.prog 113 #[.string s, .string ⟨#[39]⟩] w fun e w' => e = .returned (.int .i64 (qi 39 s)) ∧ w = w' := by
  go_enter Tryz.func113, Tryz.ntmps113
  go_wp2_with (go_at_call 137; refine (idxb_any _ _ _).mono ?_; rintro e w' ⟨rfl, rfl⟩)
  · have h : ([39] == s.toList) = true := by assumption
    go_ret
    refine ⟨?_, rfl⟩
    have e : s.data.toList = [39] := by rw [← Lib.toList_data]; exact (beq_iff_eq.1 h).symm
    unfold qi
    rw [e]
    rfl
  · go_ret
    exact ⟨rfl, rfl⟩

set_option maxHeartbeats 1000000 in
set_option maxRecDepth 100000 in
theorem lcut_hit39 (s : ByteArray) (i : Nat) (h : qi 39 s = i) (hi : i < s.size) (hs : s.size ≤ 1000000) (w : World) :
    Calls Tryz.prog 154 #[.string s, .string ⟨#[39]⟩] w fun e w' => e = .returned (.tuple #[.string (s.extract 0 i), .string (s.extract (i + 1) s.size), .bool true]) ∧ Below w.heap.size w w' := by
  have CI := Lib.hid (idx_any39 s)
  rw [h] at CI
  clear h
  have c1 : (0 : Int) ≤ (i : Int) := by omega
  have c2 : (i : Int) ≤ (s.size : Int) := by omega
  have c3 : (0 : Int) ≤ (i : Int) + 1 := by omega
  have c4 : (i : Int) + 1 ≤ (s.size : Int) := by omega
  have c5 : decide ((0 : Int) ≤ (i : Int)) = true := by simp
  have q3 : ((i : Int) + 1).toNat = i + 1 := by omega
  have q2 : IntKind.i64.wrap ((i : Int) + 1) = (i : Int) + 1 := IntWalk.i64_in _ (by omega)
  go_enter Tryz.func154, Tryz.ntmps154
  go_wp2_with (go_at_call 113; refine (CI.out _).mono ?_; rintro e w' ⟨rfl, rfl⟩)
  go_quiet (fail)
  go_wp2
  go_ret3
  exact ⟨rfl, below_drewN (Below.refl _ _) _⟩

set_option maxHeartbeats 1000000 in
set_option maxRecDepth 100000 in
theorem lcut_miss39 (s : ByteArray) (h : qi 39 s = -1) (w : World) :
    Calls Tryz.prog 154 #[.string s, .string ⟨#[39]⟩] w fun e w' => e = .returned (.tuple #[.string s, .string ⟨#[]⟩, .bool false]) ∧ Below w.heap.size w w' := by
  have CI := Lib.hid (idx_any39 s)
  rw [h] at CI
  clear h
  go_enter Tryz.func154, Tryz.ntmps154
  go_wp2_with (go_at_call 113; refine (CI.out _).mono ?_; rintro e w' ⟨rfl, rfl⟩)
  go_ret3
  exact ⟨rfl, Below.refl _ _⟩

set_option maxHeartbeats 1000000 in
set_option maxRecDepth 100000 in
theorem scut_hit39 (s : ByteArray) (i : Nat) (h : qi 39 s = i) (hi : i < s.size) (hs : s.size ≤ 1000000) (w : World) :
    Calls Tryz.prog 123 #[.string s, .string ⟨#[39]⟩] w fun e w' => e = .returned (.tuple #[.string (s.extract 0 i), .string (s.extract (i + 1) s.size), .bool true]) ∧ Below w.heap.size w w' := by
  have CL := Lib.hid (lcut_hit39 s i h hi hs)
  clear h hi hs
  go_enter Tryz.func123, Tryz.ntmps123
  go_wp2_with (go_at_call 154; refine (CL.out _).mono ?_; rintro e w' ⟨rfl, hb⟩)
  go_ret3
  exact ⟨rfl, hb⟩
set_option maxHeartbeats 1000000 in
set_option maxRecDepth 100000 in
theorem scut_miss39 (s : ByteArray) (h : qi 39 s = -1) (w : World) :
    Calls Tryz.prog 123 #[.string s, .string ⟨#[39]⟩] w fun e w' => e = .returned (.tuple #[.string s, .string ⟨#[]⟩, .bool false]) ∧ Below w.heap.size w w' := by
  have CL := Lib.hid (lcut_miss39 s h)
  clear h
  go_enter Tryz.func123, Tryz.ntmps123
  go_wp2_with (go_at_call 154; refine (CL.out _).mono ?_; rintro e w' ⟨rfl, hb⟩)
  go_ret3
  exact ⟨rfl, hb⟩
end Go.Proofs.YtnomcldpbkinmaaGreatDoor.Tg

/- The walks of the reader's quoted and pair. -/
set_option linter.unusedSimpArgs false
set_option linter.unusedVariables false
namespace Go.Proofs.YtnomcldpbkinmaaGreatDoor.Tg
open Go.RowKit

theorem u34 : ((34 : UInt8).toNat : Int) = 34 := rfl
theorem u39 : ((39 : UInt8).toNat : Int) = 39 := rfl
theorem u61 : ((61 : UInt8).toNat : Int) = 61 := rfl
set_option maxHeartbeats 1000000 in
set_option maxRecDepth 100000 in
theorem quoted_none (w0 : World) (g : Nat) (u nm : ByteArray) (v : Value) (l : List (ByteArray × ByteArray)) (w : World) (h : RS w0 g u nm v l w) (h1 : hd u ≠ 34) (h2 : hd u ≠ 39) :
    Calls Tryz.prog 151 #[.pointer (some ⟨g, 0, none⟩)] w (RPost (.tuple #[.string ⟨#[]⟩, .int .i64 6]) w w0 g u nm v l) := by
  have C1 := Lib.hid (mark_no w0 g u nm 34 v l w h (by rw [u34]; exact h1))
  have C2 := Lib.hid (fun w h => mark_no w0 g u nm 39 v l w h (by rw [u39]; exact h2))
  clear h h1 h2
  go_enter Tryz.func151, Tryz.ntmps151
  go_wp2_with fail
  refine C1.out.mono ?_
  rintro e w1 ⟨rfl, hr1, hg1⟩
  have HR1 := Lib.hid hr1
  have HG1 := Lib.hid hg1
  clear hr1 hg1 C1
  go_wp2_with fail
  refine (C2.out _ HR1.out).mono ?_
  rintro e w2 ⟨rfl, hr2, hg2⟩
  have HR2 := Lib.hid hr2
  have HG2 := Lib.hid (gn_trans HG1.out hg2)
  clear hr2 hg2 C2 HR1
  go_wp2
  go_ret2
  exact ⟨rfl, HR2.out, HG2.out⟩
set_option maxHeartbeats 1000000 in
set_option maxRecDepth 100000 in
theorem quoted_34 (w0 : World) (g : Nat) (u nm a b : ByteArray) (ok : Bool) (v : Value) (l : List (ByteArray × ByteArray)) (w : World) (h : RS w0 g u nm v l w) (h1 : hd u = 34)
    (CC : Hid (∀ w, Calls Tryz.prog 123 #[.string (Nz.fr u 1), .string ⟨#[34]⟩] w fun e w' => e = .returned (.tuple #[.string a, .string b, .bool true]) ∧ Below w.heap.size w w')) :
    Calls Tryz.prog 151 #[.pointer (some ⟨g, 0, none⟩)] w (RPost (.tuple #[.string a, .int .i64 0]) w w0 g b nm v l) := by
  have C1 := Lib.hid (mark_yes w0 g u nm 34 v l w h (by decide) (by rw [u34]; exact h1))
  generalize Nz.fr u 1 = u1 at *
  clear h h1
  go_enter Tryz.func151, Tryz.ntmps151
  go_wp2_with fail
  refine C1.out.mono ?_
  rintro e w1 ⟨rfl, hr1, hg1⟩
  have HR1 := Lib.hid hr1
  have HG1 := Lib.hid hg1
  have c1 := hr1.c0
  clear hr1 hg1 C1
  go_wp2_with fail
  refine (CC.out _).mono ?_
  rintro e w2 ⟨rfl, hb2⟩
  have HR2 := Lib.hid (HR1.out.after hb2)
  have HG2 := Lib.hid (gn_trans HG1.out (gn_below g hb2))
  have c2 := HR2.out.c0
  have f2 := HR2.out.fz 0
  clear hb2 CC HR1 HG1 c1
  go_wp2
  go_ret2
  exact ⟨rfl, HR2.out.left b, gn_set HG2.out _ _⟩
set_option maxHeartbeats 1000000 in
set_option maxRecDepth 100000 in
theorem quoted_34n (w0 : World) (g : Nat) (u nm a b : ByteArray) (v : Value) (l : List (ByteArray × ByteArray)) (w : World) (h : RS w0 g u nm v l w) (h1 : hd u = 34)
    (CC : Hid (∀ w, Calls Tryz.prog 123 #[.string (Nz.fr u 1), .string ⟨#[34]⟩] w fun e w' => e = .returned (.tuple #[.string a, .string b, .bool false]) ∧ Below w.heap.size w w')) :
    Calls Tryz.prog 151 #[.pointer (some ⟨g, 0, none⟩)] w (RPost (.tuple #[.string ⟨#[]⟩, .int .i64 6]) w w0 g (Nz.fr u 1) nm v l) := by
  have C1 := Lib.hid (mark_yes w0 g u nm 34 v l w h (by decide) (by rw [u34]; exact h1))
  generalize Nz.fr u 1 = u1 at *
  clear h h1
  go_enter Tryz.func151, Tryz.ntmps151
  go_wp2_with fail
  refine C1.out.mono ?_
  rintro e w1 ⟨rfl, hr1, hg1⟩
  have HR1 := Lib.hid hr1
  have HG1 := Lib.hid hg1
  have c1 := hr1.c0
  clear hr1 hg1 C1
  go_wp2_with fail
  refine (CC.out _).mono ?_
  rintro e w2 ⟨rfl, hb2⟩
  have HR2 := Lib.hid (HR1.out.after hb2)
  have HG2 := Lib.hid (gn_trans HG1.out (gn_below g hb2))
  clear hb2 CC HR1 HG1 c1
  go_wp2
  go_ret2
  exact ⟨rfl, HR2.out, HG2.out⟩
set_option maxHeartbeats 1000000 in
set_option maxRecDepth 100000 in
theorem quoted_39 (w0 : World) (g : Nat) (u nm a b : ByteArray) (v : Value) (l : List (ByteArray × ByteArray)) (w : World) (h : RS w0 g u nm v l w) (h1 : hd u = 39)
    (CC : Hid (∀ w, Calls Tryz.prog 123 #[.string (Nz.fr u 1), .string ⟨#[39]⟩] w fun e w' => e = .returned (.tuple #[.string a, .string b, .bool true]) ∧ Below w.heap.size w w')) :
    Calls Tryz.prog 151 #[.pointer (some ⟨g, 0, none⟩)] w (RPost (.tuple #[.string a, .int .i64 0]) w w0 g b nm v l) := by
  have C0 := Lib.hid (mark_no w0 g u nm 34 v l w h (by rw [u34, h1]; decide))
  have C1 := Lib.hid (fun w h => mark_yes w0 g u nm 39 v l w h (by decide) (by rw [u39]; exact h1))
  generalize Nz.fr u 1 = u1 at *
  clear h h1
  go_enter Tryz.func151, Tryz.ntmps151
  go_wp2_with fail
  refine C0.out.mono ?_
  rintro e w1 ⟨rfl, hr1, hg1⟩
  have HR0 := Lib.hid hr1
  have HG0 := Lib.hid hg1
  clear hr1 hg1 C0
  go_wp2_with fail
  refine (C1.out _ HR0.out).mono ?_
  rintro e w1 ⟨rfl, hr1, hg1⟩
  have HR1 := Lib.hid hr1
  have HG1 := Lib.hid (gn_trans HG0.out hg1)
  have c1 := hr1.c0
  clear hr1 hg1 C1 HR0 HG0
  go_wp2_with fail
  refine (CC.out _).mono ?_
  rintro e w2 ⟨rfl, hb2⟩
  have HR2 := Lib.hid (HR1.out.after hb2)
  have HG2 := Lib.hid (gn_trans HG1.out (gn_below g hb2))
  have c2 := HR2.out.c0
  have f2 := HR2.out.fz 0
  clear hb2 CC HR1 HG1 c1
  go_wp2
  go_ret2
  exact ⟨rfl, HR2.out.left b, gn_set HG2.out _ _⟩
set_option maxHeartbeats 1000000 in
set_option maxRecDepth 100000 in
theorem quoted_39n (w0 : World) (g : Nat) (u nm a b : ByteArray) (v : Value) (l : List (ByteArray × ByteArray)) (w : World) (h : RS w0 g u nm v l w) (h1 : hd u = 39)
    (CC : Hid (∀ w, Calls Tryz.prog 123 #[.string (Nz.fr u 1), .string ⟨#[39]⟩] w fun e w' => e = .returned (.tuple #[.string a, .string b, .bool false]) ∧ Below w.heap.size w w')) :
    Calls Tryz.prog 151 #[.pointer (some ⟨g, 0, none⟩)] w (RPost (.tuple #[.string ⟨#[]⟩, .int .i64 6]) w w0 g (Nz.fr u 1) nm v l) := by
  have C0 := Lib.hid (mark_no w0 g u nm 34 v l w h (by rw [u34, h1]; decide))
  have C1 := Lib.hid (fun w h => mark_yes w0 g u nm 39 v l w h (by decide) (by rw [u39]; exact h1))
  generalize Nz.fr u 1 = u1 at *
  clear h h1
  go_enter Tryz.func151, Tryz.ntmps151
  go_wp2_with fail
  refine C0.out.mono ?_
  rintro e w1 ⟨rfl, hr1, hg1⟩
  have HR0 := Lib.hid hr1
  have HG0 := Lib.hid hg1
  clear hr1 hg1 C0
  go_wp2_with fail
  refine (C1.out _ HR0.out).mono ?_
  rintro e w1 ⟨rfl, hr1, hg1⟩
  have HR1 := Lib.hid hr1
  have HG1 := Lib.hid (gn_trans HG0.out hg1)
  have c1 := hr1.c0
  clear hr1 hg1 C1 HR0 HG0
  go_wp2_with fail
  refine (CC.out _).mono ?_
  rintro e w2 ⟨rfl, hb2⟩
  have HR2 := Lib.hid (HR1.out.after hb2)
  have HG2 := Lib.hid (gn_trans HG1.out (gn_below g hb2))
  clear hb2 CC HR1 HG1 c1
  go_wp2
  go_ret2
  exact ⟨rfl, HR2.out, HG2.out⟩

/-- What pair answers. -/
def PrPost (x : Int × ByteArray × ByteArray × ByteArray) (w0 : World) (g : Nat) (nm : ByteArray) (v : Value) (l : List (ByteArray × ByteArray)) (e : Ending) (w' : World) : Prop :=
  ∃ u', e = .returned (.tuple #[.agg #[.string x.2.1, .string x.2.2.1], .int .i64 x.1]) ∧ RS w0 g u' nm v l w' ∧ (x.1 = 0 → u' = x.2.2.2)
theorem pr_of {x y : Int × ByteArray × ByteArray × ByteArray} {w0 w' : World} {g : Nat} {nm : ByteArray} {v : Value} {l : List (ByteArray × ByteArray)} {e : Ending} (h : x = y) (hp : PrPost y w0 g nm v l e w') : PrPost x w0 g nm v l e w' := by rw [h]; exact hp
/-- The block that pair answers in: another one than the reader's, no row of the attributes'; it stays. -/
structure RB (w0 : World) (g r : Nat) (v : Value) (w : World) : Prop where
  ne : r ≠ g
  lo : w0.heap.size ≤ r
  row : v.ownBlock ≠ some r
  blk : w.heap[r]? = some (.cells #[.string ⟨#[]⟩, .string ⟨#[]⟩] 81 (0, 0))
theorem RB.lt {w0 w : World} {g r : Nat} {v : Value} (h : RB w0 g r v w) : r < w.heap.size := (Array.getElem?_eq_some_iff.1 h.blk).1
theorem RB.after {w0 w w' : World} {g r : Nat} {v : Value} (h : RB w0 g r v w) (hg : w.grownBy w' (some g)) : RB w0 g r v w' := ⟨h.ne, h.lo, h.row, (hg.block r h.lt (by simpa using h.ne)).trans h.blk⟩
theorem RB.below {w0 w w' : World} {g r : Nat} {v : Value} (h : RB w0 g r v w) (hg : Below w.heap.size w w') : RB w0 g r v w' := h.after (gn_below g hg)
theorem RB.c0 {w0 w : World} {g r : Nat} {v : Value} (h : RB w0 g r v w) : w.cell? ⟨r, 0, none⟩ = some (.string ⟨#[]⟩) := by rw [Lib.cell_of_heap h.blk]; rfl
theorem RB.c1 {w0 w : World} {g r : Nat} {v : Value} (h : RB w0 g r v w) : w.cell? ⟨r, 1, none⟩ = some (.string ⟨#[]⟩) := by rw [Lib.cell_of_heap h.blk]; rfl
theorem RB.fz {w0 w : World} {g r : Nat} {v : Value} (h : RB w0 g r v w) (j : Nat) : w.frozen? ⟨r, j, none⟩ = false := Lib.frozen_of_heap h.blk j
theorem RB.new {w0 w : World} {g : Nat} {u nm : ByteArray} {v : Value} {l : List (ByteArray × ByteArray)} (h : RS w0 g u nm v l w) : RB w0 g w.heap.size v (w.alloc (.cells #[.string ⟨#[]⟩, .string ⟨#[]⟩] 81)) := by
  have := h.lt
  refine ⟨by omega, h.bel.size, fun e => ?_, heap_alloc_new w _⟩
  have := (World.ownsRow.lt h.own _ e).2
  omega
theorem RS.setO {w0 w : World} {g r : Nat} {u nm : ByteArray} {v : Value} {l : List (ByteArray × ByteArray)} (h : RS w0 g u nm v l w) (hr : r ≠ g) (hlo : w0.heap.size ≤ r) (hrow : v.ownBlock ≠ some r) (j : Nat) (x : Value) : RS w0 g u nm v l (w.setCell ⟨r, j, none⟩ x) :=
  ⟨h.lo, (Below.heap_setCell _ _ _ _ (fun e => hr e.symm)).trans h.blk,
   World.ownsRow.kept (row := some r) h.own ⟨rfl, rfl, rfl, by simp [World.setCell], fun k _ hk => Below.heap_setCell _ _ _ _ (fun e => hk (by simp [e]))⟩ (Or.inr hrow),
   h.bel.setCell (p := ⟨r, j, none⟩) hlo _, h.vr0⟩
theorem RS.res {w0 w : World} {g r : Nat} {u nm : ByteArray} {v : Value} {l : List (ByteArray × ByteArray)} (h : RS w0 g u nm v l w) (hr : RB w0 g r v w) (x y : Value) : RS w0 g u nm v l ((w.setCell ⟨r, 0, none⟩ x).setCell ⟨r, 1, none⟩ y) :=
  (h.setO hr.ne hr.lo hr.row 0 x).setO hr.ne hr.lo hr.row 1 y

set_option maxHeartbeats 2000000 in
set_option maxRecDepth 100000 in
theorem pair_noname (w0 : World) (g : Nat) (u nm : ByteArray) (v : Value) (l : List (ByteArray × ByteArray)) (w : World) (h : RS w0 g u nm v l w) (hs : u.size ≤ 100000) (h1 : isN (Nz.sx u 0) = false) :
    Calls Tryz.prog 120 #[.pointer (some ⟨g, 0, none⟩)] w (PrPost (4, Nz.em, Nz.em, Nz.em) w0 g nm v l) := by
  have HB0 := Lib.hid (RB.new h)
  have HR0 := Lib.hid (h.after ((Below.refl _ w).alloc (Nat.le_refl _) (.cells #[.string ⟨#[]⟩, .string ⟨#[]⟩] 81)))
  have C1 := Lib.hid (fun w h => name_no w0 g u nm v l w h (by omega) h1)
  clear h h1
  go_enter Tryz.func120, Tryz.ntmps120
  go_wp2_with fail
  refine (C1.out _ HR0.out).mono ?_
  rintro e w1 ⟨rfl, hr1, hg1⟩
  have HR1 := Lib.hid hr1
  have HB1 := Lib.hid (HB0.out.after hg1)
  clear hr1 hg1 C1 HR0 HB0
  generalize w.heap.size = r at *
  have c0 := HB1.out.c0
  have c1 := HB1.out.c1
  have f0 := HB1.out.fz 0
  have f1 := HB1.out.fz 1
  go_wp2
  exact bodyPost_ret (v := .tuple #[.agg #[.string ⟨#[]⟩, .string ⟨#[]⟩], .int .i64 4]) (by simp [results, Tryz.results120, go_sem, c0, c1]) rfl ⟨u, rfl, HR1.out.res HB1.out _ _, fun h => absurd h (by decide)⟩
set_option maxHeartbeats 2000000 in
set_option maxRecDepth 100000 in
theorem pair_nomark (w0 : World) (g : Nat) (u nm : ByteArray) (v : Value) (l : List (ByteArray × ByteArray)) (w : World) (h : RS w0 g u nm v l w) (hs : u.size ≤ 100000) (h1 : isN (Nz.sx u 0) = true) (h2 : hd (sk (Nz.fr u (Nz.sn u 0))) ≠ 61) :
    Calls Tryz.prog 120 #[.pointer (some ⟨g, 0, none⟩)] w (PrPost (6, Nz.em, Nz.em, Nz.em) w0 g nm v l) := by
  have HB0 := Lib.hid (RB.new h)
  have HR0 := Lib.hid (h.after ((Below.refl _ w).alloc (Nat.le_refl _) (.cells #[.string ⟨#[]⟩, .string ⟨#[]⟩] 81)))
  have C1 := Lib.hid (fun w h => name_yes w0 g u nm v l w h (by omega) h1)
  have hz := Nz.fr_size u (Nz.sn u 0)
  have C2 := Lib.hid (fun w h => skip_any w0 g (Nz.fr u (Nz.sn u 0)) nm v l w h (by omega) _ rfl)
  have C3 := Lib.hid (fun w h => mark_no w0 g (sk (Nz.fr u (Nz.sn u 0))) nm 61 v l w h (by rw [u61]; exact h2))
  clear h h1 h2 hz
  generalize sk (Nz.fr u (Nz.sn u 0)) = u2 at *
  generalize hb2 : decide (bk (Nz.fr u (Nz.sn u 0)) ≠ 0) = b2 at *
  clear hb2
  generalize Nz.fr u (Nz.sn u 0) = u1 at *
  generalize Nz.sx u 0 = x at *
  go_enter Tryz.func120, Tryz.ntmps120
  go_wp2_with fail
  refine (C1.out _ HR0.out).mono ?_
  rintro e w1 ⟨rfl, hr1, hg1⟩
  have HR1 := Lib.hid hr1
  have HB1 := Lib.hid (HB0.out.after hg1)
  clear hr1 hg1 C1 HR0 HB0
  generalize w.heap.size = r at *
  go_wp2_with fail
  refine (C2.out _ HR1.out).mono ?_
  rintro e w2 ⟨rfl, hr2, hg2⟩
  have HR2 := Lib.hid hr2
  have HB2 := Lib.hid (HB1.out.after hg2)
  clear hr2 hg2 C2 HR1 HB1
  go_wp2_with fail
  refine (C3.out _ HR2.out).mono ?_
  rintro e w3 ⟨rfl, hr3, hg3⟩
  have HR3 := Lib.hid hr3
  have HB3 := Lib.hid (HB2.out.after hg3)
  clear hr3 hg3 C3 HR2 HB2
  have c0 := HB3.out.c0
  have c1 := HB3.out.c1
  have f0 := HB3.out.fz 0
  have f1 := HB3.out.fz 1
  go_wp2
  exact bodyPost_ret (v := .tuple #[.agg #[.string ⟨#[]⟩, .string ⟨#[]⟩], .int .i64 6]) (by simp [results, Tryz.results120, go_sem, c0, c1]) rfl ⟨_, rfl, HR3.out.res HB3.out _ _, fun h => absurd h (by decide)⟩
set_option maxHeartbeats 2000000 in
set_option maxRecDepth 100000 in
theorem pair_noquote (w0 : World) (g : Nat) (u u5 nm : ByteArray) (v : Value) (l : List (ByteArray × ByteArray)) (w : World) (h : RS w0 g u nm v l w) (hs : u.size ≤ 100000) (h1 : isN (Nz.sx u 0) = true) (h2 : hd (sk (Nz.fr u (Nz.sn u 0))) = 61)
    (C5 : Hid (∀ w, RS w0 g (sk (Nz.fr (sk (Nz.fr u (Nz.sn u 0))) 1)) nm v l w → Calls Tryz.prog 151 #[.pointer (some ⟨g, 0, none⟩)] w (RPost (.tuple #[.string ⟨#[]⟩, .int .i64 6]) w w0 g u5 nm v l))) :
    Calls Tryz.prog 120 #[.pointer (some ⟨g, 0, none⟩)] w (PrPost (6, Nz.em, Nz.em, Nz.em) w0 g nm v l) := by
  have HB0 := Lib.hid (RB.new h)
  have HR0 := Lib.hid (h.after ((Below.refl _ w).alloc (Nat.le_refl _) (.cells #[.string ⟨#[]⟩, .string ⟨#[]⟩] 81)))
  have C1 := Lib.hid (fun w h => name_yes w0 g u nm v l w h (by omega) h1)
  have hz := Nz.fr_size u (Nz.sn u 0)
  have hz2 := sk_size (Nz.fr u (Nz.sn u 0))
  have hz3 := Nz.fr_size (sk (Nz.fr u (Nz.sn u 0))) 1
  have C2 := Lib.hid (fun w h => skip_any w0 g (Nz.fr u (Nz.sn u 0)) nm v l w h (by omega) _ rfl)
  have C3 := Lib.hid (fun w h => mark_yes w0 g (sk (Nz.fr u (Nz.sn u 0))) nm 61 v l w h (by decide) (by rw [u61]; exact h2))
  have C4 := Lib.hid (fun w h => skip_any w0 g (Nz.fr (sk (Nz.fr u (Nz.sn u 0))) 1) nm v l w h (by omega) _ rfl)
  clear h h1 h2 hz hz2 hz3
  generalize sk (Nz.fr (sk (Nz.fr u (Nz.sn u 0))) 1) = u4 at *
  generalize hb4 : decide (bk (Nz.fr (sk (Nz.fr u (Nz.sn u 0))) 1) ≠ 0) = b4 at *
  clear hb4
  generalize Nz.fr (sk (Nz.fr u (Nz.sn u 0))) 1 = u3 at *
  generalize sk (Nz.fr u (Nz.sn u 0)) = u2 at *
  generalize hb2 : decide (bk (Nz.fr u (Nz.sn u 0)) ≠ 0) = b2 at *
  clear hb2
  generalize Nz.fr u (Nz.sn u 0) = u1 at *
  generalize Nz.sx u 0 = x at *
  go_enter Tryz.func120, Tryz.ntmps120
  go_wp2_with fail
  refine (C1.out _ HR0.out).mono ?_
  rintro e w1 ⟨rfl, hr1, hg1⟩
  have HR1 := Lib.hid hr1
  have HB1 := Lib.hid (HB0.out.after hg1)
  clear hr1 hg1 C1 HR0 HB0
  generalize w.heap.size = r at *
  go_wp2_with fail
  refine (C2.out _ HR1.out).mono ?_
  rintro e w2 ⟨rfl, hr2, hg2⟩
  have HR2 := Lib.hid hr2
  have HB2 := Lib.hid (HB1.out.after hg2)
  clear hr2 hg2 C2 HR1 HB1
  go_wp2_with fail
  refine (C3.out _ HR2.out).mono ?_
  rintro e w3 ⟨rfl, hr3, hg3⟩
  have HR3 := Lib.hid hr3
  have HB3 := Lib.hid (HB2.out.after hg3)
  clear hr3 hg3 C3 HR2 HB2
  go_wp2_with fail
  refine (C4.out _ HR3.out).mono ?_
  rintro e w4 ⟨rfl, hr4, hg4⟩
  have HR4 := Lib.hid hr4
  have HB4 := Lib.hid (HB3.out.after hg4)
  clear hr4 hg4 C4 HR3 HB3
  go_wp2_with fail
  refine (C5.out _ HR4.out).mono ?_
  rintro e w5 ⟨rfl, hr5, hg5⟩
  have HR5 := Lib.hid hr5
  have HB5 := Lib.hid (HB4.out.after hg5)
  clear hr5 hg5 C5 HR4 HB4
  have c0 := HB5.out.c0
  have c1 := HB5.out.c1
  have f0 := HB5.out.fz 0
  have f1 := HB5.out.fz 1
  go_wp2
  exact bodyPost_ret (v := .tuple #[.agg #[.string ⟨#[]⟩, .string ⟨#[]⟩], .int .i64 6]) (by simp [results, Tryz.results120, go_sem, c0, c1]) rfl ⟨_, rfl, HR5.out.res HB5.out _ _, fun h => absurd h (by decide)⟩
def vlF (nm a b : ByteArray) : Int × ByteArray × ByteArray × ByteArray :=
  if (ansF true (byts a)).2.2 ≠ 0 then ((ansF true (byts a)).2.2, Nz.em, Nz.em, Nz.em) else (0, nm, strOfNums (ansF true (byts a)).1, b)
set_option maxHeartbeats 4000000 in
set_option maxRecDepth 100000 in
theorem pair_value (w0 : World) (g : Nat) (u a u5 nm : ByteArray) (v : Value) (l : List (ByteArray × ByteArray)) (w : World) (h : RS w0 g u nm v l w) (hs : u.size ≤ 100000) (h1 : isN (Nz.sx u 0) = true) (h2 : hd (sk (Nz.fr u (Nz.sn u 0))) = 61) (ha : a.size ≤ 100000)
    (C5 : Hid (∀ w, RS w0 g (sk (Nz.fr (sk (Nz.fr u (Nz.sn u 0))) 1)) nm v l w → Calls Tryz.prog 151 #[.pointer (some ⟨g, 0, none⟩)] w (RPost (.tuple #[.string a, .int .i64 0]) w w0 g u5 nm v l))) :
    Calls Tryz.prog 120 #[.pointer (some ⟨g, 0, none⟩)] w (PrPost (vlF (Nz.sx u 0) a u5) w0 g nm v l) := by
  have HB0 := Lib.hid (RB.new h)
  have HR0 := Lib.hid (h.after ((Below.refl _ w).alloc (Nat.le_refl _) (.cells #[.string ⟨#[]⟩, .string ⟨#[]⟩] 81)))
  have C1 := Lib.hid (fun w h => name_yes w0 g u nm v l w h (by omega) h1)
  have hz := Nz.fr_size u (Nz.sn u 0)
  have hz2 := sk_size (Nz.fr u (Nz.sn u 0))
  have hz3 := Nz.fr_size (sk (Nz.fr u (Nz.sn u 0))) 1
  have C2 := Lib.hid (fun w h => skip_any w0 g (Nz.fr u (Nz.sn u 0)) nm v l w h (by omega) _ rfl)
  have C3 := Lib.hid (fun w h => mark_yes w0 g (sk (Nz.fr u (Nz.sn u 0))) nm 61 v l w h (by decide) (by rw [u61]; exact h2))
  have C4 := Lib.hid (fun w h => skip_any w0 g (Nz.fr (sk (Nz.fr u (Nz.sn u 0))) 1) nm v l w h (by omega) _ rfl)
  have C6 := Lib.hid (fun w h => valu_any a w ha h)
  clear h h1 h2 hz hz2 hz3
  generalize sk (Nz.fr (sk (Nz.fr u (Nz.sn u 0))) 1) = u4 at *
  generalize hb4 : decide (bk (Nz.fr (sk (Nz.fr u (Nz.sn u 0))) 1) ≠ 0) = b4 at *
  clear hb4
  generalize Nz.fr (sk (Nz.fr u (Nz.sn u 0))) 1 = u3 at *
  generalize sk (Nz.fr u (Nz.sn u 0)) = u2 at *
  generalize hb2 : decide (bk (Nz.fr u (Nz.sn u 0)) ≠ 0) = b2 at *
  clear hb2
  generalize Nz.fr u (Nz.sn u 0) = u1 at *
  generalize Nz.sx u 0 = x at *
  obtain ⟨q, hq⟩ : ∃ q, q = vlF x a u5 := ⟨_, rfl⟩
  rw [← hq]
  unfold vlF at hq
  generalize ansF true (byts a) = y at *
  obtain ⟨yl, yp, ye⟩ := y
  dsimp only at hq
  generalize hst : strOfNums yl = str at *
  have HST := Lib.hid hst
  clear hst
  by_cases he : ye = 0
  · subst he
    rw [if_neg (by decide)] at hq
    have HQ := Lib.hid hq
    clear hq
    go_enter Tryz.func120, Tryz.ntmps120
    go_wp2_with fail
    refine (C1.out _ HR0.out).mono ?_
    rintro e w1 ⟨rfl, hr1, hg1⟩
    have HR1 := Lib.hid hr1
    have HB1 := Lib.hid (HB0.out.after hg1)
    clear hr1 hg1 C1 HR0 HB0
    generalize w.heap.size = r at *
    go_wp2_with fail
    refine (C2.out _ HR1.out).mono ?_
    rintro e w2 ⟨rfl, hr2, hg2⟩
    have HR2 := Lib.hid hr2
    have HB2 := Lib.hid (HB1.out.after hg2)
    clear hr2 hg2 C2 HR1 HB1
    go_wp2_with fail
    refine (C3.out _ HR2.out).mono ?_
    rintro e w3 ⟨rfl, hr3, hg3⟩
    have HR3 := Lib.hid hr3
    have HB3 := Lib.hid (HB2.out.after hg3)
    clear hr3 hg3 C3 HR2 HB2
    go_wp2_with fail
    refine (C4.out _ HR3.out).mono ?_
    rintro e w4 ⟨rfl, hr4, hg4⟩
    have HR4 := Lib.hid hr4
    have HB4 := Lib.hid (HB3.out.after hg4)
    clear hr4 hg4 C4 HR3 HB3
    go_wp2_with fail
    refine (C5.out _ HR4.out).mono ?_
    rintro e w5 ⟨rfl, hr5, hg5⟩
    have HR5 := Lib.hid hr5
    have HB5 := Lib.hid (HB4.out.after hg5)
    clear hr5 hg5 C5 HR4 HB4
    go_wp2_with fail
    refine (C6.out _ HR5.out.vr).mono ?_
    rintro e w6 ⟨rfl, hb6⟩
    have HR6 := Lib.hid (HR5.out.after hb6)
    have HB6 := Lib.hid (HB5.out.below hb6)
    clear hb6 C6 HR5 HB5
    dsimp only
    rw [HST.out]
    have c0 := HB6.out.c0
    have c1 := HB6.out.c1
    have f0 := HB6.out.fz 0
    have f1 := HB6.out.fz 1
    go_wp2
    exact bodyPost_ret (v := .tuple #[.agg #[.string x, .string str], .int .i64 0]) (by simp [results, Tryz.results120, go_sem, c0, c1]) rfl (pr_of HQ.out ⟨_, rfl, HR6.out.res HB6.out _ _, fun _ => rfl⟩)
  · rw [if_pos he] at hq
    have HQ := Lib.hid hq
    have t1 : (ye != 0) = true := by rw [bne_iff_ne]; exact he
    have HE := Lib.hid he
    clear hq he
    go_enter Tryz.func120, Tryz.ntmps120
    go_wp2_with fail
    refine (C1.out _ HR0.out).mono ?_
    rintro e w1 ⟨rfl, hr1, hg1⟩
    have HR1 := Lib.hid hr1
    have HB1 := Lib.hid (HB0.out.after hg1)
    clear hr1 hg1 C1 HR0 HB0
    generalize w.heap.size = r at *
    go_wp2_with fail
    refine (C2.out _ HR1.out).mono ?_
    rintro e w2 ⟨rfl, hr2, hg2⟩
    have HR2 := Lib.hid hr2
    have HB2 := Lib.hid (HB1.out.after hg2)
    clear hr2 hg2 C2 HR1 HB1
    go_wp2_with fail
    refine (C3.out _ HR2.out).mono ?_
    rintro e w3 ⟨rfl, hr3, hg3⟩
    have HR3 := Lib.hid hr3
    have HB3 := Lib.hid (HB2.out.after hg3)
    clear hr3 hg3 C3 HR2 HB2
    go_wp2_with fail
    refine (C4.out _ HR3.out).mono ?_
    rintro e w4 ⟨rfl, hr4, hg4⟩
    have HR4 := Lib.hid hr4
    have HB4 := Lib.hid (HB3.out.after hg4)
    clear hr4 hg4 C4 HR3 HB3
    go_wp2_with fail
    refine (C5.out _ HR4.out).mono ?_
    rintro e w5 ⟨rfl, hr5, hg5⟩
    have HR5 := Lib.hid hr5
    have HB5 := Lib.hid (HB4.out.after hg5)
    clear hr5 hg5 C5 HR4 HB4
    go_wp2_with fail
    refine (C6.out _ HR5.out.vr).mono ?_
    rintro e w6 ⟨rfl, hb6⟩
    have HR6 := Lib.hid (HR5.out.after hb6)
    have HB6 := Lib.hid (HB5.out.below hb6)
    clear hb6 C6 HR5 HB5
    dsimp only
    rw [HST.out]
    have c0 := HB6.out.c0
    have c1 := HB6.out.c1
    have f0 := HB6.out.fz 0
    have f1 := HB6.out.fz 1
    go_wp2
    exact bodyPost_ret (v := .tuple #[.agg #[.string ⟨#[]⟩, .string ⟨#[]⟩], .int .i64 ye]) (by simp [results, Tryz.results120, go_sem, c0, c1]) rfl (pr_of HQ.out ⟨_, rfl, HR6.out.res HB6.out _ _, fun h => absurd h HE.out⟩)

theorem quo_size (u : ByteArray) (i : Nat) (hs : u.size ≤ 100000) : (u.extract 0 i).size ≤ 100000 := by
  rw [← byts_len, byts_to, List.length_take, byts_len]
  omega
/-- An attribute that stands next. -/
theorem pair_any (w0 : World) (g : Nat) (u nm : ByteArray) (v : Value) (l : List (ByteArray × ByteArray)) (w : World) (h : RS w0 g u nm v l w) (hs : u.size ≤ 100000) :
    Calls Tryz.prog 120 #[.pointer (some ⟨g, 0, none⟩)] w (PrPost (pairF u) w0 g nm v l) := by
  unfold pairF
  by_cases h1 : isN (Nz.sx u 0) = false
  · rw [if_pos h1]
    exact pair_noname w0 g u nm v l w h hs h1
  rw [if_neg h1]
  have h1' : isN (Nz.sx u 0) = true := by simpa using h1
  by_cases h2 : hd (sk (Nz.fr u (Nz.sn u 0))) ≠ 61
  · rw [if_pos h2]
    exact pair_nomark w0 g u nm v l w h hs h1' h2
  rw [if_neg h2]
  have h2' := Decidable.not_not.1 h2
  have z1 := Nz.fr_size u (Nz.sn u 0)
  have z2 := sk_size (Nz.fr u (Nz.sn u 0))
  have z3 := Nz.fr_size (sk (Nz.fr u (Nz.sn u 0))) 1
  have z4 := sk_size (Nz.fr (sk (Nz.fr u (Nz.sn u 0))) 1)
  have z5 := Nz.fr_size (sk (Nz.fr (sk (Nz.fr u (Nz.sn u 0))) 1)) 1
  by_cases h3 : hd (sk (Nz.fr (sk (Nz.fr u (Nz.sn u 0))) 1)) = 34
  · rw [if_pos h3]
    unfold quoF
    rcases qi_cases 34 (Nz.fr (sk (Nz.fr (sk (Nz.fr u (Nz.sn u 0))) 1)) 1) with ⟨q1, _⟩ | ⟨i, q1, q2, _⟩
    · rw [if_pos q1]
      exact pair_noquote w0 g u _ nm v l w h hs h1' h2' (Lib.hid fun w h => quoted_34n w0 g _ nm _ _ v l w h h3 (Lib.hid fun w => scut_miss34 _ q1 w))
    · rw [q1, if_neg (by omega)]
      exact pair_value w0 g u _ _ nm v l w h hs h1' h2' (quo_size _ _ (by omega)) (Lib.hid fun w h => quoted_34 w0 g _ nm _ _ true v l w h h3 (Lib.hid fun w => scut_hit34 _ i q1 q2 (by omega) w))
  rw [if_neg h3]
  by_cases h4 : hd (sk (Nz.fr (sk (Nz.fr u (Nz.sn u 0))) 1)) = 39
  · rw [if_pos h4]
    unfold quoF
    rcases qi_cases 39 (Nz.fr (sk (Nz.fr (sk (Nz.fr u (Nz.sn u 0))) 1)) 1) with ⟨q1, _⟩ | ⟨i, q1, q2, _⟩
    · rw [if_pos q1]
      exact pair_noquote w0 g u _ nm v l w h hs h1' h2' (Lib.hid fun w h => quoted_39n w0 g _ nm _ _ v l w h h4 (Lib.hid fun w => scut_miss39 _ q1 w))
    · rw [q1, if_neg (by omega)]
      exact pair_value w0 g u _ _ nm v l w h hs h1' h2' (quo_size _ _ (by omega)) (Lib.hid fun w h => quoted_39 w0 g _ nm _ _ v l w h h4 (Lib.hid fun w => scut_hit39 _ i q1 q2 (by omega) w))
  rw [if_neg h4]
  exact pair_noquote w0 g u _ nm v l w h hs h1' h2' (Lib.hid fun w h => quoted_none w0 g _ nm v l w h h3 h4)
end Go.Proofs.YtnomcldpbkinmaaGreatDoor.Tg
