/-
  Merged by program out of the texts Next, Read, TgMath of one seat.
-/
import Derived.Test.YtaoklhalkfcpfaaGreatDoorG08
import Derived.Test.YtaoklhalkfcpfaaGreatDoorG02
import Derived.Test.YtaoklhalkfcpfaaGreatDoorG04

/- The walks of the gatherer's next and mask, of ref.read, ref.escape, and of Text, Value, Escape, Quote. -/
set_option linter.unusedSimpArgs false
set_option linter.unusedVariables false
namespace Go.Proofs.YtaoklhalkfcpfaaGreatDoor
open Go.RowKit

theorem tail_drop (l : List Int) (k : Nat) : (l.drop k).tail = l.drop (k + 1) := by rw [List.tail_drop]
theorem getD_drop (l : List Int) (k j : Nat) : (l.drop k).getD j 0 = l.getD (k + j) 0 := by simp [List.getD_eq_getElem?_getD, List.getElem?_drop]
theorem at_byt (s : ByteArray) (k : Nat) (h : k < s.size) : ((s[k]).toNat : Int) = (byts s).getD k 0 := by rw [bt_eq s k h, bt_byts]

set_option maxHeartbeats 2000000 in
set_option maxRecDepth 100000 in
theorem next_ref (B b : Nat) (v : Bool) (bs : List Int) (s : ByteArray) (k : Nat) (x : Int × List Int × Nat) (w : World) (hk : k < s.size) (hs : s.size ≤ 1000000) (hc : ((s[k]).toNat : Int) = 38)
    (C : Hid (Calls Tryz.prog 88 #[.pointer (some ⟨b, 0, none⟩), .string (s.extract (k + 1) s.size)] w (StPost B b v bs x w))) :
    Calls Tryz.prog 80 #[.pointer (some ⟨b, 0, none⟩), .string s, .int .i64 k] w (StPost B b v bs x w) := by
  have c1 : (k : Int) < (s.size : Int) := by omega
  have c2 : (0 : Int) ≤ (k : Int) + 1 := by omega
  have c3 : (k : Int) + 1 ≤ (s.size : Int) := by omega
  have q2 : IntKind.i64.wrap ((k : Int) + 1) = (k : Int) + 1 := IntWalk.i64_in _ (by omega)
  have q3 : ((k : Int) + 1).toNat = k + 1 := by omega
  go_enter Tryz.func80, Tryz.ntmps80
  go_wp2_with fail
  refine C.out.mono ?_
  rintro e w1 ⟨rfl, h⟩
  have H := Lib.hid h
  clear h C
  go_wp2
  go_ret2
  exact ⟨rfl, H.out⟩

set_option maxHeartbeats 2000000 in
set_option maxRecDepth 100000 in
theorem next_cr (B b : Nat) (v : Bool) (bs : List Int) (s : ByteArray) (k : Nat) (lf : Bool) (w : World) (hk : k < s.size) (hs : s.size ≤ 1000000) (hc : ((s[k]).toNat : Int) = 13)
    (C : Hid (Calls Tryz.prog 89 #[.pointer (some ⟨b, 0, none⟩), .int .u8 10] w fun e w' => e = .returned (.tuple #[]) ∧ Gat B b v bs w' ∧ Below B w w'))
    (C2 : Hid (∀ w, Calls Tryz.prog 90 #[.string (s.extract (k + 1) s.size), .string ⟨#[10]⟩] w fun e w' => e = .returned (.bool lf) ∧ w = w')) :
    Calls Tryz.prog 80 #[.pointer (some ⟨b, 0, none⟩), .string s, .int .i64 k] w fun e w' => e = .returned (.tuple #[.int .i64 (if lf = true then 2 else 1), .int .i64 0]) ∧ Gat B b v bs w' ∧ Below B w w' := by
  have c1 : (k : Int) < (s.size : Int) := by omega
  have c2 : (0 : Int) ≤ (k : Int) + 1 := by omega
  have c3 : (k : Int) + 1 ≤ (s.size : Int) := by omega
  have q2 : IntKind.i64.wrap ((k : Int) + 1) = (k : Int) + 1 := IntWalk.i64_in _ (by omega)
  have q3 : ((k : Int) + 1).toNat = k + 1 := by omega
  cases lf
  all_goals
    go_enter Tryz.func80, Tryz.ntmps80
    go_wp2_with fail
    refine C.out.mono ?_
    rintro e w1 ⟨rfl, h, hb⟩
    have H := Lib.hid h
    clear h C
    go_wp2_with fail
    refine (C2.out _).mono ?_
    rintro e w2 ⟨rfl, rfl⟩
    go_wp2
    go_ret2
    exact ⟨rfl, H.out, hb⟩

set_option maxHeartbeats 2000000 in
set_option maxRecDepth 100000 in
theorem next_9 (B b : Nat) (v : Bool) (bs : List Int) (s : ByteArray) (k : Nat) (w : World) (hk : k < s.size) (hs : s.size ≤ 1000000) (hc : ((s[k]).toNat : Int) = 9)
    (C : Hid (Calls Tryz.prog 89 #[.pointer (some ⟨b, 0, none⟩), .int .u8 9] w fun e w' => e = .returned (.tuple #[]) ∧ Gat B b v bs w' ∧ Below B w w')) :
    Calls Tryz.prog 80 #[.pointer (some ⟨b, 0, none⟩), .string s, .int .i64 k] w fun e w' => e = .returned (.tuple #[.int .i64 1, .int .i64 0]) ∧ Gat B b v bs w' ∧ Below B w w' := by
  have c1 : (k : Int) < (s.size : Int) := by omega
  go_enter Tryz.func80, Tryz.ntmps80
  go_wp2_with fail
  refine C.out.mono ?_
  rintro e w1 ⟨rfl, h, hb⟩
  have H := Lib.hid h
  clear h C
  go_wp2
  go_ret2
  exact ⟨rfl, H.out, hb⟩

set_option maxHeartbeats 2000000 in
set_option maxRecDepth 100000 in
theorem next_10 (B b : Nat) (v : Bool) (bs : List Int) (s : ByteArray) (k : Nat) (w : World) (hk : k < s.size) (hs : s.size ≤ 1000000) (hc : ((s[k]).toNat : Int) = 10)
    (C : Hid (Calls Tryz.prog 89 #[.pointer (some ⟨b, 0, none⟩), .int .u8 10] w fun e w' => e = .returned (.tuple #[]) ∧ Gat B b v bs w' ∧ Below B w w')) :
    Calls Tryz.prog 80 #[.pointer (some ⟨b, 0, none⟩), .string s, .int .i64 k] w fun e w' => e = .returned (.tuple #[.int .i64 1, .int .i64 0]) ∧ Gat B b v bs w' ∧ Below B w w' := by
  have c1 : (k : Int) < (s.size : Int) := by omega
  go_enter Tryz.func80, Tryz.ntmps80
  go_wp2_with fail
  refine C.out.mono ?_
  rintro e w1 ⟨rfl, h, hb⟩
  have H := Lib.hid h
  clear h C
  go_wp2
  go_ret2
  exact ⟨rfl, H.out, hb⟩

set_option maxHeartbeats 2000000 in
set_option maxRecDepth 100000 in
theorem next_pl (B b : Nat) (v : Bool) (bs : List Int) (s : ByteArray) (k : Nat) (x : Int × List Int × Nat) (w : World) (hk : k < s.size) (hs : s.size ≤ 1000000)
    (t1 : (((s[k]).toNat : Int) == 38) = false) (t2 : (((s[k]).toNat : Int) == 13) = false) (t3 : (((s[k]).toNat : Int) == 9) = false) (t4 : (((s[k]).toNat : Int) == 10) = false)
    (C : Hid (Calls Tryz.prog 91 #[.pointer (some ⟨b, 0, none⟩), .string s, .int .i64 k] w (StPost B b v bs x w))) :
    Calls Tryz.prog 80 #[.pointer (some ⟨b, 0, none⟩), .string s, .int .i64 k] w (StPost B b v bs x w) := by
  have c1 : (k : Int) < (s.size : Int) := by omega
  go_enter Tryz.func80, Tryz.ntmps80
  go_wp2_with fail
  refine C.out.mono ?_
  rintro e w1 ⟨rfl, h⟩
  have H := Lib.hid h
  clear h C
  go_wp2
  go_ret2
  exact ⟨rfl, H.out⟩

theorem next_any (B b : Nat) (v : Bool) (bs : List Int) (s : ByteArray) (k : Nat) (w : World) (hk : k < s.size) (hs : s.size ≤ 1000000) (hg : Gat B b v bs w) (hB : B ≤ w.heap.size) (hl : bs.length ≤ 1000000) (hV : Vars w) :
    Calls Tryz.prog 80 #[.pointer (some ⟨b, 0, none⟩), .string s, .int .i64 k] w (StPost B b v bs (stepF v ((byts s).drop k)) w) := by
  have hb := at_byt s k hk
  have hz : (s.extract (k + 1) s.size).size ≤ 1000000 := by rw [size_from]; omega
  unfold stepF
  rw [tail_drop, getD_drop, getD_drop, Nat.add_zero]
  by_cases h1 : (byts s).getD k 0 = 38
  · rw [if_pos h1]
    have := ref_any B b v bs (s.extract (k + 1) s.size) w hg hB hl hz hV
    rw [byts_from] at this
    exact next_ref B b v bs s k _ w hk hs (hb.trans h1) (Lib.hid this)
  rw [if_neg h1]
  by_cases h2 : (byts s).getD k 0 = 13
  · rw [if_pos h2]
    have C := Lib.hid (blank_g B b v bs 10 w hg hB hl (by omega) (by omega))
    have hd : (byts (s.extract (k + 1) s.size)).getD 0 0 = (byts s).getD (k + 1) 0 := by rw [byts_from, getD_drop]
    by_cases h3 : (byts s).getD (k + 1) 0 = 10
    · rw [if_pos h3]
      refine (next_cr B b v _ s k true w hk hs (hb.trans h2) C (Lib.hid (has_yes _ 10 (by decide) (by rw [hd]; exact h3)))).mono ?_
      rintro e w' ⟨rfl, hg2, hb2⟩
      exact ⟨rfl, fun _ => hg2, hb2⟩
    · rw [if_neg h3]
      refine (next_cr B b v _ s k false w hk hs (hb.trans h2) C (Lib.hid (has_no _ 10 (by rw [hd]; exact h3)))).mono ?_
      rintro e w' ⟨rfl, hg2, hb2⟩
      exact ⟨rfl, fun _ => hg2, hb2⟩
  rw [if_neg h2]
  by_cases h3 : (byts s).getD k 0 = 9
  · rw [if_pos (.inl h3), h3]
    refine (next_9 B b v _ s k w hk hs (hb.trans h3) (Lib.hid (blank_g B b v bs 9 w hg hB hl (by omega) (by omega)))).mono ?_
    rintro e w' ⟨rfl, hg2, hb2⟩
    exact ⟨rfl, fun _ => hg2, hb2⟩
  by_cases h4 : (byts s).getD k 0 = 10
  · rw [if_pos (.inr h4), h4]
    refine (next_10 B b v _ s k w hk hs (hb.trans h4) (Lib.hid (blank_g B b v bs 10 w hg hB hl (by omega) (by omega)))).mono ?_
    rintro e w' ⟨rfl, hg2, hb2⟩
    exact ⟨rfl, fun _ => hg2, hb2⟩
  rw [if_neg (by omega)]
  exact next_pl B b v bs s k _ w hk hs (by rw [hb]; simpa using h1) (by rw [hb]; simpa using h2) (by rw [hb]; simpa using h3) (by rw [hb]; simpa using h4) (Lib.hid (plain_any B b v bs s k w hk hs hg hB hl))

set_option maxHeartbeats 2000000 in
set_option maxRecDepth 100000 in
theorem mask_amp (B b : Nat) (v : Bool) (bs : List Int) (w : World) (hg : Gat B b v bs w) (hB : B ≤ w.heap.size) (hl : bs.length ≤ 1000000) :
    Calls Tryz.prog 53 #[.pointer (some ⟨b, 0, none⟩), .int .u8 38] w fun e w' => e = .returned (.tuple #[]) ∧ Gat B b v (bs ++ [38, 97, 109, 112, 59]) w' ∧ Below B w w' := by
  have hv := hg.value
  have CW := Lib.hid (wstr_any B b v bs ⟨#[38, 97, 109, 112, 59]⟩ w hg hB hl (by decide) (by decide))
  clear hg
  go_enter Tryz.func53, Tryz.ntmps53
  go_wp2_with fail
  refine CW.out.mono ?_
  rintro e w1 ⟨rfl, h, hb⟩
  have H := Lib.hid h
  clear h CW
  go_wp2
  go_end0
  exact ⟨rfl, H.out, hb⟩

set_option maxHeartbeats 2000000 in
set_option maxRecDepth 100000 in
theorem mask_lt (B b : Nat) (v : Bool) (bs : List Int) (w : World) (hg : Gat B b v bs w) (hB : B ≤ w.heap.size) (hl : bs.length ≤ 1000000) :
    Calls Tryz.prog 53 #[.pointer (some ⟨b, 0, none⟩), .int .u8 60] w fun e w' => e = .returned (.tuple #[]) ∧ Gat B b v (bs ++ [38, 108, 116, 59]) w' ∧ Below B w w' := by
  have hv := hg.value
  have CW := Lib.hid (wstr_any B b v bs ⟨#[38, 108, 116, 59]⟩ w hg hB hl (by decide) (by decide))
  clear hg
  go_enter Tryz.func53, Tryz.ntmps53
  go_wp2_with fail
  refine CW.out.mono ?_
  rintro e w1 ⟨rfl, h, hb⟩
  have H := Lib.hid h
  clear h CW
  go_wp2
  go_end0
  exact ⟨rfl, H.out, hb⟩

set_option maxHeartbeats 2000000 in
set_option maxRecDepth 100000 in
theorem mask_gt (B b : Nat) (v : Bool) (bs : List Int) (w : World) (hg : Gat B b v bs w) (hB : B ≤ w.heap.size) (hl : bs.length ≤ 1000000) :
    Calls Tryz.prog 53 #[.pointer (some ⟨b, 0, none⟩), .int .u8 62] w fun e w' => e = .returned (.tuple #[]) ∧ Gat B b v (bs ++ [38, 103, 116, 59]) w' ∧ Below B w w' := by
  have hv := hg.value
  have CW := Lib.hid (wstr_any B b v bs ⟨#[38, 103, 116, 59]⟩ w hg hB hl (by decide) (by decide))
  clear hg
  go_enter Tryz.func53, Tryz.ntmps53
  go_wp2_with fail
  refine CW.out.mono ?_
  rintro e w1 ⟨rfl, h, hb⟩
  have H := Lib.hid h
  clear h CW
  go_wp2
  go_end0
  exact ⟨rfl, H.out, hb⟩

set_option maxHeartbeats 2000000 in
set_option maxRecDepth 100000 in
theorem mask_cr (B b : Nat) (v : Bool) (bs : List Int) (w : World) (hg : Gat B b v bs w) (hB : B ≤ w.heap.size) (hl : bs.length ≤ 1000000) :
    Calls Tryz.prog 53 #[.pointer (some ⟨b, 0, none⟩), .int .u8 13] w fun e w' => e = .returned (.tuple #[]) ∧ Gat B b v (bs ++ [38, 35, 120, 68, 59]) w' ∧ Below B w w' := by
  have hv := hg.value
  have CW := Lib.hid (wstr_any B b v bs ⟨#[38, 35, 120, 68, 59]⟩ w hg hB hl (by decide) (by decide))
  clear hg
  go_enter Tryz.func53, Tryz.ntmps53
  go_wp2_with fail
  refine CW.out.mono ?_
  rintro e w1 ⟨rfl, h, hb⟩
  have H := Lib.hid h
  clear h CW
  go_wp2
  go_end0
  exact ⟨rfl, H.out, hb⟩

set_option maxHeartbeats 2000000 in
set_option maxRecDepth 100000 in
theorem mask_quot (B b : Nat) (v : Bool) (bs : List Int) (w : World) (hg : Gat B b true bs w) (hB : B ≤ w.heap.size) (hl : bs.length ≤ 1000000) :
    Calls Tryz.prog 53 #[.pointer (some ⟨b, 0, none⟩), .int .u8 34] w fun e w' => e = .returned (.tuple #[]) ∧ Gat B b true (bs ++ [38, 113, 117, 111, 116, 59]) w' ∧ Below B w w' := by
  have hv := hg.value
  have CW := Lib.hid (wstr_any B b true bs ⟨#[38, 113, 117, 111, 116, 59]⟩ w hg hB hl (by decide) (by decide))
  clear hg
  go_enter Tryz.func53, Tryz.ntmps53
  go_wp2_with fail
  refine CW.out.mono ?_
  rintro e w1 ⟨rfl, h, hb⟩
  have H := Lib.hid h
  clear h CW
  go_wp2
  go_end0
  exact ⟨rfl, H.out, hb⟩

set_option maxHeartbeats 2000000 in
set_option maxRecDepth 100000 in
theorem mask_tab (B b : Nat) (v : Bool) (bs : List Int) (w : World) (hg : Gat B b true bs w) (hB : B ≤ w.heap.size) (hl : bs.length ≤ 1000000) :
    Calls Tryz.prog 53 #[.pointer (some ⟨b, 0, none⟩), .int .u8 9] w fun e w' => e = .returned (.tuple #[]) ∧ Gat B b true (bs ++ [38, 35, 120, 57, 59]) w' ∧ Below B w w' := by
  have hv := hg.value
  have CW := Lib.hid (wstr_any B b true bs ⟨#[38, 35, 120, 57, 59]⟩ w hg hB hl (by decide) (by decide))
  clear hg
  go_enter Tryz.func53, Tryz.ntmps53
  go_wp2_with fail
  refine CW.out.mono ?_
  rintro e w1 ⟨rfl, h, hb⟩
  have H := Lib.hid h
  clear h CW
  go_wp2
  go_end0
  exact ⟨rfl, H.out, hb⟩

set_option maxHeartbeats 2000000 in
set_option maxRecDepth 100000 in
theorem mask_lf (B b : Nat) (v : Bool) (bs : List Int) (w : World) (hg : Gat B b true bs w) (hB : B ≤ w.heap.size) (hl : bs.length ≤ 1000000) :
    Calls Tryz.prog 53 #[.pointer (some ⟨b, 0, none⟩), .int .u8 10] w fun e w' => e = .returned (.tuple #[]) ∧ Gat B b true (bs ++ [38, 35, 120, 65, 59]) w' ∧ Below B w w' := by
  have hv := hg.value
  have CW := Lib.hid (wstr_any B b true bs ⟨#[38, 35, 120, 65, 59]⟩ w hg hB hl (by decide) (by decide))
  clear hg
  go_enter Tryz.func53, Tryz.ntmps53
  go_wp2_with fail
  refine CW.out.mono ?_
  rintro e w1 ⟨rfl, h, hb⟩
  have H := Lib.hid h
  clear h CW
  go_wp2
  go_end0
  exact ⟨rfl, H.out, hb⟩

set_option maxHeartbeats 2000000 in
set_option maxRecDepth 100000 in
theorem mask_f (B b : Nat) (bs : List Int) (c : Int) (w : World) (hg : Gat B b false bs w) (hB : B ≤ w.heap.size) (hl : bs.length ≤ 1000000) (h0 : 0 ≤ c) (h1 : c ≤ 255)
    (t1 : (c == 38) = false) (t2 : (c == 60) = false) (t3 : (c == 62) = false) (t4 : (c == 13) = false) :
    Calls Tryz.prog 53 #[.pointer (some ⟨b, 0, none⟩), .int .u8 c] w fun e w' => e = .returned (.tuple #[]) ∧ Gat B b false (bs ++ [c]) w' ∧ Below B w w' := by
  have hv := hg.value
  have CW := Lib.hid (wbyte_any B b false bs c w hg hB hl h0 h1)
  clear hg
  go_enter Tryz.func53, Tryz.ntmps53
  go_wp2_with fail
  refine CW.out.mono ?_
  rintro e w1 ⟨rfl, h, hb⟩
  have H := Lib.hid h
  clear h CW
  go_wp2
  go_end0
  exact ⟨rfl, H.out, hb⟩
set_option maxHeartbeats 2000000 in
set_option maxRecDepth 100000 in
theorem mask_t (B b : Nat) (bs : List Int) (c : Int) (w : World) (hg : Gat B b true bs w) (hB : B ≤ w.heap.size) (hl : bs.length ≤ 1000000) (h0 : 0 ≤ c) (h1 : c ≤ 255)
    (t1 : (c == 38) = false) (t2 : (c == 60) = false) (t3 : (c == 62) = false) (t4 : (c == 13) = false) (t5 : (c == 34) = false) (t6 : (c == 9) = false) (t7 : (c == 10) = false) :
    Calls Tryz.prog 53 #[.pointer (some ⟨b, 0, none⟩), .int .u8 c] w fun e w' => e = .returned (.tuple #[]) ∧ Gat B b true (bs ++ [c]) w' ∧ Below B w w' := by
  have hv := hg.value
  have CW := Lib.hid (wbyte_any B b true bs c w hg hB hl h0 h1)
  clear hg
  go_enter Tryz.func53, Tryz.ntmps53
  go_wp2_with fail
  refine CW.out.mono ?_
  rintro e w1 ⟨rfl, h, hb⟩
  have H := Lib.hid h
  clear h CW
  go_wp2
  go_end0
  exact ⟨rfl, H.out, hb⟩
theorem mask_any (B b : Nat) (v : Bool) (bs : List Int) (c : Int) (w : World) (hg : Gat B b v bs w) (hB : B ≤ w.heap.size) (hl : bs.length ≤ 1000000) (h0 : 0 ≤ c) (h1 : c ≤ 255) :
    Calls Tryz.prog 53 #[.pointer (some ⟨b, 0, none⟩), .int .u8 c] w fun e w' => e = .returned (.tuple #[]) ∧ Gat B b v (bs ++ escB v c) w' ∧ Below B w w' := by
  unfold escB
  by_cases a1 : c = 38
  · rw [if_pos a1]; subst a1; exact mask_amp B b v bs w hg hB hl
  rw [if_neg a1]
  by_cases a2 : c = 60
  · rw [if_pos a2]; subst a2; exact mask_lt B b v bs w hg hB hl
  rw [if_neg a2]
  by_cases a3 : c = 62
  · rw [if_pos a3]; subst a3; exact mask_gt B b v bs w hg hB hl
  rw [if_neg a3]
  by_cases a4 : c = 13
  · rw [if_pos a4]; subst a4; exact mask_cr B b v bs w hg hB hl
  rw [if_neg a4]
  cases v
  · rw [if_neg (by simp), if_neg (by simp), if_neg (by simp)]
    exact mask_f B b bs c w hg hB hl h0 h1 (by simpa using a1) (by simpa using a2) (by simpa using a3) (by simpa using a4)
  · by_cases a5 : c = 34
    · rw [if_pos ⟨rfl, a5⟩]; subst a5; exact mask_quot B b true bs w hg hB hl
    rw [if_neg (fun h => a5 h.2)]
    by_cases a6 : c = 9
    · rw [if_pos ⟨rfl, a6⟩]; subst a6; exact mask_tab B b true bs w hg hB hl
    rw [if_neg (fun h => a6 h.2)]
    by_cases a7 : c = 10
    · rw [if_pos ⟨rfl, a7⟩]; subst a7; exact mask_lf B b true bs w hg hB hl
    rw [if_neg (fun h => a7 h.2)]
    exact mask_t B b bs c w hg hB hl h0 h1 (by simpa using a1) (by simpa using a2) (by simpa using a3) (by simpa using a4) (by simpa using a5) (by simpa using a6) (by simpa using a7)
end Go.Proofs.YtaoklhalkfcpfaaGreatDoor

/- The walks of ref.read, ref.escape, and of Text, Value, Escape, Quote. -/
set_option linter.unusedSimpArgs false
set_option linter.unusedVariables false
namespace Go.Proofs.YtaoklhalkfcpfaaGreatDoor
open Go.RowKit

theorem step_len (v : Bool) (l : List Int) (h : (stepF v l).1 = 0) : (stepF v l).2.1.length ≤ 4 := by
  unfold stepF
  repeat' split
  all_goals simp
  all_goals exact (encB_len _).2
/-- Where read stands: k bytes are read, bs is gathered of them. -/
def RdRel (s : ByteArray) (v : Bool) (w : World) (i : Value) (wr : World) : Prop :=
  ∃ (k : Nat) (bs : List Int), k ≤ s.size ∧ i = .int .i64 k ∧ Gat w.heap.size w.heap.size v bs wr ∧ Below w.heap.size w wr ∧ bs.length ≤ 4 * k ∧
    readF v (byts s) = (bs ++ (readF v ((byts s).drop k)).1, k + (readF v ((byts s).drop k)).2.1, (readF v ((byts s).drop k)).2.2)
def RdPost (x : List Int × Int × Int) (w : World) (e : Ending) (w' : World) : Prop :=
  e = .returned (.tuple #[.string (strOfNums x.1), .int .i64 x.2.1, .int .i64 x.2.2]) ∧ Below w.heap.size w w'
theorem rd_of {x y : List Int × Int × Int} {w w' : World} {e : Ending} (h : x = y) (hp : RdPost y w e w') : RdPost x w e w' := by rw [h]; exact hp
theorem str_none : strOfNums [] = ⟨#[]⟩ := by rw [strOf_eq]; rfl
theorem ans_ok {v : Bool} {l : List Int} {g : List Int} {n : Nat} (h : readF v l = (g, n, 0)) : ansF v l = (g, 0, 0) := by
  unfold ansF; rw [h]; simp
theorem ans_err {v : Bool} {l : List Int} {g : List Int} {n : Nat} {er : Int} (h : readF v l = (g, n, er)) (he : er ≠ 0) : ansF v l = ([], (n : Int), er) := by
  unfold ansF; rw [h]; simp [he]

set_option maxHeartbeats 4000000 in
set_option maxRecDepth 100000 in
theorem read_any (s : ByteArray) (v : Bool) (w : World) (hs : s.size ≤ 100000) (hV : Vars w) : Calls Tryz.prog 75 #[.string s, .bool v] w (RdPost (ansF v (byts s)) w) := by
  have HV := Lib.hid hV
  clear hV
  go_enter Tryz.func75, Tryz.ntmps75
  go_wp2_with fail
  go_loopw [8] (fun i wr => RdRel s v w i wr) (fun i _ => s.size - (intOf i).toNat)
  case atStart =>
    exact ⟨0, [], Nat.zero_le _, rfl, gat_new w v, (Below.refl _ w).alloc (Nat.le_refl _) _, by simp, by simp⟩
  case round =>
    obtain ⟨k, bs, hk, rfl, hg, hb, hl, hr⟩ := hrel
    by_cases hlt : k < s.size
    · have hsz := hb.size
      have hne : (byts s).drop k ≠ [] := by
        intro e
        have := congrArg List.length e
        rw [List.length_drop, byts_len, List.length_nil] at this
        omega
      have hnn : NN ((byts s).drop k) := (byts_nn s).drop k
      have C := Lib.hid (next_any w.heap.size w.heap.size v bs s k wr hlt (by omega) hg hsz (by omega) (HV.out.keep hb HV.out.1))
      have S1 := step_bd v _ hne hnn
      have S2 := step_len v ((byts s).drop k)
      have R1 := readF_err v _ hne
      have R2 := readF_ok v _ hne hnn
      rw [List.drop_drop] at R2
      rw [List.length_drop, byts_len] at S1
      generalize stepF v ((byts s).drop k) = x at *
      obtain ⟨er, o, n⟩ := x
      simp only at S1 S2 R1 R2
      by_cases he : er = 0
      · subst he
        have S1 := S1 rfl
        have S2 := S2 rfl
        rw [R2 rfl] at hr
        have HR : Hid (readF v (byts s) = (bs ++ o ++ (readF v ((byts s).drop (k + n))).1, k + n + (readF v ((byts s).drop (k + n))).2.1, (readF v ((byts s).drop (k + n))).2.2)) := Lib.hid (by
          rw [hr]; simp only [List.append_assoc, Nat.add_assoc])
        clear R1 R2 hr hg hne hnn
        go_wp2_with fail
        refine C.out.mono ?_
        rintro e w1 ⟨rfl, h1, hb1⟩
        have HG := Lib.hid (h1 rfl)
        clear h1 C
        have q2 : IntKind.i64.wrap ((k : Int) + (n : Int)) = (k : Int) + (n : Int) := IntWalk.i64_in _ (by omega)
        go_wp2_with fail
        go_roundw
        case rel => exact ⟨k + n, bs ++ o, by omega, by rw [Int.natCast_add], HG.out, hb.trans hb1, by rw [List.length_append]; omega, HR.out⟩
        case measure => simp only [intOf]; omega
      · have t1 : (er != 0) = true := by simpa using he
        rw [R1 he] at hr
        have HA : Hid (ansF v (byts s) = ([], (k : Int), er)) := Lib.hid (by
          have := ans_err hr he
          rw [this]; simp)
        clear R1 R2 hr hg hne hnn S1 S2 he
        go_wp2_with fail
        refine C.out.mono ?_
        rintro e w1 ⟨rfl, h1, hb1⟩
        clear h1 C
        go_wp2
        go_ret3
        exact rd_of HA.out ⟨by rw [str_none]; rfl, hb.trans hb1⟩
    · have hkk : k = s.size := by omega
      subst hkk
      rw [List.drop_of_length_le (by rw [byts_len]; omega), readF_nil] at hr
      have HA : Hid (ansF v (byts s) = (bs, 0, 0)) := Lib.hid (by
        have := ans_ok hr
        rw [this]; simp)
      have CS := Lib.hid (str_any w.heap.size w.heap.size v bs wr hg)
      clear hr hg
      go_wp2_with fail
      refine CS.out.mono ?_
      rintro e w1 ⟨rfl, hb1⟩
      go_wp2
      go_ret3
      exact rd_of HA.out ⟨rfl, hb.trans hb1⟩

theorem esc_len (v : Bool) (c : Int) : (escB v c).length ≤ 6 := by
  unfold escB
  repeat' split
  all_goals simp
theorem escF_take (v : Bool) (l : List Int) (k : Nat) (h : k < l.length) : escF v (l.take (k + 1)) = escF v (l.take k) ++ escB v (l.getD k 0) := by
  unfold escF
  rw [List.take_succ_eq_append_getElem h, List.flatMap_append]
  simp [List.getElem?_eq_getElem h]
theorem escF_len (v : Bool) : ∀ (l : List Int), (escF v l).length ≤ 6 * l.length
  | [] => by simp [escF]
  | c :: l => by
    have h1 := esc_len v c
    have h2 := escF_len v l
    unfold escF at *
    rw [List.flatMap_cons, List.length_append, List.length_cons]
    omega
def EsRel (s : ByteArray) (v : Bool) (w : World) (i : Value) (wr : World) : Prop :=
  ∃ k : Nat, k ≤ s.size ∧ i = .int .i64 k ∧ Gat w.heap.size w.heap.size v (escF v ((byts s).take k)) wr ∧ Below w.heap.size w wr
def EsPost (l : List Int) (w : World) (e : Ending) (w' : World) : Prop := e = .returned (.string (strOfNums l)) ∧ Below w.heap.size w w'
set_option maxHeartbeats 4000000 in
set_option maxRecDepth 100000 in
theorem escape_any (s : ByteArray) (v : Bool) (w : World) (hs : s.size ≤ 10000) : Calls Tryz.prog 37 #[.string s, .bool v] w (EsPost (escF v (byts s)) w) := by
  go_enter Tryz.func37, Tryz.ntmps37
  go_wp2_with fail
  go_loopw [11] (fun i wr => EsRel s v w i wr) (fun i _ => s.size - (intOf i).toNat)
  case atStart =>
    exact ⟨0, Nat.zero_le _, rfl, gat_new w v, (Below.refl _ w).alloc (Nat.le_refl _) _⟩
  case round =>
    obtain ⟨k, hk, rfl, hg, hb⟩ := hrel
    by_cases hlt : k < s.size
    · have hsz := hb.size
      have hc := byt_at s k
      have hbe := at_byt s k hlt
      have hn := escF_len v ((byts s).take k)
      rw [List.length_take, byts_len] at hn
      have C := Lib.hid (mask_any w.heap.size w.heap.size v _ _ wr hg hsz (by omega) hc.1 hc.2)
      rw [← escF_take v _ k (by rw [byts_len]; exact hlt), ← hbe] at C
      have c1 : (k : Int) < (s.size : Int) := by omega
      clear hg hc hn hbe
      go_wp2_with fail
      refine C.out.mono ?_
      rintro e w1 ⟨rfl, h1, hb1⟩
      have HG := Lib.hid h1
      clear h1 C
      go_wp2_with fail
      go_roundw
      case rel => exact ⟨k + 1, by omega, by rw [Int.natCast_add]; rfl, HG.out, hb.trans hb1⟩
      case measure => simp only [intOf]; omega
    · have hkk : k = s.size := by omega
      subst hkk
      rw [List.take_of_length_le (by rw [byts_len]; omega)] at hg
      have CS := Lib.hid (str_any w.heap.size w.heap.size v _ wr hg)
      clear hg
      go_wp2_with fail
      refine CS.out.mono ?_
      rintro e w1 ⟨rfl, hb1⟩
      go_wp2
      go_ret
      exact ⟨rfl, hb.trans hb1⟩
set_option maxHeartbeats 1000000 in
set_option maxRecDepth 100000 in
theorem value_of (s : ByteArray) (x : List Int × Int × Int) (w : World) (C : Hid (Calls Tryz.prog 75 #[.string s, .bool true] w (RdPost x w))) : Calls Tryz.prog 65 #[.string s] w (RdPost x w) := by
  go_enter Tryz.func65, Tryz.ntmps65
  go_wp2_with fail
  refine C.out.mono ?_
  rintro e w1 ⟨rfl, hb⟩
  go_wp2
  go_ret3
  exact ⟨rfl, hb⟩
set_option maxHeartbeats 1000000 in
set_option maxRecDepth 100000 in
theorem quote_of (s : ByteArray) (x : List Int) (w : World) (C : Hid (Calls Tryz.prog 37 #[.string s, .bool true] w (EsPost x w))) : Calls Tryz.prog 22 #[.string s] w (EsPost x w) := by
  go_enter Tryz.func22, Tryz.ntmps22
  go_wp2_with fail
  refine C.out.mono ?_
  rintro e w1 ⟨rfl, hb⟩
  go_wp2
  go_ret
  exact ⟨rfl, hb⟩
theorem valu_any (s : ByteArray) (w : World) (hs : s.size ≤ 100000) (hV : Vars w) : Calls Tryz.prog 65 #[.string s] w (RdPost (ansF true (byts s)) w) := value_of s _ w (Lib.hid (read_any s true w hs hV))
theorem quote_any (s : ByteArray) (w : World) (hs : s.size ≤ 10000) : Calls Tryz.prog 22 #[.string s] w (EsPost (escF true (byts s)) w) := quote_of s _ w (Lib.hid (escape_any s true w hs))
end Go.Proofs.YtaoklhalkfcpfaaGreatDoor

/- Plain mathematics: what a tag's text is read as. -/
set_option linter.unusedSimpArgs false
set_option linter.unusedVariables false
namespace Go.Proofs.YtaoklhalkfcpfaaGreatDoor
open Go.RowKit

def blk? (c : Int) : Bool := decide (Blank c)
/-- How many blanks stand first; what stands behind them; the first byte (0: none); whether a text is a name; where a byte stands. -/
def bk (u : ByteArray) : Nat := ((byts u).takeWhile blk?).length
def sk (u : ByteArray) : ByteArray := Nz.fr u (bk u)
def hd (u : ByteArray) : Int := (byts u).getD 0 0
def isN (s : ByteArray) : Bool := (Nz.splitA s).2.2
def qi (q : UInt8) (u : ByteArray) : Int := Lib.indexByte u.data.toList q
def hasN (nm : ByteArray) (l : List (ByteArray × ByteArray)) : Bool := l.any fun x => decide (byts x.1 = byts nm)

/-- The value between quotes, of which the first stands just ahead of u; the name of the attribute is nm. -/
def quoF (q : UInt8) (nm u : ByteArray) : Int × ByteArray × ByteArray × ByteArray :=
  if qi q u = -1 then (6, Nz.em, Nz.em, Nz.em)
  else if (ansF true (byts (u.extract 0 (qi q u).toNat))).2.2 ≠ 0 then ((ansF true (byts (u.extract 0 (qi q u).toNat))).2.2, Nz.em, Nz.em, Nz.em)
  else (0, nm, strOfNums (ansF true (byts (u.extract 0 (qi q u).toNat))).1, Nz.fr u ((qi q u).toNat + 1))
/-- An attribute: the error, the name, the value, what is left. -/
def pairF (u : ByteArray) : Int × ByteArray × ByteArray × ByteArray :=
  if isN (Nz.sx u 0) = false then (4, Nz.em, Nz.em, Nz.em)
  else if hd (sk (Nz.fr u (Nz.sn u 0))) ≠ 61 then (6, Nz.em, Nz.em, Nz.em)
  else if hd (sk (Nz.fr (sk (Nz.fr u (Nz.sn u 0))) 1)) = 34 then quoF 34 (Nz.sx u 0) (Nz.fr (sk (Nz.fr (sk (Nz.fr u (Nz.sn u 0))) 1)) 1)
  else if hd (sk (Nz.fr (sk (Nz.fr u (Nz.sn u 0))) 1)) = 39 then quoF 39 (Nz.sx u 0) (Nz.fr (sk (Nz.fr (sk (Nz.fr u (Nz.sn u 0))) 1)) 1)
  else (6, Nz.em, Nz.em, Nz.em)
def goF : Nat → ByteArray → List (ByteArray × ByteArray) → ByteArray → Int × ByteArray × List (ByteArray × ByteArray)
  | 0, nm, l, u => (0, nm, l)
  | f + 1, nm, l, u =>
    if (sk u).size = 0 then (0, nm, l)
    else if bk u = 0 then (6, Nz.em, [])
    else if (pairF (sk u)).1 ≠ 0 then ((pairF (sk u)).1, Nz.em, [])
    else if hasN (pairF (sk u)).2.1 l = true then (8, Nz.em, [])
    else if 32 ≤ l.length then (13, Nz.em, [])
    else goF f nm (l ++ [((pairF (sk u)).2.1, (pairF (sk u)).2.2.1)]) (pairF (sk u)).2.2.2
def GoF (nm : ByteArray) (l : List (ByteArray × ByteArray)) (u : ByteArray) : Int × ByteArray × List (ByteArray × ByteArray) := goF (u.size + 1) nm l u
/-- A tag: the error, the name, the attributes. -/
def parF (u : ByteArray) : Int × ByteArray × List (ByteArray × ByteArray) :=
  if isN (Nz.sx u 0) = false then (4, Nz.em, []) else GoF (Nz.sx u 0) [] (Nz.fr u (Nz.sn u 0))

theorem sk_size (u : ByteArray) : (sk u).size = u.size - bk u := by unfold sk; rw [Nz.fr_size]
theorem bk_le (u : ByteArray) : bk u ≤ u.size := by
  have := (List.takeWhile_prefix blk? (l := byts u)).length_le
  rw [byts_len] at this
  exact this
theorem hd_pos {u : ByteArray} (h : hd u ≠ 0) : 1 ≤ u.size := by
  rcases Nat.eq_zero_or_pos u.size with h0 | h0
  · exfalso
    apply h
    unfold hd
    have e : byts u = [] := List.eq_nil_of_length_eq_zero (by rw [byts_len]; exact h0)
    rw [e]
    rfl
  · exact h0
theorem quo_lt (q : UInt8) (nm u : ByteArray) : (quoF q nm u).1 = 0 → (quoF q nm u).2.2.2.size ≤ u.size := by
  unfold quoF
  split
  · intro h; exact absurd h (by decide)
  split
  · intro h
    rename_i h2
    exact absurd h h2
  · intro _
    show (Nz.fr u _).size ≤ _
    rw [Nz.fr_size]
    omega
theorem pair_lt {u : ByteArray} (h : (pairF u).1 = 0) : (pairF u).2.2.2.size < u.size := by
  unfold pairF at h ⊢
  split at h
  · exact absurd h (by decide)
  rename_i h1
  rw [if_neg h1]
  split at h
  · exact absurd h (by decide)
  rename_i h2
  rw [if_neg h2]
  have s1 := sk_size (Nz.fr u (Nz.sn u 0))
  rw [Nz.fr_size] at s1
  have s2 := sk_size (Nz.fr (sk (Nz.fr u (Nz.sn u 0))) 1)
  rw [Nz.fr_size] at s2
  split at h
  · rename_i h3
    rw [if_pos h3]
    have := quo_lt _ _ _ h
    rw [Nz.fr_size] at this
    have h4 := hd_pos (u := sk (Nz.fr (sk (Nz.fr u (Nz.sn u 0))) 1)) (by rw [h3]; decide)
    omega
  rename_i h3
  rw [if_neg h3]
  split at h
  · rename_i h5
    rw [if_pos h5]
    have := quo_lt _ _ _ h
    rw [Nz.fr_size] at this
    have h4 := hd_pos (u := sk (Nz.fr (sk (Nz.fr u (Nz.sn u 0))) 1)) (by rw [h5]; decide)
    omega
  · exact absurd h (by decide)

theorem go_fuel : ∀ (f g : Nat) (nm : ByteArray) (l : List (ByteArray × ByteArray)) (u : ByteArray), u.size < f → u.size < g → goF f nm l u = goF g nm l u
  | 0, _, _, _, u, h, _ => absurd h (Nat.not_lt_zero _)
  | _ + 1, 0, _, _, u, _, h => absurd h (Nat.not_lt_zero _)
  | f + 1, g + 1, nm, l, u, hf, hg => by
    unfold goF
    by_cases c1 : (sk u).size = 0
    · rw [if_pos c1, if_pos c1]
    rw [if_neg c1, if_neg c1]
    by_cases c2 : bk u = 0
    · rw [if_pos c2, if_pos c2]
    rw [if_neg c2, if_neg c2]
    by_cases c3 : (pairF (sk u)).1 ≠ 0
    · rw [if_pos c3, if_pos c3]
    rw [if_neg c3, if_neg c3]
    by_cases c4 : hasN (pairF (sk u)).2.1 l = true
    · rw [if_pos c4, if_pos c4]
    rw [if_neg c4, if_neg c4]
    by_cases c5 : 32 ≤ l.length
    · rw [if_pos c5, if_pos c5]
    rw [if_neg c5, if_neg c5]
    have hlt := pair_lt (Decidable.not_not.1 c3)
    have hs := sk_size u
    exact go_fuel f g _ _ _ (by omega) (by omega)
theorem go_done (nm : ByteArray) (l : List (ByteArray × ByteArray)) (u : ByteArray) (c1 : (sk u).size = 0) : GoF nm l u = (0, nm, l) := by
  unfold GoF goF; rw [if_pos c1]
theorem go_mark (nm : ByteArray) (l : List (ByteArray × ByteArray)) (u : ByteArray) (c1 : (sk u).size ≠ 0) (c2 : bk u = 0) : GoF nm l u = (6, Nz.em, []) := by
  unfold GoF goF; rw [if_neg c1, if_pos c2]
theorem go_err (nm : ByteArray) (l : List (ByteArray × ByteArray)) (u : ByteArray) (c1 : (sk u).size ≠ 0) (c2 : bk u ≠ 0) (c3 : (pairF (sk u)).1 ≠ 0) : GoF nm l u = ((pairF (sk u)).1, Nz.em, []) := by
  unfold GoF goF; rw [if_neg c1, if_neg c2, if_pos c3]
theorem go_twice (nm : ByteArray) (l : List (ByteArray × ByteArray)) (u : ByteArray) (c1 : (sk u).size ≠ 0) (c2 : bk u ≠ 0) (c3 : (pairF (sk u)).1 = 0) (c4 : hasN (pairF (sk u)).2.1 l = true) : GoF nm l u = (8, Nz.em, []) := by
  unfold GoF goF; rw [if_neg c1, if_neg c2, if_neg (Decidable.not_not.2 c3), if_pos c4]
theorem go_large (nm : ByteArray) (l : List (ByteArray × ByteArray)) (u : ByteArray) (c1 : (sk u).size ≠ 0) (c2 : bk u ≠ 0) (c3 : (pairF (sk u)).1 = 0) (c4 : hasN (pairF (sk u)).2.1 l = false) (c5 : 32 ≤ l.length) : GoF nm l u = (13, Nz.em, []) := by
  unfold GoF goF; rw [if_neg c1, if_neg c2, if_neg (Decidable.not_not.2 c3), if_neg (by rw [c4]; decide), if_pos c5]
theorem go_ok (nm : ByteArray) (l : List (ByteArray × ByteArray)) (u : ByteArray) (c1 : (sk u).size ≠ 0) (c2 : bk u ≠ 0) (c3 : (pairF (sk u)).1 = 0) (c4 : hasN (pairF (sk u)).2.1 l = false) (c5 : ¬ 32 ≤ l.length) :
    GoF nm l u = GoF nm (l ++ [((pairF (sk u)).2.1, (pairF (sk u)).2.2.1)]) (pairF (sk u)).2.2.2 := by
  have hlt := pair_lt c3
  have hs := sk_size u
  unfold GoF
  rw [goF, if_neg c1, if_neg c2, if_neg (Decidable.not_not.2 c3), if_neg (by rw [c4]; decide), if_neg c5]
  exact go_fuel _ _ _ _ _ (by omega) (by omega)

/-- Texts by their bytes. -/
theorem eqS (a b : ByteArray) : (a.toList == b.toList) = decide (byts a = byts b) := by
  rw [Lib.toList_data, Lib.toList_data]
  by_cases h : byts a = byts b
  · have := byts_inj h
    subst this
    rw [decide_eq_true h]
    exact beq_self_eq_true _
  · rw [decide_eq_false h]
    rw [beq_eq_false_iff_ne]
    intro e
    apply h
    unfold byts
    rw [e]
theorem byts_fr (u : ByteArray) (k : Nat) : byts (Nz.fr u k) = (byts u).drop k := byts_from u k
theorem fr_fr (u : ByteArray) (a b : Nat) : Nz.fr (Nz.fr u a) b = Nz.fr u (a + b) := byts_inj (by rw [byts_fr, byts_fr, byts_fr, List.drop_drop])
theorem fr_zero (u : ByteArray) : Nz.fr u 0 = u := byts_inj (by rw [byts_fr, List.drop_zero])
theorem sx_zero (u : ByteArray) : Nz.sx u 0 = u.extract 0 (Nz.sn u 0) := by unfold Nz.sx; rw [fr_zero]
theorem sx_le (u : ByteArray) : (Nz.sx u 0).size ≤ u.size := by
  rw [sx_zero, ← byts_len, byts_to, List.length_take, byts_len]
  omega
end Go.Proofs.YtaoklhalkfcpfaaGreatDoor
