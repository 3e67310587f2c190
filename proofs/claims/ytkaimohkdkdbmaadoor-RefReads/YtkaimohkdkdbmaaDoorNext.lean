/-
  The walks of the gatherer's next and mask, of ref.read, ref.escape, and of Text, Value, Escape, Quote.
-/
import Derived.Test.YtkaimohkdkdbmaaDoorGath
set_option linter.unusedSimpArgs false
set_option linter.unusedVariables false
namespace Go.Proofs.YtkaimohkdkdbmaaDoor
open Go.RowKit

theorem tail_drop (l : List Int) (k : Nat) : (l.drop k).tail = l.drop (k + 1) := by rw [List.tail_drop]
theorem getD_drop (l : List Int) (k j : Nat) : (l.drop k).getD j 0 = l.getD (k + j) 0 := by simp [List.getD_eq_getElem?_getD, List.getElem?_drop]
theorem at_byt (s : ByteArray) (k : Nat) (h : k < s.size) : ((s[k]).toNat : Int) = (byts s).getD k 0 := by rw [bt_eq s k h, bt_byts]

set_option maxHeartbeats 2000000 in
set_option maxRecDepth 100000 in
theorem next_ref (B b : Nat) (v : Bool) (bs : List Int) (s : ByteArray) (k : Nat) (x : Int × List Int × Nat) (w : World) (hk : k < s.size) (hs : s.size ≤ 1000000) (hc : ((s[k]).toNat : Int) = 38)
    (C : Hid (Calls Tryd.prog 31 #[.pointer (some ⟨b, 0, none⟩), .string (s.extract (k + 1) s.size)] w (StPost B b v bs x w))) :
    Calls Tryd.prog 23 #[.pointer (some ⟨b, 0, none⟩), .string s, .int .i64 k] w (StPost B b v bs x w) := by
  have c1 : (k : Int) < (s.size : Int) := by omega
  have c2 : (0 : Int) ≤ (k : Int) + 1 := by omega
  have c3 : (k : Int) + 1 ≤ (s.size : Int) := by omega
  have q2 : IntKind.i64.wrap ((k : Int) + 1) = (k : Int) + 1 := IntWalk.i64_in _ (by omega)
  have q3 : ((k : Int) + 1).toNat = k + 1 := by omega
  go_enter Tryd.func23, Tryd.ntmps23
  go_wp2_with fail
  refine C.out.mono ?_
  rintro e w1 ⟨rfl, h⟩
  have H := Lib.hid h
  clear h C
  go_wp2
  go_ret2
  exact ⟨rfl, H.out⟩

set_option maxHeartbeats 2000000 in
set_option maxRecDepth 100000 in
theorem next_cr (B b : Nat) (v : Bool) (bs : List Int) (s : ByteArray) (k : Nat) (lf : Bool) (w : World) (hk : k < s.size) (hs : s.size ≤ 1000000) (hc : ((s[k]).toNat : Int) = 13)
    (C : Hid (Calls Tryd.prog 32 #[.pointer (some ⟨b, 0, none⟩), .int .u8 10] w fun e w' => e = .returned (.tuple #[]) ∧ Gat B b v bs w' ∧ Below B w w'))
    (C2 : Hid (∀ w, Calls Tryd.prog 33 #[.string (s.extract (k + 1) s.size), .string ⟨#[10]⟩] w fun e w' => e = .returned (.bool lf) ∧ w = w')) :
    Calls Tryd.prog 23 #[.pointer (some ⟨b, 0, none⟩), .string s, .int .i64 k] w fun e w' => e = .returned (.tuple #[.int .i64 (if lf = true then 2 else 1), .int .i64 0]) ∧ Gat B b v bs w' ∧ Below B w w' := by
  have c1 : (k : Int) < (s.size : Int) := by omega
  have c2 : (0 : Int) ≤ (k : Int) + 1 := by omega
  have c3 : (k : Int) + 1 ≤ (s.size : Int) := by omega
  have q2 : IntKind.i64.wrap ((k : Int) + 1) = (k : Int) + 1 := IntWalk.i64_in _ (by omega)
  have q3 : ((k : Int) + 1).toNat = k + 1 := by omega
  cases lf
  all_goals
    go_enter Tryd.func23, Tryd.ntmps23
    go_wp2_with fail
    refine C.out.mono ?_
    rintro e w1 ⟨rfl, h, hb⟩
    have H := Lib.hid h
    clear h C
    go_wp2_with fail
    refine (C2.out _).mono ?_
    rintro e w2 ⟨rfl, rfl⟩
    go_wp2
    go_ret2
    exact ⟨rfl, H.out, hb⟩

set_option maxHeartbeats 2000000 in
set_option maxRecDepth 100000 in
theorem next_9 (B b : Nat) (v : Bool) (bs : List Int) (s : ByteArray) (k : Nat) (w : World) (hk : k < s.size) (hs : s.size ≤ 1000000) (hc : ((s[k]).toNat : Int) = 9)
    (C : Hid (Calls Tryd.prog 32 #[.pointer (some ⟨b, 0, none⟩), .int .u8 9] w fun e w' => e = .returned (.tuple #[]) ∧ Gat B b v bs w' ∧ Below B w w')) :
    Calls Tryd.prog 23 #[.pointer (some ⟨b, 0, none⟩), .string s, .int .i64 k] w fun e w' => e = .returned (.tuple #[.int .i64 1, .int .i64 0]) ∧ Gat B b v bs w' ∧ Below B w w' := by
  have c1 : (k : Int) < (s.size : Int) := by omega
  go_enter Tryd.func23, Tryd.ntmps23
  go_wp2_with fail
  refine C.out.mono ?_
  rintro e w1 ⟨rfl, h, hb⟩
  have H := Lib.hid h
  clear h C
  go_wp2
  go_ret2
  exact ⟨rfl, H.out, hb⟩

set_option maxHeartbeats 2000000 in
set_option maxRecDepth 100000 in
theorem next_10 (B b : Nat) (v : Bool) (bs : List Int) (s : ByteArray) (k : Nat) (w : World) (hk : k < s.size) (hs : s.size ≤ 1000000) (hc : ((s[k]).toNat : Int) = 10)
    (C : Hid (Calls Tryd.prog 32 #[.pointer (some ⟨b, 0, none⟩), .int .u8 10] w fun e w' => e = .returned (.tuple #[]) ∧ Gat B b v bs w' ∧ Below B w w')) :
    Calls Tryd.prog 23 #[.pointer (some ⟨b, 0, none⟩), .string s, .int .i64 k] w fun e w' => e = .returned (.tuple #[.int .i64 1, .int .i64 0]) ∧ Gat B b v bs w' ∧ Below B w w' := by
  have c1 : (k : Int) < (s.size : Int) := by omega
  go_enter Tryd.func23, Tryd.ntmps23
  go_wp2_with fail
  refine C.out.mono ?_
  rintro e w1 ⟨rfl, h, hb⟩
  have H := Lib.hid h
  clear h C
  go_wp2
  go_ret2
  exact ⟨rfl, H.out, hb⟩

set_option maxHeartbeats 2000000 in
set_option maxRecDepth 100000 in
theorem next_pl (B b : Nat) (v : Bool) (bs : List Int) (s : ByteArray) (k : Nat) (x : Int × List Int × Nat) (w : World) (hk : k < s.size) (hs : s.size ≤ 1000000)
    (t1 : (((s[k]).toNat : Int) == 38) = false) (t2 : (((s[k]).toNat : Int) == 13) = false) (t3 : (((s[k]).toNat : Int) == 9) = false) (t4 : (((s[k]).toNat : Int) == 10) = false)
    (C : Hid (Calls Tryd.prog 34 #[.pointer (some ⟨b, 0, none⟩), .string s, .int .i64 k] w (StPost B b v bs x w))) :
    Calls Tryd.prog 23 #[.pointer (some ⟨b, 0, none⟩), .string s, .int .i64 k] w (StPost B b v bs x w) := by
  have c1 : (k : Int) < (s.size : Int) := by omega
  go_enter Tryd.func23, Tryd.ntmps23
  go_wp2_with fail
  refine C.out.mono ?_
  rintro e w1 ⟨rfl, h⟩
  have H := Lib.hid h
  clear h C
  go_wp2
  go_ret2
  exact ⟨rfl, H.out⟩

theorem next_any (B b : Nat) (v : Bool) (bs : List Int) (s : ByteArray) (k : Nat) (w : World) (hk : k < s.size) (hs : s.size ≤ 1000000) (hg : Gat B b v bs w) (hB : B ≤ w.heap.size) (hl : bs.length ≤ 1000000) (hV : Vars w) :
    Calls Tryd.prog 23 #[.pointer (some ⟨b, 0, none⟩), .string s, .int .i64 k] w (StPost B b v bs (stepF v ((byts s).drop k)) w) := by
  have hb := at_byt s k hk
  have hz : (s.extract (k + 1) s.size).size ≤ 1000000 := by rw [size_from]; omega
  unfold stepF
  rw [tail_drop, getD_drop, getD_drop, Nat.add_zero]
  by_cases h1 : (byts s).getD k 0 = 38
  · rw [if_pos h1]
    have := ref_any B b v bs (s.extract (k + 1) s.size) w hg hB hl hz hV
    rw [byts_from] at this
    exact next_ref B b v bs s k _ w hk hs (hb.trans h1) (Lib.hid this)
  rw [if_neg h1]
  by_cases h2 : (byts s).getD k 0 = 13
  · rw [if_pos h2]
    have C := Lib.hid (blank_g B b v bs 10 w hg hB hl (by omega) (by omega))
    have hd : (byts (s.extract (k + 1) s.size)).getD 0 0 = (byts s).getD (k + 1) 0 := by rw [byts_from, getD_drop]
    by_cases h3 : (byts s).getD (k + 1) 0 = 10
    · rw [if_pos h3]
      refine (next_cr B b v _ s k true w hk hs (hb.trans h2) C (Lib.hid (has_yes _ 10 (by decide) (by rw [hd]; exact h3)))).mono ?_
      rintro e w' ⟨rfl, hg2, hb2⟩
      exact ⟨rfl, fun _ => hg2, hb2⟩
    · rw [if_neg h3]
      refine (next_cr B b v _ s k false w hk hs (hb.trans h2) C (Lib.hid (has_no _ 10 (by rw [hd]; exact h3)))).mono ?_
      rintro e w' ⟨rfl, hg2, hb2⟩
      exact ⟨rfl, fun _ => hg2, hb2⟩
  rw [if_neg h2]
  by_cases h3 : (byts s).getD k 0 = 9
  · rw [if_pos (.inl h3), h3]
    refine (next_9 B b v _ s k w hk hs (hb.trans h3) (Lib.hid (blank_g B b v bs 9 w hg hB hl (by omega) (by omega)))).mono ?_
    rintro e w' ⟨rfl, hg2, hb2⟩
    exact ⟨rfl, fun _ => hg2, hb2⟩
  by_cases h4 : (byts s).getD k 0 = 10
  · rw [if_pos (.inr h4), h4]
    refine (next_10 B b v _ s k w hk hs (hb.trans h4) (Lib.hid (blank_g B b v bs 10 w hg hB hl (by omega) (by omega)))).mono ?_
    rintro e w' ⟨rfl, hg2, hb2⟩
    exact ⟨rfl, fun _ => hg2, hb2⟩
  rw [if_neg (by omega)]
  exact next_pl B b v bs s k _ w hk hs (by rw [hb]; simpa using h1) (by rw [hb]; simpa using h2) (by rw [hb]; simpa using h3) (by rw [hb]; simpa using h4) (Lib.hid (plain_any B b v bs s k w hk hs hg hB hl))

set_option maxHeartbeats 2000000 in
set_option maxRecDepth 100000 in
theorem mask_amp (B b : Nat) (v : Bool) (bs : List Int) (w : World) (hg : Gat B b v bs w) (hB : B ≤ w.heap.size) (hl : bs.length ≤ 1000000) :
    Calls Tryd.prog 30 #[.pointer (some ⟨b, 0, none⟩), .int .u8 38] w fun e w' => e = .returned (.tuple #[]) ∧ Gat B b v (bs ++ [38, 97, 109, 112, 59]) w' ∧ Below B w w' := by
  have hv := hg.value
  have CW := Lib.hid (wstr_any B b v bs ⟨#[38, 97, 109, 112, 59]⟩ w hg hB hl (by decide) (by decide))
  clear hg
  go_enter Tryd.func30, Tryd.ntmps30
  go_wp2_with fail
  refine CW.out.mono ?_
  rintro e w1 ⟨rfl, h, hb⟩
  have H := Lib.hid h
  clear h CW
  go_wp2
  go_end0
  exact ⟨rfl, H.out, hb⟩

set_option maxHeartbeats 2000000 in
set_option maxRecDepth 100000 in
theorem mask_lt (B b : Nat) (v : Bool) (bs : List Int) (w : World) (hg : Gat B b v bs w) (hB : B ≤ w.heap.size) (hl : bs.length ≤ 1000000) :
    Calls Tryd.prog 30 #[.pointer (some ⟨b, 0, none⟩), .int .u8 60] w fun e w' => e = .returned (.tuple #[]) ∧ Gat B b v (bs ++ [38, 108, 116, 59]) w' ∧ Below B w w' := by
  have hv := hg.value
  have CW := Lib.hid (wstr_any B b v bs ⟨#[38, 108, 116, 59]⟩ w hg hB hl (by decide) (by decide))
  clear hg
  go_enter Tryd.func30, Tryd.ntmps30
  go_wp2_with fail
  refine CW.out.mono ?_
  rintro e w1 ⟨rfl, h, hb⟩
  have H := Lib.hid h
  clear h CW
  go_wp2
  go_end0
  exact ⟨rfl, H.out, hb⟩

set_option maxHeartbeats 2000000 in
set_option maxRecDepth 100000 in
theorem mask_gt (B b : Nat) (v : Bool) (bs : List Int) (w : World) (hg : Gat B b v bs w) (hB : B ≤ w.heap.size) (hl : bs.length ≤ 1000000) :
    Calls Tryd.prog 30 #[.pointer (some ⟨b, 0, none⟩), .int .u8 62] w fun e w' => e = .returned (.tuple #[]) ∧ Gat B b v (bs ++ [38, 103, 116, 59]) w' ∧ Below B w w' := by
  have hv := hg.value
  have CW := Lib.hid (wstr_any B b v bs ⟨#[38, 103, 116, 59]⟩ w hg hB hl (by decide) (by decide))
  clear hg
  go_enter Tryd.func30, Tryd.ntmps30
  go_wp2_with fail
  refine CW.out.mono ?_
  rintro e w1 ⟨rfl, h, hb⟩
  have H := Lib.hid h
  clear h CW
  go_wp2
  go_end0
  exact ⟨rfl, H.out, hb⟩

set_option maxHeartbeats 2000000 in
set_option maxRecDepth 100000 in
theorem mask_cr (B b : Nat) (v : Bool) (bs : List Int) (w : World) (hg : Gat B b v bs w) (hB : B ≤ w.heap.size) (hl : bs.length ≤ 1000000) :
    Calls Tryd.prog 30 #[.pointer (some ⟨b, 0, none⟩), .int .u8 13] w fun e w' => e = .returned (.tuple #[]) ∧ Gat B b v (bs ++ [38, 35, 120, 68, 59]) w' ∧ Below B w w' := by
  have hv := hg.value
  have CW := Lib.hid (wstr_any B b v bs ⟨#[38, 35, 120, 68, 59]⟩ w hg hB hl (by decide) (by decide))
  clear hg
  go_enter Tryd.func30, Tryd.ntmps30
  go_wp2_with fail
  refine CW.out.mono ?_
  rintro e w1 ⟨rfl, h, hb⟩
  have H := Lib.hid h
  clear h CW
  go_wp2
  go_end0
  exact ⟨rfl, H.out, hb⟩

set_option maxHeartbeats 2000000 in
set_option maxRecDepth 100000 in
theorem mask_quot (B b : Nat) (v : Bool) (bs : List Int) (w : World) (hg : Gat B b true bs w) (hB : B ≤ w.heap.size) (hl : bs.length ≤ 1000000) :
    Calls Tryd.prog 30 #[.pointer (some ⟨b, 0, none⟩), .int .u8 34] w fun e w' => e = .returned (.tuple #[]) ∧ Gat B b true (bs ++ [38, 113, 117, 111, 116, 59]) w' ∧ Below B w w' := by
  have hv := hg.value
  have CW := Lib.hid (wstr_any B b true bs ⟨#[38, 113, 117, 111, 116, 59]⟩ w hg hB hl (by decide) (by decide))
  clear hg
  go_enter Tryd.func30, Tryd.ntmps30
  go_wp2_with fail
  refine CW.out.mono ?_
  rintro e w1 ⟨rfl, h, hb⟩
  have H := Lib.hid h
  clear h CW
  go_wp2
  go_end0
  exact ⟨rfl, H.out, hb⟩

set_option maxHeartbeats 2000000 in
set_option maxRecDepth 100000 in
theorem mask_tab (B b : Nat) (v : Bool) (bs : List Int) (w : World) (hg : Gat B b true bs w) (hB : B ≤ w.heap.size) (hl : bs.length ≤ 1000000) :
    Calls Tryd.prog 30 #[.pointer (some ⟨b, 0, none⟩), .int .u8 9] w fun e w' => e = .returned (.tuple #[]) ∧ Gat B b true (bs ++ [38, 35, 120, 57, 59]) w' ∧ Below B w w' := by
  have hv := hg.value
  have CW := Lib.hid (wstr_any B b true bs ⟨#[38, 35, 120, 57, 59]⟩ w hg hB hl (by decide) (by decide))
  clear hg
  go_enter Tryd.func30, Tryd.ntmps30
  go_wp2_with fail
  refine CW.out.mono ?_
  rintro e w1 ⟨rfl, h, hb⟩
  have H := Lib.hid h
  clear h CW
  go_wp2
  go_end0
  exact ⟨rfl, H.out, hb⟩

set_option maxHeartbeats 2000000 in
set_option maxRecDepth 100000 in
theorem mask_lf (B b : Nat) (v : Bool) (bs : List Int) (w : World) (hg : Gat B b true bs w) (hB : B ≤ w.heap.size) (hl : bs.length ≤ 1000000) :
    Calls Tryd.prog 30 #[.pointer (some ⟨b, 0, none⟩), .int .u8 10] w fun e w' => e = .returned (.tuple #[]) ∧ Gat B b true (bs ++ [38, 35, 120, 65, 59]) w' ∧ Below B w w' := by
  have hv := hg.value
  have CW := Lib.hid (wstr_any B b true bs ⟨#[38, 35, 120, 65, 59]⟩ w hg hB hl (by decide) (by decide))
  clear hg
  go_enter Tryd.func30, Tryd.ntmps30
  go_wp2_with fail
  refine CW.out.mono ?_
  rintro e w1 ⟨rfl, h, hb⟩
  have H := Lib.hid h
  clear h CW
  go_wp2
  go_end0
  exact ⟨rfl, H.out, hb⟩

set_option maxHeartbeats 2000000 in
set_option maxRecDepth 100000 in
theorem mask_f (B b : Nat) (bs : List Int) (c : Int) (w : World) (hg : Gat B b false bs w) (hB : B ≤ w.heap.size) (hl : bs.length ≤ 1000000) (h0 : 0 ≤ c) (h1 : c ≤ 255)
    (t1 : (c == 38) = false) (t2 : (c == 60) = false) (t3 : (c == 62) = false) (t4 : (c == 13) = false) :
    Calls Tryd.prog 30 #[.pointer (some ⟨b, 0, none⟩), .int .u8 c] w fun e w' => e = .returned (.tuple #[]) ∧ Gat B b false (bs ++ [c]) w' ∧ Below B w w' := by
  have hv := hg.value
  have CW := Lib.hid (wbyte_any B b false bs c w hg hB hl h0 h1)
  clear hg
  go_enter Tryd.func30, Tryd.ntmps30
  go_wp2_with fail
  refine CW.out.mono ?_
  rintro e w1 ⟨rfl, h, hb⟩
  have H := Lib.hid h
  clear h CW
  go_wp2
  go_end0
  exact ⟨rfl, H.out, hb⟩
set_option maxHeartbeats 2000000 in
set_option maxRecDepth 100000 in
theorem mask_t (B b : Nat) (bs : List Int) (c : Int) (w : World) (hg : Gat B b true bs w) (hB : B ≤ w.heap.size) (hl : bs.length ≤ 1000000) (h0 : 0 ≤ c) (h1 : c ≤ 255)
    (t1 : (c == 38) = false) (t2 : (c == 60) = false) (t3 : (c == 62) = false) (t4 : (c == 13) = false) (t5 : (c == 34) = false) (t6 : (c == 9) = false) (t7 : (c == 10) = false) :
    Calls Tryd.prog 30 #[.pointer (some ⟨b, 0, none⟩), .int .u8 c] w fun e w' => e = .returned (.tuple #[]) ∧ Gat B b true (bs ++ [c]) w' ∧ Below B w w' := by
  have hv := hg.value
  have CW := Lib.hid (wbyte_any B b true bs c w hg hB hl h0 h1)
  clear hg
  go_enter Tryd.func30, Tryd.ntmps30
  go_wp2_with fail
  refine CW.out.mono ?_
  rintro e w1 ⟨rfl, h, hb⟩
  have H := Lib.hid h
  clear h CW
  go_wp2
  go_end0
  exact ⟨rfl, H.out, hb⟩
theorem mask_any (B b : Nat) (v : Bool) (bs : List Int) (c : Int) (w : World) (hg : Gat B b v bs w) (hB : B ≤ w.heap.size) (hl : bs.length ≤ 1000000) (h0 : 0 ≤ c) (h1 : c ≤ 255) :
    Calls Tryd.prog 30 #[.pointer (some ⟨b, 0, none⟩), .int .u8 c] w fun e w' => e = .returned (.tuple #[]) ∧ Gat B b v (bs ++ escB v c) w' ∧ Below B w w' := by
  unfold escB
  by_cases a1 : c = 38
  · rw [if_pos a1]; subst a1; exact mask_amp B b v bs w hg hB hl
  rw [if_neg a1]
  by_cases a2 : c = 60
  · rw [if_pos a2]; subst a2; exact mask_lt B b v bs w hg hB hl
  rw [if_neg a2]
  by_cases a3 : c = 62
  · rw [if_pos a3]; subst a3; exact mask_gt B b v bs w hg hB hl
  rw [if_neg a3]
  by_cases a4 : c = 13
  · rw [if_pos a4]; subst a4; exact mask_cr B b v bs w hg hB hl
  rw [if_neg a4]
  cases v
  · rw [if_neg (by simp), if_neg (by simp), if_neg (by simp)]
    exact mask_f B b bs c w hg hB hl h0 h1 (by simpa using a1) (by simpa using a2) (by simpa using a3) (by simpa using a4)
  · by_cases a5 : c = 34
    · rw [if_pos ⟨rfl, a5⟩]; subst a5; exact mask_quot B b true bs w hg hB hl
    rw [if_neg (fun h => a5 h.2)]
    by_cases a6 : c = 9
    · rw [if_pos ⟨rfl, a6⟩]; subst a6; exact mask_tab B b true bs w hg hB hl
    rw [if_neg (fun h => a6 h.2)]
    by_cases a7 : c = 10
    · rw [if_pos ⟨rfl, a7⟩]; subst a7; exact mask_lf B b true bs w hg hB hl
    rw [if_neg (fun h => a7 h.2)]
    exact mask_t B b bs c w hg hB hl h0 h1 (by simpa using a1) (by simpa using a2) (by simpa using a3) (by simpa using a4) (by simpa using a5) (by simpa using a6) (by simpa using a7)
end Go.Proofs.YtkaimohkdkdbmaaDoor
