/-
  The walks of scope.bound, allowed, resolve and attributeName.
-/
import Derived.Test.YtepmleieekpdiaaScFind
set_option linter.unusedSimpArgs false
set_option linter.unusedVariables false
namespace Go.Proofs.Ytepmleieekpdiaa
open Go.RowKit

theorem xn_list : xn.toList = [120, 109, 108, 110, 115] := by rw [Lib.toList_data]; rfl
theorem xm_list : xm.toList = [120, 109, 108] := by rw [Lib.toList_data]; rfl
theorem x6_list : x6.toList = [120, 109, 108, 110, 115, 58] := by rw [Lib.toList_data]; rfl
theorem XS_list : XS.toList = [104, 116, 116, 112, 58, 47, 47, 119, 119, 119, 46, 119, 51, 46, 111, 114, 103, 47, 88, 77, 76, 47, 49, 57, 57, 56, 47, 110, 97, 109, 101, 115, 112, 97, 99, 101] := by rw [Lib.toList_data]; rfl
theorem XN_list : XN.toList = [104, 116, 116, 112, 58, 47, 47, 119, 119, 119, 46, 119, 51, 46, 111, 114, 103, 47, 50, 48, 48, 48, 47, 120, 109, 108, 110, 115, 47] := by rw [Lib.toList_data]; rfl
theorem eqb_xn {p : ByteArray} {b : Bool} (h : eqb p xn = b) : (p.toList == [120, 109, 108, 110, 115]) = b := by rw [← xn_list]; exact h
theorem eqb_xm {p : ByteArray} {b : Bool} (h : eqb p xm = b) : (p.toList == [120, 109, 108]) = b := by rw [← xm_list]; exact h
theorem eqb_x6 {p : ByteArray} {b : Bool} (h : eqb p x6 = b) : (p.toList == [120, 109, 108, 110, 115, 58]) = b := by rw [← x6_list]; exact h
theorem eqb_XS {p : ByteArray} {b : Bool} (h : eqb p XS = b) : (p.toList == [104, 116, 116, 112, 58, 47, 47, 119, 119, 119, 46, 119, 51, 46, 111, 114, 103, 47, 88, 77, 76, 47, 49, 57, 57, 56, 47, 110, 97, 109, 101, 115, 112, 97, 99, 101]) = b := by rw [← XS_list]; exact h
theorem eqb_XN {p : ByteArray} {b : Bool} (h : eqb p XN = b) : (p.toList == [104, 116, 116, 112, 58, 47, 47, 119, 119, 119, 46, 119, 51, 46, 111, 114, 103, 47, 50, 48, 48, 48, 47, 120, 109, 108, 110, 115, 47]) = b := by rw [← XN_list]; exact h
theorem eqb_emp {p : ByteArray} {b : Bool} (h : eqb p em = b) : p.toList.isEmpty = b := by rw [← eqb_em]; exact h

/-- name.Split's contract, at letters. -/
def SplC (s p l : ByteArray) (ok : Bool) : Prop := ∀ w, Calls Try.prog 27 #[.string s] w fun e w' => e = .returned (.tuple #[.string p, .string l, .bool ok]) ∧ Below w.heap.size w w'
theorem spl_any (s : ByteArray) (hs : s.size ≤ 1000) : SplC s (splitA s).1 (splitA s).2.1 (splitA s).2.2 := fun w => split_any s hs w
def bndV (o : Option ByteArray) : Value := .tuple #[.string (o.getD em), .bool o.isSome]
set_option maxHeartbeats 1000000 in
set_option maxRecDepth 100000 in
theorem bound_w (s p l : ByteArray) (ok b1 b2 b3 : Bool) (CS : Hid (SplC s p l ok)) (h1 : (p.toList == [120, 109, 108, 110, 115]) = b1) (h2 : p.toList.isEmpty = b2) (h3 : (l.toList == [120, 109, 108, 110, 115]) = b3) (w : World) :
    Calls Try.prog 31 #[.string s] w fun e w' => e = .returned (bndV (if b1 = true then some l else if b2 = true ∧ b3 = true then some em else none)) ∧ Below w.heap.size w w' := by
  cases b1
  · cases b2
    · go_enter Try.func31, Try.ntmps31
      go_wp2_with (go_at_call 27; refine (CS.out _).mono ?_; rintro e w' ⟨rfl, hb⟩)
      go_ret2
      exact ⟨rfl, hb⟩
    · cases b3 <;>
      · go_enter Try.func31, Try.ntmps31
        go_wp2_with (go_at_call 27; refine (CS.out _).mono ?_; rintro e w' ⟨rfl, hb⟩)
        go_ret2
        exact ⟨rfl, hb⟩
  · go_enter Try.func31, Try.ntmps31
    go_wp2_with (go_at_call 27; refine (CS.out _).mono ?_; rintro e w' ⟨rfl, hb⟩)
    go_ret2
    exact ⟨rfl, hb⟩
theorem bound_any (s : ByteArray) (hs : s.size ≤ 1000) (w : World) :
    Calls Try.prog 31 #[.string s] w fun e w' => e = .returned (bndV (bndF s)) ∧ Below w.heap.size w w' :=
  bound_w s _ _ _ _ _ _ (Lib.hid (spl_any s hs)) (eqb_xn rfl) (eqb_emp rfl) (eqb_xn rfl) w
set_option maxHeartbeats 2000000 in
set_option maxRecDepth 100000 in
theorem allow_w (p s : ByteArray) (b1 b2 b3 b4 b5 b6 : Bool) (h1 : (p.toList == [120, 109, 108, 110, 115]) = b1)
    (h2 : (s.toList == [104, 116, 116, 112, 58, 47, 47, 119, 119, 119, 46, 119, 51, 46, 111, 114, 103, 47, 50, 48, 48, 48, 47, 120, 109, 108, 110, 115, 47]) = b2) (h3 : (p.toList == [120, 109, 108]) = b3)
    (h4 : (s.toList == [104, 116, 116, 112, 58, 47, 47, 119, 119, 119, 46, 119, 51, 46, 111, 114, 103, 47, 88, 77, 76, 47, 49, 57, 57, 56, 47, 110, 97, 109, 101, 115, 112, 97, 99, 101]) = b4) (h5 : p.toList.isEmpty = b5) (h6 : s.toList.isEmpty = b6) (w : World) :
    Calls Try.prog 32 #[.agg #[.string p, .string s]] w fun e w' => e = .returned (.bool (!(b1 || b2) && (b3 == b4) && (b5 || !b6))) ∧ Below w.heap.size w w' := by
  have HB := Lib.hid ((Below.refl w.heap.size w).alloc (Nat.le_refl _) (.cells #[.string p, .string s] 50))
  have h6' : (!s.toList.isEmpty) = !b6 := by rw [h6]
  cases b1
  · cases b2
    · cases b3 <;> cases b4
      · cases b5
        · cases b6 <;>
          · go_enter Try.func32, Try.ntmps32
            go_wp2
            go_ret
            exact ⟨rfl, HB.out⟩
        · go_enter Try.func32, Try.ntmps32
          go_wp2
          go_ret
          exact ⟨rfl, HB.out⟩
      · go_enter Try.func32, Try.ntmps32
        go_wp2
        go_ret
        exact ⟨rfl, HB.out⟩
      · go_enter Try.func32, Try.ntmps32
        go_wp2
        go_ret
        exact ⟨rfl, HB.out⟩
      · cases b5
        · cases b6 <;>
          · go_enter Try.func32, Try.ntmps32
            go_wp2
            go_ret
            exact ⟨rfl, HB.out⟩
        · go_enter Try.func32, Try.ntmps32
          go_wp2
          go_ret
          exact ⟨rfl, HB.out⟩
    · go_enter Try.func32, Try.ntmps32
      go_wp2
      go_ret
      exact ⟨rfl, HB.out⟩
  · go_enter Try.func32, Try.ntmps32
    go_wp2
    go_ret
    exact ⟨rfl, HB.out⟩
theorem allow_any (p s : ByteArray) (w : World) :
    Calls Try.prog 32 #[.agg #[.string p, .string s]] w fun e w' => e = .returned (.bool (okB p s)) ∧ Below w.heap.size w w' :=
  allow_w p s _ _ _ _ _ _ (eqb_xn rfl) (eqb_XN rfl) (eqb_xm rfl) (eqb_XS rfl) (eqb_emp rfl) (eqb_emp rfl) w
/-- A name, or the error. -/
def nmV (o : Option P2) : Value := match o with
  | none => .tuple #[.agg #[.string ⟨#[]⟩, .string ⟨#[]⟩], .int .i64 9]
  | some x => .tuple #[.agg #[.string x.1, .string x.2], .int .i64 0]
theorem Try.results28 : Try.f28.results = #[ResultVar.cell 6 29, ResultVar.tmp 7] := by kernel_rfl
theorem Try.results33 : Try.f33.results = #[ResultVar.cell 4 29, ResultVar.tmp 5] := by kernel_rfl
theorem nblk (w : World) (T : TypeId) (cs : Array Value) : (w.alloc (.cells cs T)).heap[w.heap.size]? = some (.cells cs T (0, 0)) := heap_alloc_new w _
set_option maxHeartbeats 2000000 in
set_option maxRecDepth 100000 in
theorem resolve_w (A : Option Addr) (N cap : Nat) (p n sp : ByteArray) (ok b1 : Bool) (w : World) (hn : n.size ≤ Lim)
    (CF : Hid (∀ W, Below w.heap.size w W → Calls Try.prog 12 #[.slice A N cap, .string p] W fun e w' => e = .returned (.tuple #[.string sp, .bool ok]) ∧ Below W.heap.size W w')) (h1 : (p.toList == [120, 109, 108, 110, 115]) = b1) :
    Calls Try.prog 28 #[.slice A N cap, .string p, .string n] w fun e w' => e = .returned (nmV (if ok = false ∨ b1 = true then none else some (sp, n))) ∧ Below w.heap.size w w' := by
  have HB := Lib.hid ((Below.refl w.heap.size w).alloc (Nat.le_refl _) (.cells #[.string ⟨#[]⟩, .string ⟨#[]⟩] 29))
  have C := Lib.hid (fun W => clone_any n W hn)
  have HK := Lib.hid (nblk w 29 #[.string ⟨#[]⟩, .string ⟨#[]⟩])
  clear hn
  cases ok
  · have e0 : (if (false = false ∨ b1 = true) then (none : Option P2) else some (sp, n)) = none := if_pos (Or.inl rfl)
    rw [e0]
    clear e0
    go_enter Try.func28, Try.ntmps28
    go_wp2_with (go_at_call 12; refine (CF.out _ HB.out).mono ?_; rintro e w1 ⟨rfl, hb⟩; have hk := Lib.hid ((hb.block w.heap.size (by simp)).trans HK.out); have z0 := cells_of hk.out 0 (u := .string ⟨#[]⟩) rfl; have z1 := cells_of hk.out 1 (u := .string ⟨#[]⟩) rfl; have f0 := froz_of hk.out 0; have f1 := froz_of hk.out 1)
    have c0 := set2_0 (.string ⟨#[]⟩) (.string ⟨#[]⟩) z0
    have c1 := set2_1 (.string ⟨#[]⟩) (.string ⟨#[]⟩) z1
    exact bodyPost_ret (v := .tuple #[.agg #[.string ⟨#[]⟩, .string ⟨#[]⟩], .int .i64 9]) (by simp [results, Try.results28, go_sem, c0, c1]) rfl ⟨rfl, ((HB.out.trans (hb.mono (by simp))).setCell (p := ⟨w.heap.size, 0, none⟩) (Nat.le_refl _) _).setCell (p := ⟨w.heap.size, 1, none⟩) (Nat.le_refl _) _⟩
  · cases b1
    · go_enter Try.func28, Try.ntmps28
      go_wp2_with (first
        | (go_at_call 12; refine (CF.out _ HB.out).mono ?_; rintro e w1 ⟨rfl, hb⟩; have hk := Lib.hid ((hb.block w.heap.size (by simp)).trans HK.out); have z0 := cells_of hk.out 0 (u := .string ⟨#[]⟩) rfl; have z1 := cells_of hk.out 1 (u := .string ⟨#[]⟩) rfl; have f0 := froz_of hk.out 0; have f1 := froz_of hk.out 1)
        | (go_at_call 26; refine (C.out _).mono ?_; rintro e w2 ⟨rfl, hb2⟩; have hk2 := Lib.hid ((hb2.block w.heap.size (Nat.lt_of_lt_of_le (by simp) hb.size)).trans hk.out); have y0 := cells_of hk2.out 0 (u := .string ⟨#[]⟩) rfl; have y1 := cells_of hk2.out 1 (u := .string ⟨#[]⟩) rfl; have g0 := froz_of hk2.out 0; have g1 := froz_of hk2.out 1))
      have c0 := set2_0 (.string sp) (.string n) y0
      have c1 := set2_1 (.string sp) (.string n) y1
      have B1 := HB.out.trans (hb.mono (by simp))
      exact bodyPost_ret (v := .tuple #[.agg #[.string sp, .string n], .int .i64 0]) (by simp [results, Try.results28, go_sem, c0, c1]) rfl ⟨rfl, ((B1.trans (hb2.mono B1.size)).setCell (p := ⟨w.heap.size, 0, none⟩) (Nat.le_refl _) _).setCell (p := ⟨w.heap.size, 1, none⟩) (Nat.le_refl _) _⟩
    · go_enter Try.func28, Try.ntmps28
      go_wp2_with (go_at_call 12; refine (CF.out _ HB.out).mono ?_; rintro e w1 ⟨rfl, hb⟩; have hk := Lib.hid ((hb.block w.heap.size (by simp)).trans HK.out); have z0 := cells_of hk.out 0 (u := .string ⟨#[]⟩) rfl; have z1 := cells_of hk.out 1 (u := .string ⟨#[]⟩) rfl; have f0 := froz_of hk.out 0; have f1 := froz_of hk.out 1)
      have c0 := set2_0 (.string ⟨#[]⟩) (.string ⟨#[]⟩) z0
      have c1 := set2_1 (.string ⟨#[]⟩) (.string ⟨#[]⟩) z1
      exact bodyPost_ret (v := .tuple #[.agg #[.string ⟨#[]⟩, .string ⟨#[]⟩], .int .i64 9]) (by simp [results, Try.results28, go_sem, c0, c1]) rfl ⟨rfl, ((HB.out.trans (hb.mono (by simp))).setCell (p := ⟨w.heap.size, 0, none⟩) (Nat.le_refl _) _).setCell (p := ⟨w.heap.size, 1, none⟩) (Nat.le_refl _) _⟩
theorem resolve_any (A : Option Addr) (N cap : Nat) (p n : ByteArray) (L : List P2) (w : World) (hN : N = L.length) (hlim : LimL L) (hreach : N ≤ 1000000) (hR : RdR w A L) (hn : n.size ≤ Lim) :
    Calls Try.prog 28 #[.slice A N cap, .string p, .string n] w fun e w' => e = .returned (nmV (resF L p n)) ∧ Below w.heap.size w w' :=
  resolve_w A N cap p n _ _ _ w hn (Lib.hid (fun W hW => find_any A N cap p L W hN hlim hreach (hR.keep hW))) (eqb_xn rfl)
set_option maxHeartbeats 2000000 in
set_option maxRecDepth 100000 in
theorem atn_w (A : Option Addr) (N cap : Nat) (s p l : ByteArray) (ok b2 : Bool) (o : Option P2) (w : World) (hn : l.size ≤ Lim) (CS : Hid (SplC s p l ok))
    (CR : Hid (∀ W, Below w.heap.size w W → Calls Try.prog 28 #[.slice A N cap, .string p, .string l] W fun e w' => e = .returned (nmV o) ∧ Below W.heap.size W w')) (h2 : p.toList.isEmpty = b2) :
    Calls Try.prog 33 #[.slice A N cap, .string s] w fun e w' => e = .returned (nmV (if ok = false then none else if b2 = true then some (em, l) else o)) ∧ Below w.heap.size w w' := by
  have HB := Lib.hid ((Below.refl w.heap.size w).alloc (Nat.le_refl _) (.cells #[.string ⟨#[]⟩, .string ⟨#[]⟩] 29))
  have C := Lib.hid (fun W => clone_any l W hn)
  have HK := Lib.hid (nblk w 29 #[.string ⟨#[]⟩, .string ⟨#[]⟩])
  clear hn
  cases ok
  · go_enter Try.func33, Try.ntmps33
    go_wp2_with (go_at_call 27; refine (CS.out _).mono ?_; rintro e w1 ⟨rfl, hb⟩; have hk := Lib.hid ((hb.block w.heap.size (by simp)).trans HK.out); have z0 := cells_of hk.out 0 (u := .string ⟨#[]⟩) rfl; have z1 := cells_of hk.out 1 (u := .string ⟨#[]⟩) rfl; have f0 := froz_of hk.out 0; have f1 := froz_of hk.out 1)
    have c0 := set2_0 (.string ⟨#[]⟩) (.string ⟨#[]⟩) z0
    have c1 := set2_1 (.string ⟨#[]⟩) (.string ⟨#[]⟩) z1
    exact bodyPost_ret (v := .tuple #[.agg #[.string ⟨#[]⟩, .string ⟨#[]⟩], .int .i64 9]) (by simp [results, Try.results33, go_sem, c0, c1]) rfl ⟨rfl, ((HB.out.trans (hb.mono (by simp))).setCell (p := ⟨w.heap.size, 0, none⟩) (Nat.le_refl _) _).setCell (p := ⟨w.heap.size, 1, none⟩) (Nat.le_refl _) _⟩
  · cases b2
    · cases o with
      | none =>
        have CR' : Hid (∀ W, Below w.heap.size w W → Calls Try.prog 28 #[.slice A N cap, .string p, .string l] W fun e w' => e = .returned (.tuple #[.agg #[.string ⟨#[]⟩, .string ⟨#[]⟩], .int .i64 9]) ∧ Below W.heap.size W w') := CR
        clear CR
        go_enter Try.func33, Try.ntmps33
        go_wp2_with (first
          | (go_at_call 27; refine (CS.out _).mono ?_; rintro e w1 ⟨rfl, hb⟩; have hk := Lib.hid ((hb.block w.heap.size (by simp)).trans HK.out); have B1 := Lib.hid (HB.out.trans (hb.mono (by simp))))
          | (go_at_call 28; refine (CR'.out _ B1.out).mono ?_; rintro e w2 ⟨rfl, hb2⟩; have hk2 := Lib.hid ((hb2.block w.heap.size (Nat.lt_of_lt_of_le (by simp) hb.size)).trans hk.out); have y0 := cells_of hk2.out 0 (u := .string ⟨#[]⟩) rfl; have y1 := cells_of hk2.out 1 (u := .string ⟨#[]⟩) rfl; have g0 := froz_of hk2.out 0; have g1 := froz_of hk2.out 1))
        have c0 := set2_0 (.string ⟨#[]⟩) (.string ⟨#[]⟩) y0
        have c1 := set2_1 (.string ⟨#[]⟩) (.string ⟨#[]⟩) y1
        exact bodyPost_ret (v := .tuple #[.agg #[.string ⟨#[]⟩, .string ⟨#[]⟩], .int .i64 9]) (by simp [results, Try.results33, go_sem, c0, c1]) rfl ⟨rfl, ((B1.out.trans (hb2.mono B1.out.size)).setCell (p := ⟨w.heap.size, 0, none⟩) (Nat.le_refl _) _).setCell (p := ⟨w.heap.size, 1, none⟩) (Nat.le_refl _) _⟩
      | some x =>
        obtain ⟨xa, xb⟩ := x
        have CR' : Hid (∀ W, Below w.heap.size w W → Calls Try.prog 28 #[.slice A N cap, .string p, .string l] W fun e w' => e = .returned (.tuple #[.agg #[.string xa, .string xb], .int .i64 0]) ∧ Below W.heap.size W w') := CR
        clear CR
        go_enter Try.func33, Try.ntmps33
        go_wp2_with (first
          | (go_at_call 27; refine (CS.out _).mono ?_; rintro e w1 ⟨rfl, hb⟩; have hk := Lib.hid ((hb.block w.heap.size (by simp)).trans HK.out); have B1 := Lib.hid (HB.out.trans (hb.mono (by simp))))
          | (go_at_call 28; refine (CR'.out _ B1.out).mono ?_; rintro e w2 ⟨rfl, hb2⟩; have hk2 := Lib.hid ((hb2.block w.heap.size (Nat.lt_of_lt_of_le (by simp) hb.size)).trans hk.out); have y0 := cells_of hk2.out 0 (u := .string ⟨#[]⟩) rfl; have y1 := cells_of hk2.out 1 (u := .string ⟨#[]⟩) rfl; have g0 := froz_of hk2.out 0; have g1 := froz_of hk2.out 1))
        have c0 := set2_0 (.string xa) (.string xb) y0
        have c1 := set2_1 (.string xa) (.string xb) y1
        exact bodyPost_ret (v := .tuple #[.agg #[.string xa, .string xb], .int .i64 0]) (by simp [results, Try.results33, go_sem, c0, c1]) rfl ⟨rfl, ((B1.out.trans (hb2.mono B1.out.size)).setCell (p := ⟨w.heap.size, 0, none⟩) (Nat.le_refl _) _).setCell (p := ⟨w.heap.size, 1, none⟩) (Nat.le_refl _) _⟩
    · go_enter Try.func33, Try.ntmps33
      go_wp2_with (first
        | (go_at_call 27; refine (CS.out _).mono ?_; rintro e w1 ⟨rfl, hb⟩; have hk := Lib.hid ((hb.block w.heap.size (by simp)).trans HK.out); have B1 := Lib.hid (HB.out.trans (hb.mono (by simp))))
        | (go_at_call 26; refine (C.out _).mono ?_; rintro e w2 ⟨rfl, hb2⟩; have hk2 := Lib.hid ((hb2.block w.heap.size (Nat.lt_of_lt_of_le (by simp) hb.size)).trans hk.out); have y0 := cells_of hk2.out 0 (u := .string ⟨#[]⟩) rfl; have y1 := cells_of hk2.out 1 (u := .string ⟨#[]⟩) rfl; have g0 := froz_of hk2.out 0; have g1 := froz_of hk2.out 1))
      have c0 := set2_0 (.string ⟨#[]⟩) (.string l) y0
      have c1 := set2_1 (.string ⟨#[]⟩) (.string l) y1
      exact bodyPost_ret (v := .tuple #[.agg #[.string ⟨#[]⟩, .string l], .int .i64 0]) (by simp [results, Try.results33, go_sem, c0, c1]) rfl ⟨rfl, ((B1.out.trans (hb2.mono B1.out.size)).setCell (p := ⟨w.heap.size, 0, none⟩) (Nat.le_refl _) _).setCell (p := ⟨w.heap.size, 1, none⟩) (Nat.le_refl _) _⟩
theorem atn_any (A : Option Addr) (N cap : Nat) (s : ByteArray) (L : List P2) (w : World) (hN : N = L.length) (hlim : LimL L) (hreach : N ≤ 1000000) (hR : RdR w A L) (hs : s.size ≤ 1000) :
    Calls Try.prog 33 #[.slice A N cap, .string s] w fun e w' => e = .returned (nmV (atnF L s)) ∧ Below w.heap.size w w' := by
  have hz : (splitA s).2.1.size ≤ Lim := Nat.le_trans (split_size s).2 (by unfold Lim; omega)
  exact atn_w A N cap s _ _ _ _ _ w hz (Lib.hid (spl_any s hs)) (Lib.hid (fun W hW => resolve_any A N cap _ _ L W hN hlim hreach (hR.keep hW) hz)) (eqb_emp rfl)
end Go.Proofs.Ytepmleieekpdiaa
