/-
  Merged by program out of the texts ScRes, ScBind, ScNames, ScMap of one seat.
-/
import Derived.Test.YtkeilgompipfjaaGreatDoorG09
import Derived.WideKeyEntry
import Derived.DeepKeys4

/- The walks of scope.bound, allowed, resolve and attributeName. -/
set_option linter.unusedSimpArgs false
set_option linter.unusedVariables false
namespace Go.Proofs.YtkeilgompipfjaaGreatDoor.Nz.Sc
open Go.RowKit

theorem xn_list : xn.toList = [120, 109, 108, 110, 115] := by rw [Lib.toList_data]; rfl
theorem xm_list : xm.toList = [120, 109, 108] := by rw [Lib.toList_data]; rfl
theorem XS_list : XS.toList = [104, 116, 116, 112, 58, 47, 47, 119, 119, 119, 46, 119, 51, 46, 111, 114, 103, 47, 88, 77, 76, 47, 49, 57, 57, 56, 47, 110, 97, 109, 101, 115, 112, 97, 99, 101] := by rw [Lib.toList_data]; rfl
theorem XN_list : XN.toList = [104, 116, 116, 112, 58, 47, 47, 119, 119, 119, 46, 119, 51, 46, 111, 114, 103, 47, 50, 48, 48, 48, 47, 120, 109, 108, 110, 115, 47] := by rw [Lib.toList_data]; rfl
theorem eqb_xn {p : ByteArray} {b : Bool} (h : eqb p xn = b) : (p.toList == [120, 109, 108, 110, 115]) = b := by rw [← xn_list]; exact h
theorem eqb_xm {p : ByteArray} {b : Bool} (h : eqb p xm = b) : (p.toList == [120, 109, 108]) = b := by rw [← xm_list]; exact h
theorem eqb_XS {p : ByteArray} {b : Bool} (h : eqb p XS = b) : (p.toList == [104, 116, 116, 112, 58, 47, 47, 119, 119, 119, 46, 119, 51, 46, 111, 114, 103, 47, 88, 77, 76, 47, 49, 57, 57, 56, 47, 110, 97, 109, 101, 115, 112, 97, 99, 101]) = b := by rw [← XS_list]; exact h
theorem eqb_XN {p : ByteArray} {b : Bool} (h : eqb p XN = b) : (p.toList == [104, 116, 116, 112, 58, 47, 47, 119, 119, 119, 46, 119, 51, 46, 111, 114, 103, 47, 50, 48, 48, 48, 47, 120, 109, 108, 110, 115, 47]) = b := by rw [← XN_list]; exact h
theorem eqb_emp {p : ByteArray} {b : Bool} (h : eqb p em = b) : p.toList.isEmpty = b := by rw [← eqb_em]; exact h

/-- name.Split's contract, at letters. -/
def SplC (s p l : ByteArray) (ok : Bool) : Prop := ∀ w, Calls Tryz.prog 87 #[.string s] w fun e w' => e = .returned (.tuple #[.string p, .string l, .bool ok]) ∧ Below w.heap.size w w'
theorem spl_any (s : ByteArray) (hs : s.size ≤ 10000) : SplC s (splitA s).1 (splitA s).2.1 (splitA s).2.2 := fun w => split_any s (by omega) w
def bndV (o : Option ByteArray) : Value := .tuple #[.string (o.getD em), .bool o.isSome]
set_option maxHeartbeats 1000000 in
set_option maxRecDepth 100000 in
theorem bound_w (s p l : ByteArray) (ok b1 b2 b3 : Bool) (CS : Hid (SplC s p l ok)) (h1 : (p.toList == [120, 109, 108, 110, 115]) = b1) (h2 : p.toList.isEmpty = b2) (h3 : (l.toList == [120, 109, 108, 110, 115]) = b3) (w : World) :
    Calls Tryz.prog 85 #[.string s] w fun e w' => e = .returned (bndV (if b1 = true then some l else if b2 = true ∧ b3 = true then some em else none)) ∧ Below w.heap.size w w' := by
  cases b1
  · cases b2
    · go_enter Tryz.func85, Tryz.ntmps85
      go_wp2_with (go_at_call 87; refine (CS.out _).mono ?_; rintro e w' ⟨rfl, hb⟩)
      go_ret2
      exact ⟨rfl, hb⟩
    · cases b3 <;>
      · go_enter Tryz.func85, Tryz.ntmps85
        go_wp2_with (go_at_call 87; refine (CS.out _).mono ?_; rintro e w' ⟨rfl, hb⟩)
        go_ret2
        exact ⟨rfl, hb⟩
  · go_enter Tryz.func85, Tryz.ntmps85
    go_wp2_with (go_at_call 87; refine (CS.out _).mono ?_; rintro e w' ⟨rfl, hb⟩)
    go_ret2
    exact ⟨rfl, hb⟩
theorem bound_any (s : ByteArray) (hs : s.size ≤ 10000) (w : World) :
    Calls Tryz.prog 85 #[.string s] w fun e w' => e = .returned (bndV (bndF s)) ∧ Below w.heap.size w w' :=
  bound_w s _ _ _ _ _ _ (Lib.hid (spl_any s hs)) (eqb_xn rfl) (eqb_emp rfl) (eqb_xn rfl) w
set_option maxHeartbeats 2000000 in
set_option maxRecDepth 100000 in
theorem allow_w (p s : ByteArray) (b1 b2 b3 b4 b5 b6 : Bool) (h1 : (p.toList == [120, 109, 108, 110, 115]) = b1)
    (h2 : (s.toList == [104, 116, 116, 112, 58, 47, 47, 119, 119, 119, 46, 119, 51, 46, 111, 114, 103, 47, 50, 48, 48, 48, 47, 120, 109, 108, 110, 115, 47]) = b2) (h3 : (p.toList == [120, 109, 108]) = b3)
    (h4 : (s.toList == [104, 116, 116, 112, 58, 47, 47, 119, 119, 119, 46, 119, 51, 46, 111, 114, 103, 47, 88, 77, 76, 47, 49, 57, 57, 56, 47, 110, 97, 109, 101, 115, 112, 97, 99, 101]) = b4) (h5 : p.toList.isEmpty = b5) (h6 : s.toList.isEmpty = b6) (w : World) :
    Calls Tryz.prog 86 #[.agg #[.string p, .string s]] w fun e w' => e = .returned (.bool (!(b1 || b2) && (b3 == b4) && (b5 || !b6))) ∧ Below w.heap.size w w' := by
  have HB := Lib.hid ((Below.refl w.heap.size w).alloc (Nat.le_refl _) (.cells #[.string p, .string s] 138))
  have h6' : (!s.toList.isEmpty) = !b6 := by rw [h6]
  cases b1
  · cases b2
    · cases b3 <;> cases b4
      · cases b5
        · cases b6 <;>
          · go_enter Tryz.func86, Tryz.ntmps86
            go_wp2
            go_ret
            exact ⟨rfl, HB.out⟩
        · go_enter Tryz.func86, Tryz.ntmps86
          go_wp2
          go_ret
          exact ⟨rfl, HB.out⟩
      · go_enter Tryz.func86, Tryz.ntmps86
        go_wp2
        go_ret
        exact ⟨rfl, HB.out⟩
      · go_enter Tryz.func86, Tryz.ntmps86
        go_wp2
        go_ret
        exact ⟨rfl, HB.out⟩
      · cases b5
        · cases b6 <;>
          · go_enter Tryz.func86, Tryz.ntmps86
            go_wp2
            go_ret
            exact ⟨rfl, HB.out⟩
        · go_enter Tryz.func86, Tryz.ntmps86
          go_wp2
          go_ret
          exact ⟨rfl, HB.out⟩
    · go_enter Tryz.func86, Tryz.ntmps86
      go_wp2
      go_ret
      exact ⟨rfl, HB.out⟩
  · go_enter Tryz.func86, Tryz.ntmps86
    go_wp2
    go_ret
    exact ⟨rfl, HB.out⟩
theorem allow_any (p s : ByteArray) (w : World) :
    Calls Tryz.prog 86 #[.agg #[.string p, .string s]] w fun e w' => e = .returned (.bool (okB p s)) ∧ Below w.heap.size w w' :=
  allow_w p s _ _ _ _ _ _ (eqb_xn rfl) (eqb_XN rfl) (eqb_xm rfl) (eqb_XS rfl) (eqb_emp rfl) (eqb_emp rfl) w
/-- A name, or the error. -/
def nmV (o : Option P2) : Value := match o with
  | none => .tuple #[.agg #[.string ⟨#[]⟩, .string ⟨#[]⟩], .int .i64 9]
  | some x => .tuple #[.agg #[.string x.1, .string x.2], .int .i64 0]
theorem Tryz.results88 : Tryz.f88.results = #[ResultVar.cell 6 30, ResultVar.tmp 7] := by kernel_rfl
theorem Tryz.results89 : Tryz.f89.results = #[ResultVar.cell 4 30, ResultVar.tmp 5] := by kernel_rfl
theorem nblk (w : World) (T : TypeId) (cs : Array Value) : (w.alloc (.cells cs T)).heap[w.heap.size]? = some (.cells cs T (0, 0)) := heap_alloc_new w _
set_option maxHeartbeats 2000000 in
set_option maxRecDepth 100000 in
theorem resolve_w (A : Option Addr) (N cap : Nat) (p n sp : ByteArray) (ok b1 : Bool) (w : World) (hn : n.size ≤ Lim)
    (CF : Hid (∀ W, Below w.heap.size w W → Calls Tryz.prog 114 #[.slice A N cap, .string p] W fun e w' => e = .returned (.tuple #[.string sp, .bool ok]) ∧ Below W.heap.size W w')) (h1 : (p.toList == [120, 109, 108, 110, 115]) = b1) :
    Calls Tryz.prog 88 #[.slice A N cap, .string p, .string n] w fun e w' => e = .returned (nmV (if ok = false ∨ b1 = true then none else some (sp, n))) ∧ Below w.heap.size w w' := by
  have HB := Lib.hid ((Below.refl w.heap.size w).alloc (Nat.le_refl _) (.cells #[.string ⟨#[]⟩, .string ⟨#[]⟩] 30))
  have C := Lib.hid (fun W => clone_any n W hn)
  have HK := Lib.hid (nblk w 30 #[.string ⟨#[]⟩, .string ⟨#[]⟩])
  clear hn
  cases ok
  · have e0 : (if (false = false ∨ b1 = true) then (none : Option P2) else some (sp, n)) = none := if_pos (Or.inl rfl)
    rw [e0]
    clear e0
    go_enter Tryz.func88, Tryz.ntmps88
    go_wp2_with (go_at_call 114; refine (CF.out _ HB.out).mono ?_; rintro e w1 ⟨rfl, hb⟩; have hk := Lib.hid ((hb.block w.heap.size (by simp)).trans HK.out); have z0 := cells_of hk.out 0 (u := .string ⟨#[]⟩) rfl; have z1 := cells_of hk.out 1 (u := .string ⟨#[]⟩) rfl; have f0 := froz_of hk.out 0; have f1 := froz_of hk.out 1)
    have c0 := set2_0 (.string ⟨#[]⟩) (.string ⟨#[]⟩) z0
    have c1 := set2_1 (.string ⟨#[]⟩) (.string ⟨#[]⟩) z1
    exact bodyPost_ret (v := .tuple #[.agg #[.string ⟨#[]⟩, .string ⟨#[]⟩], .int .i64 9]) (by simp [results, Tryz.results88, go_sem, c0, c1]) rfl ⟨rfl, ((HB.out.trans (hb.mono (by simp))).setCell (p := ⟨w.heap.size, 0, none⟩) (Nat.le_refl _) _).setCell (p := ⟨w.heap.size, 1, none⟩) (Nat.le_refl _) _⟩
  · cases b1
    · go_enter Tryz.func88, Tryz.ntmps88
      go_wp2_with (first
        | (go_at_call 114; refine (CF.out _ HB.out).mono ?_; rintro e w1 ⟨rfl, hb⟩; have hk := Lib.hid ((hb.block w.heap.size (by simp)).trans HK.out); have z0 := cells_of hk.out 0 (u := .string ⟨#[]⟩) rfl; have z1 := cells_of hk.out 1 (u := .string ⟨#[]⟩) rfl; have f0 := froz_of hk.out 0; have f1 := froz_of hk.out 1)
        | (go_at_call 90; refine (C.out _).mono ?_; rintro e w2 ⟨rfl, hb2⟩; have hk2 := Lib.hid ((hb2.block w.heap.size (Nat.lt_of_lt_of_le (by simp) hb.size)).trans hk.out); have y0 := cells_of hk2.out 0 (u := .string ⟨#[]⟩) rfl; have y1 := cells_of hk2.out 1 (u := .string ⟨#[]⟩) rfl; have g0 := froz_of hk2.out 0; have g1 := froz_of hk2.out 1))
      have c0 := set2_0 (.string sp) (.string n) y0
      have c1 := set2_1 (.string sp) (.string n) y1
      have B1 := HB.out.trans (hb.mono (by simp))
      exact bodyPost_ret (v := .tuple #[.agg #[.string sp, .string n], .int .i64 0]) (by simp [results, Tryz.results88, go_sem, c0, c1]) rfl ⟨rfl, ((B1.trans (hb2.mono B1.size)).setCell (p := ⟨w.heap.size, 0, none⟩) (Nat.le_refl _) _).setCell (p := ⟨w.heap.size, 1, none⟩) (Nat.le_refl _) _⟩
    · go_enter Tryz.func88, Tryz.ntmps88
      go_wp2_with (go_at_call 114; refine (CF.out _ HB.out).mono ?_; rintro e w1 ⟨rfl, hb⟩; have hk := Lib.hid ((hb.block w.heap.size (by simp)).trans HK.out); have z0 := cells_of hk.out 0 (u := .string ⟨#[]⟩) rfl; have z1 := cells_of hk.out 1 (u := .string ⟨#[]⟩) rfl; have f0 := froz_of hk.out 0; have f1 := froz_of hk.out 1)
      have c0 := set2_0 (.string ⟨#[]⟩) (.string ⟨#[]⟩) z0
      have c1 := set2_1 (.string ⟨#[]⟩) (.string ⟨#[]⟩) z1
      exact bodyPost_ret (v := .tuple #[.agg #[.string ⟨#[]⟩, .string ⟨#[]⟩], .int .i64 9]) (by simp [results, Tryz.results88, go_sem, c0, c1]) rfl ⟨rfl, ((HB.out.trans (hb.mono (by simp))).setCell (p := ⟨w.heap.size, 0, none⟩) (Nat.le_refl _) _).setCell (p := ⟨w.heap.size, 1, none⟩) (Nat.le_refl _) _⟩
theorem resolve_any (A : Option Addr) (N cap : Nat) (p n : ByteArray) (L : List P2) (w : World) (hN : N = L.length) (hlim : LimL L) (hreach : N ≤ 1000000) (hR : RdR w A L) (hn : n.size ≤ Lim) :
    Calls Tryz.prog 88 #[.slice A N cap, .string p, .string n] w fun e w' => e = .returned (nmV (resF L p n)) ∧ Below w.heap.size w w' :=
  resolve_w A N cap p n _ _ _ w hn (Lib.hid (fun W hW => find_any A N cap p L W hN hlim hreach (hR.keep hW))) (eqb_xn rfl)
set_option maxHeartbeats 2000000 in
set_option maxRecDepth 100000 in
theorem atn_w (A : Option Addr) (N cap : Nat) (s p l : ByteArray) (ok b2 : Bool) (o : Option P2) (w : World) (hn : l.size ≤ Lim) (CS : Hid (SplC s p l ok))
    (CR : Hid (∀ W, Below w.heap.size w W → Calls Tryz.prog 88 #[.slice A N cap, .string p, .string l] W fun e w' => e = .returned (nmV o) ∧ Below W.heap.size W w')) (h2 : p.toList.isEmpty = b2) :
    Calls Tryz.prog 89 #[.slice A N cap, .string s] w fun e w' => e = .returned (nmV (if ok = false then none else if b2 = true then some (em, l) else o)) ∧ Below w.heap.size w w' := by
  have HB := Lib.hid ((Below.refl w.heap.size w).alloc (Nat.le_refl _) (.cells #[.string ⟨#[]⟩, .string ⟨#[]⟩] 30))
  have C := Lib.hid (fun W => clone_any l W hn)
  have HK := Lib.hid (nblk w 30 #[.string ⟨#[]⟩, .string ⟨#[]⟩])
  clear hn
  cases ok
  · go_enter Tryz.func89, Tryz.ntmps89
    go_wp2_with (go_at_call 87; refine (CS.out _).mono ?_; rintro e w1 ⟨rfl, hb⟩; have hk := Lib.hid ((hb.block w.heap.size (by simp)).trans HK.out); have z0 := cells_of hk.out 0 (u := .string ⟨#[]⟩) rfl; have z1 := cells_of hk.out 1 (u := .string ⟨#[]⟩) rfl; have f0 := froz_of hk.out 0; have f1 := froz_of hk.out 1)
    have c0 := set2_0 (.string ⟨#[]⟩) (.string ⟨#[]⟩) z0
    have c1 := set2_1 (.string ⟨#[]⟩) (.string ⟨#[]⟩) z1
    exact bodyPost_ret (v := .tuple #[.agg #[.string ⟨#[]⟩, .string ⟨#[]⟩], .int .i64 9]) (by simp [results, Tryz.results89, go_sem, c0, c1]) rfl ⟨rfl, ((HB.out.trans (hb.mono (by simp))).setCell (p := ⟨w.heap.size, 0, none⟩) (Nat.le_refl _) _).setCell (p := ⟨w.heap.size, 1, none⟩) (Nat.le_refl _) _⟩
  · cases b2
    · cases o with
      | none =>
        have CR' : Hid (∀ W, Below w.heap.size w W → Calls Tryz.prog 88 #[.slice A N cap, .string p, .string l] W fun e w' => e = .returned (.tuple #[.agg #[.string ⟨#[]⟩, .string ⟨#[]⟩], .int .i64 9]) ∧ Below W.heap.size W w') := CR
        clear CR
        go_enter Tryz.func89, Tryz.ntmps89
        go_wp2_with (first
          | (go_at_call 87; refine (CS.out _).mono ?_; rintro e w1 ⟨rfl, hb⟩; have hk := Lib.hid ((hb.block w.heap.size (by simp)).trans HK.out); have B1 := Lib.hid (HB.out.trans (hb.mono (by simp))))
          | (go_at_call 88; refine (CR'.out _ B1.out).mono ?_; rintro e w2 ⟨rfl, hb2⟩; have hk2 := Lib.hid ((hb2.block w.heap.size (Nat.lt_of_lt_of_le (by simp) hb.size)).trans hk.out); have y0 := cells_of hk2.out 0 (u := .string ⟨#[]⟩) rfl; have y1 := cells_of hk2.out 1 (u := .string ⟨#[]⟩) rfl; have g0 := froz_of hk2.out 0; have g1 := froz_of hk2.out 1))
        have c0 := set2_0 (.string ⟨#[]⟩) (.string ⟨#[]⟩) y0
        have c1 := set2_1 (.string ⟨#[]⟩) (.string ⟨#[]⟩) y1
        exact bodyPost_ret (v := .tuple #[.agg #[.string ⟨#[]⟩, .string ⟨#[]⟩], .int .i64 9]) (by simp [results, Tryz.results89, go_sem, c0, c1]) rfl ⟨rfl, ((B1.out.trans (hb2.mono B1.out.size)).setCell (p := ⟨w.heap.size, 0, none⟩) (Nat.le_refl _) _).setCell (p := ⟨w.heap.size, 1, none⟩) (Nat.le_refl _) _⟩
      | some x =>
        obtain ⟨xa, xb⟩ := x
        have CR' : Hid (∀ W, Below w.heap.size w W → Calls Tryz.prog 88 #[.slice A N cap, .string p, .string l] W fun e w' => e = .returned (.tuple #[.agg #[.string xa, .string xb], .int .i64 0]) ∧ Below W.heap.size W w') := CR
        clear CR
        go_enter Tryz.func89, Tryz.ntmps89
        go_wp2_with (first
          | (go_at_call 87; refine (CS.out _).mono ?_; rintro e w1 ⟨rfl, hb⟩; have hk := Lib.hid ((hb.block w.heap.size (by simp)).trans HK.out); have B1 := Lib.hid (HB.out.trans (hb.mono (by simp))))
          | (go_at_call 88; refine (CR'.out _ B1.out).mono ?_; rintro e w2 ⟨rfl, hb2⟩; have hk2 := Lib.hid ((hb2.block w.heap.size (Nat.lt_of_lt_of_le (by simp) hb.size)).trans hk.out); have y0 := cells_of hk2.out 0 (u := .string ⟨#[]⟩) rfl; have y1 := cells_of hk2.out 1 (u := .string ⟨#[]⟩) rfl; have g0 := froz_of hk2.out 0; have g1 := froz_of hk2.out 1))
        have c0 := set2_0 (.string xa) (.string xb) y0
        have c1 := set2_1 (.string xa) (.string xb) y1
        exact bodyPost_ret (v := .tuple #[.agg #[.string xa, .string xb], .int .i64 0]) (by simp [results, Tryz.results89, go_sem, c0, c1]) rfl ⟨rfl, ((B1.out.trans (hb2.mono B1.out.size)).setCell (p := ⟨w.heap.size, 0, none⟩) (Nat.le_refl _) _).setCell (p := ⟨w.heap.size, 1, none⟩) (Nat.le_refl _) _⟩
    · go_enter Tryz.func89, Tryz.ntmps89
      go_wp2_with (first
        | (go_at_call 87; refine (CS.out _).mono ?_; rintro e w1 ⟨rfl, hb⟩; have hk := Lib.hid ((hb.block w.heap.size (by simp)).trans HK.out); have B1 := Lib.hid (HB.out.trans (hb.mono (by simp))))
        | (go_at_call 90; refine (C.out _).mono ?_; rintro e w2 ⟨rfl, hb2⟩; have hk2 := Lib.hid ((hb2.block w.heap.size (Nat.lt_of_lt_of_le (by simp) hb.size)).trans hk.out); have y0 := cells_of hk2.out 0 (u := .string ⟨#[]⟩) rfl; have y1 := cells_of hk2.out 1 (u := .string ⟨#[]⟩) rfl; have g0 := froz_of hk2.out 0; have g1 := froz_of hk2.out 1))
      have c0 := set2_0 (.string ⟨#[]⟩) (.string l) y0
      have c1 := set2_1 (.string ⟨#[]⟩) (.string l) y1
      exact bodyPost_ret (v := .tuple #[.agg #[.string ⟨#[]⟩, .string l], .int .i64 0]) (by simp [results, Tryz.results89, go_sem, c0, c1]) rfl ⟨rfl, ((B1.out.trans (hb2.mono B1.out.size)).setCell (p := ⟨w.heap.size, 0, none⟩) (Nat.le_refl _) _).setCell (p := ⟨w.heap.size, 1, none⟩) (Nat.le_refl _) _⟩
theorem atn_any (A : Option Addr) (N cap : Nat) (s : ByteArray) (L : List P2) (w : World) (hN : N = L.length) (hlim : LimL L) (hreach : N ≤ 1000000) (hR : RdR w A L) (hs : s.size ≤ 10000) :
    Calls Tryz.prog 89 #[.slice A N cap, .string s] w fun e w' => e = .returned (nmV (atnF L s)) ∧ Below w.heap.size w w' := by
  have hz : (splitA s).2.1.size ≤ Lim := Nat.le_trans (split_size s).2 (by unfold Lim; omega)
  exact atn_w A N cap s _ _ _ _ _ w hz (Lib.hid (spl_any s hs)) (Lib.hid (fun W hW => resolve_any A N cap _ _ L W hN hlim hreach (hR.keep hW) hz)) (eqb_emp rfl)
end Go.Proofs.YtkeilgompipfjaaGreatDoor.Nz.Sc

/- The walk of scope.bind. -/
set_option linter.unusedSimpArgs false
set_option linter.unusedVariables false
namespace Go.Proofs.YtkeilgompipfjaaGreatDoor.Nz.Sc
open Go.RowKit

def BndC (s b : ByteArray) (ok : Bool) : Prop := ∀ w, Calls Tryz.prog 85 #[.string s] w fun e w' => e = .returned (.tuple #[.string b, .bool ok]) ∧ Below w.heap.size w w'
theorem bnd_none {s : ByteArray} (hs : s.size ≤ 10000) (h : bndF s = none) : BndC s ⟨#[]⟩ false := fun w => (bound_any s hs w).mono fun e w' ⟨h1, h2⟩ => ⟨by rw [h1, h]; rfl, h2⟩
theorem bnd_some {s p : ByteArray} (hs : s.size ≤ 10000) (h : bndF s = some p) : BndC s p true := fun w => (bound_any s hs w).mono fun e w' ⟨h1, h2⟩ => ⟨by rw [h1, h]; rfl, h2⟩
def CpC (p s : ByteArray) : Prop := ∀ w, Calls Tryz.prog 84 #[.agg #[.string p, .string s]] w fun e w' => e = .returned (.agg #[.string p, .string s]) ∧ Below w.heap.size w w'
def AlC (p s : ByteArray) (b : Bool) : Prop := ∀ w, Calls Tryz.prog 86 #[.agg #[.string p, .string s]] w fun e w' => e = .returned (.bool b) ∧ Below w.heap.size w w'
theorem alc_any {p s : ByteArray} {b : Bool} (h : okB p s = b) : AlC p s b := fun w => (allow_any p s w).mono fun e w' ⟨h1, h2⟩ => ⟨by rw [h1, h], h2⟩
theorem bnd_size {s p : ByteArray} (h : bndF s = some p) : p.size ≤ s.size := by
  unfold bndF at h
  split at h
  · injection h with h
    rw [← h]
    exact (split_size s).2
  · split at h
    · injection h with h
      rw [← h, em_size]
      exact Nat.zero_le _
    · cases h
theorem drop_cons {α : Type} {l : List α} {k : Nat} {x : α} (h : l[k]? = some x) : l.drop k = x :: l.drop (k + 1) := by
  obtain ⟨h1, h2⟩ := List.getElem?_eq_some_iff.1 h
  rw [List.drop_eq_getElem_cons h1, h2]
theorem bind_skip {l R : List P2} {k : Nat} {x : P2} (h : R[k]? = some x) (hb : bndF x.1 = none) : bindF l (R.drop k) = bindF l (R.drop (k + 1)) := by
  rw [drop_cons h, bindF, hb]
theorem bind_go {l R : List P2} {k : Nat} {x : P2} {p : ByteArray} (h : R[k]? = some x) (hb : bndF x.1 = some p) (ho : okB p x.2 = true) : bindF l (R.drop k) = bindF (l ++ [(p, x.2)]) (R.drop (k + 1)) := by
  rw [drop_cons h, bindF, hb]
  show (if okB p x.2 = true then _ else _) = _
  rw [if_pos ho]
theorem bind_stop {l R : List P2} {k : Nat} {x : P2} {p : ByteArray} (h : R[k]? = some x) (hb : bndF x.1 = some p) (ho : okB p x.2 = false) : bindF l (R.drop k) = none := by
  rw [drop_cons h, bindF, hb]
  show (if okB p x.2 = true then _ else _) = _
  rw [if_neg (by rw [ho]; simp)]
/-- What bind leaves. -/
def BdPost (w : World) (o : Option (List P2)) (e : Ending) (w' : World) : Prop :=
  (o = none → e = .returned (.tuple #[.slice none 0 0, .int .i64 9])) ∧ (∀ W, o = some W → ∃ v, e = .returned (.tuple #[v, .int .i64 0]) ∧ OwnP 138 w' w.heap.size v W) ∧ Below w.heap.size w w'
def BdRel1 (L : List P2) (N : Nat) (A2 : Option Addr) (R : List P2) (w : World) (v i : Value) (wr : World) : Prop :=
  ∃ k : Nat, i = .int .i64 k ∧ k ≤ N ∧ Hid (wr.ownsRow w.heap.size 138 2 v k (rwL (L.take k))) ∧ Hid (Below w.heap.size w wr)
def BdRel2 (L R : List P2) (N M : Nat) (w : World) (v i : Value) (wr : World) : Prop :=
  ∃ (k m : Nat) (W : List P2), i = .int .i64 k ∧ k ≤ M ∧ m ≤ N + k ∧ Hid (m = W.length) ∧ Hid (wr.ownsRow w.heap.size 138 2 v m (rwL W)) ∧ Hid (Below w.heap.size w wr) ∧ Hid (bindF L R = bindF W (R.drop k))
theorem pair_one (p s : ByteArray) : ∀ u ∈ [Value.string p, Value.string s], u.oneCell' = true := rw_one (p, s)
set_option maxHeartbeats 4000000 in
set_option maxRecDepth 100000 in
theorem bind_any (A A2 : Option Addr) (N M cap cap2 : Nat) (L R : List P2) (w : World) (hN : N = L.length) (hM : M = R.length) (hN1 : N ≤ 10000) (hM1 : M ≤ 10000) (hlim : LimL L) (hlimR : LimL R) (hsz : ∀ x ∈ R, x.1.size ≤ 10000) (hR : RdR w A L) (hR2 : RdR w A2 R) :
    Calls Tryz.prog 57 #[.slice A N cap, .slice A2 M cap2] w (BdPost w (bindF L R)) := by
  obtain ⟨i0, hi, hz0, hz1, hz2⟩ := info_parts Tryz.info138
  have HN := Lib.hid hN
  have HM := Lib.hid hM
  have HL := Lib.hid hlim
  have HLR := Lib.hid hlimR
  have HS := Lib.hid hsz
  have HR := Lib.hid hR
  have HR2 := Lib.hid hR2
  clear hN hM hlim hlimR hsz hR hR2
  go_enter Tryz.func57, Tryz.ntmps57
  go_wp2_with fail
  go_loopw [6, 16] (fun v i wr => BdRel1 L N A2 R w v i wr) (fun _ i _ => N - (intOf i).toNat)
  case atStart => exact ⟨0, rfl, Nat.zero_le _, Lib.hid ⟨by simp [rwL], .inl ⟨rfl, rfl⟩⟩, Lib.hid (Below.refl _ _)⟩
  case round =>
    obtain ⟨k, rfl, hk, hO, hB⟩ := hrel
    by_cases hlt : k < N
    · have hkl : k < L.length := by rw [← HN.out]; exact hlt
      have hx := List.getElem?_eq_getElem hkl
      obtain ⟨b1, o1, rfl, hb1, x0, x1⟩ := (HR.out.keep hB.out) k _ hx
      have hz := HL.out _ (List.getElem_mem hkl)
      have HX := Lib.hid hx
      have d1 : (k : Int) < (N : Int) := by omega
      have d0 : (0 : Int) ≤ (k : Int) := by omega
      clear hx
      generalize L[k] = t at *
      obtain ⟨tp, ts⟩ := t
      dsimp only at x0 x1 hz
      have C : Hid (CpC tp ts) := Lib.hid (fun W => copied_any tp ts W hz.1 hz.2)
      obtain ⟨A0, c0, rfl⟩ := own_slice hO.out
      clear hz
      go_wp2_with (first
        | (go_at_call 84; refine (C.out _).mono ?_; rintro e w1 ⟨rfl, hb⟩
           have ho1 := Lib.hid ((own_keep (hO.out.alloc _) hb).alloc (.cells #[.string tp, .string ts] 138))
           have hB1 := Lib.hid ((hB.out.alloc hB.out.size _).trans (hb.mono (Nat.le_trans hB.out.size (by simp))))
           have hB2 := Lib.hid (hB1.out.alloc hB1.out.size (.cells #[.string tp, .string ts] 138))
           have hnew := Lib.hid (new_cells w1 #[.string tp, .string ts] 138))
        | (at_builtin
           refine wpList_append_own _ rfl _ _ 78 rfl w.heap.size 138 i0 (.agg #[.string ⟨#[]⟩, .string ⟨#[]⟩]) 2 32 Tryz.underlying78 hi hz0 hz1 hz2 rfl (by decide) _ k (rwL (L.take k)) rfl ho1.out ⟨w1.heap.size, 0, none⟩ 1 1 [.string tp, .string ts] rfl rfl hnew.out (pair_one tp ts) (by unfold maxLen; omega) (by omega) hB2.out.size ?_
           intro v' w2 hown' hgrow hnil
           obtain ⟨g', cap', rfl⟩ := own_shape hown'
           have hO2 := Lib.hid hown'
           have hB3 := Lib.hid (hB2.out.grown hgrow hB2.out.size (fun j hj => (World.ownsRow.lt ho1.out j hj).1))
           clear hown' hgrow hnil))
      go_roundw
      case rel => exact ⟨k + 1, by go_num, by omega, Lib.hid (by rw [take_snoc L k _ HX.out, rwL_app]; exact hO2.out), hB3⟩
      case measure => simp only [intOf]; omega
    · have d1 : ¬ (k : Int) < (N : Int) := by omega
      have HL0 : Hid (L.take k = L) := Lib.hid (List.take_of_length_le (by rw [← HN.out]; omega))
      have HK0 : Hid (k = L.length) := Lib.hid (by have := HN.out; omega)
      have hkN : k ≤ N := hk
      rw [HL0.out] at hO
      clear HL0 HR HL
      obtain ⟨A0, c0, rfl⟩ := own_slice hO.out
      go_wp2_with fail
      go_loopw [6, 28] (fun v i wr => BdRel2 L R N M w v i wr) (fun _ i _ => M - (intOf i).toNat)
      case atStart => exact ⟨0, k, L, rfl, Nat.zero_le _, by omega, HK0, hO, hB, Lib.hid rfl⟩
      case round =>
        clear hO hB HK0 d1
        obtain ⟨j, m, W, rfl, hj, hm, HW, hO, hB, HI⟩ := hrel
        clear hlt hk hkN
        obtain ⟨A1, c1, rfl⟩ := own_slice hO.out
        by_cases hlt : j < M
        · have hkl : j < R.length := by rw [← HM.out]; exact hlt
          have hx := List.getElem?_eq_getElem hkl
          obtain ⟨b1, o1, rfl, hb1, x0, x1⟩ := (HR2.out.keep hB.out) j _ hx
          have hz := HLR.out _ (List.getElem_mem hkl)
          have hs := HS.out _ (List.getElem_mem hkl)
          have HX := Lib.hid hx
          have d1 : (j : Int) < (M : Int) := by omega
          have d0 : (0 : Int) ≤ (j : Int) := by omega
          clear hx
          generalize R[j] = t at *
          obtain ⟨an, av⟩ := t
          dsimp only at x0 x1 hz hs
          cases hbn : bndF an with
          | none =>
            have CB := Lib.hid (bnd_none hs hbn)
            have HE := Lib.hid (bind_skip (l := W) HX.out hbn)
            clear hbn hz hs
            go_wp2_with (go_at_call 85; refine (CB.out _).mono ?_; rintro e w1 ⟨rfl, hb⟩)
            go_roundw
            case rel => exact ⟨j + 1, m, W, by go_num, by omega, by omega, HW, Lib.hid (own_keep (hO.out.alloc _) hb), Lib.hid ((hB.out.alloc hB.out.size _).trans (hb.mono (Nat.le_trans hB.out.size (by simp)))), Lib.hid (HI.out.trans HE.out)⟩
            case measure => simp only [intOf]; omega
          | some p =>
            have CB := Lib.hid (bnd_some hs hbn)
            have hps := bnd_size hbn
            have C : Hid (CpC p av) := Lib.hid (fun W => copied_any p av W (Nat.le_trans hps hz.1) hz.2)
            cases hok : okB p av with
            | true =>
              have CA := Lib.hid (alc_any hok)
              have HE := Lib.hid (bind_go (l := W) HX.out hbn hok)
              clear hbn hz hs hps hok
              go_wp2_with (first
                | (go_at_call 85; refine (CB.out _).mono ?_; rintro e w1 ⟨rfl, hb⟩
                   have ho1 := Lib.hid ((own_keep (hO.out.alloc _) hb).alloc (.cells #[.string p, .string av] 138))
                   have hB1 := Lib.hid ((hB.out.alloc hB.out.size _).trans (hb.mono (Nat.le_trans hB.out.size (by simp))))
                   have hq1 : w1.cell? ⟨wr.heap.size, 1, none⟩ = some (.string av) := (hb.cell (p := ⟨wr.heap.size, 1, none⟩) (by simp)).trans (by simp)
                   have hB2 := Lib.hid (hB1.out.alloc hB1.out.size (.cells #[.string p, .string av] 138)))
                | (go_at_call 86; refine (CA.out _).mono ?_; rintro e w2 ⟨rfl, hb2⟩
                   have ho2 := Lib.hid (own_keep ho1.out hb2)
                   have hB3 := Lib.hid (hB2.out.trans (hb2.mono hB2.out.size))
                   have hq2 : w2.cell? ⟨w1.heap.size, 0, none⟩ = some (.string p) := (hb2.cell (p := ⟨w1.heap.size, 0, none⟩) (by simp)).trans (by simp)
                   have hq3 : w2.cell? ⟨w1.heap.size, 1, none⟩ = some (.string av) := (hb2.cell (p := ⟨w1.heap.size, 1, none⟩) (by simp)).trans (by simp))
                | (go_at_call 84; refine (C.out _).mono ?_; rintro e w3 ⟨rfl, hb3⟩
                   have ho3 := Lib.hid ((own_keep ho2.out hb3).alloc (.cells #[.string p, .string av] 138))
                   have hB4 := Lib.hid (hB3.out.trans (hb3.mono hB3.out.size))
                   have hB5 := Lib.hid (hB4.out.alloc hB4.out.size (.cells #[.string p, .string av] 138))
                   have hnew := Lib.hid (new_cells w3 #[.string p, .string av] 138))
                | (at_builtin
                   refine wpList_append_own _ rfl _ _ 78 rfl w.heap.size 138 i0 (.agg #[.string ⟨#[]⟩, .string ⟨#[]⟩]) 2 32 Tryz.underlying78 hi hz0 hz1 hz2 rfl (by decide) _ m (rwL W) rfl ho3.out ⟨w3.heap.size, 0, none⟩ 1 1 [.string p, .string av] rfl rfl hnew.out (pair_one p av) (by unfold maxLen; omega) (by omega) hB5.out.size ?_
                   intro v' w4 hown' hgrow hnil
                   obtain ⟨g', cap', rfl⟩ := own_shape hown'
                   have hO2 := Lib.hid hown'
                   have hB6 := Lib.hid (hB5.out.grown hgrow hB5.out.size (fun j hj => (World.ownsRow.lt ho3.out j hj).1))
                   clear hown' hgrow hnil))
              go_roundw
              case rel => exact ⟨j + 1, m + 1, W ++ [(p, av)], by go_num, by omega, by omega, Lib.hid (by rw [List.length_append, ← HW.out]; rfl), Lib.hid (by rw [rwL_app]; exact hO2.out), hB6, Lib.hid (HI.out.trans HE.out)⟩
              case measure => simp only [intOf]; omega
            | false =>
              have CA := Lib.hid (alc_any hok)
              have HE := Lib.hid (bind_stop (l := W) HX.out hbn hok)
              clear hbn hz hs hps hok
              go_wp2_with (first
                | (go_at_call 85; refine (CB.out _).mono ?_; rintro e w1 ⟨rfl, hb⟩
                   have hB1 := Lib.hid ((hB.out.alloc hB.out.size _).trans (hb.mono (Nat.le_trans hB.out.size (by simp))))
                   have hq1 : w1.cell? ⟨wr.heap.size, 1, none⟩ = some (.string av) := (hb.cell (p := ⟨wr.heap.size, 1, none⟩) (by simp)).trans (by simp)
                   have hB2 := Lib.hid (hB1.out.alloc hB1.out.size (.cells #[.string p, .string av] 138)))
                | (go_at_call 86; refine (CA.out _).mono ?_; rintro e w2 ⟨rfl, hb2⟩
                   have hB3 := Lib.hid (hB2.out.trans (hb2.mono hB2.out.size))))
              go_ret2
              refine ⟨fun _ => rfl, fun W' hW' => ?_, hB3.out⟩
              rw [HI.out.trans HE.out] at hW'
              cases hW'
        · have d1 : ¬ (j : Int) < (M : Int) := by omega
          have HD : Hid (R.drop j = []) := Lib.hid (List.drop_of_length_le (by rw [← HM.out]; omega))
          go_wp2_with fail
          go_ret2
          have hf : bindF L R = some W := by
            rw [HI.out, HD.out]
            rfl
          refine ⟨fun h => ?_, fun W' hW' => ⟨_, rfl, ?_⟩, hB.out⟩
          · rw [hf] at h
            cases h
          · rw [hf] at hW'
            injection hW' with hW'
            subst hW'
            unfold OwnP
            rw [← HW.out]
            exact hO.out
end Go.Proofs.YtkeilgompipfjaaGreatDoor.Nz.Sc

/- The walk of scope.Names. -/
set_option linter.unusedSimpArgs false
set_option linter.unusedVariables false
namespace Go.Proofs.YtkeilgompipfjaaGreatDoor.Nz.Sc
open Go.RowKit

def NmPost (w : World) (o : Option (List P2)) (e : Ending) (w' : World) : Prop :=
  (o = none → e = .returned (.tuple #[.slice none 0 0, .int .i64 9])) ∧ (∀ f, o = some f → ∃ v, e = .returned (.tuple #[v, .int .i64 0]) ∧ OwnP 30 w' w.heap.size v f) ∧ Below w.heap.size w w'
def NmRel (L : List P2) (ts : List ByteArray) (K : Nat) (w : World) (v i : Value) (wr : World) : Prop :=
  ∃ (k m : Nat) (f : List P2), i = .int .i64 k ∧ k ≤ K ∧ m ≤ k ∧ Hid (m = f.length) ∧ Hid (wr.ownsRow w.heap.size 30 2 v m (rwL f)) ∧ Hid (Below w.heap.size w wr) ∧ Hid (nmsF L [] ts = nmsF L f (ts.drop k))
theorem nms_stop {L f : List P2} {ts : List ByteArray} {k : Nat} {s : ByteArray} (h : ts[k]? = some s) (hn : namF L s = none) : nmsF L f (ts.drop k) = none := by
  rw [drop_cons h, nmsF, hn]
theorem nms_go {L f : List P2} {ts : List ByteArray} {k : Nat} {s : ByteArray} {n : P2} (h : ts[k]? = some s) (hn : namF L s = some n) : nmsF L f (ts.drop k) = nmsF L (f ++ [n]) (ts.drop (k + 1)) := by
  rw [drop_cons h, nmsF, hn]
def ResC (A : Option Addr) (N cap : Nat) (p l : ByteArray) (v : Value) (w : World) : Prop := ∀ W, Below w.heap.size w W → Calls Tryz.prog 88 #[.slice A N cap, .string p, .string l] W fun e w' => e = .returned v ∧ Below W.heap.size W w'
theorem nam_no {L : List P2} {s p l : ByteArray} {ok : Bool} (h : splitA s = (p, l, ok)) (ho : ok = false) : namF L s = none := by
  unfold namF
  rw [h, if_pos ho]
theorem nam_yes {L : List P2} {s p l : ByteArray} {ok : Bool} (h : splitA s = (p, l, ok)) (ho : ok = true) : namF L s = resF L p l := by
  unfold namF
  rw [h, if_neg (by simp [ho])]
set_option maxHeartbeats 4000000 in
set_option maxRecDepth 100000 in
theorem names_any (A AS : Option Addr) (N K cap capS : Nat) (L : List P2) (ts : List ByteArray) (w : World) (hN : N = L.length) (hK : K = ts.length) (hN1 : N ≤ 1000000) (hK1 : K ≤ 10000) (hlim : LimL L) (hsz : ∀ x ∈ ts, x.size ≤ 10000) (hR : RdR w A L) (hS : RdS w AS ts) :
    Calls Tryz.prog 58 #[.slice A N cap, .slice AS K capS] w (NmPost w (nmsF L [] ts)) := by
  obtain ⟨i0, hi, hz0, hz1, hz2⟩ := info_parts Tryz.info30
  have HR := Lib.hid (fun (p l : ByteArray) (hl : l.size ≤ Lim) (W : World) (hW : Below w.heap.size w W) => resolve_any A N cap p l L W hN hlim hN1 (hR.keep hW) hl)
  have HK := Lib.hid hK
  have HZ := Lib.hid hsz
  have HS := Lib.hid hS
  clear hN hK hlim hsz hR hS
  go_enter Tryz.func58, Tryz.ntmps58
  go_wp2_with fail
  go_loopw [6, 16] (fun v i wr => NmRel L ts K w v i wr) (fun _ i _ => K - (intOf i).toNat)
  case atStart => exact ⟨0, 0, [], rfl, Nat.zero_le _, Nat.le_refl _, Lib.hid rfl, Lib.hid ⟨by simp [rwL], .inl ⟨rfl, rfl⟩⟩, Lib.hid (Below.refl _ _), Lib.hid rfl⟩
  case round =>
    obtain ⟨k, m, f, rfl, hk, hm, HF, hO, hB, HI⟩ := hrel
    obtain ⟨A1, c1, rfl⟩ := own_slice hO.out
    by_cases hlt : k < K
    · have hkl : k < ts.length := by rw [← HK.out]; exact hlt
      have hx := List.getElem?_eq_getElem hkl
      obtain ⟨b1, o1, rfl, hb1, x0⟩ := (HS.out.keep hB.out) k _ hx
      have hs := HZ.out _ (List.getElem_mem hkl)
      have HX := Lib.hid hx
      have d1 : (k : Int) < (K : Int) := by omega
      have d0 : (0 : Int) ≤ (k : Int) := by omega
      clear hx
      generalize ts[k] = s at *
      have CS := Lib.hid (spl_any s hs)
      have hls : (splitA s).2.1.size ≤ Lim := Nat.le_trans (split_size s).2 (by unfold Lim; omega)
      obtain ⟨p, l, ok, hsp⟩ : ∃ p l ok, splitA s = (p, l, ok) := ⟨_, _, _, rfl⟩
      rw [hsp] at CS hls
      dsimp only at CS hls
      cases ok with
      | false =>
        have HE := Lib.hid (nms_stop (f := f) HX.out (nam_no (L := L) hsp rfl))
        clear hsp hls hs
        go_wp2_with (go_at_call 87; refine (CS.out _).mono ?_; rintro e w1 ⟨rfl, hb⟩)
        go_ret2
        refine ⟨fun _ => rfl, fun f' hf' => ?_, hB.out.trans (hb.mono hB.out.size)⟩
        rw [HI.out.trans HE.out] at hf'
        cases hf'
      | true =>
        have CR := HR.out p l hls
        have hny := nam_yes (L := L) hsp rfl
        cases hr : resF L p l with
        | none =>
          have CR' : Hid (ResC A N cap p l (.tuple #[.agg #[.string ⟨#[]⟩, .string ⟨#[]⟩], .int .i64 9]) w) := Lib.hid (fun W hW => (CR W hW).mono fun e w' ⟨h1, h2⟩ => ⟨by rw [h1, hr]; rfl, h2⟩)
          have HE := Lib.hid (nms_stop (f := f) HX.out (hny.trans hr))
          clear hsp hls hs CR hny hr
          go_wp2_with (first
            | (go_at_call 87; refine (CS.out _).mono ?_; rintro e w1 ⟨rfl, hb⟩; have hB1 := Lib.hid (hB.out.trans (hb.mono hB.out.size)))
            | (go_at_call 88; refine (CR'.out _ hB1.out).mono ?_; rintro e w2 ⟨rfl, hb2⟩; have hB2 := Lib.hid (hB1.out.trans (hb2.mono hB1.out.size))))
          go_ret2
          refine ⟨fun _ => rfl, fun f' hf' => ?_, hB2.out.alloc hB2.out.size _⟩
          rw [HI.out.trans HE.out] at hf'
          cases hf'
        | some x =>
          obtain ⟨xa, xb⟩ := x
          have CR' : Hid (ResC A N cap p l (.tuple #[.agg #[.string xa, .string xb], .int .i64 0]) w) := Lib.hid (fun W hW => (CR W hW).mono fun e w' ⟨h1, h2⟩ => ⟨by rw [h1, hr]; rfl, h2⟩)
          have HE := Lib.hid (nms_go (f := f) HX.out (hny.trans hr))
          clear hsp hls hs CR hny hr
          go_wp2_with (first
            | (go_at_call 87; refine (CS.out _).mono ?_; rintro e w1 ⟨rfl, hb⟩; have hB1 := Lib.hid (hB.out.trans (hb.mono hB.out.size)); have ho1 := Lib.hid (own_keep hO.out hb))
            | (go_at_call 88; refine (CR'.out _ hB1.out).mono ?_; rintro e w2 ⟨rfl, hb2⟩
               have hB2 := Lib.hid ((hB1.out.trans (hb2.mono hB1.out.size)).alloc (Nat.le_trans hB1.out.size hb2.size) (.cells #[.string xa, .string xb] 30))
               have hB3 := Lib.hid (hB2.out.alloc hB2.out.size (.cells #[.string xa, .string xb] 30))
               have ho2 := Lib.hid (((own_keep ho1.out hb2).alloc (.cells #[.string xa, .string xb] 30)).alloc (.cells #[.string xa, .string xb] 30))
               have hnew := Lib.hid (new_cells (w2.alloc (.cells #[.string xa, .string xb] 30)) #[.string xa, .string xb] 30)
               rw [World.size_alloc] at hnew)
            | (at_builtin
               refine wpList_append_own _ rfl _ _ 114 rfl w.heap.size 30 i0 (.agg #[.string ⟨#[]⟩, .string ⟨#[]⟩]) 2 32 Tryz.underlying114 hi hz0 hz1 hz2 rfl (by decide) _ m (rwL f) rfl ho2.out ⟨w2.heap.size + 1, 0, none⟩ 1 1 [.string xa, .string xb] rfl rfl hnew.out (pair_one xa xb) (by unfold maxLen; omega) (by omega) hB3.out.size ?_
               intro v' w4 hown' hgrow hnil
               obtain ⟨g', cap', rfl⟩ := own_shape hown'
               have hO2 := Lib.hid hown'
               have hB6 := Lib.hid (hB3.out.grown hgrow hB3.out.size (fun j hj => (World.ownsRow.lt ho2.out j hj).1))
               clear hown' hgrow hnil))
          go_roundw
          case rel => exact ⟨k + 1, m + 1, f ++ [(xa, xb)], by go_num, by omega, by omega, Lib.hid (by rw [List.length_append, ← HF.out]; rfl), Lib.hid (by rw [rwL_app]; exact hO2.out), hB6, Lib.hid (HI.out.trans HE.out)⟩
          case measure => simp only [intOf]; omega
    · have d1 : ¬ (k : Int) < (K : Int) := by omega
      have HD : Hid (ts.drop k = []) := Lib.hid (List.drop_of_length_le (by rw [← HK.out]; omega))
      go_wp2_with fail
      go_ret2
      have hf : nmsF L [] ts = some f := by
        rw [HI.out, HD.out]
        rfl
      refine ⟨fun h => ?_, fun f' hf' => ⟨_, rfl, ?_⟩, hB.out⟩
      · rw [hf] at h
        cases h
      · rw [hf] at hf'
        injection hf' with hf'
        subst hf'
        unfold OwnP
        rw [← HF.out]
        exact hO.out
end Go.Proofs.YtkeilgompipfjaaGreatDoor.Nz.Sc

/- The map of names that were met: look-up, entry, store. -/
set_option linter.unusedSimpArgs false
set_option linter.unusedVariables false
namespace Go.Proofs.YtkeilgompipfjaaGreatDoor.Nz.Sc
open Go.RowKit Go.ChangeMaps

theorem Tryz.laidOut : laidOutB Tryz.prog = true := by kernel_rfl
theorem Tryz.row30 : (30 : TypeId) < Tryz.prog.types.size := of_decide_eq_true (by kernel_rfl)
theorem Tryz.wide29 : (match Tryz.prog.underlying 30 with | some (.array _ _) | some (.struct _) => true | _ => false) = true := by rw [Tryz.underlying30]
set_option maxRecDepth 100000 in
theorem law29 : WideMaps.KeyLaw Tryz.prog 30 := deep_law_laid Tryz.laidOut (m := 2) (by omega) Tryz.row30 (by kernel_rfl) Tryz.wide29
theorem Tryz.cells30 : Tryz.prog.cellsOf 30 = 2 := by kernel_rfl
theorem Tryz.cells9 : Tryz.prog.cellsOf 9 = 1 := by kernel_rfl
theorem Tryz.keyType30 : Tryz.prog.keyType 30 = true := by kernel_rfl
theorem Tryz.size110 : Tryz.prog.types.size + 1 = 272 + 1 + 1 := by kernel_rfl
def kv (n : P2) : Value := .agg #[.string n.1, .string n.2]
theorem lits_str (d : Nat) (s : ByteArray) (h : s.size ≤ maxLen) : Tryz.prog.keyLits (d + 1) 9 [.string s] = some [.string s.data.toList] := by
  unfold Program.keyLits
  rw [Tryz.underlying9]
  simp only [h, if_true]
theorem lits_struct (P : Program) (d : Nat) (t : TypeId) (fs : Array Field) (cs : List Value) (h : P.underlying t = some (.struct fs)) (hl : cs.length = P.cellsOf t) (hn : fs.all (·.name != "_") = true) :
    P.keyLits (d + 1) t cs = (fs.toList.mapM fun f => P.keyLits d f.type ((cs.drop f.offset).take (P.cellsOf f.type))).map List.flatten := by
  conv => lhs; unfold Program.keyLits
  rw [h]
  simp only [hl, hn, and_self, if_true]
theorem lits_name (d : Nat) (a b : ByteArray) (g1 : a.size ≤ maxLen) (g2 : b.size ≤ maxLen) : Tryz.prog.keyLits (d + 1 + 1) 30 [.string a, .string b] = some [.string a.data.toList, .string b.data.toList] := by
  have e1 := lits_str d a g1
  have e2 := lits_str d b g2
  rw [lits_struct Tryz.prog (d + 1) 30 _ _ Tryz.underlying30 (by rw [Tryz.cells30]; rfl) (by simp)]
  generalize hq : Tryz.prog.keyLits (d + 1) = q at *
  simp [Tryz.cells30, Tryz.cells9, e1, e2]
theorem kv_key (n : P2) (h1 : n.1.size ≤ Lim) (h2 : n.2.size ≤ Lim) : ∃ kl, keyOf Tryz.prog 30 (kv n) = some kl := by
  have g1 : n.1.size ≤ maxLen := Nat.le_trans h1 (by unfold Lim maxLen; omega)
  have g2 : n.2.size ≤ maxLen := Nat.le_trans h2 (by unfold Lim maxLen; omega)
  have hf : (kv n).formed Tryz.prog 30 = true := by simp [Value.formed, kv, Tryz.underlying30, Tryz.cells30]
  obtain ⟨d, hd⟩ : ∃ d, Tryz.prog.types.size + 1 = d + 1 + 1 := ⟨_, Tryz.size110⟩
  have hl := lits_name d n.1 n.2 g1 g2
  rw [← hd] at hl
  have hc : (kv n).cells.toList = [.string n.1, .string n.2] := rfl
  refine ⟨.string (keyBytes [.string n.1.data.toList, .string n.2.data.toList]), ?_⟩
  unfold keyOf
  rw [Tryz.underlying30]
  show (if (Tryz.prog.keyType 30 && (kv n).formed Tryz.prog 30) = true then _ else _) = _
  rw [Tryz.keyType30, hf, Bool.and_self, if_pos rfl, hc, hl]
  rfl
theorem kv_inj {a b : P2} (h : kv a = kv b) : a = b := by
  unfold kv at h
  injection h with h
  have := congrArg Array.toList h
  simp at this
  exact Prod.ext this.1 this.2
/-- The map at block b: these names, each at 1. -/
def SeenM (w : World) (b : Nat) (l : List P2) : Prop :=
  (∀ n ∈ l, n.1.size ≤ Lim ∧ n.2.size ≤ Lim) ∧ ∃ es clock, w.heap[b]? = some (.map es clock) ∧ es.toList.map (·.key) = l.map kv ∧ (∀ e ∈ es.toList, e.val = .int .i64 1) ∧ (∀ e ∈ es.toList, e.born < clock)
theorem seen_new (w : World) : SeenM (w.alloc (.map #[] 0)) w.heap.size [] :=
  ⟨fun n hn => by simp at hn, #[], 0, heap_alloc_new w _, rfl, fun e he => by simp at he, fun e he => by simp at he⟩
theorem SeenM.lt {w : World} {b : Nat} {l : List P2} (h : SeenM w b l) : b < w.heap.size := by
  obtain ⟨_, es, clock, h, _⟩ := h
  exact (Array.getElem?_eq_some_iff.1 h).1
theorem SeenM.keep {w w' : World} {b : Nat} {l : List P2} (h : SeenM w b l) (hb : Below w.heap.size w w') : SeenM w' b l := by
  have hlt := h.lt
  obtain ⟨h1, es, clock, h2, h3⟩ := h
  exact ⟨h1, es, clock, (hb.block b hlt).trans h2, h3⟩
theorem SeenM.keepG {w w' : World} {b : Nat} {l : List P2} {row : Option Nat} (h : SeenM w b l) (hb : w.grownBy w' row) (hne : some b ≠ row) : SeenM w' b l := by
  have hlt := h.lt
  obtain ⟨h1, es, clock, h2, h3⟩ := h
  exact ⟨h1, es, clock, (hb.block b hlt hne).trans h2, h3⟩
theorem SeenM.ne {w : World} {b : Nat} {l : List P2} (h : SeenM w b l) {B : Nat} {e : TypeId} {z n : Nat} {v : Value} {xs : List Value} (ho : w.ownsRow B e z v n xs) : some b ≠ v.ownBlock := by
  obtain ⟨_, es, clock, h2, _⟩ := h
  rcases ho.2 with ⟨rfl, _⟩ | ⟨g, cap, cur, rfl, _, hg, _⟩
  · simp [Value.ownBlock]
  · intro hh
    simp only [Value.ownBlock, Option.some.injEq] at hh
    subst hh
    rw [hg] at h2
    cases h2
theorem grown_setBlock (w : World) (b : Nat) (o : Obj) : w.grownBy (setBlock w b o) (some b) :=
  ⟨rfl, rfl, rfl, by simp [setBlock], fun k hk hne => by
    have : k ≠ b := fun e => hne (by rw [e])
    simp [setBlock, Array.getElem?_setIfInBounds, Ne.symm this]⟩
theorem zero3 (w : World) : (zeroValue 3).run Tryz.prog w = .ok (.int .i64 0) w := by kernel_rfl
theorem key_mem {es : Array MapEntry} {l : List P2} (h : es.toList.map (·.key) = l.map kv) {n : P2} : (∃ e ∈ es.toList, e.key = kv n) ↔ n ∈ l := by
  constructor
  · rintro ⟨e, he, hk⟩
    have : kv n ∈ l.map kv := by rw [← h, ← hk]; exact List.mem_map_of_mem he
    obtain ⟨m, hm, hh⟩ := List.mem_map.1 this
    rw [← kv_inj hh]
    exact hm
  · intro hn
    have : kv n ∈ es.toList.map (·.key) := by rw [h]; exact List.mem_map_of_mem hn
    obtain ⟨e, he, hh⟩ := List.mem_map.1 this
    exact ⟨e, he, hh⟩
theorem keys_of {es : Array MapEntry} {l : List P2} (h : es.toList.map (·.key) = l.map kv) (hl : ∀ n ∈ l, n.1.size ≤ Lim ∧ n.2.size ≤ Lim) : ∀ e ∈ es.toList, ∃ kl, keyOf Tryz.prog 30 e.key = some kl := fun e he => by
  have : e.key ∈ l.map kv := by rw [← h]; exact List.mem_map_of_mem he
  obtain ⟨m, hm, hh⟩ := List.mem_map.1 this
  rw [← hh]
  exact kv_key m (hl m hm).1 (hl m hm).2
theorem seen_yes {w : World} {b : Nat} {l : List P2} (h : SeenM w b l) {n : P2} (hn : n ∈ l) : (Instr.lookup 88 (.map (some b)) (.agg #[.string n.1, .string n.2]) false).run Tryz.prog w = .ok (.int .i64 1) w := by
  obtain ⟨hl, es, clock, hb, hk, hv, _⟩ := h
  obtain ⟨kl, hkl⟩ := kv_key n (hl n hn).1 (hl n hn).2
  show (Instr.lookup 88 (.map (some b)) (kv n) false).run Tryz.prog w = _
  rcases law29.find w hkl es.toList (keys_of hk hl) with ⟨_, h2⟩ | ⟨j, e0, h1, h2, h3⟩
  · obtain ⟨e, he, hh⟩ := (key_mem hk).2 hn
    exact absurd hh (h2 e he)
  · have := hv e0 (List.mem_of_getElem? h2)
    simp [Instr.lookup, run_underlying Tryz.underlying88, MapKept.run_getObj_map hb, law29.check w _ hkl, h1, this, Result.andThen]
theorem seen_no {w : World} {b : Nat} {l : List P2} (h : SeenM w b l) {n : P2} (hn : ¬ n ∈ l) (z1 : n.1.size ≤ Lim) (z2 : n.2.size ≤ Lim) : (Instr.lookup 88 (.map (some b)) (.agg #[.string n.1, .string n.2]) false).run Tryz.prog w = .ok (.int .i64 0) w := by
  obtain ⟨hl, es, clock, hb, hk, hv, _⟩ := h
  obtain ⟨kl, hkl⟩ := kv_key n z1 z2
  show (Instr.lookup 88 (.map (some b)) (kv n) false).run Tryz.prog w = _
  rcases law29.find w hkl es.toList (keys_of hk hl) with ⟨h1, h2⟩ | ⟨j, e0, h1, h2, h3⟩
  · simp [Instr.lookup, run_underlying Tryz.underlying88, MapKept.run_getObj_map hb, law29.check w _ hkl, h1, zero3, Result.andThen]
  · exact absurd ((key_mem hk).1 ⟨e0, List.mem_of_getElem? h2, h3⟩) hn
theorem seen_put {w : World} {b : Nat} {l : List P2} (h : SeenM w b l) {n : P2} (hn : ¬ n ∈ l) (z1 : n.1.size ≤ Lim) (z2 : n.2.size ≤ Lim) :
    ∃ (st : Nat) (W1 W2 : World), (Instr.mapEntry 88 (.map (some b)) (.agg #[.string n.1, .string n.2])).run Tryz.prog w = .ok (.tuple #[.int .i64 0, .int .i64 (st : Int)]) W1 ∧
      (Instr.lookup 88 (.map (some b)) (.agg #[.string n.1, .string n.2]) false).run Tryz.prog W1 = .ok (.int .i64 0) W1 ∧
      (Instr.entryStore 88 (.map (some b)) (.int .i64 (st : Int)) (.int .i64 1)).run Tryz.prog W1 = .ok () W2 ∧ SeenM W2 b (l ++ [n]) ∧ w.grownBy W1 (some b) ∧ w.grownBy W2 (some b) := by
  obtain ⟨hl, es, clock, hb, hk, hv, hbo⟩ := h
  obtain ⟨kl, hkl⟩ := kv_key n z1 z2
  have hn2 : ∀ e ∈ es.toList, e.key ≠ kv n := fun e he hh => hn ((key_mem hk).1 ⟨e, he, hh⟩)
  have h1 : (Instr.findKey 30 (kv n) es.toList).run Tryz.prog w = .ok none w := by
    rcases law29.find w hkl es.toList (keys_of hk hl) with ⟨h1, _⟩ | ⟨j, e0, _, h2, h3⟩
    · exact h1
    · exact absurd h3 (hn2 e0 (List.mem_of_getElem? h2))
  have hb1 : (setBlock w b (.map (es.push ⟨kv n, .int .i64 0, clock⟩) (clock + 1))).heap[b]? = some (.map (es.push ⟨kv n, .int .i64 0, clock⟩) (clock + 1)) := heap_setBlock_same hb _
  have hk1 : (es.push ⟨kv n, .int .i64 0, clock⟩).toList.map (·.key) = (l ++ [n]).map kv := by simp [hk]
  have hl1 : ∀ m ∈ l ++ [n], m.1.size ≤ Lim ∧ m.2.size ≤ Lim := fun m hm => by
    rcases List.mem_append.1 hm with hm | hm
    · exact hl m hm
    · rw [List.mem_singleton] at hm
      subst hm
      exact ⟨z1, z2⟩
  refine ⟨clock, setBlock w b (.map (es.push ⟨kv n, .int .i64 0, clock⟩) (clock + 1)), setBlock (setBlock w b (.map (es.push ⟨kv n, .int .i64 0, clock⟩) (clock + 1))) b (.map (es.push ⟨kv n, .int .i64 1, clock⟩) (clock + 1)), ?_, ?_, ?_, ⟨hl1, es.push ⟨kv n, .int .i64 1, clock⟩, clock + 1, heap_setBlock_same hb1 _, by simp [hk], ?_, ?_⟩, grown_setBlock _ _ _, ?_⟩
  · show (Instr.mapEntry 88 (.map (some b)) (kv n)).run Tryz.prog w = _
    simp [Instr.mapEntry, run_underlying Tryz.underlying88, MapKept.run_getObj_map hb, law29.check w false hkl, h1, zero3, MapKept.run_setObj_map _ hb, Result.andThen, setBlock, goInt]
  · show (Instr.lookup 88 (.map (some b)) (kv n) false).run Tryz.prog _ = _
    rcases law29.find (setBlock w b (.map (es.push ⟨kv n, .int .i64 0, clock⟩) (clock + 1))) hkl (es.push ⟨kv n, .int .i64 0, clock⟩).toList (keys_of hk1 hl1) with ⟨_, h2⟩ | ⟨j, e0, g1, g2, g3⟩
    · exact absurd rfl (h2 ⟨kv n, .int .i64 0, clock⟩ (by simp))
    · have : e0.val = .int .i64 0 := by
        have hm := List.mem_of_getElem? g2
        rw [Array.toList_push, List.mem_append, List.mem_singleton] at hm
        rcases hm with hm | hm
        · exact absurd g3 (hn2 e0 hm)
        · rw [hm]
      rw [this, Array.toList_push] at g1
      simp [Instr.lookup, run_underlying Tryz.underlying88, MapKept.run_getObj_map hb1, law29.check _ _ hkl, g1, Result.andThen]
  · have hidx : (es.push ⟨kv n, .int .i64 0, clock⟩).findIdx? (fun e => ((e.born : Nat) : Int) == ((clock : Nat) : Int)) = some es.size := by
      rw [WideElems.findIdx_arr, Array.toList_push, List.findIdx?_append]
      have e1 : es.toList.findIdx? (fun e => ((e.born : Nat) : Int) == ((clock : Nat) : Int)) = none := by
        rw [List.findIdx?_eq_none_iff]
        intro e he
        have := hbo e he
        rw [beq_eq_false_iff_ne]
        omega
      rw [e1]
      simp
    have hmod : (es.push ⟨kv n, .int .i64 0, clock⟩).modify es.size (fun e => { e with val := .int .i64 1 }) = es.push ⟨kv n, .int .i64 1, clock⟩ := by
      apply Array.ext'
      rw [Array.toList_modify, Array.toList_push, Array.toList_push, ← Array.length_toList, WideElems.modify_last]
    simp [Instr.entryStore, MapKept.run_getObj_map hb1, asInt, asIntOf, hidx, hmod, MapKept.run_setObj_map _ hb1, Result.andThen]
    rfl
  · intro e he
    rw [Array.toList_push, List.mem_append, List.mem_singleton] at he
    rcases he with he | he
    · exact hv e he
    · rw [he]
  · intro e he
    rw [Array.toList_push, List.mem_append, List.mem_singleton] at he
    rcases he with he | he
    · have := hbo e he
      omega
    · rw [he]
      exact Nat.lt_succ_self _
  · have g1 := grown_setBlock w b (.map (es.push ⟨kv n, .int .i64 0, clock⟩) (clock + 1))
    have g2 := grown_setBlock (setBlock w b (.map (es.push ⟨kv n, .int .i64 0, clock⟩) (clock + 1))) b (.map (es.push ⟨kv n, .int .i64 1, clock⟩) (clock + 1))
    exact ⟨g2.os.trans g1.os, g2.tape.trans g1.tape, g2.output.trans g1.output, Nat.le_trans g1.size g2.size, fun i hi hne => (g2.block i (Nat.lt_of_lt_of_le hi g1.size) hne).trans (g1.block i hi hne)⟩
end Go.Proofs.YtkeilgompipfjaaGreatDoor.Nz.Sc
