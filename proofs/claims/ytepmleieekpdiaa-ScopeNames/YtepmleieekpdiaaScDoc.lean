/-
  The walks of the document's Find, Resolve, binds, Same, Few and Right, and of few.
-/
import Derived.Test.YtepmleieekpdiaaScRes
import Derived.Test.YtepmleieekpdiaaRsplit
import Derived.Deep.QuietTactic
import Derived.BigQuiet
set_option linter.unusedSimpArgs false
set_option linter.unusedVariables false
namespace Go.Proofs.Ytepmleieekpdiaa
open Go.RowKit

def FdRel (L : List P2) (N : Nat) (p : ByteArray) (s ok i : Value) : Prop := ∃ (k : Nat) (q : ByteArray) (b : Bool), i = .int .i64 k ∧ k ≤ N ∧ s = .string q ∧ ok = .bool b ∧ Hid ((q, b) = fndF (L.take k) p)
set_option maxHeartbeats 2000000 in
set_option maxRecDepth 100000 in
theorem rfind_any (A : Option Addr) (N cap : Nat) (p : ByteArray) (L : List P2) (w : World) (hN : N = L.length) (hreach : N ≤ 1000000) (hR : RdR w A L) :
    Calls Try.prog 13 #[.slice A N cap, .string p] w fun e w' => e = .returned (.tuple #[.string (fndF L p).1, .bool (fndF L p).2]) ∧ Below w.heap.size w w' := by
  have HN := Lib.hid hN
  have HR := Lib.hid hR
  have H0 : Hid ((em, p.toList.isEmpty) = fndF (L.take 0) p) := Lib.hid (by rw [← eqb_em]; rfl)
  clear hN hR
  go_enter Try.func13, Try.ntmps13
  go_wp2_with fail
  go_loop [6, 7, 8] (fun s ok i => FdRel L N p s ok i) (fun _ _ i => N - (intOf i).toNat)
  case atStart => exact ⟨0, _, _, rfl, Nat.zero_le _, rfl, rfl, H0⟩
  case round =>
    obtain ⟨k, q, b, rfl, hk, rfl, rfl, HI⟩ := hrel
    clear H0
    by_cases hlt : k < N
    · have hkl : k < L.length := by rw [← HN.out]; exact hlt
      have hx := List.getElem?_eq_getElem hkl
      obtain ⟨b1, o1, rfl, hb1, x0, x1⟩ := HR.out k _ hx
      have HS := Lib.hid (fnd_step L p k _ hx)
      have d1 : (k : Int) < (N : Int) := by omega
      have d0 : (0 : Int) ≤ (k : Int) := by omega
      clear hx
      generalize L[k] = t at *
      obtain ⟨tp, ts⟩ := t
      dsimp only at x0 x1
      cases he : eqb tp p with
      | true =>
        have hq : (tp.toList == p.toList) = true := he
        have HE : Hid ((ts, true) = fndF (L.take (k + 1)) p) := Lib.hid (by rw [HS.out, if_pos he])
        clear he HS
        go_wp2_with fail
        go_round
        case rel => exact ⟨k + 1, ts, true, by go_num, by omega, rfl, rfl, HE⟩
        case measure => simp only [intOf]; omega
      | false =>
        have hq : (tp.toList == p.toList) = false := he
        have HE : Hid ((q, b) = fndF (L.take (k + 1)) p) := Lib.hid (by rw [HS.out, if_neg (by rw [he]; simp)]; exact HI.out)
        clear he HS
        go_wp2_with fail
        go_round
        case rel => exact ⟨k + 1, q, b, by go_num, by omega, rfl, rfl, HE⟩
        case measure => simp only [intOf]; omega
    · have d1 : ¬ (k : Int) < (N : Int) := by omega
      have HE : Hid ((q, b) = fndF L p) := Lib.hid (by rw [HI.out, List.take_of_length_le (by rw [← HN.out]; omega)])
      go_wp2_with fail
      go_ret2
      rw [← HE.out]
      exact ⟨rfl, Below.refl _ _⟩
/-- The document's Split, at letters. -/
def RspC (s p l : ByteArray) (ok : Bool) : Prop := ∀ w, Calls Try.prog 29 #[.string s] w fun e w' => e = .returned (.tuple #[.string p, .string l, .bool ok]) ∧ Below w.heap.size w w'
theorem rsp_any (s : ByteArray) (hs : s.size ≤ 1000) : RspC s (splitA s).1 (splitA s).2.1 (splitA s).2.2 := fun w => rsplit_any s hs w
theorem Try.results17 : Try.f17.results = #[ResultVar.cell 6 29, ResultVar.tmp 7] := by kernel_rfl
/-- What Resolve leaves: whether there is a name, and it. -/
def RvPost (w : World) (o : Option P2) (e : Ending) (w' : World) : Prop := ∃ x : P2, e = .returned (.tuple #[.agg #[.string x.1, .string x.2], .bool o.isSome]) ∧ (∀ y, o = some y → x = y) ∧ Below w.heap.size w w'
set_option maxHeartbeats 2000000 in
set_option maxRecDepth 100000 in
theorem rresolve_w (A : Option Addr) (N cap : Nat) (s p l sp : ByteArray) (ok b1 b2 el fo : Bool) (w : World) (CS : Hid (RspC s p l ok))
    (CF : Hid (∀ W, Below w.heap.size w W → Calls Try.prog 13 #[.slice A N cap, .string p] W fun e w' => e = .returned (.tuple #[.string sp, .bool fo]) ∧ Below W.heap.size W w'))
    (h1 : (p.toList == [120, 109, 108, 110, 115]) = b1) (h2 : p.toList.isEmpty = b2) (o : Option P2) (ho : o = if ok = false ∨ b1 = true then none else if b2 = true ∧ el = false then some (em, l) else if fo = true then some (sp, l) else none) :
    Calls Try.prog 17 #[.slice A N cap, .string s, .bool el] w (RvPost w o) := by
  have HB := Lib.hid ((Below.refl w.heap.size w).alloc (Nat.le_refl _) (.cells #[.string ⟨#[]⟩, .string ⟨#[]⟩] 29))
  have HK := Lib.hid (nblk w 29 #[.string ⟨#[]⟩, .string ⟨#[]⟩])
  have key : ∀ (x : P2) (bb : Bool) (w' : World), bb = o.isSome → (∀ y, o = some y → x = y) → Below w.heap.size w w' → RvPost w o (.returned (.tuple #[.agg #[.string x.1, .string x.2], .bool bb])) w' := fun x bb w' e1 e2 e3 => ⟨x, by rw [e1], e2, e3⟩
  have HKey := Lib.hid key
  have HO := Lib.hid ho
  clear key ho
  cases ok
  · have hz : o = none := by rw [HO.out]; exact if_pos (Or.inl rfl)
    go_enter Try.func17, Try.ntmps17
    go_wp2_with (go_at_call 29; refine (CS.out _).mono ?_; rintro e w1 ⟨rfl, hb⟩; have hk := Lib.hid ((hb.block w.heap.size (by simp)).trans HK.out); have z0 := cells_of hk.out 0 (u := .string ⟨#[]⟩) rfl; have z1 := cells_of hk.out 1 (u := .string ⟨#[]⟩) rfl; have f0 := froz_of hk.out 0; have f1 := froz_of hk.out 1)
    have c0 := set2_0 (.string ⟨#[]⟩) (.string ⟨#[]⟩) z0
    have c1 := set2_1 (.string ⟨#[]⟩) (.string ⟨#[]⟩) z1
    exact bodyPost_ret (v := .tuple #[.agg #[.string ⟨#[]⟩, .string ⟨#[]⟩], .bool false]) (by simp [results, Try.results17, go_sem, c0, c1]) rfl (HKey.out (em, em) false _ (by rw [hz]; rfl) (fun y hy => by rw [hz] at hy; cases hy) (((HB.out.trans (hb.mono (by simp))).setCell (p := ⟨w.heap.size, 0, none⟩) (Nat.le_refl _) _).setCell (p := ⟨w.heap.size, 1, none⟩) (Nat.le_refl _) _))
  · cases b1
    · cases b2
      · have hz : o = if fo = true then some (sp, l) else none := by rw [HO.out]; simp
        have HZ := Lib.hid hz
        clear hz HO
        go_enter Try.func17, Try.ntmps17
        go_wp2_with (first
          | (go_at_call 29; refine (CS.out _).mono ?_; rintro e w1 ⟨rfl, hb⟩; have hk := Lib.hid ((hb.block w.heap.size (by simp)).trans HK.out); have B1 := Lib.hid (HB.out.trans (hb.mono (by simp))))
          | (go_at_call 13; refine (CF.out _ B1.out).mono ?_; rintro e w2 ⟨rfl, hb2⟩; have hk2 := Lib.hid ((hb2.block w.heap.size (Nat.lt_of_lt_of_le (by simp) hb.size)).trans hk.out); have y0 := cells_of hk2.out 0 (u := .string ⟨#[]⟩) rfl; have y1 := cells_of hk2.out 1 (u := .string ⟨#[]⟩) rfl; have g0 := froz_of hk2.out 0; have g1 := froz_of hk2.out 1)
          | fail)
        have c0 := set2_0 (.string sp) (.string l) y0
        have c1 := set2_1 (.string sp) (.string l) y1
        exact bodyPost_ret (v := .tuple #[.agg #[.string sp, .string l], .bool fo]) (by simp [results, Try.results17, go_sem, c0, c1]) rfl (HKey.out (sp, l) fo _ (by rw [HZ.out]; cases fo <;> rfl) (fun y hy => by rw [HZ.out] at hy; cases fo <;> simp at hy; exact hy) (((B1.out.trans (hb2.mono B1.out.size)).setCell (p := ⟨w.heap.size, 0, none⟩) (Nat.le_refl _) _).setCell (p := ⟨w.heap.size, 1, none⟩) (Nat.le_refl _) _))
      · cases el
        · have hz : o = some (em, l) := by rw [HO.out]; simp
          have HZ := Lib.hid hz
          clear hz HO
          go_enter Try.func17, Try.ntmps17
          go_wp2_with (go_at_call 29; refine (CS.out _).mono ?_; rintro e w1 ⟨rfl, hb⟩; have hk := Lib.hid ((hb.block w.heap.size (by simp)).trans HK.out); have z0 := cells_of hk.out 0 (u := .string ⟨#[]⟩) rfl; have z1 := cells_of hk.out 1 (u := .string ⟨#[]⟩) rfl; have f0 := froz_of hk.out 0; have f1 := froz_of hk.out 1)
          have c0 := set2_0 (.string ⟨#[]⟩) (.string l) z0
          have c1 := set2_1 (.string ⟨#[]⟩) (.string l) z1
          exact bodyPost_ret (v := .tuple #[.agg #[.string ⟨#[]⟩, .string l], .bool true]) (by simp [results, Try.results17, go_sem, c0, c1]) rfl (HKey.out (em, l) true _ (by rw [HZ.out]; rfl) (fun y hy => by rw [HZ.out] at hy; injection hy) (((HB.out.trans (hb.mono (by simp))).setCell (p := ⟨w.heap.size, 0, none⟩) (Nat.le_refl _) _).setCell (p := ⟨w.heap.size, 1, none⟩) (Nat.le_refl _) _))
        · have hz : o = if fo = true then some (sp, l) else none := by rw [HO.out]; simp
          have HZ := Lib.hid hz
          clear hz HO
          go_enter Try.func17, Try.ntmps17
          go_wp2_with (first
            | (go_at_call 29; refine (CS.out _).mono ?_; rintro e w1 ⟨rfl, hb⟩; have hk := Lib.hid ((hb.block w.heap.size (by simp)).trans HK.out); have B1 := Lib.hid (HB.out.trans (hb.mono (by simp))))
            | (go_at_call 13; refine (CF.out _ B1.out).mono ?_; rintro e w2 ⟨rfl, hb2⟩; have hk2 := Lib.hid ((hb2.block w.heap.size (Nat.lt_of_lt_of_le (by simp) hb.size)).trans hk.out); have y0 := cells_of hk2.out 0 (u := .string ⟨#[]⟩) rfl; have y1 := cells_of hk2.out 1 (u := .string ⟨#[]⟩) rfl; have g0 := froz_of hk2.out 0; have g1 := froz_of hk2.out 1)
            | fail)
          have c0 := set2_0 (.string sp) (.string l) y0
          have c1 := set2_1 (.string sp) (.string l) y1
          exact bodyPost_ret (v := .tuple #[.agg #[.string sp, .string l], .bool fo]) (by simp [results, Try.results17, go_sem, c0, c1]) rfl (HKey.out (sp, l) fo _ (by rw [HZ.out]; cases fo <;> rfl) (fun y hy => by rw [HZ.out] at hy; cases fo <;> simp at hy; exact hy) (((B1.out.trans (hb2.mono B1.out.size)).setCell (p := ⟨w.heap.size, 0, none⟩) (Nat.le_refl _) _).setCell (p := ⟨w.heap.size, 1, none⟩) (Nat.le_refl _) _))
    · have hz : o = none := by rw [HO.out]; exact if_pos (Or.inr rfl)
      go_enter Try.func17, Try.ntmps17
      go_wp2_with (go_at_call 29; refine (CS.out _).mono ?_; rintro e w1 ⟨rfl, hb⟩; have hk := Lib.hid ((hb.block w.heap.size (by simp)).trans HK.out); have z0 := cells_of hk.out 0 (u := .string ⟨#[]⟩) rfl; have z1 := cells_of hk.out 1 (u := .string ⟨#[]⟩) rfl; have f0 := froz_of hk.out 0; have f1 := froz_of hk.out 1)
      have c0 := set2_0 (.string ⟨#[]⟩) (.string ⟨#[]⟩) z0
      have c1 := set2_1 (.string ⟨#[]⟩) (.string ⟨#[]⟩) z1
      exact bodyPost_ret (v := .tuple #[.agg #[.string ⟨#[]⟩, .string ⟨#[]⟩], .bool false]) (by simp [results, Try.results17, go_sem, c0, c1]) rfl (HKey.out (em, em) false _ (by rw [hz]; rfl) (fun y hy => by rw [hz] at hy; cases hy) (((HB.out.trans (hb.mono (by simp))).setCell (p := ⟨w.heap.size, 0, none⟩) (Nat.le_refl _) _).setCell (p := ⟨w.heap.size, 1, none⟩) (Nat.le_refl _) _))
theorem rresolve_any (A : Option Addr) (N cap : Nat) (s : ByteArray) (el : Bool) (L : List P2) (w : World) (hN : N = L.length) (hreach : N ≤ 1000000) (hR : RdR w A L) (hs : s.size ≤ 1000) :
    Calls Try.prog 17 #[.slice A N cap, .string s, .bool el] w (RvPost w (rsvF L s el)) :=
  rresolve_w A N cap s _ _ _ _ _ _ el _ w (Lib.hid (rsp_any s hs)) (Lib.hid (fun W hW => rfind_any A N cap _ L W hN hreach (hR.keep hW))) (eqb_xn rfl) (eqb_emp rfl) _ rfl
def BdsC (s v : ByteArray) (p : ByteArray) (ok : Bool) : Prop := ∀ w, Calls Try.prog 24 #[.agg #[.string s, .string v]] w fun e w' => e = .returned (.tuple #[.string p, .bool ok]) ∧ Below w.heap.size w w'
set_option maxHeartbeats 2000000 in
set_option maxRecDepth 100000 in
theorem binds_w (s v : ByteArray) (b1 b2 b3 : Bool) (hs : s.size ≤ 1000) (h1 : (s.toList == [120, 109, 108, 110, 115]) = b1) (h2 : decide (6 < s.size) = b2) (h3 : ((s.extract 0 6).toList == [120, 109, 108, 110, 115, 58]) = b3) (w : World) :
    Calls Try.prog 24 #[.agg #[.string s, .string v]] w fun e w' => e = .returned (bndV (if b1 = true then some em else if b2 = true ∧ b3 = true then some (s.extract 6 s.size) else none)) ∧ Below w.heap.size w w' := by
  have HB := Lib.hid ((Below.refl w.heap.size w).alloc (Nat.le_refl _) (.cells #[.string s, .string v] 57))
  have h2' : decide ((6 : Int) < (s.size : Int)) = b2 := by rw [← h2]; simp; omega
  cases b1
  · cases b2
    · go_enter Try.func24, Try.ntmps24
      go_wp2_with fail
      go_ret2
      exact ⟨rfl, HB.out⟩
    · have q1 : (6 : Int) ≤ (s.size : Int) := by have := of_decide_eq_true h2; omega
      have q2 : 6 ≤ s.size := by have := of_decide_eq_true h2; omega
      cases b3
      · go_enter Try.func24, Try.ntmps24
        go_wp2_with fail
        go_ret2
        exact ⟨rfl, HB.out⟩
      · go_enter Try.func24, Try.ntmps24
        go_wp2_with fail
        go_ret2
        exact ⟨rfl, HB.out⟩
  · go_enter Try.func24, Try.ntmps24
    go_wp2_with fail
    go_ret2
    exact ⟨rfl, HB.out⟩
theorem binds_any (s v : ByteArray) (hs : s.size ≤ 1000) (hok : (splitA s).2.2 = true) (w : World) :
    Calls Try.prog 24 #[.agg #[.string s, .string v]] w fun e w' => e = .returned (bndV (bndF s)) ∧ Below w.heap.size w w' := by
  have := binds_w s v _ _ _ hs (eqb_xn rfl) rfl (eqb_x6 rfl) w
  rw [← bds_bnd hok]
  unfold bdsF
  simpa using this
end Go.Proofs.Ytepmleieekpdiaa
