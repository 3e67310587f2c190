/-
  The walk of scope.Enter.
-/
import Derived.Test.YtepmleieekpdiaaScAttrs
set_option linter.unusedSimpArgs false
set_option linter.unusedVariables false
namespace Go.Proofs.Ytepmleieekpdiaa
open Go.RowKit

def evZ : Value := .agg #[.int .i64 0, .string ⟨#[]⟩, .string ⟨#[]⟩, .slice none 0 0, .string ⟨#[]⟩]
def evV (n : P2) (va : Value) : Value := .agg #[.int .i64 1, .string n.1, .string n.2, va, .string ⟨#[]⟩]
/-- What Enter leaves. -/
def EnPost (w : World) (o : Except Int (List P2 × P2 × List P3)) (e : Ending) (w' : World) : Prop :=
  (∀ c, o = .error c → e = .returned (.tuple #[.slice none 0 0, evZ, .int .i64 c])) ∧
  (∀ W n f, o = .ok (W, n, f) → ∃ v va, e = .returned (.tuple #[v, evV n va, .int .i64 0]) ∧ OwnP 50 w' w.heap.size v W ∧ OwnT w' w.heap.size va f) ∧ Below w.heap.size w w'
theorem en_err {w w' : World} {o : Except Int (List P2 × P2 × List P3)} {c : Int} {e : Ending} (ho : o = .error c) (he : e = .returned (.tuple #[.slice none 0 0, evZ, .int .i64 c])) (hb : Below w.heap.size w w') : EnPost w o e w' :=
  ⟨(fun c' hc => by rw [ho] at hc; cases hc; exact he), (fun W n f hc => by rw [ho] at hc; cases hc), hb⟩
theorem Try.results10 : Try.f10.results = #[ResultVar.tmp 4, ResultVar.cell 5 32, ResultVar.tmp 6] := by kernel_rfl
theorem own_mono {e : TypeId} {z n B B' : Nat} {w : World} {v : Value} {xs : List Value} (h : w.ownsRow B e z v n xs) (hB : B' ≤ B) : w.ownsRow B' e z v n xs := by
  refine ⟨h.1, ?_⟩
  rcases h.2 with h | ⟨g, cap, cur, h1, h2, h3⟩
  · exact .inl h
  · exact .inr ⟨g, cap, cur, h1, Nat.le_trans hB h2, h3⟩
/-- The two blocks of Enter's own. -/
structure EnB (w : World) (nm : ByteArray) (A2 : Option Addr) (M cap2 : Nat) (W : World) : Prop where
  tag : W.heap[w.heap.size]? = some (.cells #[.string nm, .slice A2 M cap2] 25 (0, 0))
  ev : W.heap[w.heap.size + 1]? = some (.cells #[.int .i64 0, .string ⟨#[]⟩, .string ⟨#[]⟩, .slice none 0 0, .string ⟨#[]⟩] 32 (0, 0))
  bel : Below w.heap.size w W
theorem EnB.lt {w : World} {nm : ByteArray} {A2 : Option Addr} {M cap2 : Nat} {W : World} (h : EnB w nm A2 M cap2 W) : w.heap.size + 1 < W.heap.size := (Array.getElem?_eq_some_iff.1 h.ev).1
theorem EnB.keep {w : World} {nm : ByteArray} {A2 : Option Addr} {M cap2 : Nat} {W W' : World} (h : EnB w nm A2 M cap2 W) (hb : Below W.heap.size W W') : EnB w nm A2 M cap2 W' :=
  ⟨(hb.block _ (by have := h.lt; omega)).trans h.tag, (hb.block _ h.lt).trans h.ev, h.bel.trans (hb.mono h.bel.size)⟩
theorem enb_start (w : World) (nm : ByteArray) (A2 : Option Addr) (M cap2 : Nat) : EnB w nm A2 M cap2 ((w.alloc (.cells #[.string nm, .slice A2 M cap2] 25)).alloc (.cells #[.int .i64 0, .string ⟨#[]⟩, .string ⟨#[]⟩, .slice none 0 0, .string ⟨#[]⟩] 32)) := by
  refine ⟨(Below.heap_alloc _ _ _ (by simp)).trans (nblk w 25 _), ?_, ((Below.refl _ w).alloc (Nat.le_refl _) _).alloc (by simp) _⟩
  have := nblk (w.alloc (.cells #[.string nm, .slice A2 M cap2] 25)) 32 #[.int .i64 0, .string ⟨#[]⟩, .string ⟨#[]⟩, .slice none 0 0, .string ⟨#[]⟩]
  rw [World.size_alloc] at this
  exact this
/-- Five cells set, as a store of an event does. -/
theorem set5 {W : World} {b : Nat} {a0 a1 a2 a3 a4 : Value} (h : W.heap[b]? = some (.cells #[a0, a1, a2, a3, a4] 32 (0, 0))) (x0 x1 x2 x3 x4 : Value) :
    (((((W.setCell ⟨b, 0, none⟩ x0).setCell ⟨b, 1, none⟩ x1).setCell ⟨b, 2, none⟩ x2).setCell ⟨b, 3, none⟩ x3).setCell ⟨b, 4, none⟩ x4).heap[b]? = some (.cells #[x0, x1, x2, x3, x4] 32 (0, 0)) := by
  simp [World.setCell, Array.getElem?_modify, h]
theorem bel5 {w W : World} {b : Nat} (h : Below w.heap.size w W) (hb : w.heap.size ≤ b) (x0 x1 x2 x3 x4 : Value) :
    Below w.heap.size w (((((W.setCell ⟨b, 0, none⟩ x0).setCell ⟨b, 1, none⟩ x1).setCell ⟨b, 2, none⟩ x2).setCell ⟨b, 3, none⟩ x3).setCell ⟨b, 4, none⟩ x4) :=
  ((((h.setCell (p := ⟨b, 0, none⟩) hb _).setCell (p := ⟨b, 1, none⟩) hb _).setCell (p := ⟨b, 2, none⟩) hb _).setCell (p := ⟨b, 3, none⟩) hb _).setCell (p := ⟨b, 4, none⟩) hb _
theorem gro5 (W : World) (b : Nat) (x0 x1 x2 x3 x4 : Value) : W.grownBy (((((W.setCell ⟨b, 0, none⟩ x0).setCell ⟨b, 1, none⟩ x1).setCell ⟨b, 2, none⟩ x2).setCell ⟨b, 3, none⟩ x3).setCell ⟨b, 4, none⟩ x4) (some b) := by
  have one : ∀ (X : World) (j : Nat) (x : Value), X.grownBy (X.setCell ⟨b, j, none⟩ x) (some b) := fun X j x => ⟨rfl, rfl, rfl, by simp [World.setCell], fun k _ hk => Below.heap_setCell _ _ _ _ (fun e => hk (by simp [e]))⟩
  have tr : ∀ {X Y Z : World}, X.grownBy Y (some b) → Y.grownBy Z (some b) → X.grownBy Z (some b) := fun g1 g2 => ⟨g2.os.trans g1.os, g2.tape.trans g1.tape, g2.output.trans g1.output, Nat.le_trans g1.size g2.size, fun i hi hne => (g2.block i (Nat.lt_of_lt_of_le hi g1.size) hne).trans (g1.block i hi hne)⟩
  exact tr (tr (tr (tr (one _ _ _) (one _ _ _)) (one _ _ _)) (one _ _ _)) (one _ _ _)
set_option maxHeartbeats 4000000 in
set_option maxRecDepth 100000 in
theorem enter_e1 (A A2 : Option Addr) (N M cap cap2 : Nat) (nm : ByteArray) (w : World) (o : Except Int (List P2 × P2 × List P3)) (ho : o = .error 9)
    (CB : Hid (∀ W, Below w.heap.size w W → Calls Try.prog 22 #[.slice A N cap, .slice A2 M cap2] W (BdPost W none))) :
    Calls Try.prog 10 #[.slice A N cap, .agg #[.string nm, .slice A2 M cap2]] w (EnPost w o) := by
  have H0 := Lib.hid (enb_start w nm A2 M cap2)
  have HO := Lib.hid ho
  clear ho
  go_enter Try.func10, Try.ntmps10
  go_wp2_with fail
  refine (CB.out _ H0.out.bel).mono ?_
  rintro e w1 ⟨h1, -, hb⟩
  obtain rfl := h1 rfl
  have HK := Lib.hid (H0.out.keep hb)
  have z0 := cells_of HK.out.ev 0 (u := .int .i64 0) rfl
  have z1 := cells_of HK.out.ev 1 (u := .string ⟨#[]⟩) rfl
  have z2 := cells_of HK.out.ev 2 (u := .string ⟨#[]⟩) rfl
  have z3 := cells_of HK.out.ev 3 (u := .slice none 0 0) rfl
  have z4 := cells_of HK.out.ev 4 (u := .string ⟨#[]⟩) rfl
  have f0 := froz_of HK.out.ev 0
  have f1 := froz_of HK.out.ev 1
  have f2 := froz_of HK.out.ev 2
  have f3 := froz_of HK.out.ev 3
  have f4 := froz_of HK.out.ev 4
  clear CB H0 hb h1
  go_wp2
  have HS := Lib.hid (set5 HK.out.ev (.int .i64 0) (.string ⟨#[]⟩) (.string ⟨#[]⟩) (.slice none 0 0) (.string ⟨#[]⟩))
  have c0 := cells_of HS.out 0 (u := .int .i64 0) rfl
  have c1 := cells_of HS.out 1 (u := .string ⟨#[]⟩) rfl
  have c2 := cells_of HS.out 2 (u := .string ⟨#[]⟩) rfl
  have c3 := cells_of HS.out 3 (u := .slice none 0 0) rfl
  have c4 := cells_of HS.out 4 (u := .string ⟨#[]⟩) rfl
  exact bodyPost_ret (v := .tuple #[.slice none 0 0, evZ, .int .i64 9]) (by simp [results, Try.results10, go_sem, c0, c1, c2, c3, c4, evZ]) rfl (en_err HO.out rfl (bel5 HK.out.bel (Nat.le_succ _) _ _ _ _ _))
theorem own_rdR' {e : TypeId} {w : World} {B n : Nat} {v : Value} {l : List P2} (h : OwnP e w B v l) (hn : n = l.length) : ∃ A c, v = .slice A n c ∧ RdR w A l := by
  obtain ⟨A, c, h1, h2, _⟩ := own_rdR h
  exact ⟨A, c, by rw [h1, hn], h2⟩
theorem rdS_one (W : World) (nm : ByteArray) : RdS (W.alloc (.cells #[.string nm] 9)) (some ⟨W.heap.size, 0, none⟩) [nm] := fun k x hk => by
  have hk0 : k = 0 := by
    have := (List.getElem?_eq_some_iff.1 hk).1
    simp at this
    exact this
  subst hk0
  have : nm = x := by simpa using hk
  subst this
  exact ⟨_, _, rfl, by simp, by simp⟩
/-- The contracts that Enter calls. -/
def BdC (A A2 : Option Addr) (N M cap cap2 : Nat) (Ws : List P2) (w : World) : Prop := ∀ W, Below w.heap.size w W → Calls Try.prog 22 #[.slice A N cap, .slice A2 M cap2] W (BdPost W (some Ws))
def NmC (NW : Nat) (Ws : List P2) (nm : ByteArray) (o : Option (List P2)) : Prop := ∀ (A' : Option Addr) (c' : Nat) (AS : Option Addr) (cS : Nat) (W : World), RdR W A' Ws → RdS W AS [nm] → Calls Try.prog 16 #[.slice A' NW c', .slice AS 1 cS] W (NmPost W o)
def AttC (NW : Nat) (Ws : List P2) (A2 : Option Addr) (M cap2 : Nat) (w : World) (o : Except Int (List P3)) : Prop := ∀ (A' : Option Addr) (c' : Nat) (W : World), RdR W A' Ws → Below w.heap.size w W → Calls Try.prog 23 #[.slice A' NW c', .slice A2 M cap2] W (AtPost W o)
set_option maxHeartbeats 4000000 in
set_option maxRecDepth 100000 in
theorem enter_e2 (A A2 : Option Addr) (N M cap cap2 NW : Nat) (nm : ByteArray) (Ws : List P2) (w : World) (o : Except Int (List P2 × P2 × List P3)) (ho : o = .error 9) (hNW : NW = Ws.length)
    (CB : Hid (BdC A A2 N M cap cap2 Ws w)) (CN : Hid (NmC NW Ws nm none)) :
    Calls Try.prog 10 #[.slice A N cap, .agg #[.string nm, .slice A2 M cap2]] w (EnPost w o) := by
  have H0 := Lib.hid (enb_start w nm A2 M cap2)
  have HO := Lib.hid ho
  have HNW := Lib.hid hNW
  clear ho hNW
  go_enter Try.func10, Try.ntmps10
  go_wp2_with fail
  refine (CB.out _ H0.out.bel).mono ?_
  rintro e w1 ⟨-, h2, hb⟩
  obtain ⟨v, rfl, hv⟩ := h2 _ rfl
  obtain ⟨A', c', rfl, hrd⟩ := own_rdR' hv HNW.out
  have HK1 := Lib.hid (H0.out.keep hb)
  have HR1 := Lib.hid hrd
  have t0 := cells_of HK1.out.tag 0 (u := .string nm) rfl
  have t1 := cells_of HK1.out.tag 1 (u := .slice A2 M cap2) rfl
  clear CB H0 hb h2 hv hrd
  go_wp2_with fail
  refine (CN.out A' c' (some ⟨w1.heap.size, 0, none⟩) 1 _ (HR1.out.keep ((Below.refl _ w1).alloc (Nat.le_refl _) _)) (rdS_one w1 nm)).mono ?_
  rintro e w2 ⟨h1, -, hb2⟩
  obtain rfl := h1 rfl
  have HK := Lib.hid ((HK1.out.keep ((Below.refl _ w1).alloc (Nat.le_refl _) _)).keep hb2)
  have z0 := cells_of HK.out.ev 0 (u := .int .i64 0) rfl
  have z1 := cells_of HK.out.ev 1 (u := .string ⟨#[]⟩) rfl
  have z2 := cells_of HK.out.ev 2 (u := .string ⟨#[]⟩) rfl
  have z3 := cells_of HK.out.ev 3 (u := .slice none 0 0) rfl
  have z4 := cells_of HK.out.ev 4 (u := .string ⟨#[]⟩) rfl
  have f0 := froz_of HK.out.ev 0
  have f1 := froz_of HK.out.ev 1
  have f2 := froz_of HK.out.ev 2
  have f3 := froz_of HK.out.ev 3
  have f4 := froz_of HK.out.ev 4
  clear CN HK1 HR1 h1 hb2
  go_wp2
  have HS := Lib.hid (set5 HK.out.ev (.int .i64 0) (.string ⟨#[]⟩) (.string ⟨#[]⟩) (.slice none 0 0) (.string ⟨#[]⟩))
  have c0 := cells_of HS.out 0 (u := (.int .i64 0)) rfl
  have c1 := cells_of HS.out 1 (u := (.string ⟨#[]⟩)) rfl
  have c2 := cells_of HS.out 2 (u := (.string ⟨#[]⟩)) rfl
  have c3 := cells_of HS.out 3 (u := (.slice none 0 0)) rfl
  have c4 := cells_of HS.out 4 (u := (.string ⟨#[]⟩)) rfl
  exact bodyPost_ret (v := .tuple #[.slice none 0 0, evZ, .int .i64 9]) (by simp [results, Try.results10, go_sem, c0, c1, c2, c3, c4, evZ]) rfl (en_err HO.out rfl (bel5 HK.out.bel (Nat.le_succ _) _ _ _ _ _))
set_option maxHeartbeats 4000000 in
set_option maxRecDepth 100000 in
theorem enter_e3 (A A2 : Option Addr) (N M cap cap2 NW : Nat) (nm : ByteArray) (Ws : List P2) (n : P2) (c : Int) (w : World) (o : Except Int (List P2 × P2 × List P3)) (ho : o = .error c) (hNW : NW = Ws.length) (hc0 : c = 8 ∨ c = 9)
    (CB : Hid (BdC A A2 N M cap cap2 Ws w)) (CN : Hid (NmC NW Ws nm (some [n]))) (CA : Hid (AttC NW Ws A2 M cap2 w (.error c))) :
    Calls Try.prog 10 #[.slice A N cap, .agg #[.string nm, .slice A2 M cap2]] w (EnPost w o) := by
  have H0 := Lib.hid (enb_start w nm A2 M cap2)
  have HO := Lib.hid ho
  have HNW := Lib.hid hNW
  have hc1 : (c == 0) = false := by rw [beq_eq_false_iff_ne]; omega
  have hc2 : ¬ c = 0 := by omega
  clear ho hNW hc0
  go_enter Try.func10, Try.ntmps10
  go_wp2_with fail
  refine (CB.out _ H0.out.bel).mono ?_
  rintro e w1 ⟨-, h2, hb⟩
  obtain ⟨v, rfl, hv⟩ := h2 _ rfl
  obtain ⟨A', c', rfl, hrd⟩ := own_rdR' hv HNW.out
  have HK1 := Lib.hid (H0.out.keep hb)
  have HR1 := Lib.hid hrd
  have t0 := cells_of HK1.out.tag 0 (u := .string nm) rfl
  have t1 := cells_of HK1.out.tag 1 (u := .slice A2 M cap2) rfl
  clear CB H0 hb h2 hv hrd
  go_wp2_with fail
  refine (CN.out A' c' (some ⟨w1.heap.size, 0, none⟩) 1 _ (HR1.out.keep ((Below.refl _ w1).alloc (Nat.le_refl _) _)) (rdS_one w1 nm)).mono ?_
  rintro e w2 ⟨-, h2, hb2⟩
  obtain ⟨vn, rfl, hvn⟩ := h2 _ rfl
  have HK2 := Lib.hid ((HK1.out.keep ((Below.refl _ w1).alloc (Nat.le_refl _) _)).keep hb2)
  have HR2 := Lib.hid ((HR1.out.keep ((Below.refl _ w1).alloc (Nat.le_refl _) _)).keep hb2)
  obtain ⟨An, cn, rfl, hrn⟩ := own_rdR' (n := 1) hvn rfl
  have u0 := cells_of HK2.out.tag 0 (u := .string nm) rfl
  have u1 := cells_of HK2.out.tag 1 (u := .slice A2 M cap2) rfl
  clear CN HK1 HR1 h2 hb2 hvn hrn t0 t1
  go_wp2_with fail
  refine (CA.out A' c' _ HR2.out HK2.out.bel).mono ?_
  rintro e w3 ⟨h1, -, hb3⟩
  obtain rfl := h1 _ rfl
  have HK := Lib.hid (HK2.out.keep hb3)
  have z0 := cells_of HK.out.ev 0 (u := .int .i64 0) rfl
  have z1 := cells_of HK.out.ev 1 (u := .string ⟨#[]⟩) rfl
  have z2 := cells_of HK.out.ev 2 (u := .string ⟨#[]⟩) rfl
  have z3 := cells_of HK.out.ev 3 (u := .slice none 0 0) rfl
  have z4 := cells_of HK.out.ev 4 (u := .string ⟨#[]⟩) rfl
  have f0 := froz_of HK.out.ev 0
  have f1 := froz_of HK.out.ev 1
  have f2 := froz_of HK.out.ev 2
  have f3 := froz_of HK.out.ev 3
  have f4 := froz_of HK.out.ev 4
  clear CA HK2 HR2 h1 hb3 u0 u1
  go_wp2
  have HS := Lib.hid (set5 HK.out.ev (.int .i64 0) (.string ⟨#[]⟩) (.string ⟨#[]⟩) (.slice none 0 0) (.string ⟨#[]⟩))
  have c0 := cells_of HS.out 0 (u := (.int .i64 0)) rfl
  have c1 := cells_of HS.out 1 (u := (.string ⟨#[]⟩)) rfl
  have c2 := cells_of HS.out 2 (u := (.string ⟨#[]⟩)) rfl
  have c3 := cells_of HS.out 3 (u := (.slice none 0 0)) rfl
  have c4 := cells_of HS.out 4 (u := (.string ⟨#[]⟩)) rfl
  exact bodyPost_ret (v := .tuple #[.slice none 0 0, evZ, .int .i64 c]) (by simp [results, Try.results10, go_sem, c0, c1, c2, c3, c4, evZ]) rfl (en_err HO.out rfl (bel5 HK.out.bel (Nat.le_succ _) _ _ _ _ _))
end Go.Proofs.Ytepmleieekpdiaa
