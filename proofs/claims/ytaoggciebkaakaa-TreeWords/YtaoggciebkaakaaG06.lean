/-
  Merged by program out of the texts TpPlM, TrTrW of one seat.
-/
import Derived.Test.YtaoggciebkaakaaG05
import Derived.Test.YtaoggciebkaakaaG02
import Derived.Deep.AppendLies
import Derived.Deep.RegionHeld3
import Derived.Deep.RegionLaw

/- A plan that is being made, in memory. -/
set_option linter.unusedSimpArgs false
set_option linter.unusedVariables false
namespace Go.Proofs.Ytaoggciebkaakaa.Ev
open Go.RowKit

def upd {α : Type} (f : Nat → α) (i : Nat) (x : α) : Nat → α := fun k => if k = i then x else f k
theorem upd_same {α : Type} (f : Nat → α) (i : Nat) (x : α) : upd f i x i = x := by unfold upd; rw [if_pos rfl]
theorem upd_ne {α : Type} (f : Nat → α) {i k : Nat} (x : α) (h : k ≠ i) : upd f i x k = f k := by unfold upd; rw [if_neg h]
/-- The cell of the function that numbers. -/
def nuV (pb nb : Nat) : Value := .func (.func 33) #[] #[.pointer (some ⟨pb, 0, none⟩), .pointer (some ⟨nb, 0, none⟩)]
structure PlS (B pb nb : Nat) (v : Nat → Value) (v4 : Value) (L : Nat → List Int) (f : Fo) (W : World) : Prop where
  box : W.heap[pb]? = some (.cells #[v 0, v 1, v 2, v 3, v4] 43 (0, 0))
  own : ∀ i, i < 4 → W.ownsRow B 3 1 (v i) (L i).length ((L i).map (Value.int .i64))
  dis : ∀ i j, i < 4 → j < 4 → i ≠ j → (v i).ownBlock = none ∨ (v i).ownBlock ≠ (v j).ownBlock
  tr : ∃ vs, W.ownsRow B 30 6 v4 f.len vs ∧ KsV (· < B) W f vs
  nbx : W.heap[nb]? = some (.cells #[nuV pb nb] 60 (0, 0))
  lo : B ≤ pb ∧ B ≤ nb
section
variable {B pb nb : Nat} {v : Nat → Value} {v4 : Value} {L : Nat → List Int} {f : Fo} {W W' W2 : World}
theorem PlS.keep (h : PlS B pb nb v v4 L f W) (hb : Below W.heap.size W W') : PlS B pb nb v v4 L f W' := by
  obtain ⟨vs, h1, h2⟩ := h.tr
  exact ⟨(hb.block _ (Array.getElem?_eq_some_iff.1 h.box).1).trans h.box, fun i hi => own_keep (h.own i hi) hb, h.dis, ⟨vs, own_keep h1 hb, h2.map fun t => t.keep hb⟩, (hb.block _ (Array.getElem?_eq_some_iff.1 h.nbx).1).trans h.nbx, h.lo⟩
theorem PlS.lt (h : PlS B pb nb v v4 L f W) : B ≤ W.heap.size := by
  have := (Array.getElem?_eq_some_iff.1 h.box).1
  have := h.lo.1
  omega
theorem own_box {T T' : TypeId} {z n g : Nat} {x : Value} {xs : List Value} {cs : Array Value} (h : W.ownsRow B T z x n xs) (hg : W.heap[g]? = some (.cells cs T' (0, 0))) (hne : T ≠ T') : some g ≠ x.ownBlock := by
  rcases own_blk h hg hne with e | e
  · rw [e]; intro e'; cases e'
  · exact fun e' => e e'.symm
/-- A number behind one of the four rows, stored back. -/
theorem PlS.push {g cap i n : Nat} {x : Int} (h : PlS B pb nb v v4 L f W) (hi : i < 4) (hn : (L i).length = n)
    (n1 : W2.ownsRow B 3 1 (.slice (some ⟨g, 0, none⟩) (n + 1) cap) (n + 1) ((L i).map (Value.int .i64) ++ [.int .i64 x])) (n2 : W.grownBy W2 (v i).ownBlock) (n3 : (v i).ownBlock = some g ∨ g = W.heap.size) (n4 : g < W2.heap.size) :
    PlS B pb nb (upd v i (.slice (some ⟨g, 0, none⟩) (n + 1) cap)) v4 (upd L i (L i ++ [x])) f (W2.setCell ⟨pb, i, none⟩ (.slice (some ⟨g, 0, none⟩) (n + 1) cap)) := by
  subst hn
  obtain ⟨vs, k1, k2⟩ := h.tr
  have hv : ∀ j, (v i).ownBlock = some j → B ≤ j ∧ j < W.heap.size := fun j hj => World.ownsRow.lt (h.own i hi) j hj
  have pbl := (Array.getElem?_eq_some_iff.1 h.box).1
  have G2 : W2.grownBy (W2.setCell ⟨pb, i, none⟩ (.slice (some ⟨g, 0, none⟩) ((L i).length + 1) cap)) (some pb) := grown_setCell W2 ⟨pb, i, none⟩ (.slice (some ⟨g, 0, none⟩) ((L i).length + 1) cap)
  have hb2 : W2.heap[pb]? = some (.cells #[v 0, v 1, v 2, v 3, v4] 43 (0, 0)) := (n2.block _ pbl (own_box (h.own i hi) h.box (by decide))).trans h.box
  have hnb2 : W2.heap[nb]? = some (.cells #[nuV pb nb] 60 (0, 0)) := (n2.block _ (Array.getElem?_eq_some_iff.1 h.nbx).1 (own_box (h.own i hi) h.nbx (by decide))).trans h.nbx
  have hgl : ∀ k, k < 4 → k ≠ i → (v k).ownBlock ≠ some g := fun k hk hki e => by
    rcases n3 with n3 | n3
    · rcases h.dis k i hk hi hki with q | q
      · rw [q] at e; cases e
      · exact q (by rw [e, n3])
    · have := (World.ownsRow.lt (h.own k hk) g e).2
      omega
  refine ⟨?_, fun k hk => ?_, fun k j hk hj hkj => ?_, ⟨vs, World.ownsRow.kept (World.ownsRow.kept k1 n2 (own_ne2 k1 (h.own i hi) (by decide))) G2 (own_blk (World.ownsRow.kept k1 n2 (own_ne2 k1 (h.own i hi) (by decide))) hb2 (by decide)), k2.map fun t => (t.grown n2 (fun b hb e => by have := hv b e.symm; omega)).grown G2 (fun b hb e => by injection e with e; have := h.lo.1; omega)⟩, ?_, h.lo⟩
  · have hi4 : i = 0 ∨ i = 1 ∨ i = 2 ∨ i = 3 := by omega
    rcases hi4 with rfl | rfl | rfl | rfl <;> simp [World.setCell, Array.getElem?_modify, hb2, upd]
  · by_cases hki : k = i
    · subst hki
      rw [upd_same, upd_same, List.length_append, List.map_append]
      exact World.ownsRow.kept n1 G2 (own_blk n1 hb2 (by decide))
    · rw [upd_ne _ _ hki, upd_ne _ _ hki]
      have q := World.ownsRow.kept (h.own k hk) n2 (h.dis k i hk hi hki)
      exact World.ownsRow.kept q G2 (own_blk q hb2 (by decide))
  · by_cases hki : k = i
    · subst hki
      rw [upd_same, upd_ne _ _ (Ne.symm hkj)]
      exact .inr fun e => hgl j hj (Ne.symm hkj) e.symm
    · by_cases hji : j = i
      · subst hji
        rw [upd_same, upd_ne _ _ hki]
        exact .inr (hgl k hk hki)
      · rw [upd_ne _ _ hki, upd_ne _ _ hji]
        exact h.dis k j hk hj hkj
  · exact (G2.block _ (Array.getElem?_eq_some_iff.1 hnb2).1 (fun e => by
      injection e with e
      rw [e, hb2] at hnb2
      injection hnb2 with q
      injection q with _ q2 _
      cases q2)).trans hnb2
/-- A number of one of the four rows changes. -/
theorem PlS.set {g cap i n j : Nat} {x : Int} (h : PlS B pb nb v v4 L f W) (hi : i < 4) (hv : v i = .slice (some ⟨g, 0, none⟩) n cap) :
    PlS B pb nb v v4 (upd L i ((L i).set j x)) f (W.setCell ⟨g, j, none⟩ (.int .i64 x)) := by
  have ho := h.own i hi
  rw [hv] at ho
  have hn : n = (L i).length := by
    rcases ho.2 with ⟨q, _⟩ | ⟨g', cap', cur, q, _⟩
    · cases q
    · injection q with _ q2 _
  obtain ⟨k1, k2⟩ := World.ownsRow.stored (w := W) (show W.ownsRow B 3 1 (.slice (some ⟨g, 0, none⟩) n cap) n ((L i).map (Value.int .i64)) by rw [← hn] at ho; exact ho) j (.int .i64 x)
  have hgb : (v i).ownBlock = some g := by rw [hv]; rfl
  obtain ⟨vs, t1, t2⟩ := h.tr
  have hgB : B ≤ g := (World.ownsRow.lt (h.own i hi) g hgb).1
  refine ⟨(k2.block _ (Array.getElem?_eq_some_iff.1 h.box).1 (by rw [← hgb]; exact own_box (h.own i hi) h.box (by decide))).trans h.box, fun k hk => ?_, h.dis, ⟨vs, World.ownsRow.kept t1 k2 (by rw [← hgb]; exact own_ne2 t1 (h.own i hi) (by decide)), t2.map fun t => t.grown k2 (fun b hb e => by injection e with e; omega)⟩, (k2.block _ (Array.getElem?_eq_some_iff.1 h.nbx).1 (by rw [← hgb]; exact own_box (h.own i hi) h.nbx (by decide))).trans h.nbx, h.lo⟩
  by_cases hki : k = i
  · subst hki
    rw [upd_same, List.length_set, List.map_set, hv, ← hn]
    exact k1
  · rw [upd_ne _ _ hki]
    exact World.ownsRow.kept (h.own k hk) k2 (by rw [← hgb]; exact h.dis k i hk hi hki)
/-- A tree behind the trees, stored back. -/
theorem PlS.pushT {g cap : Nat} {vs : List Value} {u : Bool} {ux us ul : ByteArray} {ua : List P3} {uk : Fo} {u1 : Option Addr} {u2 u3 : Nat} {u4 : Option Addr} {u5 u6 : Nat} (h : PlS B pb nb v v4 L f W) (ho : W.ownsRow B 30 6 v4 f.len vs) (hk : KsV (· < B) W f vs) (hc : Tr1 (· < B) W ux us ul ua uk u1 u2 u3 u4 u5 u6)
    (n1 : W2.ownsRow B 30 6 (.slice (some ⟨g, 0, none⟩) (f.len + 1) cap) (f.len + 1) (vs ++ [.bool u, .string ux, .string us, .string ul, .slice u1 u2 u3, .slice u4 u5 u6])) (n2 : W.grownBy W2 v4.ownBlock) (n4 : g < W2.heap.size) :
    PlS B pb nb v (.slice (some ⟨g, 0, none⟩) (f.len + 1) cap) L (f.app (.cons u ux us ul ua uk .nil)) (W2.setCell ⟨pb, 4, none⟩ (.slice (some ⟨g, 0, none⟩) (f.len + 1) cap)) := by
  have hv : ∀ j, v4.ownBlock = some j → B ≤ j ∧ j < W.heap.size := fun j hj => World.ownsRow.lt ho j hj
  have G2 : W2.grownBy (W2.setCell ⟨pb, 4, none⟩ (.slice (some ⟨g, 0, none⟩) (f.len + 1) cap)) (some pb) := grown_setCell W2 ⟨pb, 4, none⟩ (.slice (some ⟨g, 0, none⟩) (f.len + 1) cap)
  have hb2 : W2.heap[pb]? = some (.cells #[v 0, v 1, v 2, v 3, v4] 43 (0, 0)) := (n2.block _ (Array.getElem?_eq_some_iff.1 h.box).1 (own_box ho h.box (by decide))).trans h.box
  have hnb2 : W2.heap[nb]? = some (.cells #[nuV pb nb] 60 (0, 0)) := (n2.block _ (Array.getElem?_eq_some_iff.1 h.nbx).1 (own_box ho h.nbx (by decide))).trans h.nbx
  have ht : ∀ {tx sp lo : ByteArray} {ats : List P3} {ks : Fo} {Aa : Option Addr} {na ca : Nat} {Ak : Option Addr} {nk ck : Nat}, Tr1 (· < B) W tx sp lo ats ks Aa na ca Ak nk ck → Tr1 (· < B) (W2.setCell ⟨pb, 4, none⟩ (.slice (some ⟨g, 0, none⟩) (f.len + 1) cap)) tx sp lo ats ks Aa na ca Ak nk ck := fun t =>
    (t.grown n2 (fun b hb e => by have := hv b e.symm; omega)).grown G2 (fun b hb e => by injection e with e; have := h.lo.1; omega)
  refine ⟨by simp [World.setCell, Array.getElem?_modify, hb2], fun k hk => ?_, h.dis, ⟨vs ++ [.bool u, .string ux, .string us, .string ul, .slice u1 u2 u3, .slice u4 u5 u6], ?_, (hk.map ht).app ⟨u1, u2, u3, u4, u5, u6, [], by simp, ht hc, rfl⟩⟩, ?_, h.lo⟩
  · have q := World.ownsRow.kept (h.own k hk) n2 (own_ne2 (h.own k hk) ho (by decide))
    exact World.ownsRow.kept q G2 (own_blk q hb2 (by decide))
  · rw [len_app]
    exact World.ownsRow.kept n1 G2 (own_blk n1 hb2 (by decide))
  · exact (G2.block _ (Array.getElem?_eq_some_iff.1 hnb2).1 (fun e => by
      injection e with e
      rw [e, hb2] at hnb2
      injection hnb2 with q
      injection q with _ q2 _
      cases q2)).trans hnb2
end
end Go.Proofs.Ytaoggciebkaakaa.Ev

/- The document's Tree (layer 10). -/
set_option linter.unusedSimpArgs false
set_option linter.unusedVariables false
namespace Go.Proofs.Ytaoggciebkaakaa.Ev
open Go.RowKit

theorem Try.info30 : (Try.prog.info? 30).map (fun i => (i.zero, i.size, i.bytes)) = some (some (.agg #[.bool false, .string ⟨#[]⟩, .string ⟨#[]⟩, .string ⟨#[]⟩, .slice none 0 0, .slice none 0 0]), 6, 104) := by kernel_rfl
theorem Try.underlying28 : Try.prog.underlying 28 = some (.slice 30) := by kernel_rfl
theorem Try.results13 : Try.f13.results = #[ResultVar.cell 4 30] := by kernel_rfl
theorem ints_at {W : World} {B n c k p m : Nat} {K : Option Addr} {L : List Nat} (h : OwnI W B (.slice K n c) (plI L)) (hm : (plI L).length = m) (hk : L[k]? = some p) : ∃ g, K = some ⟨g, 0, none⟩ ∧ W.cell? ⟨g, k, none⟩ = some (.int .i64 (p : Int)) := by
  have hj : ((plI L).map (Value.int .i64))[k]? = some (.int .i64 (p : Int)) := by
    unfold plI
    rw [List.getElem?_map, List.getElem?_map, hk]
    rfl
  rcases h.2 with ⟨q, h0⟩ | ⟨g, cap, cur, q, hB, hh, h1⟩
  · have := (List.getElem?_eq_some_iff.1 hk).1
    unfold plI at h0
    rw [List.length_map] at h0
    omega
  · injection q with q1 q2 q3
    subst q1 q2 q3
    have hh2 := (own_src h).2 _ rfl k _ hj
    have ha : (⟨g, 0, none⟩ : Addr).add k = ⟨g, k, none⟩ := by cases k <;> simp [Addr.add]
    rw [ha] at hh2
    exact ⟨g, rfl, hh2⟩
def TPost (B : Nat) (W : World) (f : Fo) (e : Ending) (w' : World) : Prop := ∃ t tx sp lo ats ks Aa na ca Ak nk ck, f.pln = .cons t tx sp lo ats ks .nil ∧ e = .returned (.agg #[.bool t, .string tx, .string sp, .string lo, .slice Aa na ca, .slice Ak nk ck]) ∧ Tr1 (fun b => (b < B ∨ W.heap.size ≤ b) ∧ b < w'.heap.size) w' tx sp lo ats ks Aa na ca Ak nk ck ∧ Below W.heap.size W w'
def TreC (N : Nat) (w0 : World) (A : Option Addr) (n c : Nat) (l : List RE) : Prop := ∀ (pre post : List RE) (t : Bool) (tx sp lo : ByteArray) (ats : List P3) (ks : Fo), ks.siz < N → l = pre ++ (Fo.cons t tx sp lo ats ks .nil).evs ++ post → ∀ W, Below w0.heap.size w0 W → Calls Try.prog 13 #[.slice A n c, .int .i64 (pre.length : Int)] W (TPost w0.heap.size W (Fo.cons t tx sp lo ats ks .nil))
set_option maxHeartbeats 8000000 in
set_option maxRecDepth 100000 in
theorem tree_text {w0 : World} {A : Option Addr} {n c : Nat} {l : List RE} (T : EvsIn w0 A n c l) (hn : n ≤ 100000) (pre post : List RE) (tx sp lo : ByteArray) (ats : List P3) (ks : Fo) (hl : l = pre ++ (Fo.cons true tx sp lo ats ks .nil).evs ++ post) (w : World) (hb : Below w0.heap.size w0 w) : Calls Try.prog 13 #[.slice A n c, .int .i64 (pre.length : Int)] w (TPost w0.heap.size w (Fo.cons true tx sp lo ats ks .nil)) := by
  have he : (Fo.cons true tx sp lo ats ks .nil).evs = [⟨2, emB, emB, [], tx⟩] := by rw [Fo.evs, if_pos rfl]; rfl
  have hx : l[pre.length]? = some ⟨2, emB, emB, [], tx⟩ := by
    rw [hl, he, List.append_assoc, List.getElem?_append_right (Nat.le_refl _), Nat.sub_self]
    rfl
  have hlen : pre.length < n := by
    rw [T.len]
    exact (List.getElem?_eq_some_iff.1 hx).1
  have Tw := T.keep hb
  have hts : tx.size ≤ maxLen := (T.xsz _ (List.mem_of_getElem? hx)).tx
  have HTs := Lib.hid hts
  obtain ⟨b, off, Aa, na, ca, hA, hbl, TA, c0, c1, c2, c3, c4⟩ := Tw.rd _ _ hx
  subst hA
  have g1 : (pre.length : Int) < (n : Int) := by omega
  have g0 : (0 : Int) ≤ (pre.length : Int) := by omega
  dsimp only at c0 c4
  clear T hx he hl TA Tw c1 c2 c3 hts
  generalize pre.length = a at *
  go_enter Try.func13, Try.ntmps13
  have HB := Lib.hid ((Below.refl w.heap.size w).alloc (Nat.le_refl _) (.cells #[.bool true, .string tx, .string ⟨#[]⟩, .string ⟨#[]⟩, .slice none 0 0, .slice none 0 0] 30))
  go_wp2
  refine bodyPost_ret (v := .agg #[.bool true, .string tx, .string ⟨#[]⟩, .string ⟨#[]⟩, .slice none 0 0, .slice none 0 0]) (by simp [results, Try.results13, go_sem]) rfl ?_
  exact ⟨true, tx, emB, emB, [], .nil, none, 0, 0, none, 0, 0, by rw [Fo.pln, if_pos rfl]; rfl, rfl, ⟨⟨HTs.out, by show emB.size ≤ maxLen; decide, by show emB.size ≤ maxLen; decide⟩, attsNil _, fun h => absurd h (Nat.lt_irrefl 0), rfl, Nat.zero_le _, Nat.le_refl _, Nat.zero_le _, fun _ => ⟨rfl, rfl⟩, fun h => absurd h (Nat.lt_irrefl 0)⟩, HB.out⟩
set_option maxHeartbeats 8000000 in
set_option maxRecDepth 100000 in
theorem tree_el (N : Nat) {w0 : World} {A : Option Addr} {n c : Nat} {l : List RE} (hIH : Hid (TreC N w0 A n c l)) (T : EvsIn w0 A n c l) (hn : n ≤ 100000) (pre post : List RE) (tx sp lo : ByteArray) (ats : List P3) (ks : Fo) (hN : ks.siz < N + 1) (hl : l = pre ++ (Fo.cons false tx sp lo ats ks .nil).evs ++ post) (w : World) (hb : Below w0.heap.size w0 w) : Calls Try.prog 13 #[.slice A n c, .int .i64 (pre.length : Int)] w (TPost w0.heap.size w (Fo.cons false tx sp lo ats ks .nil)) := by
  obtain ⟨i0, hi, hz0, hz1, hz2⟩ := info_parts Try.info30
  have he : (Fo.cons false tx sp lo ats ks .nil).evs = ⟨1, sp, lo, ats, emB⟩ :: (ks.evs ++ [clE]) := by rw [Fo.evs, if_neg (by decide)]; simp [Fo.evs]
  have hx : l[pre.length]? = some ⟨1, sp, lo, ats, emB⟩ := by
    rw [hl, he, List.append_assoc, List.getElem?_append_right (Nat.le_refl _), Nat.sub_self]
    rfl
  have hlen : pre.length + ks.evs.length + 2 ≤ n := by
    rw [T.len, hl, he]
    simp
    omega
  have hRs := T.xsz _ (List.mem_of_getElem? hx)
  have HRs := Lib.hid hRs
  have HW := Lib.hid hb
  have HKd : Hid (∀ W, Below w0.heap.size w0 W → Calls Try.prog 22 #[.slice A n c, .int .i64 (pre.length : Int)] W fun e w' => ∃ v, e = .returned v ∧ OwnI w' W.heap.size v (plI (ks.plc (pre.length + 1))) ∧ Below W.heap.size W w') := Lib.hid fun W hW => by
    refine kids_el A n c pre post sp lo ats ks W ?_ hn
    have he2 : (Fo.cons false emB sp lo ats ks .nil).evs = (Fo.cons false tx sp lo ats ks .nil).evs := by rw [he, Fo.evs, if_neg (by decide)]; simp [Fo.evs]
    rw [he2, ← hl]
    exact T.keep hW
  have HCh : Hid (∀ (k : Nat), k < ks.len → ∃ (u : Bool) (ux us ul : ByteArray) (ua : List P3) (uk : Fo), (ks.take (k + 1)).pln = (ks.take k).pln.app (Fo.cons u ux us ul ua uk .nil).pln ∧ ∀ W, Below w0.heap.size w0 W → Calls Try.prog 13 #[.slice A n c, .int .i64 ((pre.length + 1 + (ks.take k).evs.length : Nat) : Int)] W (TPost w0.heap.size W (Fo.cons u ux us ul ua uk .nil))) := Lib.hid fun k hk => by
    obtain ⟨t, x', sp', lo', ats', ks', e1, e2⟩ := drop_cons hk
    refine ⟨t, x', sp', lo', ats', ks', by rw [e2, pln_app], fun W hW => ?_⟩
    have hs := siz_kid e1
    have h := hIH.out (pre ++ [⟨1, sp, lo, ats, emB⟩] ++ (ks.take k).evs) ((ks.drop (k + 1)).evs ++ [clE] ++ post) t x' sp' lo' ats' ks' (by omega) (by
      have hks : ks.evs = (ks.take k).evs ++ ((Fo.cons t x' sp' lo' ats' ks' .nil).evs ++ (ks.drop (k + 1)).evs) := by
        conv => lhs; rw [← take_drop_F k ks]
        rw [evs_app, e1, evs_cons]
      rw [hl, he, hks]
      simp) W hW
    rw [show (pre ++ [(⟨1, sp, lo, ats, emB⟩ : RE)] ++ (ks.take k).evs).length = pre.length + 1 + (ks.take k).evs.length by simp; omega] at h
    exact h
  have HPl : Hid ((ks.plc (pre.length + 1)).length = ks.len ∧ ∀ k, k < ks.len → (ks.plc (pre.length + 1))[k]? = some (pre.length + 1 + (ks.take k).evs.length)) := Lib.hid ⟨plc_len _ _, fun k hk => plc_get hk⟩
  have hkn : ks.len ≤ 100000 := by
    have h2 : ∀ f : Fo, f.len ≤ f.evs.length := fun f => by
      induction f with
      | nil => exact Nat.zero_le _
      | cons t tx sp lo ats ks nx _ ih =>
        rw [Fo.len, evs_cons, List.length_append]
        have := evs_one_pos t tx sp lo ats ks
        omega
    have h3 := h2 ks
    omega
  obtain ⟨b, off, Aa, na, ca, hA, hbl0, TA, d0, d1, d2, d3, d4⟩ := T.rd _ _ hx
  subst hA
  have c0 := (hb.cell (p := ⟨b, off + pre.length * 5, none⟩) hbl0).trans d0
  have c1 := (hb.cell (p := ⟨b, off + pre.length * 5 + 1, none⟩) hbl0).trans d1
  have c2 := (hb.cell (p := ⟨b, off + pre.length * 5 + 2, none⟩) hbl0).trans d2
  have c3 := (hb.cell (p := ⟨b, off + pre.length * 5 + 3, none⟩) hbl0).trans d3
  have HTA := Lib.hid TA
  have g1 : (pre.length : Int) < (n : Int) := by omega
  have g0 : (0 : Int) ≤ (pre.length : Int) := by omega
  dsimp only at c0 c1 c2 c3
  have hBs : w0.heap.size ≤ w.heap.size := hb.size
  have hbl : b < w.heap.size := Nat.lt_of_lt_of_le hbl0 hBs
  have hz1' : (w.alloc (.cells #[.bool false, .string ⟨#[]⟩, .string ⟨#[]⟩, .string ⟨#[]⟩, .slice none 0 0, .slice none 0 0] 30)).heap.size = w.heap.size + 1 := World.size_alloc _ _
  have HT0 : Hid (TL w0.heap.size w.heap.size w sp lo Aa na ca (.slice none 0 0) [] (ks.take 0).pln 0 (.slice none 0 0) ((w.alloc (.cells #[.bool false, .string ⟨#[]⟩, .string ⟨#[]⟩, .string ⟨#[]⟩, .slice none 0 0, .slice none 0 0] 30)).alloc (.cells #[.bool false, .string ⟨#[]⟩, .string sp, .string lo, .slice Aa na ca, .slice none 0 0] 30))) := Lib.hid (by
    have h := nblk (w.alloc (.cells #[.bool false, .string ⟨#[]⟩, .string ⟨#[]⟩, .string ⟨#[]⟩, .slice none 0 0, .slice none 0 0] 30)) 30 #[.bool false, .string ⟨#[]⟩, .string sp, .string lo, .slice Aa na ca, .slice none 0 0]
    rw [hz1'] at h
    have h0 : (ks.take 0).pln = .nil := by cases ks <;> rfl
    rw [h0]
    exact ⟨⟨[], World.ownsRow_nil _ _ _ _, rfl⟩, h, (Below.heap_alloc _ _ _ (by rw [hz1']; omega)).trans (nblk w 30 _), World.ownsRow_nil _ _ _ _, ((Below.refl _ w).alloc (Nat.le_refl _) _).alloc (by rw [hz1']; omega) _, by rw [World.size_alloc, hz1']; omega⟩)
  have HT0 := Lib.hid (HT0.out.keep ((Below.refl _ _).drew))
  clear TA d0 d1 d2 d3 d4 T hx he hl hRs hIH hz1' hlen hN
  generalize pre.length = a at *
  go_enter Try.func13, Try.ntmps13
  go_wp2
  go_region
  clear c0 c1 c2 c3 hbl hbl0
  generalize ((w.alloc (.cells #[.bool false, .string ⟨#[]⟩, .string ⟨#[]⟩, .string ⟨#[]⟩, .slice none 0 0, .slice none 0 0] 30)).alloc (.cells #[.bool false, .string ⟨#[]⟩, .string sp, .string lo, .slice Aa na ca, .slice none 0 0] 30)).drew = W1 at *
  have CK := Lib.hid (HKd.out W1 (HW.out.trans (HT0.out.bel.mono hBs)))
  go_wp2_with fail
  refine CK.out.mono ?_
  rintro e w2 ⟨kv, rfl, o2, b2⟩
  have hL : (plI (ks.plc (a + 1))).length = ks.len := by unfold plI; rw [List.length_map]; exact HPl.out.1
  have hO : w2.ownsRow (w.heap.size + 2) 3 1 kv ks.len ((plI (ks.plc (a + 1))).map (Value.int .i64)) := by
    rw [← hL]
    exact own_base o2 HT0.out.lt
  obtain ⟨K3, d3, rfl⟩ := own_slice hO
  have HT2 : Hid (TL w0.heap.size w.heap.size w sp lo Aa na ca (.slice K3 ks.len d3) (plI (ks.plc (a + 1))) (ks.take 0).pln 0 (.slice none 0 0) w2) := Lib.hid (by
    have h := HT0.out.keep b2
    exact ⟨h.own, h.box, h.res, by unfold OwnI; rw [hL]; exact hO, h.bel, h.lt⟩)
  have HL := Lib.hid hL
  clear o2 b2 hO CK HT0 HKd hL
  go_wp2_with fail
  go_loopw [7] (fun i wr => ∃ (k : Nat) (v : Value), i = .int .i64 k ∧ k ≤ ks.len ∧ Hid (TL w0.heap.size w.heap.size w sp lo Aa na ca (.slice K3 ks.len d3) (plI (ks.plc (a + 1))) (ks.take k).pln k v wr)) (fun i _ => ks.len - (intOf i).toNat)
  case atStart => exact ⟨0, _, rfl, Nat.zero_le _, HT2⟩
  case round =>
    clear HT2
    obtain ⟨k, v, rfl, hk, HT⟩ := hrel
    by_cases hlt : k < ks.len
    · have HT := Lib.hid (HT.out.keep ((Below.refl _ wr).drew))
      obtain ⟨vs, ho, hkv⟩ := HT.out.own
      obtain ⟨A3, c3, rfl⟩ := own_slice ho
      have Ho := Lib.hid ho
      have Hv := Lib.hid hkv
      clear ho hkv
      obtain ⟨_, _, _, _, _, y5⟩ := cells6 HT.out.box
      have g1 : (k : Int) < (ks.len : Int) := by omega
      have g0 : (0 : Int) ≤ (k : Int) := by omega
      obtain ⟨t, tx', sp', lo', ats', ks', hpl, hC⟩ := HCh.out k hlt
      have C := Lib.hid (hC wr.drew (HW.out.trans (HT.out.bel.mono hBs)))
      have Hp := Lib.hid hpl
      clear hC hpl
      obtain ⟨gk, rfl, ck⟩ := ints_at HT.out.ints HL.out (HPl.out.2 k hlt)
      generalize a + 1 + (ks.take k).evs.length = p at *
      have hl0 : w.heap.size + 2 ≤ wr.heap.size := HT.out.lt
      generalize hs : w.heap.size = s at *
      clear HCh
      go_wp2_with fail
      go_region_law (first
          | (refine step_append_lies _ (by rfl) (.tmp 41) (.tmp 48) 28 (by rfl) (s + 2) 30 i0 (.agg #[.bool false, .string ⟨#[]⟩, .string ⟨#[]⟩, .string ⟨#[]⟩, .slice none 0 0, .slice none 0 0]) 6 104 Try.underlying28 hi hz0 hz1 hz2 rfl (by decide) (.slice A3 k c3) k vs (by simp [Act.eval, Act.put]) o6.out ⟨w5.heap.size, 0, none⟩ 1 1 [.bool u, .string ux, .string us, .string ul, .slice u1 u2 u3, .slice u4 u5 u6] (by simp [Act.eval, Act.put]) rfl N6.out (tree_one _ _ _ _ _ _ _ _ _ _) (by decide) (by unfold maxLen; omega) (by omega) z6.out _ rfl ?_
             intro g cap w7 n1 n2 n3 n4
             have T7 := Lib.hid (T6.out.put hBs o6.out k6.out r6.out n1 n2 n3 n4)
             have x7 := (n2.block (s + 1) (Nat.lt_of_succ_le z6.out) (fun e => by have := (World.ownsRow.lt o6.out _ e.symm).1; omega)).trans T6.out.box
             have e7 := (cells6 x7).2.2.2.2.2
             have f7 := froz_of x7 5
             clear n1 n2 n3 n4 x7)
          | (go_simp; go_at_call 13; refine C.out.mono ?_; rintro e w5 ⟨u, ux, us, ul, ua, uk, u1, u2, u3, u4, u5, u6, hq, rfl, tr, hb5⟩
             have l5 : s + 1 < w5.heap.size := Nat.lt_of_lt_of_le (Nat.lt_of_succ_le hl0) hb5.size
             have s0 : w5.cell? ⟨s + 1, 5, none⟩ = some (.slice A3 k c3) := (hb5.cell (p := ⟨s + 1, 5, none⟩) (Nat.lt_of_succ_le hl0)).trans y5
             have s1 : (w5.alloc (.cells #[.bool u, .string ux, .string us, .string ul, .slice u1 u2 u3, .slice u4 u5 u6] 30)).cell? ⟨s + 1, 5, none⟩ = some (.slice A3 k c3) := (World.cell?_alloc_lt _ _ _ l5).trans s0
             have B6 := Lib.hid ((Below.refl _ w5).alloc (Nat.le_refl _) (.cells #[.bool u, .string ux, .string us, .string ul, .slice u1 u2 u3, .slice u4 u5 u6] 30))
             have T6 := Lib.hid ((HT.out.keep hb5).keep B6.out)
             have o6 := Lib.hid (own_keep (own_keep Ho.out hb5) B6.out)
             have k6 := Lib.hid (Hv.out.map fun t => ((t.keep hb5).keep B6.out).mono fun b hp => hp.mono (Nat.le_trans hb5.size B6.out.size))
             have r6 := Lib.hid ((tr.keep B6.out).mono fun b hp => HT.out.child hBs Ho.out B6.out.size hp)
             have h6 := Lib.hid hq
             have N6 := Lib.hid (lit_cells w5 #[.bool u, .string ux, .string us, .string ul, .slice u1 u2 u3, .slice u4 u5 u6] 30)
             have z6 := Lib.hid T6.out.lt
             clear tr hq hb5)
          | fail)
      all_goals
        go_wp2_with fail
        go_roundw
      all_goals
        first
          | exact ⟨k + 1, _, by go_num, by omega, Lib.hid (by rw [Hp.out, h6.out]; exact T7.out)⟩
          | (simp only [intOf]; omega)
    · have hke : k = ks.len := by omega
      subst hke
      have g1 : ¬ (ks.len : Int) < (ks.len : Int) := by omega
      rw [take_all] at HT
      obtain ⟨vs, ho, hkv⟩ := HT.out.own
      have hl0 := HT.out.lt
      obtain ⟨A3, c3, rfl, hin⟩ := own_ks (P := fun b => (b < w0.heap.size ∨ w.heap.size ≤ b) ∧ b < wr.heap.size ∧ b ≠ w.heap.size) ho (hkv.map fun t => t.mono fun b hp => ⟨hp.1, hp.2.1, hp.2.2.1⟩) (len_pln ks).symm (by omega) (fun g hg => by have := World.ownsRow.lt ho g hg; omega)
      have HR : Hid (Tr1 (fun b => (b < w0.heap.size ∨ w.heap.size ≤ b) ∧ b < wr.heap.size ∧ b ≠ w.heap.size) wr emB sp lo ats ks.pln Aa na ca A3 ks.len c3) := Lib.hid ⟨⟨by show emB.size ≤ maxLen; decide, HRs.out.sp, HRs.out.lo⟩, HTA.out.keep (HW.out.trans (HT.out.bel.mono hBs)), fun h0 b e => by
        have h1 : b.block < w0.heap.size := HTA.out.low h0 b e
        exact ⟨.inl h1, by omega, by omega⟩, hin⟩
      obtain ⟨y0, y1, y2, y3, y4, y5⟩ := cells6 HT.out.box
      obtain ⟨r0, r1, r2, r3, r4, r5⟩ := cells6 HT.out.res
      have f0 := froz_of HT.out.res 0
      have f1 := froz_of HT.out.res 1
      have f2 := froz_of HT.out.res 2
      have f3 := froz_of HT.out.res 3
      have f4 := froz_of HT.out.res 4
      have f5 := froz_of HT.out.res 5
      clear ho hkv hin HCh
      obtain ⟨h6, g6⟩ := put6 (.bool false) (.string ⟨#[]⟩) (.string sp) (.string lo) (.slice Aa na ca) (.slice A3 ks.len c3) HT.out.res
      obtain ⟨e0, e1, e2, e3, e4, e5⟩ := cells6 h6
      have HR6 : Hid (Tr1 (fun b => (b < w0.heap.size ∨ w.heap.size ≤ b) ∧ b < (put6W wr w.heap.size (.bool false) (.string ⟨#[]⟩) (.string sp) (.string lo) (.slice Aa na ca) (.slice A3 ks.len c3)).heap.size) (put6W wr w.heap.size (.bool false) (.string ⟨#[]⟩) (.string sp) (.string lo) (.slice Aa na ca) (.slice A3 ks.len c3)) emB sp lo ats ks.pln Aa na ca A3 ks.len c3) := Lib.hid ((HR.out.grown g6 (fun b hp e => hp.2.2 (by injection e))).mono fun b hp => ⟨hp.1, Nat.lt_of_lt_of_le hp.2.1 g6.size⟩)
      have HB6 : Hid (Below w.heap.size w (put6W wr w.heap.size (.bool false) (.string ⟨#[]⟩) (.string sp) (.string lo) (.slice Aa na ca) (.slice A3 ks.len c3))) := Lib.hid (HT.out.bel.grown g6 HT.out.bel.size (fun j hj => by injection hj with hj; omega))
      have H6 := Lib.hid h6
      clear h6 g6 e0 e1 e2 e3 e4 e5 HR
      go_wp2
      change bodyPost _ _ _ _ _ (put6W wr w.heap.size (.bool false) (.string ⟨#[]⟩) (.string sp) (.string lo) (.slice Aa na ca) (.slice A3 ks.len c3))
      generalize put6W wr w.heap.size (.bool false) (.string ⟨#[]⟩) (.string sp) (.string lo) (.slice Aa na ca) (.slice A3 ks.len c3) = W6 at *
      obtain ⟨e0, e1, e2, e3, e4, e5⟩ := cells6 H6.out
      clear y0 y1 y2 y3 y4 y5 r0 r1 r2 r3 r4 r5 f0 f1 f2 f3 f4 f5
      refine bodyPost_ret (v := .agg #[.bool false, .string ⟨#[]⟩, .string sp, .string lo, .slice Aa na ca, .slice A3 ks.len c3]) (by simp [results, Try.results13, go_sem, e0, e1, e2, e3, e4, e5]) rfl ?_
      exact ⟨false, emB, sp, lo, ats, ks.pln, Aa, na, ca, A3, ks.len, c3, by rw [Fo.pln, if_neg (by decide)]; rfl, rfl, HR6.out, HB6.out⟩
theorem tree_all {w0 : World} {A : Option Addr} {n c : Nat} {l : List RE} (T : EvsIn w0 A n c l) (hn : n ≤ 100000) : ∀ N, TreC N w0 A n c l
  | 0 => fun pre post t tx sp lo ats ks h => by omega
  | N + 1 => fun pre post t tx sp lo ats ks h hl W hW => by
    cases t
    · exact tree_el N (Lib.hid (tree_all T hn N)) T hn pre post tx sp lo ats ks h hl W hW
    · exact tree_text T hn pre post tx sp lo ats ks hl W hW
end Go.Proofs.Ytaoggciebkaakaa.Ev
