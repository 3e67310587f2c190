/-
  Merged by program out of the texts TpL3M, TpL3, TpOpen of one seat.
-/
import Derived.Test.YtaoggciebkaakaaG14
import Derived.Test.YtaoggciebkaakaaG04
import Derived.Test.YtaoggciebkaakaaG06
import Derived.Test.YtaoggciebkaakaaG05
import Derived.Deep.RegionHeld3

/- TreeMakes: the plan in memory; what the document's answers are at a node's place. -/
set_option linter.unusedSimpArgs false
set_option linter.unusedVariables false
namespace Go.Proofs.Ytaoggciebkaakaa.Ev
open Go.RowKit

structure MkX (w : World) (g0 k0 g1 k1 g2 k2 g3 k3 : Nat) (A4 : Option Addr) (m k4 pb : Nat) (X : Fo) (W : World) : Prop where
  box : W.heap[pb]? = some (.cells #[.slice (some ⟨g0, 0, none⟩) m k0, .slice (some ⟨g1, 0, none⟩) m k1, .slice (some ⟨g2, 0, none⟩) m k2, .slice (some ⟨g3, 0, none⟩) m k3, .slice A4 m k4] 43 (0, 0))
  r0 : ∀ (j : Nat) (x : Int), (X.parL 0 (-1))[j]? = some x → W.cell? ⟨g0, j, none⟩ = some (.int .i64 x)
  r1 : ∀ (j : Nat) (x : Int), (X.fstL 0)[j]? = some x → W.cell? ⟨g1, j, none⟩ = some (.int .i64 x)
  r2 : ∀ (j : Nat) (x : Int), (X.nxtL 0)[j]? = some x → W.cell? ⟨g2, j, none⟩ = some (.int .i64 x)
  r3 : ∀ (j : Nat) (x : Int), X.sizL[j]? = some x → W.cell? ⟨g3, j, none⟩ = some (.int .i64 x)
  tr : KsIn (fun _ => True) W X.treL A4 m k4
  bel : Below w.heap.size w W
theorem MkX.keep {w : World} {g0 k0 g1 k1 g2 k2 g3 k3 : Nat} {A4 : Option Addr} {m k4 pb : Nat} {X : Fo} {W W' : World} (h : MkX w g0 k0 g1 k1 g2 k2 g3 k3 A4 m k4 pb X W) (hb : Below W.heap.size W W') : MkX w g0 k0 g1 k1 g2 k2 g3 k3 A4 m k4 pb X W' :=
  ⟨(hb.block _ (Array.getElem?_eq_some_iff.1 h.box).1).trans h.box, fun j x e => cell_lt (h.r0 j x e) hb, fun j x e => cell_lt (h.r1 j x e) hb, fun j x e => cell_lt (h.r2 j x e) hb, fun j x e => cell_lt (h.r3 j x e) hb, h.tr.keep hb, h.bel.trans (hb.mono h.bel.size)⟩
/-- The plan that Make answers. -/
theorem plan_mk {w W : World} {B : Nat} {v : Nat → Value} {v4 : Value} {X : Fo} (h : PlanAt W B v v4 X) (hc : 0 < X.cnt) (hb : Below w.heap.size w W) : ∃ g0 k0 g1 k1 g2 k2 g3 k3 A4 k4, v 0 = .slice (some ⟨g0, 0, none⟩) X.cnt k0 ∧ v 1 = .slice (some ⟨g1, 0, none⟩) X.cnt k1 ∧ v 2 = .slice (some ⟨g2, 0, none⟩) X.cnt k2 ∧ v 3 = .slice (some ⟨g3, 0, none⟩) X.cnt k3 ∧ v4 = .slice A4 X.cnt k4 ∧
    MkX w g0 k0 g1 k1 g2 k2 g3 k3 A4 X.cnt k4 W.heap.size X (W.alloc (.cells #[.slice (some ⟨g0, 0, none⟩) X.cnt k0, .slice (some ⟨g1, 0, none⟩) X.cnt k1, .slice (some ⟨g2, 0, none⟩) X.cnt k2, .slice (some ⟨g3, 0, none⟩) X.cnt k3, .slice A4 X.cnt k4] 43)) := by
  have rd : ∀ i, i < 4 → ∃ g k, v i = .slice (some ⟨g, 0, none⟩) X.cnt k ∧ ∀ (j : Nat) (x : Int), (PLs X i)[j]? = some x → W.cell? ⟨g, j, none⟩ = some (.int .i64 x) := fun i hi => by
    have o := h.own i hi
    obtain ⟨g, k, e, _⟩ := o.form hc
    rw [e] at o
    refine ⟨g, k, e, fun j x hx => ?_⟩
    have := World.ownsRow.cells o (g := g) rfl j (.int .i64 x) (by rw [List.getElem?_map, hx]; rfl)
    rw [add_at] at this
    exact this
  obtain ⟨g0, k0, e0, r0⟩ := rd 0 (by decide)
  obtain ⟨g1, k1, e1, r1⟩ := rd 1 (by decide)
  obtain ⟨g2, k2, e2, r2⟩ := rd 2 (by decide)
  obtain ⟨g3, k3, e3, r3⟩ := rd 3 (by decide)
  obtain ⟨A4, k4, e4, k⟩ := h.tr
  have hk := (Below.refl W.heap.size W).alloc (Nat.le_refl _) (.cells #[.slice (some ⟨g0, 0, none⟩) X.cnt k0, .slice (some ⟨g1, 0, none⟩) X.cnt k1, .slice (some ⟨g2, 0, none⟩) X.cnt k2, .slice (some ⟨g3, 0, none⟩) X.cnt k3, .slice A4 X.cnt k4] 43)
  exact ⟨g0, k0, g1, k1, g2, k2, g3, k3, A4, k4, e0, e1, e2, e3, e4, nblk W 43 _, fun j x e => cell_lt (r0 j x e) hk, fun j x e => cell_lt (r1 j x e) hk, fun j x e => cell_lt (r2 j x e) hk, fun j x e => cell_lt (r3 j x e) hk, k.keep hk, hb.trans (hk.mono hb.size)⟩
/-- What the document answers at a node's place. -/
structure Pl (w : World) (A : Option Addr) (n c : Nat) (l : List RE) (i : Nat) (t : Bool) (tx sp lo : ByteArray) (ats : List P3) (ks : Fo) : Prop where
  kids : ∀ W, Below w.heap.size w W → Calls Try.prog 22 #[.slice A n c, .int .i64 (i : Int)] W fun e w' => ∃ K d, e = .returned (.slice K (kidF t ks).len d) ∧ w'.ownsRow W.heap.size 3 1 (.slice K (kidF t ks).len d) (kidF t ks).len ((plI ((kidF t ks).plc (i + 1))).map (Value.int .i64)) ∧ Below W.heap.size W w'
  numb : ∀ W j, Below w.heap.size w W → j < (kidF t ks).len → Calls Try.prog 21 #[.slice A n c, .int .i64 ((i + 1 + ((kidF t ks).take j).evs.length : Nat) : Int)] W fun e w' => e = .returned (.int .i64 ((numG (l.take i) + 1 + ((kidF t ks).take j).cnt : Nat) : Int)) ∧ W = w'
  ends : ∀ W, Below w.heap.size w W → Calls Try.prog 24 #[.slice A n c, .int .i64 (i : Int)] W fun e w' => e = .returned (.int .i64 ((i + (Fo.cons t tx sp lo ats ks .nil).evs.length : Nat) : Int)) ∧ W = w'
  nume : ∀ W, Below w.heap.size w W → Calls Try.prog 21 #[.slice A n c, .int .i64 ((i + (Fo.cons t tx sp lo ats ks .nil).evs.length : Nat) : Int)] W fun e w' => e = .returned (.int .i64 ((numG (l.take i) + (Fo.cons t tx sp lo ats ks .nil).cnt : Nat) : Int)) ∧ W = w'
  tree : ∀ W, Below w.heap.size w W → Calls Try.prog 13 #[.slice A n c, .int .i64 (i : Int)] W fun e w' => ∃ Aa na ca Ak nk ck, e = .returned (.agg #[.bool t, .string tx, .string sp, .string lo, .slice Aa na ca, .slice Ak nk ck]) ∧ Tr1 (fun _ => True) w' tx sp lo ats ks Aa na ca Ak nk ck ∧ Below W.heap.size W w'
theorem pl_mk {w : World} {A : Option Addr} {n c : Nat} {l : List RE} (T : EvsIn w A n c l) (hn : n ≤ 1000) {pre post : List RE} {t : Bool} {tx sp lo : ByteArray} {ats : List P3} {ks : Fo} (hl : l = pre ++ (Fo.cons t tx sp lo ats ks .nil).evs ++ post) (hp : (Fo.cons t tx sp lo ats ks .nil).pln = .cons t tx sp lo ats ks .nil) : Pl w A n c l pre.length t tx sp lo ats ks := by
  have hln : n = pre.length + (Fo.cons t tx sp lo ats ks .nil).evs.length + post.length := by rw [T.len, hl, List.length_append, List.length_append]
  have htk : l.take pre.length = pre := by rw [hl, List.append_assoc, List.take_left]
  refine ⟨fun W hW => ?_, fun W j hW hj => ?_, fun W hW => ?_, fun W hW => ?_, fun W hW => ?_⟩
  · cases t with
    | true =>
      have hx : l[pre.length]? = some ⟨2, emB, emB, [], tx⟩ := by
        rw [hl, List.append_assoc, List.getElem?_append_right (Nat.le_refl _), Nat.sub_self, Fo.evs, if_pos rfl]
        rfl
      refine (kids_text A n c l pre.length _ W (T.keep hW) hx (show (2 : Int) ≠ 1 by decide)).mono fun e w' h => ?_
      obtain ⟨rfl, rfl⟩ := h
      exact ⟨none, 0, rfl, World.ownsRow_nil _ _ _ _, Below.refl _ _⟩
    | false =>
      have he2 : (Fo.cons false emB sp lo ats ks .nil).evs = (Fo.cons false tx sp lo ats ks .nil).evs := by rw [evs_el, evs_el]
      refine (kids_el A n c pre post sp lo ats ks W (by rw [he2, ← hl]; exact T.keep hW) (by omega)).mono fun e w' h => ?_
      obtain ⟨v, rfl, o, b⟩ := h
      have hle : (plI (ks.plc (pre.length + 1))).length = ks.len := by unfold plI; rw [List.length_map, plc_len]
      have o' : w'.ownsRow W.heap.size 3 1 v ks.len ((plI (ks.plc (pre.length + 1))).map (Value.int .i64)) := by rw [← hle]; exact o
      obtain ⟨K, d, rfl⟩ := own_slice o'
      exact ⟨K, d, rfl, o', b⟩
  · cases t with
    | true => exact absurd hj (Nat.not_lt_zero j)
    | false =>
      have hj : j < ks.len := hj
      have hkl : (ks.take j).evs.length ≤ ks.evs.length := by
        conv => rhs; rw [← take_drop_F j ks]
        rw [evs_app, List.length_append]
        omega
      rw [evs_el] at hln hl
      simp only [List.length_append, List.length_singleton] at hln
      refine (number_any A n c l (pre.length + 1 + (ks.take j).evs.length) W (T.keep hW) (by omega) (by omega)).mono fun e w' h => ?_
      obtain ⟨rfl, rfl⟩ := h
      refine ⟨?_, rfl⟩
      have e1 : l.take (pre.length + 1 + (ks.take j).evs.length) = pre ++ [(⟨1, sp, lo, ats, emB⟩ : RE)] ++ (ks.take j).evs := by
        have hks : ks.evs = (ks.take j).evs ++ (ks.drop j).evs := by rw [← evs_app, take_drop_F]
        rw [hl, hks]
        have : pre ++ ([(⟨1, sp, lo, ats, emB⟩ : RE)] ++ ((ks.take j).evs ++ (ks.drop j).evs) ++ [clE]) ++ post = (pre ++ [(⟨1, sp, lo, ats, emB⟩ : RE)] ++ (ks.take j).evs) ++ ((ks.drop j).evs ++ [clE] ++ post) := by simp
        rw [this, List.take_left' (by simp; omega)]
      rw [e1, num_app, num_app, num_evs, htk]
      rfl
  · have hd : l.drop pre.length = (Fo.cons t tx sp lo ats ks .nil).evs ++ post := by rw [hl, List.append_assoc, List.drop_left' rfl]
    refine (end_any A n c l pre.length W (T.keep hW) (by omega) (by omega)).mono fun e w' h => ?_
    rw [hd, end_one] at h
    exact h
  · refine (number_any A n c l _ W (T.keep hW) (by omega) (by omega)).mono fun e w' h => ?_
    have e1 : l.take (pre.length + (Fo.cons t tx sp lo ats ks .nil).evs.length) = pre ++ (Fo.cons t tx sp lo ats ks .nil).evs := by rw [hl, List.take_left' (by rw [List.length_append])]
    rw [e1, num_app, num_evs] at h
    rw [htk]
    exact h
  · refine (tree_all T (by omega) (ks.siz + 1) pre post t tx sp lo ats ks (Nat.lt_succ_self _) hl W hW).mono fun e w' h => ?_
    obtain ⟨t', tx', sp', lo', ats', ks', Aa, na, ca, Ak, nk, ck, e1, e2, e3, e4⟩ := h
    rw [hp] at e1
    injection e1 with q0 q1 q2 q3 q4 q5 _
    subst q0 q1 q2 q3 q4 q5
    exact ⟨Aa, na, ca, Ak, nk, ck, e2, e3.mono fun _ _ => trivial, e4⟩
/-- The j-th place of a node's children, in memory. -/
theorem kid_at {W : World} {B m d i j : Nat} {K : Option Addr} {f : Fo} (h : W.ownsRow B 3 1 (.slice K m d) m ((plI (f.plc i)).map (Value.int .i64))) (hm : m = f.len) (hj : j < m) : ∃ g, K = some ⟨g, 0, none⟩ ∧ W.cell? ⟨g, j, none⟩ = some (.int .i64 ((i + (f.take j).evs.length : Nat) : Int)) := by
  obtain ⟨g, cap, e, _⟩ := h.form (by omega)
  injection e with e1 e2 e3
  refine ⟨g, e1, ?_⟩
  rw [e1] at h
  have := World.ownsRow.cells h (g := g) rfl j (.int .i64 ((i + (f.take j).evs.length : Nat) : Int)) (by
    unfold plI
    rw [List.getElem?_map, List.getElem?_map, plc_get (by omega)]
    rfl)
  rw [add_at] at this
  exact this
end Go.Proofs.Ytaoggciebkaakaa.Ev

/- TreeMakes, over the contracts. -/
set_option linter.unusedSimpArgs false
set_option linter.unusedVariables false
namespace Go.Proofs.Ytaoggciebkaakaa.Ev
open Go.RowKit

theorem kid_evs (t : Bool) (tx sp lo : ByteArray) (ats : List P3) (ks : Fo) : (kidF t ks).evs.length + 1 ≤ (Fo.cons t tx sp lo ats ks .nil).evs.length := by
  unfold kidF
  cases t
  · rw [if_neg (by decide), evs_el]
    simp
  · rw [if_pos rfl]
    simp [Fo.evs]
set_option maxHeartbeats 8000000 in
set_option maxRecDepth 100000 in
theorem makes_law (A : Option Addr) (n c : Nat) (l : List RE) (at_ : Int) (w : World) (T : EvsIn w A n c l) : Calls Try.prog 5 #[.slice A n c, .int .i64 at_] w fun e w' => e = .returned (.bool true) ∧ Below w.heap.size w w' := by
  have HAw := Lib.hid awake_any
  have HF : Hid (∀ W, Below w.heap.size w W → Calls Try.prog 9 #[.slice A n c] W (FwPost l W)) := Lib.hid fun W hW => few_any A n c l W (T.keep hW)
  have HT := Lib.hid T
  clear T
  go_enter Try.func5, Try.ntmps5
  go_wp2_with fail
  refine (HAw.out w).mono ?_
  rintro e w1 ⟨rfl, b1⟩
  have HB1 := Lib.hid b1
  clear b1
  go_wp2_with fail
  refine (HF.out w1 HB1.out).mono ?_
  rintro e w2 ⟨bf, rfl, hf, rfl⟩
  cases bf with
  | false =>
    clear hf HF
    go_wp2_with fail
    refine (HAw.out w1).mono ?_
    rintro e w3 ⟨rfl, b3⟩
    have HB3 := Lib.hid (HB1.out.trans (b3.mono HB1.out.size))
    clear b3
    go_wp2
    go_ret
    exact ⟨rfl, HB3.out⟩
  | true =>
    obtain ⟨hl4, hfe⟩ := hf rfl
    have hn4 : n ≤ 400 := by rw [HT.out.len]; exact hl4
    have hB : ∀ x ∈ l, RgB x := fun x hx => by
      obtain ⟨k, hk⟩ := List.getElem?_of_mem hx
      exact few_rgb (hfe k x hk)
    have CWh := whole_any plF rtF (Lib.hid ev_all) A n c l w1 (HT.out.keep HB1.out) (by omega) hfe
    have HR := Lib.hid hB
    clear hfe hB hf HF
    by_cases hW : depF plF rtF l = 0 ∧ 0 < n
    · have hne : l ≠ [] := fun e => by have := HT.out.len; rw [e, List.length_nil] at this; omega
      rw [decide_eq_true hne, decide_eq_true hW.1] at CWh
      have CW := Lib.hid CWh
      obtain ⟨sp, lo, ats, ks, hl, hp⟩ := doc_tree hW.1 hne
      have hpl : (Fo.cons false emB sp lo ats ks .nil).pln = .cons false emB sp lo ats ks .nil := by
        rw [Fo.pln, if_neg (by decide), hp]
        rfl
      have hcl : (Fo.cons false emB sp lo ats ks .nil).cnt = numG l := by rw [hl, num_evs]
      have hcn : numG l ≤ 400 := Nat.le_trans (num_le l) hl4
      have hc1 : 1 ≤ numG l := by rw [← hcl, cnt_cons]; omega
      have CO2 : Hid (∀ W, Below w.heap.size w W → Calls Try.prog 10 #[.slice A n c] W fun e w' => ∃ Aa na ca Ak nk ck, e = .returned (.tuple #[.agg #[.bool false, .string emB, .string sp, .string lo, .slice Aa na ca, .slice Ak nk ck], .bool true]) ∧ Tr1 (Lo W.heap.size w') w' emB sp lo ats ks Aa na ca Ak nk ck ∧ Below W.heap.size W w') := Lib.hid fun W h => ((tof_any A n c l W (HT.out.keep h) (by omega) HR.out).mono fun e w' h => of_at h hl hp hW.1 hW.2)
      have CM : Hid (∀ W Aa na ca Ak nk ck, Tr1 (· < W.heap.size) W emB sp lo ats ks Aa na ca Ak nk ck → Calls Try.prog 20 #[.agg #[.bool false, .string emB, .string sp, .string lo, .slice Aa na ca, .slice Ak nk ck]] W fun e w' => ∃ v v4, e = .returned (.agg #[v 0, v 1, v 2, v 3, v4]) ∧ PlanAt w' W.heap.size v v4 (Fo.cons false emB sp lo ats ks .nil) ∧ Below W.heap.size W w') := Lib.hid fun W Aa na ca Ak nk ck tr => tmake_any false emB sp lo ats ks Aa na ca Ak nk ck W tr (by rw [hcl]; omega)
      have CN : Hid (∀ W, Below w.heap.size w W → Calls Try.prog 21 #[.slice A n c, .int .i64 (n : Int)] W fun e w' => e = .returned (.int .i64 ((numG l : Nat) : Int)) ∧ W = w') := Lib.hid fun W h => by
        have q := number_any A n c l n W (HT.out.keep h) (by omega) (Nat.le_refl _)
        rw [show l.take n = l by rw [HT.out.len, List.take_length]] at q
        exact q
      have HNode : Hid (∀ (i : Nat) (x : RE), l[i]? = some x → x.kind ≠ 3 → ∃ t tx sp' lo' ats' ks', Pl w A n c l i t tx sp' lo' ats' ks' ∧ Nd (Fo.cons false emB sp lo ats ks .nil) 0 (-1) (numG (l.take i)) t tx sp' lo' ats' ks' ∧ i + (Fo.cons t tx sp' lo' ats' ks' .nil).evs.length ≤ n) := Lib.hid fun i x hx hk => by
        rw [hl] at hx
        obtain ⟨pre, t, tx, sp', lo', ats', ks', post, e1, e2, e3, e4⟩ := node_at _ 0 (-1) i x hx hk
        have e5 : l = pre ++ (Fo.cons t tx sp' lo' ats' ks' .nil).evs ++ post := hl.trans e1
        refine ⟨t, tx, sp', lo', ats', ks', ?_, ?_, by rw [HT.out.len, e5, ← e2, List.length_append, List.length_append]; omega⟩
        · rw [← e2]
          exact pl_mk HT.out (by omega) e5 (e4 hpl)
        · rw [show l.take i = pre by rw [e5, ← e2, List.append_assoc, List.take_left]]
          exact e3
      have Hcl := Lib.hid hcl
      clear hW hne hl hp CWh hpl HAw hcl
      generalize hm : numG l = m at *
      have Hm := Lib.hid hm
      clear hm
      have hX0 : Hid ((Fo.parL (Fo.cons false emB sp lo ats ks .nil) 0 (-1))[0]? = some (-1) ∧ (Fo.nxtL (Fo.cons false emB sp lo ats ks .nil) 0)[0]? = some (-1)) := Lib.hid ⟨by rw [par_cons]; rfl, by rw [nxt_cons]; rfl⟩
      generalize hX : Fo.cons false emB sp lo ats ks .nil = X at HNode Hcl hX0
      have HX := Lib.hid hX
      clear hX
      go_wp2_with fail
      refine CW.out.mono ?_
      rintro e w2 ⟨rfl, b2⟩
      have HB2 := Lib.hid (HB1.out.trans (b2.mono HB1.out.size))
      clear b2 HB1 CW
      go_wp2_with fail
      refine (CO2.out w2 HB2.out).mono ?_
      rintro e w3 ⟨Aa, na, ca, Ak, nk, ck, rfl, tr, b3⟩
      have X3 : Hid (TbX w false emB sp lo ats ks Aa na ca Ak nk ck w3.heap.size (w3.alloc (.cells #[.bool false, .string emB, .string sp, .string lo, .slice Aa na ca, .slice Ak nk ck] 30))) := Lib.hid (TbX.mk' (HB2.out.trans (b3.mono HB2.out.size)) tr)
      clear tr b3 CO2 HB2
      go_upto_region 4 with fail
      generalize w3.alloc (.cells #[.bool false, .string emB, .string sp, .string lo, .slice Aa na ca, .slice Ak nk ck] 30) = W3 at *
      generalize w3.heap.size = tb at *
      obtain ⟨d0, d1, d2, d3, d4, d5⟩ := X3.out.s6
      go_wp2_with fail
      refine (CM.out W3 _ _ _ _ _ _ X3.out.tr).mono ?_
      rintro e w4 ⟨v, v4, rfl, P4, b4⟩
      rw [HX.out] at P4
      have hXm : X.cnt = m := Hcl.out
      obtain ⟨g0, k0, g1, k1, g2, k2, g3, k3, A4, k4, e0, e1, e2, e3, e4, M4⟩ := plan_mk P4 (by omega) (X3.out.bel.trans (b4.mono X3.out.bel.size))
      rw [e0, e1, e2, e3, e4, hXm]
      rw [hXm] at M4
      have HM := Lib.hid M4
      clear P4 b4 e0 e1 e2 e3 e4 M4 hXm d0 d1 d2 d3 d4 d5 X3 CM
      go_upto_region 7 with fail
      generalize w4.alloc (.cells #[.slice (some ⟨g0, 0, none⟩) m k0, .slice (some ⟨g1, 0, none⟩) m k1, .slice (some ⟨g2, 0, none⟩) m k2, .slice (some ⟨g3, 0, none⟩) m k3, .slice A4 m k4] 43) = W4 at *
      generalize w4.heap.size = pb at *
      obtain ⟨c0, c1, c2, c3, c4⟩ := cells5 HM.out.box
      have z0 := HM.out.r0 0 _ hX0.out.1
      have z2 := HM.out.r2 0 _ hX0.out.2
      have i0 : (0 : Int) < (m : Int) := by omega
      go_wp2_with fail
      refine (CN.out W4 HM.out.bel).mono ?_
      rintro e w5 ⟨rfl, rfl⟩
      clear CN
      go_wp2_with fail
      clear c0 c1 c2 c3 c4 z0 z2
      go_loopw [9, 10] (fun v9 v10 wr => ∃ i nn : Nat, v10 = .int .i64 i ∧ v9 = .int .i64 nn ∧ i ≤ n ∧ nn ≤ i ∧ Hid (nn = numG (l.take i)) ∧ Hid (MkX w g0 k0 g1 k1 g2 k2 g3 k3 A4 m k4 pb X wr)) (fun _ v10 _ => n - (intOf v10).toNat)
      case atStart => exact ⟨0, 0, rfl, rfl, Nat.zero_le _, Nat.le_refl _, Lib.hid (by rw [List.take_zero]; rfl), HM⟩
      case round =>
        clear HM
        obtain ⟨i, nn, rfl, rfl, hi, hnn, HN, HM⟩ := hrel
        by_cases hlt : i < n
        · have h1 : (i : Int) < (n : Int) := by omega
          have h0 : (0 : Int) ≤ (i : Int) := by omega
          have hil : i < l.length := by rw [← HT.out.len]; exact hlt
          have hx := List.getElem?_eq_getElem hil
          have HTk := Lib.hid (num_take hx)
          obtain ⟨b, off, Aa', na', ca', rfl, hb, _, c0, _, _, _, _⟩ := (HT.out.keep HM.out.bel).rd i _ hx
          have HNd : Hid (l[i].kind ≠ 3 → ∃ t tx sp' lo' ats' ks', Pl w (some ⟨b, off, none⟩) n c l i t tx sp' lo' ats' ks' ∧ Nd X 0 (-1) (numG (l.take i)) t tx sp' lo' ats' ks' ∧ i + (Fo.cons t tx sp' lo' ats' ks' .nil).evs.length ≤ n) := Lib.hid fun hk => HNode.out i _ hx hk
          generalize l[i] = x at *
          obtain ⟨kind, xs, xl, xa, xt⟩ := x
          dsimp only at c0 HNd HTk
          clear hx hil HNode
          by_cases hk3 : kind = 3
          · have HN2 : Hid (nn = numG (l.take (i + 1))) := Lib.hid (by rw [HTk.out, if_pos hk3, HN.out]; rfl)
            subst hk3
            clear HNd HTk HN
            go_wp2
            go_roundw
            case rel => exact ⟨i + 1, nn, by go_num, rfl, by omega, by omega, HN2, HM⟩
            case measure => simp only [intOf]; omega
          · have HN2 : Hid (nn + 1 = numG (l.take (i + 1))) := Lib.hid (by rw [HTk.out, if_neg hk3, HN.out])
            obtain ⟨t, tx, sp', lo', ats', ks', hP, hD, hE⟩ := HNd.out hk3
            have e3 : (kind == 3) = false := by simpa using hk3
            rw [← HN.out] at hD
            have HP := Lib.hid hP
            have HD := Lib.hid hD
            have CK := Lib.hid (hP.kids wr HM.out.bel)
            have CNb : Hid (∀ W j, Below w.heap.size w W → j < (kidF t ks').len → Calls Try.prog 21 #[.slice (some ⟨b, off, none⟩) n c, .int .i64 ((i + 1 + ((kidF t ks').take j).evs.length : Nat) : Int)] W fun e w' => e = .returned (.int .i64 ((nn + 1 + ((kidF t ks').take j).cnt : Nat) : Int)) ∧ W = w') := Lib.hid fun W j h hj => by
              have q := hP.numb W j h hj
              rw [← HN.out] at q
              exact q
            have hKe := kid_evs t tx sp' lo' ats' ks'
            have hKl : (kidF t ks').len ≤ 400 := by
              have := len_evs (kidF t ks')
              omega
            have HKp : Hid (∀ j, j < (kidF t ks').len → nn + 1 + ((kidF t ks').take j).cnt < m) := Lib.hid fun j hj => by
              have h1 := (List.getElem?_eq_some_iff.1 (hD.par j hj)).1
              rw [par_len, Hcl.out] at h1
              exact h1
            have HKq : Hid (∀ j, j < (kidF t ks').len → i + 1 + ((kidF t ks').take j).evs.length ≤ 400) := Lib.hid fun j hj => by
              have h1 : ((kidF t ks').take j).evs.length ≤ (kidF t ks').evs.length := by
                conv => rhs; rw [← take_drop_F j (kidF t ks')]
                rw [evs_app, List.length_append]
                omega
              omega
            have HDp : Hid (∀ j, j < (kidF t ks').len → (X.parL 0 (-1))[nn + 1 + ((kidF t ks').take j).cnt]? = some (nn : Int)) := Lib.hid fun j hj => by
              have q := hD.par j hj
              rw [Nat.zero_add] at q
              exact q
            have HDn : Hid (∀ j, j < (kidF t ks').len → (X.nxtL 0)[nn + 1 + ((kidF t ks').take j).cnt]? = some (if j + 1 < (kidF t ks').len then ((nn + 1 + ((kidF t ks').take (j + 1)).cnt : Nat) : Int) else -1)) := Lib.hid fun j hj => by
              have q := hD.nxt j hj
              rw [Nat.zero_add] at q
              exact q
            have hnm : nn < m := by
              have h1 := (List.getElem?_eq_some_iff.1 hD.siz).1
              rw [siz_len, Hcl.out] at h1
              exact h1
            have hcz : (Fo.cons t tx sp' lo' ats' ks' .nil).cnt ≤ 400 := by
              rw [← num_evs]
              have := num_le (Fo.cons t tx sp' lo' ats' ks' .nil).evs
              omega
            have HfiN : Hid ((X.fstL 0)[nn]? = some (if (kidF t ks').len = 0 then -1 else ((nn + 1 : Nat) : Int))) := Lib.hid (by
              have q := hD.fst
              rw [Nat.zero_add] at q
              exact q)
            have HAt : Hid (∀ W, MkX w g0 k0 g1 k1 g2 k2 g3 k3 A4 m k4 pb X W → Calls Try.prog 23 #[.agg #[.slice (some ⟨g0, 0, none⟩) m k0, .slice (some ⟨g1, 0, none⟩) m k1, .slice (some ⟨g2, 0, none⟩) m k2, .slice (some ⟨g3, 0, none⟩) m k3, .slice A4 m k4], .int .i64 (nn : Int)] W fun e w' => ∃ Ba ba bc Bk bk bd, e = .returned (.tuple #[.agg #[.bool t, .string tx, .string sp', .string lo', .slice Ba ba bc, .slice Bk bk bd], .bool true]) ∧ Tr1 (fun _ => True) w' tx sp' lo' ats' ks' Ba ba bc Bk bk bd ∧ Below W.heap.size W w') := Lib.hid fun W h => by
              refine (at_yes _ _ _ _ A4 m m m m m k0 k1 k2 k3 k4 X nn W Hcl.out.symm hnm h.tr).mono fun e w' q => ?_
              obtain ⟨q1, _, q3⟩ := q
              obtain ⟨t2, tx2, sp2, lo2, ats2, ks2, Ba, ba, bc, Bk, bk, bd, nx2, e1, e2, e3⟩ := q3 ⟨by omega, by have := Hcl.out; omega⟩
              obtain ⟨nx3, e4⟩ := hD.tre
              have e1' : X.treL.drop nn = .cons t2 tx2 sp2 lo2 ats2 ks2 nx2 := e1
              rw [e4] at e1'
              injection e1' with z0 z1 z2 z3 z4 z5 z6
              subst z0 z1 z2 z3 z4 z5
              exact ⟨Ba, ba, bc, Bk, bk, bd, e2, e3, q1⟩
            have HNe : Hid (∀ W, Below w.heap.size w W → Calls Try.prog 21 #[.slice (some ⟨b, off, none⟩) n c, .int .i64 ((i + (Fo.cons t tx sp' lo' ats' ks' .nil).evs.length : Nat) : Int)] W fun e w' => e = .returned (.int .i64 ((nn + (Fo.cons t tx sp' lo' ats' ks' .nil).cnt : Nat) : Int)) ∧ W = w') := Lib.hid fun W h => by
              have q := hP.nume W h
              rw [← HN.out] at q
              exact q
            have Hf3 := Lib.hid hD.siz
            generalize (Fo.cons t tx sp' lo' ats' ks' .nil).cnt = z at HNe Hf3 hcz
            generalize hez : nn + z = ez at HNe
            have Hez := Lib.hid hez
            clear hez
            generalize hK : kidF t ks' = K at CK CNb hKl HKp HKq HfiN HDp HDn
            have HK := Lib.hid hK
            clear hP hD hk3 HNd HTk hK hKe
            generalize hKm : K.len = mk at *
            have HKm := Lib.hid hKm
            clear hKm
            go_wp2_with fail
            refine CK.out.mono ?_
            rintro e w6 ⟨KA, d6, rfl, o6, b6⟩
            have HM6 := Lib.hid (HM.out.keep b6)
            generalize wr.heap.size = Bk at o6
            have HO6 := Lib.hid o6
            clear o6 b6 CK HM c0
            go_wp2_with fail
            go_loopw [12, 13] (fun v12 v13 wx => ∃ (j : Nat) (fi : Int), v13 = .int .i64 j ∧ v12 = .int .i64 fi ∧ j ≤ mk ∧ Hid (fi = if j = 0 then -1 else ((nn + 1 : Nat) : Int)) ∧ Hid (MkX w g0 k0 g1 k1 g2 k2 g3 k3 A4 m k4 pb X wx) ∧ Hid (wx.ownsRow Bk 3 1 (.slice KA mk d6) mk ((plI (K.plc (i + 1))).map (Value.int .i64)))) (fun _ v13 _ => mk - (intOf v13).toNat)
            case atStart => exact ⟨0, -1, rfl, rfl, Nat.zero_le _, Lib.hid (by rw [if_pos rfl]), HM6, HO6⟩
            case round =>
              clear HM6 HO6
              obtain ⟨j, fi, rfl, rfl, hj, Hfi, HM, HO⟩ := hrel
              by_cases hjl : j < mk
              · have j1 : (j : Int) < (mk : Int) := by omega
                have j0 : (0 : Int) ≤ (j : Int) := by omega
                obtain ⟨gk, rfl, ck⟩ := kid_at HO.out HKm.out.symm hjl
                have C1 := Lib.hid (CNb.out wr j HM.out.bel hjl)
                have hz1 := HKp.out j hjl
                have q1 := HM.out.r0 _ _ (HDp.out j hjl)
                have q2 := HM.out.r2 _ _ (HDn.out j hjl)
                have hpq := HKq.out j hjl
                obtain ⟨c5, _, c7, _, _⟩ := cells5 HM.out.box
                have e00 : (K.take 0).cnt = 0 := by cases K <;> rfl
                have x1 : ((nn + 1 + (K.take j).cnt : Nat) : Int) < (m : Int) := by omega
                have x0 : (0 : Int) ≤ ((nn + 1 + (K.take j).cnt : Nat) : Int) := by omega
                by_cases hj0 : j = 0
                · have hfi : fi = -1 := by rw [Hfi.out, if_pos hj0]
                  have Hz : Hid ((K.take j).cnt = 0) := Lib.hid (by rw [hj0]; exact e00)
                  have b0 : ((j : Int) == 0) = true := by rw [hj0]; rfl
                  subst hfi
                  generalize i + 1 + (K.take j).evs.length = pj at *
                  generalize hcn : nn + 1 + (K.take j).cnt = cn at *
                  have Hcn := Lib.hid hcn
                  clear hj0 Hfi e00 hcn
                  by_cases hj1 : j + 1 < mk
                  · have y1 : (j : Int) + 1 < (mk : Int) := by omega
                    rw [if_pos hj1] at q2
                    obtain ⟨gk', hgk, ck'⟩ := kid_at HO.out HKm.out.symm hj1
                    injection hgk with hgk
                    injection hgk with hgk
                    subst hgk
                    have C2 := Lib.hid (CNb.out wr (j + 1) HM.out.bel hj1)
                    have hpq2 := HKq.out (j + 1) hj1
                    generalize i + 1 + (K.take (j + 1)).evs.length = pj2 at *
                    generalize nn + 1 + (K.take (j + 1)).cnt = cn2 at *
                    go_wp2_with fail
                    refine C1.out.mono ?_
                    rintro e w8 ⟨rfl, rfl⟩
                    go_wp2_with fail
                    refine C2.out.mono ?_
                    rintro e w8 ⟨rfl, rfl⟩
                    go_wp2
                    go_roundw
                    case rel => exact ⟨j + 1, (cn : Int), by go_num, rfl, by omega, Lib.hid (by rw [if_neg (by omega), ← Hcn.out, Hz.out, Nat.add_zero]), HM, HO⟩
                    case measure => simp only [intOf]; omega
                  · have y1 : ¬ (j : Int) + 1 < (mk : Int) := by omega
                    rw [if_neg hj1] at q2
                    go_wp2_with fail
                    refine C1.out.mono ?_
                    rintro e w8 ⟨rfl, rfl⟩
                    go_wp2
                    go_roundw
                    case rel => exact ⟨j + 1, (cn : Int), by go_num, rfl, by omega, Lib.hid (by rw [if_neg (by omega), ← Hcn.out, Hz.out, Nat.add_zero]), HM, HO⟩
                    case measure => simp only [intOf]; omega
                · have Hj0 := Lib.hid hj0
                  have b0 : ((j : Int) == 0) = false := by rw [beq_eq_false_iff_ne]; omega
                  generalize i + 1 + (K.take j).evs.length = pj at *
                  generalize hcn : nn + 1 + (K.take j).cnt = cn at *
                  clear hj0 e00 hcn
                  by_cases hj1 : j + 1 < mk
                  · have y1 : (j : Int) + 1 < (mk : Int) := by omega
                    rw [if_pos hj1] at q2
                    obtain ⟨gk', hgk, ck'⟩ := kid_at HO.out HKm.out.symm hj1
                    injection hgk with hgk
                    injection hgk with hgk
                    subst hgk
                    have C2 := Lib.hid (CNb.out wr (j + 1) HM.out.bel hj1)
                    have hpq2 := HKq.out (j + 1) hj1
                    generalize i + 1 + (K.take (j + 1)).evs.length = pj2 at *
                    generalize nn + 1 + (K.take (j + 1)).cnt = cn2 at *
                    go_wp2_with fail
                    refine C1.out.mono ?_
                    rintro e w8 ⟨rfl, rfl⟩
                    go_wp2_with fail
                    refine C2.out.mono ?_
                    rintro e w8 ⟨rfl, rfl⟩
                    go_wp2
                    go_roundw
                    case rel => exact ⟨j + 1, fi, by go_num, rfl, by omega, Lib.hid (by rw [if_neg (by omega), Hfi.out, if_neg Hj0.out]), HM, HO⟩
                    case measure => simp only [intOf]; omega
                  · have y1 : ¬ (j : Int) + 1 < (mk : Int) := by omega
                    rw [if_neg hj1] at q2
                    go_wp2_with fail
                    refine C1.out.mono ?_
                    rintro e w8 ⟨rfl, rfl⟩
                    go_wp2
                    go_roundw
                    case rel => exact ⟨j + 1, fi, by go_num, rfl, by omega, Lib.hid (by rw [if_neg (by omega), Hfi.out, if_neg Hj0.out]), HM, HO⟩
                    case measure => simp only [intOf]; omega
              · have hjm : j = mk := by omega
                have j1 : ¬ (j : Int) < (mk : Int) := by omega
                have Hf1 : Hid ((X.fstL 0)[nn]? = some fi) := Lib.hid (by rw [HfiN.out, Hfi.out, hjm])
                obtain ⟨c5a, c5b, c5c, c5d, c5e⟩ := cells5 HM.out.box
                have CA := Lib.hid (HAt.out wr HM.out)
                clear Hfi HfiN HO hjm
                go_wp2_with fail
                refine CA.out.mono ?_
                rintro e w8 ⟨Ba, ba, bc, Bk, bk, bd, rfl, tr8, b8⟩
                have X8 : Hid (TbX w t tx sp' lo' ats' ks' Ba ba bc Bk bk bd w8.heap.size (w8.alloc (.cells #[.bool t, .string tx, .string sp', .string lo', .slice Ba ba bc, .slice Bk bk bd] 30))) := Lib.hid (TbX.mk' (HM.out.bel.trans (b8.mono HM.out.bel.size)) tr8)
                have M8 := Lib.hid ((HM.out.keep b8).keep ((Below.refl w8.heap.size w8).alloc (Nat.le_refl _) (.cells #[.bool t, .string tx, .string sp', .string lo', .slice Ba ba bc, .slice Bk bk bd] 30)))
                clear tr8 b8 CA c5a c5b c5c c5d c5e HM
                go_upto_region 29 with fail
                generalize w8.alloc (.cells #[.bool t, .string tx, .string sp', .string lo', .slice Ba ba bc, .slice Bk bk bd] 30) = W9 at *
                generalize w8.heap.size = xb at *
                have M9 := Lib.hid (M8.out.keep (Below.refl _ W9).drew)
                have X9 := Lib.hid (X8.out.keep (Below.refl _ W9).drew)
                clear M8 X8
                have S9 := Lib.hid (show W9.drew.cell? ⟨pb, 1, none⟩ = some (.slice (some ⟨g1, 0, none⟩) m k1) ∧ W9.drew.cell? ⟨pb, 3, none⟩ = some (.slice (some ⟨g3, 0, none⟩) m k3) ∧ W9.drew.cell? ⟨g1, nn, none⟩ = some (.int .i64 fi) ∧ W9.drew.cell? ⟨g3, nn, none⟩ = some (.int .i64 (z : Int)) ∧ (W9.drew.cell? ⟨xb, 0, none⟩ = some (.bool t) ∧ W9.drew.cell? ⟨xb, 1, none⟩ = some (.string tx) ∧ W9.drew.cell? ⟨xb, 2, none⟩ = some (.string sp') ∧ W9.drew.cell? ⟨xb, 3, none⟩ = some (.string lo') ∧ W9.drew.cell? ⟨xb, 4, none⟩ = some (.slice Ba ba bc) ∧ W9.drew.cell? ⟨xb, 5, none⟩ = some (.slice Bk bk bd)) from ⟨(cells5 M9.out.box).2.1, (cells5 M9.out.box).2.2.2.1, M9.out.r1 _ _ Hf1.out, M9.out.r3 _ _ Hf3.out, X9.out.s6⟩)
                have x1 : (nn : Int) < (m : Int) := by omega
                have x0 : (0 : Int) ≤ (nn : Int) := by omega
                have qn : IntKind.i64.wrap ((ez : Int) - (nn : Int)) = (z : Int) := by have := Hez.out; rw [IntWalk.i64_in _ (by omega)]; omega
                have CE := Lib.hid (HP.out.ends W9.drew M9.out.bel)
                have CU := Lib.hid (HNe.out W9.drew M9.out.bel)
                have CT := Lib.hid (HP.out.tree W9.drew M9.out.bel)
                go_region_held3 (fun W => W.cell? ⟨pb, 1, none⟩ = some (.slice (some ⟨g1, 0, none⟩) m k1) ∧ W.cell? ⟨pb, 3, none⟩ = some (.slice (some ⟨g3, 0, none⟩) m k3) ∧ W.cell? ⟨g1, nn, none⟩ = some (.int .i64 fi) ∧ W.cell? ⟨g3, nn, none⟩ = some (.int .i64 (z : Int)) ∧ (W.cell? ⟨xb, 0, none⟩ = some (.bool t) ∧ W.cell? ⟨xb, 1, none⟩ = some (.string tx) ∧ W.cell? ⟨xb, 2, none⟩ = some (.string sp') ∧ W.cell? ⟨xb, 3, none⟩ = some (.string lo') ∧ W.cell? ⟨xb, 4, none⟩ = some (.slice Ba ba bc) ∧ W.cell? ⟨xb, 5, none⟩ = some (.slice Bk bk bd)))
                  (first
                    | with_reducible exact S9.out
                    | with_reducible exact S10.out
                    | with_reducible exact S11.out
                    | fail)
                  (first
                    | (go_at_call 24
                       refine CE.out.mono ?_
                       rintro e w10 ⟨rfl, rfl⟩)
                    | (go_at_call 21
                       refine CU.out.mono ?_
                       rintro e w10 ⟨rfl, rfl⟩)
                    | (go_at_call 13
                       refine CT.out.mono ?_
                       rintro e w10 ⟨Da, da, dc, Dk, dk, dd, rfl, tr10, b10⟩
                       have M10 := Lib.hid (M9.out.keep b10)
                       have X10 := Lib.hid (X9.out.keep b10)
                       have R10 := Lib.hid tr10
                       have S10 := Lib.hid (show w10.cell? ⟨pb, 1, none⟩ = some (.slice (some ⟨g1, 0, none⟩) m k1) ∧ w10.cell? ⟨pb, 3, none⟩ = some (.slice (some ⟨g3, 0, none⟩) m k3) ∧ w10.cell? ⟨g1, nn, none⟩ = some (.int .i64 fi) ∧ w10.cell? ⟨g3, nn, none⟩ = some (.int .i64 (z : Int)) ∧ (w10.cell? ⟨xb, 0, none⟩ = some (.bool t) ∧ w10.cell? ⟨xb, 1, none⟩ = some (.string tx) ∧ w10.cell? ⟨xb, 2, none⟩ = some (.string sp') ∧ w10.cell? ⟨xb, 3, none⟩ = some (.string lo') ∧ w10.cell? ⟨xb, 4, none⟩ = some (.slice Ba ba bc) ∧ w10.cell? ⟨xb, 5, none⟩ = some (.slice Bk bk bd)) from ⟨(cells5 M10.out.box).2.1, (cells5 M10.out.box).2.2.2.1, M10.out.r1 _ _ Hf1.out, M10.out.r3 _ _ Hf3.out, X10.out.s6⟩)
                       clear b10 tr10)
                    | (go_at_call 12
                       refine (same_refl t tx sp' lo' ats' ks' Ba ba bc Bk bk bd Da da dc Dk dk dd _ _ w10 X10.out.tr R10.out).mono ?_
                       rintro e w11 ⟨rfl, b11⟩
                       have M11 := Lib.hid (M10.out.keep b11)
                       have X11 := Lib.hid (X10.out.keep b11)
                       have S11 := Lib.hid (show w11.cell? ⟨pb, 1, none⟩ = some (.slice (some ⟨g1, 0, none⟩) m k1) ∧ w11.cell? ⟨pb, 3, none⟩ = some (.slice (some ⟨g3, 0, none⟩) m k3) ∧ w11.cell? ⟨g1, nn, none⟩ = some (.int .i64 fi) ∧ w11.cell? ⟨g3, nn, none⟩ = some (.int .i64 (z : Int)) ∧ (w11.cell? ⟨xb, 0, none⟩ = some (.bool t) ∧ w11.cell? ⟨xb, 1, none⟩ = some (.string tx) ∧ w11.cell? ⟨xb, 2, none⟩ = some (.string sp') ∧ w11.cell? ⟨xb, 3, none⟩ = some (.string lo') ∧ w11.cell? ⟨xb, 4, none⟩ = some (.slice Ba ba bc) ∧ w11.cell? ⟨xb, 5, none⟩ = some (.slice Bk bk bd)) from ⟨(cells5 M11.out.box).2.1, (cells5 M11.out.box).2.2.2.1, M11.out.r1 _ _ Hf1.out, M11.out.r3 _ _ Hf3.out, X11.out.s6⟩)
                       clear b11)
                    | fail)
                all_goals
                  rename_i hHeld
                  clear hHeld
                  go_wp2
                  go_roundw
                  case rel => exact ⟨i + 1, nn + 1, by go_num, by go_num, by omega, by omega, HN2, M11⟩
                  case measure => simp only [intOf]; omega
        · have h1 : ¬ (i : Int) < (n : Int) := by omega
          obtain ⟨c5a, c5b, c5c, c5d, c5e⟩ := cells5 HM.out.box
          clear HNode HN hnn
          by_cases hat : 0 ≤ at_ ∧ at_ < (m : Int)
          · obtain ⟨q, hq⟩ : ∃ q : Nat, at_ = (q : Int) := ⟨at_.toNat, by omega⟩
            have CA : Hid (Calls Try.prog 23 #[.agg #[.slice (some ⟨g0, 0, none⟩) m k0, .slice (some ⟨g1, 0, none⟩) m k1, .slice (some ⟨g2, 0, none⟩) m k2, .slice (some ⟨g3, 0, none⟩) m k3, .slice A4 m k4], .int .i64 at_] wr fun e w' => ∃ t tx sp lo Aa na ca Ak nk ck, e = .returned (.tuple #[.agg #[.bool t, .string tx, .string sp, .string lo, .slice Aa na ca, .slice Ak nk ck], .bool true]) ∧ Below wr.heap.size wr w') := Lib.hid (by
              rw [hq]
              refine (at_yes _ _ _ _ A4 m m m m m k0 k1 k2 k3 k4 X q wr Hcl.out.symm (by omega) HM.out.tr).mono fun e w' h => ?_
              obtain ⟨q1, _, q3⟩ := h
              obtain ⟨t2, tx2, sp2, lo2, ats2, ks2, Ba, ba, bc, Bk, bk, bd, nx2, _, e2, _⟩ := q3 ⟨by omega, by have := Hcl.out; omega⟩
              exact ⟨t2, tx2, sp2, lo2, Ba, ba, bc, Bk, bk, bd, e2, q1⟩)
            have a0 : (0 : Int) ≤ at_ := hat.1
            have a1 : at_ < (m : Int) := hat.2
            have b0 : decide ((0 : Int) ≤ at_) = true := decide_eq_true a0
            have b1 : decide (at_ < (m : Int)) = true := decide_eq_true a1
            clear hq hat
            go_wp2_with fail
            refine CA.out.mono ?_
            rintro e w8 ⟨t2, tx2, sp2, lo2, Ba, ba, bc, Bk, bk, bd, rfl, b8⟩
            have HB9 := Lib.hid ((HM.out.bel.trans (b8.mono HM.out.bel.size)).alloc (Nat.le_trans HM.out.bel.size b8.size) (.cells #[.bool t2, .string tx2, .string sp2, .string lo2, .slice Ba ba bc, .slice Bk bk bd] 30))
            clear b8 CA HM c5a c5b c5c c5d c5e
            go_wp2
            go_ret
            exact ⟨rfl, HB9.out⟩
          · have CA : Hid (Calls Try.prog 23 #[.agg #[.slice (some ⟨g0, 0, none⟩) m k0, .slice (some ⟨g1, 0, none⟩) m k1, .slice (some ⟨g2, 0, none⟩) m k2, .slice (some ⟨g3, 0, none⟩) m k3, .slice A4 m k4], .int .i64 at_] wr fun e w' => e = .returned (.tuple #[.agg #[.bool false, .string ⟨#[]⟩, .string ⟨#[]⟩, .string ⟨#[]⟩, .slice none 0 0, .slice none 0 0], .bool false]) ∧ Below wr.heap.size wr w') := Lib.hid (by
              refine (at_no _ _ _ _ A4 m m m m m k0 k1 k2 k3 k4 X at_ wr Hcl.out.symm (by rw [Hcl.out]; exact hat)).mono fun e w' h => ?_
              exact ⟨h.2.1 (by rw [Hcl.out]; exact hat), h.1⟩)
            by_cases ha : at_ < 0
            · have b0 : decide ((0 : Int) ≤ at_) = false := decide_eq_false (by omega)
              have a0 : ¬ (0 : Int) ≤ at_ := by omega
              clear hat
              go_wp2_with fail
              refine CA.out.mono ?_
              rintro e w8 ⟨rfl, b8⟩
              have HB9 := Lib.hid ((HM.out.bel.trans (b8.mono HM.out.bel.size)).alloc (Nat.le_trans HM.out.bel.size b8.size) (.cells #[.bool false, .string ⟨#[]⟩, .string ⟨#[]⟩, .string ⟨#[]⟩, .slice none 0 0, .slice none 0 0] 30))
              clear b8 CA HM c5a c5b c5c c5d c5e
              go_wp2
              go_ret
              exact ⟨rfl, HB9.out⟩
            · have a0 : (0 : Int) ≤ at_ := by omega
              have a1 : ¬ at_ < (m : Int) := fun h => hat ⟨a0, h⟩
              have b0 : decide ((0 : Int) ≤ at_) = true := decide_eq_true a0
              have b1 : decide (at_ < (m : Int)) = false := decide_eq_false a1
              clear hat ha
              go_wp2_with fail
              refine CA.out.mono ?_
              rintro e w8 ⟨rfl, b8⟩
              have HB9 := Lib.hid ((HM.out.bel.trans (b8.mono HM.out.bel.size)).alloc (Nat.le_trans HM.out.bel.size b8.size) (.cells #[.bool false, .string ⟨#[]⟩, .string ⟨#[]⟩, .string ⟨#[]⟩, .slice none 0 0, .slice none 0 0] 30))
              clear b8 CA HM c5a c5b c5c c5d c5e
              go_wp2
              go_ret
              exact ⟨rfl, HB9.out⟩
    · have e0 : (decide (l ≠ []) && decide (depF plF rtF l = 0)) = false := by
        by_cases hd : depF plF rtF l = 0
        · have h0 : l = [] := by
            have : ¬ 0 < n := fun h => hW ⟨hd, h⟩
            exact List.eq_nil_of_length_eq_zero (by have := HT.out.len; omega)
          rw [decide_eq_false (fun h => h h0), Bool.false_and]
        · rw [decide_eq_false hd, Bool.and_false]
      rw [e0] at CWh
      have CW := Lib.hid CWh
      clear hW CWh e0
      go_wp2_with fail
      refine CW.out.mono ?_
      rintro e w2 ⟨rfl, b2⟩
      have HB2 := Lib.hid (HB1.out.trans (b2.mono HB1.out.size))
      clear b2 CW
      go_wp2_with fail
      refine (HAw.out w2).mono ?_
      rintro e w3 ⟨rfl, b3⟩
      have HB3 := Lib.hid (HB2.out.trans (b3.mono HB2.out.size))
      clear b3
      go_wp2
      go_ret
      exact ⟨rfl, HB3.out⟩
end Go.Proofs.Ytaoggciebkaakaa.Ev

/- A tree that is handed in, opened. -/
set_option linter.unusedSimpArgs false
set_option linter.unusedVariables false
namespace Go.Proofs.Ytaoggciebkaakaa.Ev
open Go.Joins Go.ChangeShapes Go.WideShapes Go.RowKit Go.Deep

theorem Try.cells30 : Try.prog.cellsOf 30 = 6 := by kernel_rfl
theorem Try.cells28 : Try.prog.cellsOf 28 = 1 := by kernel_rfl
theorem Try.cells4 : Try.prog.cellsOf 4 = 1 := by kernel_rfl
theorem Try.bytes30 : Try.prog.bytesOf 30 = 104 := by kernel_rfl
/-- All strings of these trees can be copied. -/
def Fo.szs : Fo → Prop
  | .nil => True
  | .cons t tx sp lo ats ks nx => (tx.size ≤ LimS ∧ sp.size ≤ LimS ∧ lo.size ≤ LimS ∧ LimA ats) ∧ ks.szs ∧ nx.szs
theorem lim_of {s : ByteArray} (h : s.data.toList.length ≤ reachBytes) : s.size ≤ LimS := by
  rw [← Lib.size_eq] at h
  exact h
set_option maxRecDepth 100000 in
theorem open_ats {H : Type} {enc : TypeId × Value → H} {w : World} {fuel : Nat} {v : Value} {y : DataW H × List MemPlace} (h : DataW.trod enc Try.prog w 0 (fun _ => true) true fuel 27 [v] = some y) (hw : ∀ m ∈ y.1.weights Try.prog 27, m ≤ reachBytes) :
    ∃ (A : Option Addr) (n c : Nat) (l : List P3), v = .slice A n c ∧ AttsIn w A n c l ∧ LimA l := by
  rcases open_slice Try.underlying27 h with ⟨hc, _⟩ | ⟨a, len, cap, m, n, D, Pl, hc, hb, hl, hm, hmm, hx, hall⟩
  · obtain rfl : v = .slice none 0 0 := by simpa using hc
    exact ⟨none, 0, 0, [], rfl, attsNil w, fun x hx => by cases hx⟩
  · obtain rfl : v = .slice (some a) len cap := by simpa using hc
    simp only [if_true] at hmm
    subst hmm
    rw [Try.cells52] at hall
    rw [hx] at hw
    obtain ⟨hz, hwi⟩ := slice_sizes Try.underlying27 Try.bytes52 hw
    unfold reachBytes at hz
    have st : ∀ i, i < len → ∃ x : P3, (w.cell? (a.add (i * 3)) = some (.string x.1.1) ∧ w.cell? (a.add (i * 3 + 1)) = some (.string x.1.2) ∧ w.cell? (a.add (i * 3 + 2)) = some (.string x.2)) ∧ x.1.1.size ≤ LimS ∧ x.1.2.size ≤ LimS ∧ x.2.size ≤ LimS := fun i hi => by
      obtain ⟨cs', h1, h2⟩ := hall i (by omega)
      obtain ⟨_, hlen, hcell⟩ := World.cells?_some h1
      obtain ⟨y0, y1, k, hD, _, g0, g1⟩ := trod_struct2 Try.underlying52 h2
      match cs', hlen, hcell, g0, g1 with
      | [v0, v1, v2], _, hcell, g0, g1 =>
        simp [Try.cells26, Try.cells9] at g0 g1
        obtain ⟨z0, z1, k2, hE, _, f0, f1⟩ := trod_struct2 Try.underlying26 g0
        simp [Try.cells9] at f0 f1
        obtain ⟨s0, e0, w0, _⟩ := DataW.trod_string Try.underlying9 f0
        obtain ⟨s1, e1, w1, _⟩ := DataW.trod_string Try.underlying9 f1
        obtain ⟨s2, e2, w2, _⟩ := DataW.trod_string Try.underlying9 g1
        simp only [List.cons.injEq, and_true] at e0 e1 e2
        subst e0 e1 e2
        have c0 := hcell 0 (by omega)
        have c1 := hcell 1 (by omega)
        have c2 := hcell 2 (by omega)
        rw [add_add] at c0 c1 c2
        have hd : D i = .agg [.agg [.lit (.string s0.data.toList), .lit (.string s1.data.toList)], .lit (.string s2.data.toList)] := by
          have := congrArg Prod.fst hD
          rw [hE, w0, w1, w2] at this
          exact this
        have hq := hwi i hi
        rw [hd] at hq
        have hwt : (DataW.agg [DataW.agg [.lit (.string s0.data.toList), .lit (.string s1.data.toList)], .lit (.string s2.data.toList)] : DataW H).weights Try.prog 52 = [s0.data.toList.length, s1.data.toList.length, s2.data.toList.length] := by
          simp [DataW.weights, Try.underlying52, Try.underlying26, DataW.weightsEach]
        rw [hwt] at hq
        exact ⟨((s0, s1), s2), ⟨by simpa using c0, by simpa using c1, by simpa using c2⟩, lim_of (hq _ (by simp)), lim_of (hq _ (by simp)), lim_of (hq _ (by simp))⟩
    obtain ⟨l, hll, hX⟩ := pick_list (n := len) (fun i hi => st i hi)
    have hL : LimA l := pick_mem hX (fun k x h => h.2)
    refine ⟨some a, len, m, l, rfl, ⟨hll.symm, by unfold maxLen; omega, by omega, fun x hx => by
      obtain ⟨a1, a2, a3⟩ := hL x hx
      unfold LimS at a1 a2 a3
      unfold maxLen
      omega, fun k x hk => ?_, fun h => by cases h⟩, hL⟩
    obtain ⟨⟨c0, c1, c2⟩, _⟩ := hX k x hk
    obtain ⟨b, off, spot⟩ := a
    have hspot : spot = none := by
      obtain ⟨_, h0⟩ := st 0 (by have := (List.getElem?_eq_some_iff.1 hk).1; omega)
      have := World.cell?_spot h0.1.1
      simpa [Addr.add] using this
    subst hspot
    rw [Addr.add_lit] at c0 c1 c2
    exact ⟨b, off, rfl, Lib.lt_of_cell c0, c0, by rw [Nat.add_assoc]; exact c1, by rw [Nat.add_assoc]; exact c2⟩
/-- A tree's parts. -/
structure TT where
  t : Bool
  tx : ByteArray
  sp : ByteArray
  lo : ByteArray
  ats : List P3
  ks : Fo
  Aa : Option Addr
  na : Nat
  ca : Nat
  Ak : Option Addr
  nk : Nat
  ck : Nat
instance : Nonempty TT := ⟨⟨false, emB, emB, emB, [], .nil, none, 0, 0, none, 0, 0⟩⟩
def foT : List TT → Fo
  | [] => .nil
  | x :: l => .cons x.t x.tx x.sp x.lo x.ats x.ks (foT l)
def TTok (w : World) (x : TT) : Prop := Tr1 (· < w.heap.size) w x.tx x.sp x.lo x.ats x.ks x.Aa x.na x.ca x.Ak x.nk x.ck ∧ (Fo.cons x.t x.tx x.sp x.lo x.ats x.ks .nil).szs
theorem foT_len : ∀ l : List TT, (foT l).len = l.length
  | [] => rfl
  | x :: l => by rw [foT, Fo.len, foT_len l, List.length_cons]
theorem foT_at {w : World} {b : Nat} : ∀ (l : List TT) (off : Nat), (∀ k x, l[k]? = some x → Tc6 w b (off + k * 6) x.t x.tx x.sp x.lo x.Aa x.na x.ca x.Ak x.nk x.ck ∧ TTok w x) → KsAt (· < w.heap.size) w (foT l) b off ∧ (foT l).szs
  | [], off, _ => ⟨trivial, trivial⟩
  | x :: l, off, h => by
    obtain ⟨h1, h2, h3⟩ := h 0 x rfl
    rw [Nat.zero_mul, Nat.add_zero] at h1
    obtain ⟨k1, k2⟩ := foT_at l (off + 6) fun k y hk => by
      have q := h (k + 1) y (by rw [List.getElem?_cons_succ]; exact hk)
      rw [show off + (k + 1) * 6 = off + 6 + k * 6 by omega] at q
      exact q
    exact ⟨KsAt.mk h1 h2 k1, h3.1, h3.2.1, k2⟩
theorem size_mem {H : Type} {D : DataW H} {l S : List (DataW H)} (h : D ∈ l) : SizeOf.sizeOf D < SizeOf.sizeOf (DataW.slice l S) := by
  have := List.sizeOf_lt_of_mem h
  simp
  omega
theorem size_five {H : Type} {a b c d e : DataW H} : SizeOf.sizeOf e < SizeOf.sizeOf (DataW.agg [a, b, c, d, e]) := by
  simp
  omega
set_option maxHeartbeats 1000000 in
set_option maxRecDepth 100000 in
theorem open_tr {H : Type} {enc : TypeId × Value → H} {w : World} : ∀ (N : Nat) {fuel : Nat} {cs : List Value} {y : DataW H × List MemPlace}, SizeOf.sizeOf y.1 < N → cs.length = 6 → DataW.trod enc Try.prog w 0 (fun _ => true) true fuel 30 cs = some y → (∀ m ∈ y.1.weights Try.prog 30, m ≤ reachBytes) →
    ∃ x : TT, cs = [.bool x.t, .string x.tx, .string x.sp, .string x.lo, .slice x.Aa x.na x.ca, .slice x.Ak x.nk x.ck] ∧ TTok w x
  | 0, _, _, _, h, _, _, _ => by omega
  | N + 1, fuel, cs, y, hN, hl, h, hw => by
    obtain ⟨xs, k, _, hx, _, hlen, hf⟩ := DataW.trod_struct Try.underlying30 h
    match xs, hlen with
    | [y0, y1, y2, y3, y4], _ =>
    have g0 := hf 0 _ rfl
    have g1 := hf 1 _ rfl
    have g2 := hf 2 _ rfl
    have g3 := hf 3 _ rfl
    have g4 := hf 4 _ rfl
    have hy : y.1 = .agg [y0.1, y1.1, y2.1, y3.1, y4.1] := by rw [hx]; rfl
    have hwt : (DataW.agg [y0.1, y1.1, y2.1, y3.1, y4.1]).weights Try.prog 30 = y0.1.weights Try.prog 4 ++ (y1.1.weights Try.prog 9 ++ (y2.1.weights Try.prog 26 ++ (y3.1.weights Try.prog 27 ++ (y4.1.weights Try.prog 28 ++ [])))) := by
      simp [DataW.weights, Try.underlying30, DataW.weightsEach]
    rw [hy, hwt] at hw
    have hw1 : ∀ m ∈ y1.1.weights Try.prog 9, m ≤ reachBytes := fun m hm => hw m (by simp [hm])
    have hw2 : ∀ m ∈ y2.1.weights Try.prog 26, m ≤ reachBytes := fun m hm => hw m (by simp [hm])
    have hw3 : ∀ m ∈ y3.1.weights Try.prog 27, m ≤ reachBytes := fun m hm => hw m (by simp [hm])
    have hw4 : ∀ m ∈ y4.1.weights Try.prog 28, m ≤ reachBytes := fun m hm => hw m (by simp [hm])
    match cs, hl, g0, g1, g2, g3, g4 with
    | [v0, v1, v2, v3, v4, v5], _, g0, g1, g2, g3, g4 =>
      simp [Try.cells4, Try.cells9, Try.cells26, Try.cells27, Try.cells28] at g0 g1 g2 g3 g4
      obtain ⟨b0, e0, _⟩ := DataW.trod_bool Try.underlying4 g0
      obtain ⟨s1, e1, w1, _⟩ := DataW.trod_string Try.underlying9 g1
      obtain ⟨z0, z1, k2, hE, _, f0, f1⟩ := trod_struct2 Try.underlying26 g2
      simp [Try.cells9] at f0 f1
      obtain ⟨s2, e2, w2, _⟩ := DataW.trod_string Try.underlying9 f0
      obtain ⟨s3, e3, w3, _⟩ := DataW.trod_string Try.underlying9 f1
      obtain ⟨Aa, na, ca, ats, rfl, TA, LA⟩ := open_ats g3 hw3
      simp only [List.cons.injEq, and_true] at e0 e1 e2 e3
      subst e0 e1 e2 e3
      have l1 : s1.size ≤ LimS := lim_of (hw1 _ (by rw [w1]; simp [DataW.weights]))
      have hd2 : y2.1 = .agg [.lit (.string s2.data.toList), .lit (.string s3.data.toList)] := by
        rw [hE, w2, w3]
      rw [hd2] at hw2
      have hwt2 : (DataW.agg [.lit (.string s2.data.toList), .lit (.string s3.data.toList)] : DataW H).weights Try.prog 26 = [s2.data.toList.length, s3.data.toList.length] := by
        simp [DataW.weights, Try.underlying26, DataW.weightsEach]
      rw [hwt2] at hw2
      have l2 : s2.size ≤ LimS := lim_of (hw2 _ (by simp))
      have l3 : s3.size ≤ LimS := lim_of (hw2 _ (by simp))
      rcases open_slice Try.underlying28 g4 with ⟨hc, _⟩ | ⟨a, len, cap, m, n, D, Pl, hc, hb, hlc, hm, hmm, hx4, hall⟩
      · obtain rfl : v5 = .slice none 0 0 := by simpa using hc
        exact ⟨⟨b0, s1, s2, s3, ats, .nil, Aa, na, ca, none, 0, 0⟩, rfl, ⟨⟨lim_maxLen l1, lim_maxLen l2, lim_maxLen l3⟩, TA, TA.low, ksNil _ _⟩, ⟨l1, l2, l3, LA⟩, trivial, trivial⟩
      · obtain rfl : v5 = .slice (some a) len cap := by simpa using hc
        simp only [if_true] at hmm
        subst hmm
        rw [Try.cells30] at hall
        rw [hx4] at hw4
        obtain ⟨hz, hwi⟩ := slice_sizes Try.underlying28 Try.bytes30 hw4
        unfold reachBytes at hz
        have hs4 : SizeOf.sizeOf y4.1 < N + 1 := by
          have := size_five (a := y0.1) (b := y1.1) (c := y2.1) (d := y3.1) (e := y4.1)
          rw [← hy] at this
          omega
        have st : ∀ i, i < len → ∃ x : TT, (w.cell? (a.add (i * 6)) = some (.bool x.t) ∧ w.cell? (a.add (i * 6 + 1)) = some (.string x.tx) ∧ w.cell? (a.add (i * 6 + 2)) = some (.string x.sp) ∧ w.cell? (a.add (i * 6 + 3)) = some (.string x.lo) ∧ w.cell? (a.add (i * 6 + 4)) = some (.slice x.Aa x.na x.ca) ∧ w.cell? (a.add (i * 6 + 5)) = some (.slice x.Ak x.nk x.ck)) ∧ TTok w x := fun i hi => by
          obtain ⟨cs', h1, h2⟩ := hall i (by omega)
          obtain ⟨_, hlen', hcell⟩ := World.cells?_some h1
          have hDi : SizeOf.sizeOf (D i) < SizeOf.sizeOf y4.1 := by
            rw [hx4]
            exact size_mem (List.mem_map.2 ⟨i, List.mem_range.2 hi, rfl⟩)
          obtain ⟨x, rfl, ok⟩ := open_tr N (y := (D i, Pl i)) (by show SizeOf.sizeOf (D i) < N; omega) hlen' h2 (hwi i hi)
          have c0 := hcell 0 (by omega)
          have c1 := hcell 1 (by omega)
          have c2 := hcell 2 (by omega)
          have c3 := hcell 3 (by omega)
          have c4 := hcell 4 (by omega)
          have c5 := hcell 5 (by omega)
          rw [add_add] at c0 c1 c2 c3 c4 c5
          exact ⟨x, ⟨by simpa using c0, by simpa using c1, by simpa using c2, by simpa using c3, by simpa using c4, by simpa using c5⟩, ok⟩
        obtain ⟨l, hll, hX⟩ := pick_list (n := len) (fun i hi => st i hi)
        have hat : ∃ b off, 0 < len → a = ⟨b, off, none⟩ ∧ b < w.heap.size := by
          by_cases h0 : 0 < len
          · obtain ⟨x, h1, _⟩ := st 0 h0
            obtain ⟨b, off, spot⟩ := a
            have hspot : spot = none := by
              have := World.cell?_spot h1.1
              simpa [Addr.add] using this
            subst hspot
            have h2 := h1.1
            rw [Addr.add_lit] at h2
            exact ⟨b, off, fun _ => ⟨rfl, Lib.lt_of_cell h2⟩⟩
          · exact ⟨0, 0, fun h => absurd h h0⟩
        obtain ⟨b, off, hao⟩ := hat
        have hks : 0 < len → KsAt (· < w.heap.size) w (foT l) b off ∧ (foT l).szs := fun h0 => by
          obtain ⟨ha, hblt⟩ := hao h0
          subst ha
          refine foT_at l off fun k x hk => ?_
          obtain ⟨⟨c0, c1, c2, c3, c4, c5⟩, ok⟩ := hX k x hk
          rw [Addr.add_lit] at c0 c1 c2 c3 c4 c5
          exact ⟨⟨c0, by rw [Nat.add_assoc]; exact c1, by rw [Nat.add_assoc]; exact c2, by rw [Nat.add_assoc]; exact c3, by rw [Nat.add_assoc]; exact c4, by rw [Nat.add_assoc]; exact c5⟩, ok⟩
        have hsz : (foT l).szs := by
          by_cases h0 : 0 < len
          · exact (hks h0).2
          · have : l = [] := List.eq_nil_of_length_eq_zero (by omega)
            rw [this]
            trivial
        exact ⟨⟨b0, s1, s2, s3, ats, foT l, Aa, na, ca, some a, len, m⟩, rfl, ⟨⟨lim_maxLen l1, lim_maxLen l2, lim_maxLen l3⟩, TA, TA.low, (show len = (foT l).len by rw [foT_len, hll]), (show len ≤ 4398046511104 by omega), hlc, hm, (fun h => by cases h), fun h0 => ⟨b, off, by rw [(hao h0).1], (hao h0).2, (hao h0).2, (hks h0).1⟩⟩, ⟨l1, l2, l3, LA⟩, hsz, trivial⟩
set_option maxRecDepth 100000 in
/-- A tree, by value. -/
theorem open_tree {H : Type} {enc : TypeId × Value → H} {w : World} {r : Reach} {b0 : Nat} {v : Value} {d : DataW H} {p : List MemPlace} (hv : Value.okWide Try.prog w r b0 30 v) (h : DataW.Trod enc Try.prog w 0 (fun _ => true) true 30 v d p) (hw : ∀ m ∈ d.weights Try.prog 30, m ≤ reachBytes) :
    ∃ x : TT, v = .agg #[.bool x.t, .string x.tx, .string x.sp, .string x.lo, .slice x.Aa x.na x.ca, .slice x.Ak x.nk x.ck] ∧ TTok w x := by
  obtain ⟨cs, rfl, hsz⟩ := okWide_struct Try.underlying30 hv
  obtain ⟨fuel, hf⟩ := h
  obtain ⟨l⟩ := cs
  have hf' : DataW.trod enc Try.prog w 0 (fun _ => true) true fuel 30 l = some (d, p) := hf
  obtain ⟨x, rfl, ok⟩ := open_tr (SizeOf.sizeOf d + 1) (y := (d, p)) (Nat.lt_succ_self _) (by have := hsz.trans Try.cells30; simpa using this) hf' hw
  exact ⟨x, rfl, ok⟩
/-- What may be copied of a tree's events. -/
theorem szs_evs : ∀ f : Fo, f.szs → ∀ x ∈ f.evs, x.tx.size ≤ LimS ∧ x.sp.size ≤ LimS ∧ x.lo.size ≤ LimS ∧ LimA x.ats
  | .nil, _, x, hx => by cases hx
  | .cons t tx sp lo ats ks nx, h, x, hx => by
    obtain ⟨⟨h1, h2, h3, h4⟩, h5, h6⟩ := h
    rw [Fo.evs, List.mem_append] at hx
    rcases hx with hx | hx
    · cases t
      · rw [if_neg (by decide)] at hx
        rcases List.mem_cons.1 hx with rfl | hx
        · exact ⟨em_lim', h2, h3, h4⟩
        · rcases List.mem_append.1 hx with hx | hx
          · exact szs_evs ks h5 x hx
          · rw [List.mem_singleton.1 hx]
            exact ⟨em_lim', em_lim', em_lim', fun y hy => by cases hy⟩
      · rw [if_pos rfl] at hx
        rw [List.mem_singleton.1 hx]
        exact ⟨h1, em_lim', em_lim', fun y hy => by cases hy⟩
    · exact szs_evs nx h6 x hx
end Go.Proofs.Ytaoggciebkaakaa.Ev
