/-
  Merged by program out of the texts TgAttr, TgAttr2, TgRead of one seat.
-/
import Derived.Test.YtnomcldpbkinmaaGreatDoorG11
import Derived.Deep.RegionLaw

/- The walks of the reader's attribute, read, and of tag.Parse. -/
set_option linter.unusedSimpArgs false
set_option linter.unusedVariables false
namespace Go.Proofs.YtnomcldpbkinmaaGreatDoor.Tg
open Go.RowKit

theorem rwL_get : ∀ (l : List (ByteArray × ByteArray)) (k i : Nat) (t : ByteArray × ByteArray), l[k]? = some t → i < 2 → (rwL l)[k * 2 + i]? = (rwC t)[i]?
  | [], k, i, t, h, _ => by simp at h
  | x :: l, 0, i, t, h, hi => by
    have : x = t := by simpa using h
    subst this
    unfold rwL
    rw [List.flatMap_cons, Nat.zero_mul, Nat.zero_add, List.getElem?_append_left (by show i < 2; exact hi)]
  | x :: l, k + 1, i, t, h, hi => by
    have h' : l[k]? = some t := by simpa using h
    have := rwL_get l k i t h' hi
    unfold rwL at this ⊢
    rw [List.flatMap_cons, List.getElem?_append_right (by show 2 ≤ (k + 1) * 2 + i; omega), ← this]
    congr 1
    show (k + 1) * 2 + i - 2 = k * 2 + i
    omega
/-- The slice at A reads as these attributes. -/
def RdR (w : World) (A : Option Addr) (l : List (ByteArray × ByteArray)) : Prop :=
  ∀ k x, l[k]? = some x → ∃ b off, A = some ⟨b, off, none⟩ ∧ b < w.heap.size ∧ w.cell? ⟨b, off + k * 2, none⟩ = some (.string x.1) ∧ w.cell? ⟨b, off + k * 2 + 1, none⟩ = some (.string x.2)
theorem own_rdR {w : World} {B : Nat} {v : Value} {l : List (ByteArray × ByteArray)} (h : OwnR w B v l) : ∃ A c, v = .slice A l.length c ∧ RdR w A l := by
  have h' : w.ownsRow B 81 2 v l.length (rwL l) := h
  rcases h'.2 with ⟨rfl, h0⟩ | ⟨g, cap, cur, rfl, hB, _⟩
  · refine ⟨none, 0, by rw [h0], fun k x hk => ?_⟩
    rw [List.eq_nil_of_length_eq_zero h0] at hk
    simp at hk
  · refine ⟨_, cap, rfl, fun k x hk => ⟨g, 0, rfl, (h'.lt g rfl).2, ?_⟩⟩
    have hlt : k < l.length := (List.getElem?_eq_some_iff.1 hk).1
    exact ⟨by rw [Nat.zero_add]; exact (h'.cellAt (k * 2) (by omega)).trans (rwL_get l k 0 x hk (by omega)), by rw [Nat.zero_add]; exact (h'.cellAt (k * 2 + 1) (by omega)).trans (rwL_get l k 1 x hk (by omega))⟩
theorem RdR.keep {w w' : World} {A : Option Addr} {l : List (ByteArray × ByteArray)} (h : RdR w A l) (hb : Below w.heap.size w w') : RdR w' A l := fun k t hk => by
  obtain ⟨b, o, e, hlt, c0, c1⟩ := h k t hk
  exact ⟨b, o, e, Nat.lt_of_lt_of_le hlt hb.size, (hb.cell (p := ⟨b, o + k * 2, none⟩) hlt).trans c0, (hb.cell (p := ⟨b, o + k * 2 + 1, none⟩) hlt).trans c1⟩

set_option maxHeartbeats 1000000 in
set_option maxRecDepth 100000 in
theorem clo_any (x y nm : ByteArray) (p : Nat) (b : Bool) (w : World) (hp : w.cell? ⟨p, 0, none⟩ = some (.string nm)) (hlt : p < w.heap.size) (hb : decide (byts x = byts nm) = b) :
    Calls Tryz.prog 122 #[.agg #[.string x, .string y], .pointer (some ⟨p, 0, none⟩)] w fun e w' => e = .returned (.bool b) ∧ Below w.heap.size w w' := by
  have hq : (x.toList == nm.toList) = b := (eqS x nm).trans hb
  have hz : ¬ p = w.heap.size := by omega
  have HB := Lib.hid ((Below.refl w.heap.size w).alloc (Nat.le_refl _) (.cells #[.string x, .string y] 81))
  clear hb
  go_enter Tryz.func122, Tryz.ntmps122
  go_wp2
  go_ret
  exact ⟨rfl, HB.out⟩

/-- slices.IndexFunc and ContainsFunc of attributes, at the function that asks for a name. -/
def IxRel (n : Nat) (l : List (ByteArray × ByteArray)) (nm : ByteArray) (p : Nat) (A : Option Addr) (w : World) (i : Value) (wr : World) : Prop :=
  ∃ k : Nat, i = .int .i64 k ∧ k ≤ n ∧ Hid (RdR wr A l) ∧ wr.cell? ⟨p, 0, none⟩ = some (.string nm) ∧ p < wr.heap.size ∧ Hid (Below w.heap.size w wr) ∧ Hid (∀ j x, j < k → l[j]? = some x → byts x.1 ≠ byts nm)
def IxPost (b : Bool) (w : World) (e : Ending) (w' : World) : Prop := ∃ i : Int, e = .returned (.int .i64 i) ∧ decide (0 ≤ i) = b ∧ Below w.heap.size w w'
theorem hasn_no {nm : ByteArray} {l : List (ByteArray × ByteArray)} (h : ∀ j x, j < l.length → l[j]? = some x → byts x.1 ≠ byts nm) : hasN nm l = false := by
  unfold hasN
  rw [List.any_eq_false]
  intro x hx
  obtain ⟨j, hj⟩ := List.getElem?_of_mem hx
  have := h j x (List.getElem?_eq_some_iff.1 hj).1 hj
  simpa using this
theorem hasn_yes {nm : ByteArray} {l : List (ByteArray × ByteArray)} {k : Nat} {x : ByteArray × ByteArray} (h : l[k]? = some x) (he : byts x.1 = byts nm) : hasN nm l = true := by
  unfold hasN
  rw [List.any_eq_true]
  exact ⟨x, List.mem_of_getElem? h, by simpa using he⟩
set_option maxHeartbeats 4000000 in
set_option maxRecDepth 100000 in
theorem idxf_any (l : List (ByteArray × ByteArray)) (nm : ByteArray) (n cap p : Nat) (A : Option Addr) (w : World) (hn : n = l.length) (hl : n ≤ 10000) (h1 : RdR w A l) (hp : w.cell? ⟨p, 0, none⟩ = some (.string nm)) (hlt : p < w.heap.size) :
    Calls Tryz.prog 153 #[.slice A n cap, .func (.func 122) #[] #[.pointer (some ⟨p, 0, none⟩)]] w (IxPost (hasN nm l) w) := by
  have H1 := Lib.hid h1
  have HN := Lib.hid hn
  clear h1 hn
  go_enter Tryz.func153, Tryz.ntmps153
  go_wp2_with fail
  go_loopw [8] (fun i wr => IxRel n l nm p A w i wr) (fun i _ => n - (intOf i).toNat)
  case atStart => exact ⟨0, rfl, Nat.zero_le _, H1, hp, hlt, Lib.hid (Below.refl _ _), Lib.hid (fun j x hj => absurd hj (Nat.not_lt_zero _))⟩
  case round =>
    obtain ⟨k, rfl, hk, hR, hpr, hplt, hB, hN⟩ := hrel
    clear hp hlt H1
    by_cases hlt : k < n
    · have hkl : k < l.length := by rw [← HN.out]; exact hlt
      obtain ⟨b1, o1, rfl, hb1, x0, x1⟩ := hR.out k _ (List.getElem?_eq_getElem hkl)
      have HK := Lib.hid (List.getElem?_eq_getElem hkl)
      have d1 : (k : Int) < (n : Int) := by omega
      have d0 : (0 : Int) ≤ (k : Int) := by omega
      generalize l[k] = t at *
      obtain ⟨tn, tv⟩ := t
      dsimp only at x0 x1
      by_cases he : byts tn = byts nm
      · have C := Lib.hid (fun W hp hl => clo_any tn tv nm p true W hp hl (decide_eq_true he))
        have HH := Lib.hid (hasn_yes (nm := nm) HK.out he)
        clear he
        go_wp2_with (first | (go_at_call 122; refine (C.out _ hpr hplt).mono ?_; rintro e w' ⟨rfl, hb⟩))
        go_ret
        exact ⟨_, rfl, by rw [HH.out, decide_eq_true d0], hB.out.trans (hb.mono hB.out.size)⟩
      · have C := Lib.hid (fun W hp hl => clo_any tn tv nm p false W hp hl (decide_eq_false he))
        have HH := Lib.hid he
        clear he
        go_wp2_with (first | (go_at_call 122; refine (C.out _ hpr hplt).mono ?_; rintro e w' ⟨rfl, hb⟩))
        go_roundw
        case rel =>
          refine ⟨k + 1, by go_num, by omega, Lib.hid (hR.out.keep hb), (hb.cell (p := ⟨p, 0, none⟩) hplt).trans hpr, Nat.lt_of_lt_of_le hplt hb.size, Lib.hid (hB.out.trans (hb.mono hB.out.size)), Lib.hid (fun j x hj hx => ?_)⟩
          rcases Nat.lt_or_ge j k with h | h
          · exact hN.out j x h hx
          · obtain rfl : j = k := by omega
            have := HK.out
            rw [hx] at this
            injection this with this
            rw [this]
            exact HH.out
        case measure => simp only [intOf]; omega
    · have d1 : ¬ (k : Int) < (n : Int) := by omega
      have hkn : k = n := by omega
      have HF : Hid (hasN nm l = false) := Lib.hid (hasn_no fun j x hj hx => hN.out j x (by rw [hkn, HN.out]; exact hj) hx)
      clear hR hN hkn
      go_wp2_with fail
      go_ret
      exact ⟨_, rfl, by rw [HF.out]; decide, hB.out⟩
set_option maxHeartbeats 1000000 in
set_option maxRecDepth 100000 in
theorem conf_any (l : List (ByteArray × ByteArray)) (nm : ByteArray) (n cap p : Nat) (A : Option Addr) (w : World) (hn : n = l.length) (hl : n ≤ 10000) (h1 : RdR w A l) (hp : w.cell? ⟨p, 0, none⟩ = some (.string nm)) (hlt : p < w.heap.size) (b : Bool) (hb : hasN nm l = b) :
    Calls Tryz.prog 121 #[.slice A n cap, .func (.func 122) #[] #[.pointer (some ⟨p, 0, none⟩)]] w fun e w' => e = .returned (.bool b) ∧ Below w.heap.size w w' := by
  have C := Lib.hid (idxf_any l nm n cap p A w hn hl h1 hp hlt)
  rw [hb] at C
  clear h1 hn hp hlt hb
  go_enter Tryz.func121, Tryz.ntmps121
  go_wp2_with fail
  refine C.out.mono ?_
  rintro e w1 ⟨i, rfl, hi, hb1⟩
  clear C
  go_wp2
  go_ret
  exact ⟨rfl, hb1⟩

/-- An append to a row of the call's own, as one step of a region that draws its order. -/
theorem step_append_own {P : Program} {ops : Array Oper} {o : Oper} {a : Act} {w : World} {K : Act → World → Prop} {Q : Exit → Act → World → Prop} {E : Prop}
    (hg : o.guard = none) (s x : Operand) (t : TypeId) (hop : o.op = Op.call { callee := Callee.builtin Builtin.append, args := #[s, x], argTypes := #[t, t] })
    (base : Nat) (e : TypeId) (i : TypeInfo) (z : Value) (size bytes : Nat) (h1 : P.underlying t = some (.slice e)) (h2 : P.info? e = some i) (h3 : i.zero = some z) (h4 : i.size = size) (h5 : i.bytes = bytes) (h6 : z.cells.size = size) (h7 : 0 < size)
    (v : Value) (n : Nat) (xs : List Value) (hs : a.eval s = v) (hown : w.ownsRow base e size v n xs)
    (ad : Addr) (m c : Nat) (news : List Value) (hx : a.eval x = .slice (some ad) m c) (hn : news.length = m * size) (hc : ∀ j u, news[j]? = some u → w.cell? (ad.add j) = some u) (h1c : ∀ u ∈ news, u.oneCell' = true)
    (b1 : n + m ≤ maxLen) (b2 : (n + m) * bytes ≤ 140737488355328) (hb : base ≤ w.heap.size)
    (hK : ∀ v' w', w'.ownsRow base e size v' (n + m) (xs ++ news) → w.grownBy w' v.ownBlock → K (a.put o.dst v') w') :
    if Region.wanted o (yielded ops a.tmps) = true then Oper.wp P o a w K Q else E := by
  have hw : Region.wanted o (yielded ops a.tmps) = true := by simp [Region.wanted, hg]
  rw [if_pos hw]
  obtain ⟨v', w', hrun, r1, r2, _⟩ := run_append_own (P := P) w base t o.type e i z size bytes h1 h2 h3 h4 h5 h6 h7 v n xs hown ad m c news hn hc h1c b1 b2 hb
  unfold Oper.wp
  simp [execOp, hop, resolve, invoke, builtin, hs, hx, hrun, Result.andThen]
  exact hK v' w' r1 r2
theorem own_shape {w : World} {B : Nat} {e : TypeId} {z n : Nat} {v : Value} {xs : List Value} (h : w.ownsRow B e z v (n + 1) xs) : ∃ g cap, v = .slice (some ⟨g, 0, none⟩) (n + 1) cap := by
  rcases h.2 with ⟨_, h0⟩ | ⟨g, cap, cur, rfl, _⟩
  · omega
  · exact ⟨g, cap, rfl⟩
/-- A new attribute laid into the reader. -/
theorem RS.put {w0 w w2 : World} {g : Nat} {u nm : ByteArray} {v v' : Value} {l : List (ByteArray × ByteArray)} {x : ByteArray × ByteArray} (h : RS w0 g u nm v l w) (hown : w2.ownsRow w0.heap.size 81 2 v' (l.length + 1) (rwL l ++ rwC x)) (hg : w.grownBy w2 v.ownBlock) :
    w2.heap[g]? = some (.cells #[.string u, .string nm, v] 131 (0, 0)) ∧ RS w0 g u nm v' (l ++ [x]) (w2.setCell ⟨g, 2, none⟩ v') := by
  have hne := own_ne h.own h.blk (by decide)
  have hb2 : w2.heap[g]? = some (.cells #[.string u, .string nm, v] 131 (0, 0)) := (hg.block g h.lt (fun e => hne e.symm)).trans h.blk
  have ho : OwnR w2 w0.heap.size v' (l ++ [x]) := by
    unfold OwnR
    rw [rwL_app, List.length_append]
    exact hown
  refine ⟨hb2, h.lo, by simp [World.setCell, Array.getElem?_modify, hb2], own_set ho hb2 (by decide) 2 _, ?_, h.vr0⟩
  exact (h.bel.grown hg h.bel.size (fun k hk => (World.ownsRow.lt h.own k hk).1)).setCell (p := ⟨g, 2, none⟩) h.lo _
theorem Tryz.info81 : (Tryz.prog.info? 81).map (fun i => (i.zero, i.size, i.bytes)) = some (some (.agg #[.string ⟨#[]⟩, .string ⟨#[]⟩]), 2, 32) := by kernel_rfl
theorem RS.drew {w0 w : World} {g : Nat} {u nm : ByteArray} {v : Value} {l : List (ByteArray × ByteArray)} (h : RS w0 g u nm v l w) : RS w0 g u nm v l w.drew := h.after (Below.refl _ w).drew
theorem RS.alloc {w0 w : World} {g : Nat} {u nm : ByteArray} {v : Value} {l : List (ByteArray × ByteArray)} (h : RS w0 g u nm v l w) (o : Obj) : RS w0 g u nm v l (w.alloc o) := h.after ((Below.refl _ w).alloc (Nat.le_refl _) o)
theorem rw_one (x : ByteArray × ByteArray) : ∀ u ∈ rwC x, u.oneCell' = true := by
  intro u hu
  unfold rwC at hu
  simp only [List.mem_cons, List.not_mem_nil, or_false] at hu
  rcases hu with rfl | rfl <;> rfl

/-- What attribute answers. -/
def atF (l : List (ByteArray × ByteArray)) (x : Int × ByteArray × ByteArray × ByteArray) : Int := if x.1 ≠ 0 then x.1 else if hasN x.2.1 l = true then 8 else if 32 ≤ l.length then 13 else 0
def AtPost (l : List (ByteArray × ByteArray)) (x : Int × ByteArray × ByteArray × ByteArray) (w0 : World) (g : Nat) (nm : ByteArray) (e : Ending) (w' : World) : Prop :=
  e = .returned (.int .i64 (atF l x)) ∧ (atF l x = 0 → ∃ v', RS w0 g x.2.2.2 nm v' (l ++ [(x.2.1, x.2.2.1)]) w') ∧ ∃ u' v' l', RS w0 g u' nm v' l' w'
end Go.Proofs.YtnomcldpbkinmaaGreatDoor.Tg

/- The walk of the reader's attribute. -/
set_option linter.unusedSimpArgs false
set_option linter.unusedVariables false
namespace Go.Proofs.YtnomcldpbkinmaaGreatDoor.Tg
open Go.RowKit

theorem at_of {l : List (ByteArray × ByteArray)} {x : Int × ByteArray × ByteArray × ByteArray} {w0 w' : World} {g : Nat} {nm : ByteArray} {e : Ending} {r : Int} (h : atF l x = r) (h1 : e = .returned (.int .i64 r)) (h2 : r = 0 → ∃ v', RS w0 g x.2.2.2 nm v' (l ++ [(x.2.1, x.2.2.1)]) w') (h3 : ∃ u' v' l', RS w0 g u' nm v' l' w') : AtPost l x w0 g nm e w' := by
  unfold AtPost
  rw [h]
  exact ⟨h1, h2, h3⟩
set_option maxHeartbeats 2000000 in
set_option maxRecDepth 100000 in
theorem attr_err (w0 : World) (g : Nat) (nm : ByteArray) (v : Value) (l : List (ByteArray × ByteArray)) (x : Int × ByteArray × ByteArray × ByteArray) (w : World) (he : x.1 ≠ 0)
    (C : Hid (Calls Tryz.prog 120 #[.pointer (some ⟨g, 0, none⟩)] w (PrPost x w0 g nm v l))) :
    Calls Tryz.prog 95 #[.pointer (some ⟨g, 0, none⟩)] w (AtPost l x w0 g nm) := by
  have HA : Hid (atF l x = x.1) := Lib.hid (by unfold atF; rw [if_pos he])
  obtain ⟨er, xn, xv, xr⟩ := x
  dsimp only at he HA
  have t1 : (er != 0) = true := by rw [bne_iff_ne]; exact he
  have HE := Lib.hid he
  clear he
  go_enter Tryz.func95, Tryz.ntmps95
  go_wp2_with fail
  refine C.out.mono ?_
  rintro e w1 ⟨u', rfl, hr, _⟩
  have HR := Lib.hid (hr.alloc (.cells #[.string xn, .string xv] 81))
  clear C hr
  dsimp only
  go_wp2
  go_ret
  exact at_of HA.out rfl (fun h => absurd h HE.out) ⟨_, _, _, HR.out⟩
set_option maxHeartbeats 2000000 in
set_option maxRecDepth 100000 in
theorem attr_twice (w0 : World) (g : Nat) (nm : ByteArray) (v : Value) (l : List (ByteArray × ByteArray)) (x : Int × ByteArray × ByteArray × ByteArray) (w : World) (he : x.1 = 0) (hh : hasN x.2.1 l = true) (hl : l.length ≤ 10000)
    (C : Hid (Calls Tryz.prog 120 #[.pointer (some ⟨g, 0, none⟩)] w (PrPost x w0 g nm v l))) :
    Calls Tryz.prog 95 #[.pointer (some ⟨g, 0, none⟩)] w (AtPost l x w0 g nm) := by
  have HA : Hid (atF l x = 8) := Lib.hid (by unfold atF; rw [if_neg (by rw [he]; decide), if_pos hh])
  obtain ⟨er, xn, xv, xr⟩ := x
  dsimp only at he hh
  subst he
  have CF := Lib.hid (fun n cap p A W hn h1 hp hlt => conf_any l xn n cap p A W hn (by omega) h1 hp hlt true hh)
  clear hh
  go_enter Tryz.func95, Tryz.ntmps95
  go_wp2_with fail
  refine C.out.mono ?_
  rintro e w1 ⟨u', rfl, hr, _⟩
  obtain ⟨A, c, rfl, hR⟩ := own_rdR hr.own
  have hb := (Below.refl _ w1).alloc (Nat.le_refl _) (.cells #[.string xn, .string xv] 81)
  have HR := Lib.hid (hr.alloc (.cells #[.string xn, .string xv] 81))
  have HD := Lib.hid (hR.keep hb)
  have c2 := HR.out.c2
  clear C hr hR hb
  obtain ⟨n, hn⟩ : ∃ n, n = l.length := ⟨_, rfl⟩
  rw [← hn] at c2
  have HN := Lib.hid hn
  clear hn
  dsimp only
  go_wp2_with fail
  refine (CF.out n c w1.heap.size A _ HN.out HD.out (Blk0 w1 81 #[.string xn, .string xv] 0) (by simp)).mono ?_
  rintro e w2 ⟨rfl, hb2⟩
  have HR2 := Lib.hid (HR.out.after hb2)
  clear hb2 CF HR HD c2
  go_wp2
  go_ret
  exact at_of HA.out rfl (fun h => absurd h (by decide)) ⟨_, _, _, HR2.out⟩
set_option maxHeartbeats 2000000 in
set_option maxRecDepth 100000 in
theorem attr_large (w0 : World) (g : Nat) (nm : ByteArray) (v : Value) (l : List (ByteArray × ByteArray)) (x : Int × ByteArray × ByteArray × ByteArray) (w : World) (he : x.1 = 0) (hh : hasN x.2.1 l = false) (hl : l.length = 32)
    (C : Hid (Calls Tryz.prog 120 #[.pointer (some ⟨g, 0, none⟩)] w (PrPost x w0 g nm v l))) :
    Calls Tryz.prog 95 #[.pointer (some ⟨g, 0, none⟩)] w (AtPost l x w0 g nm) := by
  have HA : Hid (atF l x = 13) := Lib.hid (by unfold atF; rw [if_neg (by rw [he]; decide), if_neg (by rw [hh]; decide), if_pos (by omega)])
  obtain ⟨er, xn, xv, xr⟩ := x
  dsimp only at he hh
  subst he
  have CF := Lib.hid (fun n cap p A W hn h1 hp hlt => conf_any l xn n cap p A W hn (by omega) h1 hp hlt false hh)
  have HL := Lib.hid hl
  clear hh hl
  go_enter Tryz.func95, Tryz.ntmps95
  go_wp2_with fail
  refine C.out.mono ?_
  rintro e w1 ⟨u', rfl, hr, _⟩
  obtain ⟨A, c, rfl, hR⟩ := own_rdR hr.own
  have hb := (Below.refl _ w1).alloc (Nat.le_refl _) (.cells #[.string xn, .string xv] 81)
  have HR := Lib.hid (hr.alloc (.cells #[.string xn, .string xv] 81))
  have HD := Lib.hid (hR.keep hb)
  have c2 := HR.out.c2
  clear C hr hR hb
  rw [HL.out] at c2
  dsimp only
  go_wp2_with fail
  refine (CF.out 32 c w1.heap.size A _ HL.out.symm HD.out (Blk0 w1 81 #[.string xn, .string xv] 0) (by simp)).mono ?_
  rintro e w2 ⟨rfl, hb2⟩
  have HR2 := Lib.hid (HR.out.after hb2)
  have d2 := HR2.out.c2
  rw [HL.out] at d2
  clear hb2 CF HR HD c2
  go_wp2
  go_ret
  exact at_of HA.out rfl (fun h => absurd h (by decide)) ⟨_, _, _, HR2.out⟩
set_option maxHeartbeats 4000000 in
set_option maxRecDepth 100000 in
theorem attr_ok (w0 : World) (g : Nat) (nm : ByteArray) (v : Value) (l : List (ByteArray × ByteArray)) (x : Int × ByteArray × ByteArray × ByteArray) (w : World) (he : x.1 = 0) (hh : hasN x.2.1 l = false) (hl : l.length < 32)
    (C : Hid (Calls Tryz.prog 120 #[.pointer (some ⟨g, 0, none⟩)] w (PrPost x w0 g nm v l))) :
    Calls Tryz.prog 95 #[.pointer (some ⟨g, 0, none⟩)] w (AtPost l x w0 g nm) := by
  have HA : Hid (atF l x = 0) := Lib.hid (by unfold atF; rw [if_neg (by rw [he]; decide), if_neg (by rw [hh]; decide), if_neg (by omega)])
  obtain ⟨er, xn, xv, xr⟩ := x
  dsimp only at he hh
  subst he
  have CF := Lib.hid (fun n cap p A W hn h1 hp hlt => conf_any l xn n cap p A W hn (by omega) h1 hp hlt false hh)
  clear hh
  obtain ⟨i0, hi, hz0, hz1, hz2⟩ := info_parts Tryz.info81
  go_enter Tryz.func95, Tryz.ntmps95
  go_wp2_with fail
  refine C.out.mono ?_
  rintro e w1 ⟨u', rfl, hr, hu⟩
  obtain rfl : u' = xr := hu rfl
  obtain ⟨A, c, rfl, hR⟩ := own_rdR hr.own
  have hb := (Below.refl _ w1).alloc (Nat.le_refl _) (.cells #[.string xn, .string xv] 81)
  have HR := Lib.hid (hr.alloc (.cells #[.string xn, .string xv] 81))
  have HD := Lib.hid (hR.keep hb)
  have c2 := HR.out.c2
  clear C hr hR hb hu
  obtain ⟨n, hn⟩ : ∃ n, n = l.length := ⟨_, rfl⟩
  rw [← hn] at c2
  have HN := Lib.hid hn
  have hn32 : n < 32 := by omega
  clear hn
  dsimp only
  go_wp2_with fail
  refine (CF.out n c w1.heap.size A _ HN.out HD.out (Blk0 w1 81 #[.string xn, .string xv] 0) (by simp)).mono ?_
  rintro e w2 ⟨rfl, hb2⟩
  have HR2 := Lib.hid (HR.out.after hb2)
  have hpl : w1.heap.size < w2.heap.size := Nat.lt_of_lt_of_le (by simp) hb2.size
  have a0 : w2.cell? ⟨w1.heap.size, 0, none⟩ = some (.string xn) := (hb2.cell (p := ⟨w1.heap.size, 0, none⟩) (by simp)).trans (Blk0 w1 81 #[.string xn, .string xv] 0)
  have a1 : w2.cell? ⟨w1.heap.size, 1, none⟩ = some (.string xv) := (hb2.cell (p := ⟨w1.heap.size, 1, none⟩) (by simp)).trans (Blk0 w1 81 #[.string xn, .string xv] 1)
  have d2 := HR2.out.c2
  rw [← HN.out] at d2
  clear hb2 CF HR HD c2
  generalize w1.heap.size = p at *
  have t1 : ((n : Int) == 32) = false := by rw [beq_eq_false_iff_ne]; omega
  have hgl := HR2.out.lt
  have HX := Lib.hid (HR2.out.drew.alloc (.cells #[.string xn, .string xv] 81))
  have ho := HX.out.own
  unfold OwnR at ho
  rw [← HN.out] at ho
  have hbz := HX.out.bel.size
  have hlc := lit_cells w2.drew #[.string xn, .string xv] 81
  have HK : Hid (∀ v' w', w'.ownsRow w0.heap.size 81 2 v' (n + 1) (rwL l ++ [.string xn, .string xv]) → (w2.drew.alloc (.cells #[.string xn, .string xv] 81)).grownBy w' (Value.slice A n c).ownBlock →
      ∃ g' cap', v' = .slice (some ⟨g', 0, none⟩) (n + 1) cap' ∧ w'.cell? ⟨g, 2, none⟩ = some (.slice A n c) ∧ w'.frozen? ⟨g, 2, none⟩ = false ∧ RS w0 g u' nm v' (l ++ [(xn, xv)]) (w'.setCell ⟨g, 2, none⟩ v')) := Lib.hid (by
    intro v' w' k1 k2
    obtain ⟨g', cap', hv⟩ := own_shape k1
    have hx := HX.out
    rw [HN.out] at k1 k2
    obtain ⟨q1, q2⟩ := RS.put (x := (xn, xv)) hx k1 k2
    refine ⟨g', cap', hv, ?_, Lib.frozen_of_heap q1 2, q2⟩
    rw [Lib.cell_of_heap q1, HN.out]
    rfl)
  have D2 : w2.drew.cell? ⟨g, 2, none⟩ = some (.slice A n c) := d2
  have A0 : w2.drew.cell? ⟨p, 0, none⟩ = some (.string xn) := a0
  have A1 : w2.drew.cell? ⟨p, 1, none⟩ = some (.string xv) := a1
  have hne : ¬ g = w2.heap.size := by omega
  have D3 : (w2.drew.alloc (.cells #[.string xn, .string xv] 81)).cell? ⟨g, 2, none⟩ = some (.slice A n c) := by
    rw [← d2]
    exact ((Below.refl _ w2.drew).alloc (Nat.le_refl _) _).cell (p := ⟨g, 2, none⟩) hgl
  clear HX HR2
  go_wp2_with fail
  go_region_law (refine step_append_own rfl (.tmp 35) (.tmp 37) 51 rfl w0.heap.size 81 i0 (.agg #[.string ⟨#[]⟩, .string ⟨#[]⟩]) 2 32 Tryz.underlying51 hi hz0 hz1 hz2 rfl (by decide) (.slice A n c) n (rwL l) (by simp [Act.eval, Act.put]) ho ⟨w2.heap.size, 0, none⟩ 1 1 [.string xn, .string xv] (by simp [Act.eval, Act.put]) rfl hlc (by intro u hu; simp only [List.mem_cons, List.not_mem_nil, or_false] at hu; rcases hu with rfl | rfl <;> rfl) (by unfold maxLen; omega) (by omega) hbz ?_; intro v' w' k1 k2; obtain ⟨g', cap', rfl, e2, f2, r2⟩ := HK.out v' w' k1 k2; have HR3 := Lib.hid r2; clear k1 k2 r2)
  all_goals go_wp2
  all_goals go_ret
  all_goals exact at_of HA.out rfl (fun _ => ⟨_, HR3.out⟩) ⟨_, _, _, HR3.out⟩
theorem attr_any (w0 : World) (g : Nat) (u nm : ByteArray) (v : Value) (l : List (ByteArray × ByteArray)) (w : World) (h : RS w0 g u nm v l w) (hs : u.size ≤ 100000) (hl : l.length ≤ 32) :
    Calls Tryz.prog 95 #[.pointer (some ⟨g, 0, none⟩)] w (AtPost l (pairF u) w0 g nm) := by
  have C := Lib.hid (pair_any w0 g u nm v l w h hs)
  by_cases h1 : (pairF u).1 = 0
  · by_cases h2 : hasN (pairF u).2.1 l = true
    · exact attr_twice w0 g nm v l _ w h1 h2 (by omega) C
    · have h2' : hasN (pairF u).2.1 l = false := by simpa using h2
      by_cases h3 : l.length = 32
      · exact attr_large w0 g nm v l _ w h1 h2' h3 C
      · exact attr_ok w0 g nm v l _ w h1 h2' (by omega) C
  · exact attr_err w0 g nm v l _ w h1 C
end Go.Proofs.YtnomcldpbkinmaaGreatDoor.Tg

/- The walks of the reader's read, and of tag.Parse. -/
set_option linter.unusedSimpArgs false
set_option linter.unusedVariables false
namespace Go.Proofs.YtnomcldpbkinmaaGreatDoor.Tg
open Go.RowKit

theorem go_bad (nm : ByteArray) (l : List (ByteArray × ByteArray)) (u : ByteArray) (c1 : (sk u).size ≠ 0) (c2 : bk u ≠ 0) (c3 : atF l (pairF (sk u)) ≠ 0) : GoF nm l u = (atF l (pairF (sk u)), Nz.em, []) := by
  by_cases h1 : (pairF (sk u)).1 = 0
  · by_cases h2 : hasN (pairF (sk u)).2.1 l = true
    · rw [go_twice nm l u c1 c2 h1 h2]
      unfold atF
      rw [if_neg (Decidable.not_not.2 h1), if_pos h2]
    · have h2' : hasN (pairF (sk u)).2.1 l = false := by simpa using h2
      by_cases h3 : 32 ≤ l.length
      · rw [go_large nm l u c1 c2 h1 h2' h3]
        unfold atF
        rw [if_neg (Decidable.not_not.2 h1), if_neg h2, if_pos h3]
      · exfalso
        apply c3
        unfold atF
        rw [if_neg (Decidable.not_not.2 h1), if_neg h2, if_neg h3]
  · rw [go_err nm l u c1 c2 h1]
    unfold atF
    rw [if_pos h1]
theorem go_good (nm : ByteArray) (l : List (ByteArray × ByteArray)) (u : ByteArray) (c1 : (sk u).size ≠ 0) (c2 : bk u ≠ 0) (c3 : atF l (pairF (sk u)) = 0) :
    GoF nm l u = GoF nm (l ++ [((pairF (sk u)).2.1, (pairF (sk u)).2.2.1)]) (pairF (sk u)).2.2.2 ∧ l.length < 32 ∧ (pairF (sk u)).2.2.2.size < u.size := by
  unfold atF at c3
  by_cases h1 : (pairF (sk u)).1 = 0
  · rw [if_neg (Decidable.not_not.2 h1)] at c3
    by_cases h2 : hasN (pairF (sk u)).2.1 l = true
    · rw [if_pos h2] at c3; exact absurd c3 (by decide)
    rw [if_neg h2] at c3
    by_cases h3 : 32 ≤ l.length
    · rw [if_pos h3] at c3; exact absurd c3 (by decide)
    have := pair_lt h1
    have hs := sk_size u
    exact ⟨go_ok nm l u c1 c2 h1 (by simpa using h2) h3, by omega, by omega⟩
  · rw [if_pos h1] at c3
    exact absurd c3 h1

def RePost (x : Int × ByteArray × List (ByteArray × ByteArray)) (w0 : World) (g : Nat) (e : Ending) (w' : World) : Prop :=
  e = .returned (.int .i64 x.1) ∧ ∃ u' nm' v' l', RS w0 g u' nm' v' l' w' ∧ (x.1 = 0 → nm' = x.2.1 ∧ l' = x.2.2)
theorem re_of {x y : Int × ByteArray × List (ByteArray × ByteArray)} {w0 w' : World} {g : Nat} {e : Ending} (h : x = y) (hp : RePost y w0 g e w') : RePost x w0 g e w' := by rw [h]; exact hp
def leftN (g : Nat) (w : World) : Nat := match w.cell? ⟨g, 0, none⟩ with | some (.string u) => u.size | _ => 0
theorem RS.leftN {w0 w : World} {g : Nat} {u nm : ByteArray} {v : Value} {l : List (ByteArray × ByteArray)} (h : RS w0 g u nm v l w) : leftN g w = u.size := by unfold Go.Proofs.YtnomcldpbkinmaaGreatDoor.Tg.leftN; rw [h.c0]
def ReRel (s : ByteArray) (w0 : World) (g : Nat) (wr : World) : Prop :=
  ∃ u nm v l, Hid (RS w0 g u nm v l wr) ∧ l.length ≤ 32 ∧ u.size ≤ 100000 ∧ Hid (parF s = GoF nm l u)
set_option maxHeartbeats 2000000 in
set_option maxRecDepth 100000 in
theorem read_no (w0 : World) (g : Nat) (s nm : ByteArray) (v : Value) (w : World) (h : RS w0 g s nm v [] w) (hs : s.size ≤ 100000) (h1 : isN (Nz.sx s 0) = false) :
    Calls Tryz.prog 77 #[.pointer (some ⟨g, 0, none⟩)] w (RePost (parF s) w0 g) := by
  have HP : Hid (parF s = (4, Nz.em, [])) := Lib.hid (by unfold parF; rw [if_pos h1])
  have C := Lib.hid (name_no w0 g s nm v [] w h (by omega) h1)
  clear h h1
  go_enter Tryz.func77, Tryz.ntmps77
  go_wp2_with fail
  refine C.out.mono ?_
  rintro e w1 ⟨rfl, hr1, _⟩
  have HR := Lib.hid hr1
  clear hr1 C
  go_wp2
  go_ret
  exact re_of HP.out ⟨rfl, _, _, _, _, HR.out, fun h => absurd h (by decide)⟩
set_option maxHeartbeats 4000000 in
set_option maxRecDepth 100000 in
theorem read_yes (w0 : World) (g : Nat) (s nm : ByteArray) (v : Value) (w : World) (h : RS w0 g s nm v [] w) (hs : s.size ≤ 100000) (h1 : isN (Nz.sx s 0) = true) :
    Calls Tryz.prog 77 #[.pointer (some ⟨g, 0, none⟩)] w (RePost (parF s) w0 g) := by
  have HP : Hid (parF s = GoF (Nz.sx s 0) [] (Nz.fr s (Nz.sn s 0))) := Lib.hid (by unfold parF; rw [if_neg (by rw [h1]; decide)])
  have C := Lib.hid (name_yes w0 g s nm v [] w h (by omega) h1)
  have hz := Nz.fr_size s (Nz.sn s 0)
  have hz' : (Nz.fr s (Nz.sn s 0)).size ≤ 100000 := by omega
  clear h h1 hz
  generalize Nz.fr s (Nz.sn s 0) = u1 at *
  generalize Nz.sx s 0 = x at *
  go_enter Tryz.func77, Tryz.ntmps77
  go_wp2_with fail
  refine C.out.mono ?_
  rintro e w1 ⟨rfl, hr1, _⟩
  have HR := Lib.hid (hr1.name x)
  have c1 := hr1.c1
  have f1 := hr1.fz 1
  clear hr1 C
  go_wp2_with fail
  go_loopw [5, 6] (fun _ _ wr => ReRel s w0 g wr) (fun _ _ wr => leftN g wr)
  case atStart => exact ⟨u1, x, v, [], HR, by simp, hz', HP⟩
  case round =>
    clear HR HP c1 f1 hz'
    obtain ⟨u, nm', v', l, hR, hl, hu, hG⟩ := hrel
    have hsz := sk_size u
    by_cases d1 : (sk u).size = 0
    · have HG := Lib.hid (hG.out.trans (go_done nm' l u d1))
      have C1 := Lib.hid (skip_any w0 g u nm' v' l wr hR.out (by omega) _ rfl)
      have C2 := Lib.hid (fun w h => done_any w0 g (sk u) nm' v' l w h true (decide_eq_true d1))
      clear hR hG d1 hsz
      generalize sk u = u2 at *
      generalize hb : decide (bk u ≠ 0) = b at *
      clear hb
      go_wp2_with fail
      refine C1.out.mono ?_
      rintro e w2 ⟨rfl, hr2, _⟩
      have HR2 := Lib.hid hr2
      clear hr2 C1
      go_wp2_with fail
      refine (C2.out _ HR2.out).mono ?_
      rintro e w3 ⟨rfl, hr3, _⟩
      have HR3 := Lib.hid hr3
      clear hr3 C2 HR2
      go_wp2
      go_ret
      exact re_of HG.out ⟨rfl, _, _, _, _, HR3.out, fun _ => ⟨rfl, rfl⟩⟩
    · by_cases d2 : bk u = 0
      · have HG := Lib.hid (hG.out.trans (go_mark nm' l u d1 d2))
        have C1 := Lib.hid (skip_any w0 g u nm' v' l wr hR.out (by omega) false (by rw [d2]; decide))
        have C2 := Lib.hid (fun w h => done_any w0 g (sk u) nm' v' l w h false (decide_eq_false d1))
        clear hR hG d1 d2 hsz
        generalize sk u = u2 at *
        go_wp2_with fail
        refine C1.out.mono ?_
        rintro e w2 ⟨rfl, hr2, _⟩
        have HR2 := Lib.hid hr2
        clear hr2 C1
        go_wp2_with fail
        refine (C2.out _ HR2.out).mono ?_
        rintro e w3 ⟨rfl, hr3, _⟩
        have HR3 := Lib.hid hr3
        clear hr3 C2 HR2
        go_wp2
        go_ret
        exact re_of HG.out ⟨rfl, _, _, _, _, HR3.out, fun h => absurd h (by decide)⟩
      · have C1 := Lib.hid (skip_any w0 g u nm' v' l wr hR.out (by omega) true (decide_eq_true d2))
        have C2 := Lib.hid (fun w h => done_any w0 g (sk u) nm' v' l w h false (decide_eq_false d1))
        have C3 := Lib.hid (fun w h => attr_any w0 g (sk u) nm' v' l w h (by omega) hl)
        have HL := Lib.hid hR.out.leftN
        by_cases d3 : atF l (pairF (sk u)) = 0
        · obtain ⟨q1, q2, q3⟩ := go_good nm' l u d1 d2 d3
          have HG := Lib.hid (hG.out.trans q1)
          clear hR hG d1 d2 hsz q1
          generalize pairF (sk u) = y at *
          generalize sk u = u2 at *
          obtain ⟨yn, yv⟩ : ∃ z : Int, z = 0 := ⟨0, rfl⟩
          go_wp2_with fail
          refine C1.out.mono ?_
          rintro e w2 ⟨rfl, hr2, _⟩
          have HR2 := Lib.hid hr2
          clear hr2 C1
          go_wp2_with fail
          refine (C2.out _ HR2.out).mono ?_
          rintro e w3 ⟨rfl, hr3, _⟩
          have HR3 := Lib.hid hr3
          clear hr3 C2 HR2
          go_wp2_with fail
          refine (C3.out _ HR3.out).mono ?_
          rintro e w4 ⟨rfl, hr4, _⟩
          obtain ⟨v4, hr4⟩ := hr4 d3
          have HR4 := Lib.hid hr4
          rw [d3]
          clear hr4 C3 HR3 d3
          go_wp2
          go_roundw
          case rel => exact ⟨_, _, _, _, HR4, by rw [List.length_append, List.length_singleton]; omega, by omega, HG⟩
          case measure => rw [HR4.out.leftN, HL.out]; exact q3
        · have HG := Lib.hid (hG.out.trans (go_bad nm' l u d1 d2 d3))
          clear hR hG d1 d2 hsz
          generalize pairF (sk u) = y at *
          generalize sk u = u2 at *
          have t1 : (atF l y != 0) = true := by rw [bne_iff_ne]; exact d3
          have HE := Lib.hid d3
          clear d3
          go_wp2_with fail
          refine C1.out.mono ?_
          rintro e w2 ⟨rfl, hr2, _⟩
          have HR2 := Lib.hid hr2
          clear hr2 C1
          go_wp2_with fail
          refine (C2.out _ HR2.out).mono ?_
          rintro e w3 ⟨rfl, hr3, _⟩
          have HR3 := Lib.hid hr3
          clear hr3 C2 HR2
          go_wp2_with fail
          refine (C3.out _ HR3.out).mono ?_
          rintro e w4 ⟨rfl, _, u4, v4, l4, hr4⟩
          have HR4 := Lib.hid hr4
          clear hr4 C3 HR3
          generalize atF l y = er at *
          go_wp2
          go_ret
          exact re_of HG.out ⟨rfl, _, _, _, _, HR4.out, fun h => absurd h HE.out⟩
theorem readr_any (w0 : World) (g : Nat) (s nm : ByteArray) (v : Value) (w : World) (h : RS w0 g s nm v [] w) (hs : s.size ≤ 100000) :
    Calls Tryz.prog 77 #[.pointer (some ⟨g, 0, none⟩)] w (RePost (parF s) w0 g) := by
  cases h1 : isN (Nz.sx s 0)
  · exact read_no w0 g s nm v w h hs h1
  · exact read_yes w0 g s nm v w h hs h1

/-- What Parse answers. -/
def PsPost (x : Int × ByteArray × List (ByteArray × ByteArray)) (w : World) (e : Ending) (w' : World) : Prop :=
  ∃ v, e = .returned (.tuple #[.agg #[.string x.2.1, v], .int .i64 x.1]) ∧ OwnR w' w.heap.size v x.2.2 ∧ Below w.heap.size w w'
theorem goF_err : ∀ (f : Nat) (nm : ByteArray) (l : List (ByteArray × ByteArray)) (u : ByteArray), (goF f nm l u).1 ≠ 0 → (goF f nm l u).2 = (Nz.em, [])
  | 0, _, _, _, h => absurd rfl h
  | f + 1, nm, l, u, h => by
    unfold goF at h ⊢
    by_cases c1 : (sk u).size = 0
    · rw [if_pos c1] at h; exact absurd rfl h
    rw [if_neg c1] at h ⊢
    by_cases c2 : bk u = 0
    · rw [if_pos c2]
    rw [if_neg c2] at h ⊢
    by_cases c3 : (pairF (sk u)).1 ≠ 0
    · rw [if_pos c3]
    rw [if_neg c3] at h ⊢
    by_cases c4 : hasN (pairF (sk u)).2.1 l = true
    · rw [if_pos c4]
    rw [if_neg c4] at h ⊢
    by_cases c5 : 32 ≤ l.length
    · rw [if_pos c5]
    rw [if_neg c5] at h ⊢
    exact goF_err f _ _ _ h
theorem par_err {s : ByteArray} (h : (parF s).1 ≠ 0) : (parF s).2 = (Nz.em, []) := by
  unfold parF at h ⊢
  by_cases c : isN (Nz.sx s 0) = false
  · rw [if_pos c]
  · rw [if_neg c] at h ⊢
    exact goF_err _ _ _ _ h
theorem own_mono {w : World} {B B' : Nat} {v : Value} {l : List (ByteArray × ByteArray)} (h : OwnR w B v l) (hB : B' ≤ B) : OwnR w B' v l := by
  refine ⟨h.1, ?_⟩
  rcases h.2 with hn | ⟨g, cap, cur, hv, hb, rest⟩
  · exact .inl hn
  · exact .inr ⟨g, cap, cur, hv, Nat.le_trans hB hb, rest⟩
theorem rs_new (w : World) (s : ByteArray) (hV : Vars w) : RS (w.alloc (.cells #[.string ⟨#[]⟩, .slice none 0 0] 53)) (w.heap.size + 1) s ⟨#[]⟩ (.slice none 0 0) [] ((w.alloc (.cells #[.string ⟨#[]⟩, .slice none 0 0] 53)).alloc (.cells #[.string s, .string ⟨#[]⟩, .slice none 0 0] 131)) := by
  have hz : (w.alloc (.cells #[.string ⟨#[]⟩, .slice none 0 0] 53)).heap.size = w.heap.size + 1 := by simp
  refine ⟨by omega, ?_, World.ownsRow_nil _ _ _ _, (Below.refl _ _).alloc (Nat.le_refl _) _, hV.keep ((Below.refl _ w).alloc (Nat.le_refl _) _) hV.1⟩
  rw [← hz]
  exact heap_alloc_new _ _
set_option maxHeartbeats 4000000 in
set_option maxRecDepth 100000 in
theorem parse_err (s : ByteArray) (x : Int × ByteArray × List (ByteArray × ByteArray)) (w : World) (hV : Vars w) (he : x.1 ≠ 0) (hx : x.2 = (Nz.em, []))
    (C : Hid (∀ W0 g W, RS W0 g s ⟨#[]⟩ (.slice none 0 0) [] W → Calls Tryz.prog 77 #[.pointer (some ⟨g, 0, none⟩)] W (RePost x W0 g))) :
    Calls Tryz.prog 59 #[.string s] w (PsPost x w) := by
  obtain ⟨er, xn, xl⟩ := x
  dsimp only at he hx
  injection hx with hx1 hx2
  subst hx1 hx2
  have HR := Lib.hid (rs_new w s hV)
  have t1 : (er != 0) = true := by rw [bne_iff_ne]; exact he
  clear hV he
  go_enter Tryz.func59, Tryz.ntmps59
  go_wp2_with fail
  refine (C.out _ _ _ HR.out).mono ?_
  rintro e w1 ⟨rfl, u', nm', v', l', hr, _⟩
  have hB := hr.bel
  have hblk : w1.heap[w.heap.size]? = some (.cells #[.string ⟨#[]⟩, .slice none 0 0] 53 (0, 0)) := (hB.block w.heap.size (by simp)).trans (heap_alloc_new w _)
  have c0 : w1.cell? ⟨w.heap.size, 0, none⟩ = some (.string ⟨#[]⟩) := by rw [Lib.cell_of_heap hblk]; rfl
  have c1 : w1.cell? ⟨w.heap.size, 1, none⟩ = some (.slice none 0 0) := by rw [Lib.cell_of_heap hblk]; rfl
  have f0 := Lib.frozen_of_heap hblk 0
  have f1 := Lib.frozen_of_heap hblk 1
  have HB := Lib.hid (((Below.refl w.heap.size w).alloc (Nat.le_refl _) (.cells #[.string ⟨#[]⟩, .slice none 0 0] 53)).trans (hB.mono (by simp)))
  clear hblk hB hr C HR
  dsimp only
  generalize hr : w.heap.size = r at *
  have HRZ := Lib.hid hr
  clear hr
  go_wp2
  exact bodyPost_ret (v := .tuple #[.agg #[.string ⟨#[]⟩, .slice none 0 0], .int .i64 er]) (by simp [results, Tryz.results59, go_sem, c0, c1]) rfl
    ⟨.slice none 0 0, rfl, World.ownsRow_nil _ _ _ _, by rw [HRZ.out]; exact ((HB.out.setCell (p := ⟨r, 0, none⟩) (Nat.le_refl _) _).setCell (p := ⟨r, 1, none⟩) (Nat.le_refl _) _)⟩
set_option maxHeartbeats 4000000 in
set_option maxRecDepth 100000 in
theorem parse_ok (s : ByteArray) (x : Int × ByteArray × List (ByteArray × ByteArray)) (w : World) (hV : Vars w) (he : x.1 = 0)
    (C : Hid (∀ W0 g W, RS W0 g s ⟨#[]⟩ (.slice none 0 0) [] W → Calls Tryz.prog 77 #[.pointer (some ⟨g, 0, none⟩)] W (RePost x W0 g))) :
    Calls Tryz.prog 59 #[.string s] w (PsPost x w) := by
  obtain ⟨er, xn, xl⟩ := x
  dsimp only at he
  subst he
  have HR := Lib.hid (rs_new w s hV)
  clear hV
  go_enter Tryz.func59, Tryz.ntmps59
  go_wp2_with fail
  refine (C.out _ _ _ HR.out).mono ?_
  rintro e w1 ⟨rfl, u', nm', v', l', hr, hx⟩
  obtain ⟨rfl, rfl⟩ := hx rfl
  dsimp only at hr ⊢
  have hB := hr.bel
  have hblk : w1.heap[w.heap.size]? = some (.cells #[.string ⟨#[]⟩, .slice none 0 0] 53 (0, 0)) := (hB.block w.heap.size (by simp)).trans (heap_alloc_new w _)
  have c0 : w1.cell? ⟨w.heap.size, 0, none⟩ = some (.string ⟨#[]⟩) := by rw [Lib.cell_of_heap hblk]; rfl
  have c1 : w1.cell? ⟨w.heap.size, 1, none⟩ = some (.slice none 0 0) := by rw [Lib.cell_of_heap hblk]; rfl
  have f0 := Lib.frozen_of_heap hblk 0
  have f1 := Lib.frozen_of_heap hblk 1
  have HB := Lib.hid (((Below.refl w.heap.size w).alloc (Nat.le_refl _) (.cells #[.string ⟨#[]⟩, .slice none 0 0] 53)).trans (hB.mono (by simp)))
  have HO := Lib.hid (own_mono hr.own (B' := w.heap.size) (by simp))
  have HK := Lib.hid (fun (x y : Value) => own_set (own_set HO.out hblk (by decide) 0 x) (g := w.heap.size) (by simp [World.setCell, Array.getElem?_modify, hblk]; exact ⟨rfl, rfl⟩) (T := 53) (by decide) 1 y)
  obtain ⟨A, c, rfl, _⟩ := own_rdR hr.own
  have g1 := hr.c1
  have g2 := hr.c2
  clear hblk hB hr C HR hx
  generalize hr : w.heap.size = r at *
  have HRZ := Lib.hid hr
  clear hr
  go_wp2
  exact bodyPost_ret (v := .tuple #[.agg #[.string nm', .slice A l'.length c], .int .i64 0]) (by simp [results, Tryz.results59, go_sem, c0, c1]) rfl
    ⟨_, rfl, by rw [HRZ.out]; exact HK.out _ _, by rw [HRZ.out]; exact ((HB.out.setCell (p := ⟨r, 0, none⟩) (Nat.le_refl _) _).setCell (p := ⟨r, 1, none⟩) (Nat.le_refl _) _)⟩
theorem tparse_any (s : ByteArray) (w : World) (hV : Vars w) (hs : s.size ≤ 100000) : Calls Tryz.prog 59 #[.string s] w (PsPost (parF s) w) := by
  have C := Lib.hid (fun W0 g W h => readr_any W0 g s ⟨#[]⟩ (.slice none 0 0) W h hs)
  by_cases h : (parF s).1 = 0
  · exact parse_ok s _ w hV h C
  · exact parse_err s _ w hV h (par_err h) C
end Go.Proofs.YtnomcldpbkinmaaGreatDoor.Tg
