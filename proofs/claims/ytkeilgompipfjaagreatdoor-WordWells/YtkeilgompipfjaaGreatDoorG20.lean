/-
  Merged by program out of the texts Front2, WlEv, WlRg, WlRg2, WlRg3 of one seat.
-/
import Derived.Test.YtkeilgompipfjaaGreatDoorG19
import Derived.Test.YtkeilgompipfjaaGreatDoorG14
import Derived.Test.YtkeilgompipfjaaGreatDoorG09
import Derived.Test.YtkeilgompipfjaaGreatDoorG06

/- The walks of scan.front, scan.next, Next and More. -/
set_option linter.unusedSimpArgs false
set_option linter.unusedVariables false
namespace Go.Proofs.YtkeilgompipfjaaGreatDoor
open Go.RowKit

set_option maxHeartbeats 1000000 in
set_option maxRecDepth 100000 in
theorem front_nil_more (s : ByteArray) (at_ : Int) (w : World) (he : s.toList.isEmpty = true) : Calls Tryz.prog 22 #[.string s, .int .i64 at_, .bool true] w (TokPost (T0, 0, 7) w) := by
  have HN := Lib.hid (new_end w)
  go_enter Tryz.func22, Tryz.ntmps22
  go_wp2_with fail
  exact bodyPost_ret (v := .tuple #[tkV T0, .int .i64 0, .int .i64 7]) (by rw [tk0]; simp [results, Tryz.results22, go_sem]) rfl ⟨T0, 0, rfl, fun _ => ⟨rfl, rfl⟩, HN.out.2.1⟩
set_option maxHeartbeats 1000000 in
set_option maxRecDepth 100000 in
theorem front_nil_last (s : ByteArray) (at_ : Int) (w : World) (he : s.toList.isEmpty = true) : Calls Tryz.prog 22 #[.string s, .int .i64 at_, .bool false] w (TokPost (⟨6, [], false, false⟩, 0, 0) w) := by
  go_enter Tryz.func22, Tryz.ntmps22
  go_wp2_with fail
  exact bodyPost_ret (v := .tuple #[tkV ⟨6, [], false, false⟩, .int .i64 0, .int .i64 0]) (by unfold tkV; rw [str_none]; simp [results, Tryz.results22, go_sem]) rfl ⟨⟨6, [], false, false⟩, 0, rfl, fun _ => ⟨rfl, rfl⟩, (Below.refl _ w).alloc (Nat.le_refl _) _⟩
def ToC (f : Nat) (args : Array Value) (x : Tk × Nat × Int) : Prop := ∀ W, Gl W → Calls Tryz.prog f args W (TokPost x W)
set_option maxHeartbeats 1000000 in
set_option maxRecDepth 100000 in
theorem front_mark (s : ByteArray) (at_ : Int) (more : Bool) (x : Tk × Nat × Int) (w : World) (hG : Gl w) (he : s.toList.isEmpty = false) (h1 : 0 < s.size) (h0 : (((s[0]).toNat : Int) == 60) = true) (C : Hid (ToC 33 #[.string s, .int .i64 at_] x)) :
    Calls Tryz.prog 22 #[.string s, .int .i64 at_, .bool more] w (TokPost x w) := by
  have HN := Lib.hid (new_end w)
  have HG := Lib.hid (hG.after HN.out.2.1)
  clear hG
  go_enter Tryz.func22, Tryz.ntmps22
  go_wp2_with fail
  refine (C.out _ HG.out).mono ?_
  rintro e w3 ⟨⟨kd, tx, em, bk⟩, n, rfl, hx, hb3⟩
  have HX := Lib.hid hx
  obtain ⟨hz, hb, ⟨c0, c1, c2, c3, f0, f1, f2, f3⟩⟩ := more_end HN.out hb3
  have HB := Lib.hid hb
  clear hb3 hb hx
  unfold tkV
  dsimp only
  generalize hst : strOfNums tx = str
  have HS := Lib.hid hst
  clear hst
  go_wp2_with fail
  exact bodyPost_ret (v := .tuple #[.agg #[.int .i64 kd, .string str, .bool em, .bool bk], .int .i64 n, .int .i64 x.2.2]) (by simp [results, Tryz.results22, go_sem, c0, c1, c2, c3, hz]) rfl ⟨⟨kd, tx, em, bk⟩, n, by rw [← HS.out]; rfl, HX.out, below_set4 HB.out (Nat.le_refl _) _ _ _ _⟩
set_option maxHeartbeats 1000000 in
set_option maxRecDepth 100000 in
theorem front_plain (s : ByteArray) (at_ : Int) (more : Bool) (x : Tk × Nat × Int) (w : World) (hG : Gl w) (he : s.toList.isEmpty = false) (h1 : 0 < s.size) (h0 : (((s[0]).toNat : Int) == 60) = false) (C : Hid (ToC 34 #[.string s, .bool more] x)) :
    Calls Tryz.prog 22 #[.string s, .int .i64 at_, .bool more] w (TokPost x w) := by
  have HN := Lib.hid (new_end w)
  have HG := Lib.hid (hG.after HN.out.2.1)
  clear hG
  go_enter Tryz.func22, Tryz.ntmps22
  go_wp2_with fail
  refine (C.out _ HG.out).mono ?_
  rintro e w3 ⟨⟨kd, tx, em, bk⟩, n, rfl, hx, hb3⟩
  have HX := Lib.hid hx
  obtain ⟨hz, hb, ⟨c0, c1, c2, c3, f0, f1, f2, f3⟩⟩ := more_end HN.out hb3
  have HB := Lib.hid hb
  clear hb3 hb hx
  unfold tkV
  dsimp only
  generalize hst : strOfNums tx = str
  have HS := Lib.hid hst
  clear hst
  go_wp2_with fail
  exact bodyPost_ret (v := .tuple #[.agg #[.int .i64 kd, .string str, .bool em, .bool bk], .int .i64 n, .int .i64 x.2.2]) (by simp [results, Tryz.results22, go_sem, c0, c1, c2, c3, hz]) rfl ⟨⟨kd, tx, em, bk⟩, n, by rw [← HS.out]; rfl, HX.out, below_set4 HB.out (Nat.le_refl _) _ _ _ _⟩
theorem front_any (s : ByteArray) (a : Nat) (more : Bool) (w : World) (hG : Gl w) (hs : s.size ≤ 10000) : Calls Tryz.prog 22 #[.string s, .int .i64 (a : Int), .bool more] w (TokPost (frontF (decide (a = 0)) more (byts s)) w) := by
  have hE := Nz.isE s
  unfold frontF
  by_cases h0 : s.size = 0
  · have hn : byts s = [] := List.eq_nil_of_length_eq_zero (by rw [byts_len]; exact h0)
    rw [if_pos hn]
    rw [decide_eq_true h0] at hE
    cases more with
    | true => exact front_nil_more s a w hE
    | false => exact front_nil_last s a w hE
  · rw [decide_eq_false h0] at hE
    rw [if_neg (fun h => h0 (by rw [← byts_len, h]; rfl))]
    have h1 : 0 < s.size := by omega
    have hb := at_byt s 0 h1
    by_cases h2 : (byts s).getD 0 0 = 60
    · rw [if_pos h2]
      exact front_mark s a more _ w hG hE h1 (by rw [hb, h2]; rfl) (Lib.hid fun W hW => marked_any s a W hW hs h2)
    · rw [if_neg h2]
      exact front_plain s a more _ w hG hE h1 (by rw [hb, beq_eq_false_iff_ne]; exact h2) (Lib.hid fun W hW => plain_tok s more W hW hs)
/-- What Next, More and the document's Next answer: the token, where the next one begins, the error. -/
def NxPost (x : Tk × Nat × Int) (a : Nat) (w : World) (e : Ending) (w' : World) : Prop :=
  e = .returned (.tuple #[tkV x.1, .int .i64 ((a : Int) + (x.2.1 : Int)), .int .i64 x.2.2]) ∧ Below w.heap.size w w'
theorem front_zero (z more : Bool) (l : List Int) (h : (frontF z more l).2.2 ≠ 0) : frontF z more l = (T0, 0, (frontF z more l).2.2) := by
  by_cases hl : l = []
  · subst hl
    cases more with
    | true => rfl
    | false => exact absurd rfl h
  · obtain ⟨h1, h2⟩ := (fit_front z more l hl).zero h
    rw [← h1, ← h2]
theorem front_len (z more : Bool) (l : List Int) : (frontF z more l).2.1 ≤ l.length := by
  by_cases h : (frontF z more l).2.2 = 0
  · by_cases hl : l = []
    · subst hl
      cases more with
      | true => exact Nat.le_refl _
      | false => exact Nat.le_refl _
    · exact ((fit_front z more l hl).size h).2.1
  · rw [front_zero z more l h]
    exact Nat.zero_le _
set_option maxHeartbeats 1000000 in
set_option maxRecDepth 100000 in
theorem next_err (s : ByteArray) (a : Nat) (more : Bool) (m : Nat) (er : Int) (w : World) (hG : Gl w) (hs : s.size ≤ 10000) (ha : a ≤ s.size) (her : er ≠ 0) (y : Tk) (C : Hid (ToC 22 #[.string (s.extract a s.size), .int .i64 (a : Int), .bool more] (y, m, er))) :
    Calls Tryz.prog 17 #[.string s, .int .i64 (a : Int), .bool more] w (NxPost (T0, 0, er) a w) := by
  have HN := Lib.hid (new_end w)
  have HG := Lib.hid (hG.after HN.out.2.1)
  have t1 : (er != 0) = true := by rw [bne_iff_ne]; exact her
  have d1 : ¬ (a : Int) < 0 := by omega
  have d2 : ¬ (s.size : Int) < (a : Int) := by omega
  have d3 : (0 : Int) ≤ (a : Int) := by omega
  have d4 : (a : Int) ≤ (s.size : Int) := by omega
  have d5 : ¬ s.size < a := by omega
  clear hG her
  go_enter Tryz.func17, Tryz.ntmps17
  go_wp2_with fail
  refine (C.out _ HG.out).mono ?_
  rintro e w3 ⟨⟨kd, tx, em, bk⟩, n, rfl, hx, hb3⟩
  have h3 := more_end HN.out hb3
  clear hx hb3
  unfold tkV
  dsimp only
  generalize strOfNums tx = str
  have hA := (Below.refl w3.heap.size w3).alloc (Nat.le_refl _) (.cells #[.int .i64 kd, .string str, .bool em, .bool bk] 41)
  obtain ⟨hz, hb, ⟨c0, c1, c2, c3, f0, f1, f2, f3⟩⟩ := more_end h3 hA
  have HB := Lib.hid hb
  clear hb h3 hA
  go_wp2_with fail
  exact bodyPost_ret (v := .tuple #[tkV T0, .int .i64 (a : Int), .int .i64 er]) (by rw [tk0]; simp [results, Tryz.results17, go_sem, c0, c1, c2, c3, hz]) rfl ⟨by show _ = Ending.returned (.tuple #[tkV T0, .int .i64 ((a : Int) + ((0 : Nat) : Int)), .int .i64 er]); rw [show (a : Int) + ((0 : Nat) : Int) = a by omega], below_set4 HB.out (Nat.le_refl _) _ _ _ _⟩
set_option maxHeartbeats 1000000 in
set_option maxRecDepth 100000 in
theorem next_ok (s : ByteArray) (a : Nat) (more : Bool) (m : Nat) (w : World) (hG : Gl w) (hs : s.size ≤ 10000) (ha : a ≤ s.size) (hm : m ≤ 10000) (y : Tk) (C : Hid (ToC 22 #[.string (s.extract a s.size), .int .i64 (a : Int), .bool more] (y, m, 0))) :
    Calls Tryz.prog 17 #[.string s, .int .i64 (a : Int), .bool more] w (NxPost (y, m, 0) a w) := by
  have HN := Lib.hid (new_end w)
  have HG := Lib.hid (hG.after HN.out.2.1)
  have d1 : ¬ (a : Int) < 0 := by omega
  have d2 : ¬ (s.size : Int) < (a : Int) := by omega
  have d3 : (0 : Int) ≤ (a : Int) := by omega
  have d4 : (a : Int) ≤ (s.size : Int) := by omega
  have d5 : ¬ s.size < a := by omega
  have q1 : IntKind.i64.wrap ((a : Int) + (m : Int)) = (a : Int) + (m : Int) := IntWalk.i64_in _ (by omega)
  clear hG
  obtain ⟨kd, tx, em, bk⟩ := y
  go_enter Tryz.func17, Tryz.ntmps17
  go_wp2_with fail
  refine (C.out _ HG.out).mono ?_
  rintro e w3 ⟨y', n, rfl, hx, hb3⟩
  obtain ⟨rfl, rfl⟩ := hx rfl
  have h3 := more_end HN.out hb3
  clear hx hb3
  unfold tkV
  dsimp only
  generalize hst : strOfNums tx = str
  have HS := Lib.hid hst
  clear hst
  have hA := (Below.refl w3.heap.size w3).alloc (Nat.le_refl _) (.cells #[.int .i64 kd, .string str, .bool em, .bool bk] 41)
  obtain ⟨hz, hb, ⟨c0, c1, c2, c3, f0, f1, f2, f3⟩⟩ := more_end h3 hA
  have HB := Lib.hid hb
  clear hb h3 hA
  go_wp2_with fail
  exact bodyPost_ret (v := .tuple #[.agg #[.int .i64 kd, .string str, .bool em, .bool bk], .int .i64 ((a : Int) + (m : Int)), .int .i64 0]) (by simp [results, Tryz.results17, go_sem, c0, c1, c2, c3, hz]) rfl ⟨by rw [← HS.out]; rfl, below_set4 HB.out (Nat.le_refl _) _ _ _ _⟩
theorem snext_any (s : ByteArray) (a : Nat) (more : Bool) (w : World) (hG : Gl w) (hs : s.size ≤ 10000) (ha : a ≤ s.size) : Calls Tryz.prog 17 #[.string s, .int .i64 (a : Int), .bool more] w (NxPost (frontF (decide (a = 0)) more ((byts s).drop a)) a w) := by
  have e : byts (s.extract a s.size) = (byts s).drop a := by rw [byts_extract, List.take_of_length_le (by rw [byts_len]; omega)]
  have C : ToC 22 #[.string (s.extract a s.size), .int .i64 (a : Int), .bool more] (frontF (decide (a = 0)) more ((byts s).drop a)) := fun W hW => by
    have := front_any (s.extract a s.size) a more W hW (by rw [ByteArray.size_extract]; omega)
    rw [e] at this
    exact this
  have hl := front_len (decide (a = 0)) more ((byts s).drop a)
  rw [List.length_drop, byts_len] at hl
  by_cases h : (frontF (decide (a = 0)) more ((byts s).drop a)).2.2 = 0
  · obtain ⟨y, m, er, hx⟩ : ∃ y m er, frontF (decide (a = 0)) more ((byts s).drop a) = (y, m, er) := ⟨_, _, _, rfl⟩
    rw [hx] at C hl h ⊢
    have h' : er = 0 := h
    subst h'
    exact next_ok s a more m w hG hs ha (by have : m ≤ s.size - a := hl; omega) y (Lib.hid C)
  · rw [front_zero _ _ _ h] at C ⊢
    exact next_err s a more 0 _ w hG hs ha h T0 (Lib.hid C)
set_option maxHeartbeats 1000000 in
set_option maxRecDepth 100000 in
theorem Next_of (s : ByteArray) (a : Nat) (x : Tk × Nat × Int) (w : World) (hG : Gl w) (C : Hid (∀ W, Gl W → Calls Tryz.prog 17 #[.string s, .int .i64 (a : Int), .bool false] W (NxPost x a W))) :
    Calls Tryz.prog 12 #[.string s, .int .i64 (a : Int)] w (NxPost x a w) := by
  have HN := Lib.hid (new_end w)
  have HG := Lib.hid (hG.after HN.out.2.1)
  clear hG
  obtain ⟨⟨kd, tx, em, bk⟩, m, er⟩ := x
  go_enter Tryz.func12, Tryz.ntmps12
  go_wp2_with fail
  refine (C.out _ HG.out).mono ?_
  rintro e w3 ⟨rfl, hb3⟩
  obtain ⟨hz, hb, ⟨c0, c1, c2, c3, f0, f1, f2, f3⟩⟩ := more_end HN.out hb3
  have HB := Lib.hid hb
  clear hb hb3
  unfold tkV
  dsimp only
  generalize hst : strOfNums tx = str
  have HS := Lib.hid hst
  clear hst
  generalize hmm : (a : Int) + (m : Int) = k
  have HM := Lib.hid hmm
  clear hmm
  go_wp2_with fail
  exact bodyPost_ret (v := .tuple #[.agg #[.int .i64 kd, .string str, .bool em, .bool bk], .int .i64 k, .int .i64 er]) (by simp [results, Tryz.results12, go_sem, c0, c1, c2, c3, hz]) rfl ⟨by rw [← HS.out, ← HM.out]; rfl, below_set4 HB.out (Nat.le_refl _) _ _ _ _⟩
theorem Next_any (s : ByteArray) (a : Nat) (w : World) (hG : Gl w) (hs : s.size ≤ 10000) (ha : a ≤ s.size) : Calls Tryz.prog 12 #[.string s, .int .i64 (a : Int)] w (NxPost (nx (byts s) a) a w) :=
  Next_of s a _ w hG (Lib.hid fun W hW => snext_any s a false W hW hs ha)
end Go.Proofs.YtkeilgompipfjaaGreatDoor

/- The walk of well.Events. -/
set_option linter.unusedSimpArgs false
set_option linter.unusedVariables false
namespace Go.Proofs.YtkeilgompipfjaaGreatDoor.Wl
open Go.RowKit

theorem wpList_append_any {P : Program} {w : World} {ops : Array Oper} {rest : List Oper} {o : Oper} {a : Act} {Q : Exit → Act → World → Prop} (hgd : o.guard = none) (s x : Operand) (t : TypeId)
    (ho : o.op = .call { callee := .builtin .append, args := #[s, x], argTypes := #[t, t] })
    (base : Nat) (e : TypeId) (i : TypeInfo) (z : Value) (size bytes : Nat) (ht : P.underlying t = some (.slice e)) (hi : P.info? e = some i) (hz : i.zero = some z) (hsize : i.size = size) (hby : i.bytes = bytes) (hzs : z.cells.size = size) (hsz : 0 < size)
    (v : Value) (n : Nat) (xs : List Value) (hs : a.eval s = v) (hown : w.ownsRow base e size v n xs)
    (A : Option Addr) (m c : Nat) (news : List Value) (hx : a.eval x = .slice A m c) (hnil : A = none → m = 0 ∧ c = 0) (hl : news.length = m * size) (hnews : ∀ ad, A = some ad → ∀ j u, news[j]? = some u → w.cell? (ad.add j) = some u) (h1 : ∀ u ∈ news, u.oneCell' = true)
    (h63 : n + m ≤ maxLen) (hbytes : (n + m) * bytes ≤ 140737488355328) (hbase : base ≤ w.heap.size)
    (h : ∀ v' w', w'.ownsRow base e size v' (n + m) (xs ++ news) → w.grownBy w' v.ownBlock → wpList P ops Q rest (a.put o.dst v') w') :
    wpList P ops Q (o :: rest) a w := by
  cases A with
  | some ad => exact wpList_append_own w hgd s x t ho base e i z size bytes ht hi hz hsize hby hzs hsz v n xs hs hown ad m c news hx hl (hnews ad rfl) h1 h63 hbytes hbase (fun v' w' a1 a2 _ => h v' w' a1 a2)
  | none =>
    obtain ⟨rfl, rfl⟩ := hnil rfl
    have hnw : news = [] := List.eq_nil_of_length_eq_zero (by rw [hl, Nat.zero_mul])
    subst hnw
    refine wpList_plain hgd fun K hK => ?_
    have hr := run_append_owned_none (P := P) (w := w) base t o.type e i size ht hi v n xs hown
    unfold Oper.wp execOp
    simp only [ho, resolve, invoke, builtin, Sem.run_bind, Sem.run_pure, Result.andThen_ok, List.map_toArray, List.map_cons, List.map_nil, hs, hx, hr]
    exact hK _ _ (h v w (by rw [List.append_nil]; exact hown) ⟨rfl, rfl, rfl, Nat.le_refl _, fun _ _ _ => rfl⟩)
/-- Where Events stands. -/
structure EW (w : World) (rb : Nat) (v : Value) (st : St) (out : List Ev) (a : Nat) (W : World) : Prop where
  rs : RS w.heap.size rb st W
  ev : EvOwn W w.heap.size v out
  bel : Below w.heap.size w W
  gl0 : Gl w
  gd : Gd st
  wt : st.wait.size ≤ 10000 * a
  jn : Jn st out
  len : out.length ≤ 3 * a
theorem EW.gl {w W : World} {rb a : Nat} {v : Value} {st : St} {out : List Ev} (h : EW w rb v st out a W) : Gl W := h.gl0.after h.bel
theorem EW.after {w W W' : World} {rb a : Nat} {v : Value} {st : St} {out : List Ev} (h : EW w rb v st out a W) (hb : Below W.heap.size W W') : EW w rb v st out a W' := by
  obtain ⟨vw, vo, es, hr⟩ := h.rs
  exact ⟨⟨vw, vo, es, hr.after hb⟩, h.ev.keep hb, h.bel.trans (hb.mono h.bel.size), h.gl0, h.gd, h.wt, h.jn, h.len⟩
def EvRel (s : ByteArray) (w : World) (rb : Nat) (v i : Value) (wr : World) : Prop :=
  ∃ (a : Nat) (st : St) (out : List Ev), a ≤ s.size ∧ i = .int .i64 a ∧ Hid (EW w rb v st out a wr) ∧ Hid (evF (byts s) = evR (byts s) a st out)
/-- What Events answers. -/
def EvPost (x : List Ev × Nat × Int) (w : World) (e : Ending) (w' : World) : Prop :=
  ∃ v, e = .returned (.tuple #[v, .int .i64 (x.2.1 : Int), .int .i64 x.2.2]) ∧ EvOwn w' w.heap.size v x.1 ∧ Below w.heap.size w w'
theorem ep_of {x y : List Ev × Nat × Int} {w w' : World} {e : Ending} (h : x = y) (hp : EvPost y w e w') : EvPost x w e w' := by rw [h]; exact hp
theorem own_src {W : World} {B n c z : Nat} {e : TypeId} {A : Option Addr} {xs : List Value} (h : W.ownsRow B e z (.slice A n c) n xs) : (A = none → n = 0 ∧ c = 0) ∧ ∀ ad, A = some ad → ∀ j u, xs[j]? = some u → W.cell? (ad.add j) = some u := by
  rcases h.2 with ⟨q, h0⟩ | ⟨g, cap, cur, q, hB, hh, hr⟩
  · injection q with q1 q2 q3
    refine ⟨fun _ => ⟨h0, q3⟩, fun ad e => ?_⟩
    rw [q1] at e
    cases e
  · injection q with q1 q2 q3
    subst q1
    refine ⟨(fun e => by cases e), fun ad e j u hu => ?_⟩
    cases e
    exact h.cells rfl j u hu
/-- All, with what a token told behind it. -/
theorem ev_cat {W w3 : World} {B : Nat} {v v' : Value} {xs ys : List EvP} {l m : List Ev} (h1 : xs.map (·.1) = l) (h2 : ys.map (·.1) = m) (ho : W.ownsRow B 33 5 v xs.length (evL xs)) (hX : EvO W B xs) (hY : EvO W B ys) (hg : W.grownBy w3 v.ownBlock) (hn : w3.ownsRow B 33 5 v' (xs.length + ys.length) (evL xs ++ evL ys)) : EvOwn w3 B v' (l ++ m) := by
  refine ⟨xs ++ ys, by rw [List.map_append, h1, h2], ?_, (hX.grown ho hg (by decide)).app (hY.grown ho hg (by decide))⟩
  rw [evL_app, List.length_append]
  exact hn
set_option maxHeartbeats 8000000 in
set_option maxRecDepth 100000 in
theorem events_any (s : ByteArray) (w : World) (hG : Gl w) (hs : s.size ≤ 5000) : Calls Tryz.prog 5 #[.string s] w (EvPost (evF (byts s)) w) := by
  obtain ⟨i0, hi, hz0, hz1, hz2⟩ := info_parts Tryz.info33
  have HC : Hid (∀ (a : Nat) W, a ≤ s.size → Gl W → Calls Tryz.prog 12 #[.string s, .int .i64 (a : Int)] W (NxPost (nx (byts s) a) a W)) := Lib.hid fun a W ha hW => Next_any s a W hW (by omega) ha
  have CN := Lib.hid (new_any w)
  have HGl := Lib.hid hG
  clear hG
  go_enter Tryz.func5, Tryz.ntmps5
  go_wp2_with fail
  refine CN.out.mono ?_
  rintro e w0 ⟨rfl, r0, b0⟩
  have HE0 : Hid (EW w w.heap.size (.slice none 0 0) st0 [] 0 w0) := Lib.hid ⟨⟨_, _, _, r0⟩, EvOwn.nil _ _, b0, HGl.out, gd0, Nat.zero_le _, jn0, Nat.zero_le _⟩
  clear r0 b0 CN HGl
  go_wp2_with fail
  go_loopw [5, 7] (fun v i wr => EvRel s w w.heap.size v i wr) (fun _ i _ => s.size - (intOf i).toNat)
  case atStart => exact ⟨0, st0, [], Nat.zero_le _, rfl, HE0, Lib.hid rfl⟩
  case round =>
    obtain ⟨a, st, out, ha, rfl, hE, hA⟩ := hrel
    have C := Lib.hid (HC.out a wr ha hE.out.gl)
    have hal : a ≤ (byts s).length := by rw [byts_len]; exact ha
    obtain ⟨Av, cv, hv⟩ := hE.out.ev.slc
    subst hv
    by_cases he : (nx (byts s) a).2.2 = 0
    · have hT := nx_text (byts s) a (byts_nn s)
      rw [byts_len] at hT
      have hKd := nx_kind (byts s) a he
      have hFt := fun h => (nx_fit (byts s) a h).size he
      have G1 := ev_bad (L := byts s) (s := st) out hal he
      have G2 := fun h => ev_last (L := byts s) (a := a) (s := st) out h he
      have G3 := fun h => ev_go (L := byts s) (a := a) (s := st) out h he
      obtain ⟨⟨kd, tx, em, bk⟩, n, er, hx⟩ : ∃ y n er, nx (byts s) a = (y, n, er) := ⟨_, _, _, rfl⟩
      rw [hx] at C hT hKd hFt G1 G2 G3 he
      dsimp only at C hT hKd hFt G1 G2 G3 he
      subst he
      unfold tokF at G1 G2 G3
      dsimp only at G1 G2 G3
      rw [List.length_drop, byts_len] at hFt
      rw [byts_len] at hKd G2 G3
      have hsz : (strOfNums tx).size ≤ 10000 := by rw [str_size]; omega
      have hJ := take_jn (t := ⟨kd, strOfNums tx, em, bk⟩) hE.out.jn
      have hGd := take_gd hE.out.gd ⟨kd, strOfNums tx, em, bk⟩ hsz
      have hWt := take_wait (s := st) ⟨kd, strOfNums tx, em, bk⟩
      have hLn := take_len (s := st) ⟨kd, strOfNums tx, em, bk⟩
      have hw0 := hE.out.wt
      have hl0 := hE.out.len
      dsimp only at hJ hWt
      have CT : Hid (∀ W, EW w w.heap.size (.slice Av out.length cv) st out a W → Calls Tryz.prog 13 #[.pointer (some ⟨w.heap.size, 0, none⟩), .agg #[.int .i64 kd, .string (strOfNums tx), .bool em, .bool bk]] W (TkP w.heap.size w.heap.size (takeF st ⟨kd, strOfNums tx, em, bk⟩) (takeF st ⟨kd, strOfNums tx, em, bk⟩).1 W)) := Lib.hid fun W hW => take_any hW.rs hW.gl kd _ em bk hsz hW.gd (by omega)
      have HJ := Lib.hid hJ
      have HGd := Lib.hid hGd
      have HG1 := Lib.hid G1
      have HG2 := Lib.hid G2
      have HG3 := Lib.hid G3
      clear hJ hGd G1 G2 G3 hx HC HE0
      revert C
      unfold NxPost tkV
      dsimp only
      intro C
      generalize strOfNums tx = str at *
      generalize takeF st ⟨kd, str, em, bk⟩ = x at *
      obtain ⟨st2, ev2, e2⟩ := x
      dsimp only at HJ HGd HG1 HG2 HG3 hWt hLn CT
      by_cases he2 : e2 = 0
      · subst he2
        have HJ := Lib.hid (HJ.out rfl)
        by_cases hend : a = s.size
        · skip
          have HA2 : Hid (evF (byts s) = (out ++ ev2, a, 0)) := Lib.hid (hA.out.trans (HG2.out hend rfl))
          have hOv : st2.over = true := by rw [HJ.out.2.1]; exact decide_eq_true (hKd.2 (by omega))
          have HOv := Lib.hid hOv
          clear HG1 HG2 HG3 HJ HGd hA hFt hKd hend hOv
          go_wp2_with fail
          refine C.out.mono ?_
          rintro e w1 ⟨rfl, hb1⟩
          have HE2 := Lib.hid ((hE.out.after hb1).after ((Below.refl _ w1).alloc (Nat.le_refl _) (.cells #[.int .i64 kd, .string str, .bool em, .bool bk] 41)))
          clear hb1 hE C
          go_wp2_with fail
          refine (CT.out _ HE2.out).mono ?_
          rintro e w2 ⟨v2, rfl, x2, ⟨vw2, vo2, es2, r2⟩, x4, x5⟩
          obtain ⟨xs, a1, a2, a3⟩ := HE2.out.ev.frm x4
          obtain ⟨ys, y1, y2, y3⟩ := x2.mono HE2.out.bel.size
          obtain ⟨A2, c2, rfl⟩ := Nz.Sc.own_slice y2
          obtain ⟨sn, sc⟩ := own_src y2
          have hxl : out.length = xs.length := by rw [← a1, List.length_map]
          have hyl : ys.length ≤ 3 := by rw [← List.length_map (f := (·.1)), y1]; exact hLn
          have hx3 : xs.length ≤ 15000 := by omega
          have HB := Lib.hid (HE2.out.bel.trans x5)
          have hzz := HB.out.size
          have hYl := evL_len ys
          have hY1 := evL_one y3
          have HA1 := Lib.hid a1
          have HA3 := Lib.hid a3
          have HY1 := Lib.hid y1
          have HY3 := Lib.hid y3
          have HR2 := Lib.hid r2
          rw [hxl] at a2 ⊢
          have HXL := Lib.hid hxl
          clear x2 x4 x5 HE2 CT a1 a3 y1 y2 y3 r2 hxl
          go_wp2_with (at_builtin; refine wpList_append_any (w := w2) rfl _ _ 23 rfl w.heap.size 33 i0 (.agg #[.int .i64 0, .string ⟨#[]⟩, .string ⟨#[]⟩, .slice none 0 0, .string ⟨#[]⟩]) 5 80 Tryz.underlying23 hi hz0 hz1 hz2 rfl (by decide) _ xs.length (evL xs) rfl a2 A2 ys.length c2 (evL ys) rfl sn hYl sc hY1 (by unfold maxLen; omega) (by omega) hzz ?_)
          intro v3 w3 n1 n2
          obtain ⟨A3, c3, rfl⟩ := Nz.Sc.own_slice n1
          have HE3 := Lib.hid (ev_cat HA1.out HY1.out a2 HA3.out HY3.out n2 n1)
          have HR3 := Lib.hid (HR2.out.grown a2 n2)
          have HB3 := Lib.hid (HB.out.grown n2 hzz (fun j hj => (World.ownsRow.lt a2 j hj).1))
          have CO := Lib.hid (over_any HR3.out)
          clear n1 n2 a2 sn sc hYl hY1 HA1 HA3 HY1 HY3 HR2 HB hzz
          rw [HOv.out] at CO
          go_wp2_with fail
          refine CO.out.mono ?_
          rintro e w4 ⟨rfl, rfl⟩
          go_wp2
          go_ret3
          exact ep_of HA2.out ⟨_, rfl, HE3.out, HB3.out⟩
        · skip
          have hlt : a < s.size := by omega
          have hF := hFt hlt
          have HA2 : Hid (evF (byts s) = evR (byts s) (a + n) st2 (out ++ ev2)) := Lib.hid (hA.out.trans (HG3.out hlt rfl))
          have hOv : st2.over = false := by rw [HJ.out.2.1]; exact decide_eq_false hF.2.2.1
          have HJn := Lib.hid HJ.out.1
          have hgl := Lib.hid hE.out.gl0
          have HOv := Lib.hid hOv
          have hF1 := hF.1
          have hF2 := hF.2.1
          clear HG1 HG2 HG3 HJ hA hFt hKd hOv hF hend
          go_wp2_with fail
          refine C.out.mono ?_
          rintro e w1 ⟨rfl, hb1⟩
          have HE2 := Lib.hid ((hE.out.after hb1).after ((Below.refl _ w1).alloc (Nat.le_refl _) (.cells #[.int .i64 kd, .string str, .bool em, .bool bk] 41)))
          clear hb1 hE C
          go_wp2_with fail
          refine (CT.out _ HE2.out).mono ?_
          rintro e w2 ⟨v2, rfl, x2, ⟨vw2, vo2, es2, r2⟩, x4, x5⟩
          obtain ⟨xs, a1, a2, a3⟩ := HE2.out.ev.frm x4
          obtain ⟨ys, y1, y2, y3⟩ := x2.mono HE2.out.bel.size
          obtain ⟨A2, c2, rfl⟩ := Nz.Sc.own_slice y2
          obtain ⟨sn, sc⟩ := own_src y2
          have hxl : out.length = xs.length := by rw [← a1, List.length_map]
          have hyl : ys.length ≤ 3 := by rw [← List.length_map (f := (·.1)), y1]; exact hLn
          have hx3 : xs.length ≤ 15000 := by omega
          have HB := Lib.hid (HE2.out.bel.trans x5)
          have hzz := HB.out.size
          have hYl := evL_len ys
          have hY1 := evL_one y3
          have HA1 := Lib.hid a1
          have HA3 := Lib.hid a3
          have HY1 := Lib.hid y1
          have HY3 := Lib.hid y3
          have HR2 := Lib.hid r2
          rw [hxl] at a2 ⊢
          have HXL := Lib.hid hxl
          clear x2 x4 x5 HE2 CT a1 a3 y1 y2 y3 r2 hxl
          go_wp2_with (at_builtin; refine wpList_append_any (w := w2) rfl _ _ 23 rfl w.heap.size 33 i0 (.agg #[.int .i64 0, .string ⟨#[]⟩, .string ⟨#[]⟩, .slice none 0 0, .string ⟨#[]⟩]) 5 80 Tryz.underlying23 hi hz0 hz1 hz2 rfl (by decide) _ xs.length (evL xs) rfl a2 A2 ys.length c2 (evL ys) rfl sn hYl sc hY1 (by unfold maxLen; omega) (by omega) hzz ?_)
          intro v3 w3 n1 n2
          obtain ⟨A3, c3, rfl⟩ := Nz.Sc.own_slice n1
          have HE3 := Lib.hid (ev_cat HA1.out HY1.out a2 HA3.out HY3.out n2 n1)
          have HR3 := Lib.hid (HR2.out.grown a2 n2)
          have HB3 := Lib.hid (HB.out.grown n2 hzz (fun j hj => (World.ownsRow.lt a2 j hj).1))
          have CO := Lib.hid (over_any HR3.out)
          clear n1 n2 a2 sn sc hYl hY1 HA1 HA3 HY1 HY3 HR2 HB hzz
          rw [HOv.out] at CO
          go_wp2_with fail
          refine CO.out.mono ?_
          rintro e w4 ⟨rfl, rfl⟩
          go_wp2
          go_roundw
          case rel => exact ⟨a + n, st2, out ++ ev2, by omega, by go_num, Lib.hid ⟨⟨_, _, _, HR3.out⟩, HE3.out, HB3.out, hgl.out, HGd.out, by omega, HJn.out, by rw [List.length_append]; omega⟩, HA2⟩
          case measure => simp only [intOf]; omega
      · have t2 : (e2 != 0) = true := bne_iff_ne.2 he2
        have HA2 : Hid (evF (byts s) = (out, a, e2)) := Lib.hid (hA.out.trans (HG1.out he2))
        clear HG1 HG2 HG3 HJ HGd hA hFt hKd he2
        go_wp2_with fail
        refine C.out.mono ?_
        rintro e w1 ⟨rfl, hb1⟩
        have HE2 := Lib.hid ((hE.out.after hb1).after ((Below.refl _ w1).alloc (Nat.le_refl _) (.cells #[.int .i64 kd, .string str, .bool em, .bool bk] 41)))
        clear hb1 hE C
        go_wp2_with fail
        refine (CT.out _ HE2.out).mono ?_
        rintro e w2 ⟨v2, rfl, x2, x3, x4, x5⟩
        obtain ⟨A2, c2, rfl⟩ := x2.slc
        have HV := Lib.hid (HE2.out.ev.frm x4)
        have HB := Lib.hid (HE2.out.bel.trans x5)
        clear x2 x3 x4 x5 HE2 CT
        go_wp2
        go_ret3
        exact ep_of HA2.out ⟨_, rfl, HV.out, HB.out⟩
    · have hA2 := hA.out
      rw [ev_err st out hal he] at hA2
      obtain ⟨⟨kd, tx, em, bk⟩, n, er, hx⟩ : ∃ y n er, nx (byts s) a = (y, n, er) := ⟨_, _, _, rfl⟩
      rw [hx] at C hA2 he
      dsimp only at hA2 he
      have t1 : (er != 0) = true := bne_iff_ne.2 he
      have HA2 := Lib.hid hA2
      clear hx hA2 HC HE0 hA he
      go_wp2_with fail
      refine C.out.mono ?_
      rintro e w1 ⟨rfl, hb1⟩
      unfold tkV
      dsimp only
      generalize strOfNums tx = str
      have HE2 := Lib.hid ((hE.out.after hb1).after ((Below.refl _ w1).alloc (Nat.le_refl _) (.cells #[.int .i64 kd, .string str, .bool em, .bool bk] 41)))
      clear hb1 hE C
      go_wp2
      go_ret3
      exact ep_of HA2.out ⟨_, rfl, HE2.out.ev, HE2.out.bel⟩
end Go.Proofs.YtkeilgompipfjaaGreatDoor.Wl

/- Plain mathematics: texts all of whose runes may stand, put together and cut; the names of a tag's text. -/
set_option linter.unusedSimpArgs false
set_option linter.unusedVariables false
namespace Go.Proofs.YtkeilgompipfjaaGreatDoor.Wl
open Go.RowKit

theorem rg_mk : ∀ (rs : List Int), (∀ r ∈ rs, Chr r) → Rt (rs.flatMap encB) ∧ NN (rs.flatMap encB)
  | [], _ => ⟨⟨rfl, fun r hr => by simp [decF_nil] at hr⟩, fun x hx => by simp at hx⟩
  | r :: rs, h => by
    obtain ⟨h1, h2⟩ := rg_mk rs (fun x hx => h x (List.mem_cons_of_mem _ hx))
    have hc := h r List.mem_cons_self
    have hg := chr_nbad hc
    rw [List.flatMap_cons]
    refine ⟨?_, fun x hx => (List.mem_append.1 hx).elim ((encB_nn r hg).1 x) (h2 x)⟩
    unfold Rt at h1 ⊢
    rw [decF_enc r _ hg h2]
    exact ⟨h1.1, fun x hx => (List.mem_cons.1 hx).elim (fun e => e ▸ hc) (h1.2 x)⟩
theorem rg_app {a b : List Int} (ha : NN a) (hb : NN b) (h1 : Rt a) (h2 : Rt b) : Rt (a ++ b) := by
  obtain ⟨e1, c1⟩ := rt_runes ha h1
  obtain ⟨e2, c2⟩ := rt_runes hb h2
  rw [e1, e2, ← List.flatMap_append]
  exact (rg_mk _ (fun r hr => (List.mem_append.1 hr).elim (c1 r) (c2 r))).1
def Cont (b : List Int) : Prop := 128 ≤ b.getD 0 0 ∧ b.getD 0 0 < 192
theorem rg_split : ∀ (rs a b : List Int), (∀ r ∈ rs, Chr r) → rs.flatMap encB = a ++ b → ¬ Cont b → ∃ r1 r2, a = r1.flatMap encB ∧ b = r2.flatMap encB ∧ rs = r1 ++ r2
  | [], a, b, _, e, _ => by
    rw [List.flatMap_nil] at e
    obtain ⟨rfl, rfl⟩ := List.append_eq_nil_iff.1 e.symm
    exact ⟨[], [], rfl, rfl, rfl⟩
  | r :: rs, a, b, h, e, hc => by
    rcases Nat.eq_zero_or_pos a.length with ha | ha
    · obtain rfl := List.eq_nil_of_length_eq_zero ha
      exact ⟨[], r :: rs, rfl, e.symm, rfl⟩
    rw [List.flatMap_cons] at e
    by_cases hl : (encB r).length ≤ a.length
    · have e1 := congrArg (List.take (encB r).length) e
      rw [List.take_left' rfl, List.take_append_of_le_length hl] at e1
      have e2 := congrArg (List.drop (encB r).length) e
      rw [List.drop_left' rfl, List.drop_append_of_le_length hl] at e2
      obtain ⟨r1, r2, q1, q2, q3⟩ := rg_split rs _ b (fun x hx => h x (List.mem_cons_of_mem _ hx)) e2 hc
      refine ⟨r :: r1, r2, ?_, q2, by rw [q3]; rfl⟩
      rw [List.flatMap_cons, ← q1]
      calc a = a.take (encB r).length ++ a.drop (encB r).length := (List.take_append_drop _ _).symm
        _ = _ := by rw [← e1]
    · exfalso
      have hf := enc_follow r (rs.flatMap encB) a.length (chr_nbad (h r List.mem_cons_self)) ha (by omega)
      rw [e, List.drop_left' rfl] at hf
      exact hc hf
theorem rg_cut {a b : List Int} (hn : NN (a ++ b)) (h : Rt (a ++ b)) (hc : ¬ Cont b) : Rt a ∧ Rt b := by
  obtain ⟨e, hr⟩ := rt_runes hn h
  obtain ⟨r1, r2, q1, q2, q3⟩ := rg_split _ a b hr e.symm hc
  rw [q3] at hr
  rw [q1, q2]
  exact ⟨(rg_mk r1 (fun r h => hr r (List.mem_append_left _ h))).1, (rg_mk r2 (fun r h => hr r (List.mem_append_right _ h))).1⟩
theorem ncont {c : Int} (b : List Int) (hc : c < 128) : ¬ Cont (c :: b) := fun h => by
  have : 128 ≤ c := h.1
  omega
theorem nn_cons {c : Int} {b : List Int} (h : NN (c :: b)) : 0 ≤ c ∧ NN b := ⟨h c List.mem_cons_self, fun x hx => h x (List.mem_cons_of_mem _ hx)⟩
theorem nn_right {a b : List Int} (h : NN (a ++ b)) : NN b := fun x hx => h x (List.mem_append_right _ hx)
theorem rg_tail {c : Int} {b : List Int} (hn : NN (c :: b)) (h : Rt (c :: b)) (hc : c < 128) : Rt b ∧ Chr c := by
  unfold Rt at h
  rw [decF_asc c b (nn_cons hn).1 hc (nn_cons hn).2] at h
  exact ⟨⟨h.1, fun r hr => h.2 r (List.mem_cons_of_mem _ hr)⟩, h.2 c List.mem_cons_self⟩
theorem rg_asc {a b : List Int} {c : Int} (hn : NN (a ++ c :: b)) (h : Rt (a ++ c :: b)) (hc : c < 128) : Rt a ∧ Rt b := by
  obtain ⟨h1, h2⟩ := rg_cut hn h (ncont b hc)
  exact ⟨h1, (rg_tail (nn_right hn) h2 hc).1⟩
/-- What stands behind bytes below 80. -/
theorem rg_low : ∀ (k : Nat) (l : List Int), NN l → (∀ x ∈ l.take k, x < 128) → Rt l → Rt (l.drop k)
  | 0, l, _, _, h => h
  | k + 1, [], _, _, h => h
  | k + 1, c :: l, hn, hl, h => rg_low k l (nn_cons hn).2 (fun x hx => hl x (by rw [List.take_succ_cons]; exact List.mem_cons_of_mem _ hx)) (rg_tail hn h (hl c (by rw [List.take_succ_cons]; exact List.mem_cons_self))).1

/-- A text all of whose runes may stand. -/
def Rg (s : ByteArray) : Prop := Rt (byts s)
theorem rg_em : Rg Nz.em := ⟨rfl, fun r hr => by cases hr⟩
theorem rg_at {u : ByteArray} (k : Nat) (h : Rg u) (hc : ¬ Cont ((byts u).drop k)) : Rg (u.extract 0 k) ∧ Rg (Nz.fr u k) := by
  unfold Rg at h ⊢
  rw [byts_to, Tg.byts_fr]
  have hn := byts_nn u
  rw [← List.take_append_drop k (byts u)] at h hn
  exact rg_cut hn h hc
theorem rg_in {u : ByteArray} {k : Nat} (h : Rg u) (hk : k < u.size) (hc : (byts u).getD k 0 < 128) : Rg (u.extract 0 k) ∧ Rg (Nz.fr u (k + 1)) := by
  unfold Rg at h ⊢
  rw [byts_to, Tg.byts_fr]
  have hn := byts_nn u
  have hl : k < (byts u).length := by rw [byts_len]; exact hk
  have e : byts u = (byts u).take k ++ (byts u).getD k 0 :: (byts u).drop (k + 1) := by
    rw [List.getD_eq_getElem?_getD, List.getElem?_eq_getElem hl, Option.getD_some, ← List.drop_eq_getElem_cons hl, List.take_append_drop]
  rw [e] at h hn
  exact rg_asc hn h hc
theorem rg_from {u : ByteArray} (k : Nat) (h : Rg u) (hk : ∀ x ∈ (byts u).take k, x < 128) : Rg (Nz.fr u k) := by
  unfold Rg at h ⊢
  rw [Tg.byts_fr]
  exact rg_low k _ (byts_nn u) hk h
theorem rg_sk {u : ByteArray} (h : Rg u) : Rg (Tg.sk u) := by
  refine rg_from _ h fun x hx => ?_
  have hp := List.takeWhile_prefix Tg.blk? (l := byts u)
  rw [show (byts u).take (Tg.bk u) = (byts u).takeWhile Tg.blk? from (List.prefix_iff_eq_take.1 hp).symm] at hx
  have hb := List.all_eq_true.1 List.all_takeWhile x hx
  have : Blank x := by simpa [Tg.blk?] using hb
  unfold Blank at this
  omega
theorem rg_one {u : ByteArray} (h : Rg u) (h1 : Tg.hd u < 128) : Rg (Nz.fr u 1) := by
  refine rg_from _ h fun x hx => ?_
  unfold Tg.hd at h1
  match hb : byts u with
  | [] => rw [hb] at hx; simp at hx
  | c :: l =>
    rw [hb] at hx h1
    simp at hx h1
    omega
/-- A stretch of a name ends where a rune ends. -/
theorem st_head (L : List Nat) (h : Nz.St L = 0) : ¬ (128 ≤ L.getD 0 0 ∧ L.getD 0 0 < 192) := by
  rintro ⟨h1, h2⟩
  have hl : L ≠ [] := by rintro rfl; simp at h1
  rw [Nz.St_cons L hl] at h
  have hd : Nz.dN L = (65533, 1) := by
    unfold Nz.dN Lib.decodeN
    generalize L.getD 0 0 = c at *
    rw [if_neg (by omega), if_neg (by omega), if_neg (by omega), if_neg (by omega)]
  rw [hd] at h
  have ho : Nz.Ok ((65533 : Nat) : Int) := by unfold Nz.Ok; right; decide
  rw [if_pos ho] at h
  omega
theorem byts_bl (s : ByteArray) : byts s = (Nz.bl s).map Int.ofNat := by
  unfold byts Nz.bl
  rw [List.map_map]
  rfl
theorem rg_name {u : ByteArray} (h : Rg u) : Rg (Nz.sx u 0) ∧ Rg (Nz.fr u (Nz.sn u 0)) := by
  rw [Tg.sx_zero]
  refine rg_at _ h fun hc => ?_
  have h0 := Nz.St_rest _ (Nz.bl u) (Nat.le_refl _)
  have h1 := st_head _ h0
  apply h1
  have e : Nz.sn u 0 = Nz.St (Nz.bl u) := by unfold Nz.sn; rw [List.drop_zero]
  unfold Cont at hc
  rw [e, byts_bl, ← List.map_drop] at hc
  generalize (Nz.bl u).drop (Nz.St (Nz.bl u)) = M at *
  cases M with
  | nil => simp at hc
  | cons c M =>
    simp at hc ⊢
    omega
end Go.Proofs.YtkeilgompipfjaaGreatDoor.Wl

/- Plain mathematics: what is right of a tag's names and values, of what Enter answers. -/
set_option linter.unusedSimpArgs false
set_option linter.unusedVariables false
namespace Go.Proofs.YtkeilgompipfjaaGreatDoor.Wl
open Go.RowKit

/-- An attribute that is read: its name, its value and what is left are right. -/
def PrG (x : Int × ByteArray × ByteArray × ByteArray) : Prop := x.1 = 0 → Rg x.2.1 ∧ Rg x.2.2.1 ∧ Rg x.2.2.2
theorem quo_G (q : UInt8) (hq : q = 34 ∨ q = 39) (nm u : ByteArray) (hn : Rg nm) (hu : Rg u) : PrG (Tg.quoF q nm u) := by
  unfold Tg.quoF
  split
  · intro h; exact absurd h (by decide)
  rename_i h1
  split
  · rename_i h; intro h'; exact absurd h' h
  · rename_i h
    intro _
    refine ⟨hn, (Tg.ans_rt _ (Decidable.not_not.1 h)).1, ?_⟩
    rcases Tg.qi_cases q u with ⟨h2, _⟩ | ⟨i, h2, h3, h4, _⟩
    · exact absurd h2 h1
    · rw [h2]
      refine (rg_in (k := i) hu h3 ?_).2
      rw [h4]
      rcases hq with rfl | rfl <;> decide
theorem pair_G (u : ByteArray) (hu : Rg u) : PrG (Tg.pairF u) := by
  unfold Tg.pairF
  obtain ⟨g0, g1⟩ := rg_name hu
  have g2 := rg_sk g1
  by_cases c1 : Tg.isN (Nz.sx u 0) = false
  · rw [if_pos c1]; intro h; exact absurd h (by decide)
  rw [if_neg c1]
  by_cases c2 : Tg.hd (Tg.sk (Nz.fr u (Nz.sn u 0))) ≠ 61
  · rw [if_pos c2]; intro h; exact absurd h (by decide)
  rw [if_neg c2]
  have g3 := rg_sk (rg_one g2 (by rw [Decidable.not_not.1 c2]; decide))
  by_cases c3 : Tg.hd (Tg.sk (Nz.fr (Tg.sk (Nz.fr u (Nz.sn u 0))) 1)) = 34
  · rw [if_pos c3]
    exact quo_G 34 (.inl rfl) _ _ g0 (rg_one g3 (by rw [c3]; decide))
  rw [if_neg c3]
  by_cases c4 : Tg.hd (Tg.sk (Nz.fr (Tg.sk (Nz.fr u (Nz.sn u 0))) 1)) = 39
  · rw [if_pos c4]
    exact quo_G 39 (.inr rfl) _ _ g0 (rg_one g3 (by rw [c4]; decide))
  rw [if_neg c4]
  intro h; exact absurd h (by decide)
def LsG (l : List Pr) : Prop := ∀ x ∈ l, Rg x.1 ∧ Rg x.2
theorem goF_G : ∀ (f : Nat) (nm : ByteArray) (l : List Pr) (u : ByteArray), Rg u → LsG l → (Tg.goF f nm l u).1 = 0 → (Tg.goF f nm l u).2.1 = nm ∧ LsG (Tg.goF f nm l u).2.2
  | 0, nm, l, u, _, hI, _ => ⟨rfl, hI⟩
  | f + 1, nm, l, u, hu, hI, h => by
    have hpi := pair_G (Tg.sk u) (rg_sk hu)
    unfold Tg.goF at h ⊢
    generalize Tg.pairF (Tg.sk u) = P at *
    by_cases c1 : (Tg.sk u).size = 0
    · rw [if_pos c1]; exact ⟨rfl, hI⟩
    rw [if_neg c1] at h ⊢
    by_cases c2 : Tg.bk u = 0
    · rw [if_pos c2] at h; exact absurd (show (6 : Int) = 0 from h) (by decide)
    rw [if_neg c2] at h ⊢
    by_cases c3 : P.1 ≠ 0
    · rw [if_pos c3] at h; exact absurd (show P.1 = 0 from h) c3
    rw [if_neg c3] at h ⊢
    by_cases c4 : Tg.hasN P.2.1 l = true
    · rw [if_pos c4] at h; exact absurd (show (8 : Int) = 0 from h) (by decide)
    rw [if_neg c4] at h ⊢
    by_cases c5 : 32 ≤ l.length
    · rw [if_pos c5] at h; exact absurd (show (13 : Int) = 0 from h) (by decide)
    rw [if_neg c5] at h ⊢
    obtain ⟨p1, p2, p3⟩ := hpi (Decidable.not_not.1 c3)
    refine goF_G f _ _ _ p3 (fun x hx => ?_) h
    rcases List.mem_append.1 hx with hx | hx
    · exact hI x hx
    · rw [List.mem_singleton] at hx
      rw [hx]
      exact ⟨p1, p2⟩
/-- A tag that is read: its name and its attributes are right. -/
theorem GoF_G {nm u : ByteArray} (hn : Rg nm) (hu : Rg u) (h : (Tg.GoF nm [] u).1 = 0) : Rg (Tg.GoF nm [] u).2.1 ∧ LsG (Tg.GoF nm [] u).2.2 := by
  unfold Tg.GoF at h ⊢
  generalize u.size + 1 = f at *
  have g := goF_G f nm [] u hu (fun x hx => by cases hx) h
  exact ⟨by rw [g.1]; exact hn, g.2⟩
theorem par_G {u : ByteArray} (hu : Rg u) (h : (Tg.parF u).1 = 0) : Rg (Tg.parF u).2.1 ∧ LsG (Tg.parF u).2.2 := by
  obtain ⟨n1, n2⟩ := rg_name hu
  unfold Tg.parF at h ⊢
  by_cases c1 : Tg.isN (Nz.sx u 0) = false
  · rw [if_pos c1] at h; exact absurd (show (4 : Int) = 0 from h) (by decide)
  rw [if_neg c1] at h ⊢
  exact GoF_G n1 n2 h
theorem par_L {u : ByteArray} (h : (Tg.parF u).1 = 0) : (Tg.parF u).2.2.length ≤ 32 := by
  obtain ⟨⟨_, h2, _⟩, _, _⟩ := Tg.par_I u h
  exact h2

/-- What may be the local part of a name; the space of one; a name. -/
def Lcl (s : ByteArray) : Prop := Nz.pl (Nz.bl s) = true ∧ Rg s
def Spc (s : ByteArray) : Prop := Rg s ∧ s ≠ Nz.Sc.XN
def Nmd (n : Pr) : Prop := Spc n.1 ∧ Lcl n.2
theorem spc_em : Spc Nz.em := ⟨rg_em, fun h => by have := congrArg ByteArray.size h; revert this; decide⟩
theorem split_lcl {s : ByteArray} (h : (Nz.splitA s).2.2 = true) (hs : Rg s) : Lcl (Nz.splitA s).2.1 := by
  rcases Nz.Sc.split_isN h with ⟨hp, he⟩ | ⟨i, hi, he⟩
  · rw [he]; exact ⟨hp, hs⟩
  · rw [he]
    refine ⟨?_, (rg_in hs hi.1 ?_).2⟩
    · show Nz.pl (Nz.bl (Nz.fr s (i + 1))) = true
      rw [Nz.bl_fr]
      exact hi.2.2.2
    · rw [byts_bl]
      have h1 := hi.1
      rw [← Nz.bl_len] at h1
      have h2 := hi.2.1
      rw [List.getD_eq_getElem?_getD, List.getElem?_eq_getElem h1, Option.getD_some] at h2
      rw [List.getD_eq_getElem?_getD, List.getElem?_map, List.getElem?_eq_getElem h1, Option.map_some, Option.getD_some, h2]
      decide
def Scp (l : List Pr) : Prop := ∀ x ∈ l, Spc x.2
theorem fnd_spc {l : List Pr} (h : Scp l) (p : ByteArray) : Spc (Nz.Sc.fndF l p).1 := by
  have key : ∀ k, Spc (Nz.Sc.fndF (l.take k) p).1 := by
    intro k
    induction k with
    | zero => exact spc_em
    | succ k ih =>
      by_cases hk : k < l.length
      · rw [Nz.Sc.fnd_step l p k _ (List.getElem?_eq_getElem hk)]
        split
        · exact h _ (List.getElem_mem hk)
        · exact ih
      · rw [List.take_of_length_le (by omega)]
        rw [List.take_of_length_le (by omega)] at ih
        exact ih
  have := key l.length
  rwa [List.take_of_length_le (Nat.le_refl _)] at this
theorem res_nmd {l : List Pr} (h : Scp l) {p n : ByteArray} (hn : Lcl n) {x : Pr} (hx : Nz.Sc.resF l p n = some x) : Nmd x := by
  unfold Nz.Sc.resF at hx
  split at hx
  · cases hx
  · injection hx with hx
    rw [← hx]
    exact ⟨fnd_spc h p, hn⟩
theorem nam_nmd {l : List Pr} (h : Scp l) {s : ByteArray} (hs : Rg s) {x : Pr} (hx : Nz.Sc.namF l s = some x) : Nmd x := by
  unfold Nz.Sc.namF at hx
  split at hx
  · cases hx
  · rename_i c
    exact res_nmd h (split_lcl (by simpa using c) hs) hx
theorem atn_nmd {l : List Pr} (h : Scp l) {s : ByteArray} (hs : Rg s) {x : Pr} (hx : Nz.Sc.atnF l s = some x) : Nmd x := by
  unfold Nz.Sc.atnF at hx
  split at hx
  · cases hx
  · rename_i c
    have hl := split_lcl (by simpa using c) hs
    split at hx
    · injection hx with hx
      rw [← hx]
      exact ⟨spc_em, hl⟩
    · exact res_nmd h hl hx
theorem bind_scp : ∀ (r l : List Pr) {W : List Pr}, Scp l → LsG r → Nz.Sc.bindF l r = some W → Scp W
  | [], l, W, hl, _, h => by
    injection h with h
    rw [← h]
    exact hl
  | a :: r, l, W, hl, hr, h => by
    unfold Nz.Sc.bindF at h
    have hr' : LsG r := fun x hx => hr x (List.mem_cons_of_mem _ hx)
    split at h
    · exact bind_scp r l hl hr' h
    · rename_i p hp
      split at h
      · rename_i hok
        refine bind_scp r _ (fun x hx => ?_) hr' h
        rcases List.mem_append.1 hx with hx | hx
        · exact hl x hx
        · rw [List.mem_singleton] at hx
          rw [hx]
          refine ⟨(hr a List.mem_cons_self).2, fun e => ?_⟩
          unfold Nz.Sc.okB at hok
          rw [show Nz.Sc.eqb a.2 Nz.Sc.XN = true from Nz.Sc.eqb_iff.2 e, Bool.or_true] at hok
          simp at hok
      · cases h
def Trg (f : List Tr) : Prop := (∀ x ∈ f, Nmd x.1 ∧ Rg x.2) ∧ (f.map (·.1)).Nodup
theorem att_trg {W : List Pr} (hW : Scp W) : ∀ (r : List Pr) (f : List Tr) {g : List Tr}, LsG r → Trg f → Nz.Sc.attF W f r = .ok g → Trg g
  | [], f, g, _, hf, h => by
    injection h with h
    rw [← h]
    exact hf
  | a :: r, f, g, hr, hf, h => by
    unfold Nz.Sc.attF at h
    have hr' : LsG r := fun x hx => hr x (List.mem_cons_of_mem _ hx)
    have ha := hr a List.mem_cons_self
    split at h
    · exact att_trg hW r f hr' hf h
    · split at h
      · cases h
      · rename_i n hn
        split at h
        · cases h
        · rename_i hh
          refine att_trg hW r _ hr' ⟨fun x hx => ?_, ?_⟩ h
          · rcases List.mem_append.1 hx with hx | hx
            · exact hf.1 x hx
            · rw [List.mem_singleton] at hx
              rw [hx]
              exact ⟨atn_nmd hW ha.1 hn, ha.2⟩
          · rw [List.map_append, List.nodup_append]
            refine ⟨hf.2, by simp, fun x hx y hy e => ?_⟩
            have : y = n := by simpa using hy
            rw [e, this] at hx
            exact hh (Nz.Sc.hasN_mem.2 hx)
/-- What Enter answers. -/
theorem ent_trg {l : List Pr} {nm : ByteArray} {r W : List Pr} {n : Pr} {f : List Tr} (hl : Scp l) (hn : Rg nm) (hr : LsG r) (h : Nz.Sc.entF l nm r = .ok (W, n, f)) : Scp W ∧ Nmd n ∧ Trg f ∧ f.length ≤ r.length := by
  unfold Nz.Sc.entF at h
  split at h
  · cases h
  · rename_i W' hW
    split at h
    · cases h
    · rename_i n' hn'
      split at h
      · cases h
      · rename_i f' hf
        obtain ⟨h1, h⟩ := Prod.mk.inj (Except.ok.inj h)
        obtain ⟨h2, h3⟩ := Prod.mk.inj h
        rw [← h1, ← h2, ← h3]
        have hs := bind_scp r l hl hr hW
        refine ⟨hs, nam_nmd hs hn hn', att_trg hs r [] hr ⟨fun x hx => by simp at hx, by simp⟩ hf, ?_⟩
        have := Nz.Sc.att_len _ r [] hf
        simpa using this
theorem scp0 : Scp bind0 := fun x hx => by
  have : x = (Nz.Sc.xm, Nz.Sc.XS) := by simpa [bind0] using hx
  rw [this]
  refine ⟨?_, ?_⟩
  · show Rt (byts Nz.Sc.XS)
    unfold Rt
    refine ⟨by decide, fun r hr => ?_⟩
    have e : (decF (byts Nz.Sc.XS)).1 = byts Nz.Sc.XS := by decide
    rw [e] at hr
    have h2 : ∀ r ∈ byts Nz.Sc.XS, Chr r := by decide
    exact h2 r hr
  · intro h
    have := congrArg ByteArray.size h
    revert this
    decide
end Go.Proofs.YtkeilgompipfjaaGreatDoor.Wl

/- Plain mathematics: what is right of a token's text; the events of a text are right. -/
set_option linter.unusedSimpArgs false
set_option linter.unusedVariables false
namespace Go.Proofs.YtkeilgompipfjaaGreatDoor.Wl
open Go.RowKit

def By (l : List Int) : Prop := ∀ x ∈ l, 0 ≤ x ∧ x ≤ 255
theorem By.nn {l : List Int} (h : By l) : NN l := fun x hx => (h x hx).1
theorem By.take {l : List Int} (h : By l) (k : Nat) : By (l.take k) := fun x hx => h x (List.mem_of_mem_take hx)
theorem By.drop {l : List Int} (h : By l) (k : Nat) : By (l.drop k) := fun x hx => h x (List.mem_of_mem_drop hx)
theorem wrong_rt {l : List Int} (h : ¬ wrongF l ≠ 0) : Rt l := by
  have h := Decidable.not_not.1 h
  unfold wrongF at h
  split at h
  · exact absurd h (by decide)
  · rename_i c
    split at h
    · rename_i c2
      exact ⟨Decidable.not_not.1 c, c2⟩
    · exact absurd h (by decide)
theorem ends_none (T : List Int) : ∀ (a : List Int), (∀ x ∈ a, x ≠ 13) → endsF (a ++ T) = a ++ endsF T
  | [], _ => rfl
  | c :: a, h => by
    rw [List.cons_append, endsF, if_neg (h c List.mem_cons_self), ends_none T a (fun x hx => h x (List.mem_cons_of_mem _ hx))]
    rfl
theorem ends_runes : ∀ (rs : List Int), (∀ r ∈ rs, Chr r) → ∃ us : List Int, endsF (rs.flatMap encB) = us.flatMap encB ∧ ∀ r ∈ us, Chr r
  | [], _ => ⟨[], rfl, fun r h => by cases h⟩
  | r :: rs, h => by
    obtain ⟨us, h1, h2⟩ := ends_runes rs (fun x hx => h x (List.mem_cons_of_mem _ hx))
    have hc := h r List.mem_cons_self
    rw [List.flatMap_cons]
    by_cases h13 : r = 13
    · rw [h13, show encB 13 = [13] from rfl, List.cons_append, List.nil_append, endsF, if_pos rfl, h1]
      split
      · exact ⟨us, rfl, h2⟩
      · refine ⟨10 :: us, rfl, fun x hx => ?_⟩
        rcases List.mem_cons.1 hx with hx | hx
        · rw [hx]; decide
        · exact h2 x hx
    · have hn : ∀ x ∈ encB r, x ≠ 13 := by
        intro x hx e
        by_cases hl : r < 128
        · have e1 : encB r = [r] := by unfold encB; rw [if_pos hl]
          rw [e1, List.mem_singleton] at hx
          exact h13 (by rw [← hx, e])
        · have := (enc_head r (chr_nbad hc) (by omega)).2 x hx
          omega
      rw [ends_none _ _ hn, h1]
      refine ⟨r :: us, rfl, fun x hx => ?_⟩
      rcases List.mem_cons.1 hx with hx | hx
      · rw [hx]; exact hc
      · exact h2 x hx
/-- A text that is told: right, of bytes. -/
def Txg (l : List Int) : Prop := Rt l ∧ By l
theorem txg_mk {rs : List Int} (h : ∀ r ∈ rs, Chr r) : Txg (rs.flatMap encB) := by
  refine ⟨(rg_mk rs h).1, fun x hx => ?_⟩
  obtain ⟨r, hr, hx⟩ := List.mem_flatMap.1 hx
  have := encB_nn r (chr_nbad (h r hr))
  exact ⟨this.1 x hx, this.2 x hx⟩
def RdG (rd : List Int → Tk × Int) : Prop := ∀ l, Txg l → (rd l).2 = 0 → (rd l).1.kind = 1 ∨ (rd l).1.kind = 3 → Txg (rd l).1.text
theorem rdg_data : RdG dataR := fun l h _ _ => by
  obtain ⟨e, hr⟩ := rt_runes h.2.nn h.1
  obtain ⟨us, h1, h2⟩ := ends_runes _ hr
  show Txg (endsF l)
  rw [e, h1]
  exact txg_mk h2
theorem rdg_comm : RdG commR := fun l _ h0 hk => by
  unfold commR at h0 hk
  split at h0
  · exact absurd h0 (by decide)
  · rename_i c
    rw [if_neg c] at hk
    exact absurd hk (by show ¬ ((4 : Int) = 1 ∨ (4 : Int) = 3); decide)
theorem rdg_inst (z : Bool) : RdG (instR z) := fun l _ h0 hk => by
  unfold instR at h0 hk
  split at h0
  · exact absurd h0 (by decide)
  · rename_i c
    rw [if_neg c] at hk
    split at h0
    · exact absurd h0 (by decide)
    · rename_i c2
      rw [if_neg c2] at hk
      exact absurd hk (by show ¬ ((5 : Int) = 1 ∨ (5 : Int) = 3); decide)
theorem rdg_end : RdG endR := fun l _ h0 hk => by
  unfold endR at h0 hk
  split at h0
  · exact absurd h0 (by decide)
  · rename_i c
    rw [if_neg c] at hk
    exact absurd hk (by show ¬ ((2 : Int) = 1 ∨ (2 : Int) = 3); decide)
theorem rdg_start : RdG startR := fun l h h0 _ => by
  unfold startR at h0 ⊢
  split at h0
  · exact absurd h0 (by decide)
  · rename_i c
    rw [if_neg c]
    split
    · rename_i c2
      show Txg l.dropLast
      have hl : l ≠ [] := by rintro rfl; simp at c2
      have e : l = l.dropLast ++ [47] := by
        rw [List.getLast?_eq_some_getLast hl] at c2
        injection c2 with c2
        rw [← c2, List.dropLast_concat_getLast]
      have hn := h.2.nn
      have hr := h.1
      rw [e] at hr hn
      exact ⟨(rg_asc hn hr (by decide)).1, fun x hx => h.2 x (List.dropLast_subset l hx)⟩
    · exact h
/-- An answer: the text of a tag, or of characters, is right. -/
def TkG (x : Tk × Nat × Int) : Prop := x.2.2 = 0 → x.1.kind = 1 ∨ x.1.kind = 3 → Txg x.1.text
theorem fin_G {b n m : Nat} {rd : List Int → Tk × Int} {r stop : List Int} (hr : RdG rd) (hb : By r) (hs : (r.drop n).take m = stop) (hc : ¬ Cont stop) : TkG (fin b n m rd r) := by
  unfold fin
  split
  · rename_i c
    intro h; exact absurd h c
  · rename_i c
    split
    · rename_i c2
      intro h; exact absurd h c2
    · rename_i c2
      intro _ hk
      have h1 := wrong_rt c
      have hn := (hb.take (n + m)).nn
      rw [List.take_add, hs] at h1 hn
      exact hr _ ⟨(rg_cut hn h1 hc).1, hb.take n⟩ (Decidable.not_not.1 c2) hk
theorem span_G {b : Nat} {stop : List Int} {rd : List Int → Tk × Int} {l : List Int} (hr : RdG rd) (hb : By l) (hc : ¬ Cont stop) : TkG (span b stop rd l) := by
  unfold span
  split
  · intro h; exact absurd h (by decide)
  · rename_i n hn
    exact fin_G hr (hb.drop b) (fnd_take hn) hc
theorem unq_end : ∀ (l : List Int) (q : Int) (n : Nat), unq q l = some n → (l.drop n).take 1 = [62]
  | [], q, n, h => by cases h
  | c :: l, q, n, h => by
    have key : ∀ q', (unq q' l).map (· + 1) = some n → ((c :: l).drop n).take 1 = [62] := fun q' hq => by
      obtain ⟨m, hm, rfl⟩ := Option.map_eq_some_iff.1 hq
      exact unq_end l q' m hm
    unfold unq at h
    split at h
    · exact key _ h
    · split at h
      · exact key _ h
      · split at h
        · rename_i c62
          injection h with h
          rw [← h, c62]
          rfl
        · exact key _ h
theorem ncont_ {c : Int} {b : List Int} (hc : c < 128) : ¬ Cont (c :: b) := ncont b hc
theorem mark_G (z : Bool) (l : List Int) (hb : By l) : TkG (markF z l) := by
  unfold markF
  split
  · exact span_G rdg_data hb (ncont_ (by decide))
  split
  · exact span_G rdg_comm hb (ncont_ (by decide))
  split
  · exact span_G (rdg_inst z) hb (ncont_ (by decide))
  split
  · exact span_G rdg_end hb (ncont_ (by decide))
  split
  · split
    · intro h; exact absurd h (by decide)
    · split
      · intro h; exact absurd h (by decide)
      · intro h; exact absurd h (by decide)
  · unfold startF
    split
    · intro h; exact absurd h (by decide)
    · rename_i n hn
      exact fin_G rdg_start (hb.drop 1) (unq_end _ _ _ hn) (ncont_ (by decide))
theorem chars_G (l : List Int) (n : Nat) (hb : By l) : TkG (charsF l n) := by
  unfold charsF
  split
  · rename_i c; intro h; exact absurd h c
  split
  · intro h; exact absurd h (by decide)
  split
  · rename_i c; intro h; exact absurd h c
  · rename_i c
    intro _ _
    show Txg (ansF false (l.take n)).1
    have h := Decidable.not_not.1 c
    have h0 : (readF false (l.take n)).2.2 = 0 := by
      unfold ansF at h
      split at h
      · assumption
      · exact h
    have hz : (ansF false (l.take n)).1 = (readF false (l.take n)).1 := by unfold ansF; rw [if_pos h0]
    obtain ⟨i1, i2, i3, _⟩ := Tg.read_rt false _ (l.take n) (Nat.le_refl _) (hb.take n).nn h0
    rw [hz]
    exact ⟨i1, fun x hx => ⟨i2 x hx, i3 x hx⟩⟩
theorem nx_G (L : List Int) (a : Nat) (hb : By L) : TkG (nx L a) := by
  have hd := hb.drop a
  unfold nx frontF
  split
  · split
    · intro h; exact absurd h (by decide)
    · intro _ hk
      exact absurd hk (by show ¬ ((6 : Int) = 1 ∨ (6 : Int) = 3); decide)
  split
  · exact mark_G _ _ hd
  · unfold plainF
    split
    · exact chars_G _ _ hd
    · split
      · intro h; exact absurd h (by decide)
      · exact chars_G _ _ hd
theorem tok_G {k : Tk} (h : Txg k.text) : Rg (tokF k).text := by
  show Rt (byts (strOfNums k.text))
  rw [byts_str _ h.2.nn (fun x hx => (h.2 x hx).2)]
  exact h.1

/-- A right event. -/
def EvG : Ev → Prop
  | .opn n f => Nmd n ∧ Trg f ∧ f.length ≤ 32
  | .txt s => Rg s ∧ s.size ≠ 0
  | .cls => True
structure StG (s : St) : Prop where
  op : ∀ x ∈ s.op, Scp x.2
  wt : Rg s.wait
theorem told_G {u : ByteArray} (h : Rg u) : ∀ e ∈ toldF u, EvG e := fun e he => by
  unfold toldF at he
  split at he
  · cases he
  · rename_i c
    rw [List.mem_singleton] at he
    rw [he]
    exact ⟨h, c⟩
theorem scp_G {s : St} (h : StG s) : Scp (scpF s) := by
  unfold scpF
  split
  · rename_i x hx
    exact h.op x (List.mem_of_getLast? hx)
  · exact scp0
theorem bad_G {s : St} (h : StG s) (e : Int) : StG (bad s e).1 ∧ ∀ x ∈ (bad s e).2.1, EvG x := ⟨⟨h.op, h.wt⟩, fun x hx => by cases hx⟩
theorem rg_app2 {a b : ByteArray} (h1 : Rg a) (h2 : Rg b) : Rg (a ++ b) := by
  show Rt (byts (a ++ b))
  rw [byts_app]
  exact rg_app (byts_nn a) (byts_nn b) h1 h2
theorem opened_G {s : St} (h : StG s) (t : Tok) (nm : ByteArray) {W : List Pr} {n : Pr} {f : List Tr} (hW : Scp W) (hn : Nmd n) (hf : Trg f) (hl : f.length ≤ 32) : StG (opened s t nm W n f).1 ∧ ∀ x ∈ (opened s t nm W n f).2.1, EvG x := by
  unfold opened
  have ht := told_G h.wt
  split
  · refine ⟨⟨h.op, rg_em⟩, fun x hx => ?_⟩
    rcases List.mem_append.1 hx with hx | hx
    · exact ht x hx
    · simp only [List.mem_cons, List.not_mem_nil, or_false] at hx
      rcases hx with rfl | rfl
      · exact ⟨hn, hf, hl⟩
      · exact True.intro
  · refine ⟨⟨fun x hx => ?_, rg_em⟩, fun x hx => ?_⟩
    · rcases List.mem_append.1 hx with hx | hx
      · exact h.op x hx
      · rw [List.mem_singleton] at hx
        rw [hx]
        exact hW
    · rcases List.mem_append.1 hx with hx | hx
      · exact ht x hx
      · rw [List.mem_singleton] at hx
        rw [hx]
        exact ⟨hn, hf, hl⟩
theorem start_G {s : St} (h : StG s) (t : Tok) (ht : Rg t.text) : StG (startT s t).1 ∧ ∀ x ∈ (startT s t).2.1, EvG x := by
  unfold startT
  split
  · exact bad_G h _
  split
  · exact bad_G h _
  · rename_i c
    have h0 := Decidable.not_not.1 c
    obtain ⟨g1, g2⟩ := par_G ht h0
    have g3 := par_L h0
    cases ho : Nz.Sc.entF (scpF s) (Tg.parF t.text).2.1 (Tg.parF t.text).2.2 with
    | error e => exact bad_G h e
    | ok q =>
      obtain ⟨W, n, f⟩ := q
      obtain ⟨k1, k2, k3, k4⟩ := ent_trg (scp_G h) g1 g2 ho
      unfold enterT
      dsimp only
      split
      · exact bad_G h _
      · exact opened_G h t _ k1 k2 k3 (by omega)
theorem take_G {s : St} (h : StG s) (t : Tok) (ht : t.kind = 1 ∨ t.kind = 3 → Rg t.text) : StG (takeF s t).1 ∧ ∀ x ∈ (takeF s t).2.1, EvG x := by
  have h0 : StG s ∧ ∀ x ∈ ([] : List Ev), EvG x := ⟨h, fun x hx => by cases hx⟩
  unfold takeF
  split
  · exact h0
  split
  · exact h0
  unfold readT
  split
  · rename_i k; exact start_G h t (ht (.inl k))
  split
  · unfold endT
    split
    · refine ⟨⟨fun x hx => h.op x (List.dropLast_subset _ hx), rg_em⟩, fun x hx => ?_⟩
      rcases List.mem_append.1 hx with hx | hx
      · exact told_G h.wt x hx
      · rw [List.mem_singleton] at hx
        rw [hx]
        exact True.intro
    · exact bad_G h _
  split
  · rename_i k
    unfold charsT
    split
    · exact ⟨⟨h.op, rg_app2 h.wt (ht (.inr k))⟩, fun x hx => by cases hx⟩
    · split
      · exact h0
      · exact bad_G h _
  split
  · unfold lastT
    split
    · exact bad_G h _
    · split
      · exact bad_G h _
      · exact ⟨⟨h.op, h.wt⟩, fun x hx => by cases hx⟩
  · exact h0
theorem evG_G (L : List Int) (hb : By L) : ∀ (f a : Nat) (s : St) (out : List Ev), StG s → (∀ x ∈ out, EvG x) → ∀ x ∈ (evG L f a s out).1, EvG x
  | 0, a, s, out, _, ho => ho
  | f + 1, a, s, out, hs, ho => by
    unfold evG
    split
    · exact ho
    rename_i c1
    split
    · exact ho
    have hk := nx_G L a hb (Decidable.not_not.1 c1)
    have ht := take_G hs (tokF (nx L a).1) (fun h => tok_G (hk h))
    have h2 : ∀ x ∈ out ++ (takeF s (tokF (nx L a).1)).2.1, EvG x := fun x hx => (List.mem_append.1 hx).elim (ho x) (ht.2 x)
    split
    · exact h2
    · exact evG_G L hb f _ _ _ ht.1 h2
/-- The events of a text are right. -/
theorem evF_G (L : List Int) (hb : By L) : ∀ x ∈ (evF L).1, EvG x := evG_G L hb _ _ _ _ ⟨fun x hx => (by cases hx), rg_em⟩ (fun x hx => by cases hx)
end Go.Proofs.YtkeilgompipfjaaGreatDoor.Wl
