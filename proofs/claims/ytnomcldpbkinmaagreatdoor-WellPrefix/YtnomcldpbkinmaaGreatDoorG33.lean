/-
  Merged by program out of the texts Front2, WlEv, WlTxt of one seat.
-/
import Derived.Test.YtnomcldpbkinmaaGreatDoorG32
import Derived.Test.YtnomcldpbkinmaaGreatDoorG25
import Derived.Test.YtnomcldpbkinmaaGreatDoorG26
import Derived.Test.YtnomcldpbkinmaaGreatDoorG17

/- The walks of scan.front, scan.next, Next and More. -/
set_option linter.unusedSimpArgs false
set_option linter.unusedVariables false
namespace Go.Proofs.YtnomcldpbkinmaaGreatDoor
open Go.RowKit

set_option maxHeartbeats 1000000 in
set_option maxRecDepth 100000 in
theorem front_nil_more (s : ByteArray) (at_ : Int) (w : World) (he : s.toList.isEmpty = true) : Calls Tryz.prog 50 #[.string s, .int .i64 at_, .bool true] w (TokPost (T0, 0, 7) w) := by
  have HN := Lib.hid (new_end w)
  go_enter Tryz.func50, Tryz.ntmps50
  go_wp2_with fail
  exact bodyPost_ret (v := .tuple #[tkV T0, .int .i64 0, .int .i64 7]) (by rw [tk0]; simp [results, Tryz.results50, go_sem]) rfl ⟨T0, 0, rfl, fun _ => ⟨rfl, rfl⟩, HN.out.2.1⟩
set_option maxHeartbeats 1000000 in
set_option maxRecDepth 100000 in
theorem front_nil_last (s : ByteArray) (at_ : Int) (w : World) (he : s.toList.isEmpty = true) : Calls Tryz.prog 50 #[.string s, .int .i64 at_, .bool false] w (TokPost (⟨6, [], false, false⟩, 0, 0) w) := by
  go_enter Tryz.func50, Tryz.ntmps50
  go_wp2_with fail
  exact bodyPost_ret (v := .tuple #[tkV ⟨6, [], false, false⟩, .int .i64 0, .int .i64 0]) (by unfold tkV; rw [str_none]; simp [results, Tryz.results50, go_sem]) rfl ⟨⟨6, [], false, false⟩, 0, rfl, fun _ => ⟨rfl, rfl⟩, (Below.refl _ w).alloc (Nat.le_refl _) _⟩
def ToC (f : Nat) (args : Array Value) (x : Tk × Nat × Int) : Prop := ∀ W, Gl W → Calls Tryz.prog f args W (TokPost x W)
set_option maxHeartbeats 1000000 in
set_option maxRecDepth 100000 in
theorem front_mark (s : ByteArray) (at_ : Int) (more : Bool) (x : Tk × Nat × Int) (w : World) (hG : Gl w) (he : s.toList.isEmpty = false) (h1 : 0 < s.size) (h0 : (((s[0]).toNat : Int) == 60) = true) (C : Hid (ToC 70 #[.string s, .int .i64 at_] x)) :
    Calls Tryz.prog 50 #[.string s, .int .i64 at_, .bool more] w (TokPost x w) := by
  have HN := Lib.hid (new_end w)
  have HG := Lib.hid (hG.after HN.out.2.1)
  clear hG
  go_enter Tryz.func50, Tryz.ntmps50
  go_wp2_with fail
  refine (C.out _ HG.out).mono ?_
  rintro e w3 ⟨⟨kd, tx, em, bk⟩, n, rfl, hx, hb3⟩
  have HX := Lib.hid hx
  obtain ⟨hz, hb, ⟨c0, c1, c2, c3, f0, f1, f2, f3⟩⟩ := more_end HN.out hb3
  have HB := Lib.hid hb
  clear hb3 hb hx
  unfold tkV
  dsimp only
  generalize hst : strOfNums tx = str
  have HS := Lib.hid hst
  clear hst
  go_wp2_with fail
  exact bodyPost_ret (v := .tuple #[.agg #[.int .i64 kd, .string str, .bool em, .bool bk], .int .i64 n, .int .i64 x.2.2]) (by simp [results, Tryz.results50, go_sem, c0, c1, c2, c3, hz]) rfl ⟨⟨kd, tx, em, bk⟩, n, by rw [← HS.out]; rfl, HX.out, below_set4 HB.out (Nat.le_refl _) _ _ _ _⟩
set_option maxHeartbeats 1000000 in
set_option maxRecDepth 100000 in
theorem front_plain (s : ByteArray) (at_ : Int) (more : Bool) (x : Tk × Nat × Int) (w : World) (hG : Gl w) (he : s.toList.isEmpty = false) (h1 : 0 < s.size) (h0 : (((s[0]).toNat : Int) == 60) = false) (C : Hid (ToC 71 #[.string s, .bool more] x)) :
    Calls Tryz.prog 50 #[.string s, .int .i64 at_, .bool more] w (TokPost x w) := by
  have HN := Lib.hid (new_end w)
  have HG := Lib.hid (hG.after HN.out.2.1)
  clear hG
  go_enter Tryz.func50, Tryz.ntmps50
  go_wp2_with fail
  refine (C.out _ HG.out).mono ?_
  rintro e w3 ⟨⟨kd, tx, em, bk⟩, n, rfl, hx, hb3⟩
  have HX := Lib.hid hx
  obtain ⟨hz, hb, ⟨c0, c1, c2, c3, f0, f1, f2, f3⟩⟩ := more_end HN.out hb3
  have HB := Lib.hid hb
  clear hb3 hb hx
  unfold tkV
  dsimp only
  generalize hst : strOfNums tx = str
  have HS := Lib.hid hst
  clear hst
  go_wp2_with fail
  exact bodyPost_ret (v := .tuple #[.agg #[.int .i64 kd, .string str, .bool em, .bool bk], .int .i64 n, .int .i64 x.2.2]) (by simp [results, Tryz.results50, go_sem, c0, c1, c2, c3, hz]) rfl ⟨⟨kd, tx, em, bk⟩, n, by rw [← HS.out]; rfl, HX.out, below_set4 HB.out (Nat.le_refl _) _ _ _ _⟩
theorem front_any (s : ByteArray) (a : Nat) (more : Bool) (w : World) (hG : Gl w) (hs : s.size ≤ 10000) : Calls Tryz.prog 50 #[.string s, .int .i64 (a : Int), .bool more] w (TokPost (frontF (decide (a = 0)) more (byts s)) w) := by
  have hE := Nz.isE s
  unfold frontF
  by_cases h0 : s.size = 0
  · have hn : byts s = [] := List.eq_nil_of_length_eq_zero (by rw [byts_len]; exact h0)
    rw [if_pos hn]
    rw [decide_eq_true h0] at hE
    cases more with
    | true => exact front_nil_more s a w hE
    | false => exact front_nil_last s a w hE
  · rw [decide_eq_false h0] at hE
    rw [if_neg (fun h => h0 (by rw [← byts_len, h]; rfl))]
    have h1 : 0 < s.size := by omega
    have hb := at_byt s 0 h1
    by_cases h2 : (byts s).getD 0 0 = 60
    · rw [if_pos h2]
      exact front_mark s a more _ w hG hE h1 (by rw [hb, h2]; rfl) (Lib.hid fun W hW => marked_any s a W hW hs h2)
    · rw [if_neg h2]
      exact front_plain s a more _ w hG hE h1 (by rw [hb, beq_eq_false_iff_ne]; exact h2) (Lib.hid fun W hW => plain_tok s more W hW hs)
/-- What Next, More and the document's Next answer: the token, where the next one begins, the error. -/
def NxPost (x : Tk × Nat × Int) (a : Nat) (w : World) (e : Ending) (w' : World) : Prop :=
  e = .returned (.tuple #[tkV x.1, .int .i64 ((a : Int) + (x.2.1 : Int)), .int .i64 x.2.2]) ∧ Below w.heap.size w w'
theorem front_zero (z more : Bool) (l : List Int) (h : (frontF z more l).2.2 ≠ 0) : frontF z more l = (T0, 0, (frontF z more l).2.2) := by
  by_cases hl : l = []
  · subst hl
    cases more with
    | true => rfl
    | false => exact absurd rfl h
  · obtain ⟨h1, h2⟩ := (fit_front z more l hl).zero h
    rw [← h1, ← h2]
theorem front_len (z more : Bool) (l : List Int) : (frontF z more l).2.1 ≤ l.length := by
  by_cases h : (frontF z more l).2.2 = 0
  · by_cases hl : l = []
    · subst hl
      cases more with
      | true => exact Nat.le_refl _
      | false => exact Nat.le_refl _
    · exact ((fit_front z more l hl).size h).2.1
  · rw [front_zero z more l h]
    exact Nat.zero_le _
set_option maxHeartbeats 1000000 in
set_option maxRecDepth 100000 in
theorem next_err (s : ByteArray) (a : Nat) (more : Bool) (m : Nat) (er : Int) (w : World) (hG : Gl w) (hs : s.size ≤ 10000) (ha : a ≤ s.size) (her : er ≠ 0) (y : Tk) (C : Hid (ToC 50 #[.string (s.extract a s.size), .int .i64 (a : Int), .bool more] (y, m, er))) :
    Calls Tryz.prog 32 #[.string s, .int .i64 (a : Int), .bool more] w (NxPost (T0, 0, er) a w) := by
  have HN := Lib.hid (new_end w)
  have HG := Lib.hid (hG.after HN.out.2.1)
  have t1 : (er != 0) = true := by rw [bne_iff_ne]; exact her
  have d1 : ¬ (a : Int) < 0 := by omega
  have d2 : ¬ (s.size : Int) < (a : Int) := by omega
  have d3 : (0 : Int) ≤ (a : Int) := by omega
  have d4 : (a : Int) ≤ (s.size : Int) := by omega
  have d5 : ¬ s.size < a := by omega
  clear hG her
  go_enter Tryz.func32, Tryz.ntmps32
  go_wp2_with fail
  refine (C.out _ HG.out).mono ?_
  rintro e w3 ⟨⟨kd, tx, em, bk⟩, n, rfl, hx, hb3⟩
  have h3 := more_end HN.out hb3
  clear hx hb3
  unfold tkV
  dsimp only
  generalize strOfNums tx = str
  have hA := (Below.refl w3.heap.size w3).alloc (Nat.le_refl _) (.cells #[.int .i64 kd, .string str, .bool em, .bool bk] 42)
  obtain ⟨hz, hb, ⟨c0, c1, c2, c3, f0, f1, f2, f3⟩⟩ := more_end h3 hA
  have HB := Lib.hid hb
  clear hb h3 hA
  go_wp2_with fail
  exact bodyPost_ret (v := .tuple #[tkV T0, .int .i64 (a : Int), .int .i64 er]) (by rw [tk0]; simp [results, Tryz.results32, go_sem, c0, c1, c2, c3, hz]) rfl ⟨by show _ = Ending.returned (.tuple #[tkV T0, .int .i64 ((a : Int) + ((0 : Nat) : Int)), .int .i64 er]); rw [show (a : Int) + ((0 : Nat) : Int) = a by omega], below_set4 HB.out (Nat.le_refl _) _ _ _ _⟩
set_option maxHeartbeats 1000000 in
set_option maxRecDepth 100000 in
theorem next_ok (s : ByteArray) (a : Nat) (more : Bool) (m : Nat) (w : World) (hG : Gl w) (hs : s.size ≤ 10000) (ha : a ≤ s.size) (hm : m ≤ 10000) (y : Tk) (C : Hid (ToC 50 #[.string (s.extract a s.size), .int .i64 (a : Int), .bool more] (y, m, 0))) :
    Calls Tryz.prog 32 #[.string s, .int .i64 (a : Int), .bool more] w (NxPost (y, m, 0) a w) := by
  have HN := Lib.hid (new_end w)
  have HG := Lib.hid (hG.after HN.out.2.1)
  have d1 : ¬ (a : Int) < 0 := by omega
  have d2 : ¬ (s.size : Int) < (a : Int) := by omega
  have d3 : (0 : Int) ≤ (a : Int) := by omega
  have d4 : (a : Int) ≤ (s.size : Int) := by omega
  have d5 : ¬ s.size < a := by omega
  have q1 : IntKind.i64.wrap ((a : Int) + (m : Int)) = (a : Int) + (m : Int) := IntWalk.i64_in _ (by omega)
  clear hG
  obtain ⟨kd, tx, em, bk⟩ := y
  go_enter Tryz.func32, Tryz.ntmps32
  go_wp2_with fail
  refine (C.out _ HG.out).mono ?_
  rintro e w3 ⟨y', n, rfl, hx, hb3⟩
  obtain ⟨rfl, rfl⟩ := hx rfl
  have h3 := more_end HN.out hb3
  clear hx hb3
  unfold tkV
  dsimp only
  generalize hst : strOfNums tx = str
  have HS := Lib.hid hst
  clear hst
  have hA := (Below.refl w3.heap.size w3).alloc (Nat.le_refl _) (.cells #[.int .i64 kd, .string str, .bool em, .bool bk] 42)
  obtain ⟨hz, hb, ⟨c0, c1, c2, c3, f0, f1, f2, f3⟩⟩ := more_end h3 hA
  have HB := Lib.hid hb
  clear hb h3 hA
  go_wp2_with fail
  exact bodyPost_ret (v := .tuple #[.agg #[.int .i64 kd, .string str, .bool em, .bool bk], .int .i64 ((a : Int) + (m : Int)), .int .i64 0]) (by simp [results, Tryz.results32, go_sem, c0, c1, c2, c3, hz]) rfl ⟨by rw [← HS.out]; rfl, below_set4 HB.out (Nat.le_refl _) _ _ _ _⟩
theorem snext_any (s : ByteArray) (a : Nat) (more : Bool) (w : World) (hG : Gl w) (hs : s.size ≤ 10000) (ha : a ≤ s.size) : Calls Tryz.prog 32 #[.string s, .int .i64 (a : Int), .bool more] w (NxPost (frontF (decide (a = 0)) more ((byts s).drop a)) a w) := by
  have e : byts (s.extract a s.size) = (byts s).drop a := by rw [byts_extract, List.take_of_length_le (by rw [byts_len]; omega)]
  have C : ToC 50 #[.string (s.extract a s.size), .int .i64 (a : Int), .bool more] (frontF (decide (a = 0)) more ((byts s).drop a)) := fun W hW => by
    have := front_any (s.extract a s.size) a more W hW (by rw [ByteArray.size_extract]; omega)
    rw [e] at this
    exact this
  have hl := front_len (decide (a = 0)) more ((byts s).drop a)
  rw [List.length_drop, byts_len] at hl
  by_cases h : (frontF (decide (a = 0)) more ((byts s).drop a)).2.2 = 0
  · obtain ⟨y, m, er, hx⟩ : ∃ y m er, frontF (decide (a = 0)) more ((byts s).drop a) = (y, m, er) := ⟨_, _, _, rfl⟩
    rw [hx] at C hl h ⊢
    have h' : er = 0 := h
    subst h'
    exact next_ok s a more m w hG hs ha (by have : m ≤ s.size - a := hl; omega) y (Lib.hid C)
  · rw [front_zero _ _ _ h] at C ⊢
    exact next_err s a more 0 _ w hG hs ha h T0 (Lib.hid C)
set_option maxHeartbeats 1000000 in
set_option maxRecDepth 100000 in
theorem Next_of (s : ByteArray) (a : Nat) (x : Tk × Nat × Int) (w : World) (hG : Gl w) (C : Hid (∀ W, Gl W → Calls Tryz.prog 32 #[.string s, .int .i64 (a : Int), .bool false] W (NxPost x a W))) :
    Calls Tryz.prog 22 #[.string s, .int .i64 (a : Int)] w (NxPost x a w) := by
  have HN := Lib.hid (new_end w)
  have HG := Lib.hid (hG.after HN.out.2.1)
  clear hG
  obtain ⟨⟨kd, tx, em, bk⟩, m, er⟩ := x
  go_enter Tryz.func22, Tryz.ntmps22
  go_wp2_with fail
  refine (C.out _ HG.out).mono ?_
  rintro e w3 ⟨rfl, hb3⟩
  obtain ⟨hz, hb, ⟨c0, c1, c2, c3, f0, f1, f2, f3⟩⟩ := more_end HN.out hb3
  have HB := Lib.hid hb
  clear hb hb3
  unfold tkV
  dsimp only
  generalize hst : strOfNums tx = str
  have HS := Lib.hid hst
  clear hst
  generalize hmm : (a : Int) + (m : Int) = k
  have HM := Lib.hid hmm
  clear hmm
  go_wp2_with fail
  exact bodyPost_ret (v := .tuple #[.agg #[.int .i64 kd, .string str, .bool em, .bool bk], .int .i64 k, .int .i64 er]) (by simp [results, Tryz.results22, go_sem, c0, c1, c2, c3, hz]) rfl ⟨by rw [← HS.out, ← HM.out]; rfl, below_set4 HB.out (Nat.le_refl _) _ _ _ _⟩
theorem Next_any (s : ByteArray) (a : Nat) (w : World) (hG : Gl w) (hs : s.size ≤ 10000) (ha : a ≤ s.size) : Calls Tryz.prog 22 #[.string s, .int .i64 (a : Int)] w (NxPost (nx (byts s) a) a w) :=
  Next_of s a _ w hG (Lib.hid fun W hW => snext_any s a false W hW hs ha)
end Go.Proofs.YtnomcldpbkinmaaGreatDoor

/- The walk of well.Events. -/
set_option linter.unusedSimpArgs false
set_option linter.unusedVariables false
namespace Go.Proofs.YtnomcldpbkinmaaGreatDoor.Wl
open Go.RowKit

theorem wpList_append_any {P : Program} {w : World} {ops : Array Oper} {rest : List Oper} {o : Oper} {a : Act} {Q : Exit → Act → World → Prop} (hgd : o.guard = none) (s x : Operand) (t : TypeId)
    (ho : o.op = .call { callee := .builtin .append, args := #[s, x], argTypes := #[t, t] })
    (base : Nat) (e : TypeId) (i : TypeInfo) (z : Value) (size bytes : Nat) (ht : P.underlying t = some (.slice e)) (hi : P.info? e = some i) (hz : i.zero = some z) (hsize : i.size = size) (hby : i.bytes = bytes) (hzs : z.cells.size = size) (hsz : 0 < size)
    (v : Value) (n : Nat) (xs : List Value) (hs : a.eval s = v) (hown : w.ownsRow base e size v n xs)
    (A : Option Addr) (m c : Nat) (news : List Value) (hx : a.eval x = .slice A m c) (hnil : A = none → m = 0 ∧ c = 0) (hl : news.length = m * size) (hnews : ∀ ad, A = some ad → ∀ j u, news[j]? = some u → w.cell? (ad.add j) = some u) (h1 : ∀ u ∈ news, u.oneCell' = true)
    (h63 : n + m ≤ maxLen) (hbytes : (n + m) * bytes ≤ 140737488355328) (hbase : base ≤ w.heap.size)
    (h : ∀ v' w', w'.ownsRow base e size v' (n + m) (xs ++ news) → w.grownBy w' v.ownBlock → wpList P ops Q rest (a.put o.dst v') w') :
    wpList P ops Q (o :: rest) a w := by
  cases A with
  | some ad => exact wpList_append_own w hgd s x t ho base e i z size bytes ht hi hz hsize hby hzs hsz v n xs hs hown ad m c news hx hl (hnews ad rfl) h1 h63 hbytes hbase (fun v' w' a1 a2 _ => h v' w' a1 a2)
  | none =>
    obtain ⟨rfl, rfl⟩ := hnil rfl
    have hnw : news = [] := List.eq_nil_of_length_eq_zero (by rw [hl, Nat.zero_mul])
    subst hnw
    refine wpList_plain hgd fun K hK => ?_
    have hr := run_append_owned_none (P := P) (w := w) base t o.type e i size ht hi v n xs hown
    unfold Oper.wp execOp
    simp only [ho, resolve, invoke, builtin, Sem.run_bind, Sem.run_pure, Result.andThen_ok, List.map_toArray, List.map_cons, List.map_nil, hs, hx, hr]
    exact hK _ _ (h v w (by rw [List.append_nil]; exact hown) ⟨rfl, rfl, rfl, Nat.le_refl _, fun _ _ _ => rfl⟩)
/-- Where Events stands. -/
structure EW (w : World) (rb : Nat) (v : Value) (st : St) (out : List Ev) (a : Nat) (W : World) : Prop where
  rs : RS w.heap.size rb st W
  ev : EvOwn W w.heap.size v out
  bel : Below w.heap.size w W
  gl0 : Gl w
  gd : Gd st
  wt : st.wait.size ≤ 10000 * a
  jn : Jn st out
  len : out.length ≤ 3 * a
theorem EW.gl {w W : World} {rb a : Nat} {v : Value} {st : St} {out : List Ev} (h : EW w rb v st out a W) : Gl W := h.gl0.after h.bel
theorem EW.after {w W W' : World} {rb a : Nat} {v : Value} {st : St} {out : List Ev} (h : EW w rb v st out a W) (hb : Below W.heap.size W W') : EW w rb v st out a W' := by
  obtain ⟨vw, vo, es, hr⟩ := h.rs
  exact ⟨⟨vw, vo, es, hr.after hb⟩, h.ev.keep hb, h.bel.trans (hb.mono h.bel.size), h.gl0, h.gd, h.wt, h.jn, h.len⟩
def EvRel (s : ByteArray) (w : World) (rb : Nat) (v i : Value) (wr : World) : Prop :=
  ∃ (a : Nat) (st : St) (out : List Ev), a ≤ s.size ∧ i = .int .i64 a ∧ Hid (EW w rb v st out a wr) ∧ Hid (evF (byts s) = evR (byts s) a st out)
/-- What Events answers. -/
def EvPost (x : List Ev × Nat × Int) (w : World) (e : Ending) (w' : World) : Prop :=
  ∃ v, e = .returned (.tuple #[v, .int .i64 (x.2.1 : Int), .int .i64 x.2.2]) ∧ EvOwn w' w.heap.size v x.1 ∧ Below w.heap.size w w'
theorem ep_of {x y : List Ev × Nat × Int} {w w' : World} {e : Ending} (h : x = y) (hp : EvPost y w e w') : EvPost x w e w' := by rw [h]; exact hp
theorem own_src {W : World} {B n c z : Nat} {e : TypeId} {A : Option Addr} {xs : List Value} (h : W.ownsRow B e z (.slice A n c) n xs) : (A = none → n = 0 ∧ c = 0) ∧ ∀ ad, A = some ad → ∀ j u, xs[j]? = some u → W.cell? (ad.add j) = some u := by
  rcases h.2 with ⟨q, h0⟩ | ⟨g, cap, cur, q, hB, hh, hr⟩
  · injection q with q1 q2 q3
    refine ⟨fun _ => ⟨h0, q3⟩, fun ad e => ?_⟩
    rw [q1] at e
    cases e
  · injection q with q1 q2 q3
    subst q1
    refine ⟨(fun e => by cases e), fun ad e j u hu => ?_⟩
    cases e
    exact h.cells rfl j u hu
/-- All, with what a token told behind it. -/
theorem ev_cat {W w3 : World} {B : Nat} {v v' : Value} {xs ys : List EvP} {l m : List Ev} (h1 : xs.map (·.1) = l) (h2 : ys.map (·.1) = m) (ho : W.ownsRow B 50 5 v xs.length (evL xs)) (hX : EvO W B xs) (hY : EvO W B ys) (hg : W.grownBy w3 v.ownBlock) (hn : w3.ownsRow B 50 5 v' (xs.length + ys.length) (evL xs ++ evL ys)) : EvOwn w3 B v' (l ++ m) := by
  refine ⟨xs ++ ys, by rw [List.map_append, h1, h2], ?_, (hX.grown ho hg (by decide)).app (hY.grown ho hg (by decide))⟩
  rw [evL_app, List.length_append]
  exact hn
set_option maxHeartbeats 8000000 in
set_option maxRecDepth 100000 in
theorem events_any (s : ByteArray) (w : World) (hG : Gl w) (hs : s.size ≤ 5000) : Calls Tryz.prog 10 #[.string s] w (EvPost (evF (byts s)) w) := by
  obtain ⟨i0, hi, hz0, hz1, hz2⟩ := info_parts Tryz.info50
  have HC : Hid (∀ (a : Nat) W, a ≤ s.size → Gl W → Calls Tryz.prog 22 #[.string s, .int .i64 (a : Int)] W (NxPost (nx (byts s) a) a W)) := Lib.hid fun a W ha hW => Next_any s a W hW (by omega) ha
  have CN := Lib.hid (new_any w)
  have HGl := Lib.hid hG
  clear hG
  go_enter Tryz.func10, Tryz.ntmps10
  go_wp2_with fail
  refine CN.out.mono ?_
  rintro e w0 ⟨rfl, r0, b0⟩
  have HE0 : Hid (EW w w.heap.size (.slice none 0 0) st0 [] 0 w0) := Lib.hid ⟨⟨_, _, _, r0⟩, EvOwn.nil _ _, b0, HGl.out, gd0, Nat.zero_le _, jn0, Nat.zero_le _⟩
  clear r0 b0 CN HGl
  go_wp2_with fail
  go_loopw [5, 7] (fun v i wr => EvRel s w w.heap.size v i wr) (fun _ i _ => s.size - (intOf i).toNat)
  case atStart => exact ⟨0, st0, [], Nat.zero_le _, rfl, HE0, Lib.hid rfl⟩
  case round =>
    obtain ⟨a, st, out, ha, rfl, hE, hA⟩ := hrel
    have C := Lib.hid (HC.out a wr ha hE.out.gl)
    have hal : a ≤ (byts s).length := by rw [byts_len]; exact ha
    obtain ⟨Av, cv, hv⟩ := hE.out.ev.slc
    subst hv
    by_cases he : (nx (byts s) a).2.2 = 0
    · have hT := nx_text (byts s) a (byts_nn s)
      rw [byts_len] at hT
      have hKd := nx_kind (byts s) a he
      have hFt := fun h => (nx_fit (byts s) a h).size he
      have G1 := ev_bad (L := byts s) (s := st) out hal he
      have G2 := fun h => ev_last (L := byts s) (a := a) (s := st) out h he
      have G3 := fun h => ev_go (L := byts s) (a := a) (s := st) out h he
      obtain ⟨⟨kd, tx, em, bk⟩, n, er, hx⟩ : ∃ y n er, nx (byts s) a = (y, n, er) := ⟨_, _, _, rfl⟩
      rw [hx] at C hT hKd hFt G1 G2 G3 he
      dsimp only at C hT hKd hFt G1 G2 G3 he
      subst he
      unfold tokF at G1 G2 G3
      dsimp only at G1 G2 G3
      rw [List.length_drop, byts_len] at hFt
      rw [byts_len] at hKd G2 G3
      have hsz : (strOfNums tx).size ≤ 10000 := by rw [str_size]; omega
      have hJ := take_jn (t := ⟨kd, strOfNums tx, em, bk⟩) hE.out.jn
      have hGd := take_gd hE.out.gd ⟨kd, strOfNums tx, em, bk⟩ hsz
      have hWt := take_wait (s := st) ⟨kd, strOfNums tx, em, bk⟩
      have hLn := take_len (s := st) ⟨kd, strOfNums tx, em, bk⟩
      have hw0 := hE.out.wt
      have hl0 := hE.out.len
      dsimp only at hJ hWt
      have CT : Hid (∀ W, EW w w.heap.size (.slice Av out.length cv) st out a W → Calls Tryz.prog 15 #[.pointer (some ⟨w.heap.size, 0, none⟩), .agg #[.int .i64 kd, .string (strOfNums tx), .bool em, .bool bk]] W (TkP w.heap.size w.heap.size (takeF st ⟨kd, strOfNums tx, em, bk⟩) (takeF st ⟨kd, strOfNums tx, em, bk⟩).1 W)) := Lib.hid fun W hW => take_any hW.rs hW.gl kd _ em bk hsz hW.gd (by omega)
      have HJ := Lib.hid hJ
      have HGd := Lib.hid hGd
      have HG1 := Lib.hid G1
      have HG2 := Lib.hid G2
      have HG3 := Lib.hid G3
      clear hJ hGd G1 G2 G3 hx HC HE0
      revert C
      unfold NxPost tkV
      dsimp only
      intro C
      generalize strOfNums tx = str at *
      generalize takeF st ⟨kd, str, em, bk⟩ = x at *
      obtain ⟨st2, ev2, e2⟩ := x
      dsimp only at HJ HGd HG1 HG2 HG3 hWt hLn CT
      by_cases he2 : e2 = 0
      · subst he2
        have HJ := Lib.hid (HJ.out rfl)
        by_cases hend : a = s.size
        · skip
          have HA2 : Hid (evF (byts s) = (out ++ ev2, a, 0)) := Lib.hid (hA.out.trans (HG2.out hend rfl))
          have hOv : st2.over = true := by rw [HJ.out.2.1]; exact decide_eq_true (hKd.2 (by omega))
          have HOv := Lib.hid hOv
          clear HG1 HG2 HG3 HJ HGd hA hFt hKd hend hOv
          go_wp2_with fail
          refine C.out.mono ?_
          rintro e w1 ⟨rfl, hb1⟩
          have HE2 := Lib.hid ((hE.out.after hb1).after ((Below.refl _ w1).alloc (Nat.le_refl _) (.cells #[.int .i64 kd, .string str, .bool em, .bool bk] 42)))
          clear hb1 hE C
          go_wp2_with fail
          refine (CT.out _ HE2.out).mono ?_
          rintro e w2 ⟨v2, rfl, x2, ⟨vw2, vo2, es2, r2⟩, x4, x5⟩
          obtain ⟨xs, a1, a2, a3⟩ := HE2.out.ev.frm x4
          obtain ⟨ys, y1, y2, y3⟩ := x2.mono HE2.out.bel.size
          obtain ⟨A2, c2, rfl⟩ := Nz.Sc.own_slice y2
          obtain ⟨sn, sc⟩ := own_src y2
          have hxl : out.length = xs.length := by rw [← a1, List.length_map]
          have hyl : ys.length ≤ 3 := by rw [← List.length_map (f := (·.1)), y1]; exact hLn
          have hx3 : xs.length ≤ 15000 := by omega
          have HB := Lib.hid (HE2.out.bel.trans x5)
          have hzz := HB.out.size
          have hYl := evL_len ys
          have hY1 := evL_one y3
          have HA1 := Lib.hid a1
          have HA3 := Lib.hid a3
          have HY1 := Lib.hid y1
          have HY3 := Lib.hid y3
          have HR2 := Lib.hid r2
          rw [hxl] at a2 ⊢
          have HXL := Lib.hid hxl
          clear x2 x4 x5 HE2 CT a1 a3 y1 y2 y3 r2 hxl
          go_wp2_with (at_builtin; refine wpList_append_any (w := w2) rfl _ _ 23 rfl w.heap.size 50 i0 (.agg #[.int .i64 0, .string ⟨#[]⟩, .string ⟨#[]⟩, .slice none 0 0, .string ⟨#[]⟩]) 5 80 Tryz.underlying23 hi hz0 hz1 hz2 rfl (by decide) _ xs.length (evL xs) rfl a2 A2 ys.length c2 (evL ys) rfl sn hYl sc hY1 (by unfold maxLen; omega) (by omega) hzz ?_)
          intro v3 w3 n1 n2
          obtain ⟨A3, c3, rfl⟩ := Nz.Sc.own_slice n1
          have HE3 := Lib.hid (ev_cat HA1.out HY1.out a2 HA3.out HY3.out n2 n1)
          have HR3 := Lib.hid (HR2.out.grown a2 n2)
          have HB3 := Lib.hid (HB.out.grown n2 hzz (fun j hj => (World.ownsRow.lt a2 j hj).1))
          have CO := Lib.hid (over_any HR3.out)
          clear n1 n2 a2 sn sc hYl hY1 HA1 HA3 HY1 HY3 HR2 HB hzz
          rw [HOv.out] at CO
          go_wp2_with fail
          refine CO.out.mono ?_
          rintro e w4 ⟨rfl, rfl⟩
          go_wp2
          go_ret3
          exact ep_of HA2.out ⟨_, rfl, HE3.out, HB3.out⟩
        · skip
          have hlt : a < s.size := by omega
          have hF := hFt hlt
          have HA2 : Hid (evF (byts s) = evR (byts s) (a + n) st2 (out ++ ev2)) := Lib.hid (hA.out.trans (HG3.out hlt rfl))
          have hOv : st2.over = false := by rw [HJ.out.2.1]; exact decide_eq_false hF.2.2.1
          have HJn := Lib.hid HJ.out.1
          have hgl := Lib.hid hE.out.gl0
          have HOv := Lib.hid hOv
          have hF1 := hF.1
          have hF2 := hF.2.1
          clear HG1 HG2 HG3 HJ hA hFt hKd hOv hF hend
          go_wp2_with fail
          refine C.out.mono ?_
          rintro e w1 ⟨rfl, hb1⟩
          have HE2 := Lib.hid ((hE.out.after hb1).after ((Below.refl _ w1).alloc (Nat.le_refl _) (.cells #[.int .i64 kd, .string str, .bool em, .bool bk] 42)))
          clear hb1 hE C
          go_wp2_with fail
          refine (CT.out _ HE2.out).mono ?_
          rintro e w2 ⟨v2, rfl, x2, ⟨vw2, vo2, es2, r2⟩, x4, x5⟩
          obtain ⟨xs, a1, a2, a3⟩ := HE2.out.ev.frm x4
          obtain ⟨ys, y1, y2, y3⟩ := x2.mono HE2.out.bel.size
          obtain ⟨A2, c2, rfl⟩ := Nz.Sc.own_slice y2
          obtain ⟨sn, sc⟩ := own_src y2
          have hxl : out.length = xs.length := by rw [← a1, List.length_map]
          have hyl : ys.length ≤ 3 := by rw [← List.length_map (f := (·.1)), y1]; exact hLn
          have hx3 : xs.length ≤ 15000 := by omega
          have HB := Lib.hid (HE2.out.bel.trans x5)
          have hzz := HB.out.size
          have hYl := evL_len ys
          have hY1 := evL_one y3
          have HA1 := Lib.hid a1
          have HA3 := Lib.hid a3
          have HY1 := Lib.hid y1
          have HY3 := Lib.hid y3
          have HR2 := Lib.hid r2
          rw [hxl] at a2 ⊢
          have HXL := Lib.hid hxl
          clear x2 x4 x5 HE2 CT a1 a3 y1 y2 y3 r2 hxl
          go_wp2_with (at_builtin; refine wpList_append_any (w := w2) rfl _ _ 23 rfl w.heap.size 50 i0 (.agg #[.int .i64 0, .string ⟨#[]⟩, .string ⟨#[]⟩, .slice none 0 0, .string ⟨#[]⟩]) 5 80 Tryz.underlying23 hi hz0 hz1 hz2 rfl (by decide) _ xs.length (evL xs) rfl a2 A2 ys.length c2 (evL ys) rfl sn hYl sc hY1 (by unfold maxLen; omega) (by omega) hzz ?_)
          intro v3 w3 n1 n2
          obtain ⟨A3, c3, rfl⟩ := Nz.Sc.own_slice n1
          have HE3 := Lib.hid (ev_cat HA1.out HY1.out a2 HA3.out HY3.out n2 n1)
          have HR3 := Lib.hid (HR2.out.grown a2 n2)
          have HB3 := Lib.hid (HB.out.grown n2 hzz (fun j hj => (World.ownsRow.lt a2 j hj).1))
          have CO := Lib.hid (over_any HR3.out)
          clear n1 n2 a2 sn sc hYl hY1 HA1 HA3 HY1 HY3 HR2 HB hzz
          rw [HOv.out] at CO
          go_wp2_with fail
          refine CO.out.mono ?_
          rintro e w4 ⟨rfl, rfl⟩
          go_wp2
          go_roundw
          case rel => exact ⟨a + n, st2, out ++ ev2, by omega, by go_num, Lib.hid ⟨⟨_, _, _, HR3.out⟩, HE3.out, HB3.out, hgl.out, HGd.out, by omega, HJn.out, by rw [List.length_append]; omega⟩, HA2⟩
          case measure => simp only [intOf]; omega
      · have t2 : (e2 != 0) = true := bne_iff_ne.2 he2
        have HA2 : Hid (evF (byts s) = (out, a, e2)) := Lib.hid (hA.out.trans (HG1.out he2))
        clear HG1 HG2 HG3 HJ HGd hA hFt hKd he2
        go_wp2_with fail
        refine C.out.mono ?_
        rintro e w1 ⟨rfl, hb1⟩
        have HE2 := Lib.hid ((hE.out.after hb1).after ((Below.refl _ w1).alloc (Nat.le_refl _) (.cells #[.int .i64 kd, .string str, .bool em, .bool bk] 42)))
        clear hb1 hE C
        go_wp2_with fail
        refine (CT.out _ HE2.out).mono ?_
        rintro e w2 ⟨v2, rfl, x2, x3, x4, x5⟩
        obtain ⟨A2, c2, rfl⟩ := x2.slc
        have HV := Lib.hid (HE2.out.ev.frm x4)
        have HB := Lib.hid (HE2.out.bel.trans x5)
        clear x2 x3 x4 x5 HE2 CT
        go_wp2
        go_ret3
        exact ep_of HA2.out ⟨_, rfl, HV.out, HB.out⟩
    · have hA2 := hA.out
      rw [ev_err st out hal he] at hA2
      obtain ⟨⟨kd, tx, em, bk⟩, n, er, hx⟩ : ∃ y n er, nx (byts s) a = (y, n, er) := ⟨_, _, _, rfl⟩
      rw [hx] at C hA2 he
      dsimp only at hA2 he
      have t1 : (er != 0) = true := bne_iff_ne.2 he
      have HA2 := Lib.hid hA2
      clear hx hA2 HC HE0 hA he
      go_wp2_with fail
      refine C.out.mono ?_
      rintro e w1 ⟨rfl, hb1⟩
      unfold tkV
      dsimp only
      generalize strOfNums tx = str
      have HE2 := Lib.hid ((hE.out.after hb1).after ((Below.refl _ w1).alloc (Nat.le_refl _) (.cells #[.int .i64 kd, .string str, .bool em, .bool bk] 42)))
      clear hb1 hE C
      go_wp2
      go_ret3
      exact ep_of HA2.out ⟨_, rfl, HE2.out.ev, HE2.out.bel⟩
end Go.Proofs.YtnomcldpbkinmaaGreatDoor.Wl

/- Plain mathematics: the events of <a>, a text with something between, </a>. -/
set_option linter.unusedSimpArgs false
set_option linter.unusedVariables false
namespace Go.Proofs.YtnomcldpbkinmaaGreatDoor.Wl
open Go.RowKit

/-- A byte that a plain text may hold. -/
def PlB (c : Int) : Prop := 32 ≤ c ∧ c ≤ 126 ∧ c ≠ 60 ∧ c ≠ 62 ∧ c ≠ 38
theorem plb_nn {x : List Int} (h : ∀ c ∈ x, PlB c) : NN x := fun c hc => by have := h c hc; unfold PlB at this; omega
theorem pl_wrong {x : List Int} (h : ∀ c ∈ x, PlB c) : wrongF x = 0 := by
  have := wrongF_ascs x [] (fun c hc => ⟨by have := h c hc; unfold PlB at this; unfold Chr Btw; omega, by have := h c hc; unfold PlB at this; omega⟩) (by intro c hc; cases hc)
  rw [List.append_nil, wrongF_nil] at this
  exact this
theorem wrong_rt {x : List Int} (h : wrongF x = 0) : Rt x := by
  unfold wrongF at h
  by_cases c1 : (decF x).2.2 ≠ 0
  · rw [if_pos c1] at h; exact absurd h (by decide)
  rw [if_neg c1] at h
  by_cases c2 : ∀ r ∈ (decF x).1, Chr r
  · exact ⟨Decidable.not_not.1 c1, c2⟩
  · rw [if_neg c2] at h; exact absurd h (by decide)
theorem pl_cdata {x : List Int} (h : ∀ c ∈ x, PlB c) : (fnd eCdata x).isSome = false := by
  rw [fnd_not]
  · rfl
  · intro j hj ho
    have h1 : (62 : Int) ∈ x.drop j := ho.subset (by decide)
    have := h 62 (List.mem_of_mem_drop h1)
    unfold PlB at this
    omega
theorem front_plain {x r : List Int} (z : Bool) (hx : x ≠ []) (h : ∀ c ∈ x, PlB c) : frontF z false (x ++ 60 :: r) = (⟨3, x, false, x.all blk?⟩, x.length, 0) := by
  have hh : (x ++ 60 :: r).getD 0 0 ≠ 60 := by
    match x, hx with
    | c :: x, _ =>
      have := h c (by simp)
      unfold PlB at this
      simp only [List.cons_append, List.getD_cons_zero]
      omega
  have hf : fnd [60] (x ++ 60 :: r) = some x.length := by
    refine fnd_is (by simp) ?_ ?_
    · unfold Occ; rw [List.drop_left]; exact ⟨r, rfl⟩
    · intro j hj ho
      have h1 := (occ_one 60 (x ++ 60 :: r) j (by simp; omega)).1 ho
      rw [List.getD_eq_getElem?_getD, List.getElem?_append_left hj, List.getElem?_eq_getElem hj] at h1
      have := h x[j] (List.getElem_mem _)
      unfold PlB at this
      simp at h1
      omega
  have hw := pl_wrong h
  have hr := self_F false x (plb_nn h) (wrong_rt hw) (fun e => by have := h _ e; unfold PlB at this; omega) (fun e => by have := h _ e; unfold PlB at this; omega) (fun e => by cases e)
  have ha : ansF false x = (x, 0, 0) := by unfold ansF; rw [hr]; rfl
  unfold frontF
  rw [if_neg (by simp), if_neg hh]
  unfold plainF
  rw [hf]
  dsimp only
  unfold charsF
  rw [List.take_left, hw, pl_cdata h, ha]
  simp
theorem cat_em (u : ByteArray) : u ++ Nz.em = u := by
  apply byts_inj
  rw [byts_cat]
  simp [byts, Nz.em]
theorem em_cat (u : ByteArray) : Nz.em ++ u = u := by
  apply byts_inj
  rw [byts_cat]
  simp [byts, Nz.em]
theorem nx_of {L M r : List Int} {p : Nat} (hd : L.drop p = M ++ r) : nx L p = frontF (decide (p = 0)) false (M ++ r) := by unfold nx; rw [hd]
theorem drop_lt {L M r : List Int} {p : Nat} (hd : L.drop p = M ++ r) (hM : M ≠ []) : p < L.length := by
  have := congrArg List.length hd
  rw [List.length_drop, List.length_append] at this
  have := List.length_pos_iff.2 hM
  omega
/-- A reader that may go on. -/
def Live (s : St) : Prop := s.over = false ∧ s.err = 0
theorem take_read {s : St} (h : Live s) (t : Tok) : takeF s t = readT s t := by
  unfold takeF; rw [if_neg (by rw [h.1]; decide), if_neg (by rw [h.2]; decide)]
theorem ev_tok {L M r : List Int} {p : Nat} {s s' : St} {out ev : List Ev} {tk : Tk} (hd : L.drop p = M ++ r) (hM : M ≠ []) (hf : ∀ z, frontF z false (M ++ r) = (tk, M.length, 0)) (ht : takeF s (tokF tk) = (s', ev, 0)) :
    evR L p s out = evR L (p + M.length) s' (out ++ ev) ∧ L.drop (p + M.length) = r := by
  have h1 := (nx_of hd).trans (hf _)
  refine ⟨?_, by rw [← List.drop_drop, hd, List.drop_left]⟩
  rw [ev_go out (drop_lt hd hM) (by rw [h1]) (by rw [h1]; show (takeF s (tokF tk)).2.2 = 0; rw [ht]), h1]
  show evR L (p + M.length) (takeF s (tokF tk)).1 (out ++ (takeF s (tokF tk)).2.1) = _
  rw [ht]
theorem chars_take {s : St} (h : Live s) (ho : s.op ≠ []) (x : List Int) (b : Bool) : takeF s (tokF ⟨3, x, false, b⟩) = ({ s with wait := s.wait ++ strOfNums x }, [], 0) := by
  rw [take_read h]
  show readT s ⟨3, strOfNums x, false, b⟩ = _
  unfold readT charsT
  simp [ho]
theorem ev_plain {L x r : List Int} {p : Nat} {s : St} {out : List Ev} (hd : L.drop p = x ++ 60 :: r) (h : ∀ c ∈ x, PlB c) (hs : Live s) (ho : s.op ≠ []) :
    evR L p s out = evR L (p + x.length) { s with wait := s.wait ++ strOfNums x } out ∧ L.drop (p + x.length) = 60 :: r := by
  by_cases hx : x = []
  · subst hx
    refine ⟨?_, by simpa using hd⟩
    have e : strOfNums [] = Nz.em := str_none
    rw [e, cat_em]
    rfl
  · have := ev_tok (out := out) hd hx (fun z => front_plain z hx h) (chars_take hs ho x _)
    rw [List.append_nil] at this
    exact this
end Go.Proofs.YtnomcldpbkinmaaGreatDoor.Wl
