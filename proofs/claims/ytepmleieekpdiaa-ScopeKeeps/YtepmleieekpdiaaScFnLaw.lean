/-
  The walk of the law ScopeFinds.
-/
import Derived.Test.YtepmleieekpdiaaScAtLaw
import Derived.Test.YtepmleieekpdiaaScSame
set_option linter.unusedSimpArgs false
set_option linter.unusedVariables false
namespace Go.Proofs.Ytepmleieekpdiaa
open Go.RowKit

theorem sml_yes {A0 : Option Addr} {N cap : Nat} {nm : ByteArray} {l : List P2} {n : Nat} {A : Option Addr} {c : Nat} {w : World} (hN : N ≤ maxLen) (hn : n = l.length) (hm : nm.size ≤ maxLen) (hl : n ≤ maxLen) (hx : ∀ x ∈ l, x.1.size ≤ maxLen ∧ x.2.size ≤ maxLen) (h1 : RdR w A l) (h : SmlP N nm l) :
    Calls Try.prog 9 #[.slice A0 N cap, .agg #[.string nm, .slice A n c]] w fun e w' => e = .returned (.bool true) ∧ Below w.heap.size w w' :=
  (sml_any A0 N cap nm l n A c w hN hn hm hl hx h1).mono fun e w' ⟨b, h2, h3, h4⟩ => ⟨by rw [h2, h3.2 h], h4⟩
theorem sml_no {A0 : Option Addr} {N cap : Nat} {nm : ByteArray} {l : List P2} {n : Nat} {A : Option Addr} {c : Nat} {w : World} (hN : N ≤ maxLen) (hn : n = l.length) (hm : nm.size ≤ maxLen) (hl : n ≤ maxLen) (hx : ∀ x ∈ l, x.1.size ≤ maxLen ∧ x.2.size ≤ maxLen) (h1 : RdR w A l) (h : ¬ SmlP N nm l) :
    Calls Try.prog 9 #[.slice A0 N cap, .agg #[.string nm, .slice A n c]] w fun e w' => e = .returned (.bool false) ∧ Below w.heap.size w w' :=
  (sml_any A0 N cap nm l n A c w hN hn hm hl hx h1).mono fun e w' ⟨b, h2, h3, h4⟩ => ⟨by
    have : b = false := by
      cases hb : b
      · rfl
      · exact absurd (h3.1 hb) h
    rw [h2, this], h4⟩
def SmC (A A2 : Option Addr) (N M cap cap2 : Nat) (nm : ByteArray) (b : Bool) (w : World) : Prop := ∀ W, Below w.heap.size w W → Calls Try.prog 9 #[.slice A N cap, .agg #[.string nm, .slice A2 M cap2]] W fun e w' => e = .returned (.bool b) ∧ Below W.heap.size W w'
def EnC (A A2 : Option Addr) (N M cap cap2 : Nat) (nm : ByteArray) (o : Except Int (List P2 × P2 × List P3)) (w : World) : Prop := ∀ W, Below w.heap.size w W → Calls Try.prog 10 #[.slice A N cap, .agg #[.string nm, .slice A2 M cap2]] W (EnPost W o)
def FnC (A : Option Addr) (N cap : Nat) (p s : ByteArray) (b : Bool) (w : World) : Prop := ∀ W, Below w.heap.size w W → Calls Try.prog 12 #[.slice A N cap, .string p] W fun e w' => e = .returned (.tuple #[.string s, .bool b]) ∧ Below W.heap.size W w'
theorem box_tag (w : World) (nm : ByteArray) (A : Option Addr) (M c : Nat) : Below w.heap.size w (w.alloc (.cells #[.string nm, .slice A M c] 25)) := (Below.refl _ w).alloc (Nat.le_refl _) _
/-- The tag's box lies as it lay. -/
def TgB (w : World) (nm : ByteArray) (A : Option Addr) (M c : Nat) (W : World) : Prop := W.heap[w.heap.size]? = some (.cells #[.string nm, .slice A M c] 25 (0, 0)) ∧ Below w.heap.size w W
theorem TgB.keep {w W W' : World} {nm : ByteArray} {A : Option Addr} {M c : Nat} (h : TgB w nm A M c W) (hb : Below W.heap.size W W') : TgB w nm A M c W' :=
  ⟨(hb.block _ (Array.getElem?_eq_some_iff.1 h.1).1).trans h.1, h.2.trans (hb.mono h.2.size)⟩
theorem tgb_start (w : World) (nm : ByteArray) (A : Option Addr) (M c : Nat) : TgB w nm A M c (w.alloc (.cells #[.string nm, .slice A M c] 25)) := ⟨nblk w 25 _, box_tag w nm A M c⟩
set_option maxHeartbeats 4000000 in
set_option maxRecDepth 100000 in
theorem fn_out (A A2 : Option Addr) (N M cap cap2 : Nat) (nm p s : ByteArray) (w : World) (CF : Hid (SmC A A2 N M cap cap2 nm false w)) :
    Calls Try.prog 5 #[.slice A N cap, .agg #[.string nm, .slice A2 M cap2], .string p, .string s] w fun e w' => e = .returned (.bool true) ∧ Below w.heap.size w w' := by
  have CW : Hid AwC := Lib.hid awake_any
  have H0 := Lib.hid (tgb_start w nm A2 M cap2)
  go_enter Try.func5, Try.ntmps5
  go_wp2_with fail
  refine (CW.out _).mono ?_
  rintro e w1 ⟨rfl, hb1⟩
  have H1 := Lib.hid (H0.out.keep hb1)
  have t0 := cells_of H1.out.1 0 (u := .string nm) rfl
  have t1 := cells_of H1.out.1 1 (u := .slice A2 M cap2) rfl
  clear hb1 H0
  go_wp2_with fail
  refine (CF.out _ H1.out.2).mono ?_
  rintro e w2 ⟨rfl, hb2⟩
  have H2 := Lib.hid (H1.out.keep hb2)
  clear t0 t1 hb2 H1
  go_wp2_with fail
  refine (CW.out _).mono ?_
  rintro e w3 ⟨rfl, hb3⟩
  go_wp2
  go_ret
  exact ⟨rfl, (H2.out.keep hb3).2⟩
set_option maxHeartbeats 4000000 in
set_option maxRecDepth 100000 in
theorem fn_err (A A2 : Option Addr) (N M cap cap2 : Nat) (nm p s fs : ByteArray) (fb : Bool) (c : Int) (w : World) (hc : c = 8 ∨ c = 9) (CF : Hid (SmC A A2 N M cap cap2 nm true w)) (CE : Hid (EnC A A2 N M cap cap2 nm (.error c) w)) (C1 : Hid (FnC A N cap p fs fb w)) :
    Calls Try.prog 5 #[.slice A N cap, .agg #[.string nm, .slice A2 M cap2], .string p, .string s] w fun e w' => e = .returned (.bool true) ∧ Below w.heap.size w w' := by
  have CW : Hid AwC := Lib.hid awake_any
  have H0 := Lib.hid (tgb_start w nm A2 M cap2)
  have hc1 : (c == 0) = false := by rw [beq_eq_false_iff_ne]; omega
  have hc2 : ¬ c = 0 := by omega
  clear hc
  go_enter Try.func5, Try.ntmps5
  go_wp2_with fail
  refine (CW.out _).mono ?_
  rintro e w1 ⟨rfl, hb1⟩
  have H1 := Lib.hid (H0.out.keep hb1)
  have t0 := cells_of H1.out.1 0 (u := .string nm) rfl
  have t1 := cells_of H1.out.1 1 (u := .slice A2 M cap2) rfl
  clear hb1 H0 CW
  go_wp2_with fail
  refine (CF.out _ H1.out.2).mono ?_
  rintro e w2 ⟨rfl, hb2⟩
  have H2 := Lib.hid (H1.out.keep hb2)
  clear t0 t1 hb2 H1 CF
  go_wp2_with fail
  refine (C1.out _ H2.out.2).mono ?_
  rintro e w3 ⟨rfl, hb3⟩
  have H3 := Lib.hid (H2.out.keep hb3)
  have t0 := cells_of H3.out.1 0 (u := .string nm) rfl
  have t1 := cells_of H3.out.1 1 (u := .slice A2 M cap2) rfl
  clear hb3 H2 C1
  go_wp2_with fail
  refine (CE.out _ H3.out.2).mono ?_
  rintro e w4 ⟨g, -, hb4⟩
  obtain rfl := g _ rfl
  unfold evZ
  have H4 := Lib.hid (H3.out.keep hb4)
  clear hb4 H3 CE g t0 t1
  go_wp2_with fail
  go_ret
  exact ⟨rfl, H4.out.2.alloc H4.out.2.size _⟩
theorem RdR.take {w : World} {A : Option Addr} {W L : List P2} (h : RdR w A W) (hL : W.take L.length = L) : RdR w A L := fun k x hk => by
  have hlt := (List.getElem?_eq_some_iff.1 hk).1
  refine h k x ?_
  rw [← hk]
  have := congrArg (fun l => l[k]?) hL
  simp only [List.getElem?_take_of_lt hlt] at this
  exact this
/-- An append of a slice that is nil or not to a row of the call's own. -/
theorem wpList_append_any {P : Program} {w : World} {ops : Array Oper} {rest : List Oper} {o : Oper} {a : Act} {Q : Exit → Act → World → Prop} (hgd : o.guard = none) (s x : Operand) (t : TypeId)
    (ho : o.op = .call { callee := .builtin .append, args := #[s, x], argTypes := #[t, t] })
    (base : Nat) (e : TypeId) (i : TypeInfo) (z : Value) (size bytes : Nat) (ht : P.underlying t = some (.slice e)) (hi : P.info? e = some i) (hz : i.zero = some z) (hsize : i.size = size) (hby : i.bytes = bytes) (hzs : z.cells.size = size) (hsz : 0 < size)
    (v : Value) (n : Nat) (xs : List Value) (hs : a.eval s = v) (hown : w.ownsRow base e size v n xs)
    (A : Option Addr) (m c : Nat) (news : List Value) (hx : a.eval x = .slice A m c) (hnil : A = none → m = 0 ∧ c = 0) (hl : news.length = m * size) (hnews : ∀ ad, A = some ad → ∀ j u, news[j]? = some u → w.cell? (ad.add j) = some u) (h1 : ∀ u ∈ news, u.oneCell' = true)
    (h63 : n + m ≤ maxLen) (hbytes : (n + m) * bytes ≤ 140737488355328) (hbase : base ≤ w.heap.size)
    (h : ∀ v' w', w'.ownsRow base e size v' (n + m) (xs ++ news) → w.grownBy w' v.ownBlock → wpList P ops Q rest (a.put o.dst v') w') :
    wpList P ops Q (o :: rest) a w := by
  cases A with
  | some ad => exact wpList_append_own w hgd s x t ho base e i z size bytes ht hi hz hsize hby hzs hsz v n xs hs hown ad m c news hx hl (hnews ad rfl) h1 h63 hbytes hbase (fun v' w' a1 a2 _ => h v' w' a1 a2)
  | none =>
    obtain ⟨rfl, rfl⟩ := hnil rfl
    have hnw : news = [] := List.eq_nil_of_length_eq_zero (by rw [hl, Nat.zero_mul])
    subst hnw
    refine wpList_plain hgd fun K hK => ?_
    have hr := run_append_owned_none (P := P) (w := w) base t o.type e i size ht hi v n xs hown
    unfold Oper.wp execOp
    simp only [ho, resolve, invoke, builtin, Sem.run_bind, Sem.run_pure, Result.andThen_ok, List.map_toArray, List.map_cons, List.map_nil, hs, hx, hr]
    exact hK _ _ (h v w (by rw [List.append_nil]; exact hown) ⟨rfl, rfl, rfl, Nat.le_refl _, fun _ _ _ => rfl⟩)
theorem own_emp {W : World} {B h : Nat} {e : TypeId} (hb : W.heap[h]? = some (.cells #[] e (0, 0))) (hB : B ≤ h) : W.ownsRow B e 2 (.slice (some ⟨h, 0, none⟩) 0 0) 0 [] :=
  ⟨by simp, .inr ⟨h, 0, #[], rfl, hB, hb, Nat.le_refl _, Nat.zero_le _, rfl, rfl⟩⟩
end Go.Proofs.Ytepmleieekpdiaa
