/-
  Merged by program out of the texts WlNst, WlTxw, WlTxm, ScSame of one seat.
-/
import Derived.Test.YtnomcldpbkinmaaGreatDoorG34
import Derived.Test.YtnomcldpbkinmaaGreatDoorG21

/- Plain mathematics of WellNests: a document's tokens within a new root, and with another root behind. -/
set_option linter.unusedSimpArgs false
set_option linter.unusedVariables false
namespace Go.Proofs.YtnomcldpbkinmaaGreatDoor.Wl
open Go.RowKit

/-- A token that is told is told, if < follows. -/
theorem front_ext (z : Bool) (l x : List Int) (hl : l ≠ []) (h : (frontF z false l).2.2 = 0) : frontF z false (l ++ 60 :: x) = frontF z false l := by
  unfold frontF at h ⊢
  rw [if_neg hl] at h ⊢
  rw [if_neg (by simp)]
  have hg : (l ++ 60 :: x).getD 0 0 = l.getD 0 0 := by
    cases l with
    | nil => exact absurd rfl hl
    | cons a b => rfl
  rw [hg]
  by_cases hc : l.getD 0 0 = 60
  · rw [if_pos hc] at h ⊢
    rw [if_pos hc]
    exact told_mark z l _ hc (by rw [h]; decide)
  · rw [if_neg hc] at h ⊢
    rw [if_neg hc]
    unfold plainF at h ⊢
    cases hf : fnd [60] l with
    | some n =>
      rw [fnd_app _ hf]
      have := (fnd_some hf).1
      show charsF (l ++ 60 :: x) n = charsF l n
      unfold charsF
      rw [take_app l _ n (by omega)]
    | none =>
      have hf2 : fnd [60] (l ++ 60 :: x) = some l.length := by
        refine fnd_is (by simp) ?_ ?_
        · unfold Occ; rw [List.drop_left]; exact ⟨x, rfl⟩
        · intro j hj ho
          exact fnd_none hf j (by omega) (occ_less (by simp; omega) ho)
      rw [hf2]
      show charsF (l ++ 60 :: x) l.length = charsF l l.length
      unfold charsF
      rw [List.take_left, List.take_length]
theorem drop_ne_nil {L : List Int} {a : Nat} (ha : a < L.length) : L.drop a ≠ [] := fun e => by
  have := congrArg List.length e
  rw [List.length_drop, List.length_nil] at this
  omega
theorem nx_ext {L : List Int} (x : List Int) {a : Nat} (ha : a < L.length) (h : (nx L a).2.2 = 0) : nx (L ++ 60 :: x) a = nx L a := by
  unfold nx at h ⊢
  rw [List.drop_append_of_le_length (by omega)]
  exact front_ext _ _ x (drop_ne_nil ha) h
/-- The first bytes of a declaration. -/
def wDecl : List Int := [60, 63, 120, 109, 108]
theorem inst_z {m : List Int} (h : declW m = false) : instR true m = instR false m := by unfold instR; simp [h]
theorem front_z {l : List Int} (h : wDecl.isPrefixOf l = false) : frontF true false l = frontF false false l := by
  unfold frontF
  by_cases hl : l = []
  · rw [if_pos hl, if_pos hl]
  rw [if_neg hl, if_neg hl]
  by_cases hc : l.getD 0 0 = 60
  · rw [if_pos hc, if_pos hc]
    have key : bInst.isPrefixOf l = true → span 2 eInst (instR true) l = span 2 eInst (instR false) l := fun hi => by
      unfold span
      cases fnd eInst (l.drop 2) with
      | none => rfl
      | some n =>
        have hq : declW ((l.drop 2).take n) = false := by
          cases hq : declW ((l.drop 2).take n) with
          | false => rfl
          | true =>
            exfalso
            unfold declW at hq
            rw [Bool.and_eq_true] at hq
            obtain ⟨t, ht⟩ := (List.isPrefixOf_iff_prefix.1 hq.1).trans (List.take_prefix n (l.drop 2))
            obtain ⟨t2, ht2⟩ := List.isPrefixOf_iff_prefix.1 hi
            have e : l.drop 2 = t2 := by rw [← ht2]; rfl
            have : wDecl.isPrefixOf l = true := by
              rw [List.isPrefixOf_iff_prefix]
              exact ⟨t, by rw [← ht2, ← e, ← ht]; rfl⟩
            rw [h] at this
            cases this
        show fin 2 n 2 (instR true) (l.drop 2) = fin 2 n 2 (instR false) (l.drop 2)
        unfold fin
        rw [inst_z hq]
    unfold markF
    by_cases c1 : bCdata.isPrefixOf l = true
    · rw [if_pos c1, if_pos c1]
    rw [if_neg c1, if_neg c1]
    by_cases c2 : bComm.isPrefixOf l = true
    · rw [if_pos c2, if_pos c2]
    rw [if_neg c2, if_neg c2]
    by_cases c3 : bInst.isPrefixOf l = true
    · rw [if_pos c3, if_pos c3]; exact key c3
    rw [if_neg c3, if_neg c3]
  · rw [if_neg hc, if_neg hc]
theorem nx_in {P L : List Int} (x : List Int) {a : Nat} (hP : P ≠ []) (hd : wDecl.isPrefixOf L = false) (ha : a < L.length) (h : (nx L a).2.2 = 0) : nx (P ++ (L ++ 60 :: x)) (P.length + a) = nx L a := by
  have hne := drop_ne_nil ha
  have hp := List.length_pos_iff.2 hP
  unfold nx at h ⊢
  rw [show decide (P.length + a = 0) = false from decide_eq_false (by omega), ← List.drop_drop, List.drop_left, List.drop_append_of_le_length (by omega)]
  by_cases h0 : a = 0
  · subst h0
    rw [show decide ((0 : Nat) = 0) = true from rfl, List.drop_zero] at h ⊢
    rw [List.drop_zero] at hne
    rw [front_z hd] at h ⊢
    exact front_ext false L x hne h
  · rw [decide_eq_false h0] at h ⊢
    exact front_ext false _ x hne h
/-- The end of a document that is taken. -/
theorem last_ok {s : St} {t : Tok} (k6 : t.kind = 6) (h : (takeF s t).2.2 = 0) : Live s ∧ s.op = [] ∧ s.root = true ∧ takeF s t = ({ s with over := true }, [], 0) := by
  unfold takeF at h ⊢
  by_cases c1 : s.over = true
  · rw [if_pos c1] at h; exact absurd h (show ¬ ((15 : Int) = 0) by decide)
  rw [if_neg c1] at h ⊢
  by_cases c2 : s.err ≠ 0
  · rw [if_pos c2] at h; exact absurd h c2
  rw [if_neg c2] at h ⊢
  have hl : Live s := ⟨by simpa using c1, Decidable.not_not.1 c2⟩
  unfold readT at h ⊢
  rw [if_neg (by omega), if_neg (by omega), if_neg (by omega), if_pos k6] at h ⊢
  unfold lastT at h ⊢
  by_cases c3 : s.op ≠ []
  · rw [if_pos c3] at h; exact absurd h (by rw [bad_e]; decide)
  rw [if_neg c3] at h ⊢
  by_cases c4 : s.root = false
  · rw [if_pos c4] at h; exact absurd h (by rw [bad_e]; decide)
  rw [if_neg c4]
  exact ⟨hl, Decidable.not_not.1 c3, by simpa using c4, rfl⟩
/-- A second root is one too many. -/
theorem ev_two {L : List Int} (x : List Int) {tk : Tk} {n : Nat} (hk : tk.kind = 1) (hx : ∀ z, frontF z false (60 :: x) = (tk, n, 0)) :
    ∀ (d a : Nat) (s : St) (out : List Ev), L.length - a ≤ d → a ≤ L.length → (evR L a s out).2.2 = 0 → (evR (L ++ 60 :: x) a s out).2 = (L.length, 11)
  | d, a, s, out, hd, ha, h => by
    have hlen : (L ++ 60 :: x).length = L.length + (x.length + 1) := by simp
    by_cases c1 : (nx L a).2.2 = 0
    · by_cases c2 : (takeF s (tokF (nx L a).1)).2.2 = 0
      · by_cases c3 : L.length ≤ a
        · have k6 : (nx L a).1.kind = 6 := (nx_kind L a c1).2 c3
          obtain ⟨hl, ho, hr, _⟩ := last_ok (t := tokF (nx L a).1) k6 c2
          obtain rfl : a = L.length := by omega
          have hn : nx (L ++ 60 :: x) L.length = (tk, n, 0) := by
            unfold nx
            rw [List.drop_left]
            exact hx _
          have ht : takeF s (tokF tk) = bad s 11 := by
            rw [take_read hl]
            unfold readT
            rw [if_pos (show (tokF tk).kind = 1 from hk)]
            unfold startT
            rw [if_pos ⟨hr, ho⟩]
          rw [ev_bad out (by omega) (by rw [hn]) (by rw [hn, ht, bad_e]; decide), hn, ht]
          rfl
        · have hn := nx_ext x (by omega : a < L.length) c1
          have hs := (nx_fit L a (by omega)).size c1
          rw [List.length_drop] at hs
          rw [ev_go out (by omega) c1 c2] at h
          rw [ev_go out (by omega) (by rw [hn]; exact c1) (by rw [hn]; exact c2), hn]
          cases d with
          | zero => omega
          | succ d => exact ev_two x hk hx d _ _ _ (by omega) (by omega) h
      · rw [ev_bad out ha c1 c2] at h
        exact absurd h c2
    · rw [ev_err s out ha c1] at h
      exact absurd h c1
/-- A reader of a document, and one of the document within a new root. -/
structure Sim (nm : ByteArray) (O : List Ev) (s s' : St) (out out' : List Ev) : Prop where
  op : s'.op = (nm, bind0) :: s.op
  lv' : Live s'
  rt : s'.root = true
  r0 : s.root = false → s.op = [] ∧ out = [] ∧ out' = O
  r1 : s.root = true → ∃ u, out' = O ++ (toldF u ++ out)
  wt : s.op ≠ [] → s'.wait = s.wait
  w0 : s.op = [] → s.wait.size = 0
theorem told_nil {u : ByteArray} (h : u.size = 0) : toldF u = [] := by unfold toldF; rw [if_pos h]
theorem sim_told {nm : ByteArray} {O : List Ev} {s s' : St} {out out' : List Ev} (h : Sim nm O s s' out out') (hr : ¬ (s.root = true ∧ s.op = [])) (X : List Ev) : ∃ u, out' ++ (toldF s'.wait ++ X) = O ++ (toldF u ++ (out ++ (toldF s.wait ++ X))) := by
  cases hroot : s.root
  · obtain ⟨e1, e2, e3⟩ := h.r0 hroot
    exact ⟨s'.wait, by rw [e3, e2, told_nil (h.w0 e1)]; rfl⟩
  · obtain ⟨u, hu⟩ := h.r1 hroot
    have ho : s.op ≠ [] := fun e => hr ⟨hroot, e⟩
    exact ⟨u, by rw [hu, h.wt ho]; simp only [List.append_assoc]⟩
theorem last_in {nm : ByteArray} {l : List (ByteArray × List Pr)} (h : l ≠ []) : ((nm, bind0) :: l).getLast? = l.getLast? := by
  cases l with
  | nil => exact absurd rfl h
  | cons a b => rw [List.getLast?_cons_cons]
theorem scp_in {nm : ByteArray} {s s' : St} (h : s'.op = (nm, bind0) :: s.op) : scpF s' = scpF s := by
  unfold scpF
  rw [h]
  by_cases c : s.op = []
  · rw [c]; rfl
  · rw [last_in c]
theorem opened_err (s : St) (t : Tok) (nm : ByteArray) (W : List Pr) (n : Pr) (f : List Tr) : (opened s t nm W n f).2.2 = 0 := by unfold opened; split <;> rfl
theorem sim_step {nm : ByteArray} {O : List Ev} {s s' : St} {out out' : List Ev} {t : Tok} (h : Sim nm O s s' out out') (hk : t.kind ≠ 6) (h0 : (takeF s t).2.2 = 0) :
    (takeF s' t).2.2 = 13 ∨ ((takeF s' t).2.2 = 0 ∧ Sim nm O (takeF s t).1 (takeF s' t).1 (out ++ (takeF s t).2.1) (out' ++ (takeF s' t).2.1)) := by
  have hne : s'.op ≠ [] := by rw [h.op]; simp
  have hlv : Live s := by
    unfold takeF at h0
    by_cases c1 : s.over = true
    · rw [if_pos c1] at h0; exact absurd h0 (show ¬ ((15 : Int) = 0) by decide)
    rw [if_neg c1] at h0
    by_cases c2 : s.err ≠ 0
    · rw [if_pos c2] at h0; exact absurd h0 c2
    exact ⟨by simpa using c1, Decidable.not_not.1 c2⟩
  rw [take_read hlv] at h0 ⊢
  rw [take_read h.lv']
  unfold readT at h0 ⊢
  by_cases k1 : t.kind = 1
  · rw [if_pos k1] at h0 ⊢
    rw [if_pos k1]
    obtain ⟨a1, a2, W, n, f, a3, a4, a5⟩ := start_ok h0
    have hs' : startT s' t = enterT s' t (Tg.parF t.text).2.1 (.ok (W, n, f)) := by
      unfold startT
      rw [if_neg (fun e => hne e.2), if_neg (Decidable.not_not.2 a2), scp_in h.op, a3]
    rw [hs', a5]
    show ((if 64 ≤ s'.op.length then bad s' 13 else opened s' t (Tg.parF t.text).2.1 W n f)).2.2 = 13 ∨ _
    by_cases c : 64 ≤ s'.op.length
    · left
      rw [if_pos c]
      rfl
    right
    have he : enterT s' t (Tg.parF t.text).2.1 (.ok (W, n, f)) = opened s' t (Tg.parF t.text).2.1 W n f := by
      show (if 64 ≤ s'.op.length then _ else _) = _
      rw [if_neg c]
    rw [he]
    refine ⟨opened_err _ _ _ _ _ _, ?_⟩
    unfold opened
    by_cases ce : t.empty = true
    · rw [if_pos ce, if_pos ce]
      refine ⟨h.op, h.lv', rfl, (fun e => by cases e), fun _ => ?_, fun _ => rfl, fun _ => rfl⟩
      exact sim_told h a1 _
    · rw [if_neg ce, if_neg ce]
      refine ⟨by show s'.op ++ _ = _ :: (s.op ++ _); rw [h.op]; rfl, h.lv', rfl, (fun e => by cases e), fun _ => ?_, fun _ => rfl, fun _ => rfl⟩
      exact sim_told h a1 _
  rw [if_neg k1] at h0 ⊢
  rw [if_neg k1]
  by_cases k2 : t.kind = 2
  · rw [if_pos k2] at h0 ⊢
    rw [if_pos k2]
    right
    unfold endT at h0 ⊢
    by_cases c3 : inner s = some t.text
    · have hop : s.op ≠ [] := getLast_map c3
      have hr : s.root = true := by
        cases hroot : s.root
        · exact absurd (h.r0 hroot).1 hop
        · rfl
      have c4 : inner s' = some t.text := by unfold inner at c3 ⊢; rw [h.op, last_in hop]; exact c3
      rw [if_pos c3, if_pos c4]
      refine ⟨rfl, by show s'.op.dropLast = _ :: s.op.dropLast; rw [h.op, List.dropLast_cons_of_ne_nil hop], h.lv', h.rt, fun e => ?_, fun _ => ?_, fun _ => rfl, fun _ => rfl⟩
      · have e' : s.root = false := e
        rw [hr] at e'
        cases e'
      · exact sim_told h (fun e => hop e.2) _
    · rw [if_neg c3] at h0; exact absurd h0 (by rw [bad_e]; decide)
  rw [if_neg k2] at h0 ⊢
  rw [if_neg k2]
  by_cases k3 : t.kind = 3
  · rw [if_pos k3] at h0 ⊢
    rw [if_pos k3]
    right
    unfold charsT at h0 ⊢
    rw [if_pos hne]
    by_cases c3 : s.op ≠ []
    · rw [if_pos c3]
      refine ⟨rfl, h.op, h.lv', h.rt, fun e => absurd (h.r0 e).1 c3, fun e => ?_, fun _ => ?_, fun e => absurd e c3⟩
      · obtain ⟨u, hu⟩ := h.r1 e
        exact ⟨u, by simpa using hu⟩
      · show s'.wait ++ t.text = s.wait ++ t.text
        rw [h.wt c3]
    · rw [if_neg c3] at h0 ⊢
      by_cases c4 : t.blank = true
      · rw [if_pos c4]
        refine ⟨rfl, h.op, h.lv', h.rt, fun e => ?_, fun e => ?_, fun e => absurd e c3, h.w0⟩
        · obtain ⟨e1, e2, e3⟩ := h.r0 e
          exact ⟨e1, by rw [e2]; rfl, by rw [e3]; simp⟩
        · obtain ⟨u, hu⟩ := h.r1 e
          exact ⟨u, by simpa using hu⟩
      · rw [if_neg c4] at h0; exact absurd h0 (by rw [bad_e]; decide)
  rw [if_neg k3, if_neg hk] at h0 ⊢
  rw [if_neg k3, if_neg hk]
  exact .inr ⟨rfl, by simpa using h⟩
/-- A document within a new root, up to its end. -/
theorem ev_nest {nm : ByteArray} {O : List Ev} {P L x : List Int} (hP : P ≠ []) (hD : wDecl.isPrefixOf L = false) :
    ∀ (d a : Nat) (s s' : St) (out out' : List Ev), L.length - a ≤ d → a ≤ L.length → Sim nm O s s' out out' → (evR L a s out).2.2 = 0 →
      (evR (P ++ (L ++ 60 :: x)) (P.length + a) s' out').2.2 = 13 ∨ ∃ u s2, evR (P ++ (L ++ 60 :: x)) (P.length + a) s' out' = evR (P ++ (L ++ 60 :: x)) (P.length + L.length) s2 (O ++ (toldF u ++ (evR L a s out).1)) ∧ s2.op = [(nm, bind0)] ∧ Live s2 ∧ s2.root = true
  | d, a, s, s', out, out', hd, ha, hS, h => by
    have hlen : (P ++ (L ++ 60 :: x)).length = P.length + (L.length + (x.length + 1)) := by simp
    by_cases c1 : (nx L a).2.2 = 0
    · by_cases c2 : (takeF s (tokF (nx L a).1)).2.2 = 0
      · by_cases c3 : L.length ≤ a
        · have k6 : (nx L a).1.kind = 6 := (nx_kind L a c1).2 c3
          obtain ⟨hl, ho, hr, ht⟩ := last_ok (t := tokF (nx L a).1) k6 c2
          obtain rfl : a = L.length := by omega
          obtain ⟨u, hu⟩ := hS.r1 hr
          right
          refine ⟨u, s', ?_, by rw [hS.op, ho], hS.lv', hS.rt⟩
          rw [ev_last (L := L) out rfl c1 c2, ht, hu]
          simp
        · have hn := nx_in x hP hD (by omega : a < L.length) c1
          have hs := (nx_fit L a (by omega)).size c1
          rw [List.length_drop] at hs
          have hk : (tokF (nx L a).1).kind ≠ 6 := fun e => by have := (nx_kind L a c1).1 e; omega
          rw [ev_go out (by omega) c1 c2] at h ⊢
          rcases sim_step hS hk c2 with g | ⟨g, hS2⟩
          · left
            rw [ev_bad out' (by omega) (by rw [hn]; exact c1) (by rw [hn, g]; decide), hn]
            exact g
          · rw [ev_go out' (by omega) (by rw [hn]; exact c1) (by rw [hn]; exact g), hn, Nat.add_assoc]
            cases d with
            | zero => omega
            | succ d => exact ev_nest hP hD d _ _ _ _ _ (by omega) (by omega) hS2 h
      · rw [ev_bad out ha c1 c2] at h
        exact absurd h c2
    · rw [ev_err s out ha c1] at h
      exact absurd h c1
end Go.Proofs.YtnomcldpbkinmaaGreatDoor.Wl

/- The walk of WellTexts. -/
set_option linter.unusedSimpArgs false
set_option linter.unusedVariables false
namespace Go.Proofs.YtnomcldpbkinmaaGreatDoor.Wl
open Go.RowKit

def Pls (s : ByteArray) (k : Nat) : Prop := ∀ j, j < k → PlB ((byts s).getD j 0)
theorem pls_next {s : ByteArray} {k : Nat} (h : Pls s k) (h2 : PlB ((byts s).getD k 0)) : Pls s (k + 1) := fun j hj => by
  by_cases e : j = k
  · rw [e]; exact h2
  · exact h j (by omega)
theorem pls_all {s : ByteArray} {k : Nat} (h : Pls s k) (hk : s.size ≤ k) : ∀ c ∈ byts s, PlB c := fun c hc => by
  obtain ⟨j, hj, he⟩ := List.getElem_of_mem hc
  have := h j (by rw [byts_len] at hj; omega)
  rw [List.getD_eq_getElem?_getD, List.getElem?_eq_getElem hj] at this
  rw [← he]
  exact this
def TxRel (s : ByteArray) (W : World) (iv : Value) (wr : World) : Prop := wr = W ∧ ∃ k : Nat, iv = .int .i64 (k : Int) ∧ k ≤ s.size ∧ Hid (Pls s k)
/-- The events of a text with something between. -/
theorem tx_ev (a b : ByteArray) (K : Nat) (hK : K < 5) (lit T : ByteArray) (hl : btw K = lit) (hT : a ++ mid K ++ b = T) (ha : ∀ c ∈ byts a, PlB c) (hb : ∀ c ∈ byts b, PlB c) (sa : a.size ≤ 100) (sb : b.size ≤ 100) (W : World) (hG : Gl W) :
    Calls Tryz.prog 10 #[.string (⟨#[60, 97, 62]⟩ ++ a ++ lit ++ b ++ ⟨#[60, 47, 97, 62]⟩)] W fun e w' => ∃ (n : Nat) (A : Option Addr) (c : Nat), e = .returned (.tuple #[.slice A ([Ev.opn (Nz.em, la) []] ++ (toldF T ++ [Ev.cls])).length c, .int .i64 (n : Int), .int .i64 0]) ∧ RdV w' A ([.opn (Nz.em, la) []] ++ (toldF T ++ [.cls])) ∧ Below W.heap.size W w' := by
  obtain ⟨n, hn⟩ := texts_of a b ha hb K hK
  rw [hT, hl] at hn
  have hls : lit.size ≤ 13 := by
    rw [← hl]
    have h5 : K = 0 ∨ K = 1 ∨ K = 2 ∨ K = 3 ∨ K = 4 := by omega
    rcases h5 with rfl | rfl | rfl | rfl | rfl <;> decide
  have hs : (⟨#[60, 97, 62]⟩ ++ a ++ lit ++ b ++ ⟨#[60, 47, 97, 62]⟩ : ByteArray).size ≤ 5000 := by
    rw [size_cat, size_cat, size_cat, size_cat]
    have e1 : (⟨#[60, 97, 62]⟩ : ByteArray).size = 3 := rfl
    have e2 : (⟨#[60, 47, 97, 62]⟩ : ByteArray).size = 4 := rfl
    omega
  refine (events_any _ W hG hs).mono ?_
  rintro e w' ⟨v, rfl, h1, h2⟩
  rw [hn] at h1 ⊢
  obtain ⟨A, c, rfl, hr⟩ := h1.rdv
  exact ⟨n, A, c, rfl, hr, h2⟩
theorem tx_ev0 (a b : ByteArray) (K : Nat) (hK : K < 5) (lit T : ByteArray) (hl : btw K = lit) (hT : a ++ mid K ++ b = T) (h0 : T.size = 0) (ha : ∀ c ∈ byts a, PlB c) (hb : ∀ c ∈ byts b, PlB c) (sa : a.size ≤ 100) (sb : b.size ≤ 100) (W : World) (hG : Gl W) :
    Calls Tryz.prog 10 #[.string (⟨#[60, 97, 62]⟩ ++ a ++ lit ++ b ++ ⟨#[60, 47, 97, 62]⟩)] W fun e w' => ∃ (n : Nat) (A : Option Addr) (c : Nat), e = .returned (.tuple #[.slice A 2 c, .int .i64 (n : Int), .int .i64 0]) ∧ Below W.heap.size W w' := by
  refine (tx_ev a b K hK lit T hl hT ha hb sa sb W hG).mono ?_
  rintro e w' ⟨n, A, c, rfl, _, h2⟩
  rw [told_nil h0]
  exact ⟨n, A, c, rfl, h2⟩
theorem tx_ev1 (a b : ByteArray) (K : Nat) (hK : K < 5) (lit T : ByteArray) (hl : btw K = lit) (hT : a ++ mid K ++ b = T) (h0 : T.size ≠ 0) (ha : ∀ c ∈ byts a, PlB c) (hb : ∀ c ∈ byts b, PlB c) (sa : a.size ≤ 100) (sb : b.size ≤ 100) (W : World) (hG : Gl W) :
    Calls Tryz.prog 10 #[.string (⟨#[60, 97, 62]⟩ ++ a ++ lit ++ b ++ ⟨#[60, 47, 97, 62]⟩)] W fun e w' => ∃ (n g c : Nat), e = .returned (.tuple #[.slice (some ⟨g, 0, none⟩) 3 c, .int .i64 (n : Int), .int .i64 0]) ∧ w'.cell? ⟨g, 9, none⟩ = some (.string T) ∧ Below W.heap.size W w' := by
  refine (tx_ev a b K hK lit T hl hT ha hb sa sb W hG).mono ?_
  rintro e w' ⟨n, A, c, rfl, hr, h2⟩
  have ht : toldF T = [.txt T] := by unfold toldF; rw [if_neg h0]
  rw [ht] at hr ⊢
  obtain ⟨g, rfl, _, _, _, _, d⟩ := hr 1 (.txt T) rfl
  exact ⟨n, g, c, rfl, d, h2⟩
set_option maxHeartbeats 8000000 in
set_option maxRecDepth 100000 in
theorem texts_law (a b : ByteArray) (c : Int) (w : World) (hG : Gl w) (ha : a.size ≤ 100) (hb : b.size ≤ 100) (c0 : 0 ≤ c) (c1 : c ≤ 255) : Calls Tryz.prog 7 #[.string a, .string b, .int .u8 c] w fun e w' => e = .returned (.bool true) ∧ Below w.heap.size w w' := by
  have CA := Lib.hid (awake_any w hG)
  have HG := Lib.hid hG
  have d6 : ¬ (100 : Int) < (a.size : Int) := by omega
  have d7 : ¬ (100 : Int) < (b.size : Int) := by omega
  clear hG
  go_enter Tryz.func7, Tryz.ntmps7
  go_wp2_with fail
  refine CA.out.mono ?_
  rintro e w1 ⟨rfl, b1⟩
  have B1 := Lib.hid b1
  have G1 := Lib.hid (HG.out.after b1)
  clear CA b1 HG
  go_wp2_with fail
  go_loopw [7] (fun iv wr => TxRel a w1 iv wr) (fun iv _ => a.size - (intOf iv).toNat)
  case atStart => exact ⟨rfl, 0, rfl, Nat.zero_le _, Lib.hid fun j hj => absurd hj (Nat.not_lt_zero _)⟩
  case round =>
    obtain ⟨rfl, k, rfl, hk, hP⟩ := hrel
    by_cases hlt : k < a.size
    · have d1 : (k : Int) < (a.size : Int) := by omega
      have d0 : (0 : Int) ≤ (k : Int) := by omega
      have hbe := at_byt a k hlt
      have HP2 : Hid (PlB ((byts a).getD k 0) → Pls a (k + 1)) := Lib.hid (pls_next hP.out)
      generalize (byts a).getD k 0 = e at *
      by_cases c1 : e < 32
      · have t1 : decide (e < 32) = true := decide_eq_true c1
        go_wp2
        go_ret
        exact ⟨rfl, B1.out⟩
      have t1 : decide (e < 32) = false := decide_eq_false c1
      by_cases c2 : 126 < e
      · have t2 : decide (126 < e) = true := decide_eq_true c2
        go_wp2
        go_ret
        exact ⟨rfl, B1.out⟩
      have t2 : decide (126 < e) = false := decide_eq_false c2
      by_cases c3 : e = 60
      · have q3 : (e == 60) = true := beq_iff_eq.2 c3
        clear c3
        go_wp2
        go_ret
        exact ⟨rfl, B1.out⟩
      have q3 : (e == 60) = false := beq_eq_false_iff_ne.2 c3
      by_cases c4 : e = 62
      · have q4 : (e == 62) = true := beq_iff_eq.2 c4
        clear c3 c4
        go_wp2
        go_ret
        exact ⟨rfl, B1.out⟩
      have q4 : (e == 62) = false := beq_eq_false_iff_ne.2 c4
      by_cases c5 : e = 38
      · have q5 : (e == 38) = true := beq_iff_eq.2 c5
        clear c3 c4 c5
        go_wp2
        go_ret
        exact ⟨rfl, B1.out⟩
      have q5 : (e == 38) = false := beq_eq_false_iff_ne.2 c5
      have HP3 := Lib.hid (HP2.out (by unfold PlB; omega))
      clear c3 c4 c5 HP2 hP
      go_wp2
      go_roundw
      case rel => exact ⟨rfl, k + 1, by go_num, by omega, HP3⟩
      case measure => simp only [intOf]; omega
    · have d1 : ¬ (k : Int) < (a.size : Int) := by omega
      have HPa : Hid (∀ c ∈ byts a, PlB c) := Lib.hid (pls_all hP.out (by omega))
      clear hP
      go_wp2_with fail
      go_loopw [8] (fun iv wq => TxRel b wr iv wq) (fun iv _ => b.size - (intOf iv).toNat)
      case atStart => exact ⟨rfl, 0, rfl, Nat.zero_le _, Lib.hid fun j hj => absurd hj (Nat.not_lt_zero _)⟩
      case round =>
        obtain ⟨rfl, k, rfl, hk, hP⟩ := hrel
        by_cases hlt : k < b.size
        · have d1 : (k : Int) < (b.size : Int) := by omega
          have d0 : (0 : Int) ≤ (k : Int) := by omega
          have hbe := at_byt b k hlt
          have HP2 : Hid (PlB ((byts b).getD k 0) → Pls b (k + 1)) := Lib.hid (pls_next hP.out)
          generalize (byts b).getD k 0 = e at *
          by_cases c1 : e < 32
          · have t1 : decide (e < 32) = true := decide_eq_true c1
            go_wp2
            go_ret
            exact ⟨rfl, B1.out⟩
          have t1 : decide (e < 32) = false := decide_eq_false c1
          by_cases c2 : 126 < e
          · have t2 : decide (126 < e) = true := decide_eq_true c2
            go_wp2
            go_ret
            exact ⟨rfl, B1.out⟩
          have t2 : decide (126 < e) = false := decide_eq_false c2
          by_cases c3 : e = 60
          · have q3 : (e == 60) = true := beq_iff_eq.2 c3
            clear c3
            go_wp2
            go_ret
            exact ⟨rfl, B1.out⟩
          have q3 : (e == 60) = false := beq_eq_false_iff_ne.2 c3
          by_cases c4 : e = 62
          · have q4 : (e == 62) = true := beq_iff_eq.2 c4
            clear c3 c4
            go_wp2
            go_ret
            exact ⟨rfl, B1.out⟩
          have q4 : (e == 62) = false := beq_eq_false_iff_ne.2 c4
          by_cases c5 : e = 38
          · have q5 : (e == 38) = true := beq_iff_eq.2 c5
            clear c3 c4 c5
            go_wp2
            go_ret
            exact ⟨rfl, B1.out⟩
          have q5 : (e == 38) = false := beq_eq_false_iff_ne.2 c5
          have HP3 := Lib.hid (HP2.out (by unfold PlB; omega))
          clear c3 c4 c5 HP2 hP
          go_wp2
          go_roundw
          case rel => exact ⟨rfl, k + 1, by go_num, by omega, HP3⟩
          case measure => simp only [intOf]; omega
        · have d1 : ¬ (k : Int) < (b.size : Int) := by omega
          have HPb : Hid (∀ c ∈ byts b, PlB c) := Lib.hid (pls_all hP.out (by omega))
          clear hP
          have GA := Lib.hid (G1.out.alloc (.cells #[.string ⟨#[60, 33, 45, 45, 99, 45, 45, 62]⟩, .string ⟨#[60, 63, 112, 32, 113, 63, 62]⟩, .string ⟨#[60, 33, 91, 67, 68, 65, 84, 65, 91, 93, 93, 62]⟩, .string ⟨#[]⟩, .string ⟨#[60, 33, 91, 67, 68, 65, 84, 65, 91, 60, 93, 93, 62]⟩] 9))
          have BA := Lib.hid (B1.out.alloc B1.out.size (.cells #[.string ⟨#[60, 33, 45, 45, 99, 45, 45, 62]⟩, .string ⟨#[60, 63, 112, 32, 113, 63, 62]⟩, .string ⟨#[60, 33, 91, 67, 68, 65, 84, 65, 91, 93, 93, 62]⟩, .string ⟨#[]⟩, .string ⟨#[60, 33, 91, 67, 68, 65, 84, 65, 91, 60, 93, 93, 62]⟩] 9))
          obtain hc | hc | hc | hc | hc : c % 5 = 0 ∨ c % 5 = 1 ∨ c % 5 = 2 ∨ c % 5 = 3 ∨ c % 5 = 4 := by omega
          · by_cases h0 : (a ++ b).size = 0
            · have CE := Lib.hid (tx_ev0 a b 0 (by omega) ⟨#[60, 33, 45, 45, 99, 45, 45, 62]⟩ (a ++ b) rfl (by show a ++ Nz.em ++ b = a ++ b; rw [cat_em]) h0 HPa.out HPb.out ha hb _ GA.out)
              have q : (a ++ b).toList.isEmpty = true := (Nz.isE _).trans (decide_eq_true h0)
              clear h0
              go_wp2_with fail
              refine CE.out.mono ?_
              rintro e w2 ⟨n, A, c2, rfl, hb2⟩
              have HB := Lib.hid (BA.out.trans (hb2.mono BA.out.size))
              clear hb2 CE GA BA
              go_wp2
              go_ret
              exact ⟨rfl, HB.out⟩
            · have CE := Lib.hid (tx_ev1 a b 0 (by omega) ⟨#[60, 33, 45, 45, 99, 45, 45, 62]⟩ (a ++ b) rfl (by show a ++ Nz.em ++ b = a ++ b; rw [cat_em]) h0 HPa.out HPb.out ha hb _ GA.out)
              have q : (a ++ b).toList.isEmpty = false := (Nz.isE _).trans (decide_eq_false h0)
              clear h0
              go_wp2_with fail
              refine CE.out.mono ?_
              rintro e w2 ⟨n, g, c2, rfl, d9, hb2⟩
              have HB := Lib.hid (BA.out.trans (hb2.mono BA.out.size))
              clear hb2 CE GA BA
              go_wp2
              go_ret
              exact ⟨rfl, HB.out⟩
          · by_cases h0 : (a ++ b).size = 0
            · have CE := Lib.hid (tx_ev0 a b 1 (by omega) ⟨#[60, 63, 112, 32, 113, 63, 62]⟩ (a ++ b) rfl (by show a ++ Nz.em ++ b = a ++ b; rw [cat_em]) h0 HPa.out HPb.out ha hb _ GA.out)
              have q : (a ++ b).toList.isEmpty = true := (Nz.isE _).trans (decide_eq_true h0)
              clear h0
              go_wp2_with fail
              refine CE.out.mono ?_
              rintro e w2 ⟨n, A, c2, rfl, hb2⟩
              have HB := Lib.hid (BA.out.trans (hb2.mono BA.out.size))
              clear hb2 CE GA BA
              go_wp2
              go_ret
              exact ⟨rfl, HB.out⟩
            · have CE := Lib.hid (tx_ev1 a b 1 (by omega) ⟨#[60, 63, 112, 32, 113, 63, 62]⟩ (a ++ b) rfl (by show a ++ Nz.em ++ b = a ++ b; rw [cat_em]) h0 HPa.out HPb.out ha hb _ GA.out)
              have q : (a ++ b).toList.isEmpty = false := (Nz.isE _).trans (decide_eq_false h0)
              clear h0
              go_wp2_with fail
              refine CE.out.mono ?_
              rintro e w2 ⟨n, g, c2, rfl, d9, hb2⟩
              have HB := Lib.hid (BA.out.trans (hb2.mono BA.out.size))
              clear hb2 CE GA BA
              go_wp2
              go_ret
              exact ⟨rfl, HB.out⟩
          · by_cases h0 : (a ++ b).size = 0
            · have CE := Lib.hid (tx_ev0 a b 2 (by omega) ⟨#[60, 33, 91, 67, 68, 65, 84, 65, 91, 93, 93, 62]⟩ (a ++ b) rfl (by show a ++ Nz.em ++ b = a ++ b; rw [cat_em]) h0 HPa.out HPb.out ha hb _ GA.out)
              have q : (a ++ b).toList.isEmpty = true := (Nz.isE _).trans (decide_eq_true h0)
              clear h0
              go_wp2_with fail
              refine CE.out.mono ?_
              rintro e w2 ⟨n, A, c2, rfl, hb2⟩
              have HB := Lib.hid (BA.out.trans (hb2.mono BA.out.size))
              clear hb2 CE GA BA
              go_wp2
              go_ret
              exact ⟨rfl, HB.out⟩
            · have CE := Lib.hid (tx_ev1 a b 2 (by omega) ⟨#[60, 33, 91, 67, 68, 65, 84, 65, 91, 93, 93, 62]⟩ (a ++ b) rfl (by show a ++ Nz.em ++ b = a ++ b; rw [cat_em]) h0 HPa.out HPb.out ha hb _ GA.out)
              have q : (a ++ b).toList.isEmpty = false := (Nz.isE _).trans (decide_eq_false h0)
              clear h0
              go_wp2_with fail
              refine CE.out.mono ?_
              rintro e w2 ⟨n, g, c2, rfl, d9, hb2⟩
              have HB := Lib.hid (BA.out.trans (hb2.mono BA.out.size))
              clear hb2 CE GA BA
              go_wp2
              go_ret
              exact ⟨rfl, HB.out⟩
          · by_cases h0 : (a ++ b).size = 0
            · have CE := Lib.hid (tx_ev0 a b 3 (by omega) ⟨#[]⟩ (a ++ b) rfl (by show a ++ Nz.em ++ b = a ++ b; rw [cat_em]) h0 HPa.out HPb.out ha hb _ GA.out)
              have q : (a ++ b).toList.isEmpty = true := (Nz.isE _).trans (decide_eq_true h0)
              clear h0
              go_wp2_with fail
              refine CE.out.mono ?_
              rintro e w2 ⟨n, A, c2, rfl, hb2⟩
              have HB := Lib.hid (BA.out.trans (hb2.mono BA.out.size))
              clear hb2 CE GA BA
              go_wp2
              go_ret
              exact ⟨rfl, HB.out⟩
            · have CE := Lib.hid (tx_ev1 a b 3 (by omega) ⟨#[]⟩ (a ++ b) rfl (by show a ++ Nz.em ++ b = a ++ b; rw [cat_em]) h0 HPa.out HPb.out ha hb _ GA.out)
              have q : (a ++ b).toList.isEmpty = false := (Nz.isE _).trans (decide_eq_false h0)
              clear h0
              go_wp2_with fail
              refine CE.out.mono ?_
              rintro e w2 ⟨n, g, c2, rfl, d9, hb2⟩
              have HB := Lib.hid (BA.out.trans (hb2.mono BA.out.size))
              clear hb2 CE GA BA
              go_wp2
              go_ret
              exact ⟨rfl, HB.out⟩
          · have h0 : (a ++ ⟨#[60]⟩ ++ b).size ≠ 0 := by rw [size_cat, size_cat]; show a.size + 1 + b.size ≠ 0; omega
            have CE := Lib.hid (tx_ev1 a b 4 (by omega) ⟨#[60, 33, 91, 67, 68, 65, 84, 65, 91, 60, 93, 93, 62]⟩ (a ++ ⟨#[60]⟩ ++ b) rfl rfl h0 HPa.out HPb.out ha hb _ GA.out)
            have q : (a ++ ⟨#[60]⟩ ++ b).toList.isEmpty = false := (Nz.isE _).trans (decide_eq_false h0)
            clear h0
            go_wp2_with fail
            refine CE.out.mono ?_
            rintro e w2 ⟨n, g, c2, rfl, d9, hb2⟩
            have HB := Lib.hid (BA.out.trans (hb2.mono BA.out.size))
            clear hb2 CE GA BA
            go_wp2
            go_ret
            exact ⟨rfl, HB.out⟩
end Go.Proofs.YtnomcldpbkinmaaGreatDoor.Wl

/- WellTexts, whole: long texts too. -/
set_option linter.unusedSimpArgs false
set_option linter.unusedVariables false
namespace Go.Proofs.YtnomcldpbkinmaaGreatDoor.Wl
open Go.RowKit

set_option maxHeartbeats 4000000 in
set_option maxRecDepth 100000 in
theorem texts_long (a b : ByteArray) (c : Int) (w : World) (hG : Gl w) (sa : a.size ≤ maxLen) (sb : b.size ≤ maxLen) (h : 100 < a.size ∨ 100 < b.size) : Calls Tryz.prog 7 #[.string a, .string b, .int .u8 c] w fun e w' => e = .returned (.bool true) ∧ Below w.heap.size w w' := by
  have CA := Lib.hid (awake_any w hG)
  have HG := Lib.hid hG
  clear hG
  unfold maxLen at sa sb
  by_cases ha : 100 < a.size
  · have d6 : (100 : Int) < (a.size : Int) := by omega
    clear h
    go_enter Tryz.func7, Tryz.ntmps7
    go_wp2_with fail
    refine CA.out.mono ?_
    rintro e w1 ⟨rfl, b1⟩
    have CA2 := Lib.hid (awake_any w1 (HG.out.after b1))
    have B1 := Lib.hid b1
    clear b1 CA
    go_wp2_with fail
    refine CA2.out.mono ?_
    rintro e w2 ⟨rfl, b2⟩
    have HB := Lib.hid (B1.out.trans (b2.mono B1.out.size))
    clear b2 CA2
    go_wp2
    go_ret
    exact ⟨rfl, HB.out⟩
  · have d6 : ¬ (100 : Int) < (a.size : Int) := by omega
    have d7 : (100 : Int) < (b.size : Int) := by omega
    clear h
    go_enter Tryz.func7, Tryz.ntmps7
    go_wp2_with fail
    refine CA.out.mono ?_
    rintro e w1 ⟨rfl, b1⟩
    have CA2 := Lib.hid (awake_any w1 (HG.out.after b1))
    have B1 := Lib.hid b1
    clear b1 CA
    go_wp2_with fail
    refine CA2.out.mono ?_
    rintro e w2 ⟨rfl, b2⟩
    have HB := Lib.hid (B1.out.trans (b2.mono B1.out.size))
    clear b2 CA2
    go_wp2
    go_ret
    exact ⟨rfl, HB.out⟩
theorem texts_top (a b : ByteArray) (c : Int) (w : World) (sa : a.size ≤ maxLen) (sb : b.size ≤ maxLen) (hc : (Lit.int .u8 c).wf = true) (hG : Gl w) : Calls Tryz.prog 7 #[.string a, .string b, .int .u8 c] w fun e w' => e = .returned (.bool true) ∧ Below w.heap.size w w' := by
  by_cases h : 100 < a.size ∨ 100 < b.size
  · exact texts_long a b c w hG sa sb h
  · have hb : 0 ≤ c ∧ c ≤ 255 := by
      have := hc
      simp [Lit.wf, IntKind.min, IntKind.max, IntKind.signed, IntKind.bits] at this
      omega
    exact texts_law a b c w hG (by omega) (by omega) hb.1 hb.2
end Go.Proofs.YtnomcldpbkinmaaGreatDoor.Wl

/- The walks of the document's Same and SameEvent (layer 7), at two that are the same. -/
set_option linter.unusedSimpArgs false
set_option linter.unusedVariables false
namespace Go.Proofs.YtnomcldpbkinmaaGreatDoor.Nz.Sc
open Go.RowKit

def SeRel (n : Nat) (c1 c2 : Value) (w : World) (i : Value) (wr : World) : Prop := ∃ k : Nat, i = .int .i64 k ∧ k ≤ n ∧ Hid (Below w.heap.size w wr) ∧ wr.cell? ⟨w.heap.size, 3, none⟩ = some c1 ∧ wr.cell? ⟨w.heap.size + 1, 3, none⟩ = some c2
set_option maxHeartbeats 4000000 in
set_option maxRecDepth 100000 in
theorem sev_any (kd : Int) (na nb tx : ByteArray) (f : List P3) (n : Nat) (A1 A2 : Option Addr) (k1 k2 : Nat) (w : World) (hn : n = f.length) (hl : n ≤ maxLen) (h1 : RdT w A1 f) (h2 : RdT w A2 f) :
    Calls Tryz.prog 24 #[.agg #[.int .i64 kd, .string na, .string nb, .slice A1 n k1, .string tx], .agg #[.int .i64 kd, .string na, .string nb, .slice A2 n k2, .string tx]] w fun e w' => e = .returned (.bool true) ∧ Below w.heap.size w w' := by
  unfold maxLen at hl
  have H1 := Lib.hid h1
  have H2 := Lib.hid h2
  have HN := Lib.hid hn
  have B1 := (Below.refl w.heap.size w).alloc (Nat.le_refl _) (.cells #[.int .i64 kd, .string na, .string nb, .slice A1 n k1, .string tx] 50)
  have HB := Lib.hid (B1.alloc B1.size (.cells #[.int .i64 kd, .string na, .string nb, .slice A2 n k2, .string tx] 50))
  have q1 : (na.toList == na.toList) = true := beq_self_eq_true _
  have q2 : (nb.toList == nb.toList) = true := beq_self_eq_true _
  have q3 : (tx.toList == tx.toList) = true := beq_self_eq_true _
  have q4 : (tx.toList != tx.toList) = false := bne_self_eq_false _
  clear h1 h2 hn B1
  go_enter Tryz.func24, Tryz.ntmps24
  go_wp2_with fail
  go_loopw [5] (fun i wr => SeRel n (.slice A1 n k1) (.slice A2 n k2) w i wr) (fun i _ => n - (intOf i).toNat)
  case atStart => exact ⟨0, rfl, Nat.zero_le _, HB, by simp, by simp⟩
  case round =>
    clear HB
    obtain ⟨k, rfl, hk, hB, g1, g2⟩ := hrel
    by_cases hlt : k < n
    · have hkl : k < f.length := by rw [← HN.out]; exact hlt
      obtain ⟨b1, o1, rfl, hb1, x0, x1, x2⟩ := (H1.out.keep hB.out) k _ (List.getElem?_eq_getElem hkl)
      obtain ⟨b2, o2, rfl, hb2, y0, y1, y2⟩ := (H2.out.keep hB.out) k _ (List.getElem?_eq_getElem hkl)
      have d1 : (k : Int) < (n : Int) := by omega
      have d0 : (0 : Int) ≤ (k : Int) := by omega
      generalize f[k] = t at *
      obtain ⟨⟨ta, tb⟩, tv⟩ := t
      dsimp only at x0 x1 x2 y0 y1 y2
      go_wp2_with fail
      go_quiet (fail)
      go_wp2
      go_roundw
      case rel => exact ⟨k + 1, by go_num, by omega, Lib.hid (below_drewN hB.out _), g1, g2⟩
      case measure => simp only [intOf]; omega
    · have d1 : ¬ (k : Int) < (n : Int) := by omega
      go_wp2_with fail
      go_ret
      exact ⟨rfl, hB.out⟩
end Go.Proofs.YtnomcldpbkinmaaGreatDoor.Nz.Sc
