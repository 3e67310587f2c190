/-
  Merged by program out of the texts WlTxt2, WlAwk, WlPre, WlTxl of one seat.
-/
import Derived.Test.YtnomcldpbkinmaaGreatDoorG33

/- Plain mathematics: the tokens of <a>, </a> and of what may stand between; the events of such a text. -/
set_option linter.unusedSimpArgs false
set_option linter.unusedVariables false
namespace Go.Proofs.YtnomcldpbkinmaaGreatDoor.Wl
open Go.RowKit

theorem tok_start (z : Bool) (r : List Int) : frontF z false ([60, 97, 62] ++ r) = (⟨1, [97], false, false⟩, 3, 0) := by cases z <;> kernel_rfl
theorem tok_comm (z : Bool) (r : List Int) : frontF z false ([60, 33, 45, 45, 99, 45, 45, 62] ++ r) = (⟨4, [99], false, false⟩, 8, 0) := by cases z <;> kernel_rfl
theorem tok_inst (z : Bool) (r : List Int) : frontF z false ([60, 63, 112, 32, 113, 63, 62] ++ r) = (⟨5, [112, 32, 113], false, false⟩, 7, 0) := by cases z <;> kernel_rfl
theorem tok_cd0 (z : Bool) (r : List Int) : frontF z false ([60, 33, 91, 67, 68, 65, 84, 65, 91, 93, 93, 62] ++ r) = (⟨3, [], false, false⟩, 12, 0) := by cases z <;> kernel_rfl
theorem tok_cd1 (z : Bool) (r : List Int) : frontF z false ([60, 33, 91, 67, 68, 65, 84, 65, 91, 60, 93, 93, 62] ++ r) = (⟨3, [60], false, false⟩, 13, 0) := by cases z <;> kernel_rfl
theorem tok_enda (z : Bool) (r : List Int) : frontF z false ([60, 47, 97, 62] ++ r) = (⟨2, [97], false, false⟩, 4, 0) := by cases z <;> kernel_rfl
theorem tok_endb (z : Bool) (r : List Int) : frontF z false ([60, 47, 98, 62] ++ r) = (⟨2, [98], false, false⟩, 4, 0) := by cases z <;> kernel_rfl
theorem str97 : strOfNums [97] = ⟨#[97]⟩ := by kernel_rfl
theorem par_a : Tg.parF ⟨#[97]⟩ = (0, ⟨#[97]⟩, []) := by kernel_rfl
def la : ByteArray := ⟨#[97]⟩
/-- A reader in <a>, with a text that waits. -/
def stA (u : ByteArray) : St := ⟨[(la, bind0)], u, true, false, 0⟩
theorem ent_a : Nz.Sc.entF bind0 la [] = .ok (bind0, (Nz.em, la), []) := by kernel_rfl
theorem take_a : takeF st0 (tokF ⟨1, [97], false, false⟩) = (stA Nz.em, [.opn (Nz.em, la) []], 0) := by
  rw [take_read ⟨rfl, rfl⟩]
  show startT st0 ⟨1, strOfNums [97], false, false⟩ = _
  rw [str97]
  unfold startT
  rw [if_neg (by rintro ⟨h, _⟩; cases h), par_a, if_neg (by decide)]
  show enterT st0 _ la (Nz.Sc.entF bind0 la []) = _
  rw [ent_a]
  rfl
theorem take_enda (u : ByteArray) : takeF (stA u) (tokF ⟨2, [97], false, false⟩) = (⟨[], Nz.em, true, false, 0⟩, toldF u ++ [.cls], 0) := by
  rw [take_read ⟨rfl, rfl⟩]
  show endT (stA u) ⟨2, strOfNums [97], false, false⟩ = _
  rw [str97]
  unfold endT
  rw [if_pos (show inner (stA u) = some (⟨#[97]⟩ : ByteArray) from rfl)]
  rfl
theorem take_endb (u : ByteArray) : (takeF (stA u) (tokF ⟨2, [98], false, false⟩)).2.2 = 10 := by
  rw [take_read ⟨rfl, rfl⟩]
  show (endT (stA u) ⟨2, strOfNums [98], false, false⟩).2.2 = _
  unfold endT
  rw [if_neg]
  · rfl
  · intro h
    injection h with h
    have := congrArg byts h
    revert this
    decide
theorem ev_open {L r : List Int} (h : L = [60, 97, 62] ++ r) : evF L = evR L 3 (stA Nz.em) [.opn (Nz.em, la) []] ∧ L.drop 3 = r := by
  have := ev_tok (L := L) (p := 0) (out := []) (s := st0) (M := [60, 97, 62]) (r := r) (by rw [h]; rfl) (by simp) (fun z => tok_start z r) take_a
  exact this
theorem ev_close {L : List Int} {p : Nat} {u : ByteArray} {out : List Ev} (h : L.drop p = [60, 47, 97, 62]) : evR L p (stA u) out = (out ++ (toldF u ++ [.cls]), L.length, 0) := by
  have h1 := ev_tok (out := out) (r := []) (by rw [h]; rfl) (by simp) (fun z => tok_enda z []) (take_enda u)
  have hp := congrArg List.length h
  rw [List.length_drop] at hp
  have hl : p + 4 = L.length := by simp at hp; omega
  rw [h1.1]
  show evR L (p + 4) _ _ = _
  have hn := nx_last L (p + 4) (by omega)
  have ht : takeF ⟨[], Nz.em, true, false, 0⟩ (tokF (nx L (p + 4)).1) = (⟨[], Nz.em, true, true, 0⟩, [], 0) := by rw [hn]; rfl
  rw [ev_last _ hl (by rw [hn]) (by rw [ht]), ht, List.append_nil, hl]
theorem ev_mid {L M r : List Int} {p : Nat} {u : ByteArray} {out : List Ev} {tk : Tk} {v : List Int} (hd : L.drop p = M ++ r) (hM : M ≠ []) (hf : ∀ z, frontF z false (M ++ r) = (tk, M.length, 0)) (hk : (tk.kind = 4 ∨ tk.kind = 5) ∧ v = [] ∨ tk.kind = 3 ∧ tk.text = v) :
    evR L p (stA u) out = evR L (p + M.length) (stA (u ++ strOfNums v)) out ∧ L.drop (p + M.length) = r := by
  have ht : takeF (stA u) (tokF tk) = (stA (u ++ strOfNums v), [], 0) := by
    rw [take_read ⟨rfl, rfl⟩]
    unfold readT tokF
    dsimp only
    rcases hk with ⟨h1, rfl⟩ | ⟨h1, rfl⟩
    · have e : strOfNums [] = Nz.em := str_none
      rw [e, cat_em]
      rcases h1 with h1 | h1 <;> rw [h1] <;> rfl
    · rw [h1]
      rfl
  have := ev_tok (out := out) hd hM hf ht
  rw [List.append_nil] at this
  exact this
theorem ev_txt {L x r : List Int} {p : Nat} {u : ByteArray} {out : List Ev} (hd : L.drop p = x ++ 60 :: r) (h : ∀ c ∈ x, PlB c) :
    evR L p (stA u) out = evR L (p + x.length) (stA (u ++ strOfNums x)) out ∧ L.drop (p + x.length) = 60 :: r := ev_plain (s := stA u) hd h ⟨rfl, rfl⟩ (by simp [stA])
/-- <a>, a text, something between (a comment, an instruction or CDATA with v in it), a text, </a>. -/
theorem ev_text (x y M v : List Int) (tk : Tk) (m : List Int) (hM : M = 60 :: m) (hf : ∀ z r, frontF z false (M ++ r) = (tk, M.length, 0)) (hk : (tk.kind = 4 ∨ tk.kind = 5) ∧ v = [] ∨ tk.kind = 3 ∧ tk.text = v) (hx : ∀ c ∈ x, PlB c) (hy : ∀ c ∈ y, PlB c) :
    evF ([60, 97, 62] ++ (x ++ (M ++ (y ++ [60, 47, 97, 62])))) = ([.opn (Nz.em, la) []] ++ (toldF (strOfNums x ++ strOfNums v ++ strOfNums y) ++ [.cls]), ([60, 97, 62] ++ (x ++ (M ++ (y ++ [60, 47, 97, 62])))).length, 0) := by
  generalize hL : [60, 97, 62] ++ (x ++ (M ++ (y ++ [60, 47, 97, 62]))) = L
  obtain ⟨a1, a2⟩ := ev_open hL.symm
  obtain ⟨b1, b2⟩ := ev_txt (u := Nz.em) (out := [.opn (Nz.em, la) []]) (by rw [a2, hM]; rfl) hx
  obtain ⟨c1, c2⟩ := ev_mid (u := Nz.em ++ strOfNums x) (out := [.opn (Nz.em, la) []]) (M := M) (r := y ++ [60, 47, 97, 62]) (by rw [b2, hM]; rfl) (by rw [hM]; simp) (fun z => hf z _) hk
  obtain ⟨d1, d2⟩ := ev_txt (u := Nz.em ++ strOfNums x ++ strOfNums v) (out := [.opn (Nz.em, la) []]) (r := [47, 97, 62]) c2 hy
  rw [a1, b1, c1, d1, ev_close d2, em_cat]
/-- <a>, a text, </a>. -/
theorem ev_text0 (x : List Int) (hx : ∀ c ∈ x, PlB c) : evF ([60, 97, 62] ++ (x ++ [60, 47, 97, 62])) = ([.opn (Nz.em, la) []] ++ (toldF (strOfNums x) ++ [.cls]), ([60, 97, 62] ++ (x ++ [60, 47, 97, 62])).length, 0) := by
  generalize hL : [60, 97, 62] ++ (x ++ [60, 47, 97, 62]) = L
  obtain ⟨a1, a2⟩ := ev_open hL.symm
  obtain ⟨b1, b2⟩ := ev_txt (u := Nz.em) (out := [.opn (Nz.em, la) []]) (r := [47, 97, 62]) a2 hx
  rw [a1, b1, ev_close b2, em_cat]
/-- What awake asks. -/
theorem ev_awk1 : evF [60, 97, 62, 120, 60, 33, 45, 45, 99, 45, 45, 62, 121, 60, 47, 97, 62] = ([.opn (Nz.em, la) [], .txt ⟨#[120, 121]⟩, .cls], 17, 0) := by
  have h := ev_text [120] [121] [60, 33, 45, 45, 99, 45, 45, 62] [] ⟨4, [99], false, false⟩ _ rfl tok_comm (.inl ⟨.inl rfl, rfl⟩) (by intro c hc; simp at hc; subst hc; unfold PlB; omega) (by intro c hc; simp at hc; subst hc; unfold PlB; omega)
  refine Eq.trans h ?_
  have e : strOfNums [120] ++ strOfNums [] ++ strOfNums [121] = ⟨#[120, 121]⟩ := by kernel_rfl
  rw [e]
  rfl
theorem ev_awk2 : (evF [60, 97, 62, 60, 47, 98, 62]).2 = (3, 10) := by
  obtain ⟨a1, a2⟩ := ev_open (L := [60, 97, 62, 60, 47, 98, 62]) (r := [60, 47, 98, 62]) rfl
  have hn : nx [60, 97, 62, 60, 47, 98, 62] 3 = (⟨2, [98], false, false⟩, 4, 0) := by
    have := nx_of (L := [60, 97, 62, 60, 47, 98, 62]) (M := [60, 47, 98, 62]) (r := []) (p := 3) rfl
    rw [this]
    exact tok_endb _ []
  rw [a1, ev_bad _ (by decide) (by rw [hn]) (by rw [hn]; rw [take_endb]; decide), hn]
  show (3, (takeF (stA Nz.em) (tokF ⟨2, [98], false, false⟩)).2.2) = _
  rw [take_endb]
end Go.Proofs.YtnomcldpbkinmaaGreatDoor.Wl

/- Events in memory, cell by cell; the walk of awake. -/
set_option linter.unusedSimpArgs false
set_option linter.unusedVariables false
namespace Go.Proofs.YtnomcldpbkinmaaGreatDoor.Wl
open Go.RowKit

/-- The slice at A reads as these events (their kinds, names and texts). -/
def RdV (W : World) (A : Option Addr) (l : List Ev) : Prop :=
  ∀ k x, l[k]? = some x → ∃ g, A = some ⟨g, 0, none⟩ ∧ g < W.heap.size ∧ W.cell? ⟨g, k * 5, none⟩ = some (.int .i64 (kd x)) ∧ W.cell? ⟨g, k * 5 + 1, none⟩ = some (.string (sp x)) ∧ W.cell? ⟨g, k * 5 + 2, none⟩ = some (.string (lo x)) ∧ W.cell? ⟨g, k * 5 + 4, none⟩ = some (.string (tx x))
theorem EvOwn.rdv {W : World} {B : Nat} {v : Value} {l : List Ev} (h : EvOwn W B v l) : ∃ A c, v = .slice A l.length c ∧ RdV W A l := by
  obtain ⟨es, h1, h2, h3⟩ := h
  have hl : es.length = l.length := by rw [← h1, List.length_map]
  obtain ⟨A, c, hv⟩ := Nz.Sc.own_slice h2
  subst hv
  refine ⟨A, c, by rw [hl], fun k x hk => ?_⟩
  rw [← h1, List.getElem?_map] at hk
  obtain ⟨y, hy, rfl⟩ := Option.map_eq_some_iff.1 hk
  have hlt := (List.getElem?_eq_some_iff.1 hy).1
  rcases h2.2 with ⟨q, h0⟩ | ⟨g, cap, cur, q, hB, hh, hr⟩
  · omega
  injection q with q1 q2 q3
  subst q1
  have cel : ∀ i, i < 5 → W.cell? ⟨g, k * 5 + i, none⟩ = (evC y)[i]? := fun i hi => (h2.cellAt (k * 5 + i) (by omega)).trans (evL_get es k i y hy hi)
  exact ⟨g, rfl, (Array.getElem?_eq_some_iff.1 hh).1, cel 0 (by omega), cel 1 (by omega), cel 2 (by omega), cel 4 (by omega)⟩
theorem RdV.keep {W W' : World} {A : Option Addr} {l : List Ev} (h : RdV W A l) (hb : Below W.heap.size W W') : RdV W' A l := fun k x hk => by
  obtain ⟨g, e, hlt, c0, c1, c2, c4⟩ := h k x hk
  exact ⟨g, e, Nat.lt_of_lt_of_le hlt hb.size, (hb.cell (p := ⟨g, k * 5, none⟩) hlt).trans c0, (hb.cell (p := ⟨g, k * 5 + 1, none⟩) hlt).trans c1, (hb.cell (p := ⟨g, k * 5 + 2, none⟩) hlt).trans c2, (hb.cell (p := ⟨g, k * 5 + 4, none⟩) hlt).trans c4⟩
set_option maxHeartbeats 4000000 in
set_option maxRecDepth 100000 in
theorem awake_any (w : World) (hG : Gl w) : Calls Tryz.prog 9 #[] w fun e w' => e = .returned (.bool true) ∧ Below w.heap.size w w' := by
  have C1 := events_any ⟨#[60, 97, 62, 120, 60, 33, 45, 45, 99, 45, 45, 62, 121, 60, 47, 97, 62]⟩ w hG (by decide)
  rw [show byts (⟨#[60, 97, 62, 120, 60, 33, 45, 45, 99, 45, 45, 62, 121, 60, 47, 97, 62]⟩ : ByteArray) = [60, 97, 62, 120, 60, 33, 45, 45, 99, 45, 45, 62, 121, 60, 47, 97, 62] from rfl, ev_awk1] at C1
  have C2 : ∀ W, Gl W → Calls Tryz.prog 10 #[.string ⟨#[60, 97, 62, 60, 47, 98, 62]⟩] W (EvPost (evF [60, 97, 62, 60, 47, 98, 62]) W) := fun W hW => events_any ⟨#[60, 97, 62, 60, 47, 98, 62]⟩ W hW (by decide)
  have hq := ev_awk2
  generalize evF [60, 97, 62, 60, 47, 98, 62] = x at *
  obtain ⟨x1, x2, x3⟩ := x
  injection hq with hq1 hq2
  subst hq1 hq2
  have HC1 := Lib.hid C1
  have HC2 := Lib.hid C2
  have HG := Lib.hid hG
  clear C1 C2 hG
  go_enter Tryz.func9, Tryz.ntmps9
  go_wp2_with fail
  refine HC1.out.mono ?_
  rintro e w1 ⟨v1, rfl, e1, b1⟩
  obtain ⟨A1, c1, rfl, r1⟩ := e1.rdv
  have R1 := Lib.hid r1
  have B1 := Lib.hid b1
  have G1 := Lib.hid (HG.out.after b1)
  clear e1 b1 r1 HC1
  go_wp2_with fail
  refine (HC2.out _ G1.out).mono ?_
  rintro e w2 ⟨v2, rfl, e2, b2⟩
  obtain ⟨A2, c2, rfl⟩ := e2.slc
  have r2 := R1.out.keep b2
  obtain ⟨g, rfl, _, d0, _, d2, _⟩ := r2 0 (.opn (Nz.em, la) []) rfl
  obtain ⟨g', e', _, _, _, _, d9⟩ := r2 1 (.txt ⟨#[120, 121]⟩) rfl
  injection e' with e'
  injection e' with e'
  subst e'
  obtain ⟨g', e', _, d10, _, _, _⟩ := r2 2 .cls rfl
  injection e' with e'
  injection e' with e'
  subst e'
  have HB := Lib.hid (B1.out.trans (b2.mono B1.out.size))
  have q0 : w2.cell? ⟨g, 0, none⟩ = some (.int .i64 1) := d0
  have q2 : w2.cell? ⟨g, 2, none⟩ = some (.string ⟨#[97]⟩) := d2
  have q9 : w2.cell? ⟨g, 9, none⟩ = some (.string ⟨#[120, 121]⟩) := d9
  have q10 : w2.cell? ⟨g, 10, none⟩ = some (.int .i64 3) := d10
  clear e2 b2 r2 d0 d2 d9 d10 R1 B1 G1 HC2
  go_wp2
  go_ret
  exact ⟨rfl, HB.out⟩
end Go.Proofs.YtnomcldpbkinmaaGreatDoor.Wl

/- The walk of WellPrefix. -/
set_option linter.unusedSimpArgs false
set_option linter.unusedVariables false
namespace Go.Proofs.YtnomcldpbkinmaaGreatDoor.Wl
open Go.RowKit

theorem run_snoc {l : List Ev} {k : Nat} {x : Ev} (h : l[k]? = some x) : runW (l.take (k + 1)) = stepW (runW (l.take k)) x := by
  rw [Nz.Sc.take_snoc l k x h, runW_app]
  rfl
/-- What a round knows: how deep it is, whether it is the first, whether a text stands ahead. -/
structure PfK (l : List Ev) (k d : Nat) (z p : Bool) : Prop where
  run : runW (l.take k) = some (d, z, p)
  zz : z = decide (k = 0)
  pp : ∀ y, 1 ≤ k → l[k - 1]? = some y → p = false → kd y ≠ 2
  dd : d ≤ 64
  d0 : k = 0 → d = 0
theorem pfk0 (l : List Ev) : PfK l 0 0 true false := ⟨rfl, rfl, fun y h => by omega, by decide, fun _ => rfl⟩
theorem pfk_next {l : List Ev} {k d : Nat} {z p : Bool} {x : Ev} {t : Nat × Bool × Bool} (h : PfK l k d z p) (hx : l[k]? = some x) (ht : runW (l.take (k + 1)) = some t) :
    (∃ n f, x = .opn n f ∧ (d = 0 → k = 0) ∧ d < 64 ∧ PfK l (k + 1) (d + 1) false false) ∨ (∃ s, x = .txt s ∧ d ≠ 0 ∧ s.size ≠ 0 ∧ p = false ∧ PfK l (k + 1) d false true) ∨ (x = .cls ∧ d ≠ 0 ∧ PfK l (k + 1) (d - 1) false false) := by
  have h1 := run_snoc hx
  rw [h.run] at h1
  have hlast : ∀ y, l[k + 1 - 1]? = some y → y = x := fun y hy => by
    have : l[k]? = some y := hy
    rw [hx] at this
    injection this with this
    exact this.symm
  have hd := h.dd
  cases x with
  | opn n f =>
    left
    unfold stepW at h1
    dsimp only at h1
    split at h1
    · rw [h1] at ht; cases ht
    · split at h1
      · rw [h1] at ht; cases ht
      · rename_i c1 c2
        refine ⟨n, f, rfl, fun e => ?_, by omega, h1, by simp, fun y _ hy _ => ?_, by omega, by omega⟩
        · have hz := h.zz
          rcases Nat.eq_zero_or_pos k with g | g
          · exact g
          · exfalso
            apply c1
            refine ⟨e, ?_⟩
            rw [hz]
            exact decide_eq_false (by omega)
        · rw [hlast y hy]
          show (1 : Int) ≠ 2
          decide
  | txt s =>
    right; left
    unfold stepW at h1
    dsimp only at h1
    split at h1
    · rw [h1] at ht; cases ht
    · split at h1
      · rw [h1] at ht; cases ht
      · rename_i c1 c2
        refine ⟨s, rfl, c1, fun e => c2 (.inl e), ?_, h1, by simp, fun y _ _ e => (by cases e), hd, by omega⟩
        cases hp : p
        · rfl
        · exact absurd (.inr hp) c2
  | cls =>
    right; right
    unfold stepW at h1
    dsimp only at h1
    split at h1
    · rw [h1] at ht; cases ht
    · rename_i c1
      refine ⟨rfl, c1, h1, by simp, fun y _ hy _ => ?_, by omega, by omega⟩
      rw [hlast y hy]
      show (3 : Int) ≠ 2
      decide
theorem EvOwn.max {W : World} {B : Nat} {v : Value} {l : List Ev} (h : EvOwn W B v l) : l.length ≤ maxLen := by
  obtain ⟨es, h1, h2, h3⟩ := h
  rw [← h1, List.length_map]
  rcases h2.2 with ⟨_, h0⟩ | ⟨g, cap, cur, q, hB, hh, h4, h5, _⟩
  · omega
  · omega
def PfRel (n : Nat) (l : List Ev) (W2 : World) (dv iv : Value) (wr : World) : Prop :=
  wr = W2 ∧ ∃ (k d : Nat) (z p : Bool), dv = .int .i64 (d : Int) ∧ iv = .int .i64 (k : Int) ∧ k ≤ n ∧ d ≤ 64 ∧ Hid (PfK l k d z p)
set_option maxHeartbeats 8000000 in
set_option maxRecDepth 100000 in
theorem prefix_law (s : ByteArray) (w : World) (hG : Gl w) (hlen : s.size ≤ maxLen) : Calls Tryz.prog 5 #[.string s] w fun e w' => e = .returned (.bool true) ∧ Below w.heap.size w w' := by
  have CA := Lib.hid (awake_any w hG)
  have HG := Lib.hid hG
  by_cases h6 : s.size ≤ 600
  · have d6 : ¬ (600 : Int) < (s.size : Int) := by omega
    have CE : Hid (∀ W, Gl W → Calls Tryz.prog 10 #[.string s] W (EvPost (evF (byts s)) W)) := Lib.hid fun W hW => events_any s W hW (by omega)
    obtain ⟨nd, zd, pd, hrun, hfin⟩ := evF_word (byts s)
    generalize evF (byts s) = x at *
    obtain ⟨l, at_, er⟩ := x
    dsimp only at hrun hfin
    have HRun := Lib.hid hrun
    have HFin := Lib.hid hfin
    clear hrun hfin hG
    go_enter Tryz.func5, Tryz.ntmps5
    go_wp2_with fail
    refine CA.out.mono ?_
    rintro e w1 ⟨rfl, b1⟩
    have B1 := Lib.hid b1
    have G1 := Lib.hid (HG.out.after b1)
    clear CA b1
    go_wp2_with fail
    refine (CE.out _ G1.out).mono ?_
    rintro e w2 ⟨v2, rfl, e2, b2⟩
    have hmx := e2.max
    unfold maxLen at hmx
    obtain ⟨A, c, rfl, r2⟩ := e2.rdv
    have R2 := Lib.hid r2
    have B2 := Lib.hid (B1.out.trans (b2.mono B1.out.size))
    clear e2 b2 r2 CE B1 G1 HG
    obtain ⟨n, hn⟩ : ∃ n, n = l.length := ⟨_, rfl⟩
    have HN := Lib.hid hn
    rw [← hn] at hmx ⊢
    clear hn
    go_wp2_with fail
    go_loopw [6, 7] (fun dv iv wr => PfRel n l w2 dv iv wr) (fun _ iv _ => n - (intOf iv).toNat)
    case atStart => exact ⟨rfl, 0, 0, true, false, rfl, rfl, Nat.zero_le _, by omega, Lib.hid (pfk0 l)⟩
    case round =>
      obtain ⟨rfl, k, d, z, p, rfl, rfl, hk, hd, hK⟩ := hrel
      by_cases hlt : k < n
      · have hkl : k < l.length := by rw [← HN.out]; exact hlt
        have hx := List.getElem?_eq_getElem hkl
        obtain ⟨t, ht⟩ := run_take HRun.out (k + 1)
        have k1 : (k : Int) < (n : Int) := by omega
        have k2 : (0 : Int) ≤ (k : Int) := by omega
        obtain ⟨g, hg0, hg, c0, _, _, c4⟩ := R2.out k _ hx
        subst hg0
        have HX := Lib.hid hx
        have hcase := pfk_next hK.out hx ht
        clear ht hx
        generalize l[k] = x at *
        clear hkl
        rcases hcase with ⟨nm, f, rfl, o1, o2, o3⟩ | ⟨u, rfl, o1, o2, o3, o4⟩ | ⟨rfl, o1, o2⟩
        · have c0' : wr.cell? ⟨g, k * 5, none⟩ = some (.int .i64 1) := c0
          have O3 := Lib.hid o3
          have q1 : IntKind.i64.wrap ((d : Int) + 1) = (d : Int) + 1 := IntWalk.i64_in _ (by omega)
          have q2 : ¬ (64 : Int) < (d : Int) + 1 := by omega
          clear c0 c4 o3
          by_cases hd0 : d = 0
          · have hk0 := o1 hd0
            subst hd0 hk0
            go_wp2
            go_roundw
            case rel => exact ⟨rfl, 1, 1, false, false, by go_num, by go_num, by omega, by omega, O3⟩
            case measure => simp only [intOf]; omega
          · have q3 : ((d : Int) == 0) = false := by rw [beq_eq_false_iff_ne]; omega
            clear o1 hd0
            go_wp2
            go_roundw
            case rel => exact ⟨rfl, k + 1, d + 1, false, false, by go_num, by go_num, by omega, by omega, O3⟩
            case measure => simp only [intOf]; omega
        · have c0' : wr.cell? ⟨g, k * 5, none⟩ = some (.int .i64 2) := c0
          have c4' : wr.cell? ⟨g, k * 5 + 4, none⟩ = some (.string u) := c4
          have O4 := Lib.hid o4
          have q3 : ((d : Int) == 0) = false := by rw [beq_eq_false_iff_ne]; omega
          have q2 : ¬ (64 : Int) < (d : Int) := by omega
          have q5 : u.toList.isEmpty = false := (Nz.isE u).trans (decide_eq_false o2)
          have hkp : k ≠ 0 := fun e => o1 (hK.out.d0 e)
          have hpp := hK.out.pp
          obtain ⟨j, rfl⟩ : ∃ j, k = j + 1 := ⟨k - 1, by omega⟩
          have hjl : j < l.length := by rw [← HN.out]; omega
          have hy := List.getElem?_eq_getElem hjl
          have hky := hpp _ (by omega) hy o3
          obtain ⟨g', e', _, d0, _, _, _⟩ := R2.out j _ hy
          injection e' with e'
          injection e' with e'
          subst e'
          generalize l[j] = y at *
          have q6 : (kd y == 2) = false := beq_eq_false_iff_ne.2 hky
          generalize kd y = ky at *
          have q7 : IntKind.i64.wrap (((j + 1 : Nat) : Int) - 1) = (j : Int) := by rw [IntWalk.i64_in _ (by omega)]; omega
          have k3 : (0 : Int) ≤ (j : Int) := by omega
          have k4 : (j : Int) < (n : Int) := by omega
          clear c0 c4 o1 o2 o3 o4 hkp hpp hy hky
          go_wp2
          go_roundw
          case rel => exact ⟨rfl, j + 1 + 1, d, false, true, rfl, by go_num, by omega, by omega, O4⟩
          case measure => simp only [intOf]; omega
        · have c0' : wr.cell? ⟨g, k * 5, none⟩ = some (.int .i64 3) := c0
          have O2 := Lib.hid o2
          have q3 : ((d : Int) == 0) = false := by rw [beq_eq_false_iff_ne]; omega
          obtain ⟨d', rfl⟩ : ∃ d', d = d' + 1 := ⟨d - 1, by omega⟩
          have q1 : IntKind.i64.wrap (((d' + 1 : Nat) : Int) - 1) = (d' : Int) := by rw [IntWalk.i64_in _ (by omega)]; omega
          have q2 : ¬ (64 : Int) < (d' : Int) := by omega
          clear c0 c4 o1 o2
          go_wp2
          go_roundw
          case rel => exact ⟨rfl, k + 1, d', false, false, rfl, by go_num, by omega, by omega, O2⟩
          case measure => simp only [intOf]; omega
      · have k1 : ¬ (k : Int) < (n : Int) := by omega
        have hkn : k = l.length := by rw [← HN.out]; omega
        have hr := hK.out.run
        rw [hkn, List.take_length] at hr
        have hr2 := HRun.out
        rw [hr] at hr2
        injection hr2 with hr2
        injection hr2 with hr3 hr4
        injection hr4 with hr4 _
        by_cases he : er = 0
        · have hf := HFin.out he
          have hd0 : d = 0 := by omega
          have hn0 : n ≠ 0 := fun e0 => by
            have hz := hK.out.zz
            rw [hr4, hf.2] at hz
            have := of_decide_eq_false hz.symm
            omega
          have q4 : decide (0 < n) = true := decide_eq_true (by omega)
          have HQ := Lib.hid q4
          clear q4
          clear hr hr3 hr4 hf hkn
          subst he hd0
          go_wp2
          go_ret
          refine ⟨?_, B2.out⟩
          show Ending.returned (Value.bool (decide (0 < n))) = _
          rw [HQ.out]
        · have q4 : (er != 0) = true := bne_iff_ne.2 he
          clear hr hr3 hr4 hkn
          go_wp2
          go_ret
          exact ⟨rfl, B2.out⟩
  · have d6 : (600 : Int) < (s.size : Int) := by omega
    clear hG
    go_enter Tryz.func5, Tryz.ntmps5
    go_wp2_with fail
    refine CA.out.mono ?_
    rintro e w1 ⟨rfl, b1⟩
    have CA2 := Lib.hid (awake_any w1 (HG.out.after b1))
    go_wp2_with fail
    refine CA2.out.mono ?_
    rintro e w2 ⟨rfl, b2⟩
    go_wp2
    go_ret
    exact ⟨rfl, b1.trans (b2.mono b1.size)⟩
end Go.Proofs.YtnomcldpbkinmaaGreatDoor.Wl

/- Plain mathematics of WellTexts: the events of its texts. -/
set_option linter.unusedSimpArgs false
set_option linter.unusedVariables false
namespace Go.Proofs.YtnomcldpbkinmaaGreatDoor.Wl
open Go.RowKit

def btw : Nat → ByteArray
  | 0 => ⟨#[60, 33, 45, 45, 99, 45, 45, 62]⟩
  | 1 => ⟨#[60, 63, 112, 32, 113, 63, 62]⟩
  | 2 => ⟨#[60, 33, 91, 67, 68, 65, 84, 65, 91, 93, 93, 62]⟩
  | 3 => ⟨#[]⟩
  | _ => ⟨#[60, 33, 91, 67, 68, 65, 84, 65, 91, 60, 93, 93, 62]⟩
def mid (k : Nat) : ByteArray := if k = 4 then ⟨#[60]⟩ else ⟨#[]⟩
theorem str_byts (u : ByteArray) : strOfNums (byts u) = u := (str_of_byts rfl).symm
theorem texts_of (a b : ByteArray) (ha : ∀ c ∈ byts a, PlB c) (hb : ∀ c ∈ byts b, PlB c) (k : Nat) (hk : k < 5) :
    ∃ n, evF (byts ((((⟨#[60, 97, 62]⟩ ++ a) ++ btw k) ++ b) ++ ⟨#[60, 47, 97, 62]⟩)) = ([.opn (Nz.em, la) []] ++ (toldF (a ++ mid k ++ b) ++ [.cls]), n, 0) := by
  rw [byts_cat, byts_cat, byts_cat, byts_cat]
  have e3 : byts (⟨#[60, 97, 62]⟩ : ByteArray) = [60, 97, 62] := rfl
  have e4 : byts (⟨#[60, 47, 97, 62]⟩ : ByteArray) = [60, 47, 97, 62] := rfl
  rw [e3, e4]
  simp only [List.append_assoc]
  have em0 : (⟨#[]⟩ : ByteArray) = Nz.em := rfl
  have h5 : k = 0 ∨ k = 1 ∨ k = 2 ∨ k = 3 ∨ k = 4 := by omega
  rcases h5 with rfl | rfl | rfl | rfl | rfl
  · have h := ev_text (byts a) (byts b) _ [] ⟨4, [99], false, false⟩ _ rfl tok_comm (.inl ⟨.inl rfl, rfl⟩) ha hb
    rw [str_byts, str_byts, str_none] at h
    exact ⟨_, h⟩
  · have h := ev_text (byts a) (byts b) _ [] ⟨5, [112, 32, 113], false, false⟩ _ rfl tok_inst (.inl ⟨.inr rfl, rfl⟩) ha hb
    rw [str_byts, str_byts, str_none] at h
    exact ⟨_, h⟩
  · have h := ev_text (byts a) (byts b) _ [] ⟨3, [], false, false⟩ _ rfl tok_cd0 (.inr ⟨rfl, rfl⟩) ha hb
    rw [str_byts, str_byts, str_none] at h
    exact ⟨_, h⟩
  · have h := ev_text0 (byts a ++ byts b) (fun c hc => (List.mem_append.1 hc).elim (ha c) (hb c))
    rw [List.append_assoc] at h
    have e : strOfNums (byts a ++ byts b) = a ++ mid 3 ++ b := by
      rw [← byts_cat, str_byts]
      show _ = a ++ Nz.em ++ b
      rw [cat_em]
    rw [e] at h
    exact ⟨_, h⟩
  · have h := ev_text (byts a) (byts b) _ [60] ⟨3, [60], false, false⟩ _ rfl tok_cd1 (.inr ⟨rfl, rfl⟩) ha hb
    rw [str_byts, str_byts, show strOfNums [60] = ⟨#[60]⟩ by kernel_rfl] at h
    exact ⟨_, h⟩
end Go.Proofs.YtnomcldpbkinmaaGreatDoor.Wl
