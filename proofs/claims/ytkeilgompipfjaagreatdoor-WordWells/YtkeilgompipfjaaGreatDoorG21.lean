/-
  Merged by program out of the texts WlRz, EvOpen, EvFew, EvRight, EvRight2, EvDepth, EvMath, EvCon, EvInst, WlWo, EvLaw2, EvRows, WdMul, EvSame2, EvLaw3 of one seat.
-/
import Derived.Test.YtkeilgompipfjaaGreatDoorG20
import Derived.Test.YtkeilgompipfjaaGreatDoorG14
import Derived.Test.YtkeilgompipfjaaGreatDoorProg
import Derived.Test.YtkeilgompipfjaaGreatDoorG04
import Derived.Test.YtkeilgompipfjaaGreatDoorG08
import Derived.Test.YtkeilgompipfjaaGreatDoorG02
import Derived.WalkKit
import Derived.Below
import Derived.Lib.Hide
import Derived.Lib.AtoiErrMem
import Derived.Lib.SmallJoins
import Derived.Deep.Slices
import Derived.Deep.SlicePairs
import Derived.Carry
import Derived.ProofKit
import Derived.OpenShut
import Derived.SizedLaws
import Derived.Handed
import Derived.Lib.Builder
import Derived.Deep.QuietTactic
import Derived.BigQuiet
import Derived.Deep.RegionHeld3
import Derived.Deep.RegionWith
import Derived.Laws.OwnMore
import Derived.Deep.Cut
import Derived.Laws.Bits64b
import Derived.Laws.CopyRow
import Derived.Laws.CopyOwn
import Derived.Laws.IdiomCopy
import Derived.OwnWalk
import Derived.Laws.AppendOwn
import Derived.Laws.AppendOwnNone

/- Plain mathematics: how large the events of a text are, and how many. -/
set_option linter.unusedSimpArgs false
set_option linter.unusedVariables false
namespace Go.Proofs.YtkeilgompipfjaaGreatDoor.Wl
open Go.RowKit

/-- A token's text is at most twice as long as the token. -/
def TkZ (x : Tk × Nat × Int) : Prop := x.1.text.length ≤ 2 * x.2.1
theorem tkz_err (e : Int) : TkZ (T0, 0, e) := Nat.zero_le _
theorem fin_Z {b n m : Nat} {rd : List Int → Tk × Int} {r : List Int} (h : Tl rd) : TkZ (fin b n m rd r) := by
  unfold fin
  split
  · exact tkz_err _
  · split
    · exact tkz_err _
    · have h1 := h (r.take n)
      rw [List.length_take] at h1
      show (rd (r.take n)).1.text.length ≤ 2 * (b + (n + m))
      omega
theorem span_Z {b : Nat} {stop : List Int} {rd : List Int → Tk × Int} {l : List Int} (h : Tl rd) : TkZ (span b stop rd l) := by
  unfold span
  split
  · exact tkz_err _
  · exact fin_Z h
theorem mark_Z (z : Bool) (l : List Int) : TkZ (markF z l) := by
  unfold markF
  split
  · exact span_Z tl_data
  split
  · exact span_Z tl_comm
  split
  · exact span_Z (tl_inst z)
  split
  · exact span_Z tl_end
  split
  · split
    · exact tkz_err _
    · split
      · exact tkz_err _
      · exact tkz_err _
  · unfold startF
    split
    · exact tkz_err _
    · exact fin_Z tl_start
theorem chars_Z (l : List Int) (n : Nat) (hb : By l) : TkZ (charsF l n) := by
  unfold charsF
  split
  · exact tkz_err _
  split
  · exact tkz_err _
  split
  · exact tkz_err _
  · rename_i c
    show (ansF false (l.take n)).1.length ≤ 2 * n
    have h := Decidable.not_not.1 c
    have h0 : (readF false (l.take n)).2.2 = 0 := by
      unfold ansF at h
      split at h
      · assumption
      · exact h
    have hz : (ansF false (l.take n)).1 = (readF false (l.take n)).1 := by unfold ansF; rw [if_pos h0]
    have i4 := (Tg.read_rt false _ (l.take n) (Nat.le_refl _) (hb.take n).nn h0).2.2.2
    rw [hz]
    rw [List.length_take] at i4
    omega
theorem nx_Z (L : List Int) (a : Nat) (hb : By L) : TkZ (nx L a) := by
  have hd := hb.drop a
  unfold nx frontF
  split
  · split
    · exact tkz_err _
    · exact Nat.zero_le _
  split
  · exact mark_Z _ _
  · unfold plainF
    split
    · exact chars_Z _ _ hd
    · split
      · exact tkz_err _
      · exact chars_Z _ _ hd
theorem strN_size (l : List Int) : (strOfNums l).size = l.length := by
  simp [strOfNums, ByteArray.size]

/-- No text of them is longer. -/
def ScZ (M : Nat) (l : List Pr) : Prop := ∀ x ∈ l, x.2.size ≤ M
def NmZ (M : Nat) (n : Pr) : Prop := n.1.size ≤ M ∧ n.2.size ≤ M
def LsZ (M : Nat) (l : List Pr) : Prop := ∀ x ∈ l, x.1.size ≤ M ∧ x.2.size ≤ M
def TrZ (M : Nat) (f : List Tr) : Prop := ∀ x ∈ f, NmZ M x.1 ∧ x.2.size ≤ M
theorem fnd_Z {M : Nat} {l : List Pr} (h : ScZ M l) (p : ByteArray) : (Nz.Sc.fndF l p).1.size ≤ M := by
  have key : ∀ k, (Nz.Sc.fndF (l.take k) p).1.size ≤ M := by
    intro k
    induction k with
    | zero => exact Nat.zero_le _
    | succ k ih =>
      by_cases hk : k < l.length
      · rw [Nz.Sc.fnd_step l p k _ (List.getElem?_eq_getElem hk)]
        split
        · exact h _ (List.getElem_mem hk)
        · exact ih
      · rw [List.take_of_length_le (by omega)]
        rw [List.take_of_length_le (by omega)] at ih
        exact ih
  have := key l.length
  rwa [List.take_of_length_le (Nat.le_refl _)] at this
theorem res_Z {M : Nat} {l : List Pr} (h : ScZ M l) {p n : ByteArray} (hn : n.size ≤ M) {x : Pr} (hx : Nz.Sc.resF l p n = some x) : NmZ M x := by
  unfold Nz.Sc.resF at hx
  split at hx
  · cases hx
  · injection hx with hx
    rw [← hx]
    exact ⟨fnd_Z h p, hn⟩
theorem nam_Z {M : Nat} {l : List Pr} (h : ScZ M l) {s : ByteArray} (hs : s.size ≤ M) {x : Pr} (hx : Nz.Sc.namF l s = some x) : NmZ M x := by
  have h2 := (Nz.Sc.split_size s).2
  unfold Nz.Sc.namF at hx
  split at hx
  · cases hx
  · exact res_Z h (by omega) hx
theorem atn_Z {M : Nat} {l : List Pr} (h : ScZ M l) {s : ByteArray} (hs : s.size ≤ M) {x : Pr} (hx : Nz.Sc.atnF l s = some x) : NmZ M x := by
  have h2 := (Nz.Sc.split_size s).2
  unfold Nz.Sc.atnF at hx
  split at hx
  · cases hx
  · split at hx
    · injection hx with hx
      rw [← hx]
      exact ⟨Nat.zero_le _, by show (Nz.splitA s).2.1.size ≤ M; omega⟩
    · exact res_Z h (by omega) hx
theorem bind_Z {M : Nat} : ∀ (r l : List Pr) {W : List Pr}, ScZ M l → LsZ M r → Nz.Sc.bindF l r = some W → ScZ M W
  | [], l, W, hl, _, h => by
    injection h with h
    rw [← h]
    exact hl
  | a :: r, l, W, hl, hr, h => by
    unfold Nz.Sc.bindF at h
    have hr' : LsZ M r := fun x hx => hr x (List.mem_cons_of_mem _ hx)
    split at h
    · exact bind_Z r l hl hr' h
    · split at h
      · refine bind_Z r _ (fun x hx => ?_) hr' h
        rcases List.mem_append.1 hx with hx | hx
        · exact hl x hx
        · rw [List.mem_singleton] at hx
          rw [hx]
          exact (hr a List.mem_cons_self).2
      · cases h
theorem att_Z {M : Nat} {W : List Pr} (hW : ScZ M W) : ∀ (r : List Pr) (f : List Tr) {g : List Tr}, LsZ M r → TrZ M f → Nz.Sc.attF W f r = .ok g → TrZ M g
  | [], f, g, _, hf, h => by
    injection h with h
    rw [← h]
    exact hf
  | a :: r, f, g, hr, hf, h => by
    unfold Nz.Sc.attF at h
    have hr' : LsZ M r := fun x hx => hr x (List.mem_cons_of_mem _ hx)
    have ha := hr a List.mem_cons_self
    split at h
    · exact att_Z hW r f hr' hf h
    · split at h
      · cases h
      · rename_i n hn
        split at h
        · cases h
        · refine att_Z hW r _ hr' (fun x hx => ?_) h
          rcases List.mem_append.1 hx with hx | hx
          · exact hf x hx
          · rw [List.mem_singleton] at hx
            rw [hx]
            exact ⟨atn_Z hW ha.1 hn, ha.2⟩
theorem ent_Z {M : Nat} {l : List Pr} {nm : ByteArray} {r W : List Pr} {n : Pr} {f : List Tr} (hl : ScZ M l) (hn : nm.size ≤ M) (hr : LsZ M r) (h : Nz.Sc.entF l nm r = .ok (W, n, f)) : ScZ M W ∧ NmZ M n ∧ TrZ M f := by
  unfold Nz.Sc.entF at h
  split at h
  · cases h
  · rename_i W' hW
    split at h
    · cases h
    · rename_i n' hn'
      split at h
      · cases h
      · rename_i f' hf
        obtain ⟨h1, h⟩ := Prod.mk.inj (Except.ok.inj h)
        obtain ⟨h2, h3⟩ := Prod.mk.inj h
        rw [← h1, ← h2, ← h3]
        have hs := bind_Z r l hl hr hW
        exact ⟨hs, nam_Z hs hn hn', att_Z hs r [] hr (fun x hx => by cases hx) hf⟩
theorem par_Z {M m : Nat} {u : ByteArray} (hu : u.size ≤ m) (hm : 2 * m ≤ M) (h : (Tg.parF u).1 = 0) : (Tg.parF u).2.1.size ≤ M ∧ LsZ M (Tg.parF u).2.2 := by
  obtain ⟨_, h2, h3⟩ := Tg.par_I u h
  refine ⟨by omega, fun x hx => ?_⟩
  have := h3 x hx
  exact ⟨by omega, by omega⟩

def EvZ (M : Nat) : Ev → Prop
  | .opn n f => NmZ M n ∧ TrZ M f
  | .txt s => s.size ≤ M
  | .cls => True
structure StZ (M a : Nat) (s : St) : Prop where
  op : ∀ x ∈ s.op, ScZ M x.2
  wt : s.wait.size ≤ 2 * a
theorem told_Z {M : Nat} {u : ByteArray} (h : u.size ≤ M) : ∀ e ∈ toldF u, EvZ M e := fun e he => by
  unfold toldF at he
  split at he
  · cases he
  · rw [List.mem_singleton] at he
    rw [he]
    exact h
theorem scp_Z {M a : Nat} {s : St} (hM : 36 ≤ M) (h : StZ M a s) : ScZ M (scpF s) := by
  unfold scpF
  split
  · rename_i x hx
    exact h.op x (List.mem_of_getLast? hx)
  · intro x hx
    have : x = (Nz.Sc.xm, Nz.Sc.XS) := by simpa [bind0] using hx
    rw [this]
    exact hM
theorem StZ.more {M a b : Nat} {s : St} (h : StZ M a s) (hab : a ≤ b) : StZ M b s := ⟨h.op, by have := h.wt; omega⟩
theorem bad_Z {M a : Nat} {s : St} (h : StZ M a s) (e : Int) : StZ M a (bad s e).1 ∧ ∀ x ∈ (bad s e).2.1, EvZ M x := ⟨⟨h.op, h.wt⟩, fun x hx => by cases hx⟩
theorem opened_Z {M a : Nat} {s : St} (h : StZ M a s) (ha : 2 * a ≤ M) (t : Tok) (nm : ByteArray) {W : List Pr} {n : Pr} {f : List Tr} (hW : ScZ M W) (hn : NmZ M n) (hf : TrZ M f) : StZ M a (opened s t nm W n f).1 ∧ ∀ x ∈ (opened s t nm W n f).2.1, EvZ M x := by
  unfold opened
  have ht := told_Z (M := M) (u := s.wait) (by have := h.wt; omega)
  split
  · refine ⟨⟨h.op, Nat.zero_le _⟩, fun x hx => ?_⟩
    rcases List.mem_append.1 hx with hx | hx
    · exact ht x hx
    · simp only [List.mem_cons, List.not_mem_nil, or_false] at hx
      rcases hx with rfl | rfl
      · exact ⟨hn, hf⟩
      · exact True.intro
  · refine ⟨⟨fun x hx => ?_, Nat.zero_le _⟩, fun x hx => ?_⟩
    · rcases List.mem_append.1 hx with hx | hx
      · exact h.op x hx
      · rw [List.mem_singleton] at hx
        rw [hx]
        exact hW
    · rcases List.mem_append.1 hx with hx | hx
      · exact ht x hx
      · rw [List.mem_singleton] at hx
        rw [hx]
        exact ⟨hn, hf⟩
theorem start_Z {M a m : Nat} {s : St} (hM : 36 ≤ M) (h : StZ M a s) (ha : 2 * a ≤ M) (t : Tok) (ht : t.text.size ≤ m) (hm : 2 * m ≤ M) : StZ M a (startT s t).1 ∧ ∀ x ∈ (startT s t).2.1, EvZ M x := by
  unfold startT
  split
  · exact bad_Z h _
  split
  · exact bad_Z h _
  · rename_i c
    obtain ⟨g1, g2⟩ := par_Z ht hm (Decidable.not_not.1 c)
    cases ho : Nz.Sc.entF (scpF s) (Tg.parF t.text).2.1 (Tg.parF t.text).2.2 with
    | error e => exact bad_Z h e
    | ok q =>
      obtain ⟨W, n, f⟩ := q
      obtain ⟨k1, k2, k3⟩ := ent_Z (scp_Z hM h) g1 g2 ho
      unfold enterT
      dsimp only
      split
      · exact bad_Z h _
      · exact opened_Z h ha t _ k1 k2 k3
theorem take_Z {M a k : Nat} {s : St} (hM : 36 ≤ M) (h : StZ M a s) (ha : 2 * a ≤ M) (hk : 4 * k ≤ M) (t : Tok) (ht : t.text.size ≤ 2 * k) : StZ M (a + k) (takeF s t).1 ∧ ∀ x ∈ (takeF s t).2.1, EvZ M x := by
  have up : ∀ {y : St × List Ev × Int}, (StZ M a y.1 ∧ ∀ x ∈ y.2.1, EvZ M x) → StZ M (a + k) y.1 ∧ ∀ x ∈ y.2.1, EvZ M x := fun hy => ⟨hy.1.more (Nat.le_add_right _ _), hy.2⟩
  have h0 : ∀ e : Int, StZ M (a + k) (s, ([] : List Ev), e).1 ∧ ∀ x ∈ (s, ([] : List Ev), e).2.1, EvZ M x := fun e => up (y := (s, [], e)) ⟨h, fun x hx => by cases hx⟩
  have b0 : ∀ e : Int, StZ M (a + k) (bad s e).1 ∧ ∀ x ∈ (bad s e).2.1, EvZ M x := fun e => up (bad_Z h e)
  unfold takeF
  split
  · exact h0 _
  split
  · exact h0 _
  unfold readT
  split
  · exact up (start_Z hM h ha t ht (by omega))
  split
  · unfold endT
    split
    · refine ⟨⟨fun x hx => h.op x (List.dropLast_subset _ hx), Nat.zero_le _⟩, fun x hx => ?_⟩
      rcases List.mem_append.1 hx with hx | hx
      · exact told_Z (by have := h.wt; omega) x hx
      · rw [List.mem_singleton] at hx
        rw [hx]
        exact True.intro
    · exact b0 _
  split
  · unfold charsT
    split
    · refine ⟨⟨h.op, ?_⟩, fun x hx => by cases hx⟩
      show (s.wait ++ t.text).size ≤ _
      have := h.wt
      rw [size_cat]
      omega
    · split
      · exact h0 _
      · exact b0 _
  split
  · unfold lastT
    split
    · exact b0 _
    · split
      · exact b0 _
      · exact ⟨⟨h.op, by have := h.wt; show s.wait.size ≤ _; omega⟩, fun x hx => by cases hx⟩
  · exact h0 _
theorem evG_Z {M : Nat} (L : List Int) (hb : By L) (hM : 36 ≤ M) (hL : 4 * L.length ≤ M) : ∀ (f a : Nat) (s : St) (out : List Ev), a ≤ L.length → StZ M a s → (∀ x ∈ out, EvZ M x) → out.length ≤ 3 * a →
    (∀ x ∈ (evG L f a s out).1, EvZ M x) ∧ (evG L f a s out).1.length ≤ 3 * L.length + 3
  | 0, a, s, out, ha, _, ho, hl => ⟨ho, by show out.length ≤ _; omega⟩
  | f + 1, a, s, out, ha, hs, ho, hl => by
    have h00 : (∀ x ∈ out, EvZ M x) ∧ out.length ≤ 3 * L.length + 3 := ⟨ho, by omega⟩
    unfold evG
    split
    · exact h00
    rename_i c1
    split
    · exact h00
    have hz := nx_Z L a hb
    have hw : (nx L a).2.1 ≤ L.length ∧ (a < L.length → 1 ≤ (nx L a).2.1 ∧ a + (nx L a).2.1 ≤ L.length) := by
      rcases Nat.lt_or_ge a L.length with g | g
      · have := (nx_fit L a g).size (Decidable.not_not.1 c1)
        rw [List.length_drop] at this
        exact ⟨by omega, fun _ => ⟨this.1, by omega⟩⟩
      · rw [nx_last L a g]
        exact ⟨Nat.zero_le _, fun g2 => by omega⟩
    have ht : (tokF (nx L a).1).text.size ≤ 2 * (nx L a).2.1 := by
      show (strOfNums (nx L a).1.text).size ≤ _
      rw [strN_size]
      exact hz
    have hk := take_Z hM hs (by omega) (by omega) (tokF (nx L a).1) ht
    have h3 := take_len (s := s) (tokF (nx L a).1)
    have h2 : ∀ x ∈ out ++ (takeF s (tokF (nx L a).1)).2.1, EvZ M x := fun x hx => (List.mem_append.1 hx).elim (ho x) (hk.2 x)
    split
    · refine ⟨h2, ?_⟩
      show (out ++ _).length ≤ _
      rw [List.length_append]
      omega
    · rename_i c3
      have hw2 := hw.2 (by omega)
      refine evG_Z L hb hM hL f _ _ _ hw2.2 hk.1 h2 ?_
      rw [List.length_append]
      omega
/-- The events of a text: none is larger than four times the text; there are few. -/
theorem evF_Z {M : Nat} (L : List Int) (hb : By L) (hM : 36 ≤ M) (hL : 4 * L.length ≤ M) : (∀ x ∈ (evF L).1, EvZ M x) ∧ (evF L).1.length ≤ 3 * L.length + 3 :=
  evG_Z L hb hM hL _ _ _ _ (Nat.zero_le _) ⟨fun x hx => (by cases hx), Nat.zero_le _⟩ (fun x hx => by cases hx) (Nat.zero_le _)
end Go.Proofs.YtkeilgompipfjaaGreatDoor.Wl

/- Events that are handed in, opened: one, or a slice of them. -/
set_option linter.unusedSimpArgs false
set_option linter.unusedVariables false
namespace Go.Proofs.YtkeilgompipfjaaGreatDoor.Ev
open Go.Joins Go.ChangeShapes Go.WideShapes Go.RowKit Go.Deep

theorem Tryz.cells30 : Tryz.prog.cellsOf 30 = 2 := by kernel_rfl
theorem Tryz.cells9 : Tryz.prog.cellsOf 9 = 1 := by kernel_rfl
theorem Tryz.cells3 : Tryz.prog.cellsOf 3 = 1 := by kernel_rfl
abbrev P2 := ByteArray × ByteArray
abbrev P3 := P2 × ByteArray
/-- The slice at A reads as these attributes. -/
def RdT (w : World) (A : Option Addr) (l : List P3) : Prop :=
  ∀ k x, l[k]? = some x → ∃ b off, A = some ⟨b, off, none⟩ ∧ b < w.heap.size ∧ w.cell? ⟨b, off + k * 3, none⟩ = some (.string x.1.1) ∧ w.cell? ⟨b, off + k * 3 + 1, none⟩ = some (.string x.1.2) ∧ w.cell? ⟨b, off + k * 3 + 2, none⟩ = some (.string x.2)
theorem RdT.keep {w w' : World} {A : Option Addr} {l : List P3} (h : RdT w A l) (hb : Below w.heap.size w w') : RdT w' A l := fun k t hk => by
  obtain ⟨b, o, e, hlt, c0, c1, c2⟩ := h k t hk
  exact ⟨b, o, e, Nat.lt_of_lt_of_le hlt hb.size, (hb.cell (p := ⟨b, o + k * 3, none⟩) hlt).trans c0, (hb.cell (p := ⟨b, o + k * 3 + 1, none⟩) hlt).trans c1, (hb.cell (p := ⟨b, o + k * 3 + 2, none⟩) hlt).trans c2⟩
/-- What is known of attributes that are handed in. -/
structure AttsIn (w : World) (A : Option Addr) (n c : Nat) (l : List P3) : Prop where
  len : n = l.length
  lsz : n ≤ maxLen
  cnt : n ≤ 4398046511104
  xsz : ∀ x ∈ l, x.1.1.size ≤ maxLen ∧ x.1.2.size ≤ maxLen ∧ x.2.size ≤ maxLen
  rd : RdT w A l
  nil : A = none → n = 0 ∧ c = 0
theorem AttsIn.keep {w w' : World} {A : Option Addr} {n c : Nat} {l : List P3} (h : AttsIn w A n c l) (hb : Below w.heap.size w w') : AttsIn w' A n c l := ⟨h.len, h.lsz, h.cnt, h.xsz, h.rd.keep hb, h.nil⟩
/-- An event, whatever it may be. -/
structure RE where
  kind : Int
  sp : ByteArray
  lo : ByteArray
  ats : List P3
  tx : ByteArray
/-- The bounds of an event that is handed in. -/
structure RSz (e : RE) : Prop where
  sp : e.sp.size ≤ maxLen
  lo : e.lo.size ≤ maxLen
  tx : e.tx.size ≤ maxLen
/-- The slice at A reads as these events. -/
def RdV (w : World) (A : Option Addr) (l : List RE) : Prop :=
  ∀ k x, l[k]? = some x → ∃ b off Aa n c, A = some ⟨b, off, none⟩ ∧ b < w.heap.size ∧ AttsIn w Aa n c x.ats ∧ w.cell? ⟨b, off + k * 5, none⟩ = some (.int .i64 x.kind) ∧ w.cell? ⟨b, off + k * 5 + 1, none⟩ = some (.string x.sp) ∧ w.cell? ⟨b, off + k * 5 + 2, none⟩ = some (.string x.lo) ∧ w.cell? ⟨b, off + k * 5 + 3, none⟩ = some (.slice Aa n c) ∧ w.cell? ⟨b, off + k * 5 + 4, none⟩ = some (.string x.tx)
theorem RdV.keep {w w' : World} {A : Option Addr} {l : List RE} (h : RdV w A l) (hb : Below w.heap.size w w') : RdV w' A l := fun k t hk => by
  obtain ⟨b, o, Aa, n, c, e, hlt, ha, c0, c1, c2, c3, c4⟩ := h k t hk
  exact ⟨b, o, Aa, n, c, e, Nat.lt_of_lt_of_le hlt hb.size, ha.keep hb, (hb.cell (p := ⟨b, o + k * 5, none⟩) hlt).trans c0, (hb.cell (p := ⟨b, o + k * 5 + 1, none⟩) hlt).trans c1, (hb.cell (p := ⟨b, o + k * 5 + 2, none⟩) hlt).trans c2, (hb.cell (p := ⟨b, o + k * 5 + 3, none⟩) hlt).trans c3, (hb.cell (p := ⟨b, o + k * 5 + 4, none⟩) hlt).trans c4⟩
/-- What is known of events that are handed in. -/
structure EvsIn (w : World) (A : Option Addr) (n c : Nat) (l : List RE) : Prop where
  len : n = l.length
  lsz : n ≤ maxLen
  cnt : n ≤ 4398046511104
  xsz : ∀ x ∈ l, RSz x
  rd : RdV w A l
  nil : A = none → n = 0 ∧ c = 0
  cap : n ≤ c ∧ c ≤ maxLen
theorem EvsIn.keep {w w' : World} {A : Option Addr} {n c : Nat} {l : List RE} (h : EvsIn w A n c l) (hb : Below w.heap.size w w') : EvsIn w' A n c l := ⟨h.len, h.lsz, h.cnt, h.xsz, h.rd.keep hb, h.nil, h.cap⟩
end Go.Proofs.YtkeilgompipfjaaGreatDoor.Ev

/- The document's Few (layer 9): what it says of events. -/
set_option linter.unusedSimpArgs false
set_option linter.unusedVariables false
namespace Go.Proofs.YtkeilgompipfjaaGreatDoor.Ev
open Go.RowKit

def FoRel (l : List RE) (n : Nat) (w : World) (vn i : Value) (wr : World) : Prop :=
  w = wr ∧ ∃ k m : Nat, i = .int .i64 k ∧ vn = .int .i64 m ∧ k ≤ n ∧ n ≤ m ∧ m ≤ n + k * 4398046511104 ∧ Hid (∀ (j : Nat) (x : RE), j < k → l[j]? = some x → x.ats.length + n ≤ m ∧ x.tx.size ≤ 300 ∧ x.lo.size ≤ 100 ∧ x.sp.size ≤ 100 ∧ ∀ (q : Nat) (y : P3), q < 100 → x.ats[q]? = some y → y.1.1.size ≤ 100 ∧ y.1.2.size ≤ 100 ∧ y.2.size ≤ 300)
end Go.Proofs.YtkeilgompipfjaaGreatDoor.Ev

/- The document's named and Right (layer 9), over contracts of what they call. -/
set_option linter.unusedSimpArgs false
set_option linter.unusedVariables false
namespace Go.Proofs.YtkeilgompipfjaaGreatDoor.Ev
open Go.RowKit

theorem nblk (w : World) (T : TypeId) (cs : Array Value) : (w.alloc (.cells cs T)).heap[w.heap.size]? = some (.cells cs T (0, 0)) := heap_alloc_new w _
theorem cells_of {W : World} {b : Nat} {cs : Array Value} {T : TypeId} {fz : Nat × Nat} (h : W.heap[b]? = some (.cells cs T fz)) (j : Nat) {u : Value} (hu : cs[j]? = some u) : W.cell? ⟨b, j, none⟩ = some u := (Lib.cell_of_heap h j).trans hu
theorem cells2 {W : World} {b : Nat} {a0 a1 : Value} {T : TypeId} {fz : Nat × Nat} (h : W.heap[b]? = some (.cells #[a0, a1] T fz)) : W.cell? ⟨b, 0, none⟩ = some a0 ∧ W.cell? ⟨b, 1, none⟩ = some a1 := ⟨cells_of h 0 rfl, cells_of h 1 rfl⟩
theorem cells5 {W : World} {b : Nat} {a0 a1 a2 a3 a4 : Value} {T : TypeId} {fz : Nat × Nat} (h : W.heap[b]? = some (.cells #[a0, a1, a2, a3, a4] T fz)) : W.cell? ⟨b, 0, none⟩ = some a0 ∧ W.cell? ⟨b, 1, none⟩ = some a1 ∧ W.cell? ⟨b, 2, none⟩ = some a2 ∧ W.cell? ⟨b, 3, none⟩ = some a3 ∧ W.cell? ⟨b, 4, none⟩ = some a4 := ⟨cells_of h 0 rfl, cells_of h 1 rfl, cells_of h 2 rfl, cells_of h 3 rfl, cells_of h 4 rfl⟩
/-- A name may be: its local part is plain, both parts may stand in a text, the space is not that of xmlns. -/
def nmF (pL tR : ByteArray → Bool) (x : P2) : Bool := pL x.2 && tR x.2 && tR x.1 && (x.1.toList != [104, 116, 116, 112, 58, 47, 47, 119, 119, 119, 46, 119, 51, 46, 111, 114, 103, 47, 50, 48, 48, 48, 47, 120, 109, 108, 110, 115, 47])
def StrC (f : Nat) (g : ByteArray → Bool) : Prop := ∀ (s : ByteArray) (W : World), s.size ≤ 10000 → Calls Tryz.prog f #[.string s] W fun e w' => e = .returned (.bool (g s)) ∧ Below W.heap.size W w'
end Go.Proofs.YtkeilgompipfjaaGreatDoor.Ev

/- The document's Right (layer 9), over contracts of what it calls. -/
set_option linter.unusedSimpArgs false
set_option linter.unusedVariables false
namespace Go.Proofs.YtkeilgompipfjaaGreatDoor.Ev
open Go.RowKit

theorem below_drewN {B : Nat} {w w' : World} (h : Below B w w') (n : Nat) : Below B w (w'.drewN n) := ⟨h.os, h.tape, h.output, h.size, h.block⟩
/-- Two names are the same. -/
def eqn (x y : P2) : Bool := (x.1.toList == y.1.toList) && (x.2.toList == y.2.toList)
/-- The attributes from here on are right, those ahead bear these names. -/
def goA (nm : P2 → Bool) (tR : ByteArray → Bool) : List P2 → List P3 → Bool
  | _, [] => true
  | seen, x :: r => nm x.1 && tR x.2 && !(seen.any fun y => eqn y x.1) && goA nm tR (seen ++ [x.1]) r
def emp (s : ByteArray) : Bool := s.toList.isEmpty
theorem emp3 (a b : ByteArray) : (a.toList.isEmpty = true ∧ b.toList.isEmpty = true) ∨ (a.toList.isEmpty = true ∧ b.toList.isEmpty = false) ∨ a.toList.isEmpty = false := by
  cases a.toList.isEmpty <;> cases b.toList.isEmpty <;> simp
def noneF (x : RE) : Bool := emp x.sp && emp x.lo && (x.ats.length == 0)
/-- An event is right. -/
def rightF (pL tR : ByteArray → Bool) (x : RE) : Bool :=
  if x.kind = 2 then noneF x && !emp x.tx && tR x.tx
  else if x.kind = 3 then noneF x && emp x.tx
  else if x.kind ≠ 1 ∨ emp x.tx = false ∨ nmF pL tR (x.sp, x.lo) = false ∨ 32 < x.ats.length then false
  else goA (nmF pL tR) tR [] x.ats
theorem go_step {nm : P2 → Bool} {tR : ByteArray → Bool} {l : List P3} {i : Nat} {x : P3} (hx : l[i]? = some x) : goA nm tR ((l.take i).map (·.1)) (l.drop i) = (nm x.1 && tR x.2 && !(((l.take i).map (·.1)).any fun y => eqn y x.1) && goA nm tR ((l.take (i + 1)).map (·.1)) (l.drop (i + 1))) := by
  have hlt := (List.getElem?_eq_some_iff.1 hx).1
  have hd : l.drop i = x :: l.drop (i + 1) := by
    rw [List.drop_eq_getElem_cons hlt]
    have := (List.getElem?_eq_some_iff.1 hx).2
    rw [this]
  have ht : (l.take (i + 1)).map (·.1) = (l.take i).map (·.1) ++ [x.1] := by rw [List.take_add_one, hx]; simp
  rw [hd, ht]
  rfl
/-- The bounds that Right asks. -/
structure RgB (x : RE) : Prop where
  sp : x.sp.size ≤ 10000
  lo : x.lo.size ≤ 10000
  tx : x.tx.size ≤ 10000
  at_ : x.ats.length ≤ 32 → ∀ y ∈ x.ats, y.1.1.size ≤ 10000 ∧ y.1.2.size ≤ 10000 ∧ y.2.size ≤ 10000
end Go.Proofs.YtkeilgompipfjaaGreatDoor.Ev

/- The document's Depth (layer 9) of whatever events. -/
set_option linter.unusedSimpArgs false
set_option linter.unusedVariables false
namespace Go.Proofs.YtkeilgompipfjaaGreatDoor.Ev
open Go.RowKit

/-- How many are open behind these events, if so many were, the last one of this kind; -1: that can't be. -/
def depR (R : RE → Bool) : Bool → Int → Int → List RE → Int
  | _, _, n, [] => n
  | first, pk, n, x :: r =>
    if R x = false ∨ (n == 0) ≠ first ∨ (first = true ∧ x.kind ≠ 1) then -1
    else if x.kind = 2 ∧ pk = 2 then -1
    else
      let m := if x.kind = 1 then n + 1 else if x.kind = 3 then n - 1 else n
      if 64 < m then -1 else depR R false x.kind m r
/-- The document's Depth. -/
def depF (pL tR : ByteArray → Bool) (l : List RE) : Int := depR (rightF pL tR) true 0 0 l
theorem right_kind {pL tR : ByteArray → Bool} {x : RE} (h : rightF pL tR x = true) : x.kind = 1 ∨ x.kind = 2 ∨ x.kind = 3 := by
  by_cases h2 : x.kind = 2
  · exact .inr (.inl h2)
  by_cases h3 : x.kind = 3
  · exact .inr (.inr h3)
  by_cases h1 : x.kind = 1
  · exact .inl h1
  unfold rightF at h
  rw [if_neg h2, if_neg h3, if_pos (.inl h1)] at h
  cases h
def prevK (l : List RE) (k : Nat) : Int := ((l[k - 1]?).map (·.kind)).getD 0
def DpRel (F : Int) (R : RE → Bool) (l : List RE) (n : Nat) (w : World) (vn i : Value) (wr : World) : Prop :=
  ∃ k m : Nat, i = .int .i64 k ∧ vn = .int .i64 m ∧ k ≤ n ∧ m ≤ 64 ∧ (k = 0 → m = 0) ∧ Hid (Below w.heap.size w wr) ∧ Hid (F = depR R (decide (k = 0)) (prevK l k) m (l.drop k))
theorem dep_step {R : RE → Bool} {l : List RE} {k : Nat} {x : RE} (hx : l[k]? = some x) (b : Bool) (p m : Int) : depR R b p m (l.drop k) = if R x = false ∨ (m == 0) ≠ b ∨ (b = true ∧ x.kind ≠ 1) then -1 else if x.kind = 2 ∧ p = 2 then -1 else if 64 < (if x.kind = 1 then m + 1 else if x.kind = 3 then m - 1 else m) then -1 else depR R (decide (k + 1 = 0)) (prevK l (k + 1)) (if x.kind = 1 then m + 1 else if x.kind = 3 then m - 1 else m) (l.drop (k + 1)) := by
  have hlt := (List.getElem?_eq_some_iff.1 hx).1
  have hd : l.drop k = x :: l.drop (k + 1) := by
    rw [List.drop_eq_getElem_cons hlt]
    have := (List.getElem?_eq_some_iff.1 hx).2
    rw [this]
  have hp : prevK l (k + 1) = x.kind := by unfold prevK; rw [Nat.add_sub_cancel, hx]; rfl
  have hf : decide (k + 1 = 0) = false := by simp
  rw [hd, hp, hf]
  rfl
end Go.Proofs.YtkeilgompipfjaaGreatDoor.Ev

/- Beginnings of documents (layer 9), plain: what is ahead of a beginning is one; with its closers it is a document. -/
set_option linter.unusedSimpArgs false
set_option linter.unusedVariables false
namespace Go.Proofs.YtkeilgompipfjaaGreatDoor.Ev

theorem dep_next {R : RE → Bool} {b : Bool} {p n : Int} {x : RE} {r : List RE} (hn : 0 ≤ n) (hb : b = true → n = 0) :
    depR R b p n (x :: r) = -1 ∨ (R x = true ∧ ((n == 0) = b) ∧ ∃ m, 0 ≤ m ∧ m ≤ 64 ∧ (m = if x.kind = 1 then n + 1 else if x.kind = 3 then n - 1 else n) ∧ ∀ s, depR R b p n (x :: s) = depR R false x.kind m s) := by
  by_cases q : R x = false ∨ (n == 0) ≠ b ∨ (b = true ∧ x.kind ≠ 1)
  · left
    show (if _ then _ else _) = _
    rw [if_pos q]
  by_cases q2 : x.kind = 2 ∧ p = 2
  · left
    show (if _ then _ else _) = _
    rw [if_neg q, if_pos q2]
  by_cases q3 : 64 < (if x.kind = 1 then n + 1 else if x.kind = 3 then n - 1 else n)
  · left
    show (if _ then _ else if _ then _ else if 64 < (if x.kind = 1 then n + 1 else if x.kind = 3 then n - 1 else n) then _ else _) = _
    rw [if_neg q, if_neg q2, if_pos q3]
  right
  have h1 : R x = true := by
    cases h : R x
    · exact absurd (.inl h) q
    · rfl
  have h2 : (n == 0) = b := Decidable.not_not.1 fun h => q (.inr (.inl h))
  refine ⟨h1, h2, _, ?_, by omega, rfl, fun s => ?_⟩
  · split
    · omega
    · split
      · rename_i k1 k3
        have hb0 : b = false := by
          cases b
          · rfl
          · exact absurd (.inr (.inr ⟨rfl, k1⟩)) q
        rw [hb0] at h2
        have : n ≠ 0 := by simpa using h2
        omega
      · exact hn
  · show (if _ then _ else if _ then _ else if 64 < (if x.kind = 1 then n + 1 else if x.kind = 3 then n - 1 else n) then _ else _) = _
    rw [if_neg q, if_neg q2, if_neg q3]
theorem dep_range {R : RE → Bool} : ∀ (l : List RE) {b : Bool} {p n : Int}, 0 ≤ n → n ≤ 64 → (b = true → n = 0) → depR R b p n l = -1 ∨ (0 ≤ depR R b p n l ∧ depR R b p n l ≤ 64)
  | [], b, p, n, h0, h64, _ => .inr ⟨h0, h64⟩
  | x :: r, b, p, n, h0, h64, hb => by
    rcases dep_next (R := R) (b := b) (p := p) (x := x) (r := r) h0 hb with h | ⟨_, _, m, h1, h2, _, h3⟩
    · exact .inl h
    · rw [h3 r]
      exact dep_range r h1 h2 (fun h => by cases h)
end Go.Proofs.YtkeilgompipfjaaGreatDoor.Ev

/- What layer 9's statements call, as contracts; WordRights over them. -/
set_option linter.unusedSimpArgs false
set_option linter.unusedVariables false
namespace Go.Proofs.YtkeilgompipfjaaGreatDoor.Ev
open Go.RowKit

def emB : ByteArray := ⟨#[]⟩
/-- The end of an element; the root that stands for none. -/
def clE : RE := ⟨3, emB, emB, [], emB⟩
def opE : RE := ⟨1, emB, ⟨#[97]⟩, [], emB⟩
/-- Where the nodes are. -/
def nodG : Nat → List RE → List Int
  | _, [] => []
  | k, x :: r => if x.kind = 3 then nodG (k + 1) r else (k : Int) :: nodG (k + 1) r
def nodF (pL tR : ByteArray → Bool) (l : List RE) : List Int := if depF pL tR l < 0 then [] else nodG 0 l
def cloF (pL tR : ByteArray → Bool) (l : List RE) : List RE := if depF pL tR l < 0 then [] else if l = [] then [opE, clE] else List.replicate (depF pL tR l).toNat clE
/-- An event's cells, without attributes. -/
def reC (x : RE) : List Value := [.int .i64 x.kind, .string x.sp, .string x.lo, .slice none 0 0, .string x.tx]
def OwnI (W : World) (B : Nat) (v : Value) (l : List Int) : Prop := W.ownsRow B 3 1 v l.length (l.map (Value.int .i64))
def OwnV (W : World) (B : Nat) (v : Value) (l : List RE) : Prop := W.ownsRow B 33 5 v l.length (l.flatMap reC)
/-- Two events as a slice of the call's own. -/
theorem two_in {W : World} {A1 A2 : Option Addr} {n1 n2 c1 c2 b : Nat} {x y : RE} (h : W.heap[b]? = some (.cells #[.int .i64 x.kind, .string x.sp, .string x.lo, .slice A1 n1 c1, .string x.tx, .int .i64 y.kind, .string y.sp, .string y.lo, .slice A2 n2 c2, .string y.tx] 33 (0, 0))) (ta : AttsIn W A1 n1 c1 x.ats) (tb : AttsIn W A2 n2 c2 y.ats) (sx : RSz x) (sy : RSz y) : EvsIn W (some ⟨b, 0, none⟩) 2 2 [x, y] :=
  ⟨rfl, by decide, by decide, fun z hz => by simp only [List.mem_cons, List.not_mem_nil, or_false] at hz; rcases hz with rfl | rfl <;> assumption, fun k z hk => by
    have hb := (Array.getElem?_eq_some_iff.1 h).1
    match k, hk with
    | 0, hk =>
      injection hk with hk
      subst hk
      exact ⟨b, 0, A1, n1, c1, rfl, hb, ta, cells_of h 0 rfl, cells_of h 1 rfl, cells_of h 2 rfl, cells_of h 3 rfl, cells_of h 4 rfl⟩
    | 1, hk =>
      injection hk with hk
      subst hk
      exact ⟨b, 0, A2, n2, c2, rfl, hb, tb, cells_of h 5 rfl, cells_of h 6 rfl, cells_of h 7 rfl, cells_of h 8 rfl, cells_of h 9 rfl⟩
    | k + 2, hk => simp at hk, (fun h => by cases h), ⟨Nat.le_refl _, by decide⟩⟩
end Go.Proofs.YtkeilgompipfjaaGreatDoor.Ev

/- What the document's Right (layer 9) calls of the document, by its own walks: layer 3's Plain, layer 4's Right. -/
namespace Go.Proofs.YtkeilgompipfjaaGreatDoor.Ev
open Go.RowKit

/-- The document's Plain, by a text's bytes. -/
def plF (s : ByteArray) : Bool := Nz.pl (Nz.bl s)
/-- The document's Right of a reference, by a text's bytes. -/
def rtF (s : ByteArray) : Bool := decide ((decF (byts s)).2.2 = 0 ∧ ∀ r ∈ (decF (byts s)).1, Chr r)
theorem rtF_yes {s : ByteArray} (h : Rt (byts s)) : rtF s = true := decide_eq_true h
theorem rtF_no {s : ByteArray} (h : ¬ Rt (byts s)) : rtF s = false := decide_eq_false h

end Go.Proofs.YtkeilgompipfjaaGreatDoor.Ev

/- Plain mathematics: the events of whatever text are a beginning of a document by the document's own answer (layer 9). -/
set_option linter.unusedSimpArgs false
set_option linter.unusedVariables false
namespace Go.Proofs.YtkeilgompipfjaaGreatDoor.Wl
open Go.RowKit

def toR : Ev → Ev.RE
  | .opn n f => ⟨1, n.1, n.2, f, Ev.emB⟩
  | .txt s => ⟨2, Ev.emB, Ev.emB, [], s⟩
  | .cls => ⟨3, Ev.emB, Ev.emB, [], Ev.emB⟩
theorem emp_em : Ev.emp Ev.emB = true := by unfold Ev.emp; rw [Lib.toList_data]; rfl
theorem emp_ne {s : ByteArray} (h : s.size ≠ 0) : Ev.emp s = false := by
  unfold Ev.emp
  rw [Lib.toList_data]
  rw [Lib.size_eq] at h
  cases hl : s.data.toList with
  | nil => rw [hl] at h; exact absurd rfl h
  | cons a b => rfl
theorem rt_F {s : ByteArray} (h : Rg s) : Ev.rtF s = true := by
  exact Ev.rtF_yes h
theorem nm_F {n : Pr} (h : Nmd n) : Ev.nmF Ev.plF Ev.rtF n = true := by
  unfold Ev.nmF
  have h1 : Ev.plF n.2 = true := h.2.1
  rw [h1, rt_F h.2.2, rt_F h.1.1]
  simp only [Bool.true_and, bne_iff_ne, ne_eq]
  intro e
  apply h.1.2
  apply Nz.Sc.toList_inj
  rw [e, Lib.toList_data]
  rfl
theorem eqn_ne {x y : Pr} (h : x ≠ y) : Ev.eqn x y = false := by
  rw [← Bool.not_eq_true]
  unfold Ev.eqn
  rw [Bool.and_eq_true, beq_iff_eq, beq_iff_eq]
  rintro ⟨h1, h2⟩
  exact h (Prod.ext (Nz.Sc.toList_inj h1) (Nz.Sc.toList_inj h2))
theorem goA_G : ∀ (f : List Tr) (seen : List Pr), (∀ x ∈ f, Nmd x.1 ∧ Rg x.2) → (seen ++ f.map (·.1)).Nodup → Ev.goA (Ev.nmF Ev.plF Ev.rtF) Ev.rtF seen f = true
  | [], _, _, _ => rfl
  | x :: f, seen, h, hd => by
    have hx := h x List.mem_cons_self
    unfold Ev.goA
    rw [nm_F hx.1, rt_F hx.2, goA_G f (seen ++ [x.1]) (fun y hy => h y (List.mem_cons_of_mem _ hy)) (by rw [List.append_assoc]; exact hd)]
    simp only [Bool.true_and, Bool.and_true, Bool.not_eq_true', List.any_eq_false, Bool.not_eq_true]
    intro y hy
    refine eqn_ne fun e => ?_
    rw [List.nodup_append] at hd
    exact hd.2.2 y hy x.1 (by simp) e
theorem right_G {e : Ev} (h : EvG e) : Ev.rightF Ev.plF Ev.rtF (toR e) = true := by
  unfold Ev.rightF
  cases e with
  | opn n f =>
    obtain ⟨h1, h2, h3⟩ := h
    show (if (1 : Int) = 2 then _ else _) = true
    rw [if_neg (by decide)]
    show (if (1 : Int) = 3 then _ else _) = true
    rw [if_neg (by decide), if_neg]
    · exact goA_G f [] h2.1 h2.2
    · rintro (g | g | g | g)
      · exact g rfl
      · rw [show Ev.emp (toR (.opn n f)).tx = true from emp_em] at g
        cases g
      · rw [show Ev.nmF Ev.plF Ev.rtF ((toR (.opn n f)).sp, (toR (.opn n f)).lo) = true from nm_F h1] at g
        cases g
      · have g : 32 < f.length := g
        omega
  | txt s =>
    show (if (2 : Int) = 2 then _ else _) = true
    rw [if_pos rfl]
    show (Ev.emp Ev.emB && Ev.emp Ev.emB && true && !Ev.emp s && Ev.rtF s) = true
    rw [emp_em, emp_ne h.2, rt_F h.1]
    rfl
  | cls =>
    show (if (3 : Int) = 2 then _ else _) = true
    rw [if_neg (by decide)]
    show (if (3 : Int) = 3 then _ else _) = true
    rw [if_pos rfl]
    show (Ev.emp Ev.emB && Ev.emp Ev.emB && true && Ev.emp Ev.emB) = true
    rw [emp_em]
    rfl
theorem dep_step (R : Ev.RE → Bool) (x : Ev.RE) (r : List Ev.RE) (z : Bool) (pk n m : Int) (hR : R x = true) (hz : (n == 0) = z) (h1 : z = true → x.kind = 1) (h2 : ¬ (x.kind = 2 ∧ pk = 2)) (hm : m = if x.kind = 1 then n + 1 else if x.kind = 3 then n - 1 else n) (hl : m ≤ 64) :
    Ev.depR R z pk n (x :: r) = Ev.depR R false x.kind m r := by
  rw [Ev.depR, if_neg, if_neg h2]
  · dsimp only
    rw [← hm, if_neg (by omega)]
  · rintro (g | g | g)
    · rw [hR] at g; cases g
    · exact g hz
    · exact g.2 (h1 g.1)
theorem dep_G : ∀ (l : List Ev) (d : Nat) (z p : Bool) (pk : Int) (n : Nat) (z' p' : Bool), (∀ e ∈ l, EvG e) → (z = true → d = 0) → (pk = 2 → p = true) → d ≤ 64 →
    l.foldl stepW (some (d, z, p)) = some (n, z', p') → Ev.depR (Ev.rightF Ev.plF Ev.rtF) z pk d (l.map toR) = n
  | [], d, z, p, pk, n, z', p', _, _, _, _, h => by
    have h : some (d, z, p) = some (n, z', p') := h
    injection h with h
    injection h with h _
    rw [h]
    rfl
  | e :: l, d, z, p, pk, n, z', p', hg, hz, hp, hd, h => by
    have he := right_G (hg e List.mem_cons_self)
    have hg' : ∀ x ∈ l, EvG x := fun x hx => hg x (List.mem_cons_of_mem _ hx)
    rw [List.foldl_cons] at h
    rw [List.map_cons]
    cases e with
    | opn nm f =>
      by_cases c1 : d = 0 ∧ z = false
      · rw [show stepW (some (d, z, p)) (.opn nm f) = none by unfold stepW; exact if_pos c1, run_none] at h
        cases h
      by_cases c2 : 64 ≤ d
      · rw [show stepW (some (d, z, p)) (.opn nm f) = none by unfold stepW; dsimp only; rw [if_neg c1, if_pos c2], run_none] at h
        cases h
      rw [show stepW (some (d, z, p)) (.opn nm f) = some (d + 1, false, false) by unfold stepW; dsimp only; rw [if_neg c1, if_neg c2]] at h
      rw [dep_step _ _ _ z pk d ((d + 1 : Nat) : Int) he ?_ (fun _ => rfl) (fun g => absurd g.1 (by show ¬ ((1 : Int) = 2); decide)) (by show _ = if (1 : Int) = 1 then _ else _; rw [if_pos rfl]; omega) (by omega)]
      · exact dep_G l (d + 1) false false _ n z' p' hg' (fun e => by cases e) (fun e => absurd e (by show ¬ ((1 : Int) = 2); decide)) (by omega) h
      · by_cases c3 : d = 0
        · have : z = true := by cases z with
            | true => rfl
            | false => exact absurd ⟨c3, rfl⟩ c1
          rw [this, c3]; rfl
        · cases z with
          | true => exact absurd (hz rfl) c3
          | false => rw [beq_eq_false_iff_ne]; omega
    | txt s =>
      by_cases c1 : d = 0
      · rw [show stepW (some (d, z, p)) (.txt s) = none by unfold stepW; exact if_pos c1, run_none] at h
        cases h
      by_cases c2 : s.size = 0 ∨ p = true
      · rw [show stepW (some (d, z, p)) (.txt s) = none by unfold stepW; dsimp only; rw [if_neg c1, if_pos c2], run_none] at h
        cases h
      rw [show stepW (some (d, z, p)) (.txt s) = some (d, false, true) by unfold stepW; dsimp only; rw [if_neg c1, if_neg c2]] at h
      have hzf : z = false := by cases z with
        | true => exact absurd (hz rfl) c1
        | false => rfl
      rw [dep_step _ _ _ z pk d (d : Int) he (by rw [hzf, beq_eq_false_iff_ne]; omega) (fun e => by rw [hzf] at e; cases e) (fun g => c2 (.inr (hp g.2))) (by show _ = if (2 : Int) = 1 then _ else if (2 : Int) = 3 then _ else _; rw [if_neg (by decide), if_neg (by decide)]) (by omega)]
      exact dep_G l d false true _ n z' p' hg' (fun e => by cases e) (fun _ => rfl) hd h
    | cls =>
      by_cases c1 : d = 0
      · rw [show stepW (some (d, z, p)) .cls = none by unfold stepW; exact if_pos c1, run_none] at h
        cases h
      rw [show stepW (some (d, z, p)) .cls = some (d - 1, false, false) by unfold stepW; dsimp only; rw [if_neg c1]] at h
      have hzf : z = false := by cases z with
        | true => exact absurd (hz rfl) c1
        | false => rfl
      rw [dep_step _ _ _ z pk d ((d - 1 : Nat) : Int) he (by rw [hzf, beq_eq_false_iff_ne]; omega) (fun e => by rw [hzf] at e; cases e) (fun g => absurd g.1 (by show ¬ ((3 : Int) = 2); decide)) (by show _ = if (3 : Int) = 1 then _ else if (3 : Int) = 3 then _ else _; rw [if_neg (by decide), if_pos rfl]; omega) (by omega)]
      exact dep_G l (d - 1) false false _ n z' p' hg' (fun e => by cases e) (fun e => absurd e (by show ¬ ((3 : Int) = 2); decide)) (by omega) h
/-- The events of whatever text are a beginning; a document, if there is no error. -/
theorem evF_dep (L : List Int) (hb : By L) : 0 ≤ Ev.depF Ev.plF Ev.rtF ((evF L).1.map toR) ∧ ((evF L).2.2 = 0 → Ev.depF Ev.plF Ev.rtF ((evF L).1.map toR) = 0 ∧ (evF L).1 ≠ []) := by
  obtain ⟨n, z, p, h, h0⟩ := evF_word L
  have hd : Ev.depF Ev.plF Ev.rtF ((evF L).1.map toR) = n := dep_G _ 0 true false 0 n z p (evF_G L hb) (fun _ => rfl) (fun e => absurd e (by decide)) (by decide) h
  refine ⟨by omega, fun he => ?_⟩
  obtain ⟨rfl, rfl⟩ := h0 he
  refine ⟨hd, fun e => ?_⟩
  rw [e] at h
  have h : some (0, true, false) = some (0, false, p) := h
  injection h with h
  injection h with _ h
  injection h with h
  cases h
end Go.Proofs.YtkeilgompipfjaaGreatDoor.Wl

/- WordBegins (layer 9) over the contracts of what it calls. -/
set_option linter.unusedSimpArgs false
set_option linter.unusedVariables false
namespace Go.Proofs.YtkeilgompipfjaaGreatDoor.Ev
open Go.RowKit

theorem own_slice {e : TypeId} {z n : Nat} {w : World} {B : Nat} {v : Value} {xs : List Value} (h : w.ownsRow B e z v n xs) : ∃ A cap, v = .slice A n cap := by
  rcases h.2 with ⟨rfl, rfl⟩ | ⟨g, cap, cur, rfl, _⟩
  · exact ⟨none, 0, rfl⟩
  · exact ⟨_, cap, rfl⟩
theorem own_keep {e : TypeId} {z n : Nat} {w w' : World} {B : Nat} {v : Value} {xs : List Value} (h : w.ownsRow B e z v n xs) (hb : Below w.heap.size w w') : w'.ownsRow B e z v n xs := by
  refine ⟨h.1, ?_⟩
  rcases h.2 with hn | ⟨g, cap, cur, rfl, hB, hg, rest⟩
  · exact .inl hn
  · exact .inr ⟨g, cap, cur, rfl, hB, (hb.block _ (Array.getElem?_eq_some_iff.1 hg).1).trans hg, rest⟩
/-- The slice at A reads as these numbers. -/
def RdI (w : World) (A : Option Addr) (l : List Int) : Prop :=
  ∀ k x, l[k]? = some x → ∃ b off, A = some ⟨b, off, none⟩ ∧ b < w.heap.size ∧ w.cell? ⟨b, off + k, none⟩ = some (.int .i64 x)
theorem RdI.keep {w w' : World} {A : Option Addr} {l : List Int} (h : RdI w A l) (hb : Below w.heap.size w w') : RdI w' A l := fun k t hk => by
  obtain ⟨b, o, e, hlt, c0⟩ := h k t hk
  exact ⟨b, o, e, Nat.lt_of_lt_of_le hlt hb.size, (hb.cell (p := ⟨b, o + k, none⟩) hlt).trans c0⟩
theorem add_at (g k : Nat) : (⟨g, 0, none⟩ : Addr).add k = ⟨g, k, none⟩ := by
  cases k with
  | zero => rfl
  | succ j => simp [Addr.add]
theorem OwnI.rd {w : World} {B : Nat} {v : Value} {l : List Int} (h : OwnI w B v l) : ∃ A c, v = .slice A l.length c ∧ RdI w A l ∧ l.length ≤ maxLen := by
  have h' : w.ownsRow B 3 1 v l.length (l.map (Value.int .i64)) := h
  rcases h'.2 with ⟨rfl, h0⟩ | ⟨g, cap, cur, rfl, hB, hg, h4, h5, _⟩
  · refine ⟨none, 0, by rw [h0], fun k x hk => ?_, by omega⟩
    rw [List.eq_nil_of_length_eq_zero h0] at hk
    simp at hk
  · refine ⟨_, cap, rfl, fun k x hk => ⟨g, 0, rfl, (Array.getElem?_eq_some_iff.1 hg).1, ?_⟩, by omega⟩
    have := h'.cells rfl k (.int .i64 x) (by rw [List.getElem?_map, hk]; rfl)
    rw [add_at] at this
    rw [Nat.zero_add]
    exact this
end Go.Proofs.YtkeilgompipfjaaGreatDoor.Ev

/- Rows of events of the call's own: what is appended to them, what they read as; the document's Same of two that are alike. -/
set_option linter.unusedSimpArgs false
set_option linter.unusedVariables false
namespace Go.Proofs.YtkeilgompipfjaaGreatDoor.Ev
open Go.RowKit

section
variable {α : Type} {f : α → List Value} {z : Nat}
theorem cel_len (hz : ∀ x, (f x).length = z) (l : List α) : (l.flatMap f).length = l.length * z := by
  induction l with
  | nil => simp
  | cons x l ih => rw [List.flatMap_cons, List.length_append, hz, ih, List.length_cons, Nat.add_mul, Nat.one_mul, Nat.add_comm]
theorem cel_get (hz : ∀ x, (f x).length = z) : ∀ (l : List α) (k i : Nat) (t : α), l[k]? = some t → i < z → (l.flatMap f)[k * z + i]? = (f t)[i]?
  | [], k, i, t, h, _ => by simp at h
  | x :: l, 0, i, t, h, hi => by
    have : x = t := by simpa using h
    subst this
    rw [List.flatMap_cons, Nat.zero_mul, Nat.zero_add, List.getElem?_append_left (by rw [hz]; exact hi)]
  | x :: l, k + 1, i, t, h, hi => by
    have h' : l[k]? = some t := by simpa using h
    have e : (k + 1) * z + i - z = k * z + i := by rw [Nat.add_mul, Nat.one_mul]; omega
    rw [List.flatMap_cons, List.getElem?_append_right (by rw [hz, Nat.add_mul, Nat.one_mul]; omega), hz, e]
    exact cel_get hz l k i t h' hi
end
/-- An event, with its attributes' slice. -/
abbrev PE := RE × (Option Addr × Nat × Nat)
/-- The attributes of these events stand in memory. -/
def PeO (W : World) (ps : List PE) : Prop := ∀ p ∈ ps, AttsIn W p.2.1 p.2.2.1 p.2.2.2 p.1.ats ∧ RSz p.1
theorem PeO.keep {W W' : World} {ps : List PE} (h : PeO W ps) (hb : Below W.heap.size W W') : PeO W' ps := fun p hp => ⟨(h p hp).1.keep hb, (h p hp).2⟩
theorem PeO.app {W : World} {a b : List PE} (h : PeO W a) (k : PeO W b) : PeO W (a ++ b) := fun p hp => (List.mem_append.1 hp).elim (h p) (k p)
theorem EvsIn.take {W : World} {A : Option Addr} {n c k : Nat} {l : List RE} (h : EvsIn W A n c l) (hk : k ≤ n) : EvsIn W A k c (l.take k) :=
  ⟨by rw [List.length_take, ← h.len]; omega, by have := h.lsz; omega, by have := h.cnt; omega, fun x hx => h.xsz x (List.mem_of_mem_take hx), (fun j x hj => by
    rw [List.getElem?_take] at hj
    by_cases q : j < k
    · rw [if_pos q] at hj
      exact h.rd j x hj
    · rw [if_neg q] at hj
      cases hj), (fun e => ⟨by have := (h.nil e).1; omega, (h.nil e).2⟩), ⟨by have := h.cap.1; omega, h.cap.2⟩⟩
theorem attsNil (W : World) : AttsIn W none 0 0 [] := ⟨rfl, Nat.zero_le _, Nat.zero_le _, fun x hx => by simp at hx, fun j x hx => by simp at hx, fun _ => ⟨rfl, rfl⟩⟩
end Go.Proofs.YtkeilgompipfjaaGreatDoor.Ev

/- math/bits.Mul of one and a number; a copy of cells of whatever size, into a row of the call itself. -/
set_option linter.unusedSimpArgs false
set_option linter.unusedVariables false
namespace Go.Proofs.YtkeilgompipfjaaGreatDoor.Ev
open Go.RowKit

theorem and_low (d : Nat) (h : d < 4294967296) : bits .and .u64 (d : Int) 4294967295 = (d : Int) := by
  have e := bits_and_u64_nat d 4294967295 (by omega) (by omega)
  rw [show d &&& 4294967295 = d % 4294967296 from Nat.and_two_pow_sub_one_eq_mod d 32, Nat.mod_eq_of_lt h] at e
  exact e
set_option maxRecDepth 100000 in
theorem mul64_one (d : Nat) (hd : d ≤ 1000) (w : World) : Calls Tryz.prog 32 #[.int .u64 1, .int .u64 (d : Int)] w fun e w' => e = .returned (.tuple #[.int .u64 0, .int .u64 (d : Int)]) ∧ w = w' := by
  have h1 : bits .and .u64 (1 : Int) 4294967295 = 1 := and_low 1 (by omega)
  have h0 : bits .and .u64 (0 : Int) 4294967295 = 0 := and_low 0 (by omega)
  have h2 := and_low d (by omega)
  have h3 : (d : Int) / 4294967296 = 0 := by omega
  have h4 : IntKind.u64.wrap (d : Int) = (d : Int) := by rw [IntKind.wrap_u64]; omega
  go_enter Tryz.func32, Tryz.ntmps32
  go_wp2

  go_ret2
  exact ⟨rfl, rfl⟩
set_option maxRecDepth 100000 in
theorem mul_one' (d : Nat) (hd : d ≤ 1000) (w : World) : Calls Tryz.prog 21 #[.int .u64 1, .int .u64 (d : Int)] w fun e w' => e = .returned (.tuple #[.int .u64 0, .int .u64 (d : Int)]) ∧ w = w' := by
  have C := Lib.hid (mul64_one d hd w)
  go_enter Tryz.func21, Tryz.ntmps21
  go_wp2_with (go_at_call 32; refine C.out.mono ?_; rintro e w' ⟨rfl, rfl⟩)
  go_ret2
  exact ⟨rfl, rfl⟩
/-- A copy into a row that is known whole, of elements of z cells each. -/
theorem run_copyZ {P : Program} (w : World) (dT sT ty elem : TypeId) (z g o dLen dCap : Nat) (a : Addr) (sLen sCap m : Nat) (cur : Array Value) (t : TypeId) (cs : List Value)
    (hu : P.underlying dT = some (.slice elem)) (hs : (P.info? elem).map (·.size) = some z)
    (hg : w.heap[g]? = some (.cells cur t (0, 0))) (hm : Nat.min sLen dLen = m) (hn : cs.length = m * z)
    (hsrc : ∀ j v, cs[j]? = some v → w.cell? (a.add j) = some v) (hfit : o + cs.length ≤ cur.size) (h1 : ∀ v ∈ cs, v.oneCell' = true) :
    (Builtin.copy_ #[dT, sT] ty #[.slice (some ⟨g, o, none⟩) dLen dCap, .slice (some a) sLen sCap]).run P w =
      .ok (goInt m) (w.setRow g (cur.toList.take o ++ cs ++ cur.toList.drop (o + cs.length)).toArray) := by
  have hl := run_loadCells_list (P := P) w a cs hsrc
  have hst := run_storeCells_at P g o t cs 0 cur w hg (by simpa using hfit) h1
  cases hq : P.info? elem with
  | none => simp [hq] at hs
  | some i =>
    have hi : i.size = z := by simpa [hq] using hs
    rw [hn] at hl
    subst hi
    simp [Builtin.copy_, run_underlying hu, Builtin.lenOf, Builtin.firstCells, sizeOf, typeInfo, hq, hm, hl, hst]
/-- The same element so often. -/
def rep (E : List Value) (k : Nat) : List Value := (List.replicate k E).flatten
theorem rep_len (E : List Value) (k : Nat) : (rep E k).length = k * E.length := by unfold rep; simp
theorem rep_add (E : List Value) (k m : Nat) : rep E (k + m) = rep E k ++ rep E m := by unfold rep; rw [← List.replicate_append_replicate, List.flatten_append]
theorem rep_mem {E : List Value} {k : Nat} {u : Value} (h : u ∈ rep E k) : u ∈ E := by
  unfold rep at h
  obtain ⟨l, hl, hu⟩ := List.mem_flatten.1 h
  rw [List.eq_of_mem_replicate hl] at hu
  exact hu
/-- A row of d places of z cells, the first k of which hold E. -/
structure RpB (W : World) (T : TypeId) (g d : Nat) (E : List Value) (k : Nat) : Prop where
  le : k ≤ d
  blk : ∃ cur, W.heap[g]? = some (.cells cur T (0, 0)) ∧ cur.size = d * E.length ∧ cur.toList.take (k * E.length) = rep E k
theorem RpB.drew {W : World} {T : TypeId} {g d k : Nat} {E : List Value} (h : RpB W T g d E k) : RpB W.drew T g d E k := ⟨h.le, h.blk⟩
theorem RpB.src {W : World} {T : TypeId} {g d k m : Nat} {E : List Value} (h : RpB W T g d E k) (hm : m ≤ k) : ∀ j v, (rep E m)[j]? = some v → W.cell? ((⟨g, 0, none⟩ : Addr).add j) = some v := by
  intro j v hv
  obtain ⟨cur, hg, hs, ht⟩ := h.blk
  obtain ⟨q, rfl⟩ : ∃ q, k = m + q := ⟨k - m, by omega⟩
  have hj := (List.getElem?_eq_some_iff.1 hv).1
  rw [Addr.add_lit, Nat.zero_add, Lib.cell_of_heap hg]
  have h2 : (rep E (m + q))[j]? = some v := by rw [rep_add, List.getElem?_append_left hj]; exact hv
  rw [← ht, List.getElem?_take] at h2
  split at h2
  · rw [← Array.getElem?_toList]; exact h2
  · cases h2
theorem RpB.put {W : World} {T : TypeId} {g d k m : Nat} {E : List Value} (h : RpB W T g d E k) (hm : k + m ≤ d) (h1 : ∀ v ∈ E, v.oneCell' = true)
    {P : Program} (dT sT ty : TypeId) (hu : P.underlying dT = some (.slice T)) (hs : (P.info? T).map (·.size) = some E.length) (dLen dCap sLen sCap : Nat) (a : Addr) (hmn : Nat.min sLen dLen = m)
    (hsrc : ∀ j v, (rep E m)[j]? = some v → W.cell? (a.add j) = some v) :
    ∃ W', (Builtin.copy_ #[dT, sT] ty #[.slice (some ⟨g, k * E.length, none⟩) dLen dCap, .slice (some a) sLen sCap]).run P W = .ok (goInt m) W' ∧ RpB W' T g d E (k + m) ∧ W.grownBy W' (some g) := by
  obtain ⟨cur, hg, hsz, ht⟩ := h.blk
  have hml : (k + m) * E.length ≤ d * E.length := Nat.mul_le_mul_right _ hm
  rw [Nat.add_mul] at hml
  have hlen := rep_len E m
  refine ⟨_, run_copyZ W dT sT ty T E.length g (k * E.length) dLen dCap a sLen sCap m cur T (rep E m) hu hs hg hmn hlen hsrc (by rw [hlen, hsz]; exact hml) (fun v hv => h1 v (rep_mem hv)), ⟨hm, _, setRow_heap W g _ _ T _ hg, ?_, ?_⟩, ⟨rfl, rfl, rfl, by simp [World.setRow], fun i hi hne => setRow_other W g i _ (fun e => hne (by rw [e]))⟩⟩
  · simp only [List.size_toArray, List.length_append, List.length_take, List.length_drop, hlen, Array.length_toList, hsz]
    omega
  · simp only []
    rw [ht, rep_add, Nat.add_mul, List.take_left' (by rw [List.length_append, rep_len, rep_len])]
end Go.Proofs.YtkeilgompipfjaaGreatDoor.Ev

/- The document's Same (layer 8) of two lists of events that are the same. -/
set_option linter.unusedSimpArgs false
set_option linter.unusedVariables false
namespace Go.Proofs.YtkeilgompipfjaaGreatDoor.Ev
open Go.RowKit

/-- One event's cells. -/
structure Ev1 (W : World) (b o : Nat) (kx : Int) (na nb tx : ByteArray) (Aa : Option Addr) (n c : Nat) : Prop where
  c0 : W.cell? ⟨b, o, none⟩ = some (.int .i64 kx)
  c1 : W.cell? ⟨b, o + 1, none⟩ = some (.string na)
  c2 : W.cell? ⟨b, o + 2, none⟩ = some (.string nb)
  c3 : W.cell? ⟨b, o + 3, none⟩ = some (.slice Aa n c)
  c4 : W.cell? ⟨b, o + 4, none⟩ = some (.string tx)
theorem Ev1.keep {W W' : World} {b o : Nat} {kx : Int} {na nb tx : ByteArray} {Aa : Option Addr} {n c : Nat} (h : Ev1 W b o kx na nb tx Aa n c) (hb : Below W.heap.size W W') (hlt : b < W.heap.size) : Ev1 W' b o kx na nb tx Aa n c :=
  ⟨(hb.cell (p := ⟨b, o, none⟩) hlt).trans h.c0, (hb.cell (p := ⟨b, o + 1, none⟩) hlt).trans h.c1, (hb.cell (p := ⟨b, o + 2, none⟩) hlt).trans h.c2, (hb.cell (p := ⟨b, o + 3, none⟩) hlt).trans h.c3, (hb.cell (p := ⟨b, o + 4, none⟩) hlt).trans h.c4⟩
end Go.Proofs.YtkeilgompipfjaaGreatDoor.Ev

/- WordPrefixes (layer 9) over the contracts of what it calls. -/
set_option linter.unusedSimpArgs false
set_option linter.unusedVariables false
namespace Go.Proofs.YtkeilgompipfjaaGreatDoor.Ev
open Go.RowKit

theorem Tryz.info33 : (Tryz.prog.info? 33).map (fun i => (i.zero, i.size, i.bytes)) = some (some (.agg #[.int .i64 0, .string ⟨#[]⟩, .string ⟨#[]⟩, .slice none 0 0, .string ⟨#[]⟩]), 5, 80) := by kernel_rfl
theorem wpList_append_any {P : Program} {w : World} {ops : Array Oper} {rest : List Oper} {o : Oper} {a : Act} {Q : Exit → Act → World → Prop} (hgd : o.guard = none) (s x : Operand) (t : TypeId)
    (ho : o.op = .call { callee := .builtin .append, args := #[s, x], argTypes := #[t, t] })
    (base : Nat) (e : TypeId) (i : TypeInfo) (z : Value) (size bytes : Nat) (ht : P.underlying t = some (.slice e)) (hi : P.info? e = some i) (hz : i.zero = some z) (hsize : i.size = size) (hby : i.bytes = bytes) (hzs : z.cells.size = size) (hsz : 0 < size)
    (v : Value) (n : Nat) (xs : List Value) (hs : a.eval s = v) (hown : w.ownsRow base e size v n xs)
    (A : Option Addr) (m c : Nat) (news : List Value) (hx : a.eval x = .slice A m c) (hnil : A = none → m = 0 ∧ c = 0) (hl : news.length = m * size) (hnews : ∀ ad, A = some ad → ∀ j u, news[j]? = some u → w.cell? (ad.add j) = some u) (h1 : ∀ u ∈ news, u.oneCell' = true)
    (h63 : n + m ≤ maxLen) (hbytes : (n + m) * bytes ≤ 140737488355328) (hbase : base ≤ w.heap.size)
    (h : ∀ v' w', w'.ownsRow base e size v' (n + m) (xs ++ news) → w.grownBy w' v.ownBlock → wpList P ops Q rest (a.put o.dst v') w') :
    wpList P ops Q (o :: rest) a w := by
  cases A with
  | some ad => exact wpList_append_own w hgd s x t ho base e i z size bytes ht hi hz hsize hby hzs hsz v n xs hs hown ad m c news hx hl (hnews ad rfl) h1 h63 hbytes hbase (fun v' w' a1 a2 _ => h v' w' a1 a2)
  | none =>
    obtain ⟨rfl, rfl⟩ := hnil rfl
    have hnw : news = [] := List.eq_nil_of_length_eq_zero (by rw [hl, Nat.zero_mul])
    subst hnw
    refine wpList_plain hgd fun K hK => ?_
    have hr := run_append_owned_none (P := P) (w := w) base t o.type e i size ht hi v n xs hown
    unfold Oper.wp execOp
    simp only [ho, resolve, invoke, builtin, Sem.run_bind, Sem.run_pure, Result.andThen_ok, List.map_toArray, List.map_cons, List.map_nil, hs, hx, hr]
    exact hK _ _ (h v w (by rw [List.append_nil]; exact hown) ⟨rfl, rfl, rfl, Nat.le_refl _, fun _ _ _ => rfl⟩)
theorem own_src {W : World} {B n c z : Nat} {e : TypeId} {A : Option Addr} {xs : List Value} (h : W.ownsRow B e z (.slice A n c) n xs) : (A = none → n = 0 ∧ c = 0) ∧ ∀ ad, A = some ad → ∀ j u, xs[j]? = some u → W.cell? (ad.add j) = some u := by
  rcases h.2 with ⟨q, h0⟩ | ⟨g, cap, cur, q, hB, hh, hr⟩
  · injection q with q1 q2 q3
    refine ⟨fun _ => ⟨h0, q3⟩, fun ad e => ?_⟩
    rw [q1] at e
    cases e
  · injection q with q1 q2 q3
    subst q1
    refine ⟨(fun e => by cases e), fun ad e j u hu => ?_⟩
    cases e
    exact h.cells rfl j u hu
end Go.Proofs.YtkeilgompipfjaaGreatDoor.Ev
