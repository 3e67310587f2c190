/-
  Merged by program out of the texts UAll, CzSome, CzAll, Rdr, Shelf2, Fold of one seat.
-/
import Derived.Test.YtnomcldpbkinmaaGreatDoorG06
import Derived.Test.YtnomcldpbkinmaaGreatDoorG03
import Derived.Test.YtnomcldpbkinmaaGreatDoorG26
import Derived.Test.YtnomcldpbkinmaaGreatDoorProg
import Derived.Test.YtnomcldpbkinmaaGreatDoorG09
import Derived.Test.YtnomcldpbkinmaaGreatDoorG08
import Derived.Lib.Hide
import Derived.Below
import Derived.Laws.RangeAny
import Derived.Deep.QuietTactic
import Derived.BigQuiet
import Derived.Shelf.Small.Wraps
import Derived.Shelf.Strings.Prefix
import Derived.ScopeJumps
import Derived.WalkMore

/- The walk of utf.All. -/
set_option linter.unusedSimpArgs false
set_option linter.unusedVariables false
namespace Go.Proofs.YtnomcldpbkinmaaGreatDoor.Uz
open Go.RowKit

theorem Tryz.info21 : (Tryz.prog.info? 21).map (fun i => (i.zero, i.size, i.bytes)) = some (some (.int .i32 0), 1, 4) := by kernel_rfl
theorem Tryz.info5 : (Tryz.prog.info? 5).map (fun i => (i.zero, i.size, i.bytes)) = some (some (.int .u8 0), 1, 1) := by kernel_rfl

/-- A slice of runes of the call's own: from block B on. -/
def Own (w : World) (B : Nat) (v : Value) (l : List Int) : Prop := w.ownsRow B 21 1 v l.length (l.map (Value.int .i32))

def AllPost (s : ByteArray) (w : World) (x : List Int × Int × Int) (e : Ending) (w' : World) : Prop :=
  ∃ v, e = .returned (.tuple #[v, .int .i64 x.2.1, .int .i64 x.2.2]) ∧ Own w' w.heap.size v x.1 ∧ Below w.heap.size w w'

def AllRel (s : ByteArray) (w : World) (v i : Value) (wr : World) : Prop :=
  ∃ (a : Nat) (pre : List Int), a ≤ s.size ∧ i = .int .i64 a ∧ Own wr w.heap.size v pre ∧ Below w.heap.size w wr ∧ pre.length ≤ a ∧ allF s = (pre ++ (allAt s a).1, (allAt s a).2)

set_option maxHeartbeats 1000000 in
set_option maxRecDepth 100000 in
theorem all_any (s : ByteArray) (w : World) (hs : s.size ≤ 10000) :
    Calls Tryz.prog 114 #[.string s] w (AllPost s w (allF s)) := by
  obtain ⟨i0, hi, hz0, hz1, hz2⟩ := info_parts Tryz.info21
  have hm : s.size ≤ maxLen := by unfold maxLen; omega
  go_enter Tryz.func114, Tryz.ntmps114
  go_wp2_with fail
  go_loopw [5, 6] (fun v i wr => AllRel s w v i wr) (fun _ i _ => s.size - (intOf i).toNat)
  case atStart => exact ⟨0, [], Nat.zero_le _, rfl, World.ownsRow_nil _ _ _ _, Below.refl _ _, Nat.le_refl _, by simp [allF_eq]⟩
  case round =>
    obtain ⟨a, pre, ha, rfl, hown, hbel, hpre, hall⟩ := hrel
    by_cases hlt : a < s.size
    · have hk := runeF_okay s a hlt
      obtain ⟨r, n, er, hx⟩ : ∃ r n er, runeF s a = (r, n, er) := ⟨_, _, _, rfl⟩
      have hc := rune_at s a wr hm
      have H0 := allAt_err s a hlt
      have H1 := allAt_ok s a hlt
      rw [hx] at hk hc H0 H1
      clear hx
      unfold Okay at hk
      dsimp only at hk hc H0 H1
      have HC := Lib.hid hc
      clear hc
      by_cases he : er = 0
      · subst he
        have hn : 1 ≤ n ∧ n ≤ (s.size - a : Nat) := by omega
        have HF : Hid (allF s = ((pre ++ [r]) ++ (allAt s (a + n.toNat)).1, (allAt s (a + n.toNat)).2)) := by
          rw [H1 rfl] at hall
          show allF s = _
          rw [hall]
          simp
        obtain ⟨n, rfl⟩ := Int.eq_ofNat_of_zero_le (show 0 ≤ n by omega)
        rw [Int.toNat_natCast] at HF
        have hown' := hown.alloc (.cells #[.int .i32 r] 21)
        have hl2 := hbel.size
        clear H0 H1 hall hk
        go_wp2_with fail
        refine HC.out.mono ?_
        rintro e w1 ⟨rfl, rfl⟩
        go_wp2_with (at_builtin; refine wpList_append_own _ rfl _ _ 101 rfl w.heap.size 21 i0 (.int .i32 0) 1 4 Tryz.underlying101 hi hz0 hz1 hz2 rfl (by decide) _ _ _ rfl hown' ⟨wr.heap.size, 0, none⟩ 1 1 [.int .i32 r] rfl rfl ?c1 ?c2 ?c3 ?c4 ?c5 ?_)
        case c1 => exact cell_one_new _ _ _
        case c2 => intro u hu; simp at hu; subst hu; rfl
        case c3 => unfold maxLen; omega
        case c4 => omega
        case c5 => simp; omega
        intro v' w1 hown2 hgrow _
        go_wp2
        go_roundw
        case rel =>
          refine ⟨a + n, pre ++ [r], by omega, by go_num, ?_, ?_, by simp; omega, HF.out⟩
          · unfold Own; rw [List.map_append, List.length_append]; exact hown2
          · exact (hbel.alloc hl2 _).grown hgrow (by simp; omega) (fun g hg => (hown.lt g hg).1)
        case measure => simp [intOf]; omega
      · have HF : Hid (allF s = (pre, (a : Int), er)) := by
          rw [H0 he] at hall
          show allF s = _
          rw [hall]
          simp
        have te : (er != 0) = true := by simpa using he
        clear H0 H1 hall hk he
        go_wp2_with fail
        refine HC.out.mono ?_
        rintro e w1 ⟨rfl, rfl⟩
        go_wp2
        go_ret3
        rw [HF.out]
        exact ⟨_, rfl, hown, hbel⟩
    · have HF : Hid (allF s = (pre, (a : Int), 0)) := by
        rw [allAt_done s a (by omega)] at hall
        show allF s = _
        rw [hall]
        simp
      clear hall
      go_wp2
      go_ret3
      rw [HF.out]
      exact ⟨_, rfl, hown, hbel⟩
end Go.Proofs.YtnomcldpbkinmaaGreatDoor.Uz

/- The walk of char's some: whether a rune is in one of the classes that a slice of functions holds. -/
set_option linter.unusedSimpArgs false
set_option linter.unusedVariables false
namespace Go.Proofs.YtnomcldpbkinmaaGreatDoor.Cz
open Go.RowKit

def clsP (k : Nat) (r : Int) : Bool := if k = 115 then decide (Chr r) else decide (Blank r)
def Known (k : Nat) : Prop := k = 115 ∨ k = 91
def anyP (ks : List Nat) (r : Int) : Bool := ks.any (clsP · r)
theorem any_take (ks : List Nat) (r : Int) (i : Nat) (h : i < ks.length) : (ks.take (i + 1)).any (clsP · r) = ((ks.take i).any (clsP · r) || clsP (ks.getD i 0) r) := by
  rw [List.take_succ_eq_append_getElem h, List.any_append, List.any_cons, List.any_nil, Bool.or_false, List.getD_eq_getElem?_getD, List.getElem?_eq_getElem h]
  rfl
theorem any_hit (ks : List Nat) (r : Int) (i : Nat) (h : i < ks.length) (hc : clsP (ks.getD i 0) r = true) : anyP ks r = true := by
  refine List.any_eq_true.2 ⟨ks.getD i 0, ?_, hc⟩
  rw [List.getD_eq_getElem?_getD, List.getElem?_eq_getElem h]
  exact List.getElem_mem _

/-- The slice at A holds the classes ks. -/
def RdF (w : World) (A : Option Addr) (ks : List Nat) : Prop :=
  (∀ k ∈ ks, Known k) ∧ (ks = [] ∨ ∃ b off, A = some ⟨b, off, none⟩ ∧ b < w.heap.size ∧ ∀ j, j < ks.length → w.cell? ⟨b, off + j, none⟩ = some (.func (.func (ks.getD j 0)) #[] #[]))
theorem RdF.at_ {w : World} {A : Option Addr} {ks : List Nat} (h : RdF w A ks) {j : Nat} (hj : j < ks.length) :
    Known (ks.getD j 0) ∧ ∃ b off, A = some ⟨b, off, none⟩ ∧ b < w.heap.size ∧ w.cell? ⟨b, off + j, none⟩ = some (.func (.func (ks.getD j 0)) #[] #[]) := by
  refine ⟨h.1 _ (by rw [List.getD_eq_getElem?_getD, List.getElem?_eq_getElem hj]; exact List.getElem_mem _), ?_⟩
  rcases h.2 with h | ⟨b, off, rfl, hlt, hc⟩
  · subst h; simp at hj
  · exact ⟨b, off, rfl, hlt, hc j hj⟩

def SomeRel (ks : List Nat) (r : Int) (i : Value) : Prop := ∃ k : Nat, k ≤ ks.length ∧ i = .int .i64 k ∧ (ks.take k).any (clsP · r) = false

set_option maxHeartbeats 1000000 in
set_option maxRecDepth 100000 in
theorem some_any (r : Int) (A : Option Addr) (c : Nat) (ks : List Nat) (w : World) (h : RdF w A ks) (hl : ks.length ≤ 100) :
    Calls Tryz.prog 117 #[.int .i32 r, .slice A ks.length c] w fun e w' => e = .returned (.bool (anyP ks r)) ∧ w = w' := by
  obtain ⟨n, hn⟩ : ∃ n, n = ks.length := ⟨_, rfl⟩
  rw [← hn]
  have hn1 : n ≤ ks.length := by omega
  have hn2 : ks.length ≤ n := by omega
  clear hn
  go_enter Tryz.func117, Tryz.ntmps117
  go_wp2_with fail
  go_loop [9] (fun i => SomeRel ks r i) (fun i => ks.length - (intOf i).toNat)
  case atStart => exact ⟨0, Nat.zero_le _, rfl, by simp⟩
  case round =>
    obtain ⟨k, hk, rfl, ha⟩ := hrel
    have HA := Lib.hid ha
    clear ha
    by_cases hlt : k < n
    · obtain ⟨hkn, b, off, rfl, hb, hc⟩ := h.at_ (j := k) (by omega)
      have HS := Lib.hid (any_take ks r k (by omega))
      have HT := Lib.hid (any_hit ks r k (by omega))
      generalize ks.getD k 0 = f at hkn hc HS HT
      have hne : ∀ fn, Sem.run Tryz.prog (binOp BinOp.neq 153 (Value.func fn #[] #[]) Value.nilFunc) w = .ok (.bool true) w := fun fn => by kernel_rfl
      rcases hkn with rfl | rfl
      all_goals
        go_wp2_with (first | (go_at_call 115; refine (chr_any _ _).mono ?_; rintro e w' ⟨rfl, rfl⟩) | (go_at_call 91; refine (blank_any _ _).mono ?_; rintro e w' ⟨rfl, rfl⟩))
        · go_ret
          refine ⟨cret_bool (HT.out ?_).symm, rfl⟩
          simp_all [clsP]
        · go_round
          case rel => 
            refine ⟨k + 1, by omega, by go_num, ?_⟩
            rw [HS.out, HA.out]
            simp_all [clsP]
          case measure => simp [intOf]; omega
    · go_wp2
      go_ret
      have hkn : k = ks.length := by omega
      subst hkn
      have := HA.out
      rw [List.take_length] at this
      exact ⟨cret_bool this.symm, rfl⟩
end Go.Proofs.YtnomcldpbkinmaaGreatDoor.Cz

/- The walk of char.All: each rune of a text, as a range over it has them, is in one of the classes. -/
set_option linter.unusedSimpArgs false
set_option linter.unusedVariables false
namespace Go.Proofs.YtnomcldpbkinmaaGreatDoor.Cz
open Go.RowKit

/-- A text's runes from a place on. -/
def rgo (s : ByteArray) : Nat → Nat → List Int
  | 0, _ => []
  | f + 1, i => if i < s.size then ((Utf8.decode s i).1 : Int) :: rgo s f (i + (Utf8.decode s i).2) else []
def runes (s : ByteArray) : List Int := rgo s s.size 0
def allP (ks : List Nat) (s : ByteArray) : Bool := (runes s).all (anyP ks)

theorem width_pos (s : ByteArray) (pos : Nat) (h : pos < s.size) : 1 ≤ (Utf8.decode s pos).2 := by
  by_cases ha : (s[pos]'h).toNat < 128
  · rw [decode_ascii s pos h ha]
    exact Nat.le_refl _
  · exact (decode_high s pos h (by omega)).2
theorem rgo_end (s : ByteArray) (b pos : Nat) (h : ¬ pos < s.size) : rgo s b pos = [] := by
  cases b with
  | zero => rfl
  | succ b => simp [rgo, h]
theorem RdF.iter {w : World} {A : Option Addr} {ks : List Nat} (h : RdF w A ks) (s : ByteArray) (pos : Nat) : RdF (w.iter s pos) A ks := by
  refine ⟨h.1, ?_⟩
  rcases h.2 with h2 | ⟨b, off, rfl, hlt, hc⟩
  · exact .inl h2
  · refine .inr ⟨b, off, rfl, by simp [World.iter]; omega, fun j hj => ?_⟩
    rw [← hc j hj]
    exact ((Below.refl w.heap.size w).alloc (Nat.le_refl _) _).cell (p := ⟨b, off + j, none⟩) hlt

def AllRel (s : ByteArray) (ks : List Nat) (w : World) (wr : World) : Prop :=
  ∃ pos b : Nat, wr = w.iter s pos ∧ s.size ≤ pos + b ∧ (rgo s b pos).all (anyP ks) = allP ks s

set_option maxHeartbeats 1000000 in
set_option maxRecDepth 100000 in
theorem all_any (s : ByteArray) (A : Option Addr) (c n : Nat) (ks : List Nat) (w : World) (h : RdF w A ks) (hn : n = ks.length) (hl : ks.length ≤ 100) :
    Calls Tryz.prog 90 #[.string s, .slice A n c] w fun e w' => e = .returned (.bool (allP ks s)) ∧ Below w.heap.size w w' := by
  have HB := Lib.hid (fun pos => (Below.refl w.heap.size w).alloc (Nat.le_refl _) (.stringIter s pos))
  have HSM := Lib.hid (fun r pos => some_any r A c ks (w.iter s pos) (h.iter s pos) hl)
  rw [← hn] at HSM
  clear hn h
  go_enter Tryz.func90, Tryz.ntmps90
  go_wp2_with fail
  go_loopw [6] (fun _ wr => AllRel s ks w wr) (fun _ wr => s.size - wr.iterPos w.heap.size)
  case atStart => exact ⟨0, s.size, rfl, by omega, rfl⟩
  case round =>
    obtain ⟨pos, b, rfl, hb, ha⟩ := hrel
    have HA := Lib.hid ha
    clear ha
    by_cases hp : pos < s.size
    · have hnx : ∀ ty, (Instr.next (.pointer (some ⟨w.heap.size, 0, none⟩)) true ty).run Tryz.prog (w.iter s pos) = _ := fun ty => run_next_any w s pos ty hp
      have hwd := width_pos s pos hp
      obtain ⟨b, rfl⟩ : ∃ b', b = b' + 1 := ⟨b - 1, by omega⟩
      have HR : Hid (rgo s (b + 1) pos = ((Utf8.decode s pos).1 : Int) :: rgo s b (pos + (Utf8.decode s pos).2)) := Lib.hid (by simp [rgo, hp])
      generalize (Utf8.decode s pos).1 = r at *
      generalize (Utf8.decode s pos).2 = d at *
      go_wp2_with (go_at_call 117; refine (HSM.out _ _).mono ?_; rintro e w' ⟨rfl, rfl⟩)
      · go_ret
        rename_i hq
        have hz : anyP ks (r : Int) = false := by simpa using hq
        refine ⟨cret_bool ?_, HB.out _⟩
        rw [← HA.out, HR.out, List.all_cons, hz, Bool.false_and]
      · rename_i hq
        have hz : anyP ks (r : Int) = true := by simpa using hq
        refine ⟨⟨pos + d, b, rfl, by omega, ?_⟩, ?_⟩
        · rw [← HA.out, HR.out, List.all_cons, hz, Bool.true_and]
        · simp
          omega
    · have hnx : ∀ ty, (Instr.next (.pointer (some ⟨w.heap.size, 0, none⟩)) true ty).run Tryz.prog (w.iter s pos) = _ := fun ty => run_next_end w s pos ty hp
      have HE := Lib.hid (rgo_end s b pos hp)
      go_wp2
      go_ret
      have := HA.out
      rw [HE.out] at this
      exact ⟨cret_bool (by rw [← this]; rfl), HB.out pos⟩
theorem Blk0 (w : World) (t : TypeId) (cs : Array Value) (i : Nat) : (w.alloc (.cells cs t)).cell? ⟨w.heap.size, i, none⟩ = cs[i]? := World.cell?_alloc_mark w cs t (0, 0) i
theorem rdf_lit1 (w : World) (k : Nat) (hk : Known k) : RdF (w.alloc (.cells #[.func (.func k) #[] #[]] 153)) (some ⟨w.heap.size, 0, none⟩) [k] := by
  refine ⟨fun x hx => by simp at hx; rw [hx]; exact hk, .inr ⟨w.heap.size, 0, rfl, by simp, fun j hj => ?_⟩⟩
  rw [Nat.zero_add, Blk0]
  match j, hj with
  | 0, _ => rfl
theorem all1 (s : ByteArray) (k : Nat) (hk : Known k) (w : World) : Calls Tryz.prog 90 #[.string s, .slice (some ⟨w.heap.size, 0, none⟩) 1 1] (w.alloc (.cells #[.func (.func k) #[] #[]] 153)) fun e w' => e = .returned (.bool (allP [k] s)) ∧ Below w.heap.size w w' :=
  (all_any s (some ⟨w.heap.size, 0, none⟩) 1 1 [k] _ (rdf_lit1 w k hk) rfl (by simp)).mono fun e w' ⟨h1, h2⟩ => ⟨h1, ((Below.refl _ w).alloc (Nat.le_refl _) _).trans (h2.mono (by simp))⟩
end Go.Proofs.YtnomcldpbkinmaaGreatDoor.Cz

/- The walks of scan's small readings: comment, startTag, endTag, refused, upTo, unquoted, sound. -/
set_option linter.unusedSimpArgs false
set_option linter.unusedVariables false
namespace Go.Proofs.YtnomcldpbkinmaaGreatDoor
open Go.RowKit

theorem tk0 : tkV T0 = .agg #[.int .i64 0, .string ⟨#[]⟩, .bool false, .bool false] := by unfold tkV T0; rw [str_none]
theorem str_byts (s : ByteArray) : strOfNums (byts s) = s := (str_of_byts rfl).symm

set_option maxHeartbeats 1000000 in
set_option maxRecDepth 100000 in
theorem comment_any (s : ByteArray) (at_ : Int) (w : World) (hs : s.size ≤ 10000) (hG : Gl w) : Calls Tryz.prog 105 #[.string s, .int .i64 at_] w (RdrPost (commR (byts s)) w) := by
  have HG := Lib.hid hG
  clear hG
  have hBel := (Below.refl w.heap.size w).alloc (Nat.le_refl _) (.cells #[.int .i64 0, .string ⟨#[]⟩, .bool false, .bool false] 42)
  have HB := Lib.hid hBel
  clear hBel
  by_cases h1 : (fnd [45, 45] (byts s)).isSome = true
  · have C1 := Lib.hid (fun W (hW : Gl W) => cont_any s ⟨#[45, 45]⟩ W (by omega) hW true h1)
    have HR : Hid (commR (byts s) = (T0, 6)) := Lib.hid (by unfold commR; rw [if_pos (.inl h1)])
    clear h1
    go_enter Tryz.func105, Tryz.ntmps105
    go_wp2_with fail
    refine (C1.out _ (HG.out.alloc _)).mono ?_
    rintro e w1 ⟨rfl, rfl⟩
    go_wp2_with fail
    refine bodyPost_ret (v := .tuple #[.agg #[.int .i64 0, .string ⟨#[]⟩, .bool false, .bool false], .int .i64 6]) (by simp [results, Tryz.results105, go_sem]) rfl ?_
    rw [HR.out]
    exact ⟨by rw [tk0], HB.out⟩
  · have h1' : (fnd [45, 45] (byts s)).isSome = false := by simpa using h1
    have C1 := Lib.hid (fun W (hW : Gl W) => cont_any s ⟨#[45, 45]⟩ W (by omega) hW false h1')
    by_cases h2 : (byts s).getLast? = some 45
    · have C2 := Lib.hid (fun W => hassuf_any s 45 W (by omega) true (decide_eq_true h2))
      have HR : Hid (commR (byts s) = (T0, 6)) := Lib.hid (by unfold commR; rw [if_pos (.inr h2)])
      clear h1 h1' h2
      go_enter Tryz.func105, Tryz.ntmps105
      go_wp2_with fail
      refine (C1.out _ (HG.out.alloc _)).mono ?_
      rintro e w1 ⟨rfl, rfl⟩
      go_wp2_with fail
      refine (C2.out _).mono ?_
      rintro e w1 ⟨rfl, rfl⟩
      go_wp2_with fail
      refine bodyPost_ret (v := .tuple #[.agg #[.int .i64 0, .string ⟨#[]⟩, .bool false, .bool false], .int .i64 6]) (by simp [results, Tryz.results105, go_sem]) rfl ?_
      rw [HR.out]
      exact ⟨by rw [tk0], HB.out⟩
    · have C2 := Lib.hid (fun W => hassuf_any s 45 W (by omega) false (decide_eq_false h2))
      have HR : Hid (commR (byts s) = (⟨4, byts s, false, false⟩, 0)) := Lib.hid (by unfold commR; rw [if_neg (by rintro (h | h); exact h1 h; exact h2 h)])
      clear h1 h1' h2
      go_enter Tryz.func105, Tryz.ntmps105
      go_wp2_with fail
      refine (C1.out _ (HG.out.alloc _)).mono ?_
      rintro e w1 ⟨rfl, rfl⟩
      go_wp2_with fail
      refine (C2.out _).mono ?_
      rintro e w1 ⟨rfl, rfl⟩
      go_wp2_with fail
      refine bodyPost_ret (v := .tuple #[.agg #[.int .i64 4, .string s, .bool false, .bool false], .int .i64 0]) (by simp [results, Tryz.results105, go_sem]) rfl ?_
      rw [HR.out]
      exact ⟨by unfold tkV; rw [str_byts], (Below.refl w.heap.size w).alloc (Nat.le_refl _) _⟩
set_option maxHeartbeats 1000000 in
set_option maxRecDepth 100000 in
theorem startTag_any (s : ByteArray) (at_ : Int) (w : World) (hs : s.size ≤ 10000) (hG : Gl w) : Calls Tryz.prog 110 #[.string s, .int .i64 at_] w (RdrPost (startR (byts s)) w) := by
  have HG := Lib.hid hG
  clear hG
  have HB := Lib.hid ((Below.refl w.heap.size w).alloc (Nat.le_refl _) (.cells #[.int .i64 0, .string ⟨#[]⟩, .bool false, .bool false] 42))
  by_cases h1 : (60 : Int) ∈ byts s
  · have C1 := Lib.hid (fun W (hW : Gl W) => cont_any s ⟨#[60]⟩ W (by omega) hW true ((fnd_mem 60 _).2 h1))
    have HR : Hid (startR (byts s) = (T0, 6)) := Lib.hid (by unfold startR; rw [if_pos h1])
    clear h1
    go_enter Tryz.func110, Tryz.ntmps110
    go_wp2_with fail
    refine (C1.out _ (HG.out.alloc _)).mono ?_
    rintro e w1 ⟨rfl, rfl⟩
    go_wp2_with fail
    refine bodyPost_ret (v := .tuple #[.agg #[.int .i64 0, .string ⟨#[]⟩, .bool false, .bool false], .int .i64 6]) (by simp [results, Tryz.results110, go_sem]) rfl ?_
    rw [HR.out]
    exact ⟨by rw [tk0], HB.out⟩
  · have h1' : (fnd (byts ⟨#[60]⟩) (byts s)).isSome = false := by
      cases hf : (fnd (byts ⟨#[60]⟩) (byts s)).isSome with
      | false => rfl
      | true => exact absurd ((fnd_mem 60 _).1 hf) h1
    have C1 := Lib.hid (fun W (hW : Gl W) => cont_any s ⟨#[60]⟩ W (by omega) hW false h1')
    by_cases h2 : (byts s).getLast? = some 47
    · have C2 := Lib.hid (fun W => cutsuf_any s 47 W (by omega) true (decide_eq_true h2))
      simp only [if_true] at C2
      have HR : Hid (startR (byts s) = (⟨1, (byts s).dropLast, true, false⟩, 0)) := Lib.hid (by unfold startR; rw [if_neg h1, if_pos h2])
      clear h1 h1' h2
      generalize hr : strOfNums (byts s).dropLast = r at C2
      have HRr := Lib.hid hr
      clear hr
      go_enter Tryz.func110, Tryz.ntmps110
      go_wp2_with fail
      refine (C1.out _ (HG.out.alloc _)).mono ?_
      rintro e w1 ⟨rfl, rfl⟩
      go_wp2_with fail
      refine (C2.out _).mono ?_
      rintro e w1 ⟨rfl, rfl⟩
      go_wp2_with fail
      refine bodyPost_ret (v := .tuple #[.agg #[.int .i64 1, .string r, .bool true, .bool false], .int .i64 0]) (by simp [results, Tryz.results110, go_sem]) rfl ?_
      rw [HR.out]
      exact ⟨by unfold tkV; rw [HRr.out], (Below.refl w.heap.size w).alloc (Nat.le_refl _) _⟩
    · have C2 := Lib.hid (fun W => cutsuf_any s 47 W (by omega) false (decide_eq_false h2))
      simp only [Bool.false_eq_true, if_false] at C2
      have HR : Hid (startR (byts s) = (⟨1, byts s, false, false⟩, 0)) := Lib.hid (by unfold startR; rw [if_neg h1, if_neg h2])
      clear h1 h1' h2
      go_enter Tryz.func110, Tryz.ntmps110
      go_wp2_with fail
      refine (C1.out _ (HG.out.alloc _)).mono ?_
      rintro e w1 ⟨rfl, rfl⟩
      go_wp2_with fail
      refine (C2.out _).mono ?_
      rintro e w1 ⟨rfl, rfl⟩
      go_wp2_with fail
      refine bodyPost_ret (v := .tuple #[.agg #[.int .i64 1, .string s, .bool false, .bool false], .int .i64 0]) (by simp [results, Tryz.results110, go_sem]) rfl ?_
      rw [HR.out]
      exact ⟨by unfold tkV; rw [str_byts], (Below.refl w.heap.size w).alloc (Nat.le_refl _) _⟩
theorem str_size (l : List Int) : (strOfNums l).size = l.length := by
  have : (strOfNums l).size = (strOfNums l).data.toList.length := by simp
  rw [this, strOfNums_data, List.length_map]
theorem trimR_len (l : List Int) : (trimR l).length ≤ l.length := by
  unfold trimR
  rw [List.length_reverse]
  have := (List.dropWhile_suffix (l := l.reverse) blk?).length_le
  rwa [List.length_reverse] at this
set_option maxHeartbeats 1000000 in
set_option maxRecDepth 100000 in
theorem endTag_of (s f : ByteArray) (at_ : Int) (a b : ByteArray) (ok : Bool) (w : World) (hG : Gl w)
    (C1 : Hid (∀ W, Gl W → Calls Tryz.prog 135 #[.string s, .func (.func 91) #[] #[]] W fun e w' => e = .returned (.string f) ∧ Below W.heap.size W w'))
    (C2 : Hid (∀ W, Calls Tryz.prog 99 #[.string f] W fun e w' => e = .returned (.tuple #[.string a, .string b, .bool ok]) ∧ Below W.heap.size W w')) :
    Calls Tryz.prog 108 #[.string s, .int .i64 at_] w fun e w' => e = .returned (.tuple #[if ok = true then .agg #[.int .i64 2, .string f, .bool false, .bool false] else .agg #[.int .i64 0, .string ⟨#[]⟩, .bool false, .bool false], .int .i64 (if ok = true then 0 else 4)]) ∧ Below w.heap.size w w' := by
  have HG := Lib.hid hG
  clear hG
  have HB := Lib.hid ((Below.refl w.heap.size w).alloc (Nat.le_refl _) (.cells #[.int .i64 0, .string ⟨#[]⟩, .bool false, .bool false] 42))
  have HN := Lib.hid (res_new w)
  cases ok
  all_goals
    simp only [Bool.false_eq_true, if_false, if_true]
    go_enter Tryz.func108, Tryz.ntmps108
    go_wp2_with fail
    refine (C1.out _ (HG.out.alloc _)).mono ?_
    rintro e w1 ⟨rfl, hb1⟩
    go_wp2_with fail
    refine (C2.out _).mono ?_
    rintro e w2 ⟨rfl, hb2⟩
    have hz1 : w.heap.size < w1.heap.size := by have := hb1.size; simp at this; omega
    have hz2 : w.heap.size < w2.heap.size := Nat.lt_of_lt_of_le hz1 hb2.size
    have hb := HB.out.trans (hb1.mono (by simp))
    have HB2 := Lib.hid (hb.trans (hb2.mono hb.size))
    obtain ⟨c0, c1, c2, c3, f0, f1, f2, f3⟩ := (HN.out.keep hb1 (by simp)).keep hb2 hz1
    clear hb1 hb2 hb
    go_wp2_with fail
  · exact bodyPost_ret (v := .tuple #[.agg #[.int .i64 0, .string ⟨#[]⟩, .bool false, .bool false], .int .i64 4]) (by simp [results, Tryz.results108, go_sem, c0, c1, c2, c3, hz2]) rfl ⟨rfl, below_set4 HB2.out (Nat.le_refl _) _ _ _ _⟩
  · exact bodyPost_ret (v := .tuple #[.agg #[.int .i64 2, .string f, .bool false, .bool false], .int .i64 0]) (by simp [results, Tryz.results108, go_sem, c0, c1, c2, c3, hz2]) rfl ⟨rfl, below_set4 HB2.out (Nat.le_refl _) _ _ _ _⟩
theorem endTag_any (s : ByteArray) (at_ : Int) (w : World) (hs : s.size ≤ 10000) (hG : Gl w) : Calls Tryz.prog 108 #[.string s, .int .i64 at_] w (RdrPost (endR (byts s)) w) := by
  have hl := trimR_len (byts s)
  rw [byts_len] at hl
  refine (endTag_of s _ at_ _ _ _ w hG (Lib.hid fun W hW => trimr_any s W (by omega) hW) (Lib.hid fun W => Nz.split_any (strOfNums (trimR (byts s))) (by rw [str_size]; omega) W)).mono ?_
  rintro e w' ⟨rfl, hb⟩
  refine ⟨?_, hb⟩
  unfold endR nmB
  cases (Nz.splitA (strOfNums (trimR (byts s)))).2.2 with
  | true => rfl
  | false =>
    simp only [Bool.false_eq_true, if_false, if_true]
    rw [tk0]
set_option maxHeartbeats 1000000 in
set_option maxRecDepth 100000 in
theorem refused_any (s : ByteArray) (at_ er : Int) (b : Nat) (w : World) (hc : w.cell? ⟨b, 0, none⟩ = some (.int .i64 er)) : Calls Tryz.prog 131 #[.string s, .int .i64 at_, .pointer (some ⟨b, 0, none⟩)] w (RdrPost (T0, er) w) := by
  have hlt : b < w.heap.size := Lib.lt_of_cell hc
  have hne : ¬ b = w.heap.size := by omega
  have hc2 : ∀ o, (w.alloc o).cell? ⟨b, 0, none⟩ = some (.int .i64 er) := fun o => (((Below.refl w.heap.size w).alloc (Nat.le_refl _) o).cell (p := ⟨b, 0, none⟩) hlt).trans hc
  have HB := Lib.hid ((Below.refl w.heap.size w).alloc (Nat.le_refl _) (.cells #[.int .i64 0, .string ⟨#[]⟩, .bool false, .bool false] 42))
  go_enter Tryz.func131, Tryz.ntmps131
  go_wp2
  go_region
  all_goals
    go_wp2
    exact bodyPost_ret (v := .tuple #[tkV T0, .int .i64 er]) (by rw [tk0]; simp [results, Tryz.results131, go_sem]) rfl ⟨rfl, HB.out.drew⟩
end Go.Proofs.YtnomcldpbkinmaaGreatDoor

/- The library's contracts of strings.CutPrefix and HasPrefix, laid at this program (written by the kit's own two commands). -/
set_option linter.unusedVariables false
namespace Go.Proofs.YtnomcldpbkinmaaGreatDoor
open Go.Shelf
def Tryz.lays103_ren : Go.Shelf.Ren := ⟨fun | 103 => 83 | 210 => 111 | 206 => 112 | n => n, fun | 9 => 9 | 4 => 4 | 24 => 97 | 3 => 3 | n => n, fun | n => n⟩
theorem Tryz.lays103 : Go.Proofs.Lays.n103 Tryz.prog Tryz.lays103_ren := {
  mixed := by kernel_rfl
  f103 := Tryz.func83.trans (congrArg some (by kernel_rfl))
  f206 := Tryz.func112.trans (congrArg some (by kernel_rfl))
  f210 := Tryz.func111.trans (congrArg some (by kernel_rfl))
  t3 := Tryz.underlying3
  a3 := Tryz.isAgg3
  z3 := Tryz.sizeOf3
  v3 := Tryz.zeroValue3
  t4 := Tryz.underlying4
  a4 := Tryz.isAgg4
  z4 := Tryz.sizeOf4
  v4 := Tryz.zeroValue4
  t9 := Tryz.underlying9
  a9 := Tryz.isAgg9
  z9 := Tryz.sizeOf9
  v9 := Tryz.zeroValue9
  t24 := Tryz.underlying97
  a24 := Tryz.isAgg97
  z24 := Tryz.sizeOf97
  v24 := Tryz.zeroValue97 }
open Go.RowKit in
theorem Tryz.strings_CutPrefix (s p : ByteArray) (w : World) :
    Calls Tryz.prog 83 #[.string s, .string p] w fun e w' => e = .returned (.tuple #[.string ⟨(Lib.trimPrefix s.data.toList p.data.toList).toArray⟩, .bool (Lib.hasPrefix s.data.toList p.data.toList)]) ∧ w' = w := Any.strings_CutPrefix Tryz.lays103 s p w
def Tryz.lays99_ren : Go.Shelf.Ren := ⟨fun | 99 => 85 | 206 => 112 | n => n, fun | 9 => 9 | 4 => 4 | 3 => 3 | n => n, fun | n => n⟩
theorem Tryz.lays99 : Go.Proofs.Lays.n99 Tryz.prog Tryz.lays99_ren := {
  mixed := by kernel_rfl
  f99 := Tryz.func85.trans (congrArg some (by kernel_rfl))
  f206 := Tryz.func112.trans (congrArg some (by kernel_rfl))
  t3 := Tryz.underlying3
  a3 := Tryz.isAgg3
  z3 := Tryz.sizeOf3
  v3 := Tryz.zeroValue3
  t4 := Tryz.underlying4
  a4 := Tryz.isAgg4
  z4 := Tryz.sizeOf4
  v4 := Tryz.zeroValue4
  t9 := Tryz.underlying9
  a9 := Tryz.isAgg9
  z9 := Tryz.sizeOf9
  v9 := Tryz.zeroValue9 }
open Go.RowKit Go.Lib in
theorem Tryz.strings_HasPrefix (s p : ByteArray) (w : World) :
    Calls Tryz.prog 85 #[.string s, .string p] w fun e w' => e = .returned (.bool (Lib.hasPrefix s.data.toList p.data.toList)) ∧ w' = w := Any.strings_HasPrefix Tryz.lays99 s p w
end Go.Proofs.YtnomcldpbkinmaaGreatDoor

/- The walk of strings.EqualFold at a second text whose letters have no other spelling beyond 7f; of unicode.SimpleFold below 80. -/
set_option linter.unusedSimpArgs false
set_option linter.unusedVariables false
namespace Go.Proofs.YtnomcldpbkinmaaGreatDoor
open Go.RowKit

theorem wp_scope_once {P : Program} {a : Act} {w : World} {Q : Exit → Act → World → Prop} {c rest : Code} (l : Nat) (hf : findLabel c l = some rest)
    (first : c.wp P (Exit.jump l (fun a w => rest.wp P (Exit.noGoto Q) a w) Q) a w) : (Code.scope c).wp P Q a w :=
  wp_scope_jumps l (fun a w => rest.wp P (Exit.noGoto Q) a w) (fun _ _ => 0) hf first fun a w h => wp_mono h fun e a w he => by
    cases e with
    | goto l' => exact he.elim
    | _ => exact he

theorem jump_ret {l : Nat} {J : Act → World → Prop} {Q : Exit → Act → World → Prop} {a : Act} {w : World} : Exit.jump l J Q .ret a w = Q .ret a w := rfl
theorem foldC_bd (c : Nat) (h : c < 128) : 0 ≤ foldC c ∧ foldC c ≤ 8490 := by
  unfold foldC
  repeat' split
  all_goals omega
set_option maxHeartbeats 1000000 in
set_option maxRecDepth 100000 in
theorem sf_any (c : Nat) (w : World) (h : c < 128) (hG : Gl w) : Calls Tryz.prog 161 #[.int .i32 c] w fun e w' => e = .returned (.int .i32 (foldC c)) ∧ w = w' := by
  have hc := hG.fold c h
  have hb := foldC_bd c h
  generalize foldC c = f at *
  clear hG
  go_enter Tryz.func161, Tryz.ntmps161
  go_wp2
  go_ret
  exact ⟨rfl, rfl⟩
set_option maxHeartbeats 1000000 in
set_option maxRecDepth 100000 in
theorem dr_any (t : ByteArray) (w : World) (h0 : 0 < t.size) (ht : t.size ≤ 1000000) (h : bt t 0 < 128) : Calls Tryz.prog 160 #[.string t] w fun e w' => e = .returned (.tuple #[.int .i32 (bt t 0), .int .i64 1]) ∧ w = w' := by
  have hb := bt_eq t 0 h0
  have h1 := bt_lo t 0
  generalize bt t 0 = x at *
  have hne : t.toList.isEmpty = false := by rw [Nz.isE]; exact decide_eq_false (by omega)
  go_enter Tryz.func160, Tryz.ntmps160
  go_wp2
  go_ret2
  exact ⟨rfl, rfl⟩

/-- A letter whose other spelling is below 80, too. -/
def FO (c : Int) : Prop := 0 ≤ c ∧ c < 128 ∧ foldC c.toNat < 128 ∧ foldC (foldC c.toNat).toNat = c
theorem small1_hi {c : Int} (h : 128 ≤ c) : small1 c = c := by unfold small1; rw [if_neg (by omega)]
theorem small1_lo {c : Int} (h : c < 128) : small1 c < 128 := by
  unfold small1
  split
  all_goals omega
theorem small_get (s : ByteArray) (k : Nat) (h : k < s.size) : (smallF (byts s))[k]? = some (small1 (bt s k)) := by
  unfold smallF
  rw [List.getElem?_map, bt_byts, List.getD_eq_getElem?_getD, List.getElem?_eq_getElem (by rw [byts_len]; exact h)]
  rfl
theorem small_ne {s t : ByteArray} {k : Nat} (hs : k < s.size) (ht : k < t.size) (h : small1 (bt s k) ≠ small1 (bt t k)) : decide (smallF (byts s) = smallF (byts t)) = false := by
  refine decide_eq_false fun e => h ?_
  have := congrArg (·[k]?) e
  simp only [small_get s k hs, small_get t k ht, Option.some.injEq] at this
  exact this
theorem small_len {s t : ByteArray} (h : s.size ≠ t.size) : decide (smallF (byts s) = smallF (byts t)) = false := by
  refine decide_eq_false fun e => h ?_
  have := congrArg List.length e
  unfold smallF at this
  simpa [byts_len] using this
theorem small_same {s t : ByteArray} (h : s.size = t.size) (ha : ∀ j, j < s.size → small1 (bt s j) = small1 (bt t j)) : decide (smallF (byts s) = smallF (byts t)) = true := by
  refine decide_eq_true ?_
  apply List.ext_getElem?
  intro i
  rcases Nat.lt_or_ge i s.size with g | g
  · rw [small_get s i g, small_get t i (by omega), ha i g]
  · rw [List.getElem?_eq_none (by unfold smallF; rw [List.length_map, byts_len]; omega), List.getElem?_eq_none (by unfold smallF; rw [List.length_map, byts_len]; omega)]
theorem bt_ext (t : ByteArray) (k : Nat) : bt (t.extract k t.size) 0 = bt t k := by
  rw [bt_byts, bt_byts, byts_extract, List.take_of_length_le (by rw [byts_len]; omega), List.getD_eq_getElem?_getD, List.getElem?_drop, Nat.add_zero, ← List.getD_eq_getElem?_getD]
theorem ext_size (t : ByteArray) (k : Nat) : (t.extract k t.size).size = t.size - k := by rw [← byts_len, byts_extract, List.length_drop, List.length_take, byts_len]; omega
theorem fret_bool {a b : Bool} (h : b = a) : Ending.returned (.bool a) = .returned (.bool b) := by rw [h]
theorem fold_yes {x y : Nat} (h : x = y ∨ (65 ≤ x ∧ x ≤ 90 ∧ y = x + 32) ∨ (65 ≤ y ∧ y ≤ 90 ∧ x = y + 32)) : small1 (x : Int) = small1 (y : Int) := by
  unfold small1
  repeat' split
  all_goals omega
theorem fold_no {x y : Nat} (h0 : x < 128) (h1 : y < 128) (h : ¬ (x = y ∨ (65 ≤ x ∧ x ≤ 90 ∧ y = x + 32) ∨ (65 ≤ y ∧ y ≤ 90 ∧ x = y + 32))) : small1 (x : Int) ≠ small1 (y : Int) := by
  unfold small1
  repeat' split
  all_goals omega
theorem FoRel_step {s t : ByteArray} {k x y : Nat} (ha : ∀ j, j < k → small1 (bt s j) = small1 (bt t j)) (hx : bt s k = x ∧ bt t k = y) (h : small1 (x : Int) = small1 (y : Int)) : ∀ j, j < k + 1 → small1 (bt s j) = small1 (bt t j) := fun j hj => by
  rcases Nat.lt_or_eq_of_le (Nat.le_of_lt_succ hj) with e | e
  · exact ha j e
  · rw [e, hx.1, hx.2, h]
def FoRel (s t : ByteArray) (i : Value) : Prop := ∃ k : Nat, k ≤ s.size ∧ k ≤ t.size ∧ i = .int .i64 k ∧ ∀ j, j < k → small1 (bt s j) = small1 (bt t j)
set_option maxHeartbeats 4000000 in
set_option maxRecDepth 100000 in
theorem fold_any (s t : ByteArray) (w : World) (hs : s.size ≤ 1000000) (ht : t.size ≤ 100) (hF : ∀ j, j < t.size → FO (bt t j)) (hG : Gl w) :
    Calls Tryz.prog 133 #[.string s, .string t] w fun e w' => e = .returned (.bool (decide (smallF (byts s) = smallF (byts t)))) ∧ Below w.heap.size w w' := by
  obtain ⟨M, hM⟩ : ∃ M : Nat, min (s.size : Int) (t.size : Int) = (M : Int) := ⟨min s.size t.size, by omega⟩
  have hMs : M ≤ s.size := by omega
  have hMt : M ≤ t.size := by omega
  have hMe : M = s.size ∨ M = t.size := by omega
  have HG := Lib.hid hG
  have HF := Lib.hid hF
  clear hG hF
  go_enter Tryz.func133, Tryz.ntmps133
  go_wp2_with fail
  refine wp_scope_once 0 rfl ?_
  go_wp2_with fail
  go_loop [5] (fun i => FoRel s t i) (fun i => M - (intOf i).toNat)
  case atStart => exact ⟨0, Nat.zero_le _, Nat.zero_le _, rfl, fun j hj => by omega⟩
  case round =>
    obtain ⟨k, hks, hkt, rfl, hall⟩ := hrel
    have HA := Lib.hid hall
    clear hall hM
    by_cases hlt : k < M
    · obtain ⟨x, hx⟩ : ∃ x : UInt8, s[k]'(by omega) = x := ⟨_, rfl⟩
      obtain ⟨y, hy⟩ : ∃ y : UInt8, t[k]'(by omega) = y := ⟨_, rfl⟩
      have HX : Hid (bt s k = (x.toNat : Int) ∧ bt t k = (y.toNat : Int)) := Lib.hid ⟨by rw [← bt_eq s k (by omega), hx], by rw [← bt_eq t k (by omega), hy]⟩
      have hfo := HF.out k (by omega)
      rw [HX.out.2] at hfo
      have hy128 : y.toNat < 128 := by have := hfo.2.1; omega
      have hor : bits .or .u8 (x.toNat : Int) (y.toNat : Int) = ((x.toNat ||| y.toNat : Nat) : Int) := u8_or_nat _ _ (by have := x.toNat_lt; omega) (by omega)
      have hkM : (k : Int) < (M : Int) := by omega
      have hk1 : (k : Int) < (s.size : Int) := by omega
      have hk2 : (k : Int) < (t.size : Int) := by omega
      have HFO := Lib.hid hfo
      clear hfo
      by_cases hx128 : x.toNat < 128
      · have hor128 : ¬ ((128 : Int) ≤ ((x.toNat ||| y.toNat : Nat) : Int)) := by have := Nat.or_lt_two_pow (n := 7) hx128 hy128; omega
        go_wp2_with fail
        all_goals (try simp only [beq_iff_eq, beq_eq_false_iff_ne, ne_eq] at *)
        all_goals first
          | (go_round
             case rel => exact ⟨k + 1, by omega, by omega, by go_num, FoRel_step HA.out HX.out (fold_yes (by omega))⟩
             case measure => simp only [intOf]; omega)
          | (rw [jump_ret]
             go_ret
             exact ⟨fret_bool (small_ne (k := k) (by omega) (by omega) (by rw [HX.out.1, HX.out.2]; exact fold_no (by omega) (by omega) (by omega))), Below.refl _ _⟩)
      · have hor128 : (128 : Int) ≤ ((x.toNat ||| y.toNat : Nat) : Int) := by have := Nat.left_le_or (n := x.toNat) (m := y.toNat); omega
        have hS0 : 0 < (s.extract k s.size).size := by rw [← byts_len, byts_extract, List.length_drop, List.length_take, byts_len]; omega
        have hT0 : 0 < (t.extract k t.size).size := by rw [← byts_len, byts_extract, List.length_drop, List.length_take, byts_len]; omega
        have hnx : ∀ ty, (Instr.next (.pointer (some ⟨w.heap.size, 0, none⟩)) true ty).run Tryz.prog (w.iter (s.extract k s.size) 0) = _ := fun ty => run_next_any w (s.extract k s.size) 0 ty hS0
        have hR : 128 ≤ (Utf8.decode (s.extract k s.size) 0).1 := by
          refine (decode_high _ 0 hS0 ?_).1
          have := bt_ext s k
          rw [← bt_eq _ 0 hS0, HX.out.1] at this
          omega
        have hR2 : (Utf8.decode (s.extract k s.size) 0).1 ≤ 1114111 := Lib.rune_le _ _
        generalize (Utf8.decode (s.extract k s.size) 0).1 = r at *
        generalize (Utf8.decode (s.extract k s.size) 0).2 = d at *
        go_wp2_with fail
        go_step3
        refine ⟨rfl, ?_⟩
        go_wp2_with fail
        go_loopw [1] (fun v wr => wr = w.iter (s.extract k s.size) 0 ∧ v = .string (t.extract k t.size)) (fun _ _ => 0)
        case atStart => exact ⟨rfl, rfl⟩
        case round =>
          obtain ⟨rfl, rfl⟩ := hrel
          have HD := Lib.hid (fun W => dr_any (t.extract k t.size) W hT0 (by rw [ext_size]; omega) (by rw [bt_ext, HX.out.2]; omega))
          rw [bt_ext, HX.out.2] at HD
          have HN : Hid (small1 (bt s k) ≠ small1 (bt t k)) := Lib.hid (by
            rw [HX.out.1, HX.out.2, small1_hi (by omega)]
            have := small1_lo (c := (y.toNat : Int)) (by omega)
            omega)
          have HSF := Lib.hid (fun c (hc : c < 128) p => sf_any c (w.iter (s.extract k s.size) p) hc (HG.out.alloc _))
          obtain ⟨f, hf⟩ : ∃ f : Nat, foldC y.toNat = f := ⟨(foldC y.toNat).toNat, by have := foldC_bd y.toNat hy128; omega⟩
          have hfo := HFO.out
          unfold FO at hfo
          rw [Int.toNat_natCast, hf, Int.toNat_natCast] at hfo
          have hf1 : f < 128 := by omega
          have HS1 := Lib.hid (HSF.out y.toNat hy128)
          have HS2 := Lib.hid (HSF.out f hf1)
          rw [hf] at HS1
          rw [hfo.2.2.2] at HS2
          clear hf hfo HSF
          have hT1 : (1 : Int) ≤ ((t.extract k t.size).size : Int) := by omega
          have t1 : ((y.toNat : Int) == (r : Int)) = false := by rw [beq_eq_false_iff_ne]; omega
          go_wp2_with fail
          refine (HD.out _).mono ?_
          rintro e w1 ⟨rfl, rfl⟩
          go_wp2_with fail
          refine (HS1.out _).mono ?_
          rintro e w1 ⟨rfl, rfl⟩
          go_wp2_with fail
          go_loop [13] (fun z => z = .int .i32 (y.toNat : Int) ∨ (z = .int .i32 (f : Int) ∧ f ≠ y.toNat)) (fun z => if intOf z = (y.toNat : Int) then 0 else 1)
          case atStart =>
            by_cases e : f = y.toNat
            · exact .inl (by rw [e])
            · exact .inr ⟨rfl, e⟩
          case round =>
            rcases hrel with rfl | ⟨rfl, hne⟩
            · go_wp2_with fail
              go_ret
              exact ⟨fret_bool (small_ne (k := k) (by omega) (by omega) HN.out), (Below.refl _ w).alloc (Nat.le_refl _) _⟩
            · have t2 : ((f : Int) == (y.toNat : Int)) = false := by rw [beq_eq_false_iff_ne]; omega
              have t3 : ((f : Int) != (y.toNat : Int)) = true := by rw [bne_iff_ne]; omega
              have t4 : (f : Int) < (r : Int) := by omega
              go_wp2_with fail
              refine (HS2.out _).mono ?_
              rintro e w1 ⟨rfl, rfl⟩
              go_wp2_with fail
              go_round
              case rel => exact .inl rfl
              case measure =>
                have hn2 : ¬ ((f : Int) = (y.toNat : Int)) := by omega
                simp [intOf, hne, hn2]
    · have hkM : ¬ (k : Int) < (M : Int) := by omega
      obtain rfl : k = M := by omega
      by_cases hst : s.size = t.size
      · have hb : ((s.size : Int) == (t.size : Int)) = true := beq_iff_eq.2 (by omega)
        go_wp2_with fail
        rw [jump_ret]
        go_ret
        exact ⟨fret_bool (small_same hst fun j hj => HA.out j (by omega)), Below.refl _ _⟩
      · have hb : ((s.size : Int) == (t.size : Int)) = false := beq_eq_false_iff_ne.2 (by omega)
        go_wp2_with fail
        rw [jump_ret]
        go_ret
        exact ⟨fret_bool (small_len hst), Below.refl _ _⟩
end Go.Proofs.YtnomcldpbkinmaaGreatDoor
