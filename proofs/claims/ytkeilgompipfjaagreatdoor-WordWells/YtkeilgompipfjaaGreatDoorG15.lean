/-
  Merged by program out of the texts Repl, Pred, UAll, CzSome, CzAll, Rdr, Shelf2 of one seat.
-/
import Derived.Test.YtkeilgompipfjaaGreatDoorG05
import Derived.Test.YtkeilgompipfjaaGreatDoorG03
import Derived.Test.YtkeilgompipfjaaGreatDoorG02
import Derived.Test.YtkeilgompipfjaaGreatDoorProg
import Derived.Lib.Hide
import Derived.Below
import Derived.Laws.RangeAny
import Derived.Deep.QuietTactic
import Derived.BigQuiet
import Derived.Shelf.Small.Wraps
import Derived.Shelf.Strings.Prefix

/- strings.ReplaceAll twice, as CDATA's line ends are made one; the walk of scan.data. -/
set_option linter.unusedSimpArgs false
set_option linter.unusedVariables false
namespace Go.Proofs.YtkeilgompipfjaaGreatDoor
open Go.RowKit Go.Lib

def RA (old new s : List UInt8) : List UInt8 := replaceK old new (count s old) s
theorem RA_eq (s old new : List UInt8) (h : old ≠ new) : replaceAll s old new = RA old new s := by
  unfold replaceAll replace replaceNum RA
  rw [if_neg (by simpa using h), if_pos (.inl (by omega))]
theorem RA_nil (old new : List UInt8) (h : old ≠ []) : RA old new [] = [] := by
  have hi : index [] old = -1 := by
    unfold index
    cases old with
    | nil => exact absurd rfl h
    | cons a b => rfl
  unfold RA
  rw [count_miss hi]
  rfl
theorem RA_pre (old new : List UInt8) (c : UInt8) (l : List UInt8) (h : old ≠ []) (hp : old.isPrefixOf (c :: l) = true) : RA old new (c :: l) = new ++ RA old new ((c :: l).drop old.length) := by
  have hi : index (c :: l) old = ((0 : Nat) : Int) := by
    unfold index
    rw [if_pos hp]
    rfl
  unfold RA
  rw [count_hit h hi, Nat.add_comm 1, replaceK_hit old new _ _ 0 hi]
  simp
theorem RA_no (old new : List UInt8) (c : UInt8) (l : List UInt8) (h : old ≠ []) (hp : ¬ old.isPrefixOf (c :: l) = true) : RA old new (c :: l) = c :: RA old new l := by
  have hi : index (c :: l) old = if index l old == -1 then -1 else index l old + 1 := by
    conv => lhs; unfold index
    rw [if_neg hp]
  by_cases hm : index l old = -1
  · rw [hm] at hi
    have hi' : index (c :: l) old = -1 := by rw [hi]; rfl
    unfold RA
    rw [count_miss hm, count_miss hi']
    rfl
  · have hg := index_ge l old
    obtain ⟨i, hl⟩ : ∃ i : Nat, index l old = i := ⟨(index l old).toNat, by omega⟩
    have hi' : index (c :: l) old = ((i + 1 : Nat) : Int) := by
      rw [hi, hl, if_neg (by simp)]
      rfl
    have hd : (c :: l).drop (i + 1 + old.length) = l.drop (i + old.length) := by
      rw [show i + 1 + old.length = (i + old.length) + 1 by omega]
      rfl
    unfold RA
    rw [count_hit h hl, count_hit h hi', hd, Nat.add_comm 1, replaceK_hit old new _ _ i hl, replaceK_hit old new _ _ (i + 1) hi', hd]
    rfl
theorem ends_eq : ∀ (n : Nat) (s : List UInt8), s.length ≤ n → (RA [13] [10] (RA [13, 10] [10] s)).map (fun b => (b.toNat : Int)) = endsF (s.map fun b => (b.toNat : Int))
  | n, [], _ => by
    rw [RA_nil _ _ (by simp), RA_nil _ _ (by simp)]
    rfl
  | n + 1, c :: l, h => by
    have key : ∀ (x : UInt8) (t : List UInt8), RA [13] [10] (x :: t) = (if x = 13 then 10 else x) :: RA [13] [10] t := fun x t => by
      by_cases hx : x = 13
      · rw [if_pos hx, RA_pre _ _ _ _ (by simp) (by rw [hx]; rfl)]
        rfl
      · rw [if_neg hx, RA_no _ _ _ _ (by simp) (by simp [List.isPrefixOf]; exact fun e => hx e.symm)]
    have hi : ∀ x : UInt8, (x.toNat : Int) = 13 ↔ x = 13 := fun x => ⟨fun e => uinj (b := 13) (by rw [e]; rfl), fun e => by rw [e]; rfl⟩
    by_cases hc : c = 13
    · subst hc
      match l, h with
      | 10 :: l, h =>
        rw [RA_pre _ _ _ _ (by simp) rfl]
        show List.map _ (RA [13] [10] (10 :: RA [13, 10] [10] l)) = _
        have ih := ends_eq n l (by simp at h; omega)
        rw [key 10 _]
        simp only [List.map_cons, ih]
        rw [if_neg (by decide), endsF, endsF]
        simp
      | [], h =>
        rw [RA_no _ _ _ _ (by simp) (by decide), RA_nil _ _ (by simp), key, RA_nil _ _ (by simp)]
        rfl
      | d :: l, h =>
        by_cases hd : d = 10
        · subst hd
          rw [RA_pre _ _ _ _ (by simp) rfl]
          show List.map _ (RA [13] [10] (10 :: RA [13, 10] [10] l)) = _
          have ih := ends_eq n l (by simp at h; omega)
          rw [key 10 _]
          simp only [List.map_cons, ih]
          rw [if_neg (by decide), endsF, endsF]
          simp
        · have hd' : ¬ (d.toNat : Int) = 10 := fun e => hd (uinj (b := 10) (by rw [e]; rfl))
          rw [RA_no _ _ _ _ (by simp) (by simp [List.isPrefixOf]; exact fun e => hd e.symm), key]
          have ih := ends_eq n (d :: l) (by simpa using h)
          rw [List.map_cons, ih, if_pos rfl]
          conv => rhs; rw [List.map_cons]; unfold endsF
          simp [hd']
    · have hc' : ¬ (c.toNat : Int) = 13 := fun e => hc ((hi c).1 e)
      rw [RA_no _ _ _ _ (by simp) (by simp [List.isPrefixOf]; exact fun e => absurd e.symm hc), key, if_neg hc]
      have ih := ends_eq n l (by simpa using h)
      rw [List.map_cons, ih]
      conv => rhs; rw [List.map_cons]; unfold endsF
      rw [if_neg hc']
      rfl
theorem ends_str (s : ByteArray) : (⟨(replaceAll (ByteArray.mk (replaceAll s.data.toList [13, 10] [10]).toArray).data.toList [13] [10]).toArray⟩ : ByteArray) = strOfNums (endsF (byts s)) := by
  refine str_of_byts ?_
  rw [mk_byts, RA_eq _ _ _ (by decide), RA_eq _ _ _ (by decide)]
  exact ends_eq _ _ (Nat.le_refl _)
theorem ra_len (old new : List UInt8) (h : new.length ≤ old.length) (h0 : old ≠ []) : ∀ (n : Nat) (s : List UInt8), s.length ≤ n → (RA old new s).length ≤ s.length
  | n, [], _ => by rw [RA_nil _ _ h0]; simp
  | n + 1, c :: l, hn => by
    by_cases hp : old.isPrefixOf (c :: l) = true
    · have hl := (List.isPrefixOf_iff_prefix.1 hp).length_le
      have h1 : 1 ≤ old.length := List.length_pos_iff.2 h0
      have hd : ((c :: l).drop old.length).length = (c :: l).length - old.length := List.length_drop ..
      have ih := ra_len old new h h0 n ((c :: l).drop old.length) (by simp only [List.length_cons] at hd hn ⊢; omega)
      rw [RA_pre _ _ _ _ h0 hp, List.length_append]
      omega
    · have ih := ra_len old new h h0 n l (by simpa using hn)
      rw [RA_no _ _ _ _ h0 hp]
      simpa using ih

/-- A token as a value; what a kind's reading answers. -/
def tkV (t : Tk) : Value := .agg #[.int .i64 t.kind, .string (strOfNums t.text), .bool t.empty, .bool t.blank]
def RdrPost (x : Tk × Int) (w : World) (e : Ending) (w' : World) : Prop := e = .returned (.tuple #[tkV x.1, .int .i64 x.2]) ∧ Below w.heap.size w w'

/-- The block of a result that is a token, as it is laid at first. -/
structure Res4 (w : World) (B : Nat) : Prop where
  c0 : w.cell? ⟨B, 0, none⟩ = some (.int .i64 0)
  c1 : w.cell? ⟨B, 1, none⟩ = some (.string ⟨#[]⟩)
  c2 : w.cell? ⟨B, 2, none⟩ = some (.bool false)
  c3 : w.cell? ⟨B, 3, none⟩ = some (.bool false)
  f0 : w.frozen? ⟨B, 0, none⟩ = false
  f1 : w.frozen? ⟨B, 1, none⟩ = false
  f2 : w.frozen? ⟨B, 2, none⟩ = false
  f3 : w.frozen? ⟨B, 3, none⟩ = false
theorem res_new (w : World) : Res4 (w.alloc (.cells #[.int .i64 0, .string ⟨#[]⟩, .bool false, .bool false] 41)) w.heap.size := by
  constructor
  all_goals simp [go_sem]
theorem Res4.keep {w w' : World} {B n : Nat} (h : Res4 w B) (hb : Below n w w') (hB : B < n) : Res4 w' B :=
  ⟨(hb.cell (p := ⟨B, 0, none⟩) hB).trans h.c0, (hb.cell (p := ⟨B, 1, none⟩) hB).trans h.c1, (hb.cell (p := ⟨B, 2, none⟩) hB).trans h.c2, (hb.cell (p := ⟨B, 3, none⟩) hB).trans h.c3,
   (hb.frozen (p := ⟨B, 0, none⟩) hB).trans h.f0, (hb.frozen (p := ⟨B, 1, none⟩) hB).trans h.f1, (hb.frozen (p := ⟨B, 2, none⟩) hB).trans h.f2, (hb.frozen (p := ⟨B, 3, none⟩) hB).trans h.f3⟩

theorem below_set4 {w w2 : World} {n B : Nat} (h : Below n w w2) (hB : n ≤ B) (a b c d : Value) :
    Below n w ((((w2.setCell ⟨B, 0, none⟩ a).setCell ⟨B, 1, none⟩ b).setCell ⟨B, 2, none⟩ c).setCell ⟨B, 3, none⟩ d) :=
  (((h.setCell (p := ⟨B, 0, none⟩) hB a).setCell (p := ⟨B, 1, none⟩) hB b).setCell (p := ⟨B, 2, none⟩) hB c).setCell (p := ⟨B, 3, none⟩) hB d
set_option maxHeartbeats 1000000 in
set_option maxRecDepth 100000 in
theorem data_any (s : ByteArray) (at_ : Int) (w : World) (hs : s.size ≤ 10000) (hG : Gl w) : Calls Tryz.prog 67 #[.string s, .int .i64 at_] w (RdrPost (dataR (byts s)) w) := by
  have HG := Lib.hid hG
  have HB := Lib.hid ((Below.refl w.heap.size w).alloc (Nat.le_refl _) (.cells #[.int .i64 0, .string ⟨#[]⟩, .bool false, .bool false] 41))
  have c1 := countB_le ⟨#[13, 10]⟩ (by decide) s.size s (Nat.le_refl _)
  obtain ⟨s1, hs1⟩ : ∃ s1 : ByteArray, s1 = ⟨(replaceAll s.data.toList [13, 10] [10]).toArray⟩ := ⟨_, rfl⟩
  have l1 : s1.size ≤ s.size := by
    rw [hs1, ← byts_len, mk_byts, List.length_map, RA_eq _ _ _ (by decide)]
    have := ra_len [13, 10] [10] (by simp) (by simp) _ s.data.toList (Nat.le_refl _)
    rw [← size_eq] at this
    exact this
  have c2 := countB_le ⟨#[13]⟩ (by decide) s1.size s1 (Nat.le_refl _)
  have HE := Lib.hid (ends_str s)
  rw [← hs1] at HE
  have C1 := Lib.hid (fun (W : World) (hW : Gl W) => let ⟨m, hm⟩ := hW.max; Tryz.strings_ReplaceAll s ⟨#[13, 10]⟩ ⟨#[10]⟩ m W (by omega) hm (by decide) (by have : (ByteArray.mk #[10]).size = 1 := rfl; rw [this]; omega))
  have C2 := Lib.hid (fun (W : World) (hW : Gl W) => let ⟨m, hm⟩ := hW.max; Tryz.strings_ReplaceAll s1 ⟨#[13]⟩ ⟨#[10]⟩ m W (by omega) hm (by decide) (by have : (ByteArray.mk #[10]).size = 1 := rfl; rw [this]; omega))
  have e1 : (ByteArray.mk (replaceAll s.data.toList (ByteArray.mk #[13, 10]).data.toList (ByteArray.mk #[10]).data.toList).toArray) = s1 := hs1.symm
  rw [e1] at C1
  have e2 : (ByteArray.mk (replaceAll s1.data.toList (ByteArray.mk #[13]).data.toList (ByteArray.mk #[10]).data.toList).toArray) = strOfNums (endsF (byts s)) := HE.out
  rw [e2] at C2
  clear e1 e2 HE hs1 c1 c2 hG
  go_enter Tryz.func67, Tryz.ntmps67
  go_wp2_with fail
  refine (C1.out _ (HG.out.alloc _)).mono ?_
  rintro e w1 ⟨rfl, hb1⟩
  have HG1 := Lib.hid ((HG.out.alloc _).after hb1)
  go_wp2_with fail
  refine (C2.out _ HG1.out).mono ?_
  rintro e w2 ⟨rfl, hb2⟩
  have hb := HB.out.trans (hb1.mono (by simp))
  have hb' := hb.trans (hb2.mono hb.size)
  have hz1 : w.heap.size < w1.heap.size := by have := hb1.size; simp at this; omega
  have hz2 : w.heap.size < w2.heap.size := Nat.lt_of_lt_of_le hz1 hb2.size
  obtain ⟨c0, c1, c2, c3, f0, f1, f2, f3⟩ := ((res_new w).keep hb1 (by simp)).keep hb2 hz1
  go_wp2_with fail
  refine bodyPost_ret (v := .tuple #[tkV (dataR (byts s)).1, .int .i64 0]) (by simp [results, Tryz.results67, go_sem, c0, c1, c2, c3, hz2, tkV, dataR]) rfl ⟨rfl, below_set4 hb' (Nat.le_refl _) _ _ _ _⟩
end Go.Proofs.YtkeilgompipfjaaGreatDoor

/- strings.IndexFunc, TrimLeftFunc and TrimRightFunc at char.Blank, in terms of a text's bytes. -/
set_option linter.unusedSimpArgs false
set_option linter.unusedVariables false
namespace Go.Proofs.YtkeilgompipfjaaGreatDoor
open Go.RowKit Go.Lib
open Nz (bl dN dec_dN bl_len)

def bn (n : Nat) : Bool := decide (Blank (n : Int))
theorem byts_bl (s : ByteArray) : byts s = (bl s).map (fun n : Nat => (n : Int)) := by simp [byts, bl]
theorem getD_bl (s : ByteArray) (k : Nat) : (byts s).getD k 0 = ((bl s).getD k 0 : Int) := by
  rw [byts_bl, List.getD_eq_getElem?_getD, List.getD_eq_getElem?_getD, List.getElem?_map]
  cases (bl s)[k]? <;> simp
theorem drop_get (l : List Nat) (n : Nat) (h : n < l.length) : l.drop n = l.getD n 0 :: l.drop (n + 1) := by
  rw [List.drop_eq_getElem_cons h, List.getD_eq_getElem?_getD, List.getElem?_eq_getElem h]
  rfl
theorem tw_of (p : Int → Bool) : ∀ (l : List Int) (k : Nat), (∀ j, j < k → p (l.getD j 0) = true) → k < l.length → p (l.getD k 0) = false → l.takeWhile p = l.take k ∧ l.dropWhile p = l.drop k
  | [], k, _, h, _ => by simp at h
  | c :: l, 0, _, _, h => by
    have h' : p c = false := h
    simp [List.takeWhile, List.dropWhile, h']
  | c :: l, k + 1, h1, h2, h3 => by
    have h0 : p c = true := h1 0 (by omega)
    have ih := tw_of p l k (fun j hj => h1 (j + 1) (by omega)) (by simpa using h2) h3
    simp [List.takeWhile, List.dropWhile, h0, ih.1, ih.2]
theorem tw_all (p : Int → Bool) : ∀ (l : List Int), (∀ x ∈ l, p x = true) → l.takeWhile p = l ∧ l.dropWhile p = []
  | [], _ => ⟨rfl, rfl⟩
  | c :: l, h => by
    have h0 : p c = true := h c (by simp)
    have ih := tw_all p l fun x hx => h x (List.mem_cons_of_mem _ hx)
    simp [List.takeWhile, List.dropWhile, h0, ih.1, ih.2]
theorem mem_get {l : List Int} {x : Int} (h : x ∈ l) : ∃ j, j < l.length ∧ l.getD j 0 = x := by
  obtain ⟨j, hj, e⟩ := List.getElem_of_mem h
  exact ⟨j, hj, by simp [List.getElem?_eq_getElem hj, e]⟩

/-- The rune at a byte: below 80 it is that byte, of width 1; else it is 80 or more, and the bytes that it takes are, too. -/
theorem at_low (s : ByteArray) (pos : Nat) (h : pos < s.size) (ha : (bl s).getD pos 0 < 128) : Utf8.decode s pos = ((bl s).getD pos 0, 1) := by
  have e : (s[pos]'h).toNat = (bl s).getD pos 0 := by
    unfold bl
    rw [List.getD_eq_getElem?_getD, List.getElem?_map]
    have : s.data.toList[pos]? = some (s[pos]'h) := by rw [Array.getElem?_toList]; exact Array.getElem?_eq_getElem h
    rw [this]
    rfl
  rw [decode_ascii s pos h (by omega), e]
theorem at_high (s : ByteArray) (pos : Nat) (h : pos < s.size) (ha : 128 ≤ (bl s).getD pos 0) : 128 ≤ (Utf8.decode s pos).1 ∧ 1 ≤ (Utf8.decode s pos).2 := by
  have e : (s[pos]'h).toNat = (bl s).getD pos 0 := by
    unfold bl
    rw [List.getD_eq_getElem?_getD, List.getElem?_map]
    have : s.data.toList[pos]? = some (s[pos]'h) := by rw [Array.getElem?_toList]; exact Array.getElem?_eq_getElem h
    rw [this]
    rfl
  exact decode_high s pos h (by omega)
theorem in_wide (s : ByteArray) (pos j : Nat) (h : pos < s.size) (h1 : 1 ≤ j) (h2 : j < (Utf8.decode s pos).2) (h3 : pos + j < s.size) : 128 ≤ (bl s).getD (pos + j) 0 := by
  rcases Nat.lt_or_ge ((bl s).getD (pos + j) 0) 128 with g | g
  · exfalso
    rw [dec_dN] at h2
    have hl := bl_len s
    have hsplit : (bl s).drop pos = ((bl s).drop pos).take j ++ (bl s).getD (pos + j) 0 :: (bl s).drop (pos + j + 1) := by
      conv => lhs; rw [← List.take_append_drop j ((bl s).drop pos)]
      rw [List.drop_drop, drop_get (bl s) (pos + j) (by omega)]
    have hne : ((bl s).drop pos).take j ≠ [] := by
      intro e
      have := congrArg List.length e
      rw [List.length_take, List.length_drop, List.length_nil] at this
      omega
    rw [hsplit, Nz.dN_asc _ _ _ g hne] at h2
    have := (Nz.dN_width _ hne).2
    rw [List.length_take, List.length_drop] at this
    omega
  · exact g
theorem blank_low {n : Nat} (h : 128 ≤ n) : bn n = false := by
  unfold bn
  exact decide_eq_false (by unfold Blank; omega)
theorem bn_get (s : ByteArray) (k : Nat) : bn ((bl s).getD k 0) = blk? ((byts s).getD k 0) := by
  rw [getD_bl]
  rfl

theorem idx_from (s : ByteArray) : ∀ (f pos : Nat), s.size ≤ pos + f → pos ≤ s.size → (∀ j, j < pos → blk? ((byts s).getD j 0) = false) →
    (idxFuncFrom bn true s f pos = -1 ∧ ∀ j, j < s.size → blk? ((byts s).getD j 0) = false) ∨
    ∃ k : Nat, idxFuncFrom bn true s f pos = k ∧ k < s.size ∧ blk? ((byts s).getD k 0) = true ∧ ∀ j, j < k → blk? ((byts s).getD j 0) = false
  | 0, pos, hf, hp, h => .inl ⟨rfl, fun j hj => h j (by omega)⟩
  | f + 1, pos, hf, hp, h => by
    by_cases hlt : pos < s.size
    · unfold idxFuncFrom
      rw [if_pos hlt]
      rcases Nat.lt_or_ge ((bl s).getD pos 0) 128 with g | g
      · rw [at_low s pos hlt g]
        cases hb : bn ((bl s).getD pos 0) with
        | true =>
          simp only [hb, if_true]
          exact .inr ⟨pos, rfl, hlt, by rw [← bn_get, hb], h⟩
        | false =>
          simp only [hb, Bool.false_eq_true, if_false]
          refine idx_from s f (pos + 1) (by omega) (by omega) fun j hj => ?_
          rcases Nat.lt_or_eq_of_le (Nat.le_of_lt_succ hj) with e | e
          · exact h j e
          · rw [e, ← bn_get, hb]
      · have hh := at_high s pos hlt g
        have hw := (Nz.dN_width _ (Nz.drop_ne s pos hlt)).2
        rw [← dec_dN, List.length_drop, bl_len] at hw
        rw [if_neg (by rw [blank_low hh.1]; simp)]
        refine idx_from s f (pos + (Utf8.decode s pos).2) (by omega) (by omega) fun j hj => ?_
        rcases Nat.lt_or_ge j pos with e | e
        · exact h j e
        · rw [← bn_get]
          apply blank_low
          rcases Nat.eq_or_lt_of_le e with e2 | e2
          · rw [← e2]; exact g
          · have := in_wide s pos (j - pos) hlt (by omega) (by omega) (by omega)
            rwa [show pos + (j - pos) = j by omega] at this
    · rw [idxFuncFrom_end _ _ _ _ _ hlt]
      exact .inl ⟨rfl, fun j hj => h j (by omega)⟩
theorem idx_blank (s : ByteArray) : (idxFunc bn true s = -1 ∧ tgt (byts s) = byts s) ∨ ∃ k : Nat, idxFunc bn true s = k ∧ k < s.size ∧ tgt (byts s) = (byts s).take k := by
  have hl := byts_len s
  rcases idx_from s s.size 0 (by omega) (by omega) (fun j hj => by omega) with ⟨h1, h2⟩ | ⟨k, h1, h2, h3, h4⟩
  · refine .inl ⟨h1, (tw_all _ _ fun x hx => ?_).1⟩
    obtain ⟨j, hj, rfl⟩ := mem_get hx
    rw [h2 j (by omega)]
    rfl
  · refine .inr ⟨k, h1, h2, (tw_of _ _ k (fun j hj => ?_) (by omega) ?_).1⟩
    · rw [h4 j hj]; rfl
    · rw [h3]; rfl
theorem left_from (s : ByteArray) : ∀ (f pos : Nat), s.size ≤ pos + f → pos ≤ s.size → (∀ j, j < pos → blk? ((byts s).getD j 0) = true) →
    (idxFuncFrom bn false s f pos = -1 ∧ ∀ j, j < s.size → blk? ((byts s).getD j 0) = true) ∨
    ∃ k : Nat, idxFuncFrom bn false s f pos = k ∧ k < s.size ∧ blk? ((byts s).getD k 0) = false ∧ ∀ j, j < k → blk? ((byts s).getD j 0) = true
  | 0, pos, hf, hp, h => .inl ⟨rfl, fun j hj => h j (by omega)⟩
  | f + 1, pos, hf, hp, h => by
    by_cases hlt : pos < s.size
    · unfold idxFuncFrom
      rw [if_pos hlt]
      rcases Nat.lt_or_ge ((bl s).getD pos 0) 128 with g | g
      · rw [at_low s pos hlt g]
        cases hb : bn ((bl s).getD pos 0) with
        | false =>
          simp only [hb, if_true]
          exact .inr ⟨pos, rfl, hlt, by rw [← bn_get, hb], h⟩
        | true =>
          simp only [hb, Bool.true_eq_false, if_false]
          refine left_from s f (pos + 1) (by omega) (by omega) fun j hj => ?_
          rcases Nat.lt_or_eq_of_le (Nat.le_of_lt_succ hj) with e | e
          · exact h j e
          · rw [e, ← bn_get, hb]
      · have hh := at_high s pos hlt g
        rw [if_pos (blank_low hh.1)]
        exact .inr ⟨pos, rfl, hlt, by rw [← bn_get]; exact blank_low g, h⟩
    · rw [idxFuncFrom_end _ _ _ _ _ hlt]
      exact .inl ⟨rfl, fun j hj => h j (by omega)⟩
theorem left_blank (s : ByteArray) : byts (trimLeftF bn s) = (byts s).dropWhile blk? := by
  have hl := byts_len s
  unfold trimLeftF idxFunc
  rcases left_from s s.size 0 (by omega) (by omega) (fun j hj => by omega) with ⟨h1, h2⟩ | ⟨k, h1, h2, h3, h4⟩
  · rw [h1, if_pos rfl, (tw_all _ _ fun x hx => ?_).2]
    · rfl
    · obtain ⟨j, hj, rfl⟩ := mem_get hx
      exact h2 j (by omega)
  · rw [h1, if_neg (by omega), (tw_of _ _ k h4 (by omega) h3).2, Int.toNat_natCast, byts_extract, List.take_of_length_le (by omega)]

/-- Where what is left of a text ends that is cut off blanks at its end. -/
def Rend (l : List Int) (n : Nat) : Prop := n ≤ l.length ∧ (∀ j, n ≤ j → j < l.length → blk? (l.getD j 0) = true) ∧ (n = 0 ∨ blk? (l.getD (n - 1) 0) = false)
theorem rend_trim {l : List Int} {n : Nat} (h : Rend l n) : trimR l = l.take n := by
  obtain ⟨h1, h2, h3⟩ := h
  unfold trimR
  have hr : l.reverse.dropWhile blk? = l.reverse.drop (l.length - n) := by
    have hg : ∀ j, j < l.length → l.reverse.getD j 0 = l.getD (l.length - 1 - j) 0 := fun j hj => by
      rw [List.getD_eq_getElem?_getD, List.getD_eq_getElem?_getD, List.getElem?_reverse hj]
    by_cases h0 : n = 0
    · subst h0
      rw [(tw_all _ _ fun x hx => ?_).2, List.drop_of_length_le (by simp)]
      obtain ⟨j, hj, rfl⟩ := mem_get (List.mem_reverse.1 hx)
      exact h2 j (Nat.zero_le _) hj
    · refine (tw_of _ _ (l.length - n) (fun j hj => ?_) (by simp; omega) ?_).2
      · rw [hg j (by omega)]
        exact h2 _ (by omega) (by omega)
      · rw [hg _ (by omega)]
        rcases h3 with h3 | h3
        · exact absurd h3 h0
        · rw [← h3]
          congr 2
          omega
  rw [hr, List.drop_reverse, List.reverse_reverse]
  congr 1
  omega
theorem dec_mk (l : List UInt8) : Utf8.decode ⟨l.toArray⟩ 0 = dN (l.map UInt8.toNat) := by
  rw [dec_dN]
  simp [bl]
theorem right_from (s : ByteArray) : ∀ (f i : Nat), i ≤ f → i ≤ s.size → (∀ j, i ≤ j → j < s.size → blk? ((byts s).getD j 0) = true) →
    (lastIdxFuncFrom bn false s f i = -1 ∧ Rend (byts s) 0) ∨ ∃ r : Nat, lastIdxFuncFrom bn false s f i = r ∧ r < s.size ∧ Rend (byts s) (r + (Utf8.decode s r).2)
  | f, 0, hf, hi, h => by
    rw [lastIdxFuncFrom_zero]
    exact .inl ⟨rfl, Nat.zero_le _, fun j _ hj => h j (Nat.zero_le _) (by rwa [byts_len] at hj), .inl rfl⟩
  | f + 1, i + 1, hf, hi, h => by
    unfold lastIdxFuncFrom
    rw [if_pos (by omega)]
    have hl : (s.data.toList.take (i + 1)).length = i + 1 := by
      rw [List.length_take, Array.length_toList]
      have : s.data.size = s.size := rfl
      omega
    have hbl : (s.data.toList.take (i + 1)).map UInt8.toNat = (bl s).take (i + 1) := by rw [List.map_take]; rfl
    have hne : s.data.toList.take (i + 1) ≠ [] := fun e => by rw [e] at hl; simp at hl
    have hlast : ((s.data.toList.take (i + 1)).getD ((s.data.toList.take (i + 1)).length - 1) 0).toNat = (bl s).getD i 0 := by
      rw [hl, Nat.add_sub_cancel, List.getD_eq_getElem?_getD, List.getElem?_take, if_pos (by omega)]
      unfold bl
      rw [List.getD_eq_getElem?_getD, List.getElem?_map]
      cases s.data.toList[i]? <;> simp
    have hbd : ∀ j, i + 1 ≤ j → j < (byts s).length → blk? ((byts s).getD j 0) = true := fun j a b => h j a (by rwa [byts_len] at b)
    have hlen := byts_len s
    rcases Nat.lt_or_ge ((bl s).getD i 0) 128 with g | g
    · have hd : decodeLastL (s.data.toList.take (i + 1)) = ((bl s).getD i 0, 1) := by
        unfold decodeLastL
        rw [if_neg hne, if_pos (by rw [hlast]; exact g), hlast]
      rw [hd]
      cases hb : bn ((bl s).getD i 0) with
      | true =>
        simp only [hb, Bool.true_eq_false, if_false, Nat.add_sub_cancel]
        refine right_from s f i (by omega) (by omega) fun j a b => ?_
        rcases Nat.eq_or_lt_of_le a with e | e
        · rw [← e, ← bn_get, hb]
        · exact h j (by omega) b
      | false =>
        simp only [hb, if_true, Nat.add_sub_cancel]
        refine .inr ⟨i, rfl, by omega, ?_⟩
        rw [at_low s i (by omega) g]
        exact ⟨by omega, hbd, .inr (by rw [Nat.add_sub_cancel, ← bn_get, hb])⟩
    · have key : ∃ x k, decodeLastL (s.data.toList.take (i + 1)) = (x, k) ∧ 128 ≤ x ∧ 1 ≤ k ∧ k ≤ i + 1 ∧ (dN (((bl s).take (i + 1)).drop (i + 1 - k))).2 = k := by
        unfold decodeLastL
        rw [if_neg hne, if_neg (by rw [hlast]; omega)]
        simp only [hl]
        by_cases hc : lastStart (s.data.toList.take (i + 1)) + (decodeL ((s.data.toList.take (i + 1)).drop (lastStart (s.data.toList.take (i + 1))))).2 = i + 1
        · rw [if_pos hc]
          generalize lastStart (s.data.toList.take (i + 1)) = a at hc
          have hw := decodeL_width ((s.data.toList.take (i + 1)).drop a)
          have hdl : decodeL ((s.data.toList.take (i + 1)).drop a) = dN (((bl s).take (i + 1)).drop a) := by
            unfold decodeL
            rw [dec_mk, List.map_drop, hbl]
          rw [hdl] at hc hw ⊢
          obtain ⟨x, k, hxk⟩ : ∃ x k, dN (((bl s).take (i + 1)).drop a) = (x, k) := ⟨_, _, rfl⟩
          rw [hxk] at hc hw ⊢
          simp only at hc hw
          refine ⟨x, k, rfl, ?_, hw, by omega, by rw [show i + 1 - k = a by omega, hxk]⟩
          -- a rune whose last byte is 80 or more is 80 or more
          rcases Nat.lt_or_ge (((bl s).take (i + 1)).drop a |>.getD 0 0) 128 with q | q
          · exfalso
            have hA : ((bl s).take (i + 1)).drop a ≠ [] := fun e => by
              have := congrArg List.length e
              rw [List.length_drop, List.length_take, bl_len, List.length_nil] at this
              omega
            obtain ⟨c, B, hcb⟩ : ∃ c B, ((bl s).take (i + 1)).drop a = c :: B := by
              cases hq : ((bl s).take (i + 1)).drop a with
              | nil => exact absurd hq hA
              | cons c B => exact ⟨c, B, rfl⟩
            rw [hcb] at q hxk
            have q' : c < 128 := q
            rw [Nz.dN_asc0 B c q'] at hxk
            have hk1 : k = 1 := (congrArg Prod.snd hxk).symm
            have ha : a = i := by omega
            subst ha
            have : (((bl s).take (a + 1)).drop a).getD 0 0 = (bl s).getD a 0 := by
              simp [List.getElem?_drop, List.getElem?_take]
            rw [hcb] at this
            have : c = (bl s).getD a 0 := this
            omega
          · have e := dec_mk ((s.data.toList.take (i + 1)).drop a)
            rw [List.map_drop, hbl, hxk] at e
            rw [show x = (Utf8.decode ⟨((s.data.toList.take (i + 1)).drop a).toArray⟩ 0).1 by rw [e]]
            have hsz : 0 < (ByteArray.mk ((s.data.toList.take (i + 1)).drop a).toArray).size := by
              show 0 < ((s.data.toList.take (i + 1)).drop a).toArray.size
              rw [List.size_toArray, List.length_drop, hl]
              omega
            refine (at_high _ 0 hsz ?_).1
            rw [show bl (ByteArray.mk ((s.data.toList.take (i + 1)).drop a).toArray) = ((bl s).take (i + 1)).drop a by
              unfold bl
              simp [List.map_drop, List.map_take]]
            exact q
        · rw [if_neg hc]
          refine ⟨_, _, rfl, by decide, Nat.le_refl _, by omega, ?_⟩
          have hA : ((bl s).take (i + 1)).drop (i + 1 - 1) ≠ [] := fun e => by
            have := congrArg List.length e
            rw [List.length_drop, List.length_take, bl_len, List.length_nil] at this
            omega
          have := Nz.dN_width _ hA
          rw [List.length_drop, List.length_take, bl_len] at this
          omega
      obtain ⟨x, k, hd, hx, hk1, hk2, hw⟩ := key
      rw [hd]
      simp only
      rw [if_pos (blank_low hx)]
      refine .inr ⟨i + 1 - k, rfl, by omega, ?_⟩
      have hW : (Utf8.decode s (i + 1 - k)).2 = k := by
        rw [dec_dN]
        rcases Nat.eq_or_lt_of_le hi with e | e
        · have : (bl s).take (i + 1) = bl s := List.take_of_length_le (by rw [bl_len]; omega)
          rw [this] at hw
          exact hw
        · have hb : blk? ((byts s).getD (i + 1) 0) = true := h (i + 1) (Nat.le_refl _) e
          have hc : (bl s).getD (i + 1) 0 < 128 := by
            rcases Nat.lt_or_ge ((bl s).getD (i + 1) 0) 128 with q | q
            · exact q
            · rw [← bn_get, blank_low q] at hb
              cases hb
          have hsplit : (bl s).drop (i + 1 - k) = ((bl s).take (i + 1)).drop (i + 1 - k) ++ (bl s).getD (i + 1) 0 :: (bl s).drop (i + 1 + 1) := by
            conv => lhs; rw [← List.take_append_drop (i + 1) (bl s)]
            rw [List.drop_append_of_le_length (by rw [List.length_take, bl_len]; omega)]
            congr 1
            exact drop_get (bl s) (i + 1) (by rw [bl_len]; omega)
          have hA : ((bl s).take (i + 1)).drop (i + 1 - k) ≠ [] := fun e => by
            have := congrArg List.length e
            rw [List.length_drop, List.length_take, bl_len, List.length_nil] at this
            omega
          rw [hsplit, Nz.dN_asc _ _ _ hc hA]
          exact hw
      rw [hW, show i + 1 - k + k = i + 1 by omega]
      exact ⟨by omega, hbd, .inr (by rw [Nat.add_sub_cancel, ← bn_get]; exact blank_low g)⟩
theorem right_blank (s : ByteArray) : byts (trimRightF bn s) = trimR (byts s) := by
  unfold trimRightF rightEndF lastIdxFunc
  rcases right_from s s.size s.size (Nat.le_refl _) (Nat.le_refl _) (fun j a b => by omega) with ⟨h1, h2⟩ | ⟨r, h1, h2, h3⟩
  · rw [h1, if_neg (by omega), rend_trim h2, byts_extract]
    simp
  · rw [h1, if_pos (by omega), Int.toNat_natCast, rend_trim h3, byts_extract, List.drop_zero]
    have hsz : (s.extract r s.size).size = s.size - r := by rw [← byts_len, byts_extract, List.length_drop, List.length_take, byts_len]; omega
    have : (decodeGoB (s.extract r s.size)).2 = (Utf8.decode s r).2 := by
      unfold decodeGoB
      rw [if_neg (by omega), dec_dN, dec_dN, List.drop_zero]
      congr 2
      exact Nz.bl_fr s r
    rw [this]

theorem blank_grows (w : World) : PredGrows Tryz.prog 55 #[] bn w := fun W x hx hb => (blank_any (x : Int) W).mono fun e w' ⟨h1, h2⟩ => ⟨h1, by subst h2; exact Below.refl _ _⟩
theorem enters54 : ∀ args w, (callFunc 55 args).run Tryz.prog w = .ok (.enter 55 args) w := enters_of Tryz.func55 (by kernel_rfl) rfl
theorem idxf_any (s : ByteArray) (w : World) : Calls Tryz.prog 96 #[.string s, .func (.func 55) #[] #[]] w fun e w' => e = .returned (.int .i64 (idxFunc bn true s)) ∧ Below w.heap.size w w' :=
  Tryz.strings_IndexFunc_grows 55 #[] enters54 bn s w (blank_grows w)
theorem triml_any (s : ByteArray) (w : World) : Calls Tryz.prog 148 #[.string s, .func (.func 55) #[] #[]] w fun e w' => e = .returned (.string (strOfNums ((byts s).dropWhile blk?))) ∧ Below w.heap.size w w' :=
  (Tryz.strings_TrimLeftFunc_grows 55 #[] enters54 bn s w (blank_grows w)).mono fun e w' ⟨h1, h2⟩ => ⟨by rw [h1, ← left_blank, ← str_of_byts rfl], h2⟩
theorem trimr_any (s : ByteArray) (w : World) (hs : s.size ≤ 1000000) (hG : Gl w) : Calls Tryz.prog 99 #[.string s, .func (.func 55) #[] #[]] w fun e w' => e = .returned (.string (strOfNums (trimR (byts s)))) ∧ Below w.heap.size w w' :=
  (Tryz.strings_TrimRightFunc_grows 55 #[] enters54 bn s w (by omega) hG.tabs (blank_grows w)).mono fun e w' ⟨h1, h2⟩ => ⟨by rw [h1, ← right_blank, ← str_of_byts rfl], h2⟩
end Go.Proofs.YtkeilgompipfjaaGreatDoor

/- The walk of utf.All. -/
set_option linter.unusedSimpArgs false
set_option linter.unusedVariables false
namespace Go.Proofs.YtkeilgompipfjaaGreatDoor.Uz
open Go.RowKit

theorem Tryz.info21 : (Tryz.prog.info? 21).map (fun i => (i.zero, i.size, i.bytes)) = some (some (.int .i32 0), 1, 4) := by kernel_rfl
theorem Tryz.info5 : (Tryz.prog.info? 5).map (fun i => (i.zero, i.size, i.bytes)) = some (some (.int .u8 0), 1, 1) := by kernel_rfl

/-- A slice of runes of the call's own: from block B on. -/
def Own (w : World) (B : Nat) (v : Value) (l : List Int) : Prop := w.ownsRow B 21 1 v l.length (l.map (Value.int .i32))

def AllPost (s : ByteArray) (w : World) (x : List Int × Int × Int) (e : Ending) (w' : World) : Prop :=
  ∃ v, e = .returned (.tuple #[v, .int .i64 x.2.1, .int .i64 x.2.2]) ∧ Own w' w.heap.size v x.1 ∧ Below w.heap.size w w'

def AllRel (s : ByteArray) (w : World) (v i : Value) (wr : World) : Prop :=
  ∃ (a : Nat) (pre : List Int), a ≤ s.size ∧ i = .int .i64 a ∧ Own wr w.heap.size v pre ∧ Below w.heap.size w wr ∧ pre.length ≤ a ∧ allF s = (pre ++ (allAt s a).1, (allAt s a).2)

set_option maxHeartbeats 1000000 in
set_option maxRecDepth 100000 in
theorem all_any (s : ByteArray) (w : World) (hs : s.size ≤ 10000) :
    Calls Tryz.prog 77 #[.string s] w (AllPost s w (allF s)) := by
  obtain ⟨i0, hi, hz0, hz1, hz2⟩ := info_parts Tryz.info21
  have hm : s.size ≤ maxLen := by unfold maxLen; omega
  go_enter Tryz.func77, Tryz.ntmps77
  go_wp2_with fail
  go_loopw [5, 6] (fun v i wr => AllRel s w v i wr) (fun _ i _ => s.size - (intOf i).toNat)
  case atStart => exact ⟨0, [], Nat.zero_le _, rfl, World.ownsRow_nil _ _ _ _, Below.refl _ _, Nat.le_refl _, by simp [allF_eq]⟩
  case round =>
    obtain ⟨a, pre, ha, rfl, hown, hbel, hpre, hall⟩ := hrel
    by_cases hlt : a < s.size
    · have hk := runeF_okay s a hlt
      obtain ⟨r, n, er, hx⟩ : ∃ r n er, runeF s a = (r, n, er) := ⟨_, _, _, rfl⟩
      have hc := rune_at s a wr hm
      have H0 := allAt_err s a hlt
      have H1 := allAt_ok s a hlt
      rw [hx] at hk hc H0 H1
      clear hx
      unfold Okay at hk
      dsimp only at hk hc H0 H1
      have HC := Lib.hid hc
      clear hc
      by_cases he : er = 0
      · subst he
        have hn : 1 ≤ n ∧ n ≤ (s.size - a : Nat) := by omega
        have HF : Hid (allF s = ((pre ++ [r]) ++ (allAt s (a + n.toNat)).1, (allAt s (a + n.toNat)).2)) := by
          rw [H1 rfl] at hall
          show allF s = _
          rw [hall]
          simp
        obtain ⟨n, rfl⟩ := Int.eq_ofNat_of_zero_le (show 0 ≤ n by omega)
        rw [Int.toNat_natCast] at HF
        have hown' := hown.alloc (.cells #[.int .i32 r] 21)
        have hl2 := hbel.size
        clear H0 H1 hall hk
        go_wp2_with fail
        refine HC.out.mono ?_
        rintro e w1 ⟨rfl, rfl⟩
        go_wp2_with (at_builtin; refine wpList_append_own _ rfl _ _ 128 rfl w.heap.size 21 i0 (.int .i32 0) 1 4 Tryz.underlying128 hi hz0 hz1 hz2 rfl (by decide) _ _ _ rfl hown' ⟨wr.heap.size, 0, none⟩ 1 1 [.int .i32 r] rfl rfl ?c1 ?c2 ?c3 ?c4 ?c5 ?_)
        case c1 => exact cell_one_new _ _ _
        case c2 => intro u hu; simp at hu; subst hu; rfl
        case c3 => unfold maxLen; omega
        case c4 => omega
        case c5 => simp; omega
        intro v' w1 hown2 hgrow _
        go_wp2
        go_roundw
        case rel =>
          refine ⟨a + n, pre ++ [r], by omega, by go_num, ?_, ?_, by simp; omega, HF.out⟩
          · unfold Own; rw [List.map_append, List.length_append]; exact hown2
          · exact (hbel.alloc hl2 _).grown hgrow (by simp; omega) (fun g hg => (hown.lt g hg).1)
        case measure => simp [intOf]; omega
      · have HF : Hid (allF s = (pre, (a : Int), er)) := by
          rw [H0 he] at hall
          show allF s = _
          rw [hall]
          simp
        have te : (er != 0) = true := by simpa using he
        clear H0 H1 hall hk he
        go_wp2_with fail
        refine HC.out.mono ?_
        rintro e w1 ⟨rfl, rfl⟩
        go_wp2
        go_ret3
        rw [HF.out]
        exact ⟨_, rfl, hown, hbel⟩
    · have HF : Hid (allF s = (pre, (a : Int), 0)) := by
        rw [allAt_done s a (by omega)] at hall
        show allF s = _
        rw [hall]
        simp
      clear hall
      go_wp2
      go_ret3
      rw [HF.out]
      exact ⟨_, rfl, hown, hbel⟩
end Go.Proofs.YtkeilgompipfjaaGreatDoor.Uz

/- The walk of char's some: whether a rune is in one of the classes that a slice of functions holds. -/
set_option linter.unusedSimpArgs false
set_option linter.unusedVariables false
namespace Go.Proofs.YtkeilgompipfjaaGreatDoor.Cz
open Go.RowKit

def clsP (k : Nat) (r : Int) : Bool := if k = 45 then decide (Chr r) else decide (Blank r)
def Known (k : Nat) : Prop := k = 45 ∨ k = 55
def anyP (ks : List Nat) (r : Int) : Bool := ks.any (clsP · r)
theorem any_take (ks : List Nat) (r : Int) (i : Nat) (h : i < ks.length) : (ks.take (i + 1)).any (clsP · r) = ((ks.take i).any (clsP · r) || clsP (ks.getD i 0) r) := by
  rw [List.take_succ_eq_append_getElem h, List.any_append, List.any_cons, List.any_nil, Bool.or_false, List.getD_eq_getElem?_getD, List.getElem?_eq_getElem h]
  rfl
theorem any_hit (ks : List Nat) (r : Int) (i : Nat) (h : i < ks.length) (hc : clsP (ks.getD i 0) r = true) : anyP ks r = true := by
  refine List.any_eq_true.2 ⟨ks.getD i 0, ?_, hc⟩
  rw [List.getD_eq_getElem?_getD, List.getElem?_eq_getElem h]
  exact List.getElem_mem _

/-- The slice at A holds the classes ks. -/
def RdF (w : World) (A : Option Addr) (ks : List Nat) : Prop :=
  (∀ k ∈ ks, Known k) ∧ (ks = [] ∨ ∃ b off, A = some ⟨b, off, none⟩ ∧ b < w.heap.size ∧ ∀ j, j < ks.length → w.cell? ⟨b, off + j, none⟩ = some (.func (.func (ks.getD j 0)) #[] #[]))
theorem RdF.at_ {w : World} {A : Option Addr} {ks : List Nat} (h : RdF w A ks) {j : Nat} (hj : j < ks.length) :
    Known (ks.getD j 0) ∧ ∃ b off, A = some ⟨b, off, none⟩ ∧ b < w.heap.size ∧ w.cell? ⟨b, off + j, none⟩ = some (.func (.func (ks.getD j 0)) #[] #[]) := by
  refine ⟨h.1 _ (by rw [List.getD_eq_getElem?_getD, List.getElem?_eq_getElem hj]; exact List.getElem_mem _), ?_⟩
  rcases h.2 with h | ⟨b, off, rfl, hlt, hc⟩
  · subst h; simp at hj
  · exact ⟨b, off, rfl, hlt, hc j hj⟩

def SomeRel (ks : List Nat) (r : Int) (i : Value) : Prop := ∃ k : Nat, k ≤ ks.length ∧ i = .int .i64 k ∧ (ks.take k).any (clsP · r) = false

set_option maxHeartbeats 1000000 in
set_option maxRecDepth 100000 in
theorem some_any (r : Int) (A : Option Addr) (c : Nat) (ks : List Nat) (w : World) (h : RdF w A ks) (hl : ks.length ≤ 100) :
    Calls Tryz.prog 79 #[.int .i32 r, .slice A ks.length c] w fun e w' => e = .returned (.bool (anyP ks r)) ∧ w = w' := by
  obtain ⟨n, hn⟩ : ∃ n, n = ks.length := ⟨_, rfl⟩
  rw [← hn]
  have hn1 : n ≤ ks.length := by omega
  have hn2 : ks.length ≤ n := by omega
  clear hn
  go_enter Tryz.func79, Tryz.ntmps79
  go_wp2_with fail
  go_loop [9] (fun i => SomeRel ks r i) (fun i => ks.length - (intOf i).toNat)
  case atStart => exact ⟨0, Nat.zero_le _, rfl, by simp⟩
  case round =>
    obtain ⟨k, hk, rfl, ha⟩ := hrel
    have HA := Lib.hid ha
    clear ha
    by_cases hlt : k < n
    · obtain ⟨hkn, b, off, rfl, hb, hc⟩ := h.at_ (j := k) (by omega)
      have HS := Lib.hid (any_take ks r k (by omega))
      have HT := Lib.hid (any_hit ks r k (by omega))
      generalize ks.getD k 0 = f at hkn hc HS HT
      have hne : ∀ fn, Sem.run Tryz.prog (binOp BinOp.neq 93 (Value.func fn #[] #[]) Value.nilFunc) w = .ok (.bool true) w := fun fn => by kernel_rfl
      rcases hkn with rfl | rfl
      all_goals
        go_wp2_with (first | (go_at_call 45; refine (chr_any _ _).mono ?_; rintro e w' ⟨rfl, rfl⟩) | (go_at_call 55; refine (blank_any _ _).mono ?_; rintro e w' ⟨rfl, rfl⟩))
        · go_ret
          refine ⟨cret_bool (HT.out ?_).symm, rfl⟩
          simp_all [clsP]
        · go_round
          case rel => 
            refine ⟨k + 1, by omega, by go_num, ?_⟩
            rw [HS.out, HA.out]
            simp_all [clsP]
          case measure => simp [intOf]; omega
    · go_wp2
      go_ret
      have hkn : k = ks.length := by omega
      subst hkn
      have := HA.out
      rw [List.take_length] at this
      exact ⟨cret_bool this.symm, rfl⟩
end Go.Proofs.YtkeilgompipfjaaGreatDoor.Cz

/- The walk of char.All: each rune of a text, as a range over it has them, is in one of the classes. -/
set_option linter.unusedSimpArgs false
set_option linter.unusedVariables false
namespace Go.Proofs.YtkeilgompipfjaaGreatDoor.Cz
open Go.RowKit

/-- A text's runes from a place on. -/
def rgo (s : ByteArray) : Nat → Nat → List Int
  | 0, _ => []
  | f + 1, i => if i < s.size then ((Utf8.decode s i).1 : Int) :: rgo s f (i + (Utf8.decode s i).2) else []
def runes (s : ByteArray) : List Int := rgo s s.size 0
def allP (ks : List Nat) (s : ByteArray) : Bool := (runes s).all (anyP ks)

theorem width_pos (s : ByteArray) (pos : Nat) (h : pos < s.size) : 1 ≤ (Utf8.decode s pos).2 := by
  by_cases ha : (s[pos]'h).toNat < 128
  · rw [decode_ascii s pos h ha]
    exact Nat.le_refl _
  · exact (decode_high s pos h (by omega)).2
theorem rgo_end (s : ByteArray) (b pos : Nat) (h : ¬ pos < s.size) : rgo s b pos = [] := by
  cases b with
  | zero => rfl
  | succ b => simp [rgo, h]
theorem RdF.iter {w : World} {A : Option Addr} {ks : List Nat} (h : RdF w A ks) (s : ByteArray) (pos : Nat) : RdF (w.iter s pos) A ks := by
  refine ⟨h.1, ?_⟩
  rcases h.2 with h2 | ⟨b, off, rfl, hlt, hc⟩
  · exact .inl h2
  · refine .inr ⟨b, off, rfl, by simp [World.iter]; omega, fun j hj => ?_⟩
    rw [← hc j hj]
    exact ((Below.refl w.heap.size w).alloc (Nat.le_refl _) _).cell (p := ⟨b, off + j, none⟩) hlt

def AllRel (s : ByteArray) (ks : List Nat) (w : World) (wr : World) : Prop :=
  ∃ pos b : Nat, wr = w.iter s pos ∧ s.size ≤ pos + b ∧ (rgo s b pos).all (anyP ks) = allP ks s

set_option maxHeartbeats 1000000 in
set_option maxRecDepth 100000 in
theorem all_any (s : ByteArray) (A : Option Addr) (c n : Nat) (ks : List Nat) (w : World) (h : RdF w A ks) (hn : n = ks.length) (hl : ks.length ≤ 100) :
    Calls Tryz.prog 54 #[.string s, .slice A n c] w fun e w' => e = .returned (.bool (allP ks s)) ∧ Below w.heap.size w w' := by
  have HB := Lib.hid (fun pos => (Below.refl w.heap.size w).alloc (Nat.le_refl _) (.stringIter s pos))
  have HSM := Lib.hid (fun r pos => some_any r A c ks (w.iter s pos) (h.iter s pos) hl)
  rw [← hn] at HSM
  clear hn h
  go_enter Tryz.func54, Tryz.ntmps54
  go_wp2_with fail
  go_loopw [6] (fun _ wr => AllRel s ks w wr) (fun _ wr => s.size - wr.iterPos w.heap.size)
  case atStart => exact ⟨0, s.size, rfl, by omega, rfl⟩
  case round =>
    obtain ⟨pos, b, rfl, hb, ha⟩ := hrel
    have HA := Lib.hid ha
    clear ha
    by_cases hp : pos < s.size
    · have hnx : ∀ ty, (Instr.next (.pointer (some ⟨w.heap.size, 0, none⟩)) true ty).run Tryz.prog (w.iter s pos) = _ := fun ty => run_next_any w s pos ty hp
      have hwd := width_pos s pos hp
      obtain ⟨b, rfl⟩ : ∃ b', b = b' + 1 := ⟨b - 1, by omega⟩
      have HR : Hid (rgo s (b + 1) pos = ((Utf8.decode s pos).1 : Int) :: rgo s b (pos + (Utf8.decode s pos).2)) := Lib.hid (by simp [rgo, hp])
      generalize (Utf8.decode s pos).1 = r at *
      generalize (Utf8.decode s pos).2 = d at *
      go_wp2_with (go_at_call 79; refine (HSM.out _ _).mono ?_; rintro e w' ⟨rfl, rfl⟩)
      · go_ret
        rename_i hq
        have hz : anyP ks (r : Int) = false := by simpa using hq
        refine ⟨cret_bool ?_, HB.out _⟩
        rw [← HA.out, HR.out, List.all_cons, hz, Bool.false_and]
      · rename_i hq
        have hz : anyP ks (r : Int) = true := by simpa using hq
        refine ⟨⟨pos + d, b, rfl, by omega, ?_⟩, ?_⟩
        · rw [← HA.out, HR.out, List.all_cons, hz, Bool.true_and]
        · simp
          omega
    · have hnx : ∀ ty, (Instr.next (.pointer (some ⟨w.heap.size, 0, none⟩)) true ty).run Tryz.prog (w.iter s pos) = _ := fun ty => run_next_end w s pos ty hp
      have HE := Lib.hid (rgo_end s b pos hp)
      go_wp2
      go_ret
      have := HA.out
      rw [HE.out] at this
      exact ⟨cret_bool (by rw [← this]; rfl), HB.out pos⟩
theorem Blk0 (w : World) (t : TypeId) (cs : Array Value) (i : Nat) : (w.alloc (.cells cs t)).cell? ⟨w.heap.size, i, none⟩ = cs[i]? := World.cell?_alloc_mark w cs t (0, 0) i
theorem rdf_lit1 (w : World) (k : Nat) (hk : Known k) : RdF (w.alloc (.cells #[.func (.func k) #[] #[]] 93)) (some ⟨w.heap.size, 0, none⟩) [k] := by
  refine ⟨fun x hx => by simp at hx; rw [hx]; exact hk, .inr ⟨w.heap.size, 0, rfl, by simp, fun j hj => ?_⟩⟩
  rw [Nat.zero_add, Blk0]
  match j, hj with
  | 0, _ => rfl
theorem all1 (s : ByteArray) (k : Nat) (hk : Known k) (w : World) : Calls Tryz.prog 54 #[.string s, .slice (some ⟨w.heap.size, 0, none⟩) 1 1] (w.alloc (.cells #[.func (.func k) #[] #[]] 93)) fun e w' => e = .returned (.bool (allP [k] s)) ∧ Below w.heap.size w w' :=
  (all_any s (some ⟨w.heap.size, 0, none⟩) 1 1 [k] _ (rdf_lit1 w k hk) rfl (by simp)).mono fun e w' ⟨h1, h2⟩ => ⟨h1, ((Below.refl _ w).alloc (Nat.le_refl _) _).trans (h2.mono (by simp))⟩
end Go.Proofs.YtkeilgompipfjaaGreatDoor.Cz

/- The walks of scan's small readings: comment, startTag, endTag, refused, upTo, unquoted, sound. -/
set_option linter.unusedSimpArgs false
set_option linter.unusedVariables false
namespace Go.Proofs.YtkeilgompipfjaaGreatDoor
open Go.RowKit

theorem tk0 : tkV T0 = .agg #[.int .i64 0, .string ⟨#[]⟩, .bool false, .bool false] := by unfold tkV T0; rw [str_none]
theorem str_byts (s : ByteArray) : strOfNums (byts s) = s := (str_of_byts rfl).symm

set_option maxHeartbeats 1000000 in
set_option maxRecDepth 100000 in
theorem comment_any (s : ByteArray) (at_ : Int) (w : World) (hs : s.size ≤ 10000) (hG : Gl w) : Calls Tryz.prog 68 #[.string s, .int .i64 at_] w (RdrPost (commR (byts s)) w) := by
  have HG := Lib.hid hG
  clear hG
  have hBel := (Below.refl w.heap.size w).alloc (Nat.le_refl _) (.cells #[.int .i64 0, .string ⟨#[]⟩, .bool false, .bool false] 41)
  have HB := Lib.hid hBel
  clear hBel
  by_cases h1 : (fnd [45, 45] (byts s)).isSome = true
  · have C1 := Lib.hid (fun W (hW : Gl W) => cont_any s ⟨#[45, 45]⟩ W (by omega) hW true h1)
    have HR : Hid (commR (byts s) = (T0, 6)) := Lib.hid (by unfold commR; rw [if_pos (.inl h1)])
    clear h1
    go_enter Tryz.func68, Tryz.ntmps68
    go_wp2_with fail
    refine (C1.out _ (HG.out.alloc _)).mono ?_
    rintro e w1 ⟨rfl, rfl⟩
    go_wp2_with fail
    refine bodyPost_ret (v := .tuple #[.agg #[.int .i64 0, .string ⟨#[]⟩, .bool false, .bool false], .int .i64 6]) (by simp [results, Tryz.results68, go_sem]) rfl ?_
    rw [HR.out]
    exact ⟨by rw [tk0], HB.out⟩
  · have h1' : (fnd [45, 45] (byts s)).isSome = false := by simpa using h1
    have C1 := Lib.hid (fun W (hW : Gl W) => cont_any s ⟨#[45, 45]⟩ W (by omega) hW false h1')
    by_cases h2 : (byts s).getLast? = some 45
    · have C2 := Lib.hid (fun W => hassuf_any s 45 W (by omega) true (decide_eq_true h2))
      have HR : Hid (commR (byts s) = (T0, 6)) := Lib.hid (by unfold commR; rw [if_pos (.inr h2)])
      clear h1 h1' h2
      go_enter Tryz.func68, Tryz.ntmps68
      go_wp2_with fail
      refine (C1.out _ (HG.out.alloc _)).mono ?_
      rintro e w1 ⟨rfl, rfl⟩
      go_wp2_with fail
      refine (C2.out _).mono ?_
      rintro e w1 ⟨rfl, rfl⟩
      go_wp2_with fail
      refine bodyPost_ret (v := .tuple #[.agg #[.int .i64 0, .string ⟨#[]⟩, .bool false, .bool false], .int .i64 6]) (by simp [results, Tryz.results68, go_sem]) rfl ?_
      rw [HR.out]
      exact ⟨by rw [tk0], HB.out⟩
    · have C2 := Lib.hid (fun W => hassuf_any s 45 W (by omega) false (decide_eq_false h2))
      have HR : Hid (commR (byts s) = (⟨4, byts s, false, false⟩, 0)) := Lib.hid (by unfold commR; rw [if_neg (by rintro (h | h); exact h1 h; exact h2 h)])
      clear h1 h1' h2
      go_enter Tryz.func68, Tryz.ntmps68
      go_wp2_with fail
      refine (C1.out _ (HG.out.alloc _)).mono ?_
      rintro e w1 ⟨rfl, rfl⟩
      go_wp2_with fail
      refine (C2.out _).mono ?_
      rintro e w1 ⟨rfl, rfl⟩
      go_wp2_with fail
      refine bodyPost_ret (v := .tuple #[.agg #[.int .i64 4, .string s, .bool false, .bool false], .int .i64 0]) (by simp [results, Tryz.results68, go_sem]) rfl ?_
      rw [HR.out]
      exact ⟨by unfold tkV; rw [str_byts], (Below.refl w.heap.size w).alloc (Nat.le_refl _) _⟩
set_option maxHeartbeats 1000000 in
set_option maxRecDepth 100000 in
theorem startTag_any (s : ByteArray) (at_ : Int) (w : World) (hs : s.size ≤ 10000) (hG : Gl w) : Calls Tryz.prog 73 #[.string s, .int .i64 at_] w (RdrPost (startR (byts s)) w) := by
  have HG := Lib.hid hG
  clear hG
  have HB := Lib.hid ((Below.refl w.heap.size w).alloc (Nat.le_refl _) (.cells #[.int .i64 0, .string ⟨#[]⟩, .bool false, .bool false] 41))
  by_cases h1 : (60 : Int) ∈ byts s
  · have C1 := Lib.hid (fun W (hW : Gl W) => cont_any s ⟨#[60]⟩ W (by omega) hW true ((fnd_mem 60 _).2 h1))
    have HR : Hid (startR (byts s) = (T0, 6)) := Lib.hid (by unfold startR; rw [if_pos h1])
    clear h1
    go_enter Tryz.func73, Tryz.ntmps73
    go_wp2_with fail
    refine (C1.out _ (HG.out.alloc _)).mono ?_
    rintro e w1 ⟨rfl, rfl⟩
    go_wp2_with fail
    refine bodyPost_ret (v := .tuple #[.agg #[.int .i64 0, .string ⟨#[]⟩, .bool false, .bool false], .int .i64 6]) (by simp [results, Tryz.results73, go_sem]) rfl ?_
    rw [HR.out]
    exact ⟨by rw [tk0], HB.out⟩
  · have h1' : (fnd (byts ⟨#[60]⟩) (byts s)).isSome = false := by
      cases hf : (fnd (byts ⟨#[60]⟩) (byts s)).isSome with
      | false => rfl
      | true => exact absurd ((fnd_mem 60 _).1 hf) h1
    have C1 := Lib.hid (fun W (hW : Gl W) => cont_any s ⟨#[60]⟩ W (by omega) hW false h1')
    by_cases h2 : (byts s).getLast? = some 47
    · have C2 := Lib.hid (fun W => cutsuf_any s 47 W (by omega) true (decide_eq_true h2))
      simp only [if_true] at C2
      have HR : Hid (startR (byts s) = (⟨1, (byts s).dropLast, true, false⟩, 0)) := Lib.hid (by unfold startR; rw [if_neg h1, if_pos h2])
      clear h1 h1' h2
      generalize hr : strOfNums (byts s).dropLast = r at C2
      have HRr := Lib.hid hr
      clear hr
      go_enter Tryz.func73, Tryz.ntmps73
      go_wp2_with fail
      refine (C1.out _ (HG.out.alloc _)).mono ?_
      rintro e w1 ⟨rfl, rfl⟩
      go_wp2_with fail
      refine (C2.out _).mono ?_
      rintro e w1 ⟨rfl, rfl⟩
      go_wp2_with fail
      refine bodyPost_ret (v := .tuple #[.agg #[.int .i64 1, .string r, .bool true, .bool false], .int .i64 0]) (by simp [results, Tryz.results73, go_sem]) rfl ?_
      rw [HR.out]
      exact ⟨by unfold tkV; rw [HRr.out], (Below.refl w.heap.size w).alloc (Nat.le_refl _) _⟩
    · have C2 := Lib.hid (fun W => cutsuf_any s 47 W (by omega) false (decide_eq_false h2))
      simp only [Bool.false_eq_true, if_false] at C2
      have HR : Hid (startR (byts s) = (⟨1, byts s, false, false⟩, 0)) := Lib.hid (by unfold startR; rw [if_neg h1, if_neg h2])
      clear h1 h1' h2
      go_enter Tryz.func73, Tryz.ntmps73
      go_wp2_with fail
      refine (C1.out _ (HG.out.alloc _)).mono ?_
      rintro e w1 ⟨rfl, rfl⟩
      go_wp2_with fail
      refine (C2.out _).mono ?_
      rintro e w1 ⟨rfl, rfl⟩
      go_wp2_with fail
      refine bodyPost_ret (v := .tuple #[.agg #[.int .i64 1, .string s, .bool false, .bool false], .int .i64 0]) (by simp [results, Tryz.results73, go_sem]) rfl ?_
      rw [HR.out]
      exact ⟨by unfold tkV; rw [str_byts], (Below.refl w.heap.size w).alloc (Nat.le_refl _) _⟩
theorem str_size (l : List Int) : (strOfNums l).size = l.length := by
  have : (strOfNums l).size = (strOfNums l).data.toList.length := by simp
  rw [this, strOfNums_data, List.length_map]
theorem trimR_len (l : List Int) : (trimR l).length ≤ l.length := by
  unfold trimR
  rw [List.length_reverse]
  have := (List.dropWhile_suffix (l := l.reverse) blk?).length_le
  rwa [List.length_reverse] at this
set_option maxHeartbeats 1000000 in
set_option maxRecDepth 100000 in
theorem endTag_of (s f : ByteArray) (at_ : Int) (a b : ByteArray) (ok : Bool) (w : World) (hG : Gl w)
    (C1 : Hid (∀ W, Gl W → Calls Tryz.prog 99 #[.string s, .func (.func 55) #[] #[]] W fun e w' => e = .returned (.string f) ∧ Below W.heap.size W w'))
    (C2 : Hid (∀ W, Calls Tryz.prog 87 #[.string f] W fun e w' => e = .returned (.tuple #[.string a, .string b, .bool ok]) ∧ Below W.heap.size W w')) :
    Calls Tryz.prog 71 #[.string s, .int .i64 at_] w fun e w' => e = .returned (.tuple #[if ok = true then .agg #[.int .i64 2, .string f, .bool false, .bool false] else .agg #[.int .i64 0, .string ⟨#[]⟩, .bool false, .bool false], .int .i64 (if ok = true then 0 else 4)]) ∧ Below w.heap.size w w' := by
  have HG := Lib.hid hG
  clear hG
  have HB := Lib.hid ((Below.refl w.heap.size w).alloc (Nat.le_refl _) (.cells #[.int .i64 0, .string ⟨#[]⟩, .bool false, .bool false] 41))
  have HN := Lib.hid (res_new w)
  cases ok
  all_goals
    simp only [Bool.false_eq_true, if_false, if_true]
    go_enter Tryz.func71, Tryz.ntmps71
    go_wp2_with fail
    refine (C1.out _ (HG.out.alloc _)).mono ?_
    rintro e w1 ⟨rfl, hb1⟩
    go_wp2_with fail
    refine (C2.out _).mono ?_
    rintro e w2 ⟨rfl, hb2⟩
    have hz1 : w.heap.size < w1.heap.size := by have := hb1.size; simp at this; omega
    have hz2 : w.heap.size < w2.heap.size := Nat.lt_of_lt_of_le hz1 hb2.size
    have hb := HB.out.trans (hb1.mono (by simp))
    have HB2 := Lib.hid (hb.trans (hb2.mono hb.size))
    obtain ⟨c0, c1, c2, c3, f0, f1, f2, f3⟩ := (HN.out.keep hb1 (by simp)).keep hb2 hz1
    clear hb1 hb2 hb
    go_wp2_with fail
  · exact bodyPost_ret (v := .tuple #[.agg #[.int .i64 0, .string ⟨#[]⟩, .bool false, .bool false], .int .i64 4]) (by simp [results, Tryz.results71, go_sem, c0, c1, c2, c3, hz2]) rfl ⟨rfl, below_set4 HB2.out (Nat.le_refl _) _ _ _ _⟩
  · exact bodyPost_ret (v := .tuple #[.agg #[.int .i64 2, .string f, .bool false, .bool false], .int .i64 0]) (by simp [results, Tryz.results71, go_sem, c0, c1, c2, c3, hz2]) rfl ⟨rfl, below_set4 HB2.out (Nat.le_refl _) _ _ _ _⟩
theorem endTag_any (s : ByteArray) (at_ : Int) (w : World) (hs : s.size ≤ 10000) (hG : Gl w) : Calls Tryz.prog 71 #[.string s, .int .i64 at_] w (RdrPost (endR (byts s)) w) := by
  have hl := trimR_len (byts s)
  rw [byts_len] at hl
  refine (endTag_of s _ at_ _ _ _ w hG (Lib.hid fun W hW => trimr_any s W (by omega) hW) (Lib.hid fun W => Nz.split_any (strOfNums (trimR (byts s))) (by rw [str_size]; omega) W)).mono ?_
  rintro e w' ⟨rfl, hb⟩
  refine ⟨?_, hb⟩
  unfold endR nmB
  cases (Nz.splitA (strOfNums (trimR (byts s)))).2.2 with
  | true => rfl
  | false =>
    simp only [Bool.false_eq_true, if_false, if_true]
    rw [tk0]
set_option maxHeartbeats 1000000 in
set_option maxRecDepth 100000 in
theorem refused_any (s : ByteArray) (at_ er : Int) (b : Nat) (w : World) (hc : w.cell? ⟨b, 0, none⟩ = some (.int .i64 er)) : Calls Tryz.prog 95 #[.string s, .int .i64 at_, .pointer (some ⟨b, 0, none⟩)] w (RdrPost (T0, er) w) := by
  have hlt : b < w.heap.size := Lib.lt_of_cell hc
  have hne : ¬ b = w.heap.size := by omega
  have hc2 : ∀ o, (w.alloc o).cell? ⟨b, 0, none⟩ = some (.int .i64 er) := fun o => (((Below.refl w.heap.size w).alloc (Nat.le_refl _) o).cell (p := ⟨b, 0, none⟩) hlt).trans hc
  have HB := Lib.hid ((Below.refl w.heap.size w).alloc (Nat.le_refl _) (.cells #[.int .i64 0, .string ⟨#[]⟩, .bool false, .bool false] 41))
  go_enter Tryz.func95, Tryz.ntmps95
  go_wp2
  go_region
  all_goals
    go_wp2
    exact bodyPost_ret (v := .tuple #[tkV T0, .int .i64 er]) (by rw [tk0]; simp [results, Tryz.results95, go_sem]) rfl ⟨rfl, HB.out.drew⟩
end Go.Proofs.YtkeilgompipfjaaGreatDoor

/- The library's contracts of strings.CutPrefix and HasPrefix, laid at this program (written by the kit's own two commands). -/
set_option linter.unusedVariables false
namespace Go.Proofs.YtkeilgompipfjaaGreatDoor
open Go.Shelf
def Tryz.lays103_ren : Go.Shelf.Ren := ⟨fun | 103 => 47 | 210 => 74 | 206 => 75 | n => n, fun | 9 => 9 | 4 => 4 | 24 => 100 | 3 => 3 | n => n, fun | n => n⟩
theorem Tryz.lays103 : Go.Proofs.Lays.n103 Tryz.prog Tryz.lays103_ren := {
  mixed := by kernel_rfl
  f103 := Tryz.func47.trans (congrArg some (by kernel_rfl))
  f206 := Tryz.func75.trans (congrArg some (by kernel_rfl))
  f210 := Tryz.func74.trans (congrArg some (by kernel_rfl))
  t3 := Tryz.underlying3
  a3 := Tryz.isAgg3
  z3 := Tryz.sizeOf3
  v3 := Tryz.zeroValue3
  t4 := Tryz.underlying4
  a4 := Tryz.isAgg4
  z4 := Tryz.sizeOf4
  v4 := Tryz.zeroValue4
  t9 := Tryz.underlying9
  a9 := Tryz.isAgg9
  z9 := Tryz.sizeOf9
  v9 := Tryz.zeroValue9
  t24 := Tryz.underlying100
  a24 := Tryz.isAgg100
  z24 := Tryz.sizeOf100
  v24 := Tryz.zeroValue100 }
open Go.RowKit in
theorem Tryz.strings_CutPrefix (s p : ByteArray) (w : World) :
    Calls Tryz.prog 47 #[.string s, .string p] w fun e w' => e = .returned (.tuple #[.string ⟨(Lib.trimPrefix s.data.toList p.data.toList).toArray⟩, .bool (Lib.hasPrefix s.data.toList p.data.toList)]) ∧ w' = w := Any.strings_CutPrefix Tryz.lays103 s p w
def Tryz.lays99_ren : Go.Shelf.Ren := ⟨fun | 99 => 49 | 206 => 75 | n => n, fun | 9 => 9 | 4 => 4 | 3 => 3 | n => n, fun | n => n⟩
theorem Tryz.lays99 : Go.Proofs.Lays.n99 Tryz.prog Tryz.lays99_ren := {
  mixed := by kernel_rfl
  f99 := Tryz.func49.trans (congrArg some (by kernel_rfl))
  f206 := Tryz.func75.trans (congrArg some (by kernel_rfl))
  t3 := Tryz.underlying3
  a3 := Tryz.isAgg3
  z3 := Tryz.sizeOf3
  v3 := Tryz.zeroValue3
  t4 := Tryz.underlying4
  a4 := Tryz.isAgg4
  z4 := Tryz.sizeOf4
  v4 := Tryz.zeroValue4
  t9 := Tryz.underlying9
  a9 := Tryz.isAgg9
  z9 := Tryz.sizeOf9
  v9 := Tryz.zeroValue9 }
open Go.RowKit Go.Lib in
theorem Tryz.strings_HasPrefix (s p : ByteArray) (w : World) :
    Calls Tryz.prog 49 #[.string s, .string p] w fun e w' => e = .returned (.bool (Lib.hasPrefix s.data.toList p.data.toList)) ∧ w' = w := Any.strings_HasPrefix Tryz.lays99 s p w
end Go.Proofs.YtkeilgompipfjaaGreatDoor
