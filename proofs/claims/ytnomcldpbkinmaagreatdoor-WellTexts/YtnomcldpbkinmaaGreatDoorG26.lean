/-
  Merged by program out of the texts WlEvM, Repl, Pred of one seat.
-/
import Derived.Test.YtnomcldpbkinmaaGreatDoorG23
import Derived.Test.YtnomcldpbkinmaaGreatDoorG09

/- Plain mathematics: how long a token's text is; sizes of a reader behind a token. -/
set_option linter.unusedSimpArgs false
set_option linter.unusedVariables false
namespace Go.Proofs.YtnomcldpbkinmaaGreatDoor.Wl
open Go.RowKit

def Tl (rd : List Int → Tk × Int) : Prop := ∀ l, (rd l).1.text.length ≤ l.length
theorem ends_len : ∀ (l : List Int), (endsF l).length ≤ l.length
  | [] => Nat.le_refl _
  | c :: l => by
    have := ends_len l
    unfold endsF
    rw [List.length_append, List.length_cons]
    repeat' split
    all_goals simp
    all_goals omega
theorem tl_data : Tl dataR := fun l => ends_len l
theorem tl_comm : Tl commR := fun l => by
  unfold commR
  split
  · exact Nat.zero_le _
  · exact Nat.le_refl _
theorem tl_inst (z : Bool) : Tl (instR z) := fun l => by
  unfold instR
  split
  · exact Nat.zero_le _
  · split
    · exact Nat.zero_le _
    · exact Nat.le_refl _
theorem tl_end : Tl endR := fun l => by
  unfold endR
  split
  · exact Nat.zero_le _
  · show (trimR l).length ≤ _
    unfold trimR
    rw [List.length_reverse]
    have := (List.dropWhile_suffix blk? (l := l.reverse)).length_le
    rw [List.length_reverse] at this
    exact this
theorem tl_start : Tl startR := fun l => by
  unfold startR
  split
  · exact Nat.zero_le _
  · split
    · show l.dropLast.length ≤ _
      rw [List.length_dropLast]
      omega
    · exact Nat.le_refl _
theorem fin_text {b n m : Nat} {rd : List Int → Tk × Int} {r : List Int} (h : Tl rd) : (fin b n m rd r).1.text.length ≤ r.length := by
  unfold fin
  split
  · exact Nat.zero_le _
  · split
    · exact Nat.zero_le _
    · refine Nat.le_trans (h _) ?_
      rw [List.length_take]
      omega
theorem span_text {b : Nat} {stop : List Int} {rd : List Int → Tk × Int} {l : List Int} (h : Tl rd) : (span b stop rd l).1.text.length ≤ l.length := by
  unfold span
  split
  · exact Nat.zero_le _
  · refine Nat.le_trans (fin_text h) ?_
    rw [List.length_drop]
    omega
theorem mark_text (z : Bool) (l : List Int) : (markF z l).1.text.length ≤ l.length := by
  unfold markF
  split
  · exact span_text tl_data
  split
  · exact span_text tl_comm
  split
  · exact span_text (tl_inst z)
  split
  · exact span_text tl_end
  split
  · split
    · exact Nat.zero_le _
    · split
      · exact Nat.zero_le _
      · exact Nat.zero_le _
  · unfold startF
    split
    · exact Nat.zero_le _
    · refine Nat.le_trans (fin_text tl_start) ?_
      rw [List.length_drop]
      omega
theorem chars_text (l : List Int) (n : Nat) (hn : NN l) : (charsF l n).1.text.length ≤ 2 * l.length := by
  unfold charsF
  split
  · exact Nat.zero_le _
  split
  · exact Nat.zero_le _
  split
  · exact Nat.zero_le _
  · rename_i h
    show (ansF false (l.take n)).1.length ≤ _
    unfold ansF at h ⊢
    by_cases c : (readF false (l.take n)).2.2 = 0
    · rw [if_pos c]
      have := (Tg.read_rt false _ (l.take n) (Nat.le_refl _) (fun x hx => hn x (List.mem_of_mem_take hx)) c).2.2.2
      refine Nat.le_trans this ?_
      rw [List.length_take]
      omega
    · rw [if_neg c]
      exact Nat.zero_le _
theorem nx_text (L : List Int) (a : Nat) (hn : NN L) : (nx L a).1.text.length ≤ 2 * L.length := by
  have hd : (L.drop a).length ≤ L.length := by rw [List.length_drop]; omega
  have hnd : NN (L.drop a) := fun x hx => hn x (List.mem_of_mem_drop hx)
  unfold nx frontF
  split
  · exact Nat.zero_le _
  split
  · have := mark_text (decide (a = 0)) (L.drop a)
    omega
  · unfold plainF
    split
    · rename_i n _
      have := chars_text (L.drop a) n hnd
      omega
    · have := chars_text (L.drop a) (L.drop a).length hnd
      exact Nat.le_trans this (by omega)
/-- Sizes behind a token. -/
theorem ent_bind {l : List Pr} {nm : ByteArray} {r W : List Pr} {n : Pr} {f : List Tr} (h : Nz.Sc.entF l nm r = .ok (W, n, f)) : Nz.Sc.bindF l r = some W := by
  unfold Nz.Sc.entF at h
  split at h
  · cases h
  · rename_i W' hW
    split at h
    · cases h
    · split at h
      · cases h
      · injection h with h
        injection h with h _
        rw [hW, h]
theorem gd_same {s : St} (h : Gd s) {x : St} (hx : x.op = s.op) : Gd x := ⟨by rw [hx]; exact h.dep, fun k y hk => h.len k y (by rw [← hx]; exact hk)⟩
theorem start_bad {s : St} {t : Tok} (c : (startT s t).2.2 ≠ 0) : (startT s t).1.op = s.op := by
  unfold startT at c ⊢
  by_cases c1 : s.root = true ∧ s.op = []
  · rw [if_pos c1]; rfl
  rw [if_neg c1] at c ⊢
  by_cases c2 : (Tg.parF t.text).1 ≠ 0
  · rw [if_pos c2]; rfl
  rw [if_neg c2] at c ⊢
  cases ho : Nz.Sc.entF (scpF s) (Tg.parF t.text).2.1 (Tg.parF t.text).2.2 with
  | error e => rfl
  | ok q =>
    obtain ⟨W, n, f⟩ := q
    rw [ho] at c
    unfold enterT at c ⊢
    dsimp only at c ⊢
    by_cases c3 : 64 ≤ s.op.length
    · rw [if_pos c3]; rfl
    · rw [if_neg c3] at c
      exfalso
      apply c
      unfold opened
      split <;> rfl
theorem take_gd {s : St} (h : Gd s) (t : Tok) (ht : t.text.size ≤ 10000) : Gd (takeF s t).1 := by
  unfold takeF
  split
  · exact h
  split
  · exact h
  unfold readT
  split
  · by_cases c : (startT s t).2.2 = 0
    · obtain ⟨a1, a2, W, n, f, a3, a4, a5⟩ := start_ok c
      rw [a5]
      unfold opened
      split
      · exact gd_same h rfl
      · obtain ⟨p1, p2, p3, p4⟩ := par_lim a2 ht
        obtain ⟨q1, q2⟩ := h.scp
        have hb := ent_bind a3
        have hl := Nz.Sc.bind_len _ _ hb
        have hm := Nz.Sc.bind_lim _ _ q2 p3 hb
        refine ⟨by show (s.op ++ [_]).length ≤ 64; rw [List.length_append]; show s.op.length + 1 ≤ 64; omega, fun k x hk => ?_⟩
        have hk' : (s.op ++ [((Tg.parF t.text).2.1, W)])[k]? = some x := hk
        rcases Nat.lt_or_ge k s.op.length with g | g
        · rw [List.getElem?_append_left g] at hk'
          exact h.len k x hk'
        · rw [List.getElem?_append_right g] at hk'
          have hk0 : k - s.op.length = 0 := by
            have := (List.getElem?_eq_some_iff.1 hk').1
            simp at this
            omega
          rw [hk0] at hk'
          have : ((Tg.parF t.text).2.1, W) = x := by simpa using hk'
          subst this
          exact ⟨by show W.length ≤ _; omega, hm⟩
    · exact gd_same h (start_bad c)
  split
  · unfold endT
    split
    · refine ⟨by show s.op.dropLast.length ≤ 64; rw [List.length_dropLast]; have := h.dep; omega, fun k x hk => h.len k x ?_⟩
      have hk' : s.op.dropLast[k]? = some x := hk
      have hlt := (List.getElem?_eq_some_iff.1 hk').1
      rw [List.getElem?_dropLast] at hk'
      split at hk'
      · exact hk'
      · cases hk'
    · exact gd_same h rfl
  split
  · unfold charsT
    split
    · exact gd_same h rfl
    · split
      · exact h
      · exact gd_same h rfl
  split
  · unfold lastT
    split
    · exact gd_same h rfl
    · split
      · exact gd_same h rfl
      · exact gd_same h rfl
  · exact h
theorem take_wait {s : St} (t : Tok) : (takeF s t).1.wait.size ≤ s.wait.size + t.text.size := by
  unfold takeF readT startT endT charsT lastT enterT opened bad
  repeat' split
  all_goals first | (show s.wait.size ≤ _; omega) | (show Nz.em.size ≤ _; exact Nat.zero_le _) | (show (s.wait ++ t.text).size ≤ _; rw [size_cat]; omega)
theorem told_l (u : ByteArray) : (toldF u).length ≤ 1 := by unfold toldF; split <;> simp
theorem take_len {s : St} (t : Tok) : (takeF s t).2.1.length ≤ 3 := by
  have h := told_l s.wait
  unfold takeF readT startT endT charsT lastT enterT opened bad
  repeat' split
  all_goals first | (show ([] : List Ev).length ≤ 3; decide) | (show (toldF s.wait ++ _).length ≤ 3; rw [List.length_append]; simp; omega)
end Go.Proofs.YtnomcldpbkinmaaGreatDoor.Wl

/- strings.ReplaceAll twice, as CDATA's line ends are made one; the walk of scan.data. -/
set_option linter.unusedSimpArgs false
set_option linter.unusedVariables false
namespace Go.Proofs.YtnomcldpbkinmaaGreatDoor
open Go.RowKit Go.Lib

def RA (old new s : List UInt8) : List UInt8 := replaceK old new (count s old) s
theorem RA_eq (s old new : List UInt8) (h : old ≠ new) : replaceAll s old new = RA old new s := by
  unfold replaceAll replace replaceNum RA
  rw [if_neg (by simpa using h), if_pos (.inl (by omega))]
theorem RA_nil (old new : List UInt8) (h : old ≠ []) : RA old new [] = [] := by
  have hi : index [] old = -1 := by
    unfold index
    cases old with
    | nil => exact absurd rfl h
    | cons a b => rfl
  unfold RA
  rw [count_miss hi]
  rfl
theorem RA_pre (old new : List UInt8) (c : UInt8) (l : List UInt8) (h : old ≠ []) (hp : old.isPrefixOf (c :: l) = true) : RA old new (c :: l) = new ++ RA old new ((c :: l).drop old.length) := by
  have hi : index (c :: l) old = ((0 : Nat) : Int) := by
    unfold index
    rw [if_pos hp]
    rfl
  unfold RA
  rw [count_hit h hi, Nat.add_comm 1, replaceK_hit old new _ _ 0 hi]
  simp
theorem RA_no (old new : List UInt8) (c : UInt8) (l : List UInt8) (h : old ≠ []) (hp : ¬ old.isPrefixOf (c :: l) = true) : RA old new (c :: l) = c :: RA old new l := by
  have hi : index (c :: l) old = if index l old == -1 then -1 else index l old + 1 := by
    conv => lhs; unfold index
    rw [if_neg hp]
  by_cases hm : index l old = -1
  · rw [hm] at hi
    have hi' : index (c :: l) old = -1 := by rw [hi]; rfl
    unfold RA
    rw [count_miss hm, count_miss hi']
    rfl
  · have hg := index_ge l old
    obtain ⟨i, hl⟩ : ∃ i : Nat, index l old = i := ⟨(index l old).toNat, by omega⟩
    have hi' : index (c :: l) old = ((i + 1 : Nat) : Int) := by
      rw [hi, hl, if_neg (by simp)]
      rfl
    have hd : (c :: l).drop (i + 1 + old.length) = l.drop (i + old.length) := by
      rw [show i + 1 + old.length = (i + old.length) + 1 by omega]
      rfl
    unfold RA
    rw [count_hit h hl, count_hit h hi', hd, Nat.add_comm 1, replaceK_hit old new _ _ i hl, replaceK_hit old new _ _ (i + 1) hi', hd]
    rfl
theorem ends_eq : ∀ (n : Nat) (s : List UInt8), s.length ≤ n → (RA [13] [10] (RA [13, 10] [10] s)).map (fun b => (b.toNat : Int)) = endsF (s.map fun b => (b.toNat : Int))
  | n, [], _ => by
    rw [RA_nil _ _ (by simp), RA_nil _ _ (by simp)]
    rfl
  | n + 1, c :: l, h => by
    have key : ∀ (x : UInt8) (t : List UInt8), RA [13] [10] (x :: t) = (if x = 13 then 10 else x) :: RA [13] [10] t := fun x t => by
      by_cases hx : x = 13
      · rw [if_pos hx, RA_pre _ _ _ _ (by simp) (by rw [hx]; rfl)]
        rfl
      · rw [if_neg hx, RA_no _ _ _ _ (by simp) (by simp [List.isPrefixOf]; exact fun e => hx e.symm)]
    have hi : ∀ x : UInt8, (x.toNat : Int) = 13 ↔ x = 13 := fun x => ⟨fun e => uinj (b := 13) (by rw [e]; rfl), fun e => by rw [e]; rfl⟩
    by_cases hc : c = 13
    · subst hc
      match l, h with
      | 10 :: l, h =>
        rw [RA_pre _ _ _ _ (by simp) rfl]
        show List.map _ (RA [13] [10] (10 :: RA [13, 10] [10] l)) = _
        have ih := ends_eq n l (by simp at h; omega)
        rw [key 10 _]
        simp only [List.map_cons, ih]
        rw [if_neg (by decide), endsF, endsF]
        simp
      | [], h =>
        rw [RA_no _ _ _ _ (by simp) (by decide), RA_nil _ _ (by simp), key, RA_nil _ _ (by simp)]
        rfl
      | d :: l, h =>
        by_cases hd : d = 10
        · subst hd
          rw [RA_pre _ _ _ _ (by simp) rfl]
          show List.map _ (RA [13] [10] (10 :: RA [13, 10] [10] l)) = _
          have ih := ends_eq n l (by simp at h; omega)
          rw [key 10 _]
          simp only [List.map_cons, ih]
          rw [if_neg (by decide), endsF, endsF]
          simp
        · have hd' : ¬ (d.toNat : Int) = 10 := fun e => hd (uinj (b := 10) (by rw [e]; rfl))
          rw [RA_no _ _ _ _ (by simp) (by simp [List.isPrefixOf]; exact fun e => hd e.symm), key]
          have ih := ends_eq n (d :: l) (by simpa using h)
          rw [List.map_cons, ih, if_pos rfl]
          conv => rhs; rw [List.map_cons]; unfold endsF
          simp [hd']
    · have hc' : ¬ (c.toNat : Int) = 13 := fun e => hc ((hi c).1 e)
      rw [RA_no _ _ _ _ (by simp) (by simp [List.isPrefixOf]; exact fun e => absurd e.symm hc), key, if_neg hc]
      have ih := ends_eq n l (by simpa using h)
      rw [List.map_cons, ih]
      conv => rhs; rw [List.map_cons]; unfold endsF
      rw [if_neg hc']
      rfl
theorem ends_str (s : ByteArray) : (⟨(replaceAll (ByteArray.mk (replaceAll s.data.toList [13, 10] [10]).toArray).data.toList [13] [10]).toArray⟩ : ByteArray) = strOfNums (endsF (byts s)) := by
  refine str_of_byts ?_
  rw [mk_byts, RA_eq _ _ _ (by decide), RA_eq _ _ _ (by decide)]
  exact ends_eq _ _ (Nat.le_refl _)
theorem ra_len (old new : List UInt8) (h : new.length ≤ old.length) (h0 : old ≠ []) : ∀ (n : Nat) (s : List UInt8), s.length ≤ n → (RA old new s).length ≤ s.length
  | n, [], _ => by rw [RA_nil _ _ h0]; simp
  | n + 1, c :: l, hn => by
    by_cases hp : old.isPrefixOf (c :: l) = true
    · have hl := (List.isPrefixOf_iff_prefix.1 hp).length_le
      have h1 : 1 ≤ old.length := List.length_pos_iff.2 h0
      have hd : ((c :: l).drop old.length).length = (c :: l).length - old.length := List.length_drop ..
      have ih := ra_len old new h h0 n ((c :: l).drop old.length) (by simp only [List.length_cons] at hd hn ⊢; omega)
      rw [RA_pre _ _ _ _ h0 hp, List.length_append]
      omega
    · have ih := ra_len old new h h0 n l (by simpa using hn)
      rw [RA_no _ _ _ _ h0 hp]
      simpa using ih

/-- A token as a value; what a kind's reading answers. -/
def tkV (t : Tk) : Value := .agg #[.int .i64 t.kind, .string (strOfNums t.text), .bool t.empty, .bool t.blank]
def RdrPost (x : Tk × Int) (w : World) (e : Ending) (w' : World) : Prop := e = .returned (.tuple #[tkV x.1, .int .i64 x.2]) ∧ Below w.heap.size w w'

/-- The block of a result that is a token, as it is laid at first. -/
structure Res4 (w : World) (B : Nat) : Prop where
  c0 : w.cell? ⟨B, 0, none⟩ = some (.int .i64 0)
  c1 : w.cell? ⟨B, 1, none⟩ = some (.string ⟨#[]⟩)
  c2 : w.cell? ⟨B, 2, none⟩ = some (.bool false)
  c3 : w.cell? ⟨B, 3, none⟩ = some (.bool false)
  f0 : w.frozen? ⟨B, 0, none⟩ = false
  f1 : w.frozen? ⟨B, 1, none⟩ = false
  f2 : w.frozen? ⟨B, 2, none⟩ = false
  f3 : w.frozen? ⟨B, 3, none⟩ = false
theorem res_new (w : World) : Res4 (w.alloc (.cells #[.int .i64 0, .string ⟨#[]⟩, .bool false, .bool false] 42)) w.heap.size := by
  constructor
  all_goals simp [go_sem]
theorem Res4.keep {w w' : World} {B n : Nat} (h : Res4 w B) (hb : Below n w w') (hB : B < n) : Res4 w' B :=
  ⟨(hb.cell (p := ⟨B, 0, none⟩) hB).trans h.c0, (hb.cell (p := ⟨B, 1, none⟩) hB).trans h.c1, (hb.cell (p := ⟨B, 2, none⟩) hB).trans h.c2, (hb.cell (p := ⟨B, 3, none⟩) hB).trans h.c3,
   (hb.frozen (p := ⟨B, 0, none⟩) hB).trans h.f0, (hb.frozen (p := ⟨B, 1, none⟩) hB).trans h.f1, (hb.frozen (p := ⟨B, 2, none⟩) hB).trans h.f2, (hb.frozen (p := ⟨B, 3, none⟩) hB).trans h.f3⟩

theorem below_set4 {w w2 : World} {n B : Nat} (h : Below n w w2) (hB : n ≤ B) (a b c d : Value) :
    Below n w ((((w2.setCell ⟨B, 0, none⟩ a).setCell ⟨B, 1, none⟩ b).setCell ⟨B, 2, none⟩ c).setCell ⟨B, 3, none⟩ d) :=
  (((h.setCell (p := ⟨B, 0, none⟩) hB a).setCell (p := ⟨B, 1, none⟩) hB b).setCell (p := ⟨B, 2, none⟩) hB c).setCell (p := ⟨B, 3, none⟩) hB d
set_option maxHeartbeats 1000000 in
set_option maxRecDepth 100000 in
theorem data_any (s : ByteArray) (at_ : Int) (w : World) (hs : s.size ≤ 10000) (hG : Gl w) : Calls Tryz.prog 104 #[.string s, .int .i64 at_] w (RdrPost (dataR (byts s)) w) := by
  have HG := Lib.hid hG
  have HB := Lib.hid ((Below.refl w.heap.size w).alloc (Nat.le_refl _) (.cells #[.int .i64 0, .string ⟨#[]⟩, .bool false, .bool false] 42))
  have c1 := countB_le ⟨#[13, 10]⟩ (by decide) s.size s (Nat.le_refl _)
  obtain ⟨s1, hs1⟩ : ∃ s1 : ByteArray, s1 = ⟨(replaceAll s.data.toList [13, 10] [10]).toArray⟩ := ⟨_, rfl⟩
  have l1 : s1.size ≤ s.size := by
    rw [hs1, ← byts_len, mk_byts, List.length_map, RA_eq _ _ _ (by decide)]
    have := ra_len [13, 10] [10] (by simp) (by simp) _ s.data.toList (Nat.le_refl _)
    rw [← size_eq] at this
    exact this
  have c2 := countB_le ⟨#[13]⟩ (by decide) s1.size s1 (Nat.le_refl _)
  have HE := Lib.hid (ends_str s)
  rw [← hs1] at HE
  have C1 := Lib.hid (fun (W : World) (hW : Gl W) => let ⟨m, hm⟩ := hW.max; Tryz.strings_ReplaceAll s ⟨#[13, 10]⟩ ⟨#[10]⟩ m W (by omega) hm (by decide) (by have : (ByteArray.mk #[10]).size = 1 := rfl; rw [this]; omega))
  have C2 := Lib.hid (fun (W : World) (hW : Gl W) => let ⟨m, hm⟩ := hW.max; Tryz.strings_ReplaceAll s1 ⟨#[13]⟩ ⟨#[10]⟩ m W (by omega) hm (by decide) (by have : (ByteArray.mk #[10]).size = 1 := rfl; rw [this]; omega))
  have e1 : (ByteArray.mk (replaceAll s.data.toList (ByteArray.mk #[13, 10]).data.toList (ByteArray.mk #[10]).data.toList).toArray) = s1 := hs1.symm
  rw [e1] at C1
  have e2 : (ByteArray.mk (replaceAll s1.data.toList (ByteArray.mk #[13]).data.toList (ByteArray.mk #[10]).data.toList).toArray) = strOfNums (endsF (byts s)) := HE.out
  rw [e2] at C2
  clear e1 e2 HE hs1 c1 c2 hG
  go_enter Tryz.func104, Tryz.ntmps104
  go_wp2_with fail
  refine (C1.out _ (HG.out.alloc _)).mono ?_
  rintro e w1 ⟨rfl, hb1⟩
  have HG1 := Lib.hid ((HG.out.alloc _).after hb1)
  go_wp2_with fail
  refine (C2.out _ HG1.out).mono ?_
  rintro e w2 ⟨rfl, hb2⟩
  have hb := HB.out.trans (hb1.mono (by simp))
  have hb' := hb.trans (hb2.mono hb.size)
  have hz1 : w.heap.size < w1.heap.size := by have := hb1.size; simp at this; omega
  have hz2 : w.heap.size < w2.heap.size := Nat.lt_of_lt_of_le hz1 hb2.size
  obtain ⟨c0, c1, c2, c3, f0, f1, f2, f3⟩ := ((res_new w).keep hb1 (by simp)).keep hb2 hz1
  go_wp2_with fail
  refine bodyPost_ret (v := .tuple #[tkV (dataR (byts s)).1, .int .i64 0]) (by simp [results, Tryz.results104, go_sem, c0, c1, c2, c3, hz2, tkV, dataR]) rfl ⟨rfl, below_set4 hb' (Nat.le_refl _) _ _ _ _⟩
end Go.Proofs.YtnomcldpbkinmaaGreatDoor

/- strings.IndexFunc, TrimLeftFunc and TrimRightFunc at char.Blank, in terms of a text's bytes. -/
set_option linter.unusedSimpArgs false
set_option linter.unusedVariables false
namespace Go.Proofs.YtnomcldpbkinmaaGreatDoor
open Go.RowKit Go.Lib
open Nz (bl dN dec_dN bl_len)

def bn (n : Nat) : Bool := decide (Blank (n : Int))
theorem byts_bl (s : ByteArray) : byts s = (bl s).map (fun n : Nat => (n : Int)) := by simp [byts, bl]
theorem getD_bl (s : ByteArray) (k : Nat) : (byts s).getD k 0 = ((bl s).getD k 0 : Int) := by
  rw [byts_bl, List.getD_eq_getElem?_getD, List.getD_eq_getElem?_getD, List.getElem?_map]
  cases (bl s)[k]? <;> simp
theorem drop_get (l : List Nat) (n : Nat) (h : n < l.length) : l.drop n = l.getD n 0 :: l.drop (n + 1) := by
  rw [List.drop_eq_getElem_cons h, List.getD_eq_getElem?_getD, List.getElem?_eq_getElem h]
  rfl
theorem tw_of (p : Int → Bool) : ∀ (l : List Int) (k : Nat), (∀ j, j < k → p (l.getD j 0) = true) → k < l.length → p (l.getD k 0) = false → l.takeWhile p = l.take k ∧ l.dropWhile p = l.drop k
  | [], k, _, h, _ => by simp at h
  | c :: l, 0, _, _, h => by
    have h' : p c = false := h
    simp [List.takeWhile, List.dropWhile, h']
  | c :: l, k + 1, h1, h2, h3 => by
    have h0 : p c = true := h1 0 (by omega)
    have ih := tw_of p l k (fun j hj => h1 (j + 1) (by omega)) (by simpa using h2) h3
    simp [List.takeWhile, List.dropWhile, h0, ih.1, ih.2]
theorem tw_all (p : Int → Bool) : ∀ (l : List Int), (∀ x ∈ l, p x = true) → l.takeWhile p = l ∧ l.dropWhile p = []
  | [], _ => ⟨rfl, rfl⟩
  | c :: l, h => by
    have h0 : p c = true := h c (by simp)
    have ih := tw_all p l fun x hx => h x (List.mem_cons_of_mem _ hx)
    simp [List.takeWhile, List.dropWhile, h0, ih.1, ih.2]
theorem mem_get {l : List Int} {x : Int} (h : x ∈ l) : ∃ j, j < l.length ∧ l.getD j 0 = x := by
  obtain ⟨j, hj, e⟩ := List.getElem_of_mem h
  exact ⟨j, hj, by simp [List.getElem?_eq_getElem hj, e]⟩

/-- The rune at a byte: below 80 it is that byte, of width 1; else it is 80 or more, and the bytes that it takes are, too. -/
theorem at_low (s : ByteArray) (pos : Nat) (h : pos < s.size) (ha : (bl s).getD pos 0 < 128) : Utf8.decode s pos = ((bl s).getD pos 0, 1) := by
  have e : (s[pos]'h).toNat = (bl s).getD pos 0 := by
    unfold bl
    rw [List.getD_eq_getElem?_getD, List.getElem?_map]
    have : s.data.toList[pos]? = some (s[pos]'h) := by rw [Array.getElem?_toList]; exact Array.getElem?_eq_getElem h
    rw [this]
    rfl
  rw [decode_ascii s pos h (by omega), e]
theorem at_high (s : ByteArray) (pos : Nat) (h : pos < s.size) (ha : 128 ≤ (bl s).getD pos 0) : 128 ≤ (Utf8.decode s pos).1 ∧ 1 ≤ (Utf8.decode s pos).2 := by
  have e : (s[pos]'h).toNat = (bl s).getD pos 0 := by
    unfold bl
    rw [List.getD_eq_getElem?_getD, List.getElem?_map]
    have : s.data.toList[pos]? = some (s[pos]'h) := by rw [Array.getElem?_toList]; exact Array.getElem?_eq_getElem h
    rw [this]
    rfl
  exact decode_high s pos h (by omega)
theorem in_wide (s : ByteArray) (pos j : Nat) (h : pos < s.size) (h1 : 1 ≤ j) (h2 : j < (Utf8.decode s pos).2) (h3 : pos + j < s.size) : 128 ≤ (bl s).getD (pos + j) 0 := by
  rcases Nat.lt_or_ge ((bl s).getD (pos + j) 0) 128 with g | g
  · exfalso
    rw [dec_dN] at h2
    have hl := bl_len s
    have hsplit : (bl s).drop pos = ((bl s).drop pos).take j ++ (bl s).getD (pos + j) 0 :: (bl s).drop (pos + j + 1) := by
      conv => lhs; rw [← List.take_append_drop j ((bl s).drop pos)]
      rw [List.drop_drop, drop_get (bl s) (pos + j) (by omega)]
    have hne : ((bl s).drop pos).take j ≠ [] := by
      intro e
      have := congrArg List.length e
      rw [List.length_take, List.length_drop, List.length_nil] at this
      omega
    rw [hsplit, Nz.dN_asc _ _ _ g hne] at h2
    have := (Nz.dN_width _ hne).2
    rw [List.length_take, List.length_drop] at this
    omega
  · exact g
theorem blank_low {n : Nat} (h : 128 ≤ n) : bn n = false := by
  unfold bn
  exact decide_eq_false (by unfold Blank; omega)
theorem bn_get (s : ByteArray) (k : Nat) : bn ((bl s).getD k 0) = blk? ((byts s).getD k 0) := by
  rw [getD_bl]
  rfl

theorem idx_from (s : ByteArray) : ∀ (f pos : Nat), s.size ≤ pos + f → pos ≤ s.size → (∀ j, j < pos → blk? ((byts s).getD j 0) = false) →
    (idxFuncFrom bn true s f pos = -1 ∧ ∀ j, j < s.size → blk? ((byts s).getD j 0) = false) ∨
    ∃ k : Nat, idxFuncFrom bn true s f pos = k ∧ k < s.size ∧ blk? ((byts s).getD k 0) = true ∧ ∀ j, j < k → blk? ((byts s).getD j 0) = false
  | 0, pos, hf, hp, h => .inl ⟨rfl, fun j hj => h j (by omega)⟩
  | f + 1, pos, hf, hp, h => by
    by_cases hlt : pos < s.size
    · unfold idxFuncFrom
      rw [if_pos hlt]
      rcases Nat.lt_or_ge ((bl s).getD pos 0) 128 with g | g
      · rw [at_low s pos hlt g]
        cases hb : bn ((bl s).getD pos 0) with
        | true =>
          simp only [hb, if_true]
          exact .inr ⟨pos, rfl, hlt, by rw [← bn_get, hb], h⟩
        | false =>
          simp only [hb, Bool.false_eq_true, if_false]
          refine idx_from s f (pos + 1) (by omega) (by omega) fun j hj => ?_
          rcases Nat.lt_or_eq_of_le (Nat.le_of_lt_succ hj) with e | e
          · exact h j e
          · rw [e, ← bn_get, hb]
      · have hh := at_high s pos hlt g
        have hw := (Nz.dN_width _ (Nz.drop_ne s pos hlt)).2
        rw [← dec_dN, List.length_drop, bl_len] at hw
        rw [if_neg (by rw [blank_low hh.1]; simp)]
        refine idx_from s f (pos + (Utf8.decode s pos).2) (by omega) (by omega) fun j hj => ?_
        rcases Nat.lt_or_ge j pos with e | e
        · exact h j e
        · rw [← bn_get]
          apply blank_low
          rcases Nat.eq_or_lt_of_le e with e2 | e2
          · rw [← e2]; exact g
          · have := in_wide s pos (j - pos) hlt (by omega) (by omega) (by omega)
            rwa [show pos + (j - pos) = j by omega] at this
    · rw [idxFuncFrom_end _ _ _ _ _ hlt]
      exact .inl ⟨rfl, fun j hj => h j (by omega)⟩
theorem idx_blank (s : ByteArray) : (idxFunc bn true s = -1 ∧ tgt (byts s) = byts s) ∨ ∃ k : Nat, idxFunc bn true s = k ∧ k < s.size ∧ tgt (byts s) = (byts s).take k := by
  have hl := byts_len s
  rcases idx_from s s.size 0 (by omega) (by omega) (fun j hj => by omega) with ⟨h1, h2⟩ | ⟨k, h1, h2, h3, h4⟩
  · refine .inl ⟨h1, (tw_all _ _ fun x hx => ?_).1⟩
    obtain ⟨j, hj, rfl⟩ := mem_get hx
    rw [h2 j (by omega)]
    rfl
  · refine .inr ⟨k, h1, h2, (tw_of _ _ k (fun j hj => ?_) (by omega) ?_).1⟩
    · rw [h4 j hj]; rfl
    · rw [h3]; rfl
theorem left_from (s : ByteArray) : ∀ (f pos : Nat), s.size ≤ pos + f → pos ≤ s.size → (∀ j, j < pos → blk? ((byts s).getD j 0) = true) →
    (idxFuncFrom bn false s f pos = -1 ∧ ∀ j, j < s.size → blk? ((byts s).getD j 0) = true) ∨
    ∃ k : Nat, idxFuncFrom bn false s f pos = k ∧ k < s.size ∧ blk? ((byts s).getD k 0) = false ∧ ∀ j, j < k → blk? ((byts s).getD j 0) = true
  | 0, pos, hf, hp, h => .inl ⟨rfl, fun j hj => h j (by omega)⟩
  | f + 1, pos, hf, hp, h => by
    by_cases hlt : pos < s.size
    · unfold idxFuncFrom
      rw [if_pos hlt]
      rcases Nat.lt_or_ge ((bl s).getD pos 0) 128 with g | g
      · rw [at_low s pos hlt g]
        cases hb : bn ((bl s).getD pos 0) with
        | false =>
          simp only [hb, if_true]
          exact .inr ⟨pos, rfl, hlt, by rw [← bn_get, hb], h⟩
        | true =>
          simp only [hb, Bool.true_eq_false, if_false]
          refine left_from s f (pos + 1) (by omega) (by omega) fun j hj => ?_
          rcases Nat.lt_or_eq_of_le (Nat.le_of_lt_succ hj) with e | e
          · exact h j e
          · rw [e, ← bn_get, hb]
      · have hh := at_high s pos hlt g
        rw [if_pos (blank_low hh.1)]
        exact .inr ⟨pos, rfl, hlt, by rw [← bn_get]; exact blank_low g, h⟩
    · rw [idxFuncFrom_end _ _ _ _ _ hlt]
      exact .inl ⟨rfl, fun j hj => h j (by omega)⟩
theorem left_blank (s : ByteArray) : byts (trimLeftF bn s) = (byts s).dropWhile blk? := by
  have hl := byts_len s
  unfold trimLeftF idxFunc
  rcases left_from s s.size 0 (by omega) (by omega) (fun j hj => by omega) with ⟨h1, h2⟩ | ⟨k, h1, h2, h3, h4⟩
  · rw [h1, if_pos rfl, (tw_all _ _ fun x hx => ?_).2]
    · rfl
    · obtain ⟨j, hj, rfl⟩ := mem_get hx
      exact h2 j (by omega)
  · rw [h1, if_neg (by omega), (tw_of _ _ k h4 (by omega) h3).2, Int.toNat_natCast, byts_extract, List.take_of_length_le (by omega)]

/-- Where what is left of a text ends that is cut off blanks at its end. -/
def Rend (l : List Int) (n : Nat) : Prop := n ≤ l.length ∧ (∀ j, n ≤ j → j < l.length → blk? (l.getD j 0) = true) ∧ (n = 0 ∨ blk? (l.getD (n - 1) 0) = false)
theorem rend_trim {l : List Int} {n : Nat} (h : Rend l n) : trimR l = l.take n := by
  obtain ⟨h1, h2, h3⟩ := h
  unfold trimR
  have hr : l.reverse.dropWhile blk? = l.reverse.drop (l.length - n) := by
    have hg : ∀ j, j < l.length → l.reverse.getD j 0 = l.getD (l.length - 1 - j) 0 := fun j hj => by
      rw [List.getD_eq_getElem?_getD, List.getD_eq_getElem?_getD, List.getElem?_reverse hj]
    by_cases h0 : n = 0
    · subst h0
      rw [(tw_all _ _ fun x hx => ?_).2, List.drop_of_length_le (by simp)]
      obtain ⟨j, hj, rfl⟩ := mem_get (List.mem_reverse.1 hx)
      exact h2 j (Nat.zero_le _) hj
    · refine (tw_of _ _ (l.length - n) (fun j hj => ?_) (by simp; omega) ?_).2
      · rw [hg j (by omega)]
        exact h2 _ (by omega) (by omega)
      · rw [hg _ (by omega)]
        rcases h3 with h3 | h3
        · exact absurd h3 h0
        · rw [← h3]
          congr 2
          omega
  rw [hr, List.drop_reverse, List.reverse_reverse]
  congr 1
  omega
theorem dec_mk (l : List UInt8) : Utf8.decode ⟨l.toArray⟩ 0 = dN (l.map UInt8.toNat) := by
  rw [dec_dN]
  simp [bl]
theorem right_from (s : ByteArray) : ∀ (f i : Nat), i ≤ f → i ≤ s.size → (∀ j, i ≤ j → j < s.size → blk? ((byts s).getD j 0) = true) →
    (lastIdxFuncFrom bn false s f i = -1 ∧ Rend (byts s) 0) ∨ ∃ r : Nat, lastIdxFuncFrom bn false s f i = r ∧ r < s.size ∧ Rend (byts s) (r + (Utf8.decode s r).2)
  | f, 0, hf, hi, h => by
    rw [lastIdxFuncFrom_zero]
    exact .inl ⟨rfl, Nat.zero_le _, fun j _ hj => h j (Nat.zero_le _) (by rwa [byts_len] at hj), .inl rfl⟩
  | f + 1, i + 1, hf, hi, h => by
    unfold lastIdxFuncFrom
    rw [if_pos (by omega)]
    have hl : (s.data.toList.take (i + 1)).length = i + 1 := by
      rw [List.length_take, Array.length_toList]
      have : s.data.size = s.size := rfl
      omega
    have hbl : (s.data.toList.take (i + 1)).map UInt8.toNat = (bl s).take (i + 1) := by rw [List.map_take]; rfl
    have hne : s.data.toList.take (i + 1) ≠ [] := fun e => by rw [e] at hl; simp at hl
    have hlast : ((s.data.toList.take (i + 1)).getD ((s.data.toList.take (i + 1)).length - 1) 0).toNat = (bl s).getD i 0 := by
      rw [hl, Nat.add_sub_cancel, List.getD_eq_getElem?_getD, List.getElem?_take, if_pos (by omega)]
      unfold bl
      rw [List.getD_eq_getElem?_getD, List.getElem?_map]
      cases s.data.toList[i]? <;> simp
    have hbd : ∀ j, i + 1 ≤ j → j < (byts s).length → blk? ((byts s).getD j 0) = true := fun j a b => h j a (by rwa [byts_len] at b)
    have hlen := byts_len s
    rcases Nat.lt_or_ge ((bl s).getD i 0) 128 with g | g
    · have hd : decodeLastL (s.data.toList.take (i + 1)) = ((bl s).getD i 0, 1) := by
        unfold decodeLastL
        rw [if_neg hne, if_pos (by rw [hlast]; exact g), hlast]
      rw [hd]
      cases hb : bn ((bl s).getD i 0) with
      | true =>
        simp only [hb, Bool.true_eq_false, if_false, Nat.add_sub_cancel]
        refine right_from s f i (by omega) (by omega) fun j a b => ?_
        rcases Nat.eq_or_lt_of_le a with e | e
        · rw [← e, ← bn_get, hb]
        · exact h j (by omega) b
      | false =>
        simp only [hb, if_true, Nat.add_sub_cancel]
        refine .inr ⟨i, rfl, by omega, ?_⟩
        rw [at_low s i (by omega) g]
        exact ⟨by omega, hbd, .inr (by rw [Nat.add_sub_cancel, ← bn_get, hb])⟩
    · have key : ∃ x k, decodeLastL (s.data.toList.take (i + 1)) = (x, k) ∧ 128 ≤ x ∧ 1 ≤ k ∧ k ≤ i + 1 ∧ (dN (((bl s).take (i + 1)).drop (i + 1 - k))).2 = k := by
        unfold decodeLastL
        rw [if_neg hne, if_neg (by rw [hlast]; omega)]
        simp only [hl]
        by_cases hc : lastStart (s.data.toList.take (i + 1)) + (decodeL ((s.data.toList.take (i + 1)).drop (lastStart (s.data.toList.take (i + 1))))).2 = i + 1
        · rw [if_pos hc]
          generalize lastStart (s.data.toList.take (i + 1)) = a at hc
          have hw := decodeL_width ((s.data.toList.take (i + 1)).drop a)
          have hdl : decodeL ((s.data.toList.take (i + 1)).drop a) = dN (((bl s).take (i + 1)).drop a) := by
            unfold decodeL
            rw [dec_mk, List.map_drop, hbl]
          rw [hdl] at hc hw ⊢
          obtain ⟨x, k, hxk⟩ : ∃ x k, dN (((bl s).take (i + 1)).drop a) = (x, k) := ⟨_, _, rfl⟩
          rw [hxk] at hc hw ⊢
          simp only at hc hw
          refine ⟨x, k, rfl, ?_, hw, by omega, by rw [show i + 1 - k = a by omega, hxk]⟩
          -- a rune whose last byte is 80 or more is 80 or more
          rcases Nat.lt_or_ge (((bl s).take (i + 1)).drop a |>.getD 0 0) 128 with q | q
          · exfalso
            have hA : ((bl s).take (i + 1)).drop a ≠ [] := fun e => by
              have := congrArg List.length e
              rw [List.length_drop, List.length_take, bl_len, List.length_nil] at this
              omega
            obtain ⟨c, B, hcb⟩ : ∃ c B, ((bl s).take (i + 1)).drop a = c :: B := by
              cases hq : ((bl s).take (i + 1)).drop a with
              | nil => exact absurd hq hA
              | cons c B => exact ⟨c, B, rfl⟩
            rw [hcb] at q hxk
            have q' : c < 128 := q
            rw [Nz.dN_asc0 B c q'] at hxk
            have hk1 : k = 1 := (congrArg Prod.snd hxk).symm
            have ha : a = i := by omega
            subst ha
            have : (((bl s).take (a + 1)).drop a).getD 0 0 = (bl s).getD a 0 := by
              simp [List.getElem?_drop, List.getElem?_take]
            rw [hcb] at this
            have : c = (bl s).getD a 0 := this
            omega
          · have e := dec_mk ((s.data.toList.take (i + 1)).drop a)
            rw [List.map_drop, hbl, hxk] at e
            rw [show x = (Utf8.decode ⟨((s.data.toList.take (i + 1)).drop a).toArray⟩ 0).1 by rw [e]]
            have hsz : 0 < (ByteArray.mk ((s.data.toList.take (i + 1)).drop a).toArray).size := by
              show 0 < ((s.data.toList.take (i + 1)).drop a).toArray.size
              rw [List.size_toArray, List.length_drop, hl]
              omega
            refine (at_high _ 0 hsz ?_).1
            rw [show bl (ByteArray.mk ((s.data.toList.take (i + 1)).drop a).toArray) = ((bl s).take (i + 1)).drop a by
              unfold bl
              simp [List.map_drop, List.map_take]]
            exact q
        · rw [if_neg hc]
          refine ⟨_, _, rfl, by decide, Nat.le_refl _, by omega, ?_⟩
          have hA : ((bl s).take (i + 1)).drop (i + 1 - 1) ≠ [] := fun e => by
            have := congrArg List.length e
            rw [List.length_drop, List.length_take, bl_len, List.length_nil] at this
            omega
          have := Nz.dN_width _ hA
          rw [List.length_drop, List.length_take, bl_len] at this
          omega
      obtain ⟨x, k, hd, hx, hk1, hk2, hw⟩ := key
      rw [hd]
      simp only
      rw [if_pos (blank_low hx)]
      refine .inr ⟨i + 1 - k, rfl, by omega, ?_⟩
      have hW : (Utf8.decode s (i + 1 - k)).2 = k := by
        rw [dec_dN]
        rcases Nat.eq_or_lt_of_le hi with e | e
        · have : (bl s).take (i + 1) = bl s := List.take_of_length_le (by rw [bl_len]; omega)
          rw [this] at hw
          exact hw
        · have hb : blk? ((byts s).getD (i + 1) 0) = true := h (i + 1) (Nat.le_refl _) e
          have hc : (bl s).getD (i + 1) 0 < 128 := by
            rcases Nat.lt_or_ge ((bl s).getD (i + 1) 0) 128 with q | q
            · exact q
            · rw [← bn_get, blank_low q] at hb
              cases hb
          have hsplit : (bl s).drop (i + 1 - k) = ((bl s).take (i + 1)).drop (i + 1 - k) ++ (bl s).getD (i + 1) 0 :: (bl s).drop (i + 1 + 1) := by
            conv => lhs; rw [← List.take_append_drop (i + 1) (bl s)]
            rw [List.drop_append_of_le_length (by rw [List.length_take, bl_len]; omega)]
            congr 1
            exact drop_get (bl s) (i + 1) (by rw [bl_len]; omega)
          have hA : ((bl s).take (i + 1)).drop (i + 1 - k) ≠ [] := fun e => by
            have := congrArg List.length e
            rw [List.length_drop, List.length_take, bl_len, List.length_nil] at this
            omega
          rw [hsplit, Nz.dN_asc _ _ _ hc hA]
          exact hw
      rw [hW, show i + 1 - k + k = i + 1 by omega]
      exact ⟨by omega, hbd, .inr (by rw [Nat.add_sub_cancel, ← bn_get]; exact blank_low g)⟩
theorem right_blank (s : ByteArray) : byts (trimRightF bn s) = trimR (byts s) := by
  unfold trimRightF rightEndF lastIdxFunc
  rcases right_from s s.size s.size (Nat.le_refl _) (Nat.le_refl _) (fun j a b => by omega) with ⟨h1, h2⟩ | ⟨r, h1, h2, h3⟩
  · rw [h1, if_neg (by omega), rend_trim h2, byts_extract]
    simp
  · rw [h1, if_pos (by omega), Int.toNat_natCast, rend_trim h3, byts_extract, List.drop_zero]
    have hsz : (s.extract r s.size).size = s.size - r := by rw [← byts_len, byts_extract, List.length_drop, List.length_take, byts_len]; omega
    have : (decodeGoB (s.extract r s.size)).2 = (Utf8.decode s r).2 := by
      unfold decodeGoB
      rw [if_neg (by omega), dec_dN, dec_dN, List.drop_zero]
      congr 2
      exact Nz.bl_fr s r
    rw [this]

theorem blank_grows (w : World) : PredGrows Tryz.prog 91 #[] bn w := fun W x hx hb => (blank_any (x : Int) W).mono fun e w' ⟨h1, h2⟩ => ⟨h1, by subst h2; exact Below.refl _ _⟩
theorem enters54 : ∀ args w, (callFunc 91 args).run Tryz.prog w = .ok (.enter 91 args) w := enters_of Tryz.func91 (by kernel_rfl) rfl
theorem idxf_any (s : ByteArray) (w : World) : Calls Tryz.prog 132 #[.string s, .func (.func 91) #[] #[]] w fun e w' => e = .returned (.int .i64 (idxFunc bn true s)) ∧ Below w.heap.size w w' :=
  Tryz.strings_IndexFunc_grows 91 #[] enters54 bn s w (blank_grows w)
theorem triml_any (s : ByteArray) (w : World) : Calls Tryz.prog 184 #[.string s, .func (.func 91) #[] #[]] w fun e w' => e = .returned (.string (strOfNums ((byts s).dropWhile blk?))) ∧ Below w.heap.size w w' :=
  (Tryz.strings_TrimLeftFunc_grows 91 #[] enters54 bn s w (blank_grows w)).mono fun e w' ⟨h1, h2⟩ => ⟨by rw [h1, ← left_blank, ← str_of_byts rfl], h2⟩
theorem trimr_any (s : ByteArray) (w : World) (hs : s.size ≤ 1000000) (hG : Gl w) : Calls Tryz.prog 135 #[.string s, .func (.func 91) #[] #[]] w fun e w' => e = .returned (.string (strOfNums (trimR (byts s)))) ∧ Below w.heap.size w w' :=
  (Tryz.strings_TrimRightFunc_grows 91 #[] enters54 bn s w (by omega) hG.tabs (blank_grows w)).mono fun e w' ⟨h1, h2⟩ => ⟨by rw [h1, ← right_blank, ← str_of_byts rfl], h2⟩
end Go.Proofs.YtnomcldpbkinmaaGreatDoor
