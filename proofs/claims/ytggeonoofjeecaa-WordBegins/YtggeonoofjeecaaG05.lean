/-
  Merged by program out of the texts Enc, Add, WdNod, WdAwk, WdMap, WdNamed, WdAttr, WdRight of one seat.
-/
import Derived.Test.YtggeonoofjeecaaG04
import Derived.Test.YtggeonoofjeecaaG02
import Derived.Test.YtggeonoofjeecaaG03
import Derived.Test.YtggeonoofjeecaaG01
import Derived.Lib.Hide
import Derived.WideKeyEntry
import Derived.DeepKeys4
import Derived.Laws.OwnMore

/- A rune's bytes, as numbers. -/
set_option linter.unusedSimpArgs false
set_option linter.unusedVariables false
namespace Go.Proofs.Ytggeonoofjeecaa

def encB (r : Int) : List Int :=
  if r < 128 then [r] else if r < 2048 then [192 + r / 64, 128 + r % 64] else if r < 65536 then [224 + r / 4096, 128 + r / 64 % 64, 128 + r % 64]
  else [240 + r / 262144, 128 + r / 4096 % 64, 128 + r / 64 % 64, 128 + r % 64]
/-- It has no bytes. -/
def Bad (r : Int) : Prop := r < 0 ∨ 1114111 < r ∨ (55296 ≤ r ∧ r ≤ 57343)
instance (r : Int) : Decidable (Bad r) := by unfold Bad; infer_instance
def putI (r : Int) : List Int := if Bad r then encB 65533 else encB r
def refPut (r : Int) : List Int := if Bad r then [] else encB r
theorem enc1 {r : Int} (h : r < 128) : encB r = [r] := by simp [encB, h]
theorem enc2 {r : Int} (h : 128 ≤ r) (h2 : r < 2048) : encB r = [192 + r / 64, 128 + r % 64] := by
  simp only [encB]; rw [if_neg (by omega), if_pos h2]
theorem enc3 {r : Int} (h : 2048 ≤ r) (h2 : r < 65536) : encB r = [224 + r / 4096, 128 + r / 64 % 64, 128 + r % 64] := by
  simp only [encB]; rw [if_neg (by omega), if_neg (by omega), if_pos h2]
theorem enc4 {r : Int} (h : 65536 ≤ r) : encB r = [240 + r / 262144, 128 + r / 4096 % 64, 128 + r / 64 % 64, 128 + r % 64] := by
  simp only [encB]; rw [if_neg (by omega), if_neg (by omega), if_neg (by omega)]
theorem putI_ok {r : Int} (h : ¬ Bad r) : putI r = encB r := by simp only [putI, if_neg h]
theorem encB_len (r : Int) : 1 ≤ (encB r).length ∧ (encB r).length ≤ 4 := by
  unfold encB
  repeat' split
  all_goals simp
theorem putI_len (r : Int) : 1 ≤ (putI r).length ∧ (putI r).length ≤ 4 := by
  unfold putI
  split
  · exact encB_len _
  · exact encB_len _
end Go.Proofs.Ytggeonoofjeecaa

/- The walk of utf.add: a rune's bytes behind a slice of the call's own. -/
set_option linter.unusedSimpArgs false
set_option linter.unusedVariables false
namespace Go.Proofs.Ytggeonoofjeecaa
open Go.RowKit

/-- A slice of bytes of the call's own: from block B on. -/
def OwnB (w : World) (B : Nat) (v : Value) (l : List Int) : Prop := w.ownsRow B 5 1 v l.length (l.map (Value.int .u8))
theorem Blk0 (w : World) (t : TypeId) (cs : Array Value) (i : Nat) : (w.alloc (.cells cs t)).cell? ⟨w.heap.size, i, none⟩ = cs[i]? := cell_of_row _ _ i cs t (0, 0) (heap_alloc_new w _)
theorem lit_cells (w : World) (cs : Array Value) (e : TypeId) : ∀ (j : Nat) (u : Value), cs.toList[j]? = some u → (w.alloc (.cells cs e)).cell? ((⟨w.heap.size, 0, none⟩ : Addr).add j) = some u := by
  intro j u h
  have hc := (Blk0 w e cs) j
  unfold Addr.add
  by_cases h0 : j = 0
  · subst h0
    simpa [hc] using h
  · simpa [h0, hc] using h
end Go.Proofs.Ytggeonoofjeecaa

/- word.Nodes. -/
set_option linter.unusedSimpArgs false
set_option linter.unusedVariables false
namespace Go.Proofs.Ytggeonoofjeecaa.Ev
open Go.RowKit

theorem Try.info3 : (Try.prog.info? 3).map (fun i => (i.zero, i.size, i.bytes)) = some (some (.int .i64 0), 1, 8) := by kernel_rfl
theorem nod_three {i : Nat} {x : RE} {r : List RE} (h : x.kind = 3) : nodG i (x :: r) = nodG (i + 1) r := by rw [nodG, if_pos h]
theorem nod_more {i : Nat} {x : RE} {r : List RE} (h : x.kind ≠ 3) : nodG i (x :: r) = (i : Int) :: nodG (i + 1) r := by rw [nodG, if_neg h]
def NdRel (N : List Int) (l : List RE) (n : Nat) (w : World) (v i : Value) (wr : World) : Prop :=
  ∃ (k : Nat) (pre : List Int), i = .int .i64 k ∧ k ≤ n ∧ pre.length ≤ k ∧ Hid (OwnI wr w.heap.size v pre) ∧ Hid (Below w.heap.size w wr) ∧ Hid (N = pre ++ nodG k (l.drop k))
set_option maxHeartbeats 2000000 in
set_option maxRecDepth 100000 in
theorem nodes_c {pL tR : ByteArray → Bool} (C : Hid (MsC pL tR)) (A : Option Addr) (n c : Nat) (l : List RE) (w : World) (T : EvsIn w A n c l) (hn : n ≤ 100000) (hB : ∀ x ∈ l, RgB x) :
    Calls Try.prog 17 #[.slice A n c] w fun e w' => ∃ v, e = .returned v ∧ OwnI w' w.heap.size v (nodF pL tR l) ∧ Below w.heap.size w w' := by
  have CB := Lib.hid (begins_c C A n c l w T hn hB)
  obtain ⟨N, hN⟩ : ∃ N, N = nodF pL tR l := ⟨_, rfl⟩
  rw [← hN]
  by_cases h0 : 0 ≤ depF pL tR l
  · obtain ⟨i0, hi, hz0, hz1, hz2⟩ := info_parts Try.info3
    have HN : Hid (N = [] ++ nodG 0 (l.drop 0)) := Lib.hid (by rw [hN]; unfold nodF; rw [if_neg (by omega), List.drop_zero, List.nil_append])
    rw [decide_eq_true h0] at CB
    have HT := Lib.hid T
    clear T hB hN h0 C
    go_enter Try.func17, Try.ntmps17
    go_wp2_with fail
    refine CB.out.mono ?_
    rintro e w1 ⟨rfl, b1⟩
    have HB1 := Lib.hid b1
    clear CB b1
    go_wp2_with fail
    go_loopw [3, 11] (fun v i wr => NdRel N l n w v i wr) (fun _ i _ => n - (intOf i).toNat)
    case atStart => exact ⟨0, [], rfl, Nat.zero_le _, Nat.zero_le _, Lib.hid (World.ownsRow_nil _ _ _ _), HB1, HN⟩
    case round =>
      clear HB1 HN
      obtain ⟨k, pre, rfl, hk, hp, HO, HR, HA⟩ := hrel
      by_cases hlt : k < n
      · have k1 : (k : Int) < (n : Int) := by omega
        have k2 : (0 : Int) ≤ (k : Int) := by omega
        have hkl : k < l.length := by rw [← HT.out.len]; exact hlt
        have hx := List.getElem?_eq_getElem hkl
        obtain ⟨b, off, Aa, na, ca, hA, hbl, TA, c0, c1, c2, c3, c4⟩ := (HT.out.rd.keep HR.out) k _ hx
        have HD : Hid (l.drop k = l[k] :: l.drop (k + 1)) := Lib.hid (List.drop_eq_getElem_cons hkl)
        generalize l[k] = x at *
        subst hA
        obtain ⟨kind, sp, lo, ats, tx⟩ := x
        dsimp only at *
        have HO1 := Lib.hid (HO.out.alloc (.cells #[.int .i64 kind, .string sp, .string lo, .slice Aa na ca, .string tx] 26))
        have HB1 := Lib.hid (HR.out.alloc HR.out.size (.cells #[.int .i64 kind, .string sp, .string lo, .slice Aa na ca, .string tx] 26))
        clear hx hkl hbl TA
        by_cases h3 : kind = 3
        · have HA2 : Hid (N = pre ++ nodG (k + 1) (l.drop (k + 1))) := Lib.hid (by rw [HA.out, HD.out, nod_three h3])
          subst h3
          clear HA HD HO HR
          go_wp2
          go_roundw
          case rel => exact ⟨k + 1, pre, by go_num, by omega, by omega, HO1, HB1, HA2⟩
          case measure => simp only [intOf]; omega
        · have HA2 : Hid (N = (pre ++ [(k : Int)]) ++ nodG (k + 1) (l.drop (k + 1))) := Lib.hid (by rw [HA.out, HD.out, nod_more h3, List.append_assoc]; rfl)
          have e3 : (kind != 3) = true := by simpa using h3
          clear HA HD HO HR h3
          have hz := HB1.out.size
          have hzq : w.heap.size ≤ ((wr.alloc (.cells #[.int .i64 kind, .string sp, .string lo, .slice Aa na ca, .string tx] 26)).alloc (.cells #[.int .i64 (k : Int)] 3)).heap.size := by simp at hz ⊢; omega
          have HO2 := Lib.hid (HO1.out.alloc (.cells #[.int .i64 (k : Int)] 3))
          have HB2 := Lib.hid (HB1.out.alloc hz (.cells #[.int .i64 (k : Int)] 3))
          have HNew : Hid (∀ j u, [Value.int .i64 (k : Int)][j]? = some u → ((wr.alloc (.cells #[.int .i64 kind, .string sp, .string lo, .slice Aa na ca, .string tx] 26)).alloc (.cells #[.int .i64 (k : Int)] 3)).cell? ((⟨wr.heap.size + 1, 0, none⟩ : Addr).add j) = some u) := Lib.hid (by
            have h := lit_cells (wr.alloc (.cells #[.int .i64 kind, .string sp, .string lo, .slice Aa na ca, .string tx] 26)) #[.int .i64 (k : Int)] 3
            rw [World.size_alloc] at h
            exact h)
          go_wp2_with (at_builtin; refine wpList_append_own _ rfl _ _ 33 rfl w.heap.size 3 i0 (.int .i64 0) 1 8 Try.underlying33 hi hz0 hz1 hz2 rfl (by decide) _ _ _ rfl HO2.out ⟨wr.heap.size + 1, 0, none⟩ 1 1 [.int .i64 (k : Int)] rfl rfl HNew.out (ints_oneCell .i64 [(k : Int)]) (by unfold maxLen; omega) (by omega) hzq ?_)
          intro v' w2 hown2 hgrow _
          have HB3 := Lib.hid (HB2.out.grown hgrow hzq (fun g hg => (World.ownsRow.lt HO2.out g hg).1))
          have HO3 : Hid (OwnI w2 w.heap.size v' (pre ++ [(k : Int)])) := Lib.hid (by unfold OwnI; rw [List.map_append, List.length_append]; exact hown2)
          clear hown2 hgrow HO2 HB2 HO1 HB1 hz hzq
          go_wp2
          go_roundw
          case rel => exact ⟨k + 1, pre ++ [(k : Int)], by go_num, by omega, by simp; omega, HO3, HB3, HA2⟩
          case measure => simp only [intOf]; omega
      · have k1 : ¬ (k : Int) < (n : Int) := by omega
        have HE : Hid (N = pre) := Lib.hid (by rw [HA.out, List.drop_of_length_le (by rw [← HT.out.len]; omega)]; simp [nodG])
        clear HA
        go_wp2
        go_ret
        exact ⟨_, rfl, by rw [HE.out]; exact HO.out, HR.out⟩
  · have HE : Hid (N = []) := Lib.hid (by rw [hN]; unfold nodF; rw [if_pos (by omega)])
    rw [decide_eq_false h0] at CB
    clear T hB hN h0 C
    go_enter Try.func17, Try.ntmps17
    go_wp2_with fail
    refine CB.out.mono ?_
    rintro e w1 ⟨rfl, b1⟩
    go_wp2
    go_ret
    exact ⟨_, rfl, by rw [HE.out]; exact World.ownsRow_nil _ _ _ _, b1⟩
end Go.Proofs.Ytggeonoofjeecaa.Ev

/- awake: answers that the document fixes. -/
set_option linter.unusedSimpArgs false
set_option linter.unusedVariables false
namespace Go.Proofs.Ytggeonoofjeecaa.Ev
open Go.RowKit

/-- The text x. -/
def txE : RE := ⟨2, emB, emB, [], ⟨#[120]⟩⟩
theorem awk_dep {pL tR : ByteArray → Bool} (h1 : rightF pL tR opE = true) (h2 : rightF pL tR txE = true) : depF pL tR [opE, txE] = 1 := by
  show depR _ true 0 0 _ = 1
  rw [depR, if_neg (by rw [h1]; rintro (h | h | h); cases h; exact h rfl; exact h.2 rfl), if_neg (by rintro ⟨h, _⟩; cases h)]
  show (if (64 : Int) < (if (1 : Int) = 1 then 0 + 1 else _) then _ else _) = _
  rw [if_pos rfl, if_neg (by decide), depR, if_neg (by rw [h2]; rintro (h | h | h); cases h; exact h rfl; cases h.1), if_neg (by rintro ⟨_, h⟩; cases h)]
  rfl
theorem awk_one {pL tR : ByteArray → Bool} : depF pL tR [txE] = -1 := by
  show depR _ true 0 0 _ = -1
  rw [depR, if_pos (.inr (.inr ⟨rfl, by decide⟩))]
theorem evsNil (W : World) : EvsIn W none 0 0 [] := ⟨rfl, Nat.zero_le _, Nat.zero_le _, fun x hx => by simp at hx, fun j x hx => by simp at hx, fun _ => ⟨rfl, rfl⟩, ⟨Nat.le_refl _, Nat.zero_le _⟩⟩
theorem awk_sz : RSz opE ∧ RSz txE ∧ RgB opE ∧ RgB txE := ⟨⟨by decide, by decide, by decide⟩, ⟨by decide, by decide, by decide⟩, ⟨by decide, by decide, by decide, fun _ y hy => by cases hy⟩, ⟨by decide, by decide, by decide, fun _ y hy => by cases hy⟩⟩
def Awc : Array Value := #[.int .i64 1, .string ⟨#[]⟩, .string ⟨#[97]⟩, .slice none 0 0, .string ⟨#[]⟩, .int .i64 2, .string ⟨#[]⟩, .string ⟨#[]⟩, .slice none 0 0, .string ⟨#[120]⟩]
theorem awk_two {W : World} {b : Nat} (h : W.heap[b]? = some (.cells Awc 26 (0, 0))) : EvsIn W (some ⟨b, 0, none⟩) 2 2 [opE, txE] := two_in (x := opE) (y := txE) h (attsNil W) (attsNil W) awk_sz.1 awk_sz.2.1
theorem awk_tail {W : World} {b : Nat} (h : W.heap[b]? = some (.cells Awc 26 (0, 0))) : EvsIn W (some ⟨b, 5, none⟩) 1 1 [txE] :=
  ⟨rfl, by decide, by decide, fun z hz => by simp only [List.mem_cons, List.not_mem_nil, or_false] at hz; rw [hz]; exact awk_sz.2.1, fun k z hk => by
    have hb := (Array.getElem?_eq_some_iff.1 h).1
    match k, hk with
    | 0, hk =>
      injection hk with hk
      subst hk
      exact ⟨b, 5, none, 0, 0, rfl, hb, attsNil W, cells_of h 5 rfl, cells_of h 6 rfl, cells_of h 7 rfl, cells_of h 8 rfl, cells_of h 9 rfl⟩
    | k + 1, hk => simp at hk, (fun h => by cases h), ⟨Nat.le_refl _, by decide⟩⟩
structure AwX (w : World) (W : World) : Prop where
  blk : W.heap[w.heap.size]? = some (.cells Awc 26 (0, 0))
  bel : Below w.heap.size w W
theorem AwX.keep {w W W' : World} (h : AwX w W) (hb : Below W.heap.size W W') : AwX w W' := ⟨(hb.block _ (Array.getElem?_eq_some_iff.1 h.blk).1).trans h.blk, h.bel.trans (hb.mono h.bel.size)⟩
theorem own_len {W : World} {B n : Nat} {e : TypeId} {z : Nat} {v : Value} {xs : List Value} (h : W.ownsRow B e z v n xs) : ∃ A c, v = .slice A n c := by
  rcases h.2 with ⟨rfl, rfl⟩ | ⟨g, cap, cur, rfl, _⟩
  · exact ⟨none, 0, rfl⟩
  · exact ⟨_, _, rfl⟩
set_option maxHeartbeats 4000000 in
set_option maxRecDepth 100000 in
theorem awake_c {pL tR : ByteArray → Bool} (C : Hid (MsC pL tR)) (h1 : rightF pL tR opE = true) (h2 : rightF pL tR txE = true) (w : World) :
    Calls Try.prog 7 #[] w fun e w' => e = .returned (.bool true) ∧ Below w.heap.size w w' := by
  have hd := awk_dep h1 h2
  have hB : ∀ x ∈ [opE, txE], RgB x := fun x hx => by
    simp only [List.mem_cons, List.not_mem_nil, or_false] at hx
    rcases hx with rfl | rfl
    · exact awk_sz.2.2.1
    · exact awk_sz.2.2.2
  have hB1 : ∀ x ∈ [txE], RgB x := fun x hx => hB x (List.mem_cons_of_mem _ hx)
  have hB0 : ∀ x ∈ ([] : List RE), RgB x := fun x hx => by cases hx
  have C14 : Hid (∀ W, AwX w W → Calls Try.prog 14 #[.slice (some ⟨w.heap.size, 0, none⟩) 2 2] W fun e w' => e = .returned (.bool true) ∧ Below W.heap.size W w') := Lib.hid fun W h => by
    have := begins_c C _ 2 2 _ W (awk_two h.blk) (by decide) hB
    rw [hd] at this
    exact this
  have C14n : Hid (∀ W, Calls Try.prog 14 #[.slice none 0 0] W fun e w' => e = .returned (.bool true) ∧ Below W.heap.size W w') := Lib.hid fun W => begins_c C _ 0 0 _ W (evsNil W) (by decide) hB0
  have C14t : Hid (∀ W, AwX w W → Calls Try.prog 14 #[.slice (some ⟨w.heap.size, 5, none⟩) 1 1] W fun e w' => e = .returned (.bool false) ∧ Below W.heap.size W w') := Lib.hid fun W h => by
    have := begins_c C _ 1 1 _ W (awk_tail h.blk) (by decide) hB1
    rw [awk_one] at this
    exact this
  have C15 : Hid (∀ W, AwX w W → Calls Try.prog 15 #[.slice (some ⟨w.heap.size, 0, none⟩) 2 2] W fun e w' => e = .returned (.bool false) ∧ Below W.heap.size W w') := Lib.hid fun W h => by
    have := whole_c C _ 2 2 _ W (awk_two h.blk) (by decide) hB
    rw [hd] at this
    exact this
  have C16 : Hid (∀ W, AwX w W → Calls Try.prog 16 #[.slice (some ⟨w.heap.size, 0, none⟩) 2 2] W fun e w' => e = .returned (.int .i64 1) ∧ Below W.heap.size W w') := Lib.hid fun W h => by
    have := depth_c C _ 2 2 _ W (awk_two h.blk) (by decide) hB
    rw [hd] at this
    exact this
  have C17 : Hid (∀ W, AwX w W → Calls Try.prog 17 #[.slice (some ⟨w.heap.size, 0, none⟩) 2 2] W fun e w' => ∃ A c, e = .returned (.slice A 2 c) ∧ Below W.heap.size W w') := Lib.hid fun W h => by
    refine (nodes_c C _ 2 2 _ W (awk_two h.blk) (by decide) hB).mono ?_
    rintro e w' ⟨v, rfl, o, b⟩
    have hn : nodF pL tR [opE, txE] = [0, 1] := by unfold nodF; rw [hd]; rfl
    rw [hn] at o
    obtain ⟨A, c, rfl⟩ := own_len o
    exact ⟨A, c, rfl, b⟩
  have C18 : Hid (∀ W, AwX w W → Calls Try.prog 18 #[.slice (some ⟨w.heap.size, 0, none⟩) 2 2] W fun e w' => ∃ A c, e = .returned (.slice A 1 c) ∧ Below W.heap.size W w') := Lib.hid fun W h => by
    refine (closers_c C _ 2 2 _ W (awk_two h.blk) (by decide) hB).mono ?_
    rintro e w' ⟨v, rfl, o, b⟩
    have hn : cloF pL tR [opE, txE] = [clE] := by unfold cloF; rw [hd]; rfl
    rw [hn] at o
    obtain ⟨A, c, rfl⟩ := own_len o
    exact ⟨A, c, rfl, b⟩
  have C18n : Hid (∀ W, Calls Try.prog 18 #[.slice none 0 0] W fun e w' => ∃ A c, e = .returned (.slice A 2 c) ∧ Below W.heap.size W w') := Lib.hid fun W => by
    refine (closers_c C _ 0 0 _ W (evsNil W) (by decide) hB0).mono ?_
    rintro e w' ⟨v, rfl, o, b⟩
    have hn : cloF pL tR [] = [opE, clE] := rfl
    rw [hn] at o
    obtain ⟨A, c, rfl⟩ := own_len o
    exact ⟨A, c, rfl, b⟩
  have X : Hid (AwX w (w.alloc (.cells Awc 26))) := Lib.hid ⟨nblk w 26 _, (Below.refl _ w).alloc (Nat.le_refl _) _⟩
  unfold Awc at X
  clear hd hB hB1 hB0 C h1 h2
  go_enter Try.func7, Try.ntmps7
  go_wp2_with fail
  generalize w.alloc (.cells #[.int .i64 1, .string ⟨#[]⟩, .string ⟨#[97]⟩, .slice none 0 0, .string ⟨#[]⟩, .int .i64 2, .string ⟨#[]⟩, .string ⟨#[]⟩, .slice none 0 0, .string ⟨#[120]⟩] 26) = V at *
  refine (C14.out _ X.out).mono ?_
  rintro e w1 ⟨rfl, b1⟩
  replace X := Lib.hid (X.out.keep b1)
  clear b1
  go_wp2_with fail
  refine (C15.out _ X.out).mono ?_
  rintro e w2 ⟨rfl, b1⟩
  replace X := Lib.hid (X.out.keep b1)
  clear b1
  go_wp2_with fail
  refine (C16.out _ X.out).mono ?_
  rintro e w3 ⟨rfl, b1⟩
  replace X := Lib.hid (X.out.keep b1)
  clear b1
  go_wp2_with fail
  refine (C17.out _ X.out).mono ?_
  rintro e w4 ⟨A4, c4, rfl, b1⟩
  replace X := Lib.hid (X.out.keep b1)
  clear b1
  go_wp2_with fail
  refine (C18.out _ X.out).mono ?_
  rintro e w5 ⟨A5, c5, rfl, b1⟩
  replace X := Lib.hid (X.out.keep b1)
  clear b1
  go_wp2_with fail
  refine (C14n.out _).mono ?_
  rintro e w6 ⟨rfl, b1⟩
  replace X := Lib.hid (X.out.keep b1)
  clear b1
  go_wp2_with fail
  refine (C14t.out _ X.out).mono ?_
  rintro e w7 ⟨rfl, b1⟩
  replace X := Lib.hid (X.out.keep b1)
  clear b1
  go_wp2_with fail
  refine (C18n.out _).mono ?_
  rintro e w8 ⟨A8, c8, rfl, b1⟩
  replace X := Lib.hid (X.out.keep b1)
  clear b1
  go_wp2
  go_ret
  exact ⟨rfl, X.out.bel⟩
end Go.Proofs.Ytggeonoofjeecaa.Ev

/- The map of names that were met: look-up, entry, store (after round 7). -/
set_option linter.unusedSimpArgs false
set_option linter.unusedVariables false
namespace Go.Proofs.Ytggeonoofjeecaa.Ev
open Go.RowKit

open Go.ChangeMaps
def Lim : Nat := 140737488351232
theorem Try.laidOut : laidOutB Try.prog = true := by kernel_rfl
theorem Try.row23 : (23 : TypeId) < Try.prog.types.size := of_decide_eq_true (by kernel_rfl)
theorem Try.wideK : (match Try.prog.underlying 23 with | some (.array _ _) | some (.struct _) => true | _ => false) = true := by rw [Try.underlying23]
set_option maxRecDepth 100000 in
theorem lawK : WideMaps.KeyLaw Try.prog 23 := deep_law_laid Try.laidOut (m := 2) (by omega) Try.row23 (by kernel_rfl) Try.wideK
theorem Try.keyType23 : Try.prog.keyType 23 = true := by kernel_rfl
theorem Try.sizeT : Try.prog.types.size + 1 = 94 + 1 + 1 := by kernel_rfl
def kv (n : P2) : Value := .agg #[.string n.1, .string n.2]
theorem lits_str (d : Nat) (s : ByteArray) (h : s.size ≤ maxLen) : Try.prog.keyLits (d + 1) 9 [.string s] = some [.string s.data.toList] := by
  unfold Program.keyLits
  rw [Try.underlying9]
  simp only [h, if_true]
theorem lits_struct (P : Program) (d : Nat) (t : TypeId) (fs : Array Field) (cs : List Value) (h : P.underlying t = some (.struct fs)) (hl : cs.length = P.cellsOf t) (hn : fs.all (·.name != "_") = true) :
    P.keyLits (d + 1) t cs = (fs.toList.mapM fun f => P.keyLits d f.type ((cs.drop f.offset).take (P.cellsOf f.type))).map List.flatten := by
  conv => lhs; unfold Program.keyLits
  rw [h]
  simp only [hl, hn, and_self, if_true]
theorem lits_name (d : Nat) (a b : ByteArray) (g1 : a.size ≤ maxLen) (g2 : b.size ≤ maxLen) : Try.prog.keyLits (d + 1 + 1) 23 [.string a, .string b] = some [.string a.data.toList, .string b.data.toList] := by
  have e1 := lits_str d a g1
  have e2 := lits_str d b g2
  rw [lits_struct Try.prog (d + 1) 23 _ _ Try.underlying23 (by rw [Try.cells23]; rfl) (by simp)]
  generalize hq : Try.prog.keyLits (d + 1) = q at *
  simp [Try.cells23, Try.cells9, e1, e2]
theorem kv_key (n : P2) (h1 : n.1.size ≤ Lim) (h2 : n.2.size ≤ Lim) : ∃ kl, keyOf Try.prog 23 (kv n) = some kl := by
  have g1 : n.1.size ≤ maxLen := Nat.le_trans h1 (by unfold Lim maxLen; omega)
  have g2 : n.2.size ≤ maxLen := Nat.le_trans h2 (by unfold Lim maxLen; omega)
  have hf : (kv n).formed Try.prog 23 = true := by simp [Value.formed, kv, Try.underlying23, Try.cells23]
  obtain ⟨d, hd⟩ : ∃ d, Try.prog.types.size + 1 = d + 1 + 1 := ⟨_, Try.sizeT⟩
  have hl := lits_name d n.1 n.2 g1 g2
  rw [← hd] at hl
  have hc : (kv n).cells.toList = [.string n.1, .string n.2] := rfl
  refine ⟨.string (keyBytes [.string n.1.data.toList, .string n.2.data.toList]), ?_⟩
  unfold keyOf
  rw [Try.underlying23]
  show (if (Try.prog.keyType 23 && (kv n).formed Try.prog 23) = true then _ else _) = _
  rw [Try.keyType23, hf, Bool.and_self, if_pos rfl, hc, hl]
  rfl
theorem kv_inj {a b : P2} (h : kv a = kv b) : a = b := by
  unfold kv at h
  injection h with h
  have := congrArg Array.toList h
  simp at this
  exact Prod.ext this.1 this.2
/-- The map at block b: these names, each at 1. -/
def SeenM (w : World) (b : Nat) (l : List P2) : Prop :=
  (∀ n ∈ l, n.1.size ≤ Lim ∧ n.2.size ≤ Lim) ∧ ∃ es clock, w.heap[b]? = some (.map es clock) ∧ es.toList.map (·.key) = l.map kv ∧ (∀ e ∈ es.toList, e.val = .int .i64 1) ∧ (∀ e ∈ es.toList, e.born < clock)
theorem seen_new (w : World) : SeenM (w.alloc (.map #[] 0)) w.heap.size [] :=
  ⟨fun n hn => by simp at hn, #[], 0, heap_alloc_new w _, rfl, fun e he => by simp at he, fun e he => by simp at he⟩
theorem SeenM.lt {w : World} {b : Nat} {l : List P2} (h : SeenM w b l) : b < w.heap.size := by
  obtain ⟨_, es, clock, h, _⟩ := h
  exact (Array.getElem?_eq_some_iff.1 h).1
theorem SeenM.keep {w w' : World} {b : Nat} {l : List P2} (h : SeenM w b l) (hb : Below w.heap.size w w') : SeenM w' b l := by
  have hlt := h.lt
  obtain ⟨h1, es, clock, h2, h3⟩ := h
  exact ⟨h1, es, clock, (hb.block b hlt).trans h2, h3⟩
theorem grown_setBlock (w : World) (b : Nat) (o : Obj) : w.grownBy (setBlock w b o) (some b) :=
  ⟨rfl, rfl, rfl, by simp [setBlock], fun k hk hne => by
    have : k ≠ b := fun e => hne (by rw [e])
    simp [setBlock, Array.getElem?_setIfInBounds, Ne.symm this]⟩
theorem zero3 (w : World) : (zeroValue 3).run Try.prog w = .ok (.int .i64 0) w := by kernel_rfl
theorem key_mem {es : Array MapEntry} {l : List P2} (h : es.toList.map (·.key) = l.map kv) {n : P2} : (∃ e ∈ es.toList, e.key = kv n) ↔ n ∈ l := by
  constructor
  · rintro ⟨e, he, hk⟩
    have : kv n ∈ l.map kv := by rw [← h, ← hk]; exact List.mem_map_of_mem he
    obtain ⟨m, hm, hh⟩ := List.mem_map.1 this
    rw [← kv_inj hh]
    exact hm
  · intro hn
    have : kv n ∈ es.toList.map (·.key) := by rw [h]; exact List.mem_map_of_mem hn
    obtain ⟨e, he, hh⟩ := List.mem_map.1 this
    exact ⟨e, he, hh⟩
theorem keys_of {es : Array MapEntry} {l : List P2} (h : es.toList.map (·.key) = l.map kv) (hl : ∀ n ∈ l, n.1.size ≤ Lim ∧ n.2.size ≤ Lim) : ∀ e ∈ es.toList, ∃ kl, keyOf Try.prog 23 e.key = some kl := fun e he => by
  have : e.key ∈ l.map kv := by rw [← h]; exact List.mem_map_of_mem he
  obtain ⟨m, hm, hh⟩ := List.mem_map.1 this
  rw [← hh]
  exact kv_key m (hl m hm).1 (hl m hm).2
theorem seen_yes {w : World} {b : Nat} {l : List P2} (h : SeenM w b l) {n : P2} (hn : n ∈ l) : (Instr.lookup 47 (.map (some b)) (.agg #[.string n.1, .string n.2]) false).run Try.prog w = .ok (.int .i64 1) w := by
  obtain ⟨hl, es, clock, hb, hk, hv, _⟩ := h
  obtain ⟨kl, hkl⟩ := kv_key n (hl n hn).1 (hl n hn).2
  show (Instr.lookup 47 (.map (some b)) (kv n) false).run Try.prog w = _
  rcases lawK.find w hkl es.toList (keys_of hk hl) with ⟨_, h2⟩ | ⟨j, e0, h1, h2, h3⟩
  · obtain ⟨e, he, hh⟩ := (key_mem hk).2 hn
    exact absurd hh (h2 e he)
  · have := hv e0 (List.mem_of_getElem? h2)
    simp [Instr.lookup, run_underlying Try.underlying47, MapKept.run_getObj_map hb, lawK.check w _ hkl, h1, this, Result.andThen]
theorem seen_no {w : World} {b : Nat} {l : List P2} (h : SeenM w b l) {n : P2} (hn : ¬ n ∈ l) (z1 : n.1.size ≤ Lim) (z2 : n.2.size ≤ Lim) : (Instr.lookup 47 (.map (some b)) (.agg #[.string n.1, .string n.2]) false).run Try.prog w = .ok (.int .i64 0) w := by
  obtain ⟨hl, es, clock, hb, hk, hv, _⟩ := h
  obtain ⟨kl, hkl⟩ := kv_key n z1 z2
  show (Instr.lookup 47 (.map (some b)) (kv n) false).run Try.prog w = _
  rcases lawK.find w hkl es.toList (keys_of hk hl) with ⟨h1, h2⟩ | ⟨j, e0, h1, h2, h3⟩
  · simp [Instr.lookup, run_underlying Try.underlying47, MapKept.run_getObj_map hb, lawK.check w _ hkl, h1, zero3, Result.andThen]
  · exact absurd ((key_mem hk).1 ⟨e0, List.mem_of_getElem? h2, h3⟩) hn
theorem seen_put {w : World} {b : Nat} {l : List P2} (h : SeenM w b l) {n : P2} (hn : ¬ n ∈ l) (z1 : n.1.size ≤ Lim) (z2 : n.2.size ≤ Lim) :
    ∃ (st : Nat) (W1 W2 : World), (Instr.mapEntry 47 (.map (some b)) (.agg #[.string n.1, .string n.2])).run Try.prog w = .ok (.tuple #[.int .i64 0, .int .i64 (st : Int)]) W1 ∧
      (Instr.lookup 47 (.map (some b)) (.agg #[.string n.1, .string n.2]) false).run Try.prog W1 = .ok (.int .i64 0) W1 ∧
      (Instr.entryStore 47 (.map (some b)) (.int .i64 (st : Int)) (.int .i64 1)).run Try.prog W1 = .ok () W2 ∧ SeenM W2 b (l ++ [n]) ∧ w.grownBy W1 (some b) ∧ w.grownBy W2 (some b) := by
  obtain ⟨hl, es, clock, hb, hk, hv, hbo⟩ := h
  obtain ⟨kl, hkl⟩ := kv_key n z1 z2
  have hn2 : ∀ e ∈ es.toList, e.key ≠ kv n := fun e he hh => hn ((key_mem hk).1 ⟨e, he, hh⟩)
  have h1 : (Instr.findKey 23 (kv n) es.toList).run Try.prog w = .ok none w := by
    rcases lawK.find w hkl es.toList (keys_of hk hl) with ⟨h1, _⟩ | ⟨j, e0, _, h2, h3⟩
    · exact h1
    · exact absurd h3 (hn2 e0 (List.mem_of_getElem? h2))
  have hb1 : (setBlock w b (.map (es.push ⟨kv n, .int .i64 0, clock⟩) (clock + 1))).heap[b]? = some (.map (es.push ⟨kv n, .int .i64 0, clock⟩) (clock + 1)) := heap_setBlock_same hb _
  have hk1 : (es.push ⟨kv n, .int .i64 0, clock⟩).toList.map (·.key) = (l ++ [n]).map kv := by simp [hk]
  have hl1 : ∀ m ∈ l ++ [n], m.1.size ≤ Lim ∧ m.2.size ≤ Lim := fun m hm => by
    rcases List.mem_append.1 hm with hm | hm
    · exact hl m hm
    · rw [List.mem_singleton] at hm
      subst hm
      exact ⟨z1, z2⟩
  refine ⟨clock, setBlock w b (.map (es.push ⟨kv n, .int .i64 0, clock⟩) (clock + 1)), setBlock (setBlock w b (.map (es.push ⟨kv n, .int .i64 0, clock⟩) (clock + 1))) b (.map (es.push ⟨kv n, .int .i64 1, clock⟩) (clock + 1)), ?_, ?_, ?_, ⟨hl1, es.push ⟨kv n, .int .i64 1, clock⟩, clock + 1, heap_setBlock_same hb1 _, by simp [hk], ?_, ?_⟩, grown_setBlock _ _ _, ?_⟩
  · show (Instr.mapEntry 47 (.map (some b)) (kv n)).run Try.prog w = _
    simp [Instr.mapEntry, run_underlying Try.underlying47, MapKept.run_getObj_map hb, lawK.check w false hkl, h1, zero3, MapKept.run_setObj_map _ hb, Result.andThen, setBlock, goInt]
  · show (Instr.lookup 47 (.map (some b)) (kv n) false).run Try.prog _ = _
    rcases lawK.find (setBlock w b (.map (es.push ⟨kv n, .int .i64 0, clock⟩) (clock + 1))) hkl (es.push ⟨kv n, .int .i64 0, clock⟩).toList (keys_of hk1 hl1) with ⟨_, h2⟩ | ⟨j, e0, g1, g2, g3⟩
    · exact absurd rfl (h2 ⟨kv n, .int .i64 0, clock⟩ (by simp))
    · have : e0.val = .int .i64 0 := by
        have hm := List.mem_of_getElem? g2
        rw [Array.toList_push, List.mem_append, List.mem_singleton] at hm
        rcases hm with hm | hm
        · exact absurd g3 (hn2 e0 hm)
        · rw [hm]
      rw [this, Array.toList_push] at g1
      simp [Instr.lookup, run_underlying Try.underlying47, MapKept.run_getObj_map hb1, lawK.check _ _ hkl, g1, Result.andThen]
  · have hidx : (es.push ⟨kv n, .int .i64 0, clock⟩).findIdx? (fun e => ((e.born : Nat) : Int) == ((clock : Nat) : Int)) = some es.size := by
      rw [WideElems.findIdx_arr, Array.toList_push, List.findIdx?_append]
      have e1 : es.toList.findIdx? (fun e => ((e.born : Nat) : Int) == ((clock : Nat) : Int)) = none := by
        rw [List.findIdx?_eq_none_iff]
        intro e he
        have := hbo e he
        rw [beq_eq_false_iff_ne]
        omega
      rw [e1]
      simp
    have hmod : (es.push ⟨kv n, .int .i64 0, clock⟩).modify es.size (fun e => { e with val := .int .i64 1 }) = es.push ⟨kv n, .int .i64 1, clock⟩ := by
      apply Array.ext'
      rw [Array.toList_modify, Array.toList_push, Array.toList_push, ← Array.length_toList, WideElems.modify_last]
    simp [Instr.entryStore, MapKept.run_getObj_map hb1, asInt, asIntOf, hidx, hmod, MapKept.run_setObj_map _ hb1, Result.andThen]
    rfl
  · intro e he
    rw [Array.toList_push, List.mem_append, List.mem_singleton] at he
    rcases he with he | he
    · exact hv e he
    · rw [he]
  · intro e he
    rw [Array.toList_push, List.mem_append, List.mem_singleton] at he
    rcases he with he | he
    · have := hbo e he
      omega
    · rw [he]
      exact Nat.lt_succ_self _
  · have g1 := grown_setBlock w b (.map (es.push ⟨kv n, .int .i64 0, clock⟩) (clock + 1))
    have g2 := grown_setBlock (setBlock w b (.map (es.push ⟨kv n, .int .i64 0, clock⟩) (clock + 1))) b (.map (es.push ⟨kv n, .int .i64 1, clock⟩) (clock + 1))
    exact ⟨g2.os.trans g1.os, g2.tape.trans g1.tape, g2.output.trans g1.output, Nat.le_trans g1.size g2.size, fun i hi hne => (g2.block i (Nat.lt_of_lt_of_le hi g1.size) hne).trans (g1.block i hi hne)⟩
end Go.Proofs.Ytggeonoofjeecaa.Ev

/- word.named, word.bare. -/
set_option linter.unusedSimpArgs false
set_option linter.unusedVariables false
namespace Go.Proofs.Ytggeonoofjeecaa.Ev
open Go.RowKit

def NmC (pL tR : ByteArray → Bool) : Prop := ∀ (sp lo : ByteArray) (W : World), sp.size ≤ 10000 → lo.size ≤ 10000 → Calls Try.prog 20 #[.agg #[.string sp, .string lo]] W fun e w' => e = .returned (.bool (nmF pL tR (sp, lo))) ∧ Below W.heap.size W w'
set_option maxHeartbeats 2000000 in
set_option maxRecDepth 100000 in
theorem pnamed_any (pL tR : ByteArray → Bool) (C1 : Hid (StrC 29 pL)) (C2 : Hid (StrC 23 tR)) (sp lo : ByteArray) (w : World) (h1 : sp.size ≤ 10000) (h2 : lo.size ≤ 10000) : Calls Try.prog 20 #[.agg #[.string sp, .string lo]] w fun e w' => e = .returned (.bool (nmF pL tR (sp, lo))) ∧ Below w.heap.size w w' := by
  have HK := Lib.hid (nblk w 23 #[.string sp, .string lo])
  have HB := Lib.hid ((Below.refl w.heap.size w).alloc (Nat.le_refl _) (.cells #[.string sp, .string lo] 23))
  have HZ := Lib.hid (show w.heap.size < (w.alloc (.cells #[.string sp, .string lo] 23)).heap.size by simp)
  go_enter Try.func20, Try.ntmps20
  go_wp2_with fail
  refine (C1.out lo _ h2).mono ?_
  rintro e w1 ⟨rfl, b1⟩
  have HK1 := Lib.hid ((b1.block _ HZ.out).trans HK.out)
  have HB1 := Lib.hid (HB.out.trans (b1.mono (Nat.le_of_lt HZ.out)))
  have HZ1 := Lib.hid (Nat.lt_of_lt_of_le HZ.out b1.size)
  obtain ⟨c0, c1⟩ := cells2 HK1.out
  clear b1 HK HB HZ
  cases g1 : pL lo with
  | false =>
    have HA : Hid (nmF pL tR (sp, lo) = false) := Lib.hid (by unfold nmF; dsimp only; rw [g1]; rfl)
    clear g1
    go_wp2
    go_ret
    exact ⟨by rw [HA.out]; rfl, HB1.out⟩
  | true =>
    have HG1 := Lib.hid g1
    clear g1
    go_wp2_with fail
    refine (C2.out lo _ h2).mono ?_
    rintro e w2 ⟨rfl, b2⟩
    have HK2 := Lib.hid ((b2.block _ HZ1.out).trans HK1.out)
    have HB2 := Lib.hid (HB1.out.trans (b2.mono (Nat.le_of_lt HZ1.out)))
    have HZ2 := Lib.hid (Nat.lt_of_lt_of_le HZ1.out b2.size)
    obtain ⟨d0, d1⟩ := cells2 HK2.out
    clear b2 HK1 HB1 HZ1 c0 c1
    cases g2 : tR lo with
    | false =>
      have HA : Hid (nmF pL tR (sp, lo) = false) := Lib.hid (by unfold nmF; dsimp only; rw [HG1.out, g2]; rfl)
      clear g2
      go_wp2
      go_ret
      exact ⟨by rw [HA.out]; rfl, HB2.out⟩
    | true =>
      have HG2 := Lib.hid g2
      clear g2
      go_wp2_with fail
      refine (C2.out sp _ h1).mono ?_
      rintro e w3 ⟨rfl, b3⟩
      have HK3 := Lib.hid ((b3.block _ HZ2.out).trans HK2.out)
      have HB3 := Lib.hid (HB2.out.trans (b3.mono (Nat.le_of_lt HZ2.out)))
      obtain ⟨e0, e1⟩ := cells2 HK3.out
      clear b3 HK2 HB2 HZ2 d0 d1
      cases g3 : tR sp with
      | false =>
        have HA : Hid (nmF pL tR (sp, lo) = false) := Lib.hid (by unfold nmF; dsimp only; rw [HG1.out, HG2.out, g3]; rfl)
        clear g3
        go_wp2
        go_ret
        exact ⟨by rw [HA.out]; rfl, HB3.out⟩
      | true =>
        have HG3 := Lib.hid g3
        clear g3
        have HA : Hid (nmF pL tR (sp, lo) = (sp.toList != [104, 116, 116, 112, 58, 47, 47, 119, 119, 119, 46, 119, 51, 46, 111, 114, 103, 47, 50, 48, 48, 48, 47, 120, 109, 108, 110, 115, 47])) := Lib.hid (by unfold nmF; dsimp only; rw [HG1.out, HG2.out, HG3.out]; rfl)
        go_wp2
        go_ret
        exact ⟨by rw [HA.out]; rfl, HB3.out⟩

set_option maxHeartbeats 2000000 in
set_option maxRecDepth 100000 in
theorem bare_any (A : Option Addr) (n c : Nat) (x : RE) (w : World) (hl : n = x.ats.length) :
    Calls Try.prog 22 #[.agg #[.int .i64 x.kind, .string x.sp, .string x.lo, .slice A n c, .string x.tx]] w fun e w' => e = .returned (.bool (noneF x)) ∧ Below w.heap.size w w' := by
  have HB0 := Lib.hid ((Below.refl w.heap.size w).alloc (Nat.le_refl _) (.cells #[.int .i64 x.kind, .string x.sp, .string x.lo, .slice A n c, .string x.tx] 26))
  rcases emp3 x.sp x.lo with ⟨s1, s2⟩ | ⟨s1, s2⟩ | s1
  · by_cases h0 : n = 0
    · have HE : Hid (noneF x = true) := Lib.hid (by unfold noneF emp; rw [s1, s2, ← hl, h0]; rfl)
      generalize noneF x = F at *
      obtain ⟨kind, sp, lo, ats, tx⟩ := x
      dsimp only at *
      subst h0
      clear hl
      go_enter Try.func22, Try.ntmps22
      go_wp2
      go_ret
      exact ⟨by rw [HE.out]; rfl, HB0.out⟩
    · have z0 : ((n : Int) == 0) = false := by rw [beq_eq_false_iff_ne]; omega
      have HE : Hid (noneF x = false) := Lib.hid (by unfold noneF emp; rw [s1, s2, ← hl]; simp [h0])
      generalize noneF x = F at *
      obtain ⟨kind, sp, lo, ats, tx⟩ := x
      dsimp only at *
      clear hl h0
      go_enter Try.func22, Try.ntmps22
      go_wp2
      go_ret
      exact ⟨by rw [HE.out]; rfl, HB0.out⟩
  all_goals
    have HE : Hid (noneF x = false) := Lib.hid (by unfold noneF emp; (first | rw [s1, s2] | rw [s1]); rfl)
    generalize noneF x = F at *
    obtain ⟨kind, sp, lo, ats, tx⟩ := x
    dsimp only at *
    clear hl
    go_enter Try.func22, Try.ntmps22
    go_wp2
    go_ret
    exact ⟨by rw [HE.out]; rfl, HB0.out⟩
end Go.Proofs.Ytggeonoofjeecaa.Ev

/- word.attributed. -/
set_option linter.unusedSimpArgs false
set_option linter.unusedVariables false
namespace Go.Proofs.Ytggeonoofjeecaa.Ev
open Go.RowKit

def AtRel (F : Bool) (nm : P2 → Bool) (tR : ByteArray → Bool) (l : List P3) (n : Nat) (w : World) (i : Value) (wr : World) : Prop :=
  ∃ k : Nat, i = .int .i64 k ∧ k ≤ n ∧ Hid (SeenM wr w.heap.size ((l.take k).map (·.1))) ∧ Hid (Below w.heap.size w wr) ∧ Hid (F = goA nm tR ((l.take k).map (·.1)) (l.drop k))
theorem toList_inj {a b : ByteArray} (h : a.toList = b.toList) : a = b := by
  rw [Lib.toList_data, Lib.toList_data] at h
  cases a; cases b
  simp only [ByteArray.mk.injEq] at h ⊢
  exact Array.toList_inj.1 h
theorem eqn_eq {x y : P2} : eqn x y = true ↔ x = y := by
  unfold eqn
  rw [Bool.and_eq_true, beq_iff_eq, beq_iff_eq]
  exact ⟨fun ⟨h1, h2⟩ => Prod.ext (toList_inj h1) (toList_inj h2), fun h => by rw [h]; exact ⟨rfl, rfl⟩⟩
theorem any_in {l : List P2} {x : P2} (h : x ∈ l) : (l.any fun y => eqn y x) = true := List.any_eq_true.2 ⟨x, h, eqn_eq.2 rfl⟩
theorem any_out {l : List P2} {x : P2} (h : ¬ x ∈ l) : (l.any fun y => eqn y x) = false := List.any_eq_false.2 fun y hy e => h (by rw [← eqn_eq.1 e]; exact hy)
theorem take_names {l : List P3} {k : Nat} {x : P3} (h : l[k]? = some x) : (l.take (k + 1)).map (·.1) = (l.take k).map (·.1) ++ [x.1] := by rw [List.take_add_one, h]; simp
theorem cells3 {W : World} {b : Nat} {a0 a1 a2 : Value} {T : TypeId} {fz : Nat × Nat} (h : W.heap[b]? = some (.cells #[a0, a1, a2] T fz)) : W.cell? ⟨b, 0, none⟩ = some a0 ∧ W.cell? ⟨b, 1, none⟩ = some a1 ∧ W.cell? ⟨b, 2, none⟩ = some a2 := ⟨cells_of h 0 rfl, cells_of h 1 rfl, cells_of h 2 rfl⟩
set_option maxHeartbeats 8000000 in
set_option maxRecDepth 100000 in
theorem attributed_any (pL tR : ByteArray → Bool) (C1 : Hid (NmC pL tR)) (C2 : Hid (StrC 23 tR)) (A : Option Addr) (n c : Nat) (l : List P3) (w : World) (T : AttsIn w A n c l) (hB : l.length ≤ 32 → ∀ y ∈ l, y.1.1.size ≤ 10000 ∧ y.1.2.size ≤ 10000 ∧ y.2.size ≤ 10000) :
    Calls Try.prog 21 #[.slice A n c] w fun e w' => e = .returned (.bool (decide (n ≤ 32) && goA (nmF pL tR) tR [] l)) ∧ Below w.heap.size w w' := by
  by_cases h32 : n ≤ 32
  · rw [decide_eq_true h32, Bool.true_and]
    have k32 : ¬ (32 : Int) < (n : Int) := by omega
    have HT := Lib.hid T
    have HX := Lib.hid (hB (by rw [← T.len]; exact h32))
    obtain ⟨F, hF⟩ : ∃ F, F = goA (nmF pL tR) tR [] l := ⟨_, rfl⟩
    rw [← hF]
    have HF := Lib.hid hF
    have hmm := @run_makeMap Try.prog
    clear T hB hF
    go_enter Try.func21, Try.ntmps21
    go_wp2_with fail
    go_loopw [12] (fun i wr => AtRel F (nmF pL tR) tR l n w i wr) (fun i _ => n - (intOf i).toNat)
    case atStart => exact ⟨0, rfl, Nat.zero_le _, Lib.hid (seen_new w), Lib.hid ((Below.refl _ w).alloc (Nat.le_refl _) _), HF⟩
    case round =>
      clear hmm HF
      obtain ⟨k, rfl, hk, HM, HR, HA⟩ := hrel
      by_cases hlt : k < n
      · have k1 : (k : Int) < (n : Int) := by omega
        have k2 : (0 : Int) ≤ (k : Int) := by omega
        have hkl : k < l.length := by rw [← HT.out.len]; exact hlt
        have hx := List.getElem?_eq_getElem hkl
        have hsz := HX.out _ (List.getElem_mem hkl)
        obtain ⟨b, off, hA, hbl, d0, d1, d2⟩ := (HT.out.rd.keep HR.out) k _ hx
        have HS := Lib.hid (go_step (nm := nmF pL tR) (tR := tR) hx)
        have HTk := Lib.hid (take_names hx)
        generalize l[k] = y at *
        subst hA
        obtain ⟨⟨ysp, ylo⟩, yv⟩ := y
        dsimp only at d0 d1 d2 hsz HS HTk
        have z1 : ysp.size ≤ Lim := by unfold Lim; omega
        have z2 : ylo.size ≤ Lim := by unfold Lim; omega
        have CN : Hid (∀ W, Calls Try.prog 20 #[.agg #[.string ysp, .string ylo]] W fun e w' => e = .returned (.bool (nmF pL tR (ysp, ylo))) ∧ Below W.heap.size W w') := Lib.hid fun W => C1.out ysp ylo W hsz.1 hsz.2.1
        have CV : Hid (∀ W, Calls Try.prog 23 #[.string yv] W fun e w' => e = .returned (.bool (tR yv)) ∧ Below W.heap.size W w') := Lib.hid fun W => C2.out yv W hsz.2.2
        have HK0 := Lib.hid (nblk wr 39 #[.string ysp, .string ylo, .string yv])
        have HB0 := Lib.hid (HR.out.alloc HR.out.size (.cells #[.string ysp, .string ylo, .string yv] 39))
        have HM0 := Lib.hid (HM.out.keep ((Below.refl _ wr).alloc (Nat.le_refl _) (.cells #[.string ysp, .string ylo, .string yv] 39)))
        have HZ := Lib.hid (show wr.heap.size < (wr.alloc (.cells #[.string ysp, .string ylo, .string yv] 39)).heap.size by simp)
        have HL0 := Lib.hid HM.out.lt
        clear hx hkl hsz hbl HM HR
        generalize (l.take k).map (·.1) = sn at *
        cases g1 : nmF pL tR (ysp, ylo) with
        | false =>
          have HE : Hid (F = false) := Lib.hid (by rw [HA.out, HS.out, g1]; rfl)
          rw [g1] at CN
          clear g1 HA HS z1 z2
          go_wp2_with fail
          refine (CN.out _).mono ?_
          rintro e w1 ⟨rfl, b1⟩
          have HB1 := Lib.hid (HB0.out.trans (b1.mono HB0.out.size))
          clear b1 CN
          go_wp2
          go_ret
          exact ⟨by rw [HE.out] <;> rfl, HB1.out⟩
        | true =>
          rw [g1] at CN HS
          clear g1
          by_cases hin : (ysp, ylo) ∈ sn
          · have HE : Hid (F = false) := Lib.hid (by rw [HA.out, HS.out, any_in hin]; simp)
            have HY : Hid (∀ W, SeenM W w.heap.size sn → (Instr.lookup 47 (.map (some w.heap.size)) (.agg #[.string ysp, .string ylo]) false).run Try.prog W = .ok (.int .i64 1) W) := Lib.hid (fun W hW => seen_yes hW hin)
            clear HA HS z1 z2 hin
            go_wp2_with fail
            refine (CN.out _).mono ?_
            rintro e w1 ⟨rfl, b1⟩
            have HB1 := Lib.hid (HB0.out.trans (b1.mono HB0.out.size))
            have hlk := HY.out w1 (HM0.out.keep b1)
            obtain ⟨c0, c1, c2⟩ := cells3 ((b1.block _ HZ.out).trans HK0.out)
            clear b1 CN d0 d1 d2
            go_wp2
            go_ret
            exact ⟨by rw [HE.out] <;> rfl, HB1.out⟩
          · have HY : Hid (∀ W, SeenM W w.heap.size sn → (Instr.lookup 47 (.map (some w.heap.size)) (.agg #[.string ysp, .string ylo]) false).run Try.prog W = .ok (.int .i64 0) W) := Lib.hid (fun W hW => seen_no hW hin z1 z2)
            have HP := Lib.hid (fun W (hW : SeenM W w.heap.size sn) => seen_put hW hin z1 z2)
            have HS2 := Lib.hid (HS.out.trans (by rw [any_out hin]))
            clear HS z1 z2 hin
            cases g2 : tR yv with
            | false =>
              have HE : Hid (F = false) := Lib.hid (by rw [HA.out, HS2.out, g2]; rfl)
              rw [g2] at CV
              clear g2 HA HS2 HP
              go_wp2_with fail
              refine (CN.out _).mono ?_
              rintro e w1 ⟨rfl, b1⟩
              have HB1 := Lib.hid (HB0.out.trans (b1.mono HB0.out.size))
              have hlk := HY.out w1 (HM0.out.keep b1)
              obtain ⟨c0, c1, c2⟩ := cells3 ((b1.block _ HZ.out).trans HK0.out)
              clear b1 CN d0 d1 d2
              go_wp2_with fail
              refine (CV.out _).mono ?_
              rintro e w2 ⟨rfl, b2⟩
              have HB2 := Lib.hid (HB1.out.trans (b2.mono HB1.out.size))
              clear b2 hlk c0 c1 c2 CV
              go_wp2
              go_ret
              exact ⟨by rw [HE.out] <;> rfl, HB2.out⟩
            | true =>
              have HA2 : Hid (F = goA (nmF pL tR) tR (sn ++ [(ysp, ylo)]) (l.drop (k + 1))) := Lib.hid (by rw [HA.out, HS2.out, g2, HTk.out]; rfl)
              rw [g2] at CV
              clear g2 HA HS2
              go_wp2_with fail
              refine (CN.out _).mono ?_
              rintro e w1 ⟨rfl, b1⟩
              have HB1 := Lib.hid (HB0.out.trans (b1.mono HB0.out.size))
              have HM1 := Lib.hid (HM0.out.keep b1)
              have hlk := HY.out w1 HM1.out
              have HK1 := Lib.hid ((b1.block _ HZ.out).trans HK0.out)
              have HZ1 := Lib.hid (Nat.lt_of_lt_of_le HZ.out b1.size)
              obtain ⟨c0, c1, c2⟩ := cells3 HK1.out
              clear b1 CN d0 d1 d2
              go_wp2_with fail
              refine (CV.out _).mono ?_
              rintro e w2 ⟨rfl, b2⟩
              have HB2 := Lib.hid (HB1.out.trans (b2.mono HB1.out.size))
              have HM2 := Lib.hid (HM1.out.keep b2)
              obtain ⟨f0, f1, f2⟩ := cells3 ((b2.block _ HZ1.out).trans HK1.out)
              clear b2 CV hlk c0 c1 c2 HK1 HK0 HM0 HM1 HB0 HB1
              go_wp2_with fail
              obtain ⟨st, V1, V2, e1, e2, e3, hS2, v1, v2⟩ := HP.out w2.drew HM2.out
              have e0 := HY.out w2.drew HM2.out
              have hne : some wr.heap.size ≠ some w.heap.size := fun e => by
                injection e with e
                have := HL0.out
                omega
              have y0 : V1.cell? ⟨wr.heap.size, 0, none⟩ = some (.string ysp) := v1.cell (show w2.drew.cell? ⟨wr.heap.size, 0, none⟩ = some (.string ysp) by rw [World.cell?_drew]; exact f0) hne
              have y1 : V1.cell? ⟨wr.heap.size, 1, none⟩ = some (.string ylo) := v1.cell (show w2.drew.cell? ⟨wr.heap.size, 1, none⟩ = some (.string ylo) by rw [World.cell?_drew]; exact f1) hne
              have HB : Hid (Below w.heap.size w V2) := Lib.hid (Below.grown (Below.drew HB2.out) v2 HB2.out.size (fun j hj => by injection hj with hj; omega))
              have HQ : Hid (SeenM V2 w.heap.size ((l.take (k + 1)).map (·.1))) := Lib.hid (by rw [HTk.out]; exact hS2)
              rw [← HTk.out] at HA2
              clear hS2 v1 v2 HM2 HP HY HB2
              generalize wr.heap.size = ba at *
              go_region
              all_goals
                clear e0 e1 e2 e3 y0 y1 f0 f1 f2
                go_wp2
                go_roundw
                case rel => exact ⟨k + 1, by go_num, by omega, HQ, HB, HA2⟩
                case measure => simp only [intOf]; omega
      · have k1 : ¬ (k : Int) < (n : Int) := by omega
        have HE : Hid (F = true) := Lib.hid (by rw [HA.out, List.drop_of_length_le (by rw [← HT.out.len]; omega)]; rfl)
        clear HA
        go_wp2
        go_ret
        exact ⟨by rw [HE.out] <;> rfl, HR.out⟩
  · rw [decide_eq_false h32, Bool.false_and]
    have k32 : (32 : Int) < (n : Int) := by omega
    clear T hB h32
    go_enter Try.func21, Try.ntmps21
    go_wp2
    go_ret
    exact ⟨rfl, Below.refl _ _⟩
end Go.Proofs.Ytggeonoofjeecaa.Ev

/- word.Right. -/
set_option linter.unusedSimpArgs false
set_option linter.unusedVariables false
namespace Go.Proofs.Ytggeonoofjeecaa.Ev
open Go.RowKit

def AtC (pL tR : ByteArray → Bool) : Prop := ∀ (A : Option Addr) (n c : Nat) (l : List P3) (w : World), AttsIn w A n c l → (l.length ≤ 32 → ∀ y ∈ l, y.1.1.size ≤ 10000 ∧ y.1.2.size ≤ 10000 ∧ y.2.size ≤ 10000) → Calls Try.prog 21 #[.slice A n c] w fun e w' => e = .returned (.bool (decide (n ≤ 32) && goA (nmF pL tR) tR [] l)) ∧ Below w.heap.size w w'
/-- The event in its box; its attributes. -/
structure Bx1 (bx : Nat) (A : Option Addr) (n c : Nat) (x : RE) (W0 W : World) : Prop where
  a : W.heap[bx]? = some (.cells #[.int .i64 x.kind, .string x.sp, .string x.lo, .slice A n c, .string x.tx] 26 (0, 0))
  ta : AttsIn W A n c x.ats
  bel : Below W0.heap.size W0 W
theorem Bx1.keep {bx : Nat} {A : Option Addr} {n c : Nat} {x : RE} {W0 W W' : World} (h : Bx1 bx A n c x W0 W) (hb : Below W.heap.size W W') : Bx1 bx A n c x W0 W' :=
  ⟨(hb.block _ (Array.getElem?_eq_some_iff.1 h.a).1).trans h.a, h.ta.keep hb, h.bel.trans (hb.mono h.bel.size)⟩
set_option maxHeartbeats 8000000 in
set_option maxRecDepth 100000 in
theorem pright_of (pL tR : ByteArray → Bool) (C1 : Hid (NmC pL tR)) (C2 : Hid (StrC 23 tR)) (C3 : Hid (AtC pL tR)) (A : Option Addr) (n c : Nat) (x : RE) (w : World) (T : AttsIn w A n c x.ats) (hB : RgB x) :
    Calls Try.prog 9 #[.agg #[.int .i64 x.kind, .string x.sp, .string x.lo, .slice A n c, .string x.tx]] w fun e w' => e = .returned (.bool (rightF pL tR x)) ∧ Below w.heap.size w w' := by
  obtain ⟨W0, hW0⟩ : ∃ W0, W0 = w.alloc (.cells #[.int .i64 x.kind, .string x.sp, .string x.lo, .slice A n c, .string x.tx] 26) := ⟨_, rfl⟩
  have HX : Hid (Bx1 w.heap.size A n c x w W0) := Lib.hid (by
    rw [hW0]
    exact ⟨nblk w 26 _, T.keep ((Below.refl _ w).alloc (Nat.le_refl _) _), (Below.refl w.heap.size w).alloc (Nat.le_refl _) _⟩)
  have HN := Lib.hid (show n = x.ats.length from T.len)
  have C20 : Hid (∀ W, Calls Try.prog 20 #[.agg #[.string x.sp, .string x.lo]] W fun e w' => e = .returned (.bool (nmF pL tR (x.sp, x.lo))) ∧ Below W.heap.size W w') := Lib.hid fun W => C1.out _ _ W hB.sp hB.lo
  have C21 : Hid (∀ W, Bx1 w.heap.size A n c x w W → Calls Try.prog 21 #[.slice A n c] W fun e w' => e = .returned (.bool (decide (n ≤ 32) && goA (nmF pL tR) tR [] x.ats)) ∧ Below W.heap.size W w') := Lib.hid fun W h => C3.out A n c x.ats W h.ta hB.at_
  have C22 : Hid (∀ W, Calls Try.prog 22 #[.agg #[.int .i64 x.kind, .string x.sp, .string x.lo, .slice A n c, .string x.tx]] W fun e w' => e = .returned (.bool (noneF x)) ∧ Below W.heap.size W w') := Lib.hid fun W => bare_any A n c x W HN.out
  have C23 : Hid (∀ W, Calls Try.prog 23 #[.string x.tx] W fun e w' => e = .returned (.bool (tR x.tx)) ∧ Below W.heap.size W w') := Lib.hid fun W => C2.out _ W hB.tx
  have HK : Hid (∀ W W', Bx1 w.heap.size A n c x w W → Below W.heap.size W W' → Bx1 w.heap.size A n c x w W') := Lib.hid fun W W' h hb => h.keep hb
  obtain ⟨F, hF⟩ : ∃ F, F = rightF pL tR x := ⟨_, rfl⟩
  rw [← hF]
  have HF := Lib.hid hF
  clear T hB hF C1 C2 C3
  by_cases h2 : x.kind = 2
  · have HE : Hid (F = (noneF x && !emp x.tx && tR x.tx)) := Lib.hid (by rw [HF.out]; unfold rightF; rw [if_pos h2])
    clear HF C20 C21
    unfold emp at HE
    generalize noneF x = nn at *
    generalize tR x.tx = tt at *
    obtain ⟨kind, sp, lo, ats, tx⟩ := x
    dsimp only at *
    subst h2
    go_enter Try.func9, Try.ntmps9
    go_wp2_with fail
    generalize hw : w.alloc _ = W1 at *
    clear hw
    subst hW0
    refine (C22.out _).mono ?_
    rintro e w1 ⟨rfl, b1⟩
    replace HX := Lib.hid (HK.out _ _ HX.out b1)
    clear b1 C22
    obtain ⟨c0, c1, c2, c3, c4⟩ := cells5 HX.out.a
    clear c0 c1 c2 c3
    cases nn with
    | false =>
      have HE2 : Hid (F = false) := Lib.hid (by rw [HE.out]; rfl)
      clear HE
      go_wp2
      go_ret
      exact ⟨by rw [HE2.out] <;> rfl, HX.out.bel⟩
    | true =>
      cases t1 : tx.toList.isEmpty with
      | true =>
        have HE2 : Hid (F = false) := Lib.hid (by rw [HE.out, t1]; rfl)
        clear HE
        go_wp2
        go_ret
        exact ⟨by rw [HE2.out] <;> rfl, HX.out.bel⟩
      | false =>
        have HE2 : Hid (F = tt) := Lib.hid (by rw [HE.out, t1]; rfl)
        clear HE
        go_wp2_with fail
        refine (C23.out _).mono ?_
        rintro e w2 ⟨rfl, b2⟩
        replace HX := Lib.hid (HK.out _ _ HX.out b2)
        clear b2 C23 c4
        go_wp2
        go_ret
        exact ⟨by rw [HE2.out] <;> rfl, HX.out.bel⟩
  by_cases h3 : x.kind = 3
  · have HE : Hid (F = (noneF x && emp x.tx)) := Lib.hid (by rw [HF.out]; unfold rightF; rw [if_neg h2, if_pos h3])
    clear HF C20 C21 C23 h2
    unfold emp at HE
    generalize noneF x = nn at *
    obtain ⟨kind, sp, lo, ats, tx⟩ := x
    dsimp only at *
    subst h3
    go_enter Try.func9, Try.ntmps9
    go_wp2_with fail
    generalize hw : w.alloc _ = W1 at *
    clear hw
    subst hW0
    refine (C22.out _).mono ?_
    rintro e w1 ⟨rfl, b1⟩
    replace HX := Lib.hid (HK.out _ _ HX.out b1)
    clear b1 C22
    obtain ⟨c0, c1, c2, c3, c4⟩ := cells5 HX.out.a
    clear c0 c1 c2 c3
    cases nn with
    | false =>
      have HE2 : Hid (F = false) := Lib.hid (by rw [HE.out]; rfl)
      clear HE
      go_wp2
      go_ret
      exact ⟨by rw [HE2.out] <;> rfl, HX.out.bel⟩
    | true =>
      have HE2 : Hid (F = tx.toList.isEmpty) := Lib.hid (by rw [HE.out]; rfl)
      clear HE
      go_wp2
      go_ret
      exact ⟨by rw [HE2.out] <;> rfl, HX.out.bel⟩
  have HE : Hid (F = if x.kind ≠ 1 ∨ emp x.tx = false ∨ nmF pL tR (x.sp, x.lo) = false ∨ 32 < x.ats.length then false else goA (nmF pL tR) tR [] x.ats) := Lib.hid (by rw [HF.out]; unfold rightF; rw [if_neg h2, if_neg h3])
  have e2 : (x.kind == 2) = false := by simpa using h2
  have e3 : (x.kind == 3) = false := by simpa using h3
  clear HF C22 C23 h2 h3
  by_cases h1 : x.kind = 1
  · have HE1 : Hid (F = (nmF pL tR (x.sp, x.lo) && (decide (n ≤ 32) && goA (nmF pL tR) tR [] x.ats) && x.tx.toList.isEmpty)) := Lib.hid (by
      rw [HE.out]
      unfold emp
      rw [HN.out]
      cases nmF pL tR (x.sp, x.lo)
      · rw [if_pos (.inr (.inr (.inl rfl)))]; rfl
      · cases x.tx.toList.isEmpty
        · rw [if_pos (.inr (.inl rfl))]; simp
        · by_cases h : 32 < x.ats.length
          · rw [if_pos (.inr (.inr (.inr h))), decide_eq_false (by omega)]; rfl
          · rw [if_neg (by rintro (g | g | g | g); exact g h1; cases g; cases g; exact h g), decide_eq_true (by omega)]; simp)
    clear HE e2 e3
    generalize (decide (n ≤ 32) && goA (nmF pL tR) tR [] x.ats) = aa at *
    generalize nmF pL tR (x.sp, x.lo) = nn at *
    obtain ⟨kind, sp, lo, ats, tx⟩ := x
    dsimp only at *
    subst h1
    go_enter Try.func9, Try.ntmps9
    go_wp2_with fail
    generalize hw : w.alloc _ = W1 at *
    clear hw
    subst hW0
    refine (C20.out _).mono ?_
    rintro e w1 ⟨rfl, b1⟩
    replace HX := Lib.hid (HK.out _ _ HX.out b1)
    clear b1 C20
    cases nn with
    | false =>
      have HE2 : Hid (F = false) := Lib.hid (by rw [HE1.out]; rfl)
      clear HE1
      go_wp2
      go_ret
      exact ⟨by rw [HE2.out] <;> rfl, HX.out.bel⟩
    | true =>
      obtain ⟨c0, c1, c2, c3, c4⟩ := cells5 HX.out.a
      clear c0 c1 c2 c4
      go_wp2_with fail
      refine (C21.out _ HX.out).mono ?_
      rintro e w2 ⟨rfl, b2⟩
      replace HX := Lib.hid (HK.out _ _ HX.out b2)
      clear b2 C21 c3
      obtain ⟨c0, c1, c2, c3, c4⟩ := cells5 HX.out.a
      clear c0 c1 c2 c3
      cases aa with
      | false =>
        have HE2 : Hid (F = false) := Lib.hid (by rw [HE1.out]; rfl)
        clear HE1
        go_wp2
        go_ret
        exact ⟨by rw [HE2.out] <;> rfl, HX.out.bel⟩
      | true =>
        have HE2 : Hid (F = tx.toList.isEmpty) := Lib.hid (by rw [HE1.out]; rfl)
        clear HE1
        go_wp2
        go_ret
        exact ⟨by rw [HE2.out] <;> rfl, HX.out.bel⟩
  · have HE2 : Hid (F = false) := Lib.hid (by rw [HE.out, if_pos (.inl h1)])
    have e1 : (x.kind == 1) = false := by simpa using h1
    clear HE C20 C21 h1
    obtain ⟨kind, sp, lo, ats, tx⟩ := x
    dsimp only at *
    go_enter Try.func9, Try.ntmps9
    go_wp2_with fail
    generalize hw : w.alloc _ = W1 at *
    clear hw
    subst hW0
    go_ret
    exact ⟨by rw [HE2.out] <;> rfl, HX.out.bel⟩
theorem pright_c (pL tR : ByteArray → Bool) (C1 : Hid (StrC 29 pL)) (C2 : Hid (StrC 23 tR)) : EvP pL tR := fun A n c x W T hB => by
  have CN : Hid (NmC pL tR) := Lib.hid fun sp lo W h1 h2 => pnamed_any pL tR C1 C2 sp lo W h1 h2
  have CA : Hid (AtC pL tR) := Lib.hid fun A n c l W T hB => attributed_any pL tR CN C2 A n c l W T hB
  exact pright_of pL tR CN C2 CA A n c x W T hB
end Go.Proofs.Ytggeonoofjeecaa.Ev
