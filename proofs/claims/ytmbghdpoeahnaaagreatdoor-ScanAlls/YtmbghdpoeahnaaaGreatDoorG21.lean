/-
  Merged by program out of the texts Inst2, KDecl of one seat.
-/
import Derived.Test.YtmbghdpoeahnaaaGreatDoorG20
import Derived.Test.YtmbghdpoeahnaaaGreatDoorG08
import Derived.Test.YtmbghdpoeahnaaaGreatDoorG14

/- The walks of scan.declaration and scan.instruction. -/
set_option linter.unusedSimpArgs false
set_option linter.unusedVariables false
namespace Go.Proofs.YtmbghdpoeahnaaaGreatDoor
open Go.RowKit

def SetC (r key : ByteArray) (g : Nat) (r' : ByteArray) (ok : Bool) : Prop := ∀ W, Gl W → Calls Tryz.prog 96 #[.string r, .string key, .func (.func g) #[] #[]] W (SetPost r' ok W)
def AllC (r : ByteArray) (b : Bool) : Prop := ∀ W, Calls Tryz.prog 53 #[.string r, .slice (some ⟨W.heap.size, 0, none⟩) 1 1] (W.alloc (.cells #[.func (.func 54) #[] #[]] 83)) fun e w' => e = .returned (.bool b) ∧ Below W.heap.size W w'
def BPost (b : Bool) (w : World) (e : Ending) (w' : World) : Prop := e = .returned (.bool b) ∧ Below w.heap.size w w'
set_option maxHeartbeats 1000000 in
set_option maxRecDepth 100000 in
theorem decl_no0 (s : ByteArray) (w : World) (C0 : Hid (CutP s ⟨#[120, 109, 108]⟩ s false)) : Calls Tryz.prog 77 #[.string s] w (BPost false w) := by
  go_enter Tryz.func77, Tryz.ntmps77
  go_wp2_with fail
  refine (C0.out _).mono ?_
  rintro e w1 ⟨rfl, rfl⟩
  go_wp2_with fail
  go_ret
  exact ⟨rfl, Below.refl _ _⟩
set_option maxHeartbeats 1000000 in
set_option maxRecDepth 100000 in
theorem decl_no1 (s r0 r1 : ByteArray) (w : World) (hG : Gl w) (C0 : Hid (CutP s ⟨#[120, 109, 108]⟩ r0 true)) (C1 : Hid (SetC r0 ⟨#[118, 101, 114, 115, 105, 111, 110]⟩ 97 r1 false)) : Calls Tryz.prog 77 #[.string s] w (BPost false w) := by
  have HG := Lib.hid hG
  clear hG
  go_enter Tryz.func77, Tryz.ntmps77
  go_wp2_with fail
  refine (C0.out _).mono ?_
  rintro e w1 ⟨rfl, rfl⟩
  go_wp2_with fail
  refine (C1.out _ HG.out).mono ?_
  rintro e w2 ⟨rfl, hb⟩
  go_wp2_with fail
  go_ret
  exact ⟨rfl, hb⟩
set_option maxHeartbeats 1000000 in
set_option maxRecDepth 100000 in
theorem decl_yes (s r0 r1 r2 r3 : ByteArray) (o2 o3 b : Bool) (w : World) (hG : Gl w) (C0 : Hid (CutP s ⟨#[120, 109, 108]⟩ r0 true)) (C1 : Hid (SetC r0 ⟨#[118, 101, 114, 115, 105, 111, 110]⟩ 97 r1 true))
    (C2 : Hid (SetC r1 ⟨#[101, 110, 99, 111, 100, 105, 110, 103]⟩ 98 r2 o2)) (C3 : Hid (SetC r2 ⟨#[115, 116, 97, 110, 100, 97, 108, 111, 110, 101]⟩ 99 r3 o3)) (C4 : Hid (AllC r3 b)) : Calls Tryz.prog 77 #[.string s] w (BPost b w) := by
  have HG := Lib.hid hG
  clear hG
  go_enter Tryz.func77, Tryz.ntmps77
  go_wp2_with fail
  refine (C0.out _).mono ?_
  rintro e w1 ⟨rfl, rfl⟩
  go_wp2_with fail
  refine (C1.out _ HG.out).mono ?_
  rintro e w2 ⟨rfl, hb2⟩
  have HG2 := Lib.hid (HG.out.after hb2)
  go_wp2_with fail
  refine (C2.out _ HG2.out).mono ?_
  rintro e w3 ⟨rfl, hb3⟩
  have HG3 := Lib.hid (HG2.out.after hb3)
  go_wp2_with fail
  refine (C3.out _ HG3.out).mono ?_
  rintro e w4 ⟨rfl, hb4⟩
  go_wp2_with fail
  refine (C4.out _).mono ?_
  rintro e w5 ⟨rfl, hb5⟩
  go_wp2_with fail
  go_ret
  have h23 := hb2.trans (hb3.mono hb2.size)
  have h24 := h23.trans (hb4.mono h23.size)
  exact ⟨rfl, h24.trans (hb5.mono h24.size)⟩

theorem bl_ints (s : ByteArray) : byts s = ints (Nz.bl s) := byts_ints s
theorem rn_blank (n : Nat) : ∀ (L : List Nat), L.length ≤ n → (∀ x ∈ L, x < 256) → ((Nz.Rn L).all blk? = (ints L).all blk?) := by
  induction n with
  | zero =>
    intro L h _
    have : L = [] := List.eq_nil_of_length_eq_zero (by omega)
    subst this
    rfl
  | succ n ih =>
    intro L h hB
    match L, h, hB with
    | [], _, _ => rfl
    | c :: L, h, hB =>
      rw [Nz.Rn_cons _ (by simp)]
      by_cases hc : c < 128
      · rw [Nz.dN_asc0 L c hc]
        show (blk? (c : Int) && (Nz.Rn L).all blk?) = (blk? (c : Int) && (ints L).all blk?)
        rw [ih L (by simpa using h) fun x hx => hB x (List.mem_cons_of_mem _ hx)]
      · have e1 : blk? (c : Int) = false := by unfold blk?; exact decide_eq_false (by unfold Blank; omega)
        have e2 : blk? ((Nz.dN (c :: L)).1 : Int) = false := by
          have hsz : 0 < (ByteArray.mk ((c :: L).map UInt8.ofNat).toArray).size := by show 0 < ((c :: L).map UInt8.ofNat).toArray.size; simp
          have hbl : Nz.bl (ByteArray.mk ((c :: L).map UInt8.ofNat).toArray) = c :: L := by
            unfold Nz.bl
            simp only [List.map_map]
            have : ∀ x ∈ c :: L, (UInt8.toNat ∘ UInt8.ofNat) x = x := fun x hx => by
              have := hB x hx
              simp
              omega
            exact (List.map_congr_left this).trans (List.map_id _)
          have := (at_high _ 0 hsz (by rw [hbl]; show 128 ≤ c; omega)).1
          rw [Nz.dec_dN, hbl, List.drop_zero] at this
          unfold blk?
          exact decide_eq_false (by unfold Blank; omega)
        show (blk? ((Nz.dN (c :: L)).1 : Int) && _) = (blk? (c : Int) && _)
        rw [e1, e2, Bool.false_and, Bool.false_and]
theorem allP_blk (s : ByteArray) : Cz.allP [54] s = (byts s).all blk? := by
  have h1 : Cz.allP [54] s = (Cz.runes s).all blk? := by
    unfold Cz.allP
    congr 1
    funext r
    unfold Cz.anyP Cz.clsP blk?
    simp
  have h2 : Cz.runes s = Nz.runes s := runes_same s _ _
  rw [h1, h2, Nz.runes_Rn, rn_blank _ (Nz.bl s) (Nat.le_refl _) (fun x hx => by
    unfold Nz.bl at hx
    obtain ⟨b, _, rfl⟩ := List.mem_map.1 hx
    exact b.toNat_lt), ← byts_ints]
theorem allc_any (r : ByteArray) : AllC r ((byts r).all blk?) := fun W => by
  have := Cz.all1 r 54 (.inr rfl) W
  rw [allP_blk] at this
  exact this
theorem orF_len (l key : List Int) (okp : List Int → Bool) : (orF (setF l key okp) l).length ≤ l.length ∧ (Bts l → Bts (orF (setF l key okp) l)) := by
  unfold setF
  split
  · exact ⟨Nat.le_refl _, id⟩
  · split
    · split
      · exact ⟨Nat.le_refl _, id⟩
      · rename_i q r hr
        split
        · unfold setVal
          split
          · exact ⟨Nat.le_refl _, id⟩
          · rename_i n hn
            split
            · have h1 := dropW_len l blk?
              have h2 : (q :: r).length ≤ (l.dropWhile blk?).length := by rw [← hr, List.length_drop]; omega
              refine ⟨?_, fun hB => ?_⟩
              · show (r.drop (n + 1)).length ≤ l.length
                rw [List.length_drop]
                simp only [List.length_cons] at h2
                omega
              · show Bts (r.drop (n + 1))
                have := (hB.dropW blk?).drop (key.length + 1)
                rw [hr] at this
                exact this.tail.drop _
            · exact ⟨Nat.le_refl _, id⟩
        · exact ⟨Nat.le_refl _, id⟩
    · exact ⟨Nat.le_refl _, id⟩
theorem setc_any (r key : ByteArray) (g : Nat) (hg : g = 97 ∨ g = 98 ∨ g = 99) (okp : List Int → Bool) (hok : ∀ V : ByteArray, V.size ≤ 1000 → OkF g V (okp (byts V))) (hr : r.size ≤ 1000) (hk : key.size ≤ 100) :
    SetC r key g (strOfNums (orF (setF (byts r) (byts key) okp) (byts r))) (setF (byts r) (byts key) okp).isSome := fun W hW => setting_any r key g hg okp hok W hW hr hk
theorem decl_any (s : ByteArray) (w : World) (hs : s.size ≤ 1000) (hG : Gl w) : Calls Tryz.prog 77 #[.string s] w (BPost (declW (byts s)) w) := by
  unfold declW
  by_cases h0 : wXml.isPrefixOf (byts s) = true
  · have C0 : CutP s ⟨#[120, 109, 108]⟩ (strOfNums ((byts s).drop 3)) true := fun W => cutpre_yes s ⟨#[120, 109, 108]⟩ W h0
    have hB := (bts_byts s).drop 3
    have hl : ((byts s).drop 3).length ≤ 1000 := by rw [List.length_drop, byts_len]; omega
    rw [h0, Bool.true_and]
    generalize (byts s).drop 3 = r0 at *
    have C1 := setc_any (strOfNums r0) ⟨#[118, 101, 114, 115, 105, 111, 110]⟩ 97 (.inl rfl) okVersion (fun V hV => ok97 V hV) (by rw [str_size]; omega) (by decide)
    rw [hB.str] at C1
    have C1' : SetC (strOfNums r0) ⟨#[118, 101, 114, 115, 105, 111, 110]⟩ 97 (strOfNums (orF (setF r0 wVersion okVersion) r0)) (setF r0 wVersion okVersion).isSome := C1
    have l1 := orF_len r0 wVersion okVersion
    unfold declF
    cases hv : setF r0 wVersion okVersion with
    | none =>
      rw [hv] at C1'
      exact decl_no1 s _ _ w hG (Lib.hid C0) (Lib.hid C1')
    | some r1 =>
      rw [hv] at C1' l1
      have hB1 : Bts r1 := l1.2 hB
      have hl1 : r1.length ≤ 1000 := Nat.le_trans l1.1 hl
      have C2 := setc_any (strOfNums r1) ⟨#[101, 110, 99, 111, 100, 105, 110, 103]⟩ 98 (.inr (.inl rfl)) okEncoding (fun V hV => ok98 V hV) (by rw [str_size]; omega) (by decide)
      rw [hB1.str] at C2
      have C2' : SetC (strOfNums r1) ⟨#[101, 110, 99, 111, 100, 105, 110, 103]⟩ 98 (strOfNums (orF (setF r1 wEncoding okEncoding) r1)) (setF r1 wEncoding okEncoding).isSome := C2
      have l2 := orF_len r1 wEncoding okEncoding
      have hB2 := l2.2 hB1
      have hl2 := Nat.le_trans l2.1 hl1
      show Calls _ _ _ _ (BPost (dec3 (orF (setF r1 wEncoding okEncoding) r1)) w)
      generalize orF (setF r1 wEncoding okEncoding) r1 = r2 at *
      have C3 := setc_any (strOfNums r2) ⟨#[115, 116, 97, 110, 100, 97, 108, 111, 110, 101]⟩ 99 (.inr (.inr rfl)) okStandalone (fun V hV => ok99 V hV) (by rw [str_size]; omega) (by decide)
      rw [hB2.str] at C3
      have C3' : SetC (strOfNums r2) ⟨#[115, 116, 97, 110, 100, 97, 108, 111, 110, 101]⟩ 99 (strOfNums (orF (setF r2 wStandalone okStandalone) r2)) (setF r2 wStandalone okStandalone).isSome := C3
      have hB3 := (orF_len r2 wStandalone okStandalone).2 hB2
      have C4 := allc_any (strOfNums (orF (setF r2 wStandalone okStandalone) r2))
      rw [hB3.str] at C4
      exact decl_yes s _ _ _ _ _ _ _ w hG (Lib.hid C0) (Lib.hid C1') (Lib.hid C2') (Lib.hid C3') (Lib.hid C4)
  · have h0' : wXml.isPrefixOf (byts s) = false := Bool.eq_false_iff.2 h0
    rw [h0', Bool.false_and]
    exact decl_no0 s w (Lib.hid fun W => cutpre_no s ⟨#[120, 109, 108]⟩ W h0')
end Go.Proofs.YtmbghdpoeahnaaaGreatDoor

/- The walks of the document's field and declared. -/
set_option linter.unusedSimpArgs false
set_option linter.unusedVariables false
namespace Go.Proofs.YtmbghdpoeahnaaaGreatDoor
open Go.RowKit

theorem dw_tw (p : Int → Bool) : ∀ (l : List Int), l.dropWhile p = l.drop (l.takeWhile p).length
  | [] => rfl
  | a :: l => by
    by_cases h : p a = true
    · rw [List.dropWhile_cons_of_pos h, List.takeWhile_cons_of_pos h, dw_tw p l]; rfl
    · rw [List.dropWhile_cons_of_neg h, List.takeWhile_cons_of_neg h]; rfl
theorem dw_skp (l : List Int) (a : Nat) : (l.drop a).dropWhile blk? = l.drop (skp l a) := by
  rw [dw_tw, List.drop_drop]
  rfl
theorem skp_ge (l : List Int) (a : Nat) : a ≤ skp l a := by unfold skp; omega
/-- A field of a declaration, by places. -/
def fldF (l key : List Int) (ok : List Int → Bool) (f a : Nat) : Option Nat :=
  if f = a then none else if (key ++ [61]).isPrefixOf (l.drop f) = false then none else if l.length ≤ f + key.length + 1 then none else if ¬ quo (l.getD (f + key.length + 1) 0) then none
  else match fnd [l.getD (f + key.length + 1) 0] (l.drop (f + key.length + 1 + 1)) with
    | none => none
    | some n => if ok ((l.drop (f + key.length + 1 + 1)).take n) = true then some (f + key.length + 1 + 1 + n + 1) else none
theorem fld_set (l key : List Int) (ok : List Int → Bool) (a : Nat) (ha : a ≤ l.length) : setF (l.drop a) key ok = (fldF l key ok (skp l a) a).map fun r => l.drop r := by
  have hl := skp_le l a ha
  have hg := skp_ge l a
  unfold setF fldF
  rw [dw_skp, List.length_drop, List.length_drop]
  by_cases h1 : skp l a = a
  · rw [if_pos h1, if_pos (by omega)]; rfl
  rw [if_neg h1, if_neg (by omega)]
  by_cases h2 : (key ++ [61]).isPrefixOf (l.drop (skp l a)) = true
  · rw [if_pos h2, if_neg (by rw [h2]; simp), List.drop_drop]
    by_cases h3 : l.length ≤ skp l a + key.length + 1
    · rw [if_pos h3, List.drop_of_length_le (show l.length ≤ skp l a + (key.length + 1) by omega)]
      rfl
    · rw [if_neg h3, show skp l a + (key.length + 1) = skp l a + key.length + 1 by omega, List.drop_eq_getElem_cons (by omega : skp l a + key.length + 1 < l.length)]
      have hq : l.getD (skp l a + key.length + 1) 0 = l[skp l a + key.length + 1]'(by omega) := by
        rw [List.getD_eq_getElem?_getD, List.getElem?_eq_getElem (by omega), Option.getD_some]
      rw [hq]
      show (if quo (l[skp l a + key.length + 1]'(by omega)) then setVal _ _ ok else none) = _
      by_cases h4 : quo (l[skp l a + key.length + 1]'(by omega))
      · rw [if_pos h4, if_neg (fun g => g h4)]
        unfold setVal
        cases fnd [l[skp l a + key.length + 1]'(by omega)] (l.drop (skp l a + key.length + 1 + 1)) with
        | none => rfl
        | some n =>
          show (if ok _ = true then _ else none) = Option.map _ (if ok _ = true then _ else none)
          by_cases h5 : ok ((l.drop (skp l a + key.length + 1 + 1)).take n) = true
          · rw [if_pos h5, if_pos h5, List.drop_drop]; rfl
          · rw [if_neg h5, if_neg h5]; rfl
      · rw [if_neg h4, if_pos h4]; rfl
  · rw [if_neg h2, if_pos (Bool.eq_false_iff.2 h2)]; rfl
theorem fld_bd (l key : List Int) (ok : List Int → Bool) (f a r : Nat) (hf : a ≤ f) (h : fldF l key ok f a = some r) : a ≤ r ∧ r ≤ l.length := by
  unfold fldF at h
  split at h
  · cases h
  · split at h
    · cases h
    · split at h
      · cases h
      · split at h
        · cases h
        · split at h
          · cases h
          · rename_i n hn
            split at h
            · cases h
              have := (fnd_some hn).1
              rw [List.length_drop, List.length_singleton] at this
              omega
            · cases h
def optI (o : Option Nat) : Int := match o with | some n => (n : Int) | none => -1
def FlPost (o : Option Nat) (w : World) (e : Ending) (w' : World) : Prop := e = .returned (.int .i64 (optI o)) ∧ Below w.heap.size w w'
def SkC (s : ByteArray) (a f : Nat) : Prop := ∀ W, Calls Tryz.prog 27 #[.string s, .int .i64 a] W fun e w' => e = .returned (.int .i64 (f : Int)) ∧ W = w'
def AtC (s : ByteArray) (f : Nat) (x : ByteArray) (b : Bool) : Prop := ∀ W, Calls Tryz.prog 19 #[.string s, .int .i64 f, .string x] W fun e w' => e = .returned (.bool b) ∧ W = w'
def FdC (s : ByteArray) (f : Nat) (x : ByteArray) (r : Int) : Prop := ∀ W, Calls Tryz.prog 15 #[.string s, .int .i64 f, .string x] W fun e w' => e = .returned (.int .i64 r) ∧ W = w'
def SmC (s t : ByteArray) : Prop := ∀ W, Calls Tryz.prog 32 #[.string s] W fun e w' => e = .returned (.string t) ∧ Below W.heap.size W w'
set_option maxHeartbeats 1000000 in
set_option maxRecDepth 100000 in
theorem fld_a (s word x y : ByteArray) (a : Nat) (w : World) (C1 : Hid (SkC s a a)) : Calls Tryz.prog 44 #[.string s, .int .i64 a, .string word, .string x, .string y] w (FlPost none w) := by
  go_enter Tryz.func44, Tryz.ntmps44
  go_wp2_with fail
  refine (C1.out _).mono ?_
  rintro e w1 ⟨rfl, rfl⟩
  go_wp2
  go_ret
  exact ⟨rfl, Below.refl _ _⟩
set_option maxHeartbeats 1000000 in
set_option maxRecDepth 100000 in
theorem fld_b (s word x y : ByteArray) (a f : Nat) (w : World) (hw : word.size ≤ 100) (hne : f ≠ a) (C1 : Hid (SkC s a f)) (C2 : Hid (AtC s f (word ++ ⟨#[61]⟩) false)) : Calls Tryz.prog 44 #[.string s, .int .i64 a, .string word, .string x, .string y] w (FlPost none w) := by
  have t1 : ((f : Int) == (a : Int)) = false := by rw [beq_eq_false_iff_ne]; omega
  have hz : (word ++ (⟨#[61]⟩ : ByteArray)).size ≤ 1000 := by rw [ByteArray.size_append]; show word.size + 1 ≤ _; omega
  clear hne
  go_enter Tryz.func44, Tryz.ntmps44
  go_wp2_with fail
  refine (C1.out _).mono ?_
  rintro e w1 ⟨rfl, rfl⟩
  go_wp2_with fail
  refine (C2.out _).mono ?_
  rintro e w1 ⟨rfl, rfl⟩
  go_wp2
  go_ret
  exact ⟨rfl, Below.refl _ _⟩
set_option maxHeartbeats 1000000 in
set_option maxRecDepth 100000 in
theorem fld_c (s word x y : ByteArray) (a f q : Nat) (w : World) (hs : s.size ≤ 1000) (hf : f ≤ 1000) (hw : word.size ≤ 100) (hne : f ≠ a) (hq : q = f + word.size + 1) (hl : s.size ≤ q) (C1 : Hid (SkC s a f)) (C2 : Hid (AtC s f (word ++ ⟨#[61]⟩) true)) : Calls Tryz.prog 44 #[.string s, .int .i64 a, .string word, .string x, .string y] w (FlPost none w) := by
  have t1 : ((f : Int) == (a : Int)) = false := by rw [beq_eq_false_iff_ne]; omega
  have hz : (word ++ (⟨#[61]⟩ : ByteArray)).size ≤ 1000 := by rw [ByteArray.size_append]; show word.size + 1 ≤ _; omega
  have q1 : IntKind.i64.wrap ((f : Int) + (word.size : Int)) = (f : Int) + (word.size : Int) := IntWalk.i64_in _ (by omega)
  have q2 : IntKind.i64.wrap ((f : Int) + (word.size : Int) + 1) = (q : Int) := by rw [IntWalk.i64_in _ (by omega)]; omega
  have d1 : (s.size : Int) ≤ (q : Int) := by omega
  clear hne hq hl
  go_enter Tryz.func44, Tryz.ntmps44
  go_wp2_with fail
  refine (C1.out _).mono ?_
  rintro e w1 ⟨rfl, rfl⟩
  go_wp2_with fail
  refine (C2.out _).mono ?_
  rintro e w1 ⟨rfl, rfl⟩
  go_wp2
  go_ret
  exact ⟨rfl, Below.refl _ _⟩
set_option maxHeartbeats 1000000 in
set_option maxRecDepth 100000 in
theorem fld_d (s word x y : ByteArray) (a f q : Nat) (w : World) (hs : s.size ≤ 1000) (hf : f ≤ 1000) (hw : word.size ≤ 100) (hne : f ≠ a) (hq : q = f + word.size + 1) (hl : q < s.size) (hc : ¬ quo ((byts s).getD q 0)) (C1 : Hid (SkC s a f)) (C2 : Hid (AtC s f (word ++ ⟨#[61]⟩) true)) : Calls Tryz.prog 44 #[.string s, .int .i64 a, .string word, .string x, .string y] w (FlPost none w) := by
  have t1 : ((f : Int) == (a : Int)) = false := by rw [beq_eq_false_iff_ne]; omega
  have hz : (word ++ (⟨#[61]⟩ : ByteArray)).size ≤ 1000 := by rw [ByteArray.size_append]; show word.size + 1 ≤ _; omega
  have q1 : IntKind.i64.wrap ((f : Int) + (word.size : Int)) = (f : Int) + (word.size : Int) := IntWalk.i64_in _ (by omega)
  have q2 : IntKind.i64.wrap ((f : Int) + (word.size : Int) + 1) = (q : Int) := by rw [IntWalk.i64_in _ (by omega)]; omega
  have d1 : ¬ (s.size : Int) ≤ (q : Int) := by omega
  have d2 : (q : Int) < (s.size : Int) := by omega
  have hb := at_byt s q hl
  have t2 : (((s[q]).toNat : Int) != 34) = true := by rw [hb, bne_iff_ne]; exact fun h => hc (.inl h)
  have t3 : (((s[q]).toNat : Int) != 39) = true := by rw [hb, bne_iff_ne]; exact fun h => hc (.inr h)
  clear hne hq hb hc
  go_enter Tryz.func44, Tryz.ntmps44
  go_wp2_with fail
  refine (C1.out _).mono ?_
  rintro e w1 ⟨rfl, rfl⟩
  go_wp2_with fail
  refine (C2.out _).mono ?_
  rintro e w1 ⟨rfl, rfl⟩
  go_wp2
  go_ret
  exact ⟨rfl, Below.refl _ _⟩
theorem quo_cases (s : ByteArray) (q : Nat) (hl : q < s.size) (hc : quo ((byts s).getD q 0)) : (((s[q]).toNat : Int) != 34) = false ∨ ((((s[q]).toNat : Int) != 34) = true ∧ (((s[q]).toNat : Int) != 39) = false) := by
  rw [at_byt s q hl]
  rcases hc with h | h
  · left; rw [h]; rfl
  · right; rw [h]; exact ⟨rfl, rfl⟩
set_option maxHeartbeats 1000000 in
set_option maxRecDepth 100000 in
theorem fld_e (s word x y : ByteArray) (a f q : Nat) (w : World) (hs : s.size ≤ 1000) (hf : f ≤ 1000) (hw : word.size ≤ 100) (hne : f ≠ a) (hq : q = f + word.size + 1) (hl : q < s.size) (hc : quo ((byts s).getD q 0)) (C1 : Hid (SkC s a f)) (C2 : Hid (AtC s f (word ++ ⟨#[61]⟩) true))
    (C3 : Hid (FdC s (q + 1) (s.extract q (q + 1)) (-1))) : Calls Tryz.prog 44 #[.string s, .int .i64 a, .string word, .string x, .string y] w (FlPost none w) := by
  have t1 : ((f : Int) == (a : Int)) = false := by rw [beq_eq_false_iff_ne]; omega
  have hz : (word ++ (⟨#[61]⟩ : ByteArray)).size ≤ 1000 := by rw [ByteArray.size_append]; show word.size + 1 ≤ _; omega
  have q1 : IntKind.i64.wrap ((f : Int) + (word.size : Int)) = (f : Int) + (word.size : Int) := IntWalk.i64_in _ (by omega)
  have q2 : IntKind.i64.wrap ((f : Int) + (word.size : Int) + 1) = (q : Int) := by rw [IntWalk.i64_in _ (by omega)]; omega
  have q3 : IntKind.i64.wrap ((q : Int) + 1) = ((q + 1 : Nat) : Int) := by rw [IntWalk.i64_in _ (by omega)]; omega
  have d1 : ¬ (s.size : Int) ≤ (q : Int) := by omega
  have d2 : (q : Int) < (s.size : Int) := by omega
  have d3 : (q : Int) ≤ ((q + 1 : Nat) : Int) := by omega
  have d4 : ((q + 1 : Nat) : Int) ≤ (s.size : Int) := by omega
  rcases quo_cases s q hl hc with t2 | ⟨t2, t3⟩
  all_goals
    clear hne hq hc
    go_enter Tryz.func44, Tryz.ntmps44
    go_wp2_with fail
    refine (C1.out _).mono ?_
    rintro e w1 ⟨rfl, rfl⟩
    go_wp2_with fail
    refine (C2.out _).mono ?_
    rintro e w1 ⟨rfl, rfl⟩
    go_wp2_with fail
    refine (C3.out _).mono ?_
    rintro e w1 ⟨rfl, rfl⟩
    go_wp2
    go_ret
    exact ⟨rfl, Below.refl _ _⟩
set_option maxHeartbeats 2000000 in
set_option maxRecDepth 100000 in
theorem fld_f (s word x y : ByteArray) (a f q t : Nat) (ok : Bool) (w : World) (hs : s.size ≤ 1000) (hf : f ≤ 1000) (hw : word.size ≤ 100) (hne : f ≠ a) (hq : q = f + word.size + 1) (hl : q < s.size) (hc : quo ((byts s).getD q 0)) (C1 : Hid (SkC s a f)) (C2 : Hid (AtC s f (word ++ ⟨#[61]⟩) true))
    (C3 : Hid (FdC s (q + 1) (s.extract q (q + 1)) t)) (ht : q + 1 ≤ t) (ht2 : t < s.size) (hn : (word.toList == [101, 110, 99, 111, 100, 105, 110, 103]) = false)
    (ho : (((s.extract (q + 1) t).toList == x.toList) = true ∧ ok = true) ∨ (((s.extract (q + 1) t).toList == x.toList) = false ∧ ((s.extract (q + 1) t).toList == y.toList) = ok)) : Calls Tryz.prog 44 #[.string s, .int .i64 a, .string word, .string x, .string y] w (FlPost (if ok = true then some (t + 1) else none) w) := by
  have t1 : ((f : Int) == (a : Int)) = false := by rw [beq_eq_false_iff_ne]; omega
  have hz : (word ++ (⟨#[61]⟩ : ByteArray)).size ≤ 1000 := by rw [ByteArray.size_append]; show word.size + 1 ≤ _; omega
  have q1 : IntKind.i64.wrap ((f : Int) + (word.size : Int)) = (f : Int) + (word.size : Int) := IntWalk.i64_in _ (by omega)
  have q2 : IntKind.i64.wrap ((f : Int) + (word.size : Int) + 1) = (q : Int) := by rw [IntWalk.i64_in _ (by omega)]; omega
  have q3 : IntKind.i64.wrap ((q : Int) + 1) = ((q + 1 : Nat) : Int) := by rw [IntWalk.i64_in _ (by omega)]; omega
  have q4 : IntKind.i64.wrap ((t : Int) + 1) = ((t + 1 : Nat) : Int) := by rw [IntWalk.i64_in _ (by omega)]; omega
  have d1 : ¬ (s.size : Int) ≤ (q : Int) := by omega
  have d2 : (q : Int) < (s.size : Int) := by omega
  have d3 : (q : Int) ≤ ((q + 1 : Nat) : Int) := by omega
  have d4 : ((q + 1 : Nat) : Int) ≤ (s.size : Int) := by omega
  have d5 : ((q + 1 : Nat) : Int) ≤ (t : Int) := by omega
  have d6 : (t : Int) ≤ (s.size : Int) := by omega
  have d7 : ¬ (t : Int) < 0 := by omega
  rcases quo_cases s q hl hc with t2 | ⟨t2, t3⟩
  all_goals
    rcases ho with ⟨o1, rfl⟩ | ⟨o1, o2⟩
    · clear hne hq hc
      go_enter Tryz.func44, Tryz.ntmps44
      go_wp2_with fail
      refine (C1.out _).mono ?_
      rintro e w1 ⟨rfl, rfl⟩
      go_wp2_with fail
      refine (C2.out _).mono ?_
      rintro e w1 ⟨rfl, rfl⟩
      go_wp2_with fail
      refine (C3.out _).mono ?_
      rintro e w1 ⟨rfl, rfl⟩
      go_wp2
      go_ret
      exact ⟨rfl, Below.refl _ _⟩
    · clear hne hq hc
      cases ok
      all_goals
        go_enter Tryz.func44, Tryz.ntmps44
        go_wp2_with fail
        refine (C1.out _).mono ?_
        rintro e w1 ⟨rfl, rfl⟩
        go_wp2_with fail
        refine (C2.out _).mono ?_
        rintro e w1 ⟨rfl, rfl⟩
        go_wp2_with fail
        refine (C3.out _).mono ?_
        rintro e w1 ⟨rfl, rfl⟩
        go_wp2
        go_ret
        exact ⟨rfl, Below.refl _ _⟩
set_option maxHeartbeats 2000000 in
set_option maxRecDepth 100000 in
theorem fld_g (s word x y v : ByteArray) (a f q t : Nat) (ok : Bool) (w : World) (hs : s.size ≤ 1000) (hf : f ≤ 1000) (hw : word.size ≤ 100) (hne : f ≠ a) (hq : q = f + word.size + 1) (hl : q < s.size) (hc : quo ((byts s).getD q 0)) (C1 : Hid (SkC s a f)) (C2 : Hid (AtC s f (word ++ ⟨#[61]⟩) true))
    (C3 : Hid (FdC s (q + 1) (s.extract q (q + 1)) t)) (ht : q + 1 ≤ t) (ht2 : t < s.size) (hn : (word.toList == [101, 110, 99, 111, 100, 105, 110, 103]) = true) (C4 : Hid (SmC (s.extract (q + 1) t) v))
    (ho : ((v.toList == x.toList) = true ∧ ok = true) ∨ ((v.toList == x.toList) = false ∧ (v.toList == y.toList) = ok)) : Calls Tryz.prog 44 #[.string s, .int .i64 a, .string word, .string x, .string y] w (FlPost (if ok = true then some (t + 1) else none) w) := by
  have t1 : ((f : Int) == (a : Int)) = false := by rw [beq_eq_false_iff_ne]; omega
  have hz : (word ++ (⟨#[61]⟩ : ByteArray)).size ≤ 1000 := by rw [ByteArray.size_append]; show word.size + 1 ≤ _; omega
  have q1 : IntKind.i64.wrap ((f : Int) + (word.size : Int)) = (f : Int) + (word.size : Int) := IntWalk.i64_in _ (by omega)
  have q2 : IntKind.i64.wrap ((f : Int) + (word.size : Int) + 1) = (q : Int) := by rw [IntWalk.i64_in _ (by omega)]; omega
  have q3 : IntKind.i64.wrap ((q : Int) + 1) = ((q + 1 : Nat) : Int) := by rw [IntWalk.i64_in _ (by omega)]; omega
  have q4 : IntKind.i64.wrap ((t : Int) + 1) = ((t + 1 : Nat) : Int) := by rw [IntWalk.i64_in _ (by omega)]; omega
  have d1 : ¬ (s.size : Int) ≤ (q : Int) := by omega
  have d2 : (q : Int) < (s.size : Int) := by omega
  have d3 : (q : Int) ≤ ((q + 1 : Nat) : Int) := by omega
  have d4 : ((q + 1 : Nat) : Int) ≤ (s.size : Int) := by omega
  have d5 : ((q + 1 : Nat) : Int) ≤ (t : Int) := by omega
  have d6 : (t : Int) ≤ (s.size : Int) := by omega
  have d7 : ¬ (t : Int) < 0 := by omega
  rcases quo_cases s q hl hc with t2 | ⟨t2, t3⟩
  all_goals
    rcases ho with ⟨o1, rfl⟩ | ⟨o1, o2⟩
    · clear hne hq hc
      go_enter Tryz.func44, Tryz.ntmps44
      go_wp2_with fail
      refine (C1.out _).mono ?_
      rintro e w1 ⟨rfl, rfl⟩
      go_wp2_with fail
      refine (C2.out _).mono ?_
      rintro e w1 ⟨rfl, rfl⟩
      go_wp2_with fail
      refine (C3.out _).mono ?_
      rintro e w1 ⟨rfl, rfl⟩
      go_wp2_with fail
      refine (C4.out _).mono ?_
      rintro e w4 ⟨rfl, hb4⟩
      go_wp2
      go_ret
      exact ⟨rfl, hb4⟩
    · clear hne hq hc
      cases ok
      all_goals
        go_enter Tryz.func44, Tryz.ntmps44
        go_wp2_with fail
        refine (C1.out _).mono ?_
        rintro e w1 ⟨rfl, rfl⟩
        go_wp2_with fail
        refine (C2.out _).mono ?_
        rintro e w1 ⟨rfl, rfl⟩
        go_wp2_with fail
        refine (C3.out _).mono ?_
        rintro e w1 ⟨rfl, rfl⟩
        go_wp2_with fail
        refine (C4.out _).mono ?_
        rintro e w4 ⟨rfl, hb4⟩
        go_wp2
        go_ret
        exact ⟨rfl, hb4⟩
end Go.Proofs.YtmbghdpoeahnaaaGreatDoor
