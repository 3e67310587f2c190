/-
  Merged by program out of the texts KDecl2, KMath2, Inst3 of one seat.
-/
import Derived.Test.YtmbghdpoeahnaaaGreatDoorG21
import Derived.Test.YtmbghdpoeahnaaaGreatDoorG17

/- The walk of the document's declared, over its field. -/
set_option linter.unusedSimpArgs false
set_option linter.unusedVariables false
namespace Go.Proofs.YtmbghdpoeahnaaaGreatDoor
open Go.RowKit

def enF (en : Bool) (l : List Int) : List Int := if en = true then smallF l else l
theorem ext_mid (s : ByteArray) (i n : Nat) : byts (s.extract i (i + n)) = ((byts s).drop i).take n := by
  rw [byts_extract, List.drop_take, show i + n - i = n by omega]
theorem two_ok (v x y : ByteArray) (ok : Bool) (h : ok = decide (byts v = byts x ∨ byts v = byts y)) : ((v.toList == x.toList) = true ∧ ok = true) ∨ ((v.toList == x.toList) = false ∧ (v.toList == y.toList) = ok) := by
  rw [ba_eq, ba_eq, h]
  by_cases g : byts v = byts x
  · exact .inl ⟨decide_eq_true g, decide_eq_true (.inl g)⟩
  · refine .inr ⟨decide_eq_false g, ?_⟩
    rw [Bool.eq_iff_iff, decide_eq_true_eq, decide_eq_true_eq]
    exact ⟨.inr, fun h => h.elim (fun k => absurd k g) id⟩
theorem small_bts {l : List Int} (h : Bts l) : Bts (smallF l) := fun x hx => by
  obtain ⟨y, hy, rfl⟩ := List.mem_map.1 hx
  have := h y hy
  unfold small1
  split <;> omega
theorem rfield_any (s word x y : ByteArray) (a : Nat) (okp : List Int → Bool) (en : Bool) (w : World) (hs : s.size ≤ 1000) (ha : a ≤ s.size) (hw : word.size ≤ 100) (hn : (word.toList == [101, 110, 99, 111, 100, 105, 110, 103]) = en)
    (hok : ∀ l, okp l = decide (enF en l = byts x ∨ enF en l = byts y)) : Calls Tryz.prog 44 #[.string s, .int .i64 a, .string word, .string x, .string y] w (FlPost (fldF (byts s) (byts word) okp (skp (byts s) a) a) w) := by
  have hfl := skp_le (byts s) a (by rw [byts_len]; exact ha)
  rw [byts_len] at hfl
  have C1 : SkC s a (skp (byts s) a) := fun W => rskip_any s a W (by omega) ha
  generalize hf : skp (byts s) a = f at *
  unfold fldF
  by_cases h1 : f = a
  · rw [if_pos h1]
    rw [h1] at C1
    exact fld_a s word x y a w (Lib.hid C1)
  rw [if_neg h1]
  have hK : byts (word ++ ⟨#[61]⟩) = byts word ++ [61] := by rw [byts_app]; rfl
  have hKs : (word ++ (⟨#[61]⟩ : ByteArray)).size ≤ 1000000 := by rw [ByteArray.size_append]; show word.size + 1 ≤ _; omega
  have C2 : AtC s f (word ++ ⟨#[61]⟩) ((byts word ++ [61]).isPrefixOf ((byts s).drop f)) := fun W => rat_any s _ f W (by omega) hKs hfl _ (by rw [hK])
  rw [byts_len word]
  cases h2 : (byts word ++ [61]).isPrefixOf ((byts s).drop f)
  · rw [h2] at C2
    rw [if_pos rfl]
    exact fld_b s word x y a f w hw h1 (Lib.hid C1) (Lib.hid C2)
  rw [if_neg (by simp)]
  rw [h2] at C2
  by_cases h3 : s.size ≤ f + word.size + 1
  · rw [if_pos (by rw [byts_len]; exact h3)]
    exact fld_c s word x y a f _ w hs (by omega) hw h1 rfl h3 (Lib.hid C1) (Lib.hid C2)
  rw [if_neg (by rw [byts_len]; exact h3)]
  generalize hq : f + word.size + 1 = q at *
  by_cases h4 : quo ((byts s).getD q 0)
  · rw [if_neg (fun g => g h4)]
    have hx : byts (s.extract q (q + 1)) = [(byts s).getD q 0] := by
      rw [ext_mid, List.drop_eq_getElem_cons (by rw [byts_len]; omega), List.getD_eq_getElem?_getD, List.getElem?_eq_getElem (by rw [byts_len]; omega)]
      rfl
    have C3 : FdC s (q + 1) (s.extract q (q + 1)) (findI [(byts s).getD q 0] (byts s) (q + 1)) := fun W => by
      have := rfind_any s (s.extract q (q + 1)) (q + 1) W (by omega) (by rw [← byts_len, hx]; simp) (by omega)
      rw [hx] at this
      exact this
    unfold findI at C3
    cases hfd : fnd [(byts s).getD q 0] ((byts s).drop (q + 1)) with
    | none =>
      rw [hfd] at C3
      exact fld_e s word x y a f q w hs (by omega) hw h1 hq.symm (by omega) h4 (Lib.hid C1) (Lib.hid C2) (Lib.hid C3)
    | some n =>
      rw [hfd] at C3
      have hb := (fnd_some hfd).1
      rw [List.length_drop, byts_len, List.length_singleton] at hb
      have hV := ext_mid s (q + 1) n
      have e : q + 1 + n + 1 = (q + 1 + n) + 1 := rfl
      show Calls _ _ _ _ (FlPost (if okp (((byts s).drop (q + 1)).take n) = true then some (q + 1 + n + 1) else none) w)
      cases en with
      | false =>
        refine fld_f s word x y a f q (q + 1 + n) _ w hs (by omega) hw h1 hq.symm (by omega) h4 (Lib.hid C1) (Lib.hid C2) (Lib.hid C3) (by omega) (by omega) hn ?_
        refine two_ok _ x y _ ?_
        rw [hV, hok]
        rfl
      | true =>
        have hVb : Bts (((byts s).drop (q + 1)).take n) := ((bts_byts s).drop _).take _
        have C4 : SmC (s.extract (q + 1) (q + 1 + n)) (strOfNums (smallF (((byts s).drop (q + 1)).take n))) := fun W => by
          have := rsmall_any (s.extract (q + 1) (q + 1 + n)) W (by rw [ByteArray.size_extract]; omega)
          rw [hV] at this
          exact this
        refine fld_g s word x y _ a f q (q + 1 + n) _ w hs (by omega) hw h1 hq.symm (by omega) h4 (Lib.hid C1) (Lib.hid C2) (Lib.hid C3) (by omega) (by omega) hn (Lib.hid C4) ?_
        refine two_ok _ x y _ ?_
        rw [(small_bts hVb).str, hok]
        rfl
  · rw [if_pos h4]
    exact fld_d s word x y a f q w hs (by omega) hw h1 hq.symm (by omega) h4 (Lib.hid C1) (Lib.hid C2)

def FlC (s : ByteArray) (a : Nat) (word x y : ByteArray) (r : Int) : Prop := ∀ W, Calls Tryz.prog 44 #[.string s, .int .i64 a, .string word, .string x, .string y] W fun e w' => e = .returned (.int .i64 r) ∧ Below W.heap.size W w'
set_option maxHeartbeats 1000000 in
set_option maxRecDepth 100000 in
theorem rdecl_no (s : ByteArray) (w : World) (C1 : Hid (FlC s 0 ⟨#[118, 101, 114, 115, 105, 111, 110]⟩ ⟨#[49, 46, 48]⟩ ⟨#[49, 46, 48]⟩ (-1))) : Calls Tryz.prog 33 #[.string s] w (BPost false w) := by
  go_enter Tryz.func33, Tryz.ntmps33
  go_wp2_with fail
  refine (C1.out _).mono ?_
  rintro e w1 ⟨rfl, hb1⟩
  go_wp2
  go_ret
  exact ⟨rfl, hb1⟩
set_option maxHeartbeats 2000000 in
set_option maxRecDepth 100000 in
theorem rdecl_yes (s : ByteArray) (w : World) (a1 a2 a3 f : Nat) (x2 x3 : Int) (hs : s.size ≤ 1000) (C1 : Hid (FlC s 0 ⟨#[118, 101, 114, 115, 105, 111, 110]⟩ ⟨#[49, 46, 48]⟩ ⟨#[49, 46, 48]⟩ a1))
    (C2 : Hid (FlC s a1 ⟨#[101, 110, 99, 111, 100, 105, 110, 103]⟩ ⟨#[117, 116, 102, 45, 56]⟩ ⟨#[117, 116, 102, 45, 56]⟩ x2)) (C3 : Hid (FlC s a2 ⟨#[115, 116, 97, 110, 100, 97, 108, 111, 110, 101]⟩ ⟨#[121, 101, 115]⟩ ⟨#[110, 111]⟩ x3))
    (C4 : Hid (SkC s a3 f)) (h2 : (x2 = -1 ∧ a2 = a1) ∨ x2 = a2) (h3 : (x3 = -1 ∧ a3 = a2) ∨ x3 = a3) (ok : Bool) (hok : ((f : Int) == (s.size : Int)) = ok) : Calls Tryz.prog 33 #[.string s] w (BPost ok w) := by
  have d1 : ¬ (a1 : Int) < 0 := by omega
  have d2 : (0 : Int) ≤ (a2 : Int) := by omega
  have d3 : (0 : Int) ≤ (a3 : Int) := by omega
  rcases h2 with ⟨rfl, rfl⟩ | rfl
  all_goals
    rcases h3 with ⟨rfl, rfl⟩ | rfl
    all_goals
      go_enter Tryz.func33, Tryz.ntmps33
      go_wp2_with fail
      refine (C1.out _).mono ?_
      rintro e w1 ⟨rfl, hb1⟩
      go_wp2_with fail
      refine (C2.out _).mono ?_
      rintro e w2 ⟨rfl, hb2⟩
      have HB2 := Lib.hid (hb1.trans (hb2.mono hb1.size))
      clear hb1 hb2
      go_wp2_with fail
      refine (C3.out _).mono ?_
      rintro e w3 ⟨rfl, hb3⟩
      have HB3 := Lib.hid (HB2.out.trans (hb3.mono HB2.out.size))
      clear hb3
      go_wp2_with fail
      refine (C4.out _).mono ?_
      rintro e w4 ⟨rfl, rfl⟩
      go_wp2
      go_ret
      exact ⟨rfl, HB3.out⟩
theorem flc_any (s word x y : ByteArray) (a : Nat) (okp : List Int → Bool) (en : Bool) (hs : s.size ≤ 1000) (ha : a ≤ s.size) (hw : word.size ≤ 100) (hn : (word.toList == [101, 110, 99, 111, 100, 105, 110, 103]) = en)
    (hok : ∀ l, okp l = decide (enF en l = byts x ∨ enF en l = byts y)) : FlC s a word x y (optI (fldF (byts s) (byts word) okp (skp (byts s) a) a)) := fun W => rfield_any s word x y a okp en W hs ha hw hn hok
theorem fld_or (l key : List Int) (okp : List Int → Bool) (a : Nat) (ha : a ≤ l.length) : ∃ a2, a2 ≤ l.length ∧ ((optI (fldF l key okp (skp l a) a) = -1 ∧ a2 = a) ∨ optI (fldF l key okp (skp l a) a) = a2) ∧ orF (setF (l.drop a) key okp) (l.drop a) = l.drop a2 := by
  have hS := fld_set l key okp a ha
  cases hF : fldF l key okp (skp l a) a with
  | none => rw [hF] at hS; exact ⟨a, ha, .inl ⟨rfl, rfl⟩, by rw [hS]; rfl⟩
  | some r =>
    rw [hF] at hS
    exact ⟨r, (fld_bd l key okp _ a r (skp_ge l a) hF).2, .inr rfl, by rw [hS]; rfl⟩
theorem skp_all2 (l : List Int) (a : Nat) (ha : a ≤ l.length) : (skp l a = l.length) ↔ (l.drop a).all blk? = true := by
  have := skp_all (l.drop a)
  rw [← this]
  unfold skp
  rw [List.drop_zero, List.length_drop]
  omega
theorem rdecl_any (s : ByteArray) (w : World) (hs : s.size ≤ 1000) : Calls Tryz.prog 33 #[.string s] w (BPost (declF (byts s)) w) := by
  have hl := byts_len s
  have C1 := flc_any s ⟨#[118, 101, 114, 115, 105, 111, 110]⟩ ⟨#[49, 46, 48]⟩ ⟨#[49, 46, 48]⟩ 0 okVersion false hs (Nat.zero_le _) (by decide) (by rw [Lib.toList_data]; decide) (fun l => by
    unfold okVersion enF
    rw [Bool.eq_iff_iff, decide_eq_true_eq, decide_eq_true_eq]
    simp
    rfl)
  have hS := fld_set (byts s) wVersion okVersion 0 (Nat.zero_le _)
  rw [List.drop_zero] at hS
  have C1' : FlC s 0 ⟨#[118, 101, 114, 115, 105, 111, 110]⟩ ⟨#[49, 46, 48]⟩ ⟨#[49, 46, 48]⟩ (optI (fldF (byts s) wVersion okVersion (skp (byts s) 0) 0)) := C1
  unfold declF
  rw [hS]
  cases hF : fldF (byts s) wVersion okVersion (skp (byts s) 0) 0 with
  | none =>
    rw [hF] at C1'
    exact rdecl_no s w (Lib.hid C1')
  | some a1 =>
    rw [hF] at C1'
    have hb1 := (fld_bd (byts s) _ _ _ _ _ (skp_ge _ _) hF).2
    obtain ⟨a2, hb2, h2, e2⟩ := fld_or (byts s) wEncoding okEncoding a1 hb1
    obtain ⟨a3, hb3, h3, e3⟩ := fld_or (byts s) wStandalone okStandalone a2 hb2
    have C2 : FlC s a1 ⟨#[101, 110, 99, 111, 100, 105, 110, 103]⟩ ⟨#[117, 116, 102, 45, 56]⟩ ⟨#[117, 116, 102, 45, 56]⟩ (optI (fldF (byts s) wEncoding okEncoding (skp (byts s) a1) a1)) :=
      flc_any s ⟨#[101, 110, 99, 111, 100, 105, 110, 103]⟩ ⟨#[117, 116, 102, 45, 56]⟩ ⟨#[117, 116, 102, 45, 56]⟩ a1 okEncoding true hs (by omega) (by decide) (by rw [Lib.toList_data]; decide) (fun l => by
        unfold okEncoding enF
        rw [Bool.eq_iff_iff, decide_eq_true_eq, decide_eq_true_eq]
        simp
        rfl)
    have C3 : FlC s a2 ⟨#[115, 116, 97, 110, 100, 97, 108, 111, 110, 101]⟩ ⟨#[121, 101, 115]⟩ ⟨#[110, 111]⟩ (optI (fldF (byts s) wStandalone okStandalone (skp (byts s) a2) a2)) :=
      flc_any s ⟨#[115, 116, 97, 110, 100, 97, 108, 111, 110, 101]⟩ ⟨#[121, 101, 115]⟩ ⟨#[110, 111]⟩ a2 okStandalone false hs (by omega) (by decide) (by rw [Lib.toList_data]; decide) (fun l => by
        unfold okStandalone enF
        rw [Bool.eq_iff_iff, decide_eq_true_eq, decide_eq_true_eq]
        simp
        rfl)
    have C4 : SkC s a3 (skp (byts s) a3) := fun W => rskip_any s a3 W (by omega) (by omega)
    show Calls _ _ _ _ (BPost (dec3 (orF (setF ((byts s).drop a1) wEncoding okEncoding) ((byts s).drop a1))) w)
    rw [e2]
    unfold dec3
    rw [e3]
    refine rdecl_yes s w a1 a2 a3 _ _ _ hs (Lib.hid C1') (Lib.hid C2) (Lib.hid C3) (Lib.hid C4) h2 h3 _ ?_
    rw [Bool.eq_iff_iff, beq_iff_eq, ← skp_all2 (byts s) a3 hb3, hl]
    omega
end Go.Proofs.YtmbghdpoeahnaaaGreatDoor

/- Plain mathematics: the document's way to tell an instruction and a start tag is the code's; how many tokens there are. -/
set_option linter.unusedSimpArgs false
set_option linter.unusedVariables false
namespace Go.Proofs.YtmbghdpoeahnaaaGreatDoor

theorem not_true {b : Bool} (h : ¬ b = true) : b = false := by cases b <;> simp_all

theorem St_all : ∀ (n : Nat) (A : List Nat), A.length ≤ n → (∀ x ∈ Nz.Rn A, Nz.Ok x) → Nz.St A = A.length
  | n, A, hn, hA => by
    by_cases h : A = []
    · subst h; rfl
    · have hl : 1 ≤ A.length := List.length_pos_iff.2 h
      have hw := Nz.dN_width A h
      match n with
      | 0 => omega
      | n + 1 =>
        have hR := Nz.Rn_cons A h
        rw [Nz.St_cons A h, if_pos (hA _ (by rw [hR]; simp)), St_all n (A.drop (Nz.dN A).2) (by simp; omega) (fun x hx => hA x (by rw [hR]; simp [hx]))]
        simp
        omega
theorem pl_okk {L : List Nat} (h : Nz.pl L = true) : ∀ x ∈ Nz.Rn L, Nz.Ok x := fun x hx => .inr (Nz.pl_ok h x hx)
theorem blank_nok {c : Nat} (h : Blank (c : Int)) : ¬ Nz.Ok (c : Int) := by
  rintro (h2 | h2)
  · unfold Blank at h; omega
  · exact blank_part h h2
theorem blank_lt {c : Nat} (h : Blank (c : Int)) : c < 128 := by unfold Blank at h; omega
/-- No byte of a plain name is a blank. -/
theorem pl_noblank {L : List Nat} (h : Nz.pl L = true) : ∀ c ∈ L, ¬ Blank (c : Int) := fun c hc hb => by
  obtain ⟨A, B, rfl⟩ := List.append_of_mem hc
  have h1 := Nz.pl_ok h
  rw [Nz.Rn_asc _ A B c (blank_lt hb) (Nat.le_refl _)] at h1
  exact blank_part hb (h1 _ (by simp))
theorem nats_take (l : List Int) (n : Nat) : nats (l.take n) = (nats l).take n := by unfold nats; rw [List.map_take]
theorem nats_len (l : List Int) : (nats l).length = l.length := by unfold nats; simp
theorem tw_cases (p : Int → Bool) : ∀ (l : List Int), (l.takeWhile p = l ∧ l.all p = true) ∨ ∃ k, k < l.length ∧ l.takeWhile p = l.take k ∧ p (l.getD k 0) = false
  | [] => .inl ⟨rfl, rfl⟩
  | a :: l => by
    by_cases h : p a = true
    · rcases tw_cases p l with ⟨h1, h2⟩ | ⟨k, h1, h2, h3⟩
      · exact .inl ⟨by rw [List.takeWhile_cons_of_pos h, h1], by simp [h, h2]⟩
      · exact .inr ⟨k + 1, by simpa using h1, by rw [List.takeWhile_cons_of_pos h, h2]; rfl, by simpa using h3⟩
    · exact .inr ⟨0, by simp, by rw [List.takeWhile_cons_of_neg h]; rfl, by simpa using h⟩
theorem tw_is (p : Int → Bool) : ∀ (l : List Int) (k : Nat), (∀ x ∈ l.take k, p x = true) → (k < l.length → p (l.getD k 0) = false) → l.takeWhile p = l.take k
  | [], k, _, _ => by simp
  | a :: l, 0, _, h2 => by
    have := h2 (by simp)
    rw [List.takeWhile_cons_of_neg (by simpa using this)]
    rfl
  | a :: l, k + 1, h1, h2 => by
    rw [List.takeWhile_cons_of_pos (h1 a (by simp)), tw_is p l k (fun x hx => h1 x (by simp [hx])) (fun h => by simpa using h2 (by simpa using h))]
    rfl
/-- How long the document's stretch is. -/
def stL (l : List Int) : Nat := Nz.St (nats l)
theorem stL_le (l : List Int) : stL l ≤ l.length := by
  have := Nz.St_le _ (nats l) (Nat.le_refl _)
  rw [nats_len] at this
  exact this
theorem nats_get (l : List Int) (k : Nat) : (nats l).getD k 0 = (l.getD k 0).toNat := by
  unfold nats
  rw [List.getD_eq_getElem?_getD, List.getD_eq_getElem?_getD, List.getElem?_map]
  cases l[k]? <;> simp
theorem blk_nat {c : Int} (h : blk? c = true) : Blank ((c.toNat : Nat) : Int) := by
  have h1 : Blank c := of_decide_eq_true h
  unfold Blank at *
  omega
/-- Where the code's target is a plain name, the document's stretch is just it. -/
theorem tgt_st (l : List Int) (h : plB (tgt l) = true) : tgt l = l.take (stL l) ∧ (stL l < l.length → blk? (l.getD (stL l) 0) = true) := by
  rcases tw_cases (fun c => !blk? c) l with ⟨h1, h2⟩ | ⟨k, h1, h2, h3⟩
  · have e : tgt l = l := h1
    rw [e] at h
    have : stL l = l.length := by
      unfold stL
      rw [St_all _ (nats l) (Nat.le_refl _) (pl_okk h), nats_len]
    rw [this, e, List.take_length]
    exact ⟨rfl, fun h => by omega⟩
  · have e : tgt l = l.take k := h2
    have hb : blk? (l.getD k 0) = true := by simpa using h3
    have hbn := blk_nat hb
    have hk : stL l = k := by
      unfold stL
      have hs : nats l = (nats l).take k ++ (l.getD k 0).toNat :: (nats l).drop (k + 1) := by
        conv => lhs; rw [← List.take_append_drop k (nats l)]
        congr 1
        rw [← nats_get, List.getD_eq_getElem?_getD, List.getElem?_eq_getElem (by rw [nats_len]; exact h1), Option.getD_some, ← List.drop_eq_getElem_cons]
      rw [e] at h
      unfold plB at h
      rw [nats_take] at h
      have := Nz.St_full _ ((nats l).take k) ((nats l).drop (k + 1)) (l.getD k 0).toNat (blank_lt hbn) (blank_nok hbn) (Nat.le_refl _) (pl_okk h)
      rw [← hs, List.length_take, nats_len] at this
      omega
    rw [hk]
    exact ⟨e, fun _ => hb⟩
/-- And where the document's stretch is a plain name, with a blank behind it or nothing, it is the code's target. -/
theorem st_tgt (l : List Int) (hl : ∀ x ∈ l, 0 ≤ x) (h : plB (l.take (stL l)) = true) (h2 : stL l < l.length → blk? (l.getD (stL l) 0) = true) : tgt l = l.take (stL l) := by
  refine tw_is _ l (stL l) (fun x hx => ?_) (fun hk => by show (!blk? _) = false; rw [h2 hk]; rfl)
  have hx0 := hl x (List.mem_of_mem_take hx)
  have := pl_noblank h x.toNat (List.mem_map.2 ⟨x, hx, rfl⟩)
  have e : ((x.toNat : Nat) : Int) = x := by omega
  rw [e] at this
  simp only [Bool.not_eq_true', blk?]
  exact decide_eq_false this
theorem smallF_len (l : List Int) : (smallF l).length = l.length := by unfold smallF; simp
def instD (z : Bool) (l : List Int) : Tk × Int :=
  if plB (l.take (stL l)) = false ∨ (stL l < l.length ∧ blk? (l.getD (stL l) 0) = false) then (T0, 4)
  else if smallF (l.take (stL l)) = wXml ∧ (z = false ∨ l.take (stL l) ≠ wXml ∨ declF (l.drop (stL l)) = false) then (T0, 12) else (⟨5, l, false, false⟩, 0)
theorem inst_same (z : Bool) (l : List Int) (hl : ∀ x ∈ l, 0 ≤ x) : instD z l = instR z l := by
  unfold instD instR
  by_cases h : plB (tgt l) = true
  · obtain ⟨h1, h2⟩ := tgt_st l h
    have h3 : ¬ (plB (l.take (stL l)) = false ∨ (stL l < l.length ∧ blk? (l.getD (stL l) 0) = false)) := by
      rintro (h3 | ⟨h3, h4⟩)
      · rw [← h1, h] at h3; cases h3
      · rw [h2 h3] at h4; cases h4
    rw [if_neg h3, if_neg (show ¬ plB (tgt l) = false by rw [h]; simp), ← h1]
    by_cases h4 : smallF (tgt l) = wXml
    · have h5 : stL l = 3 := by
        have e := congrArg List.length h4
        rw [smallF_len, h1, List.length_take] at e
        have := stL_le l
        have e2 : wXml.length = 3 := rfl
        omega
      have h6 : tgt l = wXml ↔ wXml.isPrefixOf l = true := by
        rw [h1, h5, List.isPrefixOf_iff_prefix, List.prefix_iff_eq_take]
        exact eq_comm
      have h7 : (z = false ∨ tgt l ≠ wXml ∨ declF (l.drop (stL l)) = false) ↔ (z = false ∨ declW l = false) := by
        rw [h5]
        unfold declW
        by_cases g : tgt l = wXml
        · rw [h6.1 g]
          simp [g]
        · rw [not_true (fun g2 => g (h6.2 g2))]
          simp [g]
      by_cases h8 : z = false ∨ declW l = false
      · rw [if_pos ⟨h4, h7.2 h8⟩, if_pos ⟨h4, h8⟩]
      · rw [if_neg (fun g => h8 (h7.1 g.2)), if_neg (fun g => h8 g.2)]
    · rw [if_neg (fun g => h4 g.1), if_neg (fun g => h4 g.1)]
  · have h0 := not_true h
    rw [if_pos h0, if_pos]
    by_cases g : plB (l.take (stL l)) = true
    · right
      by_cases g2 : stL l < l.length
      · refine ⟨g2, not_true fun g3 => h ?_⟩
        rw [st_tgt l hl g (fun _ => g3)]
        exact g
      · exfalso
        refine h ?_
        rw [st_tgt l hl g (fun g3 => absurd g3 g2)]
        exact g
    · exact .inl (not_true g)
/-- The start tag, by the document. -/
def startD (l : List Int) : Tk × Int :=
  if l.getLast? = some 47 then (if (60 : Int) ∈ l.dropLast then (T0, 6) else (⟨1, l.dropLast, true, false⟩, 0)) else (if (60 : Int) ∈ l then (T0, 6) else (⟨1, l, false, false⟩, 0))
theorem start_same (l : List Int) : startD l = startR l := by
  unfold startD startR
  by_cases h : l.getLast? = some 47
  · have hm : (60 : Int) ∈ l.dropLast ↔ (60 : Int) ∈ l := by
      obtain ⟨y, hy⟩ := List.getLast?_eq_some_iff.1 h
      rw [hy, List.dropLast_concat]
      simp
    rw [if_pos h]
    by_cases h2 : (60 : Int) ∈ l
    · rw [if_pos (hm.2 h2), if_pos h2]
    · rw [if_neg (fun g => h2 (hm.1 g)), if_neg h2, if_pos h]
  · rw [if_neg h]
    by_cases h2 : (60 : Int) ∈ l
    · rw [if_pos h2, if_pos h2]
    · rw [if_neg h2, if_neg h2, if_neg h]

theorem allAtT_len : ∀ (n a : Nat) (l : List Int), l.length - a ≤ n → a ≤ l.length → (allAtT l a).1.length ≤ l.length + 1 - a ∧ (allAtT l a).2.1 ≤ l.length ∧ a ≤ (allAtT l a).2.1
  | n, a, l, hn, ha => by
    by_cases he : (nx l a).2.2 = 0
    · by_cases h2 : a = l.length
      · subst h2
        rw [at_last]
        simp
      · have hlt : a < l.length := by omega
        have hf := (nx_fit l a hlt).size he
        rw [List.length_drop] at hf
        rw [at_ok l a hlt he]
        match n with
        | 0 => omega
        | n + 1 =>
          have := allAtT_len n (a + (nx l a).2.1) l (by omega) (by omega)
          simp only [List.length_cons]
          omega
    · rw [at_err l a ha he]
      simp
      omega
end Go.Proofs.YtmbghdpoeahnaaaGreatDoor

/- The walk of scan.instruction. -/
set_option linter.unusedSimpArgs false
set_option linter.unusedVariables false
namespace Go.Proofs.YtmbghdpoeahnaaaGreatDoor
open Go.RowKit

def IdxC (s : ByteArray) (x : Int) : Prop := ∀ W, Calls Tryz.prog 74 #[.string s, .func (.func 54) #[] #[]] W fun e w' => e = .returned (.int .i64 x) ∧ Below W.heap.size W w'
def PlC (t : ByteArray) (b : Bool) : Prop := ∀ W, Calls Tryz.prog 75 #[.string t] W fun e w' => e = .returned (.bool b) ∧ Below W.heap.size W w'
def FoC (t : ByteArray) (b : Bool) : Prop := ∀ W, Gl W → Calls Tryz.prog 76 #[.string t, .string ⟨#[120, 109, 108]⟩] W fun e w' => e = .returned (.bool b) ∧ Below W.heap.size W w'
def DeC (s : ByteArray) (b : Bool) : Prop := ∀ W, Gl W → Calls Tryz.prog 77 #[.string s] W (BPost b W)
def Tgt (s t : ByteArray) (x : Int) : Prop := (x = -1 ∧ t = s) ∨ ∃ k : Nat, x = k ∧ k < s.size ∧ t = s.extract 0 k

theorem inst_end {w w1 w2 : World} (hb1 : Below (w.alloc (.cells #[.int .i64 0, .string ⟨#[]⟩, .bool false, .bool false] 33)).heap.size (w.alloc (.cells #[.int .i64 0, .string ⟨#[]⟩, .bool false, .bool false] 33)) w1) (hb2 : Below w1.heap.size w1 w2) :
    w.heap.size < w1.heap.size ∧ w.heap.size < w2.heap.size ∧ Below w.heap.size w w2 ∧ Res4 w2 w.heap.size := by
  have hz1 : w.heap.size < w1.heap.size := by have := hb1.size; simp at this; omega
  have hb := ((Below.refl w.heap.size w).alloc (Nat.le_refl _) (.cells #[.int .i64 0, .string ⟨#[]⟩, .bool false, .bool false] 33)).trans (hb1.mono (by simp))
  exact ⟨hz1, Nat.lt_of_lt_of_le hz1 hb2.size, hb.trans (hb2.mono hb.size), ((res_new w).keep hb1 (by simp)).keep hb2 hz1⟩
theorem inst_more {w w2 w3 : World} (h : w.heap.size < w2.heap.size ∧ Below w.heap.size w w2 ∧ Res4 w2 w.heap.size) (hb3 : Below w2.heap.size w2 w3) : w.heap.size < w3.heap.size ∧ Below w.heap.size w w3 ∧ Res4 w3 w.heap.size :=
  ⟨Nat.lt_of_lt_of_le h.1 hb3.size, h.2.1.trans (hb3.mono h.2.1.size), h.2.2.keep hb3 h.1⟩

set_option maxHeartbeats 2000000 in
set_option maxRecDepth 100000 in
theorem inst_no (s t : ByteArray) (x at_ : Int) (w : World) (hs : s.size ≤ 1000) (ht : Tgt s t x) (C1 : Hid (IdxC s x)) (C2 : Hid (PlC t false)) : Calls Tryz.prog 59 #[.string s, .int .i64 at_] w (RdrPost (T0, 4) w) := by
  rcases ht with ⟨rfl, rfl⟩ | ⟨k, rfl, hk, rfl⟩
  all_goals
    go_enter Tryz.func59, Tryz.ntmps59
    go_wp2_with fail
    refine (C1.out _).mono ?_
    rintro e w1 ⟨rfl, hb1⟩
    go_wp2_with fail
    refine (C2.out _).mono ?_
    rintro e w2 ⟨rfl, hb2⟩
    obtain ⟨hz1, hz2, hb, ⟨c0, c1, c2, c3, f0, f1, f2, f3⟩⟩ := inst_end hb1 hb2
    have HB := Lib.hid hb
    clear hb1 hb2 hb
    go_wp2_with fail
    exact bodyPost_ret (v := .tuple #[tkV T0, .int .i64 4]) (by rw [tk0]; simp [results, Tryz.results59, go_sem, c0, c1, c2, c3, hz2]) rfl ⟨rfl, below_set4 HB.out (Nat.le_refl _) _ _ _ _⟩
set_option maxHeartbeats 2000000 in
set_option maxRecDepth 100000 in
theorem inst_plain (s t : ByteArray) (x at_ : Int) (w : World) (hG : Gl w) (hs : s.size ≤ 1000) (ht : Tgt s t x) (C1 : Hid (IdxC s x)) (C2 : Hid (PlC t true)) (C3 : Hid (FoC t false)) : Calls Tryz.prog 59 #[.string s, .int .i64 at_] w (RdrPost (⟨5, byts s, false, false⟩, 0) w) := by
  have HG := Lib.hid (hG.alloc (.cells #[.int .i64 0, .string ⟨#[]⟩, .bool false, .bool false] 33))
  clear hG
  rcases ht with ⟨rfl, rfl⟩ | ⟨k, rfl, hk, rfl⟩
  all_goals
    go_enter Tryz.func59, Tryz.ntmps59
    go_wp2_with fail
    refine (C1.out _).mono ?_
    rintro e w1 ⟨rfl, hb1⟩
    go_wp2_with fail
    refine (C2.out _).mono ?_
    rintro e w2 ⟨rfl, hb2⟩
    have HG2 := Lib.hid ((HG.out.after hb1).after hb2)
    have h3 := (inst_end hb1 hb2).2
    go_wp2_with fail
    refine (C3.out _ HG2.out).mono ?_
    rintro e w3 ⟨rfl, hb3⟩
    obtain ⟨hz2, hb, ⟨c0, c1, c2, c3, f0, f1, f2, f3⟩⟩ := inst_more h3 hb3
    have HB := Lib.hid hb
    clear hb1 hb2 hb3 hb h3
    go_wp2_with fail
    exact bodyPost_ret (v := .tuple #[tkV ⟨5, byts _, false, false⟩, .int .i64 0]) (by unfold tkV; rw [str_byts]; simp [results, Tryz.results59, go_sem, c0, c1, c2, c3, hz2]) rfl ⟨rfl, below_set4 HB.out (Nat.le_refl _) _ _ _ _⟩
set_option maxHeartbeats 2000000 in
set_option maxRecDepth 100000 in
theorem inst_far (s t : ByteArray) (x at_ : Int) (w : World) (hG : Gl w) (hs : s.size ≤ 1000) (hat : at_ ≠ 0) (ht : Tgt s t x) (C1 : Hid (IdxC s x)) (C2 : Hid (PlC t true)) (C3 : Hid (FoC t true)) : Calls Tryz.prog 59 #[.string s, .int .i64 at_] w (RdrPost (T0, 12) w) := by
  have HG := Lib.hid (hG.alloc (.cells #[.int .i64 0, .string ⟨#[]⟩, .bool false, .bool false] 33))
  have t1 : (at_ != 0) = true := by rw [bne_iff_ne]; exact hat
  clear hG hat
  rcases ht with ⟨rfl, rfl⟩ | ⟨k, rfl, hk, rfl⟩
  all_goals
    go_enter Tryz.func59, Tryz.ntmps59
    go_wp2_with fail
    refine (C1.out _).mono ?_
    rintro e w1 ⟨rfl, hb1⟩
    go_wp2_with fail
    refine (C2.out _).mono ?_
    rintro e w2 ⟨rfl, hb2⟩
    have HG2 := Lib.hid ((HG.out.after hb1).after hb2)
    have h3 := (inst_end hb1 hb2).2
    go_wp2_with fail
    refine (C3.out _ HG2.out).mono ?_
    rintro e w3 ⟨rfl, hb3⟩
    obtain ⟨hz2, hb, ⟨c0, c1, c2, c3, f0, f1, f2, f3⟩⟩ := inst_more h3 hb3
    have HB := Lib.hid hb
    clear hb1 hb2 hb3 hb h3
    go_wp2_with fail
    exact bodyPost_ret (v := .tuple #[tkV T0, .int .i64 12]) (by rw [tk0]; simp [results, Tryz.results59, go_sem, c0, c1, c2, c3, hz2]) rfl ⟨rfl, below_set4 HB.out (Nat.le_refl _) _ _ _ _⟩
set_option maxHeartbeats 4000000 in
set_option maxRecDepth 100000 in
theorem inst_near (s t : ByteArray) (x : Int) (b : Bool) (w : World) (hG : Gl w) (hs : s.size ≤ 1000) (ht : Tgt s t x) (C1 : Hid (IdxC s x)) (C2 : Hid (PlC t true)) (C3 : Hid (FoC t true)) (C4 : Hid (DeC s b)) :
    Calls Tryz.prog 59 #[.string s, .int .i64 0] w (RdrPost (if b = true then (⟨5, byts s, false, false⟩, 0) else (T0, 12)) w) := by
  have HG := Lib.hid (hG.alloc (.cells #[.int .i64 0, .string ⟨#[]⟩, .bool false, .bool false] 33))
  clear hG
  cases b
  · simp only [Bool.false_eq_true, if_false]
    rcases ht with ⟨rfl, rfl⟩ | ⟨k, rfl, hk, rfl⟩
    all_goals
      go_enter Tryz.func59, Tryz.ntmps59
      go_wp2_with fail
      refine (C1.out _).mono ?_
      rintro e w1 ⟨rfl, hb1⟩
      go_wp2_with fail
      refine (C2.out _).mono ?_
      rintro e w2 ⟨rfl, hb2⟩
      have HG2 := Lib.hid ((HG.out.after hb1).after hb2)
      have h3 := (inst_end hb1 hb2).2
      go_wp2_with fail
      refine (C3.out _ HG2.out).mono ?_
      rintro e w3 ⟨rfl, hb3⟩
      have h4 := inst_more h3 hb3
      have HG3 := Lib.hid (HG2.out.after hb3)
      go_wp2_with fail
      refine (C4.out _ HG3.out).mono ?_
      rintro e w4 ⟨rfl, hb4⟩
      obtain ⟨hz2, hb, ⟨c0, c1, c2, c3, f0, f1, f2, f3⟩⟩ := inst_more h4 hb4
      have HB := Lib.hid hb
      clear hb1 hb2 hb3 hb4 hb h3 h4
      go_wp2_with fail
      exact bodyPost_ret (v := .tuple #[tkV T0, .int .i64 12]) (by rw [tk0]; simp [results, Tryz.results59, go_sem, c0, c1, c2, c3, hz2]) rfl ⟨rfl, below_set4 HB.out (Nat.le_refl _) _ _ _ _⟩
  · simp only [if_true]
    rcases ht with ⟨rfl, rfl⟩ | ⟨k, rfl, hk, rfl⟩
    all_goals
      go_enter Tryz.func59, Tryz.ntmps59
      go_wp2_with fail
      refine (C1.out _).mono ?_
      rintro e w1 ⟨rfl, hb1⟩
      go_wp2_with fail
      refine (C2.out _).mono ?_
      rintro e w2 ⟨rfl, hb2⟩
      have HG2 := Lib.hid ((HG.out.after hb1).after hb2)
      have h3 := (inst_end hb1 hb2).2
      go_wp2_with fail
      refine (C3.out _ HG2.out).mono ?_
      rintro e w3 ⟨rfl, hb3⟩
      have h4 := inst_more h3 hb3
      have HG3 := Lib.hid (HG2.out.after hb3)
      go_wp2_with fail
      refine (C4.out _ HG3.out).mono ?_
      rintro e w4 ⟨rfl, hb4⟩
      obtain ⟨hz2, hb, ⟨c0, c1, c2, c3, f0, f1, f2, f3⟩⟩ := inst_more h4 hb4
      have HB := Lib.hid hb
      clear hb1 hb2 hb3 hb4 hb h3 h4
      go_wp2_with fail
      exact bodyPost_ret (v := .tuple #[tkV ⟨5, byts _, false, false⟩, .int .i64 0]) (by unfold tkV; rw [str_byts]; simp [results, Tryz.results59, go_sem, c0, c1, c2, c3, hz2]) rfl ⟨rfl, below_set4 HB.out (Nat.le_refl _) _ _ _ _⟩
theorem nats_byts (s : ByteArray) : nats (byts s) = Nz.bl s := by
  unfold nats byts Nz.bl
  rw [List.map_map]
  exact List.map_congr_left fun x _ => by simp
theorem xml_fold (t : ByteArray) (ht : t.size ≤ 1000) : FoC t (decide (smallF (byts t) = wXml)) := fun W hW => by
  have C := fold_any t ⟨#[120, 109, 108]⟩ W (by omega) (by decide) (fun j hj => by
    have hj' : j < 3 := hj
    rcases (show j = 0 ∨ j = 1 ∨ j = 2 by omega) with rfl | rfl | rfl
    all_goals (unfold FO; decide)) hW
  have e : smallF (byts ⟨#[120, 109, 108]⟩) = wXml := by decide
  rw [e] at C
  exact C
theorem inst_any (s : ByteArray) (at_ : Int) (w : World) (hs : s.size ≤ 1000) (hG : Gl w) : Calls Tryz.prog 59 #[.string s, .int .i64 at_] w (RdrPost (instR (decide (at_ = 0)) (byts s)) w) := by
  obtain ⟨t, x, ht, hb, C1⟩ : ∃ t x, Tgt s t x ∧ byts t = tgt (byts s) ∧ IdxC s x := by
    rcases idx_blank s with ⟨h1, h2⟩ | ⟨k, h1, h2, h3⟩
    · exact ⟨s, -1, .inl ⟨rfl, rfl⟩, h2.symm, fun W => by have := idxf_any s W; rw [h1] at this; exact this⟩
    · refine ⟨s.extract 0 k, k, .inr ⟨k, rfl, h2, rfl⟩, ?_, fun W => by have := idxf_any s W; rw [h1] at this; exact this⟩
      rw [byts_extract, h3, List.drop_zero]
  have hts : t.size ≤ 1000 := by
    rw [← byts_len, hb]
    unfold tgt
    have := (List.takeWhile_prefix (fun c => !blk? c) (l := byts s)).length_le
    rw [byts_len] at this
    omega
  have C2 : PlC t (plB (tgt (byts s))) := fun W => by
    have := Nz.plain_any t W
    unfold plB
    rw [← hb, nats_byts]
    exact this
  have C3 := xml_fold t hts
  rw [hb] at C3
  have C4 : DeC s (declW (byts s)) := fun W hW => decl_any s W hs hW
  unfold instR
  cases hp : plB (tgt (byts s)) with
  | false =>
    rw [hp] at C2
    exact inst_no s t x at_ w hs ht (Lib.hid C1) (Lib.hid C2)
  | true =>
    rw [hp] at C2
    rw [if_neg (by simp)]
    by_cases hf : smallF (tgt (byts s)) = wXml
    · rw [decide_eq_true hf] at C3
      by_cases ha : at_ = 0
      · subst ha
        have h := inst_near s t x _ w hG hs ht (Lib.hid C1) (Lib.hid C2) (Lib.hid C3) (Lib.hid C4)
        cases hd : declW (byts s) with
        | true =>
          rw [hd] at h
          rw [if_neg (by simp)]
          exact h
        | false =>
          rw [hd] at h
          rw [if_pos ⟨hf, .inr rfl⟩]
          exact h
      · rw [if_pos ⟨hf, .inl (decide_eq_false ha)⟩]
        exact inst_far s t x at_ w hG hs ha ht (Lib.hid C1) (Lib.hid C2) (Lib.hid C3)
    · rw [decide_eq_false hf] at C3
      rw [if_neg (fun h => hf h.1)]
      exact inst_plain s t x at_ w hG hs ht (Lib.hid C1) (Lib.hid C2) (Lib.hid C3)
end Go.Proofs.YtmbghdpoeahnaaaGreatDoor
