/-
  Merged by program out of the texts WlNst2, TgOpen, WlNs2 of one seat.
-/
import Derived.Test.YtnomcldpbkinmaaGreatDoorG35
import Derived.Test.YtnomcldpbkinmaaGreatDoorG16
import Derived.Test.YtnomcldpbkinmaaGreatDoorG36
import Derived.Test.YtnomcldpbkinmaaGreatDoorG26
import Derived.Lib.SmallJoins
import Derived.Deep.SlicePairs
import Derived.Carry
import Derived.ProofKit

/- Plain mathematics of WellNests: the tokens that a name's bytes make; the events of a document within a new root. -/
set_option linter.unusedSimpArgs false
set_option linter.unusedVariables false
namespace Go.Proofs.YtnomcldpbkinmaaGreatDoor.Wl
open Go.RowKit

theorem byts_bln (s : ByteArray) : byts s = (Nz.bl s).map (fun n : Nat => (n : Int)) := by simp [byts, Nz.bl]
theorem isN_ok {A : ByteArray} (h : Tg.isN A = true) : ∀ x ∈ Nz.Rn (Nz.bl A), Nz.Ok x := by
  unfold Tg.isN Nz.splitA at h
  rcases Nz.ci_cases A with ⟨h1, h2⟩ | ⟨i, h1, h2, h3, h4⟩
  · rw [if_pos h1] at h
    have hp : Nz.pl (Nz.bl A) = true := by
      cases hq : Nz.pl (Nz.bl A)
      · rw [hq, if_neg (by decide)] at h
        exact h
      · rfl
    exact fun x hx => .inr (Nz.pl_ok hp x hx)
  · rw [if_neg (by rw [h1]; omega), h1, Int.toNat_natCast] at h
    have hp : Nz.pl (Nz.bl (A.extract 0 i)) = true ∧ Nz.pl (Nz.bl (A.extract (i + 1) A.size)) = true := by
      by_cases hq : Nz.pl (Nz.bl (A.extract 0 i)) = true ∧ Nz.pl (Nz.bl (A.extract (i + 1) A.size)) = true
      · exact hq
      · rw [if_neg hq] at h
        cases h
    rw [Nz.bl_pre, Nz.bl_post] at hp
    rw [h3, Nz.Rn_asc _ _ _ 58 (by omega) (Nat.le_refl _)]
    intro x hx
    rcases List.mem_append.1 hx with hx | hx
    · exact .inr (Nz.pl_ok hp.1 x hx)
    · rcases List.mem_cons.1 hx with hx | hx
      · exact .inl (by rw [hx]; rfl)
      · exact .inr (Nz.pl_ok hp.2 x hx)
/-- A byte below 80 that may not stand in a name. -/
theorem name_no {A : ByteArray} (c : Nat) (h : Tg.isN A = true) (hc : c < 128) (hn : ¬ Nz.Ok (c : Int)) : (c : Int) ∉ byts A := by
  intro hm
  rw [byts_bln] at hm
  obtain ⟨k, hk, e⟩ := List.mem_map.1 hm
  have e' : k = c := by omega
  subst e'
  obtain ⟨B, D, hB⟩ := List.append_of_mem hk
  apply hn
  refine isN_ok h _ ?_
  rw [hB, Nz.Rn_asc _ B D k hc (Nat.le_refl _)]
  simp
theorem name_ne {A : ByteArray} (h : Tg.isN A = true) : byts A ≠ [] := by
  intro hb
  have hz : A.size = 0 := by rw [← byts_len, hb]; rfl
  have hA : Nz.bl A = [] := List.eq_nil_of_length_eq_zero (by rw [Nz.bl_len]; exact hz)
  unfold Tg.isN Nz.splitA at h
  rcases Nz.ci_cases A with ⟨h1, h2⟩ | ⟨i, h1, h2, h3, h4⟩
  · rw [if_pos h1, hA, Nz.pl_nil, if_neg (by decide)] at h
    cases h
  · omega
theorem name_sn {A : ByteArray} (h : Tg.isN A = true) : Nz.sn A 0 = A.size := by
  have hOk := isN_ok h
  unfold Nz.sn
  rw [List.drop_zero]
  have h32 := Nz.St_full _ (Nz.bl A) [] 32 (by omega) (by decide) (Nat.le_refl _) hOk
  have hs := Nz.St_self _ (Nz.bl A ++ [32]) (Nat.le_refl _)
  rw [h32, List.take_left] at hs
  rw [hs]
  exact Nz.bl_len A
theorem par_name {A : ByteArray} (h : Tg.isN A = true) : Tg.parF A = (0, A, []) := by
  have h1 := name_sn h
  have h2 : Nz.sx A 0 = A := by
    rw [Tg.sx_zero, h1]
    exact Nz.ext_all A A.size (Nat.le_refl _)
  unfold Tg.parF
  rw [h2, h1, if_neg (by rw [h]; decide)]
  refine Tg.go_done A [] _ ?_
  rw [Tg.sk_size, Nz.fr_size]
  omega

/-- What is no rune stays none, if a byte below 80 follows. -/
theorem nn_tail {A B : List Int} {c : Int} (hA : NN A) (h0 : 0 ≤ c) (hB : NN B) : NN (A ++ c :: B) := fun x hx => by
  rcases List.mem_append.1 hx with hx | hx
  · exact hA x hx
  · rcases List.mem_cons.1 hx with hx | hx
    · omega
    · exact hB x hx
theorem dec1_tail {A B : List Int} {c : Int} (h0 : 0 ≤ c) (hc : c < 128) (hA : NN A) (hB : NN B) (hne : A ≠ []) (h : (dec1 A).2.2 ≠ 0) : (dec1 (A ++ c :: B)).2.2 ≠ 0 := by
  intro e
  obtain ⟨hb, hlen, htk, hle⟩ := dec_inv (A ++ c :: B) (by simp) (nn_tail hA h0 hB).getD e
  generalize (dec1 (A ++ c :: B)).1 = r at *
  by_cases hk : (encB r).length ≤ A.length
  · rw [List.take_append_of_le_length hk] at htk
    have hd := dec_enc r (A.drop (encB r).length) hb
    have e2 : encB r ++ A.drop (encB r).length = A := by
      conv => lhs; lhs; rw [← htk]
      exact List.take_append_drop ..
    rw [e2] at hd
    rw [hd] at h
    exact h rfl
  · have hp := List.length_pos_iff.2 hne
    have hget : (encB r)[A.length]? = some c := by
      rw [← htk, List.getElem?_take_of_lt (by omega), List.getElem?_append_right (Nat.le_refl _), Nat.sub_self]
      rfl
    have hr : 128 ≤ r := by
      rcases Int.lt_or_le r 128 with g | g
      · exfalso
        have := Tg.enc_low r (by unfold Bad at hb; omega) g
        rw [this] at hk
        exact hk (by rw [List.length_singleton]; exact hp)
      · exact g
    have := (enc_head r hb hr).2 c (List.mem_of_getElem? hget)
    omega
theorem dec_tail {B : List Int} {c : Int} (h0 : 0 ≤ c) (hc : c < 128) (hB : NN B) : ∀ (n : Nat) (A : List Int), A.length ≤ n → NN A →
    ((decF A).2.2 ≠ 0 ∧ (decF (A ++ c :: B)).2.2 ≠ 0) ∨ ((decF A).2.2 = 0 ∧ (decF (A ++ c :: B)).2.2 = (decF B).2.2 ∧ (decF (A ++ c :: B)).1 = (decF A).1 ++ (c :: (decF B).1))
  | n, A, hn, hA => by
    by_cases hne : A = []
    · subst hne
      right
      rw [List.nil_append, decF_asc c B h0 hc hB]
      exact ⟨rfl, rfl, rfl⟩
    have hnn := nn_tail hA h0 hB
    by_cases he : (dec1 A).2.2 = 0
    · have hk := dec_ok1 hne hA he
      have hsame : dec1 (A ++ c :: B) = dec1 A := by
        obtain ⟨hb, hlen, htk, hle⟩ := dec_inv A hne hA.getD he
        have hd := dec_enc (dec1 A).1 (A.drop (encB (dec1 A).1).length ++ c :: B) hb
        have e2 : encB (dec1 A).1 ++ A.drop (encB (dec1 A).1).length = A := by
          conv => lhs; lhs; rw [← htk]
          exact List.take_append_drop ..
        rw [← List.append_assoc, e2] at hd
        rw [hd]
        exact Prod.ext rfl (Prod.ext hlen.symm he.symm)
      rw [decF_ok A hne hA he, decF_ok (A ++ c :: B) (by simp) hnn (by rw [hsame]; exact he), hsame, List.drop_append_of_le_length hk.2]
      match n with
      | 0 => exact absurd (List.eq_nil_of_length_eq_zero (by omega)) hne
      | n + 1 =>
        rcases dec_tail h0 hc hB n (A.drop (dec1 A).2.1.toNat) (by rw [List.length_drop]; omega) (hA.drop _) with ⟨g1, g2⟩ | ⟨g1, g2, g3⟩
        · exact .inl ⟨g1, g2⟩
        · exact .inr ⟨g1, g2, by dsimp only; rw [g3]; rfl⟩
    · left
      have h2 := dec1_tail h0 hc hA hB hne he
      rw [decF_err A hne he, decF_err (A ++ c :: B) (by simp) h2]
      exact ⟨he, h2⟩
theorem wrong_tail {A B : List Int} {c : Int} (hA : NN A) (h : ∀ x ∈ c :: B, Chr x ∧ x < 128) : wrongF (A ++ c :: B) = wrongF A := by
  have hc := h c (by simp)
  have hB : ∀ x ∈ B, Chr x ∧ x < 128 := fun x hx => h x (List.mem_cons_of_mem _ hx)
  have nnB : NN B := fun x hx => by have := (hB x hx).1; unfold Chr Btw at this; omega
  have hwB : wrongF B = 0 := by
    have := wrongF_ascs B [] hB (fun x hx => by cases hx)
    rwa [List.append_nil, wrongF_nil] at this
  obtain ⟨r1, r2⟩ := wrong_rt hwB
  rcases dec_tail (c := c) (by have := hc.1; unfold Chr Btw at this; omega) hc.2 nnB _ A (Nat.le_refl _) hA with ⟨g1, g2⟩ | ⟨g1, g2, g3⟩
  · unfold wrongF
    rw [if_pos g1, if_pos g2]
  · have q : (∀ r ∈ (decF (A ++ c :: B)).1, Chr r) ↔ ∀ r ∈ (decF A).1, Chr r := by
      rw [g3]
      constructor
      · exact fun q r hr => q r (List.mem_append_left _ hr)
      · intro q r hr
        rcases List.mem_append.1 hr with hr | hr
        · exact q r hr
        · rcases List.mem_cons.1 hr with hr | hr
          · rw [hr]; exact hc.1
          · exact r2 r hr
    unfold wrongF
    rw [if_neg (show ¬ (decF (A ++ c :: B)).2.2 ≠ 0 by rw [g2, r1]; decide), if_neg (show ¬ (decF A).2.2 ≠ 0 by rw [g1]; decide)]
    by_cases q2 : ∀ r ∈ (decF A).1, Chr r
    · rw [if_pos q2, if_pos (q.2 q2)]
    · rw [if_neg q2, if_neg (fun e => q2 (q.1 e))]

theorem unq_name (r : List Int) : ∀ (l : List Int), (∀ c ∈ l, c ≠ 34 ∧ c ≠ 39 ∧ c ≠ 62) → unq 0 (l ++ 62 :: r) = some l.length
  | [], _ => by simp [unq]
  | c :: l, h => by
    have h1 := h c (by simp)
    rw [List.cons_append, unq, if_neg (by simp), if_neg (by omega), if_neg h1.2.2, unq_name r l (fun x hx => h x (List.mem_cons_of_mem _ hx))]
    rfl
theorem mark_start (z : Bool) (c : Int) (t : List Int) (h1 : c ≠ 33) (h2 : c ≠ 63) (h3 : c ≠ 47) : markF z (60 :: c :: t) = startF (60 :: c :: t) := by
  have f1 : bCdata.isPrefixOf (60 :: c :: t) = false := by simp [bCdata, List.isPrefixOf]; omega
  have f2 : bComm.isPrefixOf (60 :: c :: t) = false := by simp [bComm, List.isPrefixOf]; omega
  have f3 : bInst.isPrefixOf (60 :: c :: t) = false := by simp [bInst, List.isPrefixOf]; omega
  have f4 : bEnd.isPrefixOf (60 :: c :: t) = false := by simp [bEnd, List.isPrefixOf]; omega
  have f5 : bBang.isPrefixOf (60 :: c :: t) = false := by simp [bBang, List.isPrefixOf]; omega
  unfold markF
  simp only [f1, f2, f3, f4, f5, Bool.false_eq_true, if_false]
theorem take_snoc62 (K r : List Int) : (K ++ 62 :: r).take (K.length + 1) = K ++ [62] := by
  rw [show K ++ 62 :: r = (K ++ [62]) ++ r by simp]
  exact List.take_left' (by simp)
theorem chr_ascii {c : Int} (h : c = 47 ∨ c = 62) : Chr c ∧ c < 128 := by
  rcases h with rfl | rfl <;> exact ⟨by unfold Chr Btw; omega, by omega⟩
/-- A start tag's token. -/
theorem start_tok (z : Bool) (K r : List Int) (hne : K ≠ []) (h0 : ∀ c t, K = c :: t → c ≠ 33 ∧ c ≠ 63 ∧ c ≠ 47) (h : ∀ c ∈ K, c ≠ 34 ∧ c ≠ 39 ∧ c ≠ 62) :
    frontF z false (60 :: (K ++ 62 :: r)) = fin 1 K.length 1 startR (K ++ 62 :: r) := by
  unfold frontF
  rw [if_neg (by simp), if_pos (by rfl)]
  obtain ⟨c, t, rfl⟩ := List.exists_cons_of_ne_nil hne
  obtain ⟨a1, a2, a3⟩ := h0 c t rfl
  have hu := unq_name r (c :: t) h
  rw [List.cons_append] at hu ⊢
  rw [mark_start z c _ a1 a2 a3]
  unfold startF
  rw [show (60 :: c :: (t ++ 62 :: r)).drop 1 = c :: (t ++ 62 :: r) from rfl, hu]
theorem fin_startR (K r N : List Int) (e : Bool) (hr : startR K = (⟨1, N, e, false⟩, 0)) : fin 1 K.length 1 startR (K ++ 62 :: r) = if wrongF (K ++ [62]) ≠ 0 then (T0, 0, wrongF (K ++ [62])) else (⟨1, N, e, false⟩, 1 + (K.length + 1), 0) := by
  unfold fin
  rw [take_snoc62, List.take_left, hr]
  by_cases c : wrongF (K ++ [62]) ≠ 0
  · rw [if_pos c, if_pos c]
  · rw [if_neg c, if_neg c, if_neg (by simp)]
section
variable {nm : ByteArray}
theorem name_bytes (h : Tg.isN nm = true) : (∀ c ∈ byts nm, c ≠ 34 ∧ c ≠ 39 ∧ c ≠ 62) ∧ (60 : Int) ∉ byts nm ∧ (∀ c ∈ byts nm, c ≠ 33 ∧ c ≠ 63 ∧ c ≠ 47) ∧ ∀ c ∈ byts nm, blk? c = false := by
  have n34 : (34 : Int) ∉ byts nm := name_no 34 h (by omega) (by decide)
  have n39 : (39 : Int) ∉ byts nm := name_no 39 h (by omega) (by decide)
  have n62 : (62 : Int) ∉ byts nm := name_no 62 h (by omega) (by decide)
  have n60 : (60 : Int) ∉ byts nm := name_no 60 h (by omega) (by decide)
  have n33 : (33 : Int) ∉ byts nm := name_no 33 h (by omega) (by decide)
  have n63 : (63 : Int) ∉ byts nm := name_no 63 h (by omega) (by decide)
  have n47 : (47 : Int) ∉ byts nm := name_no 47 h (by omega) (by decide)
  have n9 : (9 : Int) ∉ byts nm := name_no 9 h (by omega) (by decide)
  have n10 : (10 : Int) ∉ byts nm := name_no 10 h (by omega) (by decide)
  have n13 : (13 : Int) ∉ byts nm := name_no 13 h (by omega) (by decide)
  have n32 : (32 : Int) ∉ byts nm := name_no 32 h (by omega) (by decide)
  refine ⟨fun c hc => ⟨fun e => n34 (e ▸ hc), fun e => n39 (e ▸ hc), fun e => n62 (e ▸ hc)⟩, n60, fun c hc => ⟨fun e => n33 (e ▸ hc), fun e => n63 (e ▸ hc), fun e => n47 (e ▸ hc)⟩, fun c hc => ?_⟩
  unfold blk?
  refine decide_eq_false fun e => ?_
  unfold Blank at e
  rcases e with e | e | e | e
  · exact n9 (e ▸ hc)
  · exact n10 (e ▸ hc)
  · exact n13 (e ▸ hc)
  · exact n32 (e ▸ hc)
theorem tok_open (h : Tg.isN nm = true) (z : Bool) (r : List Int) : frontF z false (60 :: (byts nm ++ 62 :: r)) = if wrongF (byts nm) ≠ 0 then (T0, 0, wrongF (byts nm)) else (⟨1, byts nm, false, false⟩, 1 + ((byts nm).length + 1), 0) := by
  obtain ⟨b1, b2, b3, b4⟩ := name_bytes h
  rw [start_tok z (byts nm) r (name_ne h) (fun c t e => b3 c (by rw [e]; simp)) b1]
  have hr : startR (byts nm) = (⟨1, byts nm, false, false⟩, 0) := by
    unfold startR
    rw [if_neg b2, if_neg]
    intro e
    exact (b3 47 (List.mem_of_getLast? e)).2.2 rfl
  rw [fin_startR _ _ _ _ hr, wrong_tail (byts_nn nm) (fun x hx => chr_ascii (.inr (by simpa using hx)))]
theorem tok_empty (h : Tg.isN nm = true) (z : Bool) (r : List Int) : frontF z false (60 :: ((byts nm ++ [47]) ++ 62 :: r)) = if wrongF (byts nm) ≠ 0 then (T0, 0, wrongF (byts nm)) else (⟨1, byts nm, true, false⟩, 1 + ((byts nm ++ [47]).length + 1), 0) := by
  obtain ⟨b1, b2, b3, b4⟩ := name_bytes h
  rw [start_tok z (byts nm ++ [47]) r (by simp) (fun c t e => ?_) (fun c hc => ?_)]
  · have hr : startR (byts nm ++ [47]) = (⟨1, byts nm, true, false⟩, 0) := by
      unfold startR
      rw [if_neg (by simp [b2]), if_pos (by simp), List.dropLast_concat]
    rw [fin_startR _ _ _ _ hr, List.append_assoc, show ([47] : List Int) ++ [62] = 47 :: [62] from rfl, wrong_tail (byts_nn nm) (fun x hx => chr_ascii (by simpa using hx))]
  · obtain ⟨c', t', hb⟩ := List.exists_cons_of_ne_nil (name_ne h)
    rw [hb, List.cons_append] at e
    injection e with e _
    subst e
    exact b3 c' (by rw [hb]; simp)
  · rcases List.mem_append.1 hc with hc | hc
    · exact b1 c hc
    · have : c = 47 := by simpa using hc
      subst this
      omega
theorem trim_self {l : List Int} (h : ∀ c ∈ l, blk? c = false) : trimR l = l := by
  unfold trimR
  have : l.reverse.dropWhile blk? = l.reverse := by
    cases hq : l.reverse with
    | nil => rfl
    | cons c t =>
      rw [List.dropWhile_cons_of_neg]
      have hm : c ∈ l := by rw [← List.mem_reverse, hq]; simp
      rw [h c hm]
      decide
  rw [this, List.reverse_reverse]
theorem tok_close (h : Tg.isN nm = true) (hw : wrongF (byts nm) = 0) (z : Bool) (r : List Int) : frontF z false (60 :: 47 :: (byts nm ++ 62 :: r)) = (⟨2, byts nm, false, false⟩, 2 + ((byts nm).length + 1), 0) := by
  obtain ⟨b1, b2, b3, b4⟩ := name_bytes h
  have f1 : bCdata.isPrefixOf (60 :: 47 :: (byts nm ++ 62 :: r)) = false := by simp [bCdata, List.isPrefixOf]
  have f2 : bComm.isPrefixOf (60 :: 47 :: (byts nm ++ 62 :: r)) = false := by simp [bComm, List.isPrefixOf]
  have f3 : bInst.isPrefixOf (60 :: 47 :: (byts nm ++ 62 :: r)) = false := by simp [bInst, List.isPrefixOf]
  have f4 : bEnd.isPrefixOf (60 :: 47 :: (byts nm ++ 62 :: r)) = true := by simp [bEnd, List.isPrefixOf]
  have hf : fnd eEnd (byts nm ++ 62 :: r) = some (byts nm).length := by
    refine fnd_is (by simp) ?_ ?_
    · unfold Occ; rw [List.drop_left]; exact ⟨r, rfl⟩
    · intro j hj ho
      have h1 := (occ_one 62 (byts nm ++ 62 :: r) j (by simp; omega)).1 ho
      rw [List.getD_eq_getElem?_getD, List.getElem?_append_left hj, List.getElem?_eq_getElem hj] at h1
      exact (b1 (byts nm)[j] (List.getElem_mem _)).2.2 h1
  have hR : endR (byts nm) = (⟨2, byts nm, false, false⟩, 0) := by
    unfold endR
    rw [trim_self b4]
    have : nmB (byts nm) = true := by
      unfold nmB
      rw [← str_of_byts rfl]
      exact h
    rw [if_neg (by rw [this]; decide)]
  unfold frontF
  rw [if_neg (by simp), if_pos (by rfl)]
  unfold markF
  simp only [f1, f2, f3, f4, Bool.false_eq_true, if_false, if_true]
  unfold span
  rw [show (60 :: 47 :: (byts nm ++ 62 :: r)).drop 2 = byts nm ++ 62 :: r from rfl, hf]
  show fin 2 (byts nm).length 1 endR (byts nm ++ 62 :: r) = _
  unfold fin
  rw [take_snoc62, List.take_left, hR, wrong_tail (byts_nn nm) (fun x hx => chr_ascii (.inr (by simpa using hx))), hw]
  simp
theorem ent_name (nm : ByteArray) : Nz.Sc.entF bind0 nm [] = .error 9 ∨ ∃ n, Nz.Sc.entF bind0 nm [] = .ok (bind0, n, []) := by
  unfold Nz.Sc.entF
  simp only [Nz.Sc.bindF, Nz.Sc.attF]
  cases Nz.Sc.namF bind0 nm with
  | none => exact .inl rfl
  | some n => exact .inr ⟨n, rfl⟩
theorem live0 : Live st0 := ⟨rfl, rfl⟩
theorem tok_nm (nm : ByteArray) (k : Int) (e : Bool) : tokF ⟨k, byts nm, e, false⟩ = ⟨k, nm, e, false⟩ := by
  unfold tokF
  dsimp only
  rw [← str_of_byts rfl]
theorem take_name (h : Tg.isN nm = true) (e : Bool) : takeF st0 (tokF ⟨1, byts nm, e, false⟩) = enterT st0 ⟨1, nm, e, false⟩ nm (Nz.Sc.entF bind0 nm []) := by
  rw [tok_nm, take_read live0]
  show startT st0 ⟨1, nm, e, false⟩ = _
  unfold startT
  rw [if_neg (by rintro ⟨q, _⟩; cases q), par_name h, if_neg (fun e => e rfl)]
  rfl
def stN (nm : ByteArray) : St := ⟨[(nm, bind0)], Nz.em, true, false, 0⟩
def lstN : List Int → List Int → List Int → List Int := fun N L x => (60 :: (N ++ [62])) ++ (L ++ 60 :: x)
/-- A document within a new root: as the root's tag alone has it, or one deeper. -/
theorem nest_of (h : Tg.isN nm = true) {L : List Int} (hD : wDecl.isPrefixOf L = false) (h0 : (evF L).2.2 = 0) :
    (∃ e, e ≠ 0 ∧ (evF (lstN (byts nm) L (47 :: (byts nm ++ [62])))).2.2 = e ∧ (evF (60 :: ((byts nm ++ [47]) ++ 62 :: []))).2.2 = e)
    ∨ ∃ n k, evF (60 :: ((byts nm ++ [47]) ++ 62 :: [])) = ([.opn n [], .cls], k, 0) ∧ ((evF (lstN (byts nm) L (47 :: (byts nm ++ [62])))).2.2 = 13 ∨ ∃ u v m, evF (lstN (byts nm) L (47 :: (byts nm ++ [62]))) = ([.opn n []] ++ (toldF u ++ (evF L).1) ++ (toldF v ++ [.cls]), m, 0)) := by
  have hM : lstN (byts nm) L (47 :: (byts nm ++ [62])) = 60 :: (byts nm ++ 62 :: (L ++ 60 :: 47 :: (byts nm ++ [62]))) := by simp [lstN]
  have nM : ∀ z, frontF z false (lstN (byts nm) L (47 :: (byts nm ++ [62]))) = _ := fun z => (congrArg (frontF z false) hM).trans (tok_open h z _)
  have nF : ∀ z, frontF z false (60 :: ((byts nm ++ [47]) ++ 62 :: [])) = _ := fun z => tok_empty h z []
  have tE := take_name h true
  have tO := take_name h false
  have pM : 0 < (lstN (byts nm) L (47 :: (byts nm ++ [62]))).length := by rw [hM]; simp
  have pF : 0 < (60 :: ((byts nm ++ [47]) ++ 62 :: ([] : List Int))).length := by simp
  by_cases hw : wrongF (byts nm) = 0
  · have nM1 : ∀ z, frontF z false (lstN (byts nm) L (47 :: (byts nm ++ [62]))) = (⟨1, byts nm, false, false⟩, 1 + ((byts nm).length + 1), 0) := fun z => by rw [nM z, if_neg (Decidable.not_not.2 hw)]
    have nF1 : ∀ z, frontF z false (60 :: ((byts nm ++ [47]) ++ 62 :: ([] : List Int))) = (⟨1, byts nm, true, false⟩, 1 + ((byts nm ++ [47]).length + 1), 0) := fun z => by rw [nF z, if_neg (Decidable.not_not.2 hw)]
    have xM : nx (lstN (byts nm) L (47 :: (byts nm ++ [62]))) 0 = (⟨1, byts nm, false, false⟩, 1 + ((byts nm).length + 1), 0) := nM1 _
    have xF : nx (60 :: ((byts nm ++ [47]) ++ 62 :: ([] : List Int))) 0 = (⟨1, byts nm, true, false⟩, 1 + ((byts nm ++ [47]).length + 1), 0) := nF1 _
    rcases ent_name nm with he | ⟨n, he⟩
    · left
      rw [he] at tE tO
      have tE2 : takeF st0 (tokF ⟨1, byts nm, true, false⟩) = bad st0 9 := tE
      have tO2 : takeF st0 (tokF ⟨1, byts nm, false, false⟩) = bad st0 9 := tO
      refine ⟨9, by decide, ?_, ?_⟩
      · unfold evF
        rw [ev_bad [] (by omega) (by rw [xM]) (by rw [xM, tO2, bad_e]; decide), xM, tO2]
        rfl
      · unfold evF
        rw [ev_bad [] (by omega) (by rw [xF]) (by rw [xF, tE2, bad_e]; decide), xF, tE2]
        rfl
    · right
      rw [he] at tE tO
      have tE2 : takeF st0 (tokF ⟨1, byts nm, true, false⟩) = (⟨[], Nz.em, true, false, 0⟩, [.opn n [], .cls], 0) := tE
      have tO2 : takeF st0 (tokF ⟨1, byts nm, false, false⟩) = (stN nm, [.opn n []], 0) := tO
      obtain ⟨g1, _⟩ := ev_tok (L := 60 :: ((byts nm ++ [47]) ++ 62 :: ([] : List Int))) (p := 0) (out := []) (s := st0) (M := 60 :: ((byts nm ++ [47]) ++ 62 :: ([] : List Int))) (r := []) (by simp) (by simp) (fun z => by rw [List.append_nil, nF1 z]; simp; omega) tE2
      refine ⟨n, (60 :: ((byts nm ++ [47]) ++ 62 :: ([] : List Int))).length, ?_, ?_⟩
      · unfold evF
        rw [g1, Nat.zero_add]
        have hn := nx_last (60 :: ((byts nm ++ [47]) ++ 62 :: ([] : List Int))) _ (Nat.le_refl _)
        have ht : takeF ⟨[], Nz.em, true, false, 0⟩ (tokF (nx (60 :: ((byts nm ++ [47]) ++ 62 :: ([] : List Int))) (60 :: ((byts nm ++ [47]) ++ 62 :: ([] : List Int))).length).1) = (⟨[], Nz.em, true, true, 0⟩, [], 0) := by rw [hn]; rfl
        rw [ev_last _ rfl (by rw [hn]) (by rw [ht]), ht]
        rfl
      · obtain ⟨k1, _⟩ := ev_tok (L := lstN (byts nm) L (47 :: (byts nm ++ [62]))) (p := 0) (out := []) (s := st0) (M := 60 :: (byts nm ++ [62])) (r := L ++ 60 :: 47 :: (byts nm ++ [62])) rfl (by simp) (fun z => by have := nM1 z; unfold lstN at this; rw [this]; simp; omega) tO2
        have hS : Sim nm [.opn n []] st0 (stN nm) [] [.opn n []] := ⟨rfl, ⟨rfl, rfl⟩, rfl, fun _ => ⟨rfl, rfl, rfl⟩, (fun e => by cases e), fun e => absurd rfl e, fun _ => rfl⟩
        have hN := ev_nest (x := 47 :: (byts nm ++ [62])) (P := 60 :: (byts nm ++ [62])) (by simp) hD L.length 0 st0 (stN nm) [] [.opn n []] (by omega) (by omega) hS h0
        rw [Nat.add_zero] at hN
        have k2 : evF (lstN (byts nm) L (47 :: (byts nm ++ [62]))) = evR ((60 :: (byts nm ++ [62])) ++ (L ++ 60 :: (47 :: (byts nm ++ [62])))) (60 :: (byts nm ++ [62])).length (stN nm) [.opn n []] := by
          unfold evF
          rw [k1, Nat.zero_add]
          rfl
        rw [k2]
        rcases hN with q | ⟨u, s2, q, o2, l2, r2⟩
        · exact .inl q
        · right
          rw [q]
          have hd : ((60 :: (byts nm ++ [62])) ++ (L ++ 60 :: (47 :: (byts nm ++ [62])))).drop ((60 :: (byts nm ++ [62])).length + L.length) = (60 :: 47 :: (byts nm ++ [62])) ++ [] := by
            rw [← List.drop_drop, List.drop_left, List.drop_left, List.append_nil]
          have tC : takeF s2 (tokF ⟨2, byts nm, false, false⟩) = ({ s2 with wait := Nz.em, op := [] }, toldF s2.wait ++ [.cls], 0) := by
            rw [tok_nm, take_read l2]
            show endT s2 ⟨2, nm, false, false⟩ = _
            unfold endT
            rw [if_pos (show inner s2 = some nm by unfold inner; rw [o2]; rfl), o2]
            rfl
          obtain ⟨m1, m2⟩ := ev_tok (out := [.opn n []] ++ (toldF u ++ (evR L 0 st0 []).1)) hd (by simp) (fun z => by rw [List.append_nil, show (60 : Int) :: 47 :: (byts nm ++ [62]) = 60 :: 47 :: (byts nm ++ 62 :: []) from rfl, tok_close h hw z []]; simp; omega) tC
          rw [m1]
          generalize hMM : (60 :: (byts nm ++ [62])) ++ (L ++ 60 :: (47 :: (byts nm ++ [62]))) = MM at *
          generalize hp : (60 :: (byts nm ++ [62])).length + L.length + (60 :: 47 :: (byts nm ++ [62])).length = p at *
          have hpl : p = MM.length := by rw [← hp, ← hMM]; simp; omega
          have hn := nx_last MM p (by omega)
          have ht : takeF { s2 with wait := Nz.em, op := [] } (tokF (nx MM p).1) = ({ s2 with wait := Nz.em, op := [], over := true }, [], 0) := by
            rw [hn, take_read (show Live { s2 with wait := Nz.em, op := [] } from l2)]
            show lastT { s2 with wait := Nz.em, op := [] } = _
            unfold lastT
            rw [if_neg (fun e => e rfl), if_neg]
            show ¬ s2.root = false
            rw [r2]
            decide
          refine ⟨u, s2.wait, p, ?_⟩
          rw [ev_last _ hpl (by rw [hn]) (by rw [ht]), ht, List.append_nil]
          rfl
  · left
    refine ⟨wrongF (byts nm), hw, ?_, ?_⟩
    · have xM : nx (lstN (byts nm) L (47 :: (byts nm ++ [62]))) 0 = (T0, 0, wrongF (byts nm)) := by
        have := nM true
        rw [if_pos hw] at this
        exact this
      unfold evF
      rw [ev_err st0 [] (by omega) (by rw [xM]; exact hw), xM]
    · have xF : nx (60 :: ((byts nm ++ [47]) ++ 62 :: ([] : List Int))) 0 = (T0, 0, wrongF (byts nm)) := by
        have := nF true
        rw [if_pos hw] at this
        exact this
      unfold evF
      rw [ev_err st0 [] (by omega) (by rw [xF]; exact hw), xF]
end
end Go.Proofs.YtnomcldpbkinmaaGreatDoor.Wl

/- A tag that is handed in, opened. -/
set_option linter.unusedSimpArgs false
set_option linter.unusedVariables false
namespace Go.Proofs.YtnomcldpbkinmaaGreatDoor.Tg
open Go.Joins Go.ChangeShapes Go.WideShapes Go.RowKit Go.Deep

theorem Tryz.laidOut : laidOutB Tryz.prog = true := by kernel_rfl
theorem Tryz.cells81 : Tryz.prog.cellsOf 81 = 2 := by kernel_rfl
theorem Tryz.cells9 : Tryz.prog.cellsOf 9 = 1 := by kernel_rfl
/-- What is known of a tag that is handed in. -/
structure TagIn (w : World) (nm : ByteArray) (A : Option Addr) (n c : Nat) (l : List (ByteArray × ByteArray)) : Prop where
  len : n = l.length
  nsz : nm.size ≤ maxLen
  lsz : n ≤ maxLen
  xsz : ∀ x ∈ l, x.1.size ≤ maxLen ∧ x.2.size ≤ maxLen
  rd : RdR w A l
  nil : A = none → n = 0 ∧ c = 0
set_option maxRecDepth 100000 in
theorem open_tag {H : Type} {enc : TypeId × Value → H} {w : World} {r : Reach} {b0 : Nat} {v : Value} {d : DataW H} {p : List MemPlace} (hv : Value.okWide Tryz.prog w r b0 53 v) (h : DataW.Trod enc Tryz.prog w 0 (fun _ => true) true 53 v d p) :
    ∃ (nm : ByteArray) (A : Option Addr) (n c : Nat) (l : List (ByteArray × ByteArray)), v = .agg #[.string nm, .slice A n c] ∧ TagIn w nm A n c l := by
  obtain ⟨v0, v1, y0, y1, k, rfl, _, _, t0, t1⟩ := open_agg2 Tryz.underlying53 (by kernel_rfl) (by kernel_rfl) hv h
  obtain ⟨nm, e0, _, hs⟩ := DataW.trod_string Tryz.underlying9 t0
  simp only [List.cons.injEq, and_true] at e0
  subst e0
  rcases open_slice_pairs Tryz.underlying51 Tryz.underlying81 Tryz.cells81 rfl rfl Tryz.cells9 Tryz.cells9 t1 with ⟨hc, _⟩ | ⟨a, len, cap, m, k2, V0, V1, D0, D1, P0, P1, hc, _, hl, hm, hmm, _, hall⟩
  · simp only [List.cons.injEq, and_true] at hc
    subst hc
    exact ⟨nm, none, 0, 0, [], rfl, ⟨rfl, hs, Nat.zero_le _, fun x hx => by simp at hx, fun j x hx => by simp at hx, fun _ => ⟨rfl, rfl⟩⟩⟩
  · simp only [List.cons.injEq, and_true] at hc
    subst hc
    simp only [if_true] at hmm
    subst hmm
    have st : ∀ i, i < m → ∃ s0 s1 : ByteArray, V0 i = .string s0 ∧ V1 i = .string s1 ∧ s0.size ≤ maxLen ∧ s1.size ≤ maxLen := fun i hi => by
      obtain ⟨_, _, u0, u1⟩ := hall i hi
      obtain ⟨s0, g0, _, z0⟩ := DataW.trod_string Tryz.underlying9 u0
      obtain ⟨s1, g1, _, z1⟩ := DataW.trod_string Tryz.underlying9 u1
      simp only [List.cons.injEq, and_true] at g0 g1
      exact ⟨s0, s1, g0, g1, z0, z1⟩
    have st2 : ∀ i, ∃ x : ByteArray × ByteArray, i < m → V0 i = .string x.1 ∧ V1 i = .string x.2 ∧ x.1.size ≤ maxLen ∧ x.2.size ≤ maxLen := fun i => by
      by_cases hi : i < m
      · obtain ⟨s0, s1, h1⟩ := st i hi
        exact ⟨(s0, s1), fun _ => h1⟩
      · exact ⟨(Nz.em, Nz.em), fun h => absurd h hi⟩
    let X := fun i => Classical.choose (st2 i)
    have hX : ∀ i, i < m → V0 i = .string (X i).1 ∧ V1 i = .string (X i).2 ∧ (X i).1.size ≤ maxLen ∧ (X i).2.size ≤ maxLen := fun i => Classical.choose_spec (st2 i)
    have hget : ∀ (k : Nat) x, ((List.range len).map X)[k]? = some x → k < len ∧ x = X k := fun k x hk => by
      rw [List.getElem?_map] at hk
      obtain ⟨j, hj, rfl⟩ := Option.map_eq_some_iff.1 hk
      have hlt := (List.getElem?_eq_some_iff.1 hj).1
      rw [List.length_range] at hlt
      rw [List.getElem?_range hlt] at hj
      injection hj with hj
      exact ⟨hlt, by rw [hj]⟩
    refine ⟨nm, some a, len, m, (List.range len).map X, rfl, ⟨by simp, hs, by omega, fun x hx => ?_, fun k x hk => ?_, fun h => by cases h⟩⟩
    · obtain ⟨i, hi, rfl⟩ := List.mem_map.1 hx
      have := List.mem_range.1 hi
      exact (hX i (by omega)).2.2
    · obtain ⟨hk1, rfl⟩ := hget k x hk
      obtain ⟨b, off, spot⟩ := a
      have c0 := (hall k (by omega)).1
      have c1 := (hall k (by omega)).2.1
      rw [(hX k (by omega)).1] at c0
      rw [(hX k (by omega)).2.1] at c1
      have hspot : spot = none := by
        have := World.cell?_spot (hall 0 (by omega)).1
        simpa [Addr.add] using this
      subst hspot
      rw [Addr.add_lit] at c0 c1
      exact ⟨b, off, rfl, Lib.lt_of_cell c0, c0, by rw [Nat.add_assoc]; exact c1⟩
end Go.Proofs.YtnomcldpbkinmaaGreatDoor.Tg

/- Plain mathematics of WellNests' last loop; the tag's box. -/
set_option linter.unusedSimpArgs false
set_option linter.unusedVariables false
namespace Go.Proofs.YtnomcldpbkinmaaGreatDoor.Wl
open Go.RowKit

/-- What the loop has found behind i events of m: k of l. -/
def NsK (tu l : List Ev) (i k : Nat) : Prop := 1 ≤ i ∧ k = min (i - 1 - tu.length) l.length
theorem ns_step {O C : Ev} {u v : ByteArray} {l m : List Ev} {i k : Nat} (hm : m = [O] ++ (toldF u ++ l) ++ (toldF v ++ [C])) (hl : ∃ x, l[0]? = some x ∧ kd x = 1) (h : NsK (toldF u) l i k) (hi : i + 1 < m.length) :
    ∃ x, m[i]? = some x ∧ ((∃ y, k < l.length ∧ l[k]? = some y ∧ x = y ∧ NsK (toldF u) l (i + 1) (k + 1)) ∨ (kd x = 2 ∧ NsK (toldF u) l (i + 1) k ∧ ((∃ y, k < l.length ∧ l[k]? = some y ∧ kd y ≠ 2) ∨ k = l.length))) := by
  obtain ⟨h1, h2⟩ := h
  have hu := told_len u
  have hv := told_len v
  have hlen : m.length = 1 + ((toldF u).length + l.length) + ((toldF v).length + 1) := by rw [hm]; simp; omega
  obtain ⟨j, rfl⟩ : ∃ j, i = j + 1 := ⟨i - 1, by omega⟩
  have hg : m[j + 1]? = ((toldF u ++ l) ++ (toldF v ++ [C]))[j]? := by rw [hm]; rfl
  have two : ∀ w : ByteArray, ∀ q x, (toldF w)[q]? = some x → kd x = 2 := fun w q x hx => by
    by_cases hw : w.size = 0
    · rw [told_nil hw] at hx
      exact absurd (List.getElem?_eq_some_iff.1 hx).1 (Nat.not_lt_zero _)
    · have e : toldF w = [.txt w] := by unfold toldF; rw [if_neg hw]
      rw [e] at hx
      have hq := (List.getElem?_eq_some_iff.1 hx).1
      have : q = 0 := by simp at hq; exact hq
      subst this
      have : Ev.txt w = x := by simpa using hx
      rw [← this]
      rfl
  by_cases c1 : j < (toldF u).length
  · have hx := List.getElem?_eq_getElem c1
    have hk : k = 0 := by omega
    subst hk
    obtain ⟨y, hy, hy1⟩ := hl
    refine ⟨(toldF u)[j], by rw [hg, List.append_assoc, List.getElem?_append_left c1, hx], .inr ⟨two u j _ hx, ⟨by omega, by omega⟩, .inl ⟨y, (List.getElem?_eq_some_iff.1 hy).1, hy, by rw [hy1]; decide⟩⟩⟩
  · by_cases c2 : j - (toldF u).length < l.length
    · have hk : k = j - (toldF u).length := by omega
      have hx := List.getElem?_eq_getElem c2
      refine ⟨l[j - (toldF u).length], by rw [hg, List.append_assoc, List.getElem?_append_right (by omega), List.getElem?_append_left c2, hx], .inl ⟨l[j - (toldF u).length], by omega, by rw [hk]; exact hx, rfl, by omega, by omega⟩⟩
    · have hk : k = l.length := by omega
      have c3 : j - ((toldF u).length + l.length) < (toldF v).length := by omega
      have hx := List.getElem?_eq_getElem c3
      refine ⟨(toldF v)[j - ((toldF u).length + l.length)], ?_, .inr ⟨two v _ _ hx, ⟨by omega, by omega⟩, .inr hk⟩⟩
      rw [hg, List.getElem?_append_right (by simp; omega), List.length_append, List.getElem?_append_left c3, hx]
theorem ns_end {O C : Ev} {u v : ByteArray} {l m : List Ev} {i k : Nat} (hm : m = [O] ++ (toldF u ++ l) ++ (toldF v ++ [C])) (h : NsK (toldF u) l i k) (hi : m.length ≤ i + 1) (hi2 : i + 1 ≤ m.length) : k = l.length := by
  obtain ⟨h1, h2⟩ := h
  have hlen : m.length = 1 + ((toldF u).length + l.length) + ((toldF v).length + 1) := by rw [hm]; simp; omega
  omega
theorem run_head {l : List Ev} {n : Nat} {p : Bool} (h : runW l = some (n, false, p)) : ∃ x, l[0]? = some x ∧ kd x = 1 := by
  match l, h with
  | [], h => cases h
  | x :: l, h =>
    refine ⟨x, rfl, ?_⟩
    have h2 : l.foldl stepW (stepW (some (0, true, false)) x) = some (n, false, p) := h
    cases x with
    | opn a b => rfl
    | txt a =>
      have e : stepW (some (0, true, false)) (.txt a) = none := rfl
      rw [e, run_none] at h2
      cases h2
    | cls =>
      have e : stepW (some (0, true, false)) .cls = none := rfl
      rw [e, run_none] at h2
      cases h2
/-- There are few events. -/
theorem ev_few (L : List Int) : ∀ (d a : Nat) (s : St) (out : List Ev), L.length - a ≤ d → a ≤ L.length → out.length ≤ 3 * a → (evR L a s out).1.length ≤ 3 * (L.length + 1)
  | d, a, s, out, hd, ha, h => by
    by_cases c1 : (nx L a).2.2 = 0
    · by_cases c2 : (takeF s (tokF (nx L a).1)).2.2 = 0
      · have h3 := take_len (s := s) (tokF (nx L a).1)
        by_cases c3 : L.length ≤ a
        · rw [ev_last out (by omega) c1 c2]
          show (out ++ _).length ≤ _
          rw [List.length_append]
          omega
        · have hs := (nx_fit L a (by omega)).size c1
          rw [List.length_drop] at hs
          rw [ev_go out (by omega) c1 c2]
          cases d with
          | zero => omega
          | succ d => exact ev_few L d _ _ _ (by omega) (by omega) (by rw [List.length_append]; omega)
      · rw [ev_bad out ha c1 c2]
        show out.length ≤ _
        omega
    · rw [ev_err s out ha c1]
      show out.length ≤ _
      omega
theorem evF_few (L : List Int) : (evF L).1.length ≤ 3 * (L.length + 1) := ev_few L _ 0 st0 [] (Nat.le_refl _) (Nat.zero_le _) (Nat.zero_le _)
/-- Where the last loop stands. -/
def NsRel (mn ln : Nat) (tu l : List Ev) (w8 : World) (kv iv : Value) (wr : World) : Prop :=
  ∃ i k : Nat, kv = .int .i64 (k : Int) ∧ iv = .int .i64 (i : Int) ∧ i ≤ mn ∧ k ≤ ln ∧ Hid (NsK tu l i k) ∧ Hid (Below w8.heap.size w8 wr)
theorem nsk0 (tu l : List Ev) : NsK tu l 1 0 := ⟨Nat.le_refl _, by simp⟩
/-- The tag's box. -/
structure TB (w : World) (nm : ByteArray) (A : Option Addr) (n c : Nat) (W : World) : Prop where
  blk : W.heap[w.heap.size]? = some (.cells #[.string nm, .slice A n c] 53 (0, 0))
  bel : Below w.heap.size w W
  gl : Gl W
section
variable {w W W' : World} {nm : ByteArray} {A : Option Addr} {n c : Nat}
theorem TB.lt (h : TB w nm A n c W) : w.heap.size < W.heap.size := (Array.getElem?_eq_some_iff.1 h.blk).1
theorem TB.keep (h : TB w nm A n c W) (hb : Below W.heap.size W W') : TB w nm A n c W' := ⟨(hb.block _ h.lt).trans h.blk, h.bel.trans (hb.mono h.bel.size), h.gl.after hb⟩
theorem TB.c0 (h : TB w nm A n c W) : W.cell? ⟨w.heap.size, 0, none⟩ = some (.string nm) := Nz.Sc.cells_of h.blk 0 rfl
theorem TB.c1 (h : TB w nm A n c W) : W.cell? ⟨w.heap.size, 1, none⟩ = some (.slice A n c) := Nz.Sc.cells_of h.blk 1 rfl
theorem tb0 (hG : Gl w) : TB w nm A n c (w.alloc (.cells #[.string nm, .slice A n c] 53)) := ⟨Nz.Sc.nblk w 53 _, (Below.refl _ w).alloc (Nat.le_refl _) _, hG.alloc _⟩
end
/-- A text's first five bytes. -/
theorem decl_five {s : ByteArray} (h : ¬ (5 ≤ s.size ∧ (s.extract 0 5).toList = [60, 63, 120, 109, 108])) : wDecl.isPrefixOf (byts s) = false := by
  cases hq : wDecl.isPrefixOf (byts s) with
  | false => rfl
  | true =>
    exfalso
    have hp := List.isPrefixOf_iff_prefix.1 hq
    have hl := hp.length_le
    rw [byts_len] at hl
    have hl5 : 5 ≤ s.size := hl
    apply h
    refine ⟨hl5, ?_⟩
    have e1 : byts (s.extract 0 5) = wDecl := by
      rw [byts_to]
      exact (List.prefix_iff_eq_take.1 hp).symm
    have e2 : s.extract 0 5 = ⟨#[60, 63, 120, 109, 108]⟩ := byts_inj (e1.trans rfl)
    rw [e2, Lib.toList_data]
end Go.Proofs.YtnomcldpbkinmaaGreatDoor.Wl
