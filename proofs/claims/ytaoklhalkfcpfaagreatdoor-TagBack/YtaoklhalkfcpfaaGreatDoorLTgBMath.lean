/-
  Plain mathematics: a tag that is printed, with whatever blanks between, is read as it was.
-/
import Derived.Test.YtaoklhalkfcpfaaGreatDoorG22
set_option linter.unusedSimpArgs false
set_option linter.unusedVariables false
namespace Go.Proofs.YtaoklhalkfcpfaaGreatDoor
open Go.RowKit

theorem byts_bln (s : ByteArray) : byts s = (Nz.bl s).map (fun n : Nat => (n : Int)) := by simp [byts, Nz.bl]
theorem isN_ok {A : ByteArray} (h : isN A = true) : ∀ x ∈ Nz.Rn (Nz.bl A), Nz.Ok x := by
  unfold isN Nz.splitA at h
  rcases Nz.ci_cases A with ⟨h1, h2⟩ | ⟨i, h1, h2, h3, h4⟩
  · rw [if_pos h1] at h
    have hp : Nz.pl (Nz.bl A) = true := by
      cases hq : Nz.pl (Nz.bl A)
      · rw [hq, if_neg (by decide)] at h
        exact h
      · rfl
    exact fun x hx => .inr (Nz.pl_ok hp x hx)
  · rw [if_neg (by rw [h1]; omega), h1, Int.toNat_natCast] at h
    have hp : Nz.pl (Nz.bl (A.extract 0 i)) = true ∧ Nz.pl (Nz.bl (A.extract (i + 1) A.size)) = true := by
      by_cases hq : Nz.pl (Nz.bl (A.extract 0 i)) = true ∧ Nz.pl (Nz.bl (A.extract (i + 1) A.size)) = true
      · exact hq
      · rw [if_neg hq] at h
        cases h
    rw [Nz.bl_pre, Nz.bl_post] at hp
    rw [h3, Nz.Rn_asc _ _ _ 58 (by omega) (Nat.le_refl _)]
    intro x hx
    rcases List.mem_append.1 hx with hx | hx
    · exact .inr (Nz.pl_ok hp.1 x hx)
    · rcases List.mem_cons.1 hx with hx | hx
      · exact .inl (by rw [hx]; rfl)
      · exact .inr (Nz.pl_ok hp.2 x hx)
theorem not_ok {c : Nat} (h : Blank (c : Int) ∨ (c : Int) = 61) : c < 128 ∧ ¬ Nz.Ok (c : Int) := by
  refine ⟨?_, ?_⟩
  · unfold Blank at h; omega
  · unfold Nz.Ok
    rintro (e | e)
    · unfold Blank at h; omega
    · rcases h with h | h
      · exact blank_part h e
      · rw [h] at e
        exact absurd e (by decide)
/-- The stretch of a name that stands first. -/
theorem name_cut (u A : ByteArray) (rest : List Int) (h : byts u = byts A ++ rest) (hN : isN A = true) (hr : rest = [] ∨ ∃ c r, rest = c :: r ∧ (Blank c ∨ c = 61)) :
    Nz.sn u 0 = A.size ∧ Nz.sx u 0 = A ∧ byts (Nz.fr u A.size) = rest := by
  have hOk := isN_ok hN
  have hbl : Nz.bl u = Nz.bl A ++ (Nz.bl u).drop A.size := by
    have hz : (Nz.bl A).length = A.size := Nz.bl_len A
    have e : (Nz.bl u).take A.size = Nz.bl A := by
      have h2 := congrArg (List.map Int.toNat) h
      rw [byts_bln u, byts_bln A, List.map_append, List.map_map, List.map_map] at h2
      have id1 : (Int.toNat ∘ fun n : Nat => (n : Int)) = id := by funext n; simp
      rw [id1, List.map_id, List.map_id] at h2
      rw [h2, ← hz, List.take_left]
    rw [← e, List.take_append_drop]
  have hd : (byts u).drop A.size = rest := by rw [h, ← byts_len A, List.drop_left]
  have hsn : Nz.sn u 0 = A.size := by
    unfold Nz.sn
    rw [List.drop_zero, hbl]
    have hdr : ((Nz.bl u).drop A.size).map (fun n : Nat => (n : Int)) = rest := by
      rw [List.map_drop, ← byts_bln]
      exact hd
    rcases hr with hr | ⟨c, r, hr, hc⟩
    · rw [hr] at hdr
      have : (Nz.bl u).drop A.size = [] := by simpa using hdr
      rw [this, List.append_nil]
      have h32 := Nz.St_full _ (Nz.bl A) [] 32 (by omega) (not_ok (c := 32) (.inl (by decide))).2 (Nat.le_refl _) hOk
      have hs := Nz.St_self _ (Nz.bl A ++ [32]) (Nat.le_refl _)
      rw [h32, List.take_left] at hs
      rw [hs]
      exact Nz.bl_len A
    · rw [hr] at hdr
      cases hq : (Nz.bl u).drop A.size with
      | nil => rw [hq] at hdr; simp at hdr
      | cons c' r' =>
        rw [hq] at hdr
        have hc' : (c' : Int) = c := by simpa using (List.cons.inj hdr).1
        have := not_ok (c := c') (by rw [hc']; exact hc)
        rw [Nz.St_full _ (Nz.bl A) r' c' this.1 this.2 (Nat.le_refl _) hOk]
        exact Nz.bl_len A
  refine ⟨hsn, ?_, ?_⟩
  · rw [sx_zero, hsn]
    apply byts_inj
    rw [byts_to, h, ← byts_len A, List.take_left]
  · rw [byts_fr]
    exact hd
def Bks (b : List Int) : Prop := ∀ x ∈ b, blk? x = true
theorem tw_blk : ∀ (b r : List Int), Bks b → (r = [] ∨ ∃ c t, r = c :: t ∧ blk? c = false) → (b ++ r).takeWhile blk? = b
  | [], r, _, h => by
    rcases h with rfl | ⟨c, t, rfl, h⟩
    · rfl
    · rw [List.nil_append, List.takeWhile_cons_of_neg (by rw [h]; decide)]
  | x :: b, r, hb, h => by
    rw [List.cons_append, List.takeWhile_cons_of_pos (hb x (List.mem_cons_self ..)), tw_blk b r (fun y hy => hb y (List.mem_cons_of_mem _ hy)) h]
/-- Blanks that stand first. -/
theorem skip_cut (u : ByteArray) (b r : List Int) (h : byts u = b ++ r) (hb : Bks b) (hr : r = [] ∨ ∃ c t, r = c :: t ∧ blk? c = false) : bk u = b.length ∧ byts (sk u) = r := by
  have e : bk u = b.length := by unfold bk; rw [h, tw_blk b r hb hr]
  refine ⟨e, ?_⟩
  unfold sk
  rw [byts_fr, e, h, List.drop_left]
/-- An attribute's text, with blanks. -/
def atT (b1 b2 b3 : List Int) (x : ByteArray × ByteArray) : List Int := b1 ++ (byts x.1 ++ (b2 ++ (61 :: (b3 ++ (34 :: (escF true (byts x.2) ++ [34]))))))
def txF (b1 b2 b3 b4 : List Int) (nm : ByteArray) (l : List (ByteArray × ByteArray)) : List Int := byts nm ++ (l.flatMap (atT b1 b2 b3) ++ b4)
theorem esc_no34 (l : List Int) : (34 : Int) ∉ escF true l := by
  intro h
  unfold escF at h
  obtain ⟨c, _, hc⟩ := List.mem_flatMap.1 h
  unfold escB at hc
  repeat' split at hc
  all_goals simp at hc
  all_goals first
    | omega
    | (rename_i h5 _ _; exact h5 ⟨rfl, by omega⟩)
    | (simp_all)
theorem head_bk {b r : List Int} {c : Int} (hb : Bks b) (hc : c = 61 ∨ Blank c) : ∃ d t, b ++ c :: r = d :: t ∧ (Blank d ∨ d = 61) := by
  cases b with
  | nil => exact ⟨c, r, rfl, hc.symm⟩
  | cons x b =>
    refine ⟨x, b ++ c :: r, rfl, .inl ?_⟩
    have := hb x (List.mem_cons_self ..)
    unfold blk? at this
    exact of_decide_eq_true this
theorem fr1_bytes (u : ByteArray) (c : Int) (t : List Int) (h : byts u = c :: t) : hd u = c ∧ byts (Nz.fr u 1) = t := by
  refine ⟨by unfold hd; rw [h]; rfl, ?_⟩
  rw [byts_fr, h]
  rfl
theorem pair_back (u : ByteArray) (b2 b3 T : List Int) (x : ByteArray × ByteArray) (h : byts u = byts x.1 ++ (b2 ++ (61 :: (b3 ++ (34 :: (escF true (byts x.2) ++ (34 :: T))))))) (h2 : Bks b2) (h3 : Bks b3) (hN : isN x.1 = true) (hR : Rt (byts x.2)) :
    (pairF u).1 = 0 ∧ (pairF u).2.1 = x.1 ∧ (pairF u).2.2.1 = x.2 ∧ byts (pairF u).2.2.2 = T := by
  obtain ⟨e1, e2, e3⟩ := name_cut u x.1 _ h hN (.inr (head_bk h2 (.inl rfl)))
  obtain ⟨_, e4⟩ := skip_cut (Nz.fr u x.1.size) b2 _ e3 h2 (.inr ⟨61, _, rfl, by decide⟩)
  obtain ⟨e5, e6⟩ := fr1_bytes _ _ _ e4
  obtain ⟨_, e7⟩ := skip_cut (Nz.fr (sk (Nz.fr u x.1.size)) 1) b3 _ e6 h3 (.inr ⟨34, _, rfl, by decide⟩)
  obtain ⟨e8, e9⟩ := fr1_bytes _ _ _ e7
  generalize hV : Nz.fr (sk (Nz.fr (sk (Nz.fr u x.1.size)) 1)) 1 = V at *
  have hlen : V.size = (escF true (byts x.2)).length + (T.length + 1) := by rw [← byts_len, e9, List.length_append, List.length_cons]
  have hq : qi 34 V = ((escF true (byts x.2)).length : Nat) := by
    apply qi_some
    · omega
    · rw [e9, List.getD_eq_getElem?_getD, List.getElem?_append_right (Nat.le_refl _), Nat.sub_self]
      rfl
    · intro j hj
      rw [e9, List.getD_eq_getElem?_getD, List.getElem?_append_left hj, List.getElem?_eq_getElem hj]
      intro e
      apply esc_no34 (byts x.2)
      have : (escF true (byts x.2))[j] = 34 := e
      rw [← this]
      exact List.getElem_mem _
  have hin : byts (V.extract 0 (escF true (byts x.2)).length) = escF true (byts x.2) := by rw [byts_to, e9, List.take_left]
  have hans : ansF true (byts (V.extract 0 (escF true (byts x.2)).length)) = (byts x.2, 0, 0) := by
    rw [hin]
    exact ans_ok (back_F true (byts x.2) (byts_nn x.2) hR)
  have key : pairF u = (0, x.1, strOfNums (byts x.2), Nz.fr V ((escF true (byts x.2)).length + 1)) := by
    unfold pairF
    rw [e2, e1, if_neg (by rw [hN]; decide), if_neg (by rw [e5]; decide), if_pos e8, hV]
    unfold quoF
    rw [hq, if_neg (by omega), Int.toNat_natCast, hans, if_neg (fun h => h rfl)]
  rw [key]
  refine ⟨rfl, rfl, (str_of_byts rfl).symm, ?_⟩
  show byts (Nz.fr V _) = T
  rw [byts_fr, e9, ← List.drop_drop, List.drop_left]
  rfl
theorem atT_app (b1 b2 b3 : List Int) (x : ByteArray × ByteArray) (T : List Int) : atT b1 b2 b3 x ++ T = b1 ++ (byts x.1 ++ (b2 ++ (61 :: (b3 ++ (34 :: (escF true (byts x.2) ++ (34 :: T))))))) := by
  unfold atT
  simp only [List.append_assoc, List.cons_append, List.nil_append]
/-- A name's first byte is no blank. -/
theorem name_head {A : ByteArray} (r : List Int) (h : isN A = true) : ∃ c t, byts A ++ r = c :: t ∧ blk? c = false := by
  cases hb : byts A with
  | nil =>
    exfalso
    have hz : A.size = 0 := by rw [← byts_len, hb]; rfl
    have hA : Nz.bl A = [] := List.eq_nil_of_length_eq_zero (by rw [Nz.bl_len]; exact hz)
    unfold isN Nz.splitA at h
    rcases Nz.ci_cases A with ⟨h1, h2⟩ | ⟨i, h1, h2, h3, h4⟩
    · rw [if_pos h1, hA, Nz.pl_nil, if_neg (by decide)] at h
      cases h
    · omega
  | cons c t =>
    refine ⟨c, t ++ r, rfl, ?_⟩
    cases hc : blk? c
    · rfl
    · exfalso
      have hbl : Blank c := of_decide_eq_true hc
      cases hq : Nz.bl A with
      | nil =>
        have := byts_bln A
        rw [hb, hq] at this
        cases this
      | cons c' t' =>
        have e := byts_bln A
        rw [hb, hq, List.map_cons] at e
        have hc' : c = (c' : Int) := (List.cons.inj e).1
        have hno := not_ok (c := c') (by rw [← hc']; exact .inl hbl)
        have hR := Nz.Rn_cons (Nz.bl A) (by rw [hq]; simp)
        have hd := Nz.dN_asc0 t' c' hno.1
        rw [hq, hd] at hR
        have := isN_ok h (c' : Int) (by rw [hq, hR]; exact List.mem_cons_self ..)
        exact hno.2 this
theorem go_back (nm : ByteArray) (b1 b2 b3 b4 : List Int) (h1 : Bks b1) (hne : b1 ≠ []) (h2 : Bks b2) (h3 : Bks b3) (h4 : Bks b4) :
    ∀ (l2 l1 : List (ByteArray × ByteArray)) (u : ByteArray), RgP nm (l1 ++ l2) → byts u = l2.flatMap (atT b1 b2 b3) ++ b4 → GoF nm l1 u = (0, nm, l1 ++ l2)
  | [], l1, u, hR, hu => by
    have hs := skip_cut u b4 [] (by rw [hu]; simp) h4 (.inl rfl)
    rw [go_done nm l1 u (by rw [← byts_len, hs.2]; rfl), List.append_nil]
  | x :: l2, l1, u, hR, hu => by
    rw [List.flatMap_cons, List.append_assoc, atT_app] at hu
    have hx : (l1 ++ x :: l2)[l1.length]? = some x := by rw [List.getElem?_append_right (Nat.le_refl _), Nat.sub_self]; rfl
    obtain ⟨r1, r2, r3⟩ := hR.2.2 l1.length x hx
    obtain ⟨c, t, hc1, hc2⟩ := name_head (A := x.1) (b2 ++ (61 :: (b3 ++ (34 :: (escF true (byts x.2) ++ (34 :: (l2.flatMap (atT b1 b2 b3) ++ b4))))))) r1
    have hs := skip_cut u b1 _ hu h1 (.inr ⟨c, t, hc1, hc2⟩)
    obtain ⟨p1, p2, p3, p4⟩ := pair_back (sk u) b2 b3 _ x hs.2 h2 h3 r1 r2
    have c1 : (sk u).size ≠ 0 := by
      rw [← byts_len, hs.2, hc1]
      simp
    have c2 : bk u ≠ 0 := by
      rw [hs.1]
      intro e
      exact hne (List.eq_nil_of_length_eq_zero e)
    have hhas : hasN (pairF (sk u)).2.1 l1 = false := by
      rw [p2]
      exact hasn_no fun j y hj hy => r3 j y hj (by rw [List.getElem?_append_left hj]; exact hy)
    have hlen : ¬ 32 ≤ l1.length := by
      have := hR.2.1
      rw [List.length_append, List.length_cons] at this
      omega
    rw [go_ok nm l1 u c1 c2 p1 hhas hlen, p2, p3]
    have e : l1 ++ x :: l2 = (l1 ++ [(x.1, x.2)]) ++ l2 := by simp
    rw [e]
    exact go_back nm b1 b2 b3 b4 h1 hne h2 h3 h4 l2 (l1 ++ [(x.1, x.2)]) _ (by rw [← e]; exact hR) p4
theorem back_par (nm : ByteArray) (l : List (ByteArray × ByteArray)) (b1 b2 b3 b4 : List Int) (h1 : Bks b1) (hne : b1 ≠ []) (h2 : Bks b2) (h3 : Bks b3) (h4 : Bks b4) (hR : RgP nm l) (u : ByteArray) (hu : byts u = txF b1 b2 b3 b4 nm l) : parF u = (0, nm, l) := by
  unfold txF at hu
  have hh : l.flatMap (atT b1 b2 b3) ++ b4 = [] ∨ ∃ c r, l.flatMap (atT b1 b2 b3) ++ b4 = c :: r ∧ (Blank c ∨ c = 61) := by
    cases l with
    | nil =>
      cases b4 with
      | nil => exact .inl rfl
      | cons c r => exact .inr ⟨c, r, rfl, .inl (of_decide_eq_true (h4 c (List.mem_cons_self ..)))⟩
    | cons x l =>
      right
      rw [List.flatMap_cons, List.append_assoc, atT_app]
      cases b1 with
      | nil => exact absurd rfl hne
      | cons c r => exact ⟨c, _, rfl, .inl (of_decide_eq_true (h1 c (List.mem_cons_self ..)))⟩
  obtain ⟨e1, e2, e3⟩ := name_cut u nm _ hu hR.1 hh
  unfold parF
  rw [e2, e1, if_neg (by rw [hR.1]; decide)]
  exact go_back nm b1 b2 b3 b4 h1 hne h2 h3 h4 l [] _ hR e3
theorem pr_tx (nm : ByteArray) (l : List (ByteArray × ByteArray)) : prF nm l = txF [32] [] [] [] nm l := by
  unfold prF txF
  have e : atP = atT [32] [] [] := by funext x; rfl
  rw [e, List.append_nil]
theorem bks32 : Bks [32] := by
  intro x hx
  have : x = 32 := by simpa using hx
  subst this
  rfl
theorem bks0 : Bks [] := fun x hx => by simp at hx
theorem print_back (nm : ByteArray) (l : List (ByteArray × ByteArray)) (hR : RgP nm l) (hb : byts (strOfNums (prF nm l)) = prF nm l) : parF (strOfNums (prF nm l)) = (0, nm, l) :=
  back_par nm l [32] [] [] [] bks32 (by simp) bks0 bks0 bks0 hR _ (by rw [hb, pr_tx])
/-- Printed bytes are bytes. -/
theorem pr_byt (nm : ByteArray) (l : List (ByteArray × ByteArray)) : Byt (prF nm l) := by
  unfold prF
  refine (Byt.byts nm).app ?_
  intro y hy
  obtain ⟨x, _, hx⟩ := List.mem_flatMap.1 hy
  unfold atP at hx
  rcases List.mem_cons.1 hx with hx | hx
  · omega
  rcases List.mem_append.1 hx with hx | hx
  · exact Byt.byts x.1 y hx
  rcases List.mem_cons.1 hx with hx | hx
  · omega
  rcases List.mem_cons.1 hx with hx | hx
  · omega
  rcases List.mem_append.1 hx with hx | hx
  · exact escF_byt true _ (Byt.byts x.2) y hx
  · have : y = 34 := by simpa using hx
    omega
theorem pr_str (nm : ByteArray) (l : List (ByteArray × ByteArray)) : byts (strOfNums (prF nm l)) = prF nm l :=
  byts_str _ (fun x hx => (pr_byt nm l x hx).1) (fun x hx => (pr_byt nm l x hx).2)
end Go.Proofs.YtaoklhalkfcpfaaGreatDoor
