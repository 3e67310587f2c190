/-
  Merged by program out of the texts RNext2, AllT of one seat.
-/
import Derived.Test.YtmbghdpoeahnaaaGreatDoorG31

/- The walk of the document's Next, whole. -/
set_option linter.unusedSimpArgs false
set_option linter.unusedVariables false
namespace Go.Proofs.YtmbghdpoeahnaaaGreatDoor
open Go.RowKit

theorem byts_bgK (k : Nat) (hk : k < 4) : byts (bgK k) = [bCdata, bComm, bInst, bEnd].getD k [] := by
  rcases (show k = 0 ∨ k = 1 ∨ k = 2 ∨ k = 3 by omega) with rfl | rfl | rfl | rfl
  all_goals rfl
theorem atk_any (s : ByteArray) (a k : Nat) (hs : s.size ≤ 1000) (ha : a ≤ s.size) (hk : k < 4) (b : Bool) (h : (byts (bgK k)).isPrefixOf ((byts s).drop a) = b) : AtC s a (bgK k) b := fun W =>
  rat_any s (bgK k) a W (by omega) (by have := (bs_at k hk).2.2.1; omega) ha b h
theorem in_any (k : Nat) (hk : k < 4) (t : ByteArray) (a : Nat) (ht : t.size ≤ 1000) : InC k t a (([dataR, commR, instR (decide (a = 0)), endR].getD k dataR) (byts t)) := fun W => by
  rcases (show k = 0 ∨ k = 1 ∨ k = 2 ∨ k = 3 by omega) with rfl | rfl | rfl | rfl
  · exact in0_any t a W ht
  · exact in1_any t a W ht
  · exact in2_any t a W ht
  · exact in3_any t a W ht
/-- What is wrong with a token's bytes is wrong with what stands behind its beginning. -/
theorem wrong_beg (l b r : List Int) (n : Nat) (hl : Bts l) (hb : b.isPrefixOf l = true) (hr : l.drop b.length = r) (hc : ∀ c ∈ b, Chr c ∧ c < 128) : wrongF (l.take (b.length + n)) = wrongF (r.take n) := by
  obtain ⟨t, rfl⟩ := List.isPrefixOf_iff_prefix.1 hb
  rw [List.drop_left] at hr
  subst hr
  rw [List.take_length_add_append]
  refine wrongF_ascs b _ hc fun x hx => (hl x ?_).1
  exact List.mem_append_right _ (List.mem_of_mem_take hx)
theorem kind_tok (s : ByteArray) (a m : Nat) (rd : List Int → Tk × Int) (st bg : List Int) (hs : s.size ≤ 1000) (ha : a < s.size) (hm : m < 4) (hbg : byts (bgK m) = bg) (hst : byts (stK m) = st) (hc : ∀ c ∈ bg, Chr c ∧ c < 128)
    (hrd : ∀ t : ByteArray, t.size ≤ 1000 → InC m t a (rd (byts t))) (hp : bg.isPrefixOf ((byts s).drop a) = true) : RM s a m (span bg.length st rd ((byts s).drop a)) := by
  have hz : (bgK m).size = bg.length := by rw [← hbg, byts_len]
  have hz2 : (stK m).size = st.length := by rw [← hst, byts_len]
  have hl := (List.isPrefixOf_iff_prefix.1 hp).length_le
  rw [List.length_drop, byts_len] at hl
  have hd : ((byts s).drop a).drop bg.length = (byts s).drop (a + bg.length) := by rw [List.drop_drop]
  have C := fun W => rfind_any s (stK m) (a + (bgK m).size) W (by omega) (by have := (bs_at m hm).2.2.2; omega) (by omega)
  rw [hst] at C
  unfold findI at C
  unfold span
  rw [hd]
  rw [hz] at C
  cases hf : fnd st ((byts s).drop (a + bg.length)) with
  | none =>
    rw [hf] at C
    exact .cut (Lib.hid fun W => by rw [hz]; exact C W)
  | some n =>
    rw [hf] at C
    have hb := (fnd_some hf).1
    rw [List.length_drop, byts_len] at hb
    have h1 : a + (bgK m).size ≤ a + bg.length + n := by omega
    have h2 : a + bg.length + n + (stK m).size ≤ s.size := by omega
    have C' : FdC s (a + (bgK m).size) (stK m) ((a + bg.length + n : Nat) : Int) := fun W => by rw [hz]; exact C W
    have hE : byts (s.extract a (a + bg.length + n + (stK m).size)) = ((byts s).drop a).take (bg.length + (n + st.length)) := by
      rw [mid_ext, hz2, show a + bg.length + n + st.length - a = bg.length + (n + st.length) by omega]
    have hW := wrong_beg ((byts s).drop a) bg ((byts s).drop (a + bg.length)) (n + st.length) ((bts_byts s).drop a) hp hd hc
    have C2 : WrC (s.extract a (a + bg.length + n + (stK m).size)) (wrongF (((byts s).drop (a + bg.length)).take (n + st.length))) := fun W => by
      have := rwrong_any (s.extract a (a + bg.length + n + (stK m).size)) W (by rw [ByteArray.size_extract]; omega)
      rw [hE, hW] at this
      exact this
    have hI : byts (s.extract (a + (bgK m).size) (a + bg.length + n)) = ((byts s).drop (a + bg.length)).take n := by
      rw [mid_ext, hz, show a + bg.length + n - (a + bg.length) = n by omega]
    have C3 := hrd (s.extract (a + (bgK m).size) (a + bg.length + n)) (by rw [ByteArray.size_extract]; omega)
    rw [hI] at C3
    show RM s a m (fin bg.length n st.length rd ((byts s).drop (a + bg.length)))
    unfold fin
    by_cases g1 : wrongF (((byts s).drop (a + bg.length)).take (n + st.length)) ≠ 0
    · rw [if_pos g1]
      exact .bad _ _ h1 h2 g1 (Lib.hid C') (Lib.hid C2)
    rw [if_neg g1]
    have g1' : wrongF (((byts s).drop (a + bg.length)).take (n + st.length)) = 0 := by simpa using g1
    rw [g1'] at C2
    by_cases g2 : (rd (((byts s).drop (a + bg.length)).take n)).2 ≠ 0
    · rw [if_pos g2]
      exact .err _ _ _ h1 h2 g2 (Lib.hid C') (Lib.hid C2) (Lib.hid C3)
    · rw [if_neg g2]
      have g2' : (rd (((byts s).drop (a + bg.length)).take n)).2 = 0 := by simpa using g2
      have C3' : InC m (s.extract (a + (bgK m).size) (a + bg.length + n)) a ((rd (((byts s).drop (a + bg.length)).take n)).1, 0) := by
        rw [← g2']
        exact C3
      have := RM.ok (s := s) (a := a) (m := m) _ _ h1 h2 (Lib.hid C') (Lib.hid C2) (Lib.hid C3')
      rw [show a + bg.length + n + (stK m).size - a = bg.length + (n + st.length) by omega] at this
      exact this
theorem find_lt (t : ByteArray) (ht : t.size ≤ 1000) : (60 ∈ byts t ∧ ∃ y, 0 ≤ y ∧ FdC t 0 ⟨#[60]⟩ y) ∨ (60 ∉ byts t ∧ FdC t 0 ⟨#[60]⟩ (-1)) := by
  have C := fun W => rfind_any t ⟨#[60]⟩ 0 W (by omega) (by decide) (Nat.zero_le _)
  have hq : byts ⟨#[60]⟩ = [60] := rfl
  rw [hq] at C
  unfold findI at C
  rw [List.drop_zero] at C
  have hm := fnd_mem 60 (byts t)
  cases hf : fnd [60] (byts t) with
  | some n =>
    rw [hf] at C hm
    exact .inl ⟨hm.1 rfl, _, by show (0 : Int) ≤ ((0 + n : Nat) : Int); omega, C⟩
  | none =>
    rw [hf] at C hm
    exact .inr ⟨fun h => absurd (hm.2 h) (by simp), C⟩
theorem start_se (s : ByteArray) (a t : Nat) (hs : s.size ≤ 1000) (h1 : a + 1 ≤ t) (h2 : t < s.size) (h6 : (byts s).getD a 0 = 60) (hu : unq 0 ((byts s).drop (a + 1)) = some (t - (a + 1))) : SE s a t (startF ((byts s).drop a)) := by
  have hd : ((byts s).drop a).drop 1 = (byts s).drop (a + 1) := by rw [List.drop_drop]
  have hh : ((byts s).drop a).getD 0 0 = 60 := by rw [getD_drop]; exact h6
  unfold startF
  rw [hd, hu]
  have hW : wrongF (((byts s).drop a).take (1 + (t - (a + 1) + 1))) = _ := wrong_beg ((byts s).drop a) [60] ((byts s).drop (a + 1)) (t - (a + 1) + 1) ((bts_byts s).drop a) (head_pre hh) hd (by decide)
  have hE : byts (s.extract a (t + 1)) = ((byts s).drop a).take (1 + (t - (a + 1) + 1)) := by
    rw [mid_ext]
    congr 1
    omega
  have C2 : WrC (s.extract a (t + 1)) (wrongF (((byts s).drop (a + 1)).take (t - (a + 1) + 1))) := fun W => by
    have := rwrong_any (s.extract a (t + 1)) W (by rw [ByteArray.size_extract]; omega)
    rw [hE, hW] at this
    exact this
  have hI : byts (s.extract (a + 1) t) = ((byts s).drop (a + 1)).take (t - (a + 1)) := mid_ext s (a + 1) t
  show SE s a t (fin 1 (t - (a + 1)) 1 startR ((byts s).drop (a + 1)))
  unfold fin
  by_cases g1 : wrongF (((byts s).drop (a + 1)).take (t - (a + 1) + 1)) ≠ 0
  · rw [if_pos g1]
    exact .bad _ g1 (Lib.hid C2)
  rw [if_neg g1]
  have g1' : wrongF (((byts s).drop (a + 1)).take (t - (a + 1) + 1)) = 0 := by simpa using g1
  rw [g1'] at C2
  have hlen : 1 + (t - (a + 1) + 1) = t + 1 - a := by omega
  rw [← start_same, ← hI, hlen]
  have hsz : (s.extract (a + 1) t).size = t - (a + 1) := by rw [ByteArray.size_extract]; omega
  have key : ∀ y, startD (byts (s.extract (a + 1) t)) = y → SE s a t (if y.2 ≠ 0 then (T0, 0, y.2) else (y.1, t + 1 - a, 0)) → SE s a t (if (startD (byts (s.extract (a + 1) t))).2 ≠ 0 then (T0, 0, (startD (byts (s.extract (a + 1) t))).2) else ((startD (byts (s.extract (a + 1) t))).1, t + 1 - a, 0)) := fun y h k => by rw [h]; exact k
  by_cases g2 : a + 1 < t
  · have hlast : (byts (s.extract (a + 1) t)).getLast? = some ((byts s).getD (t - 1) 0) := by
      rw [last_get _ (by rw [byts_len, hsz]; omega), byts_len, hsz, hI, List.getD_eq_getElem?_getD, List.getElem?_take, if_pos (by omega), List.getElem?_drop, ← List.getD_eq_getElem?_getD, show a + 1 + (t - (a + 1) - 1) = t - 1 by omega]
    by_cases g3 : (byts s).getD (t - 1) 0 = 47
    · have hD : byts (s.extract (a + 1) (t - 1)) = (byts (s.extract (a + 1) t)).dropLast := by
        rw [List.dropLast_eq_take, byts_len, hsz, hI, List.take_take, mid_ext]
        congr 1
        omega
      have e0 : startD (byts (s.extract (a + 1) t)) = if (60 : Int) ∈ byts (s.extract (a + 1) (t - 1)) then (T0, 6) else (⟨1, byts (s.extract (a + 1) (t - 1)), true, false⟩, 0) := by
        unfold startD
        rw [if_pos (by rw [hlast, g3]), hD]
      rcases find_lt (s.extract (a + 1) (t - 1)) (by rw [ByteArray.size_extract]; omega) with ⟨g4, y, hy, C⟩ | ⟨g4, C⟩
      · rw [if_pos g4] at e0
        exact key _ e0 (.emp g2 g3 (Lib.hid C2) y hy (Lib.hid C))
      · rw [if_neg g4] at e0
        exact key _ e0 (.empok g2 g3 (Lib.hid C2) (Lib.hid C) _ (str_of_byts rfl))
    · have e0 : startD (byts (s.extract (a + 1) t)) = if (60 : Int) ∈ byts (s.extract (a + 1) t) then (T0, 6) else (⟨1, byts (s.extract (a + 1) t), false, false⟩, 0) := by
        unfold startD
        rw [if_neg (show ¬ (byts (s.extract (a + 1) t)).getLast? = some 47 from by rw [hlast]; intro h; exact g3 (Option.some.inj h))]
      rcases find_lt (s.extract (a + 1) t) (by omega) with ⟨g4, y, hy, C⟩ | ⟨g4, C⟩
      · rw [if_pos g4] at e0
        exact key _ e0 (.two g2 g3 (Lib.hid C2) y hy (Lib.hid C))
      · rw [if_neg g4] at e0
        exact key _ e0 (.twook g2 g3 (Lib.hid C2) (Lib.hid C) _ (str_of_byts rfl))
  · have g3 : a + 1 = t := by omega
    have hn : byts (s.extract (a + 1) t) = [] := List.eq_nil_of_length_eq_zero (by rw [byts_len, hsz]; omega)
    have e0 : startD (byts (s.extract (a + 1) t)) = if (60 : Int) ∈ byts (s.extract (a + 1) t) then (T0, 6) else (⟨1, byts (s.extract (a + 1) t), false, false⟩, 0) := by
      unfold startD
      rw [if_neg (show ¬ (byts (s.extract (a + 1) t)).getLast? = some 47 from by rw [hn]; simp)]
    rcases find_lt (s.extract (a + 1) t) (by omega) with ⟨g4, y, hy, C⟩ | ⟨g4, C⟩
    · rw [if_pos g4] at e0
      exact key _ e0 (.one g3 (Lib.hid C2) y hy (Lib.hid C))
    · rw [if_neg g4] at e0
      exact key _ e0 (.oneok g3 (Lib.hid C2) (Lib.hid C) _ (str_of_byts rfl))
theorem rmarked_any (s : ByteArray) (a : Nat) (more : Bool) (w : World) (hs : s.size ≤ 1000) (ha : a < s.size) (h6 : (byts s).getD a 0 = 60) :
    Calls Tryz.prog 12 #[.string s, .int .i64 (a : Int), .bool more] w (NxPost (markF (decide (a = 0)) ((byts s).drop a)) a w) := by
  have hh : ((byts s).drop a).getD 0 0 = 60 := by rw [getD_drop]; exact h6
  have at_ : ∀ k, k < 4 → ∀ b, (byts (bgK k)).isPrefixOf ((byts s).drop a) = b → AtC s a (bgK k) b := fun k hk b h => atk_any s a k hs (by omega) hk b h
  unfold markF
  cases p0 : bCdata.isPrefixOf ((byts s).drop a) with
  | true =>
    rw [if_pos rfl]
    exact rmark_hit s a 0 more _ w hs ha h6 (by omega) (Lib.hid fun j hj => by omega) (Lib.hid (at_ 0 (by omega) _ p0))
      (kind_tok s a 0 dataR eCdata bCdata hs ha (by omega) rfl rfl (by decide) (fun t ht => in_any 0 (by omega) t a ht) p0)
  | false =>
  rw [if_neg (by simp)]
  cases p1 : bComm.isPrefixOf ((byts s).drop a) with
  | true =>
    rw [if_pos rfl]
    exact rmark_hit s a 1 more _ w hs ha h6 (by omega) (Lib.hid fun j hj => by
        obtain rfl : j = 0 := (by omega)
        exact at_ 0 (by omega) _ p0) (Lib.hid (at_ 1 (by omega) _ p1))
      (kind_tok s a 1 commR eComm bComm hs ha (by omega) rfl rfl (by decide) (fun t ht => in_any 1 (by omega) t a ht) p1)
  | false =>
  rw [if_neg (by simp)]
  cases p2 : bInst.isPrefixOf ((byts s).drop a) with
  | true =>
    rw [if_pos rfl]
    exact rmark_hit s a 2 more _ w hs ha h6 (by omega) (Lib.hid fun j hj => by
        rcases (show j = 0 ∨ j = 1 by omega) with rfl | rfl
        · exact at_ 0 (by omega) _ p0
        · exact at_ 1 (by omega) _ p1) (Lib.hid (at_ 2 (by omega) _ p2))
      (kind_tok s a 2 (instR (decide (a = 0))) eInst bInst hs ha (by omega) rfl rfl (by decide) (fun t ht => in_any 2 (by omega) t a ht) p2)
  | false =>
  rw [if_neg (by simp)]
  cases p3 : bEnd.isPrefixOf ((byts s).drop a) with
  | true =>
    rw [if_pos rfl]
    exact rmark_hit s a 3 more _ w hs ha h6 (by omega) (Lib.hid fun j hj => by
        rcases (show j = 0 ∨ j = 1 ∨ j = 2 by omega) with rfl | rfl | rfl
        · exact at_ 0 (by omega) _ p0
        · exact at_ 1 (by omega) _ p1
        · exact at_ 2 (by omega) _ p2) (Lib.hid (at_ 3 (by omega) _ p3))
      (kind_tok s a 3 endR eEnd bEnd hs ha (by omega) rfl rfl (by decide) (fun t ht => in_any 3 (by omega) t a ht) p3)
  | false =>
  rw [if_neg (by simp)]
  have HN : Hid (∀ j, j < 4 → AtC s a (bgK j) false) := Lib.hid fun j hj => by
    rcases (show j = 0 ∨ j = 1 ∨ j = 2 ∨ j = 3 by omega) with rfl | rfl | rfl | rfl
    · exact at_ 0 (by omega) _ p0
    · exact at_ 1 (by omega) _ p1
    · exact at_ 2 (by omega) _ p2
    · exact at_ 3 (by omega) _ p3
  have C1 : AtC s a ⟨#[60, 33]⟩ (bBang.isPrefixOf ((byts s).drop a)) := fun W => rat_any s ⟨#[60, 33]⟩ a W (by omega) (by decide) (by omega) _ rfl
  cases p4 : bBang.isPrefixOf ((byts s).drop a) with
  | true =>
    rw [p4] at C1
    rw [if_pos rfl]
    have C2 : AtC s a ⟨#[60, 33, 68, 79, 67, 84, 89, 80, 69]⟩ (bDoc.isPrefixOf ((byts s).drop a)) := fun W => rat_any s ⟨#[60, 33, 68, 79, 67, 84, 89, 80, 69]⟩ a W (by omega) (by decide) (by omega) _ rfl
    cases p5 : bDoc.isPrefixOf ((byts s).drop a) with
    | true =>
      rw [p5] at C2
      rw [if_pos rfl]
      exact rbang_doc s a more w hs ha h6 HN (Lib.hid C1) (Lib.hid C2)
    | false =>
      rw [p5] at C2
      rw [if_neg (by simp)]
      have hX : byts (s.extract a s.size) = (byts s).drop a := by rw [byts_extract, List.take_of_length_le (by rw [byts_len]; omega)]
      have hXs : (s.extract a s.size).size ≤ 1000000 := by rw [ByteArray.size_extract]; omega
      have D : ∀ t : ByteArray, t.size ≤ 1000 → ∀ b, ((byts s).drop a).isPrefixOf (byts t) = b → AtC t 0 (s.extract a s.size) b := fun t ht b hb W => rat_any t (s.extract a s.size) 0 W (by omega) hXs (Nat.zero_le _) b (by rw [hX, List.drop_zero]; exact hb)
      cases r0 : ((byts s).drop a).isPrefixOf bCdata with
      | true =>
        rw [if_pos (.inl rfl)]
        exact rbang_1 s a more w hs ha h6 HN (Lib.hid C1) (Lib.hid C2) (Lib.hid (D _ (by decide) _ r0))
      | false =>
        cases r1 : ((byts s).drop a).isPrefixOf bComm with
        | true =>
          rw [if_pos (.inr (.inl rfl))]
          exact rbang_2 s a more w hs ha h6 HN (Lib.hid C1) (Lib.hid C2) (Lib.hid (D _ (by decide) _ r0)) (Lib.hid (D _ (by decide) _ r1))
        | false =>
          cases r2 : ((byts s).drop a).isPrefixOf bDoc with
          | true =>
            rw [if_pos (.inr (.inr rfl))]
            exact rbang_3 s a more w hs ha h6 HN (Lib.hid C1) (Lib.hid C2) (Lib.hid (D _ (by decide) _ r0)) (Lib.hid (D _ (by decide) _ r1)) (Lib.hid (D _ (by decide) _ r2))
          | false =>
            rw [if_neg (by rintro (h | h | h) <;> simp at h)]
            exact rbang_4 s a more w hs ha h6 HN (Lib.hid C1) (Lib.hid C2) (Lib.hid (D _ (by decide) _ r0)) (Lib.hid (D _ (by decide) _ r1)) (Lib.hid (D _ (by decide) _ r2))
  | false =>
    rw [p4] at C1
    rw [if_neg (by simp)]
    refine rstart_of s a more w hs ha h6 HN _ (Lib.hid C1) (Lib.hid fun h => ?_) (Lib.hid fun t h1 h2 h3 => start_se s a t hs h1 h2 h6 h3)
    unfold startF
    rw [List.drop_drop, h]
theorem rnext_any (s : ByteArray) (a : Nat) (more : Bool) (w : World) (hs : s.size ≤ 1000) (ha : a ≤ s.size) :
    Calls Tryz.prog 12 #[.string s, .int .i64 (a : Int), .bool more] w (NxPost (frontF (decide (a = 0)) more ((byts s).drop a)) a w) := by
  unfold frontF
  by_cases h0 : a = s.size
  · have hn : (byts s).drop a = [] := List.drop_of_length_le (by rw [byts_len]; omega)
    rw [if_pos hn]
    exact rn_end s a more w h0
  · have hlt : a < s.size := by omega
    have hn : (byts s).drop a ≠ [] := drop_ne s a hlt
    rw [if_neg hn]
    have hg : ((byts s).drop a).getD 0 0 = (byts s).getD a 0 := by rw [getD_drop]; rfl
    rw [hg]
    by_cases h6 : (byts s).getD a 0 = 60
    · rw [if_pos h6]
      exact rmarked_any s a more w hs hlt h6
    · rw [if_neg h6]
      exact rplain_tok s a more w hs hlt h6
end Go.Proofs.YtmbghdpoeahnaaaGreatDoor

/- The walks of scan.All and of the document's All. -/
set_option linter.unusedSimpArgs false
set_option linter.unusedVariables false
namespace Go.Proofs.YtmbghdpoeahnaaaGreatDoor
open Go.RowKit

theorem Tryz.info33 : (Tryz.prog.info? 33).map (fun i => (i.zero, i.size, i.bytes)) = some (some (.agg #[.int .i64 0, .string ⟨#[]⟩, .bool false, .bool false]), 4, 32) := by kernel_rfl
/-- A token's cells; a slice of tokens of the call's own. -/
def tkC (t : Tk) : List Value := [.int .i64 t.kind, .string (strOfNums t.text), .bool t.empty, .bool t.blank]
def tkL (l : List Tk) : List Value := l.flatMap tkC
def OwnT (w : World) (B : Nat) (v : Value) (l : List Tk) : Prop := w.ownsRow B 33 4 v l.length (tkL l)
theorem tkL_app (l : List Tk) (t : Tk) : tkL (l ++ [t]) = tkL l ++ tkC t := by unfold tkL; simp
def ATPost (x : List Tk × Nat × Int) (w : World) (e : Ending) (w' : World) : Prop :=
  ∃ v, e = .returned (.tuple #[v, .int .i64 (x.2.1 : Int), .int .i64 x.2.2]) ∧ OwnT w' w.heap.size v x.1 ∧ Below w.heap.size w w'
theorem at_of {x y : List Tk × Nat × Int} {w w' : World} {e : Ending} (h : x = y) (hp : ATPost y w e w') : ATPost x w e w' := by rw [h]; exact hp
structure TW (w wr : World) (v : Value) (pre : List Tk) : Prop where
  own : OwnT wr w.heap.size v pre
  bel : Below w.heap.size w wr
  gl0 : Gl w
theorem TW.gl {w wr : World} {v : Value} {pre : List Tk} (h : TW w wr v pre) : Gl wr := h.gl0.after h.bel
def ATRel (s : ByteArray) (w : World) (v i : Value) (wr : World) : Prop :=
  ∃ (a : Nat) (pre : List Tk), a ≤ s.size ∧ i = .int .i64 a ∧ pre.length ≤ a ∧ Hid (TW w wr v pre) ∧ Hid (allAtT (byts s) 0 = (pre ++ (allAtT (byts s) a).1, (allAtT (byts s) a).2))
theorem TW.after {w wr w' : World} {v : Value} {pre : List Tk} (h : TW w wr v pre) (hb : Below wr.heap.size wr w') : TW w w' v pre :=
  ⟨own_later h.own hb, h.bel.trans (hb.mono h.bel.size), h.gl0⟩
theorem TW.alloc {w wr : World} {v : Value} {pre : List Tk} (h : TW w wr v pre) (o : Obj) : TW w (wr.alloc o) v pre := h.after ((Below.refl _ wr).alloc (Nat.le_refl _) o)
theorem TW.put {w wr w2 : World} {v v' : Value} {pre : List Tk} (h : TW w wr v pre) (t : Tk) (h2 : w2.ownsRow w.heap.size 33 4 v' (pre.length + 1) (tkL pre ++ tkC t)) (hg : wr.grownBy w2 v.ownBlock) : TW w w2 v' (pre ++ [t]) := by
  refine ⟨?_, h.bel.grown hg h.bel.size (fun g hg => (World.ownsRow.lt h.own g hg).1), h.gl0⟩
  unfold OwnT
  rw [tkL_app, List.length_append]
  exact h2
theorem lit_next (w : World) (o : Obj) (cs : Array Value) (e : TypeId) : ∀ (j : Nat) (u : Value), cs.toList[j]? = some u → ((w.alloc o).alloc (.cells cs e)).cell? ((⟨w.heap.size + 1, 0, none⟩ : Addr).add j) = some u := by
  have := lit_cells (w.alloc o) cs e
  rw [alloc_size] at this
  exact this
/-- The token's own block is not the slice's. -/
theorem tok_kept {w w1 w2 : World} {v : Value} {pre : List Tk} (h : TW w w1 v pre) (cs : Array Value) (o : Obj) (t : TypeId) (hg : ((w1.alloc (.cells cs t)).alloc o).grownBy w2 v.ownBlock) (u : Value) (hu : cs[0]? = some u) : w2.cell? ⟨w1.heap.size, 0, none⟩ = some u := by
  have h0 : (w1.alloc (.cells cs t)).cell? ⟨w1.heap.size, 0, none⟩ = some u := (Blk0 w1 t cs 0).trans hu
  have h1 := alloc_keep o h0
  refine (World.cell?_of_block (w := (w1.alloc (.cells cs t)).alloc o) (a := ⟨w1.heap.size, 0, none⟩) (hg.block _ (by rw [alloc_size, alloc_size]; show w1.heap.size < _; omega) ?_)).trans h1
  intro e
  have := (World.ownsRow.lt h.own _ e.symm).2
  exact absurd this (Nat.lt_irrefl _)
theorem tk_one (t : Tk) : ∀ u ∈ tkC t, u.oneCell' = true := by
  intro u hu
  unfold tkC at hu
  simp only [List.mem_cons, List.not_mem_nil, or_false] at hu
  rcases hu with rfl | rfl | rfl | rfl <;> rfl
set_option maxHeartbeats 4000000 in
set_option maxRecDepth 100000 in
theorem all_of (s : ByteArray) (w : World) (hG : Gl w) (hs : s.size ≤ 1000) (HC : Hid (∀ (a : Nat) W, a ≤ s.size → Gl W → Calls Tryz.prog 11 #[.string s, .int .i64 (a : Int)] W (NxPost (nx (byts s) a) a W))) :
    Calls Tryz.prog 8 #[.string s] w (ATPost (allAtT (byts s) 0) w) := by
  obtain ⟨i0, hi, hz0, hz1, hz2⟩ := info_parts Tryz.info33
  have HT0 : Hid (TW w w (.slice none 0 0) []) := Lib.hid ⟨World.ownsRow_nil _ _ _ _, Below.refl _ _, hG⟩
  clear hG
  go_enter Tryz.func8, Tryz.ntmps8
  go_wp2_with fail
  go_loopw [5, 6] (fun v i wr => ATRel s w v i wr) (fun _ i _ => s.size - (intOf i).toNat)
  case atStart => exact ⟨0, [], Nat.zero_le _, rfl, Nat.le_refl _, HT0, Lib.hid (by simp)⟩
  case round =>
    obtain ⟨a, pre, ha, rfl, hpre, hT, hA⟩ := hrel
    have C := Lib.hid (HC.out a wr ha hT.out.gl)
    by_cases he : (nx (byts s) a).2.2 = 0
    · by_cases hend : a = s.size
      · have hA2 := hA.out
        have hN := nx_last (byts s) a (by rw [byts_len]; omega)
        have hL := at_last (byts s)
        rw [byts_len, ← hend] at hL
        rw [hL] at hA2
        rw [hN] at C
        have HA2 := Lib.hid hA2
        clear hN hL hA2 HC HT0 hA he hend
        go_wp2_with fail
        refine C.out.mono ?_
        rintro e w1 ⟨rfl, hb1⟩
        have HT1 := Lib.hid (hT.out.after hb1)
        clear hb1 hT C
        unfold tkV
        dsimp only
        rw [str_none]
        have HT2 := Lib.hid (HT1.out.alloc (.cells #[.int .i64 6, .string ⟨#[]⟩, .bool false, .bool false] 33))
        have HT3 := Lib.hid (HT2.out.alloc (.cells #[.int .i64 6, .string ⟨#[]⟩, .bool false, .bool false] 33))
        have hown' := HT3.out.own
        have hbz := HT3.out.bel.size
        unfold OwnT at hown'
        have hlc := lit_next w1 (.cells #[.int .i64 6, .string ⟨#[]⟩, .bool false, .bool false] 33) #[.int .i64 6, .string ⟨#[]⟩, .bool false, .bool false] 33
        go_wp2_with (at_builtin; refine wpList_append_own _ rfl _ _ 23 rfl w.heap.size 33 i0 (.agg #[.int .i64 0, .string ⟨#[]⟩, .bool false, .bool false]) 4 32 Tryz.underlying23 hi hz0 hz1 hz2 rfl (by decide) _ _ _ rfl hown' ⟨w1.heap.size + 1, 0, none⟩ 1 1 [.int .i64 6, .string ⟨#[]⟩, .bool false, .bool false] rfl rfl hlc (by intro u hu; simp only [List.mem_cons, List.not_mem_nil, or_false] at hu; rcases hu with rfl | rfl | rfl | rfl <;> rfl) (by unfold maxLen; omega) (by omega) hbz ?_)
        intro v' w2 hown2 hgrow _
        have c0 := tok_kept HT1.out #[.int .i64 6, .string ⟨#[]⟩, .bool false, .bool false] _ 33 hgrow _ rfl
        have HP : Hid (TW w w2 v' (pre ++ [⟨6, [], false, false⟩])) := Lib.hid (HT3.out.put ⟨6, [], false, false⟩ (by unfold tkC; rw [str_none]; exact hown2) hgrow)
        clear hown2 hgrow hown' hlc HT1 HT2 HT3
        go_wp2
        go_ret3
        exact at_of HA2.out ⟨_, rfl, HP.out.own, HP.out.bel⟩
      · have hlt : a < s.size := by omega
        have hf := (nx_fit (byts s) a (by rw [byts_len]; exact hlt)).size he
        rw [List.length_drop, byts_len] at hf
        have hA2 := hA.out
        rw [at_ok (byts s) a (by rw [byts_len]; exact hlt) he] at hA2
        obtain ⟨⟨kd, tx, em, bk⟩, n, er, hx⟩ : ∃ y n er, nx (byts s) a = (y, n, er) := ⟨_, _, _, rfl⟩
        rw [hx] at C hf hA2 he
        dsimp only at hf hA2 he
        subst he
        have HA2 := Lib.hid hA2
        clear hx hA2 HC HT0 hA
        go_wp2_with fail
        refine C.out.mono ?_
        rintro e w1 ⟨rfl, hb1⟩
        have HT1 := Lib.hid (hT.out.after hb1)
        clear hb1 hT C
        unfold tkV
        dsimp only
        generalize hst : strOfNums tx = str
        have HS := Lib.hid hst
        clear hst
        have HT2 := Lib.hid (HT1.out.alloc (.cells #[.int .i64 kd, .string str, .bool em, .bool bk] 33))
        have HT3 := Lib.hid (HT2.out.alloc (.cells #[.int .i64 kd, .string str, .bool em, .bool bk] 33))
        have hown' := HT3.out.own
        have hbz := HT3.out.bel.size
        unfold OwnT at hown'
        have hlc := lit_next w1 (.cells #[.int .i64 kd, .string str, .bool em, .bool bk] 33) #[.int .i64 kd, .string str, .bool em, .bool bk] 33
        go_wp2_with (at_builtin; refine wpList_append_own _ rfl _ _ 23 rfl w.heap.size 33 i0 (.agg #[.int .i64 0, .string ⟨#[]⟩, .bool false, .bool false]) 4 32 Tryz.underlying23 hi hz0 hz1 hz2 rfl (by decide) _ _ _ rfl hown' ⟨w1.heap.size + 1, 0, none⟩ 1 1 [.int .i64 kd, .string str, .bool em, .bool bk] rfl rfl hlc (by intro u hu; simp only [List.mem_cons, List.not_mem_nil, or_false] at hu; rcases hu with rfl | rfl | rfl | rfl <;> rfl) (by unfold maxLen; omega) (by omega) hbz ?_)
        intro v' w2 hown2 hgrow _
        have c0 := tok_kept HT1.out #[.int .i64 kd, .string str, .bool em, .bool bk] _ 33 hgrow _ rfl
        have HP : Hid (TW w w2 v' (pre ++ [⟨kd, tx, em, bk⟩])) := Lib.hid (HT3.out.put ⟨kd, tx, em, bk⟩ (by unfold tkC; rw [HS.out]; exact hown2) hgrow)
        have t6 : (kd == 6) = false := by rw [beq_eq_false_iff_ne]; exact hf.2.2.1
        clear hown2 hgrow hown' hlc HT1 HT2 HT3
        go_wp2
        go_roundw
        case rel => exact ⟨a + n, _, by omega, by go_num, by rw [List.length_append, List.length_singleton]; omega, HP, Lib.hid (by rw [HA2.out]; simp)⟩
        case measure => simp only [intOf]; omega
    · have hA2 := hA.out
      rw [at_err (byts s) a (by rw [byts_len]; exact ha) he, List.append_nil] at hA2
      obtain ⟨⟨kd, tx, em, bk⟩, n, er, hx⟩ : ∃ y n er, nx (byts s) a = (y, n, er) := ⟨_, _, _, rfl⟩
      rw [hx] at C hA2 he
      dsimp only at hA2 he
      have t1 : (er != 0) = true := by rw [bne_iff_ne]; exact he
      have HA2 := Lib.hid hA2
      clear hx hA2 HC HT0 hA he
      go_wp2_with fail
      refine C.out.mono ?_
      rintro e w1 ⟨rfl, hb1⟩
      have HT1 := Lib.hid (hT.out.after hb1)
      clear hb1 hT C
      unfold tkV
      dsimp only
      generalize strOfNums tx = str
      have HT2 := Lib.hid (HT1.out.alloc (.cells #[.int .i64 kd, .string str, .bool em, .bool bk] 33))
      go_wp2
      go_ret3
      exact at_of HA2.out ⟨_, rfl, HT2.out.own, HT2.out.bel⟩
set_option maxHeartbeats 4000000 in
set_option maxRecDepth 100000 in
theorem rall_of (s : ByteArray) (w : World) (hG : Gl w) (hs : s.size ≤ 1000) (HC : Hid (∀ (a : Nat) W, a ≤ s.size → Gl W → Calls Tryz.prog 12 #[.string s, .int .i64 (a : Int), .bool false] W (NxPost (nx (byts s) a) a W))) :
    Calls Tryz.prog 9 #[.string s] w (ATPost (allAtT (byts s) 0) w) := by
  obtain ⟨i0, hi, hz0, hz1, hz2⟩ := info_parts Tryz.info33
  have HT0 : Hid (TW w w (.slice none 0 0) []) := Lib.hid ⟨World.ownsRow_nil _ _ _ _, Below.refl _ _, hG⟩
  clear hG
  go_enter Tryz.func9, Tryz.ntmps9
  go_wp2_with fail
  go_loopw [5, 6] (fun v i wr => ATRel s w v i wr) (fun _ i _ => s.size - (intOf i).toNat)
  case atStart => exact ⟨0, [], Nat.zero_le _, rfl, Nat.le_refl _, HT0, Lib.hid (by simp)⟩
  case round =>
    obtain ⟨a, pre, ha, rfl, hpre, hT, hA⟩ := hrel
    have C := Lib.hid (HC.out a wr ha hT.out.gl)
    by_cases he : (nx (byts s) a).2.2 = 0
    · by_cases hend : a = s.size
      · have hA2 := hA.out
        have hN := nx_last (byts s) a (by rw [byts_len]; omega)
        have hL := at_last (byts s)
        rw [byts_len, ← hend] at hL
        rw [hL] at hA2
        rw [hN] at C
        have HA2 := Lib.hid hA2
        clear hN hL hA2 HC HT0 hA he hend
        go_wp2_with fail
        refine C.out.mono ?_
        rintro e w1 ⟨rfl, hb1⟩
        have HT1 := Lib.hid (hT.out.after hb1)
        clear hb1 hT C
        unfold tkV
        dsimp only
        rw [str_none]
        have HT2 := Lib.hid (HT1.out.alloc (.cells #[.int .i64 6, .string ⟨#[]⟩, .bool false, .bool false] 33))
        have HT3 := Lib.hid (HT2.out.alloc (.cells #[.int .i64 6, .string ⟨#[]⟩, .bool false, .bool false] 33))
        have hown' := HT3.out.own
        have hbz := HT3.out.bel.size
        unfold OwnT at hown'
        have hlc := lit_next w1 (.cells #[.int .i64 6, .string ⟨#[]⟩, .bool false, .bool false] 33) #[.int .i64 6, .string ⟨#[]⟩, .bool false, .bool false] 33
        go_wp2_with (at_builtin; refine wpList_append_own _ rfl _ _ 23 rfl w.heap.size 33 i0 (.agg #[.int .i64 0, .string ⟨#[]⟩, .bool false, .bool false]) 4 32 Tryz.underlying23 hi hz0 hz1 hz2 rfl (by decide) _ _ _ rfl hown' ⟨w1.heap.size + 1, 0, none⟩ 1 1 [.int .i64 6, .string ⟨#[]⟩, .bool false, .bool false] rfl rfl hlc (by intro u hu; simp only [List.mem_cons, List.not_mem_nil, or_false] at hu; rcases hu with rfl | rfl | rfl | rfl <;> rfl) (by unfold maxLen; omega) (by omega) hbz ?_)
        intro v' w2 hown2 hgrow _
        have c0 := tok_kept HT1.out #[.int .i64 6, .string ⟨#[]⟩, .bool false, .bool false] _ 33 hgrow _ rfl
        have HP : Hid (TW w w2 v' (pre ++ [⟨6, [], false, false⟩])) := Lib.hid (HT3.out.put ⟨6, [], false, false⟩ (by unfold tkC; rw [str_none]; exact hown2) hgrow)
        clear hown2 hgrow hown' hlc HT1 HT2 HT3
        go_wp2
        go_ret3
        exact at_of HA2.out ⟨_, rfl, HP.out.own, HP.out.bel⟩
      · have hlt : a < s.size := by omega
        have hf := (nx_fit (byts s) a (by rw [byts_len]; exact hlt)).size he
        rw [List.length_drop, byts_len] at hf
        have hA2 := hA.out
        rw [at_ok (byts s) a (by rw [byts_len]; exact hlt) he] at hA2
        obtain ⟨⟨kd, tx, em, bk⟩, n, er, hx⟩ : ∃ y n er, nx (byts s) a = (y, n, er) := ⟨_, _, _, rfl⟩
        rw [hx] at C hf hA2 he
        dsimp only at hf hA2 he
        subst he
        have HA2 := Lib.hid hA2
        clear hx hA2 HC HT0 hA
        go_wp2_with fail
        refine C.out.mono ?_
        rintro e w1 ⟨rfl, hb1⟩
        have HT1 := Lib.hid (hT.out.after hb1)
        clear hb1 hT C
        unfold tkV
        dsimp only
        generalize hst : strOfNums tx = str
        have HS := Lib.hid hst
        clear hst
        have HT2 := Lib.hid (HT1.out.alloc (.cells #[.int .i64 kd, .string str, .bool em, .bool bk] 33))
        have HT3 := Lib.hid (HT2.out.alloc (.cells #[.int .i64 kd, .string str, .bool em, .bool bk] 33))
        have hown' := HT3.out.own
        have hbz := HT3.out.bel.size
        unfold OwnT at hown'
        have hlc := lit_next w1 (.cells #[.int .i64 kd, .string str, .bool em, .bool bk] 33) #[.int .i64 kd, .string str, .bool em, .bool bk] 33
        go_wp2_with (at_builtin; refine wpList_append_own _ rfl _ _ 23 rfl w.heap.size 33 i0 (.agg #[.int .i64 0, .string ⟨#[]⟩, .bool false, .bool false]) 4 32 Tryz.underlying23 hi hz0 hz1 hz2 rfl (by decide) _ _ _ rfl hown' ⟨w1.heap.size + 1, 0, none⟩ 1 1 [.int .i64 kd, .string str, .bool em, .bool bk] rfl rfl hlc (by intro u hu; simp only [List.mem_cons, List.not_mem_nil, or_false] at hu; rcases hu with rfl | rfl | rfl | rfl <;> rfl) (by unfold maxLen; omega) (by omega) hbz ?_)
        intro v' w2 hown2 hgrow _
        have c0 := tok_kept HT1.out #[.int .i64 kd, .string str, .bool em, .bool bk] _ 33 hgrow _ rfl
        have HP : Hid (TW w w2 v' (pre ++ [⟨kd, tx, em, bk⟩])) := Lib.hid (HT3.out.put ⟨kd, tx, em, bk⟩ (by unfold tkC; rw [HS.out]; exact hown2) hgrow)
        have t6 : (kd == 6) = false := by rw [beq_eq_false_iff_ne]; exact hf.2.2.1
        clear hown2 hgrow hown' hlc HT1 HT2 HT3
        go_wp2
        go_roundw
        case rel => exact ⟨a + n, _, by omega, by go_num, by rw [List.length_append, List.length_singleton]; omega, HP, Lib.hid (by rw [HA2.out]; simp)⟩
        case measure => simp only [intOf]; omega
    · have hA2 := hA.out
      rw [at_err (byts s) a (by rw [byts_len]; exact ha) he, List.append_nil] at hA2
      obtain ⟨⟨kd, tx, em, bk⟩, n, er, hx⟩ : ∃ y n er, nx (byts s) a = (y, n, er) := ⟨_, _, _, rfl⟩
      rw [hx] at C hA2 he
      dsimp only at hA2 he
      have t1 : (er != 0) = true := by rw [bne_iff_ne]; exact he
      have HA2 := Lib.hid hA2
      clear hx hA2 HC HT0 hA he
      go_wp2_with fail
      refine C.out.mono ?_
      rintro e w1 ⟨rfl, hb1⟩
      have HT1 := Lib.hid (hT.out.after hb1)
      clear hb1 hT C
      unfold tkV
      dsimp only
      generalize strOfNums tx = str
      have HT2 := Lib.hid (HT1.out.alloc (.cells #[.int .i64 kd, .string str, .bool em, .bool bk] 33))
      go_wp2
      go_ret3
      exact at_of HA2.out ⟨_, rfl, HT2.out.own, HT2.out.bel⟩
theorem all_any (s : ByteArray) (w : World) (hG : Gl w) (hs : s.size ≤ 1000) : Calls Tryz.prog 8 #[.string s] w (ATPost (allAtT (byts s) 0) w) :=
  all_of s w hG hs (Lib.hid fun a W ha hW => Next_any s a W hW hs ha)
theorem rall_any (s : ByteArray) (w : World) (hG : Gl w) (hs : s.size ≤ 1000) : Calls Tryz.prog 9 #[.string s] w (ATPost (allAtT (byts s) 0) w) :=
  rall_of s w hG hs (Lib.hid fun a W ha hW => rnext_any s a false W hs ha)
end Go.Proofs.YtmbghdpoeahnaaaGreatDoor
