/-
  The walk of the law UtfBack.
-/
import Derived.Test.YtjpmffgjlfjgaaaPutsLaw
import Derived.Test.YtjpmffgjlfjgaaaSame
import Derived.Deep.RegionHeld3
import Derived.Test.YtjpmffgjlfjgaaaCutsMath
set_option linter.unusedSimpArgs false
set_option linter.unusedVariables false
namespace Go.Proofs.Ytjpmffgjlfjgaaa
open Go.RowKit

/-- What was decoded, put again, is what was there. -/
theorem back_str (s : ByteArray) : ∃ a : Nat, (allF s).2.1 = (a : Int) ∧ a ≤ s.size ∧ strOfNums (putL (allF s).1) = s.extract 0 a ∧ ((allF s).2.2 = 0 → a = s.size) := by
  obtain ⟨hg, b, c, d, e⟩ := decF_back _ _ (Nat.le_refl _) (byts_nn s)
  rw [byts_len] at c d
  rw [allF_dec]
  refine ⟨_, rfl, c, ?_, d⟩
  apply byts_inj
  rw [byts_extract, List.drop_zero]
  exact (byts_str _ (putL_nn _ hg).1 (putL_nn _ hg).2).trans b
theorem forth_str (l : List Int) (h : Good l) : allF (strOfNums (putL l)) = (l, ((putL l).length : Int), 0) := by
  have d1 := decF_put l [] h (fun x hx => by simp at hx)
  rw [List.append_nil, decF_nil] at d1
  rw [allF_dec, show byts (strOfNums (putL l)) = putL l from byts_str _ (putL_nn _ h).1 (putL_nn _ h).2]
  unfold putL
  rw [d1]
  simp
theorem refPut_good {r : Int} (h : refPut r ≠ []) : ¬ Bad r := fun hb => h (by rw [refPut, if_pos hb])

/-- In a region that draws: an operation without a world, whose guard lets it run, is taken first. -/
theorem wpAny_yes {P : Program} {md : Region.Mode} {ops : Array Oper} {Q : Exit → Act → World → Prop} (i : Nat) (d : Tmp) (v : Value) {oi : Oper} {fuel : Nat} {listed : Array Bool} {a : Act} {w : World} (hi : ops[i]? = some oi)
    (hs : Region.noSelect ops = true) (hf : Region.free md ops listed i = true) (hr : (Region.ready md ops listed).contains i = true)
    (hQ : ∀ c a w, Q (.panic c) (a.put oi.dst v) w → Q (.panic c) a w) (hd : oi.dst = some d) (hw : Region.wanted oi (yielded ops a.tmps) = true) (hy : ∀ w, (execOp a.eval oi).run P w = .ok (.value v) w)
    (h : wpAny P md ops Q fuel (listed.setIfInBounds i true) { a with tmps := a.tmps.setIfInBounds d v } w) : wpAny P md ops Q (fuel + 1) listed a w :=
  wpAny_take hi hs hf hr hQ (.inl ⟨hw, hy⟩) (by unfold Act.put; rw [hd]; exact h)
/-- In a region that draws: an operation whose guard does not let it run is passed over. -/
theorem wpAny_no {P : Program} {md : Region.Mode} {ops : Array Oper} {Q : Exit → Act → World → Prop} (i : Nat) (d : Tmp) {oi : Oper} {fuel : Nat} {listed : Array Bool} {a : Act} {w : World} (hi : ops[i]? = some oi)
    (hs : Region.noSelect ops = true) (hf : Region.free md ops listed i = true) (hr : (Region.ready md ops listed).contains i = true)
    (hQ : ∀ c a w, Q (.panic c) (a.put oi.dst undef) w → Q (.panic c) a w) (hd : oi.dst = some d) (hw : Region.wanted oi (yielded ops a.tmps) = false)
    (h : wpAny P md ops Q fuel (listed.setIfInBounds i true) { a with tmps := a.tmps.setIfInBounds d undef } w) : wpAny P md ops Q (fuel + 1) listed a w :=
  wpAny_take hi hs hf hr hQ (.inr ⟨hw, rfl⟩) (by unfold Act.put; rw [hd]; exact h)

def BackRel (w : World) (l : List Int) (i : Value) (wr : World) : Prop :=
  ∃ k : Nat, k ≤ l.length ∧ i = .int .i64 k ∧ Good (l.take k) ∧ Below w.heap.size w wr

set_option maxHeartbeats 2000000 in
set_option maxRecDepth 100000 in
theorem back_law (A : Option Addr) (c : Nat) (l : List Int) (s : ByteArray) (w : World) (h : Rd .i32 w w.heap.size A l) (hl : l.length ≤ 100) (hr : ∀ x ∈ l, -2147483648 ≤ x ∧ x ≤ 2147483647) (hs : s.size ≤ 200) :
    Calls Try.prog 6 #[.slice A l.length c, .string s] w fun e w' => e = .returned (.bool true) ∧ Below w.heap.size w w' := by
  obtain ⟨n, hn⟩ : ∃ n, n = l.length := ⟨_, rfl⟩
  have HN := Lib.hid hn
  rw [← hn]
  have hn1 : n ≤ l.length := by omega
  have hn2 : l.length ≤ n := by omega
  clear hn
  have t1 : decide ((100 : Int) < (n : Int)) = false := by simp; omega
  have t2 : decide ((200 : Int) < (s.size : Int)) = false := by simp; omega
  obtain ⟨a, ha, ha2, hstr, hall⟩ := back_str s
  have C0 := Lib.hid (fun W => all_any s W (by omega))
  have b0 := allF_len s
  obtain ⟨m, a', e0, x0⟩ : ∃ l a e, allF s = (l, a, e) := ⟨_, _, _, rfl⟩
  rw [x0] at ha hstr hall C0 b0
  clear x0
  dsimp only at ha hstr hall b0
  subst ha
  have HS := Lib.hid hstr
  clear hstr
  go_enter Try.func6, Try.ntmps6
  go_wp2_with (go_at_call 8; refine (awake_any _).mono ?_; rintro e w1 ⟨rfl, hb1⟩)
  refine (C0.out _).mono ?_
  rintro e w2 ⟨v1, rfl, hown1, hb2⟩
  dsimp only at hown1 ⊢
  obtain ⟨A1, c1, rfl, rd1⟩ := own_rd hown1
  have rd1' : Rd .i32 w2.drew w2.drew.heap.size A1 m := rd1
  have CP := put_any A1 c1 m w2.drew rd1' (by omega)
  unfold PutPost at CP
  rw [HS.out] at CP
  have HP := Lib.hid CP
  have s1 := hb1.size
  have s2 := hb2.size
  have hbb : Below w.heap.size w w2.drew := (hb1.trans (hb2.mono s1)).drew
  clear CP rd1 rd1' hown1 hb1 hb2 C0
  generalize m.length = ml at *
  have hcase : (e0 = 0 ∧ a = s.size) ∨ (e0 == 0) = false := by
    by_cases he : e0 = 0
    · exact .inl ⟨he, hall he⟩
    · exact .inr (by simpa using he)
  clear hall HS
  rcases hcase with ⟨rfl, rfl⟩ | te
  · go_wp2_with fail
    go_region_held3 (fun _ => True) (trivial) (first | (go_at_call 17; refine HP.out.mono ?_; rintro e w3 ⟨rfl, hb3⟩))
    have hb4 : Below w.heap.size w w3 := hbb.trans (hb3.mono hbb.size)
    clear HP hbb hb3
    go_wp2_with fail
    go_loopw [8] (fun i wr => BackRel w l i wr) (fun i _ => l.length - (intOf i).toNat)
    case atStart => exact ⟨0, Nat.zero_le _, rfl, fun x hx => by simp at hx, hb4⟩
    case round =>
      obtain ⟨k, hk, rfl, hg, hbel⟩ := hrel
      have HG := Lib.hid hg
      clear hg hb4
      have hsz := hbel.size
      by_cases hlt : k < n
      · obtain ⟨b, off, rfl, hb, hc⟩ := (h.below hbel).at_ (j := k) (by omega)
        have hrb := hr (l.getD k 0) (by rw [List.getD_eq_getElem?_getD, List.getElem?_eq_getElem (by omega)]; exact List.getElem_mem _)
        have HT := Lib.hid (take_succ_getD l k (by omega))
        generalize l.getD k 0 = r at hc HT hrb
        obtain ⟨hrb1, hrb2⟩ := hrb
        by_cases hp : refPut r = []
        · have c1 := fun W => refput_any r W
          rw [hp] at c1
          have C1 := Lib.hid c1
          clear hp c1
          go_wp2_with fail
          refine (C1.out _).mono ?_
          rintro e w5 ⟨p, rfl, hown2, hbel2⟩
          obtain ⟨A2, c2, rfl, _⟩ := own_rd hown2
          clear hown2
          go_wp2
          go_ret
          exact ⟨rfl, hbel.trans (hbel2.mono hsz)⟩
        · have C1 := Lib.hid (fun W => refput_any r W)
          have HB := Lib.hid (refPut_good hp)
          generalize refPut r = q at C1 hp
          have hq1 : 0 < q.length := List.length_pos_iff.2 hp
          have hq3 : ((q.length : Int) == 0) = false := by simp; exact hp
          clear hp
          go_wp2_with fail
          refine (C1.out _).mono ?_
          rintro e w5 ⟨p, rfl, hown2, hbel2⟩
          obtain ⟨A2, c2, rfl, _⟩ := own_rd hown2
          clear hown2
          go_wp2
          go_roundw
          case rel =>
            refine ⟨k + 1, by omega, by go_num, ?_, hbel.trans (hbel2.mono hsz)⟩
            rw [HT.out]
            intro x hx
            rcases List.mem_append.1 hx with hx | hx
            · exact HG.out x hx
            · rw [List.mem_singleton.1 hx]; exact HB.out
          case measure => simp [intOf]; omega
      · have hgood : Good l := by
          have := HG.out
          rwa [List.take_of_length_le (by omega)] at this
        have hri : Rd .i32 wr wr.heap.size A l := (h.below hbel).more hsz
        have CP := put_any A c l wr hri (by omega)
        have hfs := forth_str l hgood
        have hpl := putL_len l
        have hps : (strOfNums (putL l)).size = (putL l).length := strOfNums_size _
        unfold PutPost at CP
        have CA := fun W => all_any (strOfNums (putL l)) W (by omega)
        rw [hfs] at CA
        rw [← HN.out] at CP
        have HPS := Lib.hid hps
        have HP := Lib.hid CP
        have HA := Lib.hid CA
        clear CP CA hfs hps
        generalize strOfNums (putL l) = P at *
        have tq : (((putL l).length : Int) == (P.size : Int)) = true := by rw [HPS.out]; simp
        generalize putL l = pl at *
        go_wp2_with fail
        refine HP.out.mono ?_
        rintro e w5 ⟨rfl, hb5⟩
        go_wp2_with fail
        refine (HA.out _).mono ?_
        rintro e w6 ⟨v6, rfl, hown6, hb6⟩
        dsimp only at hown6 ⊢
        obtain ⟨A6, c6, rfl, rd6⟩ := own_rd hown6
        have s5 := hb5.size
        have s6 := hb6.size
        have hb7 : Below w.heap.size w w6 := (hbel.trans (hb5.mono hsz)).trans (hb6.mono (by omega))
        have CS := same_any A6 A c6 c l l w6 rd6 ((h.below hb7).more hb7.size) (by omega) (by omega)
        rw [same_yes rfl, ← HN.out] at CS
        have HS := Lib.hid CS
        have hnl : ((l.length : Nat) : Int) = (n : Int) := by omega
        rw [← HN.out]
        clear CS rd6 hown6
        go_wp2_with (go_at_call 13; refine HS.out.mono ?_; rintro e w7 ⟨rfl, hb8⟩)
        go_ret
        exact ⟨rfl, hb7.trans (hb8.mono hb7.size)⟩
  · go_wp2_with fail
    refine wp_region_any (by kernel_rfl) ?_
    change wpAny _ _ _ _ _ _ _ (World.drew _)
    refine wpAny_yes 0 32 (.slice A1 ml c1) rfl (by kernel_rfl) (by kernel_rfl) (by kernel_rfl) (fun _ _ _ h => h) rfl (by rfl) (fun w => by go_simp) ?_
    simp only [List.setIfInBounds_toArray, List.set_cons_zero, List.set_cons_succ]
    refine wpAny_yes 2 34 (.string s) rfl (by kernel_rfl) (by kernel_rfl) (by kernel_rfl) (fun _ _ _ h => h) rfl (by rfl) (fun w => by go_simp) ?_
    simp only [List.setIfInBounds_toArray, List.set_cons_zero, List.set_cons_succ]
    refine wpAny_yes 3 35 (.int .i64 a) rfl (by kernel_rfl) (by kernel_rfl) (by kernel_rfl) (fun _ _ _ h => h) rfl (by rfl) (fun w => by go_simp) ?_
    simp only [List.setIfInBounds_toArray, List.set_cons_zero, List.set_cons_succ]
    refine wpAny_yes 4 36 (.string (s.extract 0 a)) rfl (by kernel_rfl) (by kernel_rfl) (by kernel_rfl) (fun _ _ _ h => h) rfl (by rfl) (fun w => by go_simp) ?_
    simp only [List.setIfInBounds_toArray, List.set_cons_zero, List.set_cons_succ]
    refine wpAny_ready (rs := [1]) (by kernel_rfl) (by simp) ?_
    refine AllReady.cons rfl (fun K hK => ?_) AllReady.nil
    go_simp
    go_wp2_with (go_at_call 17; refine HP.out.mono ?_; rintro e w3 ⟨rfl, hb3⟩)
    refine wpAny_yes 5 37 (.bool false) rfl (by kernel_rfl) (by kernel_rfl) (by kernel_rfl) (fun _ _ _ h => h) rfl (by rfl) (fun w => by go_simp) ?_
    simp only [List.setIfInBounds_toArray, List.set_cons_zero, List.set_cons_succ]
    refine wpAny_yes 6 38 (.bool false) rfl (by kernel_rfl) (by kernel_rfl) (by kernel_rfl) (fun _ _ _ h => h) rfl (by rfl) (fun w => by go_simp) ?_
    simp only [List.setIfInBounds_toArray, List.set_cons_zero, List.set_cons_succ]
    refine wpAny_yes 7 39 (.int .i64 e0) rfl (by kernel_rfl) (by kernel_rfl) (by kernel_rfl) (fun _ _ _ h => h) rfl (by rfl) (fun w => by go_simp) ?_
    simp only [List.setIfInBounds_toArray, List.set_cons_zero, List.set_cons_succ]
    refine wpAny_yes 8 40 (.bool false) rfl (by kernel_rfl) (by kernel_rfl) (by kernel_rfl) (fun _ _ _ h => h) rfl (by rfl) (fun w => by go_simp) ?_
    simp only [List.setIfInBounds_toArray, List.set_cons_zero, List.set_cons_succ]
    refine wpAny_yes 9 41 (.bool false) rfl (by kernel_rfl) (by kernel_rfl) (by kernel_rfl) (fun _ _ _ h => h) rfl (by rfl) (fun w => by go_simp) ?_
    simp only [List.setIfInBounds_toArray, List.set_cons_zero, List.set_cons_succ]
    refine wpAny_no 10 42 rfl (by kernel_rfl) (by kernel_rfl) (by kernel_rfl) (fun _ _ _ h => h) rfl (by rfl) ?_
    simp only [List.setIfInBounds_toArray, List.set_cons_zero, List.set_cons_succ]
    refine wpAny_no 11 43 rfl (by kernel_rfl) (by kernel_rfl) (by kernel_rfl) (fun _ _ _ h => h) rfl (by rfl) ?_
    simp only [List.setIfInBounds_toArray, List.set_cons_zero, List.set_cons_succ]
    refine wpAny_no 12 44 rfl (by kernel_rfl) (by kernel_rfl) (by kernel_rfl) (fun _ _ _ h => h) rfl (by rfl) ?_
    simp only [List.setIfInBounds_toArray, List.set_cons_zero, List.set_cons_succ]
    refine wpAny_no 13 45 rfl (by kernel_rfl) (by kernel_rfl) (by kernel_rfl) (fun _ _ _ h => h) rfl (by rfl) ?_
    simp only [List.setIfInBounds_toArray, List.set_cons_zero, List.set_cons_succ]
    refine wpAny_yes 14 46 (.bool false) rfl (by kernel_rfl) (by kernel_rfl) (by kernel_rfl) (fun _ _ _ h => h) rfl (by rfl) (fun w => by go_simp) ?_
    simp only [List.setIfInBounds_toArray, List.set_cons_zero, List.set_cons_succ]
    refine wpAny_yes 15 47 (.bool false) rfl (by kernel_rfl) (by kernel_rfl) (by kernel_rfl) (fun _ _ _ h => h) rfl (by rfl) (fun w => by go_simp) ?_
    simp only [List.setIfInBounds_toArray, List.set_cons_zero, List.set_cons_succ]
    refine wpAny_done (by kernel_rfl) ?_ _
    have hb4 : Below w.heap.size w w3 := hbb.trans (hb3.mono hbb.size)
    clear HP hbb hb3
    go_wp2_with fail
    go_loopw [8] (fun i wr => BackRel w l i wr) (fun i _ => l.length - (intOf i).toNat)
    case atStart => exact ⟨0, Nat.zero_le _, rfl, fun x hx => by simp at hx, hb4⟩
    case round =>
      obtain ⟨k, hk, rfl, hg, hbel⟩ := hrel
      have HG := Lib.hid hg
      clear hg hb4
      have hsz := hbel.size
      by_cases hlt : k < n
      · obtain ⟨b, off, rfl, hb, hc⟩ := (h.below hbel).at_ (j := k) (by omega)
        have hrb := hr (l.getD k 0) (by rw [List.getD_eq_getElem?_getD, List.getElem?_eq_getElem (by omega)]; exact List.getElem_mem _)
        have HT := Lib.hid (take_succ_getD l k (by omega))
        generalize l.getD k 0 = r at hc HT hrb
        obtain ⟨hrb1, hrb2⟩ := hrb
        by_cases hp : refPut r = []
        · have c1 := fun W => refput_any r W
          rw [hp] at c1
          have C1 := Lib.hid c1
          clear hp c1
          go_wp2_with fail
          refine (C1.out _).mono ?_
          rintro e w5 ⟨p, rfl, hown2, hbel2⟩
          obtain ⟨A2, c2, rfl, _⟩ := own_rd hown2
          clear hown2
          go_wp2
          go_ret
          exact ⟨rfl, hbel.trans (hbel2.mono hsz)⟩
        · have C1 := Lib.hid (fun W => refput_any r W)
          have HB := Lib.hid (refPut_good hp)
          generalize refPut r = q at C1 hp
          have hq1 : 0 < q.length := List.length_pos_iff.2 hp
          have hq3 : ((q.length : Int) == 0) = false := by simp; exact hp
          clear hp
          go_wp2_with fail
          refine (C1.out _).mono ?_
          rintro e w5 ⟨p, rfl, hown2, hbel2⟩
          obtain ⟨A2, c2, rfl, _⟩ := own_rd hown2
          clear hown2
          go_wp2
          go_roundw
          case rel =>
            refine ⟨k + 1, by omega, by go_num, ?_, hbel.trans (hbel2.mono hsz)⟩
            rw [HT.out]
            intro x hx
            rcases List.mem_append.1 hx with hx | hx
            · exact HG.out x hx
            · rw [List.mem_singleton.1 hx]; exact HB.out
          case measure => simp [intOf]; omega
      · have hgood : Good l := by
          have := HG.out
          rwa [List.take_of_length_le (by omega)] at this
        have hri : Rd .i32 wr wr.heap.size A l := (h.below hbel).more hsz
        have CP := put_any A c l wr hri (by omega)
        have hfs := forth_str l hgood
        have hpl := putL_len l
        have hps : (strOfNums (putL l)).size = (putL l).length := strOfNums_size _
        unfold PutPost at CP
        have CA := fun W => all_any (strOfNums (putL l)) W (by omega)
        rw [hfs] at CA
        rw [← HN.out] at CP
        have HPS := Lib.hid hps
        have HP := Lib.hid CP
        have HA := Lib.hid CA
        clear CP CA hfs hps
        generalize strOfNums (putL l) = P at *
        have tq : (((putL l).length : Int) == (P.size : Int)) = true := by rw [HPS.out]; simp
        generalize putL l = pl at *
        go_wp2_with fail
        refine HP.out.mono ?_
        rintro e w5 ⟨rfl, hb5⟩
        go_wp2_with fail
        refine (HA.out _).mono ?_
        rintro e w6 ⟨v6, rfl, hown6, hb6⟩
        dsimp only at hown6 ⊢
        obtain ⟨A6, c6, rfl, rd6⟩ := own_rd hown6
        have s5 := hb5.size
        have s6 := hb6.size
        have hb7 : Below w.heap.size w w6 := (hbel.trans (hb5.mono hsz)).trans (hb6.mono (by omega))
        have CS := same_any A6 A c6 c l l w6 rd6 ((h.below hb7).more hb7.size) (by omega) (by omega)
        rw [same_yes rfl, ← HN.out] at CS
        have HS := Lib.hid CS
        have hnl : ((l.length : Nat) : Int) = (n : Int) := by omega
        rw [← HN.out]
        clear CS rd6 hown6
        go_wp2_with (go_at_call 13; refine HS.out.mono ?_; rintro e w7 ⟨rfl, hb8⟩)
        go_ret
        exact ⟨rfl, hb7.trans (hb8.mono hb7.size)⟩
end Go.Proofs.Ytjpmffgjlfjgaaa
