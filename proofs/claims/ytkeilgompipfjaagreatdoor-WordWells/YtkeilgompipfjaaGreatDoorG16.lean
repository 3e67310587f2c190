/-
  Merged by program out of the texts Fold, Decl, Sound, Inst, Inst2 of one seat.
-/
import Derived.Test.YtkeilgompipfjaaGreatDoorG05
import Derived.Test.YtkeilgompipfjaaGreatDoorG04
import Derived.Test.YtkeilgompipfjaaGreatDoorG15
import Derived.Test.YtkeilgompipfjaaGreatDoorG01
import Derived.ScopeJumps
import Derived.WalkMore

/- The walk of strings.EqualFold at a second text whose letters have no other spelling beyond 7f; of unicode.SimpleFold below 80. -/
set_option linter.unusedSimpArgs false
set_option linter.unusedVariables false
namespace Go.Proofs.YtkeilgompipfjaaGreatDoor
open Go.RowKit

theorem wp_scope_once {P : Program} {a : Act} {w : World} {Q : Exit → Act → World → Prop} {c rest : Code} (l : Nat) (hf : findLabel c l = some rest)
    (first : c.wp P (Exit.jump l (fun a w => rest.wp P (Exit.noGoto Q) a w) Q) a w) : (Code.scope c).wp P Q a w :=
  wp_scope_jumps l (fun a w => rest.wp P (Exit.noGoto Q) a w) (fun _ _ => 0) hf first fun a w h => wp_mono h fun e a w he => by
    cases e with
    | goto l' => exact he.elim
    | _ => exact he

theorem jump_ret {l : Nat} {J : Act → World → Prop} {Q : Exit → Act → World → Prop} {a : Act} {w : World} : Exit.jump l J Q .ret a w = Q .ret a w := rfl
theorem foldC_bd (c : Nat) (h : c < 128) : 0 ≤ foldC c ∧ foldC c ≤ 8490 := by
  unfold foldC
  repeat' split
  all_goals omega
set_option maxHeartbeats 1000000 in
set_option maxRecDepth 100000 in
theorem sf_any (c : Nat) (w : World) (h : c < 128) (hG : Gl w) : Calls Tryz.prog 120 #[.int .i32 c] w fun e w' => e = .returned (.int .i32 (foldC c)) ∧ w = w' := by
  have hc := hG.fold c h
  have hb := foldC_bd c h
  generalize foldC c = f at *
  clear hG
  go_enter Tryz.func120, Tryz.ntmps120
  go_wp2
  go_ret
  exact ⟨rfl, rfl⟩
set_option maxHeartbeats 1000000 in
set_option maxRecDepth 100000 in
theorem dr_any (t : ByteArray) (w : World) (h0 : 0 < t.size) (ht : t.size ≤ 1000000) (h : bt t 0 < 128) : Calls Tryz.prog 119 #[.string t] w fun e w' => e = .returned (.tuple #[.int .i32 (bt t 0), .int .i64 1]) ∧ w = w' := by
  have hb := bt_eq t 0 h0
  have h1 := bt_lo t 0
  generalize bt t 0 = x at *
  have hne : t.toList.isEmpty = false := by rw [Nz.isE]; exact decide_eq_false (by omega)
  go_enter Tryz.func119, Tryz.ntmps119
  go_wp2
  go_ret2
  exact ⟨rfl, rfl⟩

/-- A letter whose other spelling is below 80, too. -/
def FO (c : Int) : Prop := 0 ≤ c ∧ c < 128 ∧ foldC c.toNat < 128 ∧ foldC (foldC c.toNat).toNat = c
theorem small1_hi {c : Int} (h : 128 ≤ c) : small1 c = c := by unfold small1; rw [if_neg (by omega)]
theorem small1_lo {c : Int} (h : c < 128) : small1 c < 128 := by
  unfold small1
  split
  all_goals omega
theorem small_get (s : ByteArray) (k : Nat) (h : k < s.size) : (smallF (byts s))[k]? = some (small1 (bt s k)) := by
  unfold smallF
  rw [List.getElem?_map, bt_byts, List.getD_eq_getElem?_getD, List.getElem?_eq_getElem (by rw [byts_len]; exact h)]
  rfl
theorem small_ne {s t : ByteArray} {k : Nat} (hs : k < s.size) (ht : k < t.size) (h : small1 (bt s k) ≠ small1 (bt t k)) : decide (smallF (byts s) = smallF (byts t)) = false := by
  refine decide_eq_false fun e => h ?_
  have := congrArg (·[k]?) e
  simp only [small_get s k hs, small_get t k ht, Option.some.injEq] at this
  exact this
theorem small_len {s t : ByteArray} (h : s.size ≠ t.size) : decide (smallF (byts s) = smallF (byts t)) = false := by
  refine decide_eq_false fun e => h ?_
  have := congrArg List.length e
  unfold smallF at this
  simpa [byts_len] using this
theorem small_same {s t : ByteArray} (h : s.size = t.size) (ha : ∀ j, j < s.size → small1 (bt s j) = small1 (bt t j)) : decide (smallF (byts s) = smallF (byts t)) = true := by
  refine decide_eq_true ?_
  apply List.ext_getElem?
  intro i
  rcases Nat.lt_or_ge i s.size with g | g
  · rw [small_get s i g, small_get t i (by omega), ha i g]
  · rw [List.getElem?_eq_none (by unfold smallF; rw [List.length_map, byts_len]; omega), List.getElem?_eq_none (by unfold smallF; rw [List.length_map, byts_len]; omega)]
theorem bt_ext (t : ByteArray) (k : Nat) : bt (t.extract k t.size) 0 = bt t k := by
  rw [bt_byts, bt_byts, byts_extract, List.take_of_length_le (by rw [byts_len]; omega), List.getD_eq_getElem?_getD, List.getElem?_drop, Nat.add_zero, ← List.getD_eq_getElem?_getD]
theorem ext_size (t : ByteArray) (k : Nat) : (t.extract k t.size).size = t.size - k := by rw [← byts_len, byts_extract, List.length_drop, List.length_take, byts_len]; omega
theorem fret_bool {a b : Bool} (h : b = a) : Ending.returned (.bool a) = .returned (.bool b) := by rw [h]
theorem fold_yes {x y : Nat} (h : x = y ∨ (65 ≤ x ∧ x ≤ 90 ∧ y = x + 32) ∨ (65 ≤ y ∧ y ≤ 90 ∧ x = y + 32)) : small1 (x : Int) = small1 (y : Int) := by
  unfold small1
  repeat' split
  all_goals omega
theorem fold_no {x y : Nat} (h0 : x < 128) (h1 : y < 128) (h : ¬ (x = y ∨ (65 ≤ x ∧ x ≤ 90 ∧ y = x + 32) ∨ (65 ≤ y ∧ y ≤ 90 ∧ x = y + 32))) : small1 (x : Int) ≠ small1 (y : Int) := by
  unfold small1
  repeat' split
  all_goals omega
theorem FoRel_step {s t : ByteArray} {k x y : Nat} (ha : ∀ j, j < k → small1 (bt s j) = small1 (bt t j)) (hx : bt s k = x ∧ bt t k = y) (h : small1 (x : Int) = small1 (y : Int)) : ∀ j, j < k + 1 → small1 (bt s j) = small1 (bt t j) := fun j hj => by
  rcases Nat.lt_or_eq_of_le (Nat.le_of_lt_succ hj) with e | e
  · exact ha j e
  · rw [e, hx.1, hx.2, h]
def FoRel (s t : ByteArray) (i : Value) : Prop := ∃ k : Nat, k ≤ s.size ∧ k ≤ t.size ∧ i = .int .i64 k ∧ ∀ j, j < k → small1 (bt s j) = small1 (bt t j)
set_option maxHeartbeats 4000000 in
set_option maxRecDepth 100000 in
theorem fold_any (s t : ByteArray) (w : World) (hs : s.size ≤ 1000000) (ht : t.size ≤ 100) (hF : ∀ j, j < t.size → FO (bt t j)) (hG : Gl w) :
    Calls Tryz.prog 97 #[.string s, .string t] w fun e w' => e = .returned (.bool (decide (smallF (byts s) = smallF (byts t)))) ∧ Below w.heap.size w w' := by
  obtain ⟨M, hM⟩ : ∃ M : Nat, min (s.size : Int) (t.size : Int) = (M : Int) := ⟨min s.size t.size, by omega⟩
  have hMs : M ≤ s.size := by omega
  have hMt : M ≤ t.size := by omega
  have hMe : M = s.size ∨ M = t.size := by omega
  have HG := Lib.hid hG
  have HF := Lib.hid hF
  clear hG hF
  go_enter Tryz.func97, Tryz.ntmps97
  go_wp2_with fail
  refine wp_scope_once 0 rfl ?_
  go_wp2_with fail
  go_loop [5] (fun i => FoRel s t i) (fun i => M - (intOf i).toNat)
  case atStart => exact ⟨0, Nat.zero_le _, Nat.zero_le _, rfl, fun j hj => by omega⟩
  case round =>
    obtain ⟨k, hks, hkt, rfl, hall⟩ := hrel
    have HA := Lib.hid hall
    clear hall hM
    by_cases hlt : k < M
    · obtain ⟨x, hx⟩ : ∃ x : UInt8, s[k]'(by omega) = x := ⟨_, rfl⟩
      obtain ⟨y, hy⟩ : ∃ y : UInt8, t[k]'(by omega) = y := ⟨_, rfl⟩
      have HX : Hid (bt s k = (x.toNat : Int) ∧ bt t k = (y.toNat : Int)) := Lib.hid ⟨by rw [← bt_eq s k (by omega), hx], by rw [← bt_eq t k (by omega), hy]⟩
      have hfo := HF.out k (by omega)
      rw [HX.out.2] at hfo
      have hy128 : y.toNat < 128 := by have := hfo.2.1; omega
      have hor : bits .or .u8 (x.toNat : Int) (y.toNat : Int) = ((x.toNat ||| y.toNat : Nat) : Int) := u8_or_nat _ _ (by have := x.toNat_lt; omega) (by omega)
      have hkM : (k : Int) < (M : Int) := by omega
      have hk1 : (k : Int) < (s.size : Int) := by omega
      have hk2 : (k : Int) < (t.size : Int) := by omega
      have HFO := Lib.hid hfo
      clear hfo
      by_cases hx128 : x.toNat < 128
      · have hor128 : ¬ ((128 : Int) ≤ ((x.toNat ||| y.toNat : Nat) : Int)) := by have := Nat.or_lt_two_pow (n := 7) hx128 hy128; omega
        go_wp2_with fail
        all_goals (try simp only [beq_iff_eq, beq_eq_false_iff_ne, ne_eq] at *)
        all_goals first
          | (go_round
             case rel => exact ⟨k + 1, by omega, by omega, by go_num, FoRel_step HA.out HX.out (fold_yes (by omega))⟩
             case measure => simp only [intOf]; omega)
          | (rw [jump_ret]
             go_ret
             exact ⟨fret_bool (small_ne (k := k) (by omega) (by omega) (by rw [HX.out.1, HX.out.2]; exact fold_no (by omega) (by omega) (by omega))), Below.refl _ _⟩)
      · have hor128 : (128 : Int) ≤ ((x.toNat ||| y.toNat : Nat) : Int) := by have := Nat.left_le_or (n := x.toNat) (m := y.toNat); omega
        have hS0 : 0 < (s.extract k s.size).size := by rw [← byts_len, byts_extract, List.length_drop, List.length_take, byts_len]; omega
        have hT0 : 0 < (t.extract k t.size).size := by rw [← byts_len, byts_extract, List.length_drop, List.length_take, byts_len]; omega
        have hnx : ∀ ty, (Instr.next (.pointer (some ⟨w.heap.size, 0, none⟩)) true ty).run Tryz.prog (w.iter (s.extract k s.size) 0) = _ := fun ty => run_next_any w (s.extract k s.size) 0 ty hS0
        have hR : 128 ≤ (Utf8.decode (s.extract k s.size) 0).1 := by
          refine (decode_high _ 0 hS0 ?_).1
          have := bt_ext s k
          rw [← bt_eq _ 0 hS0, HX.out.1] at this
          omega
        have hR2 : (Utf8.decode (s.extract k s.size) 0).1 ≤ 1114111 := Lib.rune_le _ _
        generalize (Utf8.decode (s.extract k s.size) 0).1 = r at *
        generalize (Utf8.decode (s.extract k s.size) 0).2 = d at *
        go_wp2_with fail
        go_step3
        refine ⟨rfl, ?_⟩
        go_wp2_with fail
        go_loopw [1] (fun v wr => wr = w.iter (s.extract k s.size) 0 ∧ v = .string (t.extract k t.size)) (fun _ _ => 0)
        case atStart => exact ⟨rfl, rfl⟩
        case round =>
          obtain ⟨rfl, rfl⟩ := hrel
          have HD := Lib.hid (fun W => dr_any (t.extract k t.size) W hT0 (by rw [ext_size]; omega) (by rw [bt_ext, HX.out.2]; omega))
          rw [bt_ext, HX.out.2] at HD
          have HN : Hid (small1 (bt s k) ≠ small1 (bt t k)) := Lib.hid (by
            rw [HX.out.1, HX.out.2, small1_hi (by omega)]
            have := small1_lo (c := (y.toNat : Int)) (by omega)
            omega)
          have HSF := Lib.hid (fun c (hc : c < 128) p => sf_any c (w.iter (s.extract k s.size) p) hc (HG.out.alloc _))
          obtain ⟨f, hf⟩ : ∃ f : Nat, foldC y.toNat = f := ⟨(foldC y.toNat).toNat, by have := foldC_bd y.toNat hy128; omega⟩
          have hfo := HFO.out
          unfold FO at hfo
          rw [Int.toNat_natCast, hf, Int.toNat_natCast] at hfo
          have hf1 : f < 128 := by omega
          have HS1 := Lib.hid (HSF.out y.toNat hy128)
          have HS2 := Lib.hid (HSF.out f hf1)
          rw [hf] at HS1
          rw [hfo.2.2.2] at HS2
          clear hf hfo HSF
          have hT1 : (1 : Int) ≤ ((t.extract k t.size).size : Int) := by omega
          have t1 : ((y.toNat : Int) == (r : Int)) = false := by rw [beq_eq_false_iff_ne]; omega
          go_wp2_with fail
          refine (HD.out _).mono ?_
          rintro e w1 ⟨rfl, rfl⟩
          go_wp2_with fail
          refine (HS1.out _).mono ?_
          rintro e w1 ⟨rfl, rfl⟩
          go_wp2_with fail
          go_loop [13] (fun z => z = .int .i32 (y.toNat : Int) ∨ (z = .int .i32 (f : Int) ∧ f ≠ y.toNat)) (fun z => if intOf z = (y.toNat : Int) then 0 else 1)
          case atStart =>
            by_cases e : f = y.toNat
            · exact .inl (by rw [e])
            · exact .inr ⟨rfl, e⟩
          case round =>
            rcases hrel with rfl | ⟨rfl, hne⟩
            · go_wp2_with fail
              go_ret
              exact ⟨fret_bool (small_ne (k := k) (by omega) (by omega) HN.out), (Below.refl _ w).alloc (Nat.le_refl _) _⟩
            · have t2 : ((f : Int) == (y.toNat : Int)) = false := by rw [beq_eq_false_iff_ne]; omega
              have t3 : ((f : Int) != (y.toNat : Int)) = true := by rw [bne_iff_ne]; omega
              have t4 : (f : Int) < (r : Int) := by omega
              go_wp2_with fail
              refine (HS2.out _).mono ?_
              rintro e w1 ⟨rfl, rfl⟩
              go_wp2_with fail
              go_round
              case rel => exact .inl rfl
              case measure =>
                have hn2 : ¬ ((f : Int) = (y.toNat : Int)) := by omega
                simp [intOf, hne, hn2]
    · have hkM : ¬ (k : Int) < (M : Int) := by omega
      obtain rfl : k = M := by omega
      by_cases hst : s.size = t.size
      · have hb : ((s.size : Int) == (t.size : Int)) = true := beq_iff_eq.2 (by omega)
        go_wp2_with fail
        rw [jump_ret]
        go_ret
        exact ⟨fret_bool (small_same hst fun j hj => HA.out j (by omega)), Below.refl _ _⟩
      · have hb : ((s.size : Int) == (t.size : Int)) = false := beq_eq_false_iff_ne.2 (by omega)
        go_wp2_with fail
        rw [jump_ret]
        go_ret
        exact ⟨fret_bool (small_len hst), Below.refl _ _⟩
end Go.Proofs.YtkeilgompipfjaaGreatDoor

/- The walks of scan.setting, scan.declaration and its three function values. -/
set_option linter.unusedSimpArgs false
set_option linter.unusedVariables false
namespace Go.Proofs.YtkeilgompipfjaaGreatDoor
open Go.RowKit

theorem haspre_eq (s p : ByteArray) : Lib.hasPrefix s.data.toList p.data.toList = (byts p).isPrefixOf (byts s) := (pre_map p.data.toList s.data.toList).symm
theorem haspre_any (s p : ByteArray) (w : World) (b : Bool) (h : (byts p).isPrefixOf (byts s) = b) : Calls Tryz.prog 49 #[.string s, .string p] w fun e w' => e = .returned (.bool b) ∧ w = w' := by
  refine (Tryz.strings_HasPrefix s p w).mono ?_
  rintro e w' ⟨rfl, rfl⟩
  exact ⟨by rw [haspre_eq, h], rfl⟩
theorem cutpre_yes (s p : ByteArray) (w : World) (h : (byts p).isPrefixOf (byts s) = true) : Calls Tryz.prog 47 #[.string s, .string p] w fun e w' => e = .returned (.tuple #[.string (strOfNums ((byts s).drop (byts p).length)), .bool true]) ∧ w = w' := by
  refine (Tryz.strings_CutPrefix s p w).mono ?_
  rintro e w' ⟨rfl, rfl⟩
  refine ⟨?_, rfl⟩
  unfold Lib.trimPrefix
  rw [haspre_eq, h, if_pos rfl]
  have : (⟨(s.data.toList.drop p.data.toList.length).toArray⟩ : ByteArray) = strOfNums ((byts s).drop (byts p).length) := by
    refine str_of_byts ?_
    rw [mk_byts, List.map_drop]
    unfold byts
    rw [List.length_map]
  rw [this]
theorem cutpre_no (s p : ByteArray) (w : World) (h : (byts p).isPrefixOf (byts s) = false) : Calls Tryz.prog 47 #[.string s, .string p] w fun e w' => e = .returned (.tuple #[.string s, .bool false]) ∧ w = w' := by
  refine (Tryz.strings_CutPrefix s p w).mono ?_
  rintro e w' ⟨rfl, rfl⟩
  refine ⟨?_, rfl⟩
  unfold Lib.trimPrefix
  rw [haspre_eq, h]
  simp
theorem cut_none (t p : ByteArray) (w : World) (ht : t.size ≤ 1000000) (hG : Gl w) (h : fnd (byts p) (byts t) = none) : Calls Tryz.prog 112 #[.string t, .string p] w fun e w' => e = .returned (.tuple #[.string t, .string ⟨#[]⟩, .bool false]) ∧ Below w.heap.size w w' := by
  obtain ⟨m, hm⟩ := hG.max
  refine (Tryz.strings_Cut t p m w (by omega) hm).mono ?_
  rintro e w' ⟨rfl, n, rfl⟩
  refine ⟨?_, below_drewNg w n⟩
  unfold Lib.cut
  rw [index_byts, fndI_none h, if_neg (by omega)]
theorem cut_some (t p : ByteArray) (w : World) (ht : t.size ≤ 1000000) (hG : Gl w) (n : Nat) (h : fnd (byts p) (byts t) = some n) :
    Calls Tryz.prog 112 #[.string t, .string p] w fun e w' => e = .returned (.tuple #[.string (strOfNums ((byts t).take n)), .string (strOfNums ((byts t).drop (n + (byts p).length))), .bool true]) ∧ Below w.heap.size w w' := by
  obtain ⟨m, hm⟩ := hG.max
  refine (Tryz.strings_Cut t p m w (by omega) hm).mono ?_
  rintro e w' ⟨rfl, k, rfl⟩
  refine ⟨?_, below_drewNg w k⟩
  unfold Lib.cut
  rw [index_byts, fndI_some h, if_pos (by omega), Int.toNat_natCast]
  have e1 : (⟨(t.data.toList.take n).toArray⟩ : ByteArray) = strOfNums ((byts t).take n) := str_of_byts (by rw [mk_byts, List.map_take]; rfl)
  have e2 : (⟨(t.data.toList.drop (n + p.data.toList.length)).toArray⟩ : ByteArray) = strOfNums ((byts t).drop (n + (byts p).length)) := str_of_byts (by rw [mk_byts, List.map_drop]; unfold byts; rw [List.length_map])
  rw [e1, e2]

def Trim1 (s U : ByteArray) : Prop := ∀ W, Calls Tryz.prog 148 #[.string s, .func (.func 55) #[] #[]] W fun e w' => e = .returned (.string U) ∧ Below W.heap.size W w'
def CutP (U K R : ByteArray) (b : Bool) : Prop := ∀ W, Calls Tryz.prog 47 #[.string U, .string K] W fun e w' => e = .returned (.tuple #[.string R, .bool b]) ∧ W = w'
def SetPost (r : ByteArray) (b : Bool) (w : World) (e : Ending) (w' : World) : Prop := e = .returned (.tuple #[.string r, .bool b]) ∧ Below w.heap.size w w'
set_option maxHeartbeats 1000000 in
set_option maxRecDepth 100000 in
theorem set_no1 (s key U : ByteArray) (g : Nat) (w : World) (hk : key.size ≤ 100) (C1 : Hid (Trim1 s U)) (C2 : Hid (CutP U (key ++ ⟨#[61]⟩) U false)) :
    Calls Tryz.prog 121 #[.string s, .string key, .func (.func g) #[] #[]] w (SetPost s false w) := by
  go_enter Tryz.func121, Tryz.ntmps121
  go_wp2_with fail
  refine (C1.out _).mono ?_
  rintro e w1 ⟨rfl, hb1⟩
  go_wp2_with fail
  refine (C2.out _).mono ?_
  rintro e w2 ⟨rfl, rfl⟩
  go_wp2_with fail
  go_ret2
  exact ⟨rfl, hb1⟩
set_option maxHeartbeats 1000000 in
set_option maxRecDepth 100000 in
theorem set_no2 (s key U R : ByteArray) (g : Nat) (w : World) (hk : key.size ≤ 100) (he : U.size = s.size ∨ R.size = 0) (C1 : Hid (Trim1 s U)) (C2 : Hid (CutP U (key ++ ⟨#[61]⟩) R true)) :
    Calls Tryz.prog 121 #[.string s, .string key, .func (.func g) #[] #[]] w (SetPost s false w) := by
  by_cases h1 : U.size = s.size
  · have t1 : ((U.size : Int) == (s.size : Int)) = true := by rw [beq_iff_eq]; omega
    clear he
    have H1 := Lib.hid h1
    clear h1
    go_enter Tryz.func121, Tryz.ntmps121
    go_wp2_with fail
    refine (C1.out _).mono ?_
    rintro e w1 ⟨rfl, hb1⟩
    go_wp2_with fail
    refine (C2.out _).mono ?_
    rintro e w2 ⟨rfl, rfl⟩
    go_wp2_with fail
    go_ret2
    exact ⟨rfl, hb1⟩
  · have t1 : ((U.size : Int) == (s.size : Int)) = false := by rw [beq_eq_false_iff_ne]; omega
    have hR : R.size = 0 := by rcases he with h | h; exact absurd h h1; exact h
    have e1 : R.toList.isEmpty = true := by rw [Nz.isE]; exact decide_eq_true hR
    have e2 : R.toList = [] := by simpa using e1
    clear he hR h1
    go_enter Tryz.func121, Tryz.ntmps121
    go_wp2_with fail
    refine (C1.out _).mono ?_
    rintro e w1 ⟨rfl, hb1⟩
    go_wp2_with fail
    refine (C2.out _).mono ?_
    rintro e w2 ⟨rfl, rfl⟩
    go_wp2_with fail
    go_ret2
    exact ⟨rfl, hb1⟩
set_option maxHeartbeats 1000000 in
set_option maxRecDepth 100000 in
theorem set_no3 (s key U R : ByteArray) (g : Nat) (w : World) (hk : key.size ≤ 100) (h1 : U.size ≠ s.size) (hR : 1 ≤ R.size) (hR2 : R.size ≤ 1000000) (hq : ¬ quo ((byts R).getD 0 0)) (C1 : Hid (Trim1 s U)) (C2 : Hid (CutP U (key ++ ⟨#[61]⟩) R true)) :
    Calls Tryz.prog 121 #[.string s, .string key, .func (.func g) #[] #[]] w (SetPost s false w) := by
  have t1 : ((U.size : Int) == (s.size : Int)) = false := by rw [beq_eq_false_iff_ne]; omega
  have e1 : R.toList.isEmpty = false := by rw [Nz.isE]; exact decide_eq_false (by omega)
  have e2 : ¬ R.toList = [] := by simpa using e1
  have q1 : ((R.extract 0 1).toList == [34]) = false := by rw [ext1_eq R 34 hR]; exact decide_eq_false fun h => hq (.inl h)
  have q2 : ((R.extract 0 1).toList == [39]) = false := by rw [ext1_eq R 39 hR]; exact decide_eq_false fun h => hq (.inr h)
  have q3 : ((R.extract 0 1).toList != [34]) = true := by rw [bne, q1]; rfl
  have q4 : ((R.extract 0 1).toList != [39]) = true := by rw [bne, q2]; rfl
  have hR3 : (1 : Int) ≤ (R.size : Int) := by omega
  clear h1 hq
  go_enter Tryz.func121, Tryz.ntmps121
  go_wp2_with fail
  refine (C1.out _).mono ?_
  rintro e w1 ⟨rfl, hb1⟩
  go_wp2_with fail
  refine (C2.out _).mono ?_
  rintro e w2 ⟨rfl, rfl⟩
  go_wp2_with fail
  go_ret2
  exact ⟨rfl, hb1⟩
def CutQ (T Q V A : ByteArray) (b : Bool) : Prop := ∀ W, Gl W → Calls Tryz.prog 112 #[.string T, .string Q] W fun e w' => e = .returned (.tuple #[.string V, .string A, .bool b]) ∧ Below W.heap.size W w'
def OkF (g : Nat) (V : ByteArray) (b : Bool) : Prop := ∀ W, Gl W → Calls Tryz.prog g #[.string V] W fun e w' => e = .returned (.bool b) ∧ Below W.heap.size W w'
theorem quo_facts {R : ByteArray} (hR : 1 ≤ R.size) (hq : quo ((byts R).getD 0 0)) : ((R.extract 0 1).toList == [34]) = true ∨ (((R.extract 0 1).toList == [34]) = false ∧ ((R.extract 0 1).toList == [39]) = true) := by
  rw [ext1_eq R 34 hR, ext1_eq R 39 hR]
  rcases hq with h | h
  · exact .inl (decide_eq_true h)
  · exact .inr ⟨decide_eq_false (by rw [h]; decide), decide_eq_true h⟩
set_option maxHeartbeats 1000000 in
set_option maxRecDepth 100000 in
theorem set_no4 (s key U R V A : ByteArray) (g : Nat) (w : World) (hG : Gl w) (hk : key.size ≤ 100) (h1 : U.size ≠ s.size) (hR : 1 ≤ R.size) (hR2 : R.size ≤ 1000000) (hq : quo ((byts R).getD 0 0)) (C1 : Hid (Trim1 s U)) (C2 : Hid (CutP U (key ++ ⟨#[61]⟩) R true))
    (C3 : Hid (CutQ (R.extract 1 R.size) (R.extract 0 1) V A false)) :
    Calls Tryz.prog 121 #[.string s, .string key, .func (.func g) #[] #[]] w (SetPost s false w) := by
  have HG := Lib.hid hG
  have t1 : ((U.size : Int) == (s.size : Int)) = false := by rw [beq_eq_false_iff_ne]; omega
  have e1 : R.toList.isEmpty = false := by rw [Nz.isE]; exact decide_eq_false (by omega)
  have e2 : ¬ R.toList = [] := by simpa using e1
  have hR3 : (1 : Int) ≤ (R.size : Int) := by omega
  have qf := quo_facts hR hq
  clear h1 hq hG
  rcases qf with q1 | ⟨q1, q2⟩
  · have q3 : ((R.extract 0 1).toList != [34]) = false := by rw [bne, q1]; rfl
    go_enter Tryz.func121, Tryz.ntmps121
    go_wp2_with fail
    refine (C1.out _).mono ?_
    rintro e w1 ⟨rfl, hb1⟩
    go_wp2_with fail
    refine (C2.out _).mono ?_
    rintro e w2 ⟨rfl, rfl⟩
    go_wp2_with fail
    refine (C3.out _ (HG.out.after hb1)).mono ?_
    rintro e w3 ⟨rfl, hb3⟩
    go_wp2_with fail
    go_ret2
    exact ⟨rfl, hb1.trans (hb3.mono hb1.size)⟩
  · have q3 : ((R.extract 0 1).toList != [34]) = true := by rw [bne, q1]; rfl
    have q4 : ((R.extract 0 1).toList != [39]) = false := by rw [bne, q2]; rfl
    go_enter Tryz.func121, Tryz.ntmps121
    go_wp2_with fail
    refine (C1.out _).mono ?_
    rintro e w1 ⟨rfl, hb1⟩
    go_wp2_with fail
    refine (C2.out _).mono ?_
    rintro e w2 ⟨rfl, rfl⟩
    go_wp2_with fail
    refine (C3.out _ (HG.out.after hb1)).mono ?_
    rintro e w3 ⟨rfl, hb3⟩
    go_wp2_with fail
    go_ret2
    exact ⟨rfl, hb1.trans (hb3.mono hb1.size)⟩
set_option maxHeartbeats 2000000 in
set_option maxRecDepth 100000 in
theorem set_last (s key U R V A : ByteArray) (g : Nat) (hg : g = 122 ∨ g = 123 ∨ g = 124) (b : Bool) (w : World) (hG : Gl w) (hk : key.size ≤ 100) (h1 : U.size ≠ s.size) (hR : 1 ≤ R.size) (hR2 : R.size ≤ 1000000) (hq : quo ((byts R).getD 0 0)) (C1 : Hid (Trim1 s U)) (C2 : Hid (CutP U (key ++ ⟨#[61]⟩) R true))
    (C3 : Hid (CutQ (R.extract 1 R.size) (R.extract 0 1) V A true)) (C4 : Hid (OkF g V b)) :
    Calls Tryz.prog 121 #[.string s, .string key, .func (.func g) #[] #[]] w (SetPost (if b = true then A else s) b w) := by
  have HG := Lib.hid hG
  have t1 : ((U.size : Int) == (s.size : Int)) = false := by rw [beq_eq_false_iff_ne]; omega
  have e1 : R.toList.isEmpty = false := by rw [Nz.isE]; exact decide_eq_false (by omega)
  have e2 : ¬ R.toList = [] := by simpa using e1
  have hR3 : (1 : Int) ≤ (R.size : Int) := by omega
  have qf := quo_facts hR hq
  clear h1 hq hG
  rcases qf with q1 | ⟨q1, q2⟩
  · have q3 : ((R.extract 0 1).toList != [34]) = false := by rw [bne, q1]; rfl
    rcases hg with rfl | rfl | rfl
    all_goals
      cases b
      all_goals
        simp only [Bool.false_eq_true, if_false, if_true]
        go_enter Tryz.func121, Tryz.ntmps121
        go_wp2_with fail
        refine (C1.out _).mono ?_
        rintro e w1 ⟨rfl, hb1⟩
        go_wp2_with fail
        refine (C2.out _).mono ?_
        rintro e w2 ⟨rfl, rfl⟩
        go_wp2_with fail
        refine (C3.out _ (HG.out.after hb1)).mono ?_
        rintro e w3 ⟨rfl, hb3⟩
        go_wp2_with fail
        refine (C4.out _ ((HG.out.after hb1).after hb3)).mono ?_
        rintro e w4 ⟨rfl, hb4⟩
        go_wp2_with fail
        go_ret2
        exact ⟨rfl, (hb1.trans (hb3.mono hb1.size)).trans (hb4.mono (Nat.le_trans hb1.size hb3.size))⟩
  · have q3 : ((R.extract 0 1).toList != [34]) = true := by rw [bne, q1]; rfl
    have q4 : ((R.extract 0 1).toList != [39]) = false := by rw [bne, q2]; rfl
    rcases hg with rfl | rfl | rfl
    all_goals
      cases b
      all_goals
        simp only [Bool.false_eq_true, if_false, if_true]
        go_enter Tryz.func121, Tryz.ntmps121
        go_wp2_with fail
        refine (C1.out _).mono ?_
        rintro e w1 ⟨rfl, hb1⟩
        go_wp2_with fail
        refine (C2.out _).mono ?_
        rintro e w2 ⟨rfl, rfl⟩
        go_wp2_with fail
        refine (C3.out _ (HG.out.after hb1)).mono ?_
        rintro e w3 ⟨rfl, hb3⟩
        go_wp2_with fail
        refine (C4.out _ ((HG.out.after hb1).after hb3)).mono ?_
        rintro e w4 ⟨rfl, hb4⟩
        go_wp2_with fail
        go_ret2
        exact ⟨rfl, (hb1.trans (hb3.mono hb1.size)).trans (hb4.mono (Nat.le_trans hb1.size hb3.size))⟩
end Go.Proofs.YtkeilgompipfjaaGreatDoor

/- What a text's runes are, by a range over it and by utf.All, where it is UTF-8; the walk of scan.sound. -/
set_option linter.unusedSimpArgs false
set_option linter.unusedVariables false
namespace Go.Proofs.YtkeilgompipfjaaGreatDoor
open Go.RowKit

theorem canon_N (b : Nat → Int) (n b0 b1 b2 b3 : Nat) (e0 : b 0 = b0) (e1 : b 1 = b1) (e2 : b 2 = b2) (e3 : b 3 = b3) (h : (canon b n).2.2 = 0) :
    Lib.decodeN n b0 b1 b2 b3 = ((canon b n).1.toNat, (canon b n).2.1.toNat) := by
  unfold canon at h ⊢
  rw [e0, e1, e2, e3] at h ⊢
  unfold Lib.decodeN
  by_cases c0 : b0 < 128
  · rw [if_pos c0, if_pos (show (b0 : Int) < 128 by omega)]
    rfl
  rw [if_neg (by omega)] at h
  rw [if_neg c0, if_neg (show ¬ (b0 : Int) < 128 by omega)]
  by_cases c1 : b0 < 194
  · rw [if_pos (by omega)] at h; simp at h
  rw [if_neg (by omega)] at h
  rw [if_neg (show ¬ (b0 : Int) < 194 by omega)]
  by_cases c2 : b0 < 224
  · rw [if_pos (by omega)] at h
    rw [if_pos (show (b0 : Int) < 224 by omega)]
    by_cases d1 : n < 2
    · rw [if_pos d1] at h; simp at h
    rw [if_neg d1] at h ⊢
    by_cases d2 : (b1 : Int) < 128 ∨ 191 < (b1 : Int)
    · rw [if_pos d2] at h; simp at h
    rw [if_neg d2, if_pos (show b0 / 32 = 6 ∧ (1 < n ∧ b1 / 64 = 2) by omega), if_pos (by omega)]
    simp only [Prod.mk.injEq]
    omega
  rw [if_neg (by omega)] at h
  rw [if_neg (show ¬ (b0 : Int) < 224 by omega), if_neg (show ¬ (b0 / 32 = 6 ∧ (1 < n ∧ b1 / 64 = 2)) by omega)]
  by_cases c3 : b0 < 240
  · rw [if_pos (by omega)] at h
    rw [if_pos (show (b0 : Int) < 240 by omega)]
    by_cases d1 : n < 2
    · rw [if_pos d1] at h; simp at h
    rw [if_neg d1] at h ⊢
    by_cases d2 : (b1 : Int) < (if (b0 : Int) = 224 then 160 else 128) ∨ (if (b0 : Int) = 237 then 159 else 191) < (b1 : Int)
    · rw [if_pos d2] at h; simp at h
    rw [if_neg d2] at h ⊢
    by_cases d3 : n < 3
    · rw [if_pos d3] at h; simp at h
    rw [if_neg d3] at h ⊢
    by_cases d4 : (b2 : Int) < 128 ∨ 191 < (b2 : Int)
    · rw [if_pos d4] at h; simp at h
    have d2' : 128 ≤ b1 ∧ b1 ≤ 191 ∧ (b0 = 224 → 160 ≤ b1) ∧ (b0 = 237 → b1 ≤ 159) := by
      split at d2 <;> split at d2 <;> omega
    rw [if_neg d4, if_pos (show b0 / 16 = 14 ∧ (1 < n ∧ b1 / 64 = 2) ∧ (2 < n ∧ b2 / 64 = 2) by omega), if_pos (by omega)]
    simp only [Prod.mk.injEq]
    omega
  rw [if_neg (by omega)] at h
  rw [if_neg (show ¬ (b0 : Int) < 240 by omega), if_neg (show ¬ (b0 / 16 = 14 ∧ (1 < n ∧ b1 / 64 = 2) ∧ (2 < n ∧ b2 / 64 = 2)) by omega)]
  by_cases c4 : b0 < 245
  · rw [if_pos (by omega)] at h
    rw [if_pos (show (b0 : Int) < 245 by omega)]
    by_cases d1 : n < 2
    · rw [if_pos d1] at h; simp at h
    rw [if_neg d1] at h ⊢
    by_cases d2 : (b1 : Int) < (if (b0 : Int) = 240 then 144 else 128) ∨ (if (b0 : Int) = 244 then 143 else 191) < (b1 : Int)
    · rw [if_pos d2] at h; simp at h
    rw [if_neg d2] at h ⊢
    by_cases d3 : n < 3
    · rw [if_pos d3] at h; simp at h
    rw [if_neg d3] at h ⊢
    by_cases d4 : (b2 : Int) < 128 ∨ 191 < (b2 : Int)
    · rw [if_pos d4] at h; simp at h
    rw [if_neg d4] at h ⊢
    by_cases d5 : n < 4
    · rw [if_pos d5] at h; simp at h
    rw [if_neg d5] at h ⊢
    by_cases d6 : (b3 : Int) < 128 ∨ 191 < (b3 : Int)
    · rw [if_pos d6] at h; simp at h
    have d2' : 128 ≤ b1 ∧ b1 ≤ 191 ∧ (b0 = 240 → 144 ≤ b1) ∧ (b0 = 244 → b1 ≤ 143) := by
      split at d2 <;> split at d2 <;> omega
    rw [if_neg d6, if_pos (show b0 / 8 = 30 ∧ (1 < n ∧ b1 / 64 = 2) ∧ (2 < n ∧ b2 / 64 = 2) ∧ (3 < n ∧ b3 / 64 = 2) by omega), if_pos (by omega)]
    simp only [Prod.mk.injEq]
    omega
  · rw [if_neg (by omega)] at h
    simp at h
def ints (L : List Nat) : List Int := L.map fun n : Nat => (n : Int)
theorem ints_nn (L : List Nat) : NN (ints L) := fun x hx => by
  obtain ⟨n, _, rfl⟩ := List.mem_map.1 hx
  omega
theorem ints_get (L : List Nat) (k : Nat) : (ints L).getD k 0 = (L.getD k 0 : Int) := by
  unfold ints
  rw [List.getD_eq_getElem?_getD, List.getD_eq_getElem?_getD, List.getElem?_map]
  cases L[k]? <;> simp
theorem dN_dec1 (L : List Nat) (h : (dec1 (ints L)).2.2 = 0) : Nz.dN L = ((dec1 (ints L)).1.toNat, (dec1 (ints L)).2.1.toNat) := by
  have hl : (ints L).length = L.length := by simp [ints]
  unfold dec1 at h ⊢
  rw [hl] at h ⊢
  exact canon_N _ _ _ _ _ _ (ints_get L 0) (ints_get L 1) (ints_get L 2) (ints_get L 3) h
theorem Rn_dec (n : Nat) : ∀ (L : List Nat), L.length ≤ n → (decF (ints L)).2.2 = 0 → Nz.Rn L = (decF (ints L)).1 := by
  induction n with
  | zero =>
    intro L hn _
    have : L = [] := List.eq_nil_of_length_eq_zero (by omega)
    subst this
    rfl
  | succ n ih =>
    intro L hn h
    by_cases hL : L = []
    · subst hL; rfl
    have hne : ints L ≠ [] := by unfold ints; simpa using hL
    by_cases he : (dec1 (ints L)).2.2 = 0
    · have hk := decF_ok _ hne (ints_nn _) he
      have hd := dN_dec1 _ he
      have hw := Nz.dN_width L hL
      have hl1 : 1 ≤ (ints L).length := List.length_pos_iff.2 hne
      have h0 : 0 ≤ (dec1 (ints L)).1 := by
        have := canon_okay (fun k => (ints L).getD k 0) (ints L).length hl1 (fun k => (ints_nn _).getD k)
        unfold dec1
        rcases this with q | q
        · exact q.2.2.2.2.1
        · omega
      rw [hk] at h ⊢
      rw [Nz.Rn_cons _ hL, hd]
      rw [hd] at hw
      generalize dec1 (ints L) = x at *
      obtain ⟨r, d, er⟩ := x
      simp only at *
      have hdr : (ints L).drop d.toNat = ints (L.drop d.toNat) := by
        unfold ints
        rw [List.map_drop]
      rw [hdr] at h ⊢
      rw [ih _ (by rw [List.length_drop]; omega) h]
      congr 1
      omega
    · rw [decF_err _ hne he] at h
      exact absurd h he
theorem runes_same (s : ByteArray) : ∀ (f i : Nat), Cz.rgo s f i = Nz.rgo s f i
  | 0, i => rfl
  | f + 1, i => by
    unfold Cz.rgo Nz.rgo
    rw [runes_same s f]
theorem byts_ints (s : ByteArray) : byts s = ints (Nz.bl s) := by simp [byts, ints, Nz.bl]
theorem runes_dec (s : ByteArray) (h : (decF (byts s)).2.2 = 0) : Cz.runes s = (decF (byts s)).1 := by
  have : Cz.runes s = Nz.runes s := runes_same s _ _
  rw [this, Nz.runes_Rn, byts_ints]
  exact Rn_dec _ _ (Nat.le_refl _) (by rw [← byts_ints]; exact h)
theorem allP_chr (s : ByteArray) : Cz.allP [45] s = decide (∀ r ∈ Cz.runes s, Chr r) := by
  unfold Cz.allP
  rw [Bool.eq_iff_iff, List.all_eq_true, decide_eq_true_iff]
  unfold Cz.anyP Cz.clsP
  simp

def SoPost (l : List Int) (w : World) (e : Ending) (w' : World) : Prop := e = .returned (.int .i64 (wrongF l)) ∧ Below w.heap.size w w'
theorem so_ret {x y : Int} (h : x = y) : Ending.returned (.int .i64 y) = .returned (.int .i64 x) := by rw [h]
set_option maxHeartbeats 1000000 in
set_option maxRecDepth 100000 in
theorem sound_any (s : ByteArray) (w : World) (hs : s.size ≤ 10000) : Calls Tryz.prog 51 #[.string s] w (SoPost (byts s) w) := by
  have C := Lib.hid (Uz.all_any s w hs)
  rw [allF_dec] at C
  by_cases h1 : (decF (byts s)).2.2 = 0
  · have ha := allP_chr s
    rw [runes_dec s h1] at ha
    have C2 := Lib.hid (fun W => Cz.all1 s 45 (.inl rfl) W)
    rw [ha] at C2
    by_cases hp : ∀ r ∈ (decF (byts s)).1, Chr r
    · have HW : Hid (wrongF (byts s) = 0) := Lib.hid (by unfold wrongF; rw [if_neg (by omega), if_pos hp])
      rw [decide_eq_true hp] at C2
      rw [h1] at C
      clear ha hp h1
      go_enter Tryz.func51, Tryz.ntmps51
      go_wp2_with fail
      refine C.out.mono ?_
      rintro e w1 ⟨v, rfl, _, hb⟩
      go_wp2_with fail
      refine (C2.out _).mono ?_
      rintro e w2 ⟨rfl, hb2⟩
      go_wp2_with fail
      go_ret
      exact ⟨so_ret HW.out, hb.trans (hb2.mono hb.size)⟩
    · have HW : Hid (wrongF (byts s) = 3) := Lib.hid (by unfold wrongF; rw [if_neg (by omega), if_neg hp])
      rw [decide_eq_false hp] at C2
      rw [h1] at C
      clear ha hp h1
      go_enter Tryz.func51, Tryz.ntmps51
      go_wp2_with fail
      refine C.out.mono ?_
      rintro e w1 ⟨v, rfl, _, hb⟩
      go_wp2_with fail
      refine (C2.out _).mono ?_
      rintro e w2 ⟨rfl, hb2⟩
      go_wp2_with fail
      go_ret
      exact ⟨so_ret HW.out, hb.trans (hb2.mono hb.size)⟩
  · have HW : Hid (wrongF (byts s) = 2) := Lib.hid (by unfold wrongF; rw [if_pos h1])
    generalize (decF (byts s)).2.2 = er at *
    have t1 : (er != 0) = true := by rw [bne_iff_ne]; exact h1
    go_enter Tryz.func51, Tryz.ntmps51
    go_wp2_with fail
    refine C.out.mono ?_
    rintro e w1 ⟨v, rfl, _, hb⟩
    go_wp2_with fail
    go_ret
    exact ⟨so_ret HW.out, hb⟩
end Go.Proofs.YtkeilgompipfjaaGreatDoor

/- scan.setting at a right function; the walks of scan.declaration and scan.instruction. -/
set_option linter.unusedSimpArgs false
set_option linter.unusedVariables false
namespace Go.Proofs.YtkeilgompipfjaaGreatDoor
open Go.RowKit

def Bts (l : List Int) : Prop := ∀ x ∈ l, 0 ≤ x ∧ x ≤ 255
theorem bts_byts (s : ByteArray) : Bts (byts s) := fun x hx => by
  obtain ⟨b, _, rfl⟩ := List.mem_map.1 hx
  have := b.toNat_lt
  omega
theorem Bts.str {l : List Int} (h : Bts l) : byts (strOfNums l) = l := byts_str l (fun x hx => (h x hx).1) fun x hx => (h x hx).2
theorem Bts.drop {l : List Int} (h : Bts l) (n : Nat) : Bts (l.drop n) := fun x hx => h x (List.mem_of_mem_drop hx)
theorem Bts.take {l : List Int} (h : Bts l) (n : Nat) : Bts (l.take n) := fun x hx => h x (List.mem_of_mem_take hx)
theorem Bts.tail {c : Int} {l : List Int} (h : Bts (c :: l)) : Bts l := fun x hx => h x (List.mem_cons_of_mem _ hx)
theorem Bts.dropW {l : List Int} (h : Bts l) (p : Int → Bool) : Bts (l.dropWhile p) := fun x hx => h x ((List.dropWhile_suffix p).subset hx)
theorem dropW_len (l : List Int) (p : Int → Bool) : (l.dropWhile p).length ≤ l.length := (List.dropWhile_suffix p).length_le

theorem setting_any (s key : ByteArray) (g : Nat) (hg : g = 122 ∨ g = 123 ∨ g = 124) (okp : List Int → Bool) (hok : ∀ V : ByteArray, V.size ≤ 10000 → OkF g V (okp (byts V))) (w : World) (hG : Gl w) (hs : s.size ≤ 10000) (hk : key.size ≤ 100) :
    Calls Tryz.prog 121 #[.string s, .string key, .func (.func g) #[] #[]] w (SetPost (strOfNums (orF (setF (byts s) (byts key) okp) (byts s))) (setF (byts s) (byts key) okp).isSome w) := by
  have hB := (bts_byts s).dropW blk?
  have hl := dropW_len (byts s) blk?
  rw [byts_len] at hl
  have C1 : Trim1 s (strOfNums ((byts s).dropWhile blk?)) := fun W => triml_any s W
  unfold setF
  generalize (byts s).dropWhile blk? = u at *
  have hU := hB.str
  have hUs := str_size u
  have hK : byts (key ++ ⟨#[61]⟩) = byts key ++ [61] := byts_cat _ _
  by_cases hp : (byts key ++ [61]).isPrefixOf u = true
  · have C2 : CutP (strOfNums u) (key ++ ⟨#[61]⟩) (strOfNums (u.drop ((byts key).length + 1))) true := fun W => by
      have := cutpre_yes (strOfNums u) (key ++ ⟨#[61]⟩) W (by rw [hK, hU]; exact hp)
      rw [hK, hU, List.length_append] at this
      exact this
    have hRs := str_size (u.drop ((byts key).length + 1))
    by_cases h1 : u.length = (byts s).length
    · rw [if_pos h1]
      have h := set_no2 s key _ _ g w hk (.inl (by rw [hUs, h1, byts_len])) (Lib.hid C1) (Lib.hid C2)
      unfold orF
      rw [str_byts]
      exact h
    · rw [if_neg h1, if_pos hp]
      have hBR := hB.drop ((byts key).length + 1)
      have hRl : (u.drop ((byts key).length + 1)).length ≤ 10000 := by rw [List.length_drop]; omega
      generalize u.drop ((byts key).length + 1) = R at *
      cases R with
      | nil =>
        have h := set_no2 s key _ _ g w hk (.inr (by rw [hRs]; rfl)) (Lib.hid C1) (Lib.hid C2)
        unfold orF
        rw [str_byts]
        exact h
      | cons q r =>
        have hR := hBR.str
        have hqh : (byts (strOfNums (q :: r))).getD 0 0 = q := by rw [hR]; rfl
        have h1R : 1 ≤ (strOfNums (q :: r)).size := by rw [hRs]; simp
        have h1R2 : (strOfNums (q :: r)).size ≤ 1000000 := by rw [hRs]; omega
        have hUne : (strOfNums u).size ≠ s.size := by rw [hUs, ← byts_len]; exact h1
        by_cases hq : quo q
        · show Calls _ _ _ _ (SetPost (strOfNums (orF (if quo q then setVal q r okp else none) (byts s))) (if quo q then setVal q r okp else none).isSome w)
          rw [if_pos hq]
          have hT : byts ((strOfNums (q :: r)).extract 1 (strOfNums (q :: r)).size) = r := by
            rw [byts_extract, hR, hRs, List.take_length]
            rfl
          have hQ : byts ((strOfNums (q :: r)).extract 0 1) = [q] := by
            rw [byts_extract, hR]
            rfl
          have hTs : ((strOfNums (q :: r)).extract 1 (strOfNums (q :: r)).size).size ≤ 1000000 := by
            rw [← byts_len, hT]
            simp only [List.length_cons] at hRl
            omega
          unfold setVal
          cases hf : fnd [q] r with
          | none =>
            have C3 : CutQ ((strOfNums (q :: r)).extract 1 (strOfNums (q :: r)).size) ((strOfNums (q :: r)).extract 0 1) ((strOfNums (q :: r)).extract 1 (strOfNums (q :: r)).size) ⟨#[]⟩ false := fun W hW =>
              cut_none _ _ W hTs hW (by rw [hT, hQ]; exact hf)
            have h := set_no4 s key _ _ _ _ g w hG hk hUne h1R h1R2 (by rw [hqh]; exact hq) (Lib.hid C1) (Lib.hid C2) (Lib.hid C3)
            unfold orF
            rw [str_byts]
            exact h
          | some n =>
            have C3 : CutQ ((strOfNums (q :: r)).extract 1 (strOfNums (q :: r)).size) ((strOfNums (q :: r)).extract 0 1) (strOfNums (r.take n)) (strOfNums (r.drop (n + 1))) true := fun W hW => by
              have := cut_some ((strOfNums (q :: r)).extract 1 (strOfNums (q :: r)).size) ((strOfNums (q :: r)).extract 0 1) W hTs hW n (by rw [hT, hQ]; exact hf)
              rw [hT, hQ] at this
              exact this
            have hV : byts (strOfNums (r.take n)) = r.take n := (hBR.tail.take n).str
            have C4 := hok (strOfNums (r.take n)) (by rw [str_size, List.length_take]; simp only [List.length_cons] at hRl; omega)
            rw [hV] at C4
            have h := set_last s key _ _ _ _ g hg _ w hG hk hUne h1R h1R2 (by rw [hqh]; exact hq) (Lib.hid C1) (Lib.hid C2) (Lib.hid C3) (Lib.hid C4)
            cases hv : okp (r.take n) with
            | true =>
              rw [hv] at h
              simp only [if_true] at h ⊢
              rw [if_pos hv]
              exact h
            | false =>
              rw [hv] at h
              simp only [Bool.false_eq_true, if_false] at h ⊢
              rw [if_neg (by rw [hv]; simp)]
              unfold orF
              rw [str_byts]
              exact h
        · show Calls _ _ _ _ (SetPost (strOfNums (orF (if quo q then setVal q r okp else none) (byts s))) (if quo q then setVal q r okp else none).isSome w)
          rw [if_neg hq]
          have h := set_no3 s key _ _ g w hk hUne h1R h1R2 (by rw [hqh]; exact hq) (Lib.hid C1) (Lib.hid C2)
          unfold orF
          rw [str_byts]
          exact h
  · have C2 : CutP (strOfNums u) (key ++ ⟨#[61]⟩) (strOfNums u) false := fun W => cutpre_no _ _ W (by rw [hK, hU]; exact Bool.eq_false_iff.2 hp)
    have h := set_no1 s key _ g w hk (Lib.hid C1) (Lib.hid C2)
    rw [if_neg hp, ite_self]
    unfold orF
    rw [str_byts]
    exact h

set_option maxHeartbeats 400000 in
theorem ok97 (V : ByteArray) (hV : V.size ≤ 10000) : OkF 122 V (okVersion (byts V)) := fun W hW => by
  have e := eqB V [49, 46, 48] [49, 46, 48] rfl
  go_enter Tryz.func122, Tryz.ntmps122
  go_wp2_with fail
  go_ret
  exact ⟨by unfold okVersion; rw [← e]; rfl, Below.refl _ _⟩
set_option maxHeartbeats 400000 in
theorem ok98 (V : ByteArray) (hV : V.size ≤ 10000) : OkF 123 V (okEncoding (byts V)) := fun W hW => by
  have C := Lib.hid (fold_any V ⟨#[117, 116, 102, 45, 56]⟩ W (by omega) (by decide) (fun j hj => by
    have hj' : j < 5 := hj
    rcases (show j = 0 ∨ j = 1 ∨ j = 2 ∨ j = 3 ∨ j = 4 by omega) with rfl | rfl | rfl | rfl | rfl
    all_goals (unfold FO; decide)) hW)
  have e : smallF (byts ⟨#[117, 116, 102, 45, 56]⟩) = [117, 116, 102, 45, 56] := by decide
  rw [e] at C
  clear e
  go_enter Tryz.func123, Tryz.ntmps123
  go_wp2_with fail
  refine C.out.mono ?_
  rintro e w1 ⟨rfl, hb⟩
  go_wp2_with fail
  go_ret
  exact ⟨rfl, hb⟩
set_option maxHeartbeats 400000 in
theorem ok99 (V : ByteArray) (hV : V.size ≤ 10000) : OkF 124 V (okStandalone (byts V)) := fun W hW => by
  have e1 := eqB V [121, 101, 115] [121, 101, 115] rfl
  have e2 := eqB V [110, 111] [110, 111] rfl
  unfold okStandalone
  by_cases h1 : byts V = [121, 101, 115]
  · rw [decide_eq_true h1] at e1
    have hd : decide (byts V = [121, 101, 115] ∨ byts V = [110, 111]) = true := decide_eq_true (.inl h1)
    rw [hd]
    clear h1 hd e2
    go_enter Tryz.func124, Tryz.ntmps124
    go_wp2_with fail
    go_ret
    exact ⟨rfl, Below.refl _ _⟩
  · rw [decide_eq_false h1] at e1
    have hd : decide (byts V = [121, 101, 115] ∨ byts V = [110, 111]) = decide (byts V = [110, 111]) := by rw [decide_eq_decide]; exact ⟨fun h => h.resolve_left h1, .inr⟩
    rw [hd, ← e2]
    clear h1 hd e2
    go_enter Tryz.func124, Tryz.ntmps124
    go_wp2_with fail
    go_ret
    exact ⟨rfl, Below.refl _ _⟩
end Go.Proofs.YtkeilgompipfjaaGreatDoor

/- The walks of scan.declaration and scan.instruction. -/
set_option linter.unusedSimpArgs false
set_option linter.unusedVariables false
namespace Go.Proofs.YtkeilgompipfjaaGreatDoor
open Go.RowKit

def SetC (r key : ByteArray) (g : Nat) (r' : ByteArray) (ok : Bool) : Prop := ∀ W, Gl W → Calls Tryz.prog 121 #[.string r, .string key, .func (.func g) #[] #[]] W (SetPost r' ok W)
def AllC (r : ByteArray) (b : Bool) : Prop := ∀ W, Calls Tryz.prog 54 #[.string r, .slice (some ⟨W.heap.size, 0, none⟩) 1 1] (W.alloc (.cells #[.func (.func 55) #[] #[]] 93)) fun e w' => e = .returned (.bool b) ∧ Below W.heap.size W w'
def BPost (b : Bool) (w : World) (e : Ending) (w' : World) : Prop := e = .returned (.bool b) ∧ Below w.heap.size w w'
set_option maxHeartbeats 1000000 in
set_option maxRecDepth 100000 in
theorem decl_no0 (s : ByteArray) (w : World) (C0 : Hid (CutP s ⟨#[120, 109, 108]⟩ s false)) : Calls Tryz.prog 98 #[.string s] w (BPost false w) := by
  go_enter Tryz.func98, Tryz.ntmps98
  go_wp2_with fail
  refine (C0.out _).mono ?_
  rintro e w1 ⟨rfl, rfl⟩
  go_wp2_with fail
  go_ret
  exact ⟨rfl, Below.refl _ _⟩
set_option maxHeartbeats 1000000 in
set_option maxRecDepth 100000 in
theorem decl_no1 (s r0 r1 : ByteArray) (w : World) (hG : Gl w) (C0 : Hid (CutP s ⟨#[120, 109, 108]⟩ r0 true)) (C1 : Hid (SetC r0 ⟨#[118, 101, 114, 115, 105, 111, 110]⟩ 122 r1 false)) : Calls Tryz.prog 98 #[.string s] w (BPost false w) := by
  have HG := Lib.hid hG
  clear hG
  go_enter Tryz.func98, Tryz.ntmps98
  go_wp2_with fail
  refine (C0.out _).mono ?_
  rintro e w1 ⟨rfl, rfl⟩
  go_wp2_with fail
  refine (C1.out _ HG.out).mono ?_
  rintro e w2 ⟨rfl, hb⟩
  go_wp2_with fail
  go_ret
  exact ⟨rfl, hb⟩
set_option maxHeartbeats 1000000 in
set_option maxRecDepth 100000 in
theorem decl_yes (s r0 r1 r2 r3 : ByteArray) (o2 o3 b : Bool) (w : World) (hG : Gl w) (C0 : Hid (CutP s ⟨#[120, 109, 108]⟩ r0 true)) (C1 : Hid (SetC r0 ⟨#[118, 101, 114, 115, 105, 111, 110]⟩ 122 r1 true))
    (C2 : Hid (SetC r1 ⟨#[101, 110, 99, 111, 100, 105, 110, 103]⟩ 123 r2 o2)) (C3 : Hid (SetC r2 ⟨#[115, 116, 97, 110, 100, 97, 108, 111, 110, 101]⟩ 124 r3 o3)) (C4 : Hid (AllC r3 b)) : Calls Tryz.prog 98 #[.string s] w (BPost b w) := by
  have HG := Lib.hid hG
  clear hG
  go_enter Tryz.func98, Tryz.ntmps98
  go_wp2_with fail
  refine (C0.out _).mono ?_
  rintro e w1 ⟨rfl, rfl⟩
  go_wp2_with fail
  refine (C1.out _ HG.out).mono ?_
  rintro e w2 ⟨rfl, hb2⟩
  have HG2 := Lib.hid (HG.out.after hb2)
  go_wp2_with fail
  refine (C2.out _ HG2.out).mono ?_
  rintro e w3 ⟨rfl, hb3⟩
  have HG3 := Lib.hid (HG2.out.after hb3)
  go_wp2_with fail
  refine (C3.out _ HG3.out).mono ?_
  rintro e w4 ⟨rfl, hb4⟩
  go_wp2_with fail
  refine (C4.out _).mono ?_
  rintro e w5 ⟨rfl, hb5⟩
  go_wp2_with fail
  go_ret
  have h23 := hb2.trans (hb3.mono hb2.size)
  have h24 := h23.trans (hb4.mono h23.size)
  exact ⟨rfl, h24.trans (hb5.mono h24.size)⟩

theorem rn_blank (n : Nat) : ∀ (L : List Nat), L.length ≤ n → (∀ x ∈ L, x < 256) → ((Nz.Rn L).all blk? = (ints L).all blk?) := by
  induction n with
  | zero =>
    intro L h _
    have : L = [] := List.eq_nil_of_length_eq_zero (by omega)
    subst this
    rfl
  | succ n ih =>
    intro L h hB
    match L, h, hB with
    | [], _, _ => rfl
    | c :: L, h, hB =>
      rw [Nz.Rn_cons _ (by simp)]
      by_cases hc : c < 128
      · rw [Nz.dN_asc0 L c hc]
        show (blk? (c : Int) && (Nz.Rn L).all blk?) = (blk? (c : Int) && (ints L).all blk?)
        rw [ih L (by simpa using h) fun x hx => hB x (List.mem_cons_of_mem _ hx)]
      · have e1 : blk? (c : Int) = false := by unfold blk?; exact decide_eq_false (by unfold Blank; omega)
        have e2 : blk? ((Nz.dN (c :: L)).1 : Int) = false := by
          have hsz : 0 < (ByteArray.mk ((c :: L).map UInt8.ofNat).toArray).size := by show 0 < ((c :: L).map UInt8.ofNat).toArray.size; simp
          have hbl : Nz.bl (ByteArray.mk ((c :: L).map UInt8.ofNat).toArray) = c :: L := by
            unfold Nz.bl
            simp only [List.map_map]
            have : ∀ x ∈ c :: L, (UInt8.toNat ∘ UInt8.ofNat) x = x := fun x hx => by
              have := hB x hx
              simp
              omega
            exact (List.map_congr_left this).trans (List.map_id _)
          have := (at_high _ 0 hsz (by rw [hbl]; show 128 ≤ c; omega)).1
          rw [Nz.dec_dN, hbl, List.drop_zero] at this
          unfold blk?
          exact decide_eq_false (by unfold Blank; omega)
        show (blk? ((Nz.dN (c :: L)).1 : Int) && _) = (blk? (c : Int) && _)
        rw [e1, e2, Bool.false_and, Bool.false_and]
theorem allP_blk (s : ByteArray) : Cz.allP [55] s = (byts s).all blk? := by
  have h1 : Cz.allP [55] s = (Cz.runes s).all blk? := by
    unfold Cz.allP
    congr 1
    funext r
    unfold Cz.anyP Cz.clsP blk?
    simp
  have h2 : Cz.runes s = Nz.runes s := runes_same s _ _
  rw [h1, h2, Nz.runes_Rn, rn_blank _ (Nz.bl s) (Nat.le_refl _) (fun x hx => by
    unfold Nz.bl at hx
    obtain ⟨b, _, rfl⟩ := List.mem_map.1 hx
    exact b.toNat_lt), ← byts_ints]
theorem allc_any (r : ByteArray) : AllC r ((byts r).all blk?) := fun W => by
  have := Cz.all1 r 55 (.inr rfl) W
  rw [allP_blk] at this
  exact this
theorem orF_len (l key : List Int) (okp : List Int → Bool) : (orF (setF l key okp) l).length ≤ l.length ∧ (Bts l → Bts (orF (setF l key okp) l)) := by
  unfold setF
  split
  · exact ⟨Nat.le_refl _, id⟩
  · split
    · split
      · exact ⟨Nat.le_refl _, id⟩
      · rename_i q r hr
        split
        · unfold setVal
          split
          · exact ⟨Nat.le_refl _, id⟩
          · rename_i n hn
            split
            · have h1 := dropW_len l blk?
              have h2 : (q :: r).length ≤ (l.dropWhile blk?).length := by rw [← hr, List.length_drop]; omega
              refine ⟨?_, fun hB => ?_⟩
              · show (r.drop (n + 1)).length ≤ l.length
                rw [List.length_drop]
                simp only [List.length_cons] at h2
                omega
              · show Bts (r.drop (n + 1))
                have := (hB.dropW blk?).drop (key.length + 1)
                rw [hr] at this
                exact this.tail.drop _
            · exact ⟨Nat.le_refl _, id⟩
        · exact ⟨Nat.le_refl _, id⟩
    · exact ⟨Nat.le_refl _, id⟩
theorem setc_any (r key : ByteArray) (g : Nat) (hg : g = 122 ∨ g = 123 ∨ g = 124) (okp : List Int → Bool) (hok : ∀ V : ByteArray, V.size ≤ 10000 → OkF g V (okp (byts V))) (hr : r.size ≤ 10000) (hk : key.size ≤ 100) :
    SetC r key g (strOfNums (orF (setF (byts r) (byts key) okp) (byts r))) (setF (byts r) (byts key) okp).isSome := fun W hW => setting_any r key g hg okp hok W hW hr hk
theorem decl_any (s : ByteArray) (w : World) (hs : s.size ≤ 10000) (hG : Gl w) : Calls Tryz.prog 98 #[.string s] w (BPost (declW (byts s)) w) := by
  unfold declW
  by_cases h0 : wXml.isPrefixOf (byts s) = true
  · have C0 : CutP s ⟨#[120, 109, 108]⟩ (strOfNums ((byts s).drop 3)) true := fun W => cutpre_yes s ⟨#[120, 109, 108]⟩ W h0
    have hB := (bts_byts s).drop 3
    have hl : ((byts s).drop 3).length ≤ 10000 := by rw [List.length_drop, byts_len]; omega
    rw [h0, Bool.true_and]
    generalize (byts s).drop 3 = r0 at *
    have C1 := setc_any (strOfNums r0) ⟨#[118, 101, 114, 115, 105, 111, 110]⟩ 122 (.inl rfl) okVersion (fun V hV => ok97 V hV) (by rw [str_size]; omega) (by decide)
    rw [hB.str] at C1
    have C1' : SetC (strOfNums r0) ⟨#[118, 101, 114, 115, 105, 111, 110]⟩ 122 (strOfNums (orF (setF r0 wVersion okVersion) r0)) (setF r0 wVersion okVersion).isSome := C1
    have l1 := orF_len r0 wVersion okVersion
    unfold declF
    cases hv : setF r0 wVersion okVersion with
    | none =>
      rw [hv] at C1'
      exact decl_no1 s _ _ w hG (Lib.hid C0) (Lib.hid C1')
    | some r1 =>
      rw [hv] at C1' l1
      have hB1 : Bts r1 := l1.2 hB
      have hl1 : r1.length ≤ 10000 := Nat.le_trans l1.1 hl
      have C2 := setc_any (strOfNums r1) ⟨#[101, 110, 99, 111, 100, 105, 110, 103]⟩ 123 (.inr (.inl rfl)) okEncoding (fun V hV => ok98 V hV) (by rw [str_size]; omega) (by decide)
      rw [hB1.str] at C2
      have C2' : SetC (strOfNums r1) ⟨#[101, 110, 99, 111, 100, 105, 110, 103]⟩ 123 (strOfNums (orF (setF r1 wEncoding okEncoding) r1)) (setF r1 wEncoding okEncoding).isSome := C2
      have l2 := orF_len r1 wEncoding okEncoding
      have hB2 := l2.2 hB1
      have hl2 := Nat.le_trans l2.1 hl1
      show Calls _ _ _ _ (BPost (dec3 (orF (setF r1 wEncoding okEncoding) r1)) w)
      generalize orF (setF r1 wEncoding okEncoding) r1 = r2 at *
      have C3 := setc_any (strOfNums r2) ⟨#[115, 116, 97, 110, 100, 97, 108, 111, 110, 101]⟩ 124 (.inr (.inr rfl)) okStandalone (fun V hV => ok99 V hV) (by rw [str_size]; omega) (by decide)
      rw [hB2.str] at C3
      have C3' : SetC (strOfNums r2) ⟨#[115, 116, 97, 110, 100, 97, 108, 111, 110, 101]⟩ 124 (strOfNums (orF (setF r2 wStandalone okStandalone) r2)) (setF r2 wStandalone okStandalone).isSome := C3
      have hB3 := (orF_len r2 wStandalone okStandalone).2 hB2
      have C4 := allc_any (strOfNums (orF (setF r2 wStandalone okStandalone) r2))
      rw [hB3.str] at C4
      exact decl_yes s _ _ _ _ _ _ _ w hG (Lib.hid C0) (Lib.hid C1') (Lib.hid C2') (Lib.hid C3') (Lib.hid C4)
  · have h0' : wXml.isPrefixOf (byts s) = false := Bool.eq_false_iff.2 h0
    rw [h0', Bool.false_and]
    exact decl_no0 s w (Lib.hid fun W => cutpre_no s ⟨#[120, 109, 108]⟩ W h0')
end Go.Proofs.YtkeilgompipfjaaGreatDoor
