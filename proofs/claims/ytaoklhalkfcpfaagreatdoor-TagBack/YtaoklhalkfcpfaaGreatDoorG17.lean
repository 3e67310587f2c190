/-
  Merged by program out of the texts NzRcut, NzRsplit of one seat.
-/
import Derived.Test.YtaoklhalkfcpfaaGreatDoorG16
import Derived.Test.YtaoklhalkfcpfaaGreatDoorG03
import Derived.Test.YtaoklhalkfcpfaaGreatDoorG04

/- The walk of the document's own Cut. -/
set_option linter.unusedSimpArgs false
set_option linter.unusedVariables false
namespace Go.Proofs.YtaoklhalkfcpfaaGreatDoor.Nz
open Go.RowKit

theorem bl_sx (s : ByteArray) (k : Nat) : bl (sx s k) = ((bl s).drop k).take (sn s k) := by
  unfold sx
  rw [bl_ext, bl_fr]
  simp
theorem sx_ext (s : ByteArray) (k : Nat) : s.extract k (k + sn s k) = sx s k := by
  apply bl_inj
  rw [bl_ext, bl_sx, Nat.add_sub_cancel_left]
def RcRel (u : ByteArray) (l : List Int) (M : Nat) (nv iv : Value) : Prop :=
  ∃ m j : Nat, nv = .int .i64 m ∧ iv = .int .i64 j ∧ j ≤ l.length ∧ m ≤ u.size ∧ l.drop j = Rn ((bl u).drop m) ∧ m + St ((bl u).drop m) = M
/-- What stands at a place of which a rune is left. -/
theorem at_rune (u : ByteArray) (l : List Int) (m j : Nat) (hj : j < l.length) (h : l.drop j = Rn ((bl u).drop m)) :
    m < u.size ∧ l.getD j 0 = ((Utf8.decode u m).1 : Int) ∧ l.drop (j + 1) = Rn ((bl u).drop (m + (Utf8.decode u m).2)) := by
  have hm : m < u.size := by
    rcases Nat.lt_or_ge m u.size with h1 | h1
    · exact h1
    · rw [Rn_end u m (by omega)] at h
      have := congrArg List.length h
      simp at this
      omega
  have hd := List.drop_eq_getElem_cons hj
  rw [h, Rn_at u m hm] at hd
  injection hd with h1 h2
  refine ⟨hm, ?_, h2.symm⟩
  rw [List.getD_eq_getElem?_getD, List.getElem?_eq_getElem hj, h1]
  rfl
theorem at_end (u : ByteArray) (l : List Int) (m j : Nat) (hj : ¬ j < l.length) (hm : m ≤ u.size) (h : l.drop j = Rn ((bl u).drop m)) : m = u.size := by
  rcases Nat.lt_or_ge m u.size with h1 | h1
  · rw [List.drop_of_length_le (by omega), Rn_at u m h1] at h
    exact absurd h (by simp)
  · omega
theorem rpt_t {r : Int} (h : Part r) (w : World) : Calls Tryz.prog 30 #[.int .i64 r] w fun e w' => e = .returned (.bool true) ∧ w = w' := (rpart_any r w).mono fun e w' ⟨h1, h2⟩ => ⟨by rw [h1, decide_eq_true h], h2⟩
theorem rpt_f {r : Int} (h : ¬ Part r) (w : World) : Calls Tryz.prog 30 #[.int .i64 r] w fun e w' => e = .returned (.bool false) ∧ w = w' := (rpart_any r w).mono fun e w' ⟨h1, h2⟩ => ⟨by rw [h1, decide_eq_false h], h2⟩

theorem str_ne {z : ByteArray} (h : ¬ z = ⟨#[239, 191, 189]⟩) : (z.toList == [239, 191, 189]) = false := by
  rw [beq_eq_false_iff_ne, Lib.toList_data]
  intro h2
  apply h
  have h3 : z.data = #[239, 191, 189] := by rw [← Array.toArray_toList (xs := z.data), h2]
  cases z
  simp at h3
  rw [h3]

set_option maxHeartbeats 2000000 in
set_option maxRecDepth 100000 in
theorem rcut_any (s : ByteArray) (k : Nat) (hs : s.size ≤ 1000) (hk : k ≤ s.size) (w : World) :
    Calls Tryz.prog 17 #[.string s, .int .i64 k] w fun e w' => e = .returned (.tuple #[.string (sx s k), .int .i64 ((k : Int) + (sn s k : Int))]) ∧ Below w.heap.size w w' := by
  have b1 : decide ((k : Int) < 0) = false := by simp
  have b2 : decide ((s.size : Int) < (k : Int)) = false := by simp; omega
  have b3 : decide (s.size < k) = false := by simp; omega
  have i1 : (0 : Int) ≤ (k : Int) := by omega
  have i2 : (k : Int) ≤ (s.size : Int) := by omega
  have hz := fr_size s k
  obtain ⟨c, w1, ⟨hcv, hb1, hzz, hcell⟩, hcap⟩ := conv_cap w (fr s k) (by omega)
  have hu : fr s k = s.extract k s.size := rfl
  have HM : Hid (sn s k = St (bl (fr s k))) := Lib.hid (by rw [sn, bl_fr])
  have HX : Hid (s.extract k (k + sn s k) = sx s k) := Lib.hid (sx_ext s k)
  have HL : Hid (runes (fr s k) = Rn (bl (fr s k))) := Lib.hid (runes_Rn _)
  have hln := runes_len (fr s k)
  have HRG := Lib.hid (fun x (hx : x ∈ runes (fr s k)) => rgo_range (fr s k) (fr s k).size 0 x hx)
  have HB := Lib.hid hb1
  have hsz := hb1.size
  have H3 : Hid (∀ m, s.extract (k + m) (k + m + 3) = ⟨#[239, 191, 189]⟩ ↔ ((bl (fr s k)).drop m).take 3 = [239, 191, 189]) := Lib.hid (fun m => by
    rw [bl_fr, List.drop_drop]
    have e := bl_ext s (k + m) (k + m + 3)
    rw [show k + m + 3 - (k + m) = 3 by omega] at e
    rw [← e]
    exact ⟨fun h => by rw [h]; rfl, fun h => bl_inj (by rw [h]; rfl)⟩)
  generalize sx s k = res at *
  generalize sn s k = M at *
  clear hzz hb1
  generalize runes (fr s k) = l at *
  rw [hu] at hcv
  obtain ⟨n, hn⟩ : ∃ n, n = l.length := ⟨_, rfl⟩
  rw [← hn] at hcv
  have hn1 : n ≤ l.length := by omega
  have hn2 : l.length ≤ n := by omega
  have hn3 : n ≤ 1000 := by omega
  clear hn
  have HCELL := Lib.hid hcell
  clear hcell
  go_enter Tryz.func17, Tryz.ntmps17
  go_wp2_with fail
  clear hcv
  generalize fr s k = u at *
  go_loop [7, 8, 9] (fun nv iv _ => RcRel u l M nv iv) (fun _ iv _ => l.length - (intOf iv).toNat)
  case atStart => exact ⟨0, 0, rfl, rfl, Nat.zero_le _, Nat.zero_le _, by rw [HL.out]; rfl, by rw [HM.out, List.drop_zero]; omega⟩
  case round =>
    obtain ⟨m, j, rfl, rfl, hj, hm, hd, hst⟩ := hrel
    have HD := Lib.hid hd
    have HST := Lib.hid hst
    clear hd hst
    by_cases hlt : j < n
    · obtain ⟨g1, g2, g3⟩ := at_rune u l m j (by omega) HD.out
      have hc := HCELL.out j (by omega)
      rw [g2] at hc
      have G3 := Lib.hid g3
      have GS := Lib.hid (St_at u m g1)
      have hwl := dec_le u m g1
      have GW := Lib.hid (dN_w ((bl u).drop m) (fun x hx => bl_lt u x (List.mem_of_mem_drop hx)))
      rw [← dec_dN] at GW
      have hr1 := decode_le u m
      have hv : Val ((Utf8.decode u m).1 : Int) := by
        have := dN_valid ((bl u).drop m)
        rw [← dec_dN] at this
        unfold Val
        omega
      have hes := enc_size _ hv
      have hcv1 := fun c' => conv_one w1 w.heap.size j c' _ hc
      have hwd := width_pos u m g1
      clear g2 g3 hv
      generalize (Utf8.decode u m).1 = r at *
      generalize (Utf8.decode u m).2 = d at *
      generalize Utf8.encode (r : Int) = y at *
      have hck : ¬ c = j := by omega
      have j1 : (0 : Int) ≤ (j : Int) := by omega
      have j2 : (j : Int) ≤ (j : Int) + 1 := by omega
      have j3 : (j : Int) + 1 ≤ (c : Int) := by omega
      have q3 : ((j : Int) + 1).toNat = j + 1 := by omega
      have hub : u.size ≤ 1000 := by omega
      by_cases h58 : (r : Int) = 58
      · have c1 : ((r : Int) != 58) = false := by simp [h58]
        have c2 : ((r : Int) == 65533) = false := by simp [h58]
        have HO : Hid (Ok (r : Int)) := Lib.hid (.inl h58)
        have hyd : y.size = d := by rw [hes, GW.out, if_neg (by omega)]
        clear h58 hes
        go_wp2_with fail
        refine ⟨⟨m + d, j + 1, by go_num, by go_num, by omega, hwl, G3.out, ?_⟩, by simp [intOf]; omega⟩
        have q := HST.out
        rw [GS.out, if_pos HO.out] at q
        omega
      · have c1 : ((r : Int) != 58) = true := by simp [h58]
        by_cases hP : Part (r : Int)
        · have HO : Hid (Ok (r : Int)) := Lib.hid (.inr hP)
          have CP := Lib.hid (fun W => rpt_t hP W)
          by_cases hF : (r : Int) = 65533
          · have c2 : ((r : Int) == 65533) = true := by simp [hF]
            have hr2 : r = 65533 := by omega
            have hy3 : y.size = 3 := by rw [hes, hr2]; rfl
            have m1 : (0 : Int) ≤ (k : Int) + (m : Int) := by omega
            have m2 : (k : Int) + (m : Int) ≤ (k : Int) + (m : Int) + 3 := by omega
            have q4 : ((k : Int) + (m : Int)).toNat = k + m := by omega
            have q5 : ((k : Int) + (m : Int) + 3).toNat = k + m + 3 := by omega
            by_cases h3 : s.size < k + m + 3
            · have c3 : decide ((s.size : Int) < (k : Int) + (m : Int) + 3) = true := by simp; omega
              have hnt : ¬ ((bl u).drop m).take 3 = [239, 191, 189] := by
                intro h
                have h4 := congrArg List.length h
                rw [List.length_take, List.length_drop, bl_len] at h4
                have h5 : [239, 191, 189].length = 3 := rfl
                omega
              have HD1 : Hid (d = 1) := Lib.hid (by rw [GW.out, if_pos ⟨hr2, hnt⟩])
              clear h58 hP hF hes hr2 h3 hnt
              go_wp2_with (first | (go_at_call 30; refine (CP.out _).mono ?_; rintro e w' ⟨rfl, rfl⟩))
              have hd1 := HD1.out
              refine ⟨⟨m + 1, j + 1, by go_num, by go_num, by omega, by omega, by have g := G3.out; rw [hd1] at g; exact g, ?_⟩, by simp [intOf]; omega⟩
              have q := HST.out
              rw [GS.out, if_pos HO.out, hd1] at q
              omega
            · have c3 : decide ((s.size : Int) < (k : Int) + (m : Int) + 3) = false := by simp; omega
              have m3 : (k : Int) + (m : Int) + 3 ≤ (s.size : Int) := by omega
              by_cases hE : s.extract (k + m) (k + m + 3) = ⟨#[239, 191, 189]⟩
              · have HD3 : Hid (d = 3) := Lib.hid (by
                  rw [GW.out, if_neg (fun h => h.2 ((H3.out m).1 hE)), hr2]
                  rfl)
                clear h58 hP hF hes hr2 h3
                go_wp2_with (first | (go_at_call 30; refine (CP.out _).mono ?_; rintro e w' ⟨rfl, rfl⟩))
                have hd3 := HD3.out
                refine ⟨⟨m + 3, j + 1, by go_num, by go_num, by omega, by omega, by have g := G3.out; rw [hd3] at g; exact g, ?_⟩, by simp [intOf]; omega⟩
                have q := HST.out
                rw [GS.out, if_pos HO.out, hd3] at q
                omega
              · have HD1 : Hid (d = 1) := Lib.hid (by rw [GW.out, if_pos ⟨hr2, fun h => hE ((H3.out m).2 h)⟩])
                have hne := str_ne hE
                clear h58 hP hF hes hr2 h3 hE
                go_wp2_with (first | (go_at_call 30; refine (CP.out _).mono ?_; rintro e w' ⟨rfl, rfl⟩))
                have hd1 := HD1.out
                refine ⟨⟨m + 1, j + 1, by go_num, by go_num, by omega, by omega, by have g := G3.out; rw [hd1] at g; exact g, ?_⟩, by simp [intOf]; omega⟩
                have q := HST.out
                rw [GS.out, if_pos HO.out, hd1] at q
                omega
          · have c2 : ((r : Int) == 65533) = false := by simp [hF]
            have hyd : y.size = d := by rw [hes, GW.out, if_neg (by omega)]
            clear h58 hP hF hes
            go_wp2_with (first | (go_at_call 30; refine (CP.out _).mono ?_; rintro e w' ⟨rfl, rfl⟩))
            refine ⟨⟨m + d, j + 1, by go_num, by go_num, by omega, hwl, G3.out, ?_⟩, by simp [intOf]; omega⟩
            have q := HST.out
            rw [GS.out, if_pos HO.out] at q
            omega
        · have HO : Hid (¬ Ok (r : Int)) := Lib.hid (by rintro (h | h); exact h58 h; exact hP h)
          have CP := Lib.hid (fun W => rpt_f hP W)
          have m1 : (0 : Int) ≤ (k : Int) + (m : Int) := by omega
          have m2 : (k : Int) ≤ (k : Int) + (m : Int) := by omega
          have m3 : (k : Int) + (m : Int) ≤ (s.size : Int) := by omega
          have q4 : ((k : Int) + (m : Int)).toNat = k + m := by omega
          clear h58 hP
          go_wp2_with (first | (go_at_call 30; refine (CP.out _).mono ?_; rintro e w' ⟨rfl, rfl⟩))
          go_ret2
          have q := HST.out
          rw [GS.out, if_neg HO.out] at q
          refine ⟨ret_two ?_ ?_, HB.out⟩
          · rw [← HX.out, ← q]
            rfl
          · omega
    · have HEN := Lib.hid (at_end u l m j (by omega) hm HD.out)
      go_wp2_with fail
      go_ret2
      have q := HST.out
      have he := HEN.out
      rw [St_end u m (by omega)] at q
      refine ⟨ret_two ?_ ?_, HB.out⟩
      · rw [← HX.out]
        congr 1
        omega
      · omega

set_option maxHeartbeats 1000000 in
set_option maxRecDepth 100000 in
theorem rcut_out (s : ByteArray) (k : Int) (hk : k < 0 ∨ (s.size : Int) < k) (w : World) :
    Calls Tryz.prog 17 #[.string s, .int .i64 k] w fun e w' => e = .returned (.tuple #[.string ⟨#[]⟩, .int .i64 k]) ∧ Below w.heap.size w w' := by
  by_cases h0 : k < 0
  · have b1 : decide (k < 0) = true := by simp [h0]
    clear hk
    go_enter Tryz.func17, Tryz.ntmps17
    go_wp2_with fail
    go_ret2
    exact ⟨rfl, Below.refl _ _⟩
  · have b1 : decide (k < 0) = false := by simp; omega
    have b2 : decide ((s.size : Int) < k) = true := by simp; omega
    clear hk
    go_enter Tryz.func17, Tryz.ntmps17
    go_wp2_with fail
    go_ret2
    exact ⟨rfl, Below.refl _ _⟩
end Go.Proofs.YtaoklhalkfcpfaaGreatDoor.Nz

/- The walk of the document's own Split. -/
set_option linter.unusedSimpArgs false
set_option linter.unusedVariables false
namespace Go.Proofs.YtaoklhalkfcpfaaGreatDoor.Nz
open Go.RowKit

def RsRel (s : ByteArray) (w : World) (i : Value) (wr : World) : Prop :=
  ∃ k : Nat, k ≤ s.size ∧ i = .int .i64 k ∧ Below w.heap.size w wr ∧ ∀ j, j < k → ¬ Hit s j
theorem bl_get (s : ByteArray) (k : Nat) (h : k < s.size) : (bl s).getD k 0 = (s[k]'h).toNat := by
  have := get_bl s k 0
  rw [List.getD_eq_getElem?_getD, List.getElem?_drop, Nat.add_zero, ← List.getD_eq_getElem?_getD] at this
  rw [← this]
  simp [ByteArray.get!, getElem!_pos, h]
  rfl
theorem ret_split {r : ByteArray × ByteArray × Bool} {a b : ByteArray} {c : Bool} (h : r = (a, b, c)) : Ending.returned (.tuple #[.string a, .string b, .bool c]) = .returned (.tuple #[.string r.1, .string r.2.1, .bool r.2.2]) := by rw [h]

set_option maxHeartbeats 1000000 in
set_option maxRecDepth 100000 in
theorem rsplit_any (s : ByteArray) (hs : s.size ≤ 1000) (w : World) :
    Calls Tryz.prog 18 #[.string s] w fun e w' => e = .returned (.tuple #[.string (splitA s).1, .string (splitA s).2.1, .bool (splitA s).2.2]) ∧ Below w.heap.size w w' := by
  have CP := Lib.hid (rplain_any s hs)
  cases hp : pl (bl s)
  · rw [hp] at CP
    have HN := Lib.hid (@nohit_split s hp)
    have HH := Lib.hid (fun i (h : Hit s i) => hit_split h)
    clear hp
    generalize splitA s = res at *
    go_enter Tryz.func18, Tryz.ntmps18
    go_wp2_with fail
    refine (CP.out _).mono ?_
    rintro e w1 ⟨rfl, hb1⟩
    go_wp2_with fail
    go_loopw [5] (fun i wr => RsRel s w i wr) (fun i _ => s.size - (intOf i).toNat)
    case atStart => exact ⟨0, Nat.zero_le _, rfl, hb1, fun j hj => by omega⟩
    case round =>
      obtain ⟨k, hk, rfl, hb, ho⟩ := hrel
      have HO := Lib.hid ho
      clear ho hb1
      by_cases hlt : k < s.size
      · have hbe := bl_get s k hlt
        by_cases h58 : (bl s).getD k 0 = 58
        · have c1 : ((s[k].toNat : Int) == 58) = true := by rw [← hbe, h58]; rfl
          have i1 : (0 : Int) ≤ (k : Int) := by omega
          have i2 : (k : Int) ≤ (s.size : Int) := by omega
          have H58 := Lib.hid h58
          have C1 := Lib.hid (rplain_any (s.extract 0 k) (by rw [ByteArray.size_extract]; omega))
          have C2 := Lib.hid (rplain_any (s.extract (k + 1) s.size) (by rw [ByteArray.size_extract]; omega))
          clear hbe h58
          cases h1 : pl (bl (s.extract 0 k))
          · have HQ : Hid (¬ Hit s k) := Lib.hid (by
              rintro ⟨g1, g2, g3, g4⟩
              rw [← bl_pre, h1] at g3
              exact absurd g3 (by simp))
            rw [h1] at C1
            clear h1
            go_wp2_with fail
            refine (C1.out _).mono ?_
            rintro e w2 ⟨rfl, hb2⟩
            go_wp2_with fail
            go_roundw
            case rel =>
              refine ⟨k + 1, by omega, by go_num, hb.trans (hb2.mono hb.size), fun j hj => ?_⟩
              rcases Nat.lt_or_ge j k with h | h
              · exact HO.out j h
              · obtain rfl : j = k := by omega
                exact HQ.out
            case measure => simp [intOf]; omega
          · have H1 := Lib.hid h1
            rw [h1] at C1
            clear h1
            cases h2 : pl (bl (s.extract (k + 1) s.size))
            · have HQ : Hid (¬ Hit s k) := Lib.hid (by
                rintro ⟨g1, g2, g3, g4⟩
                rw [← bl_post, h2] at g4
                exact absurd g4 (by simp))
              rw [h2] at C2
              clear h2
              have i3 : (0 : Int) ≤ (k : Int) + 1 := by omega
              have i4 : (k : Int) + 1 ≤ (s.size : Int) := by omega
              have q3 : ((k : Int) + 1).toNat = k + 1 := by omega
              go_wp2_with fail
              refine (C1.out _).mono ?_
              rintro e w2 ⟨rfl, hb2⟩
              go_wp2_with fail
              refine (C2.out _).mono ?_
              rintro e w3 ⟨rfl, hb3⟩
              have hbb := (hb.trans (hb2.mono hb.size)).trans (hb3.mono (by have := hb.size; have := hb2.size; omega))
              go_wp2_with fail
              go_roundw
              case rel =>
                refine ⟨k + 1, by omega, by go_num, hbb, fun j hj => ?_⟩
                rcases Nat.lt_or_ge j k with h | h
                · exact HO.out j h
                · obtain rfl : j = k := by omega
                  exact HQ.out
              case measure => simp [intOf]; omega
            · have HQ : Hid (Hit s k) := Lib.hid ⟨hlt, H58.out, by rw [← bl_pre]; exact H1.out, by rw [← bl_post]; exact h2⟩
              rw [h2] at C2
              clear h2
              have i3 : (0 : Int) ≤ (k : Int) + 1 := by omega
              have i4 : (k : Int) + 1 ≤ (s.size : Int) := by omega
              have q3 : ((k : Int) + 1).toNat = k + 1 := by omega
              have q2 : IntKind.i64.wrap ((k : Int) + 1) = (k : Int) + 1 := IntWalk.i64_in _ (by omega)
              go_wp2_with fail
              refine (C1.out _).mono ?_
              rintro e w2 ⟨rfl, hb2⟩
              go_wp2_with fail
              refine (C2.out _).mono ?_
              rintro e w3 ⟨rfl, hb3⟩
              have hbb := (hb.trans (hb2.mono hb.size)).trans (hb3.mono (by have := hb.size; have := hb2.size; omega))
              go_wp2_with fail
              go_quiet (fail)
              go_wp2
              go_ret3
              exact ⟨ret_split (HH.out _ HQ.out), below_drewN hbb _⟩
        · have c1 : ((s[k].toNat : Int) == 58) = false := by
            rw [beq_eq_false_iff_ne, ← hbe]
            omega
          have HQ : Hid (¬ Hit s k) := Lib.hid (fun h => h58 h.2.1)
          clear hbe h58
          go_wp2_with fail
          go_roundw
          case rel =>
            refine ⟨k + 1, by omega, by go_num, hb, fun j hj => ?_⟩
            rcases Nat.lt_or_ge j k with h | h
            · exact HO.out j h
            · obtain rfl : j = k := by omega
              exact HQ.out
          case measure => simp [intOf]; omega
      · go_wp2_with fail
        go_ret3
        exact ⟨ret_split (HN.out (fun i hi => HO.out i (by omega))), hb⟩
  · rw [hp] at CP
    have HS := Lib.hid (plain_split hp)
    clear hp
    generalize splitA s = res at *
    go_enter Tryz.func18, Tryz.ntmps18
    go_wp2_with fail
    refine (CP.out _).mono ?_
    rintro e w1 ⟨rfl, hb1⟩
    go_wp2_with fail
    go_ret3
    exact ⟨ret_split HS.out, hb1⟩
end Go.Proofs.YtaoklhalkfcpfaaGreatDoor.Nz
