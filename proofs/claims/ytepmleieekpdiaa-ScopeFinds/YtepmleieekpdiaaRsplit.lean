/-
  The walk of the document's own Split.
-/
import Derived.Test.YtepmleieekpdiaaSplit
set_option linter.unusedSimpArgs false
set_option linter.unusedVariables false
namespace Go.Proofs.Ytepmleieekpdiaa
open Go.RowKit

def RsRel (s : ByteArray) (w : World) (i : Value) (wr : World) : Prop :=
  ∃ k : Nat, k ≤ s.size ∧ i = .int .i64 k ∧ Below w.heap.size w wr ∧ ∀ j, j < k → ¬ Hit s j
theorem bl_get (s : ByteArray) (k : Nat) (h : k < s.size) : (bl s).getD k 0 = (s[k]'h).toNat := by
  have := get_bl s k 0
  rw [List.getD_eq_getElem?_getD, List.getElem?_drop, Nat.add_zero, ← List.getD_eq_getElem?_getD] at this
  rw [← this]
  simp [ByteArray.get!, getElem!_pos, h]
  rfl
theorem ret_split {r : ByteArray × ByteArray × Bool} {a b : ByteArray} {c : Bool} (h : r = (a, b, c)) : Ending.returned (.tuple #[.string a, .string b, .bool c]) = .returned (.tuple #[.string r.1, .string r.2.1, .bool r.2.2]) := by rw [h]

set_option maxHeartbeats 1000000 in
set_option maxRecDepth 100000 in
theorem rsplit_any (s : ByteArray) (hs : s.size ≤ 1000) (w : World) :
    Calls Try.prog 29 #[.string s] w fun e w' => e = .returned (.tuple #[.string (splitA s).1, .string (splitA s).2.1, .bool (splitA s).2.2]) ∧ Below w.heap.size w w' := by
  have CP := Lib.hid (rplain_any s hs)
  cases hp : pl (bl s)
  · rw [hp] at CP
    have HN := Lib.hid (@nohit_split s hp)
    have HH := Lib.hid (fun i (h : Hit s i) => hit_split h)
    clear hp
    generalize splitA s = res at *
    go_enter Try.func29, Try.ntmps29
    go_wp2_with fail
    refine (CP.out _).mono ?_
    rintro e w1 ⟨rfl, hb1⟩
    go_wp2_with fail
    go_loopw [5] (fun i wr => RsRel s w i wr) (fun i _ => s.size - (intOf i).toNat)
    case atStart => exact ⟨0, Nat.zero_le _, rfl, hb1, fun j hj => by omega⟩
    case round =>
      obtain ⟨k, hk, rfl, hb, ho⟩ := hrel
      have HO := Lib.hid ho
      clear ho hb1
      by_cases hlt : k < s.size
      · have hbe := bl_get s k hlt
        by_cases h58 : (bl s).getD k 0 = 58
        · have c1 : ((s[k].toNat : Int) == 58) = true := by rw [← hbe, h58]; rfl
          have i1 : (0 : Int) ≤ (k : Int) := by omega
          have i2 : (k : Int) ≤ (s.size : Int) := by omega
          have H58 := Lib.hid h58
          have C1 := Lib.hid (rplain_any (s.extract 0 k) (by rw [ByteArray.size_extract]; omega))
          have C2 := Lib.hid (rplain_any (s.extract (k + 1) s.size) (by rw [ByteArray.size_extract]; omega))
          clear hbe h58
          cases h1 : pl (bl (s.extract 0 k))
          · have HQ : Hid (¬ Hit s k) := Lib.hid (by
              rintro ⟨g1, g2, g3, g4⟩
              rw [← bl_pre, h1] at g3
              exact absurd g3 (by simp))
            rw [h1] at C1
            clear h1
            go_wp2_with fail
            refine (C1.out _).mono ?_
            rintro e w2 ⟨rfl, hb2⟩
            go_wp2_with fail
            go_roundw
            case rel =>
              refine ⟨k + 1, by omega, by go_num, hb.trans (hb2.mono hb.size), fun j hj => ?_⟩
              rcases Nat.lt_or_ge j k with h | h
              · exact HO.out j h
              · obtain rfl : j = k := by omega
                exact HQ.out
            case measure => simp [intOf]; omega
          · have H1 := Lib.hid h1
            rw [h1] at C1
            clear h1
            cases h2 : pl (bl (s.extract (k + 1) s.size))
            · have HQ : Hid (¬ Hit s k) := Lib.hid (by
                rintro ⟨g1, g2, g3, g4⟩
                rw [← bl_post, h2] at g4
                exact absurd g4 (by simp))
              rw [h2] at C2
              clear h2
              have i3 : (0 : Int) ≤ (k : Int) + 1 := by omega
              have i4 : (k : Int) + 1 ≤ (s.size : Int) := by omega
              have q3 : ((k : Int) + 1).toNat = k + 1 := by omega
              go_wp2_with fail
              refine (C1.out _).mono ?_
              rintro e w2 ⟨rfl, hb2⟩
              go_wp2_with fail
              refine (C2.out _).mono ?_
              rintro e w3 ⟨rfl, hb3⟩
              have hbb := (hb.trans (hb2.mono hb.size)).trans (hb3.mono (by have := hb.size; have := hb2.size; omega))
              go_wp2_with fail
              go_roundw
              case rel =>
                refine ⟨k + 1, by omega, by go_num, hbb, fun j hj => ?_⟩
                rcases Nat.lt_or_ge j k with h | h
                · exact HO.out j h
                · obtain rfl : j = k := by omega
                  exact HQ.out
              case measure => simp [intOf]; omega
            · have HQ : Hid (Hit s k) := Lib.hid ⟨hlt, H58.out, by rw [← bl_pre]; exact H1.out, by rw [← bl_post]; exact h2⟩
              rw [h2] at C2
              clear h2
              have i3 : (0 : Int) ≤ (k : Int) + 1 := by omega
              have i4 : (k : Int) + 1 ≤ (s.size : Int) := by omega
              have q3 : ((k : Int) + 1).toNat = k + 1 := by omega
              have q2 : IntKind.i64.wrap ((k : Int) + 1) = (k : Int) + 1 := IntWalk.i64_in _ (by omega)
              go_wp2_with fail
              refine (C1.out _).mono ?_
              rintro e w2 ⟨rfl, hb2⟩
              go_wp2_with fail
              refine (C2.out _).mono ?_
              rintro e w3 ⟨rfl, hb3⟩
              have hbb := (hb.trans (hb2.mono hb.size)).trans (hb3.mono (by have := hb.size; have := hb2.size; omega))
              go_wp2_with fail
              go_quiet (fail)
              go_wp2
              go_ret3
              exact ⟨ret_split (HH.out _ HQ.out), below_drewN hbb _⟩
        · have c1 : ((s[k].toNat : Int) == 58) = false := by
            rw [beq_eq_false_iff_ne, ← hbe]
            omega
          have HQ : Hid (¬ Hit s k) := Lib.hid (fun h => h58 h.2.1)
          clear hbe h58
          go_wp2_with fail
          go_roundw
          case rel =>
            refine ⟨k + 1, by omega, by go_num, hb, fun j hj => ?_⟩
            rcases Nat.lt_or_ge j k with h | h
            · exact HO.out j h
            · obtain rfl : j = k := by omega
              exact HQ.out
          case measure => simp [intOf]; omega
      · go_wp2_with fail
        go_ret3
        exact ⟨ret_split (HN.out (fun i hi => HO.out i (by omega))), hb⟩
  · rw [hp] at CP
    have HS := Lib.hid (plain_split hp)
    clear hp
    generalize splitA s = res at *
    go_enter Try.func29, Try.ntmps29
    go_wp2_with fail
    refine (CP.out _).mono ?_
    rintro e w1 ⟨rfl, hb1⟩
    go_wp2_with fail
    go_ret3
    exact ⟨ret_split HS.out, hb1⟩
end Go.Proofs.Ytepmleieekpdiaa
