/-
  The walk of the law UtfPuts.
-/
import Derived.Test.YtjpmffgjlfjgaaaAwake
import Derived.Test.YtjpmffgjlfjgaaaRefPut
import Derived.Deep.RegionWith
set_option linter.unusedSimpArgs false
set_option linter.unusedVariables false
namespace Go.Proofs.Ytjpmffgjlfjgaaa
open Go.RowKit

theorem own_below {w w' : World} {B : Nat} {e : TypeId} {size : Nat} {v : Value} {n : Nat} {xs : List Value} (h : w.ownsRow B e size v n xs) (hb : Below w.heap.size w w') : w'.ownsRow B e size v n xs := by
  rcases h with ⟨h1, ⟨rfl, h0⟩ | ⟨g, cap, cur, rfl, hg, hh, h3, h4, h5, h6⟩⟩
  · exact ⟨h1, .inl ⟨rfl, h0⟩⟩
  · refine ⟨h1, .inr ⟨g, cap, cur, rfl, hg, ?_, h3, h4, h5, h6⟩⟩
    rw [hb.block g (by
      rcases Nat.lt_or_ge g w.heap.size with hlt | hge
      · exact hlt
      · rw [Array.getElem?_eq_none hge] at hh; cases hh)]
    exact hh

/-- A slice of the call's own that is not empty: its row, and its cells. -/
theorem own_some {k : IntKind} {w : World} {B : Nat} {e : TypeId} {v : Value} {l : List Int} (h : w.ownsRow B e 1 v l.length (l.map (Value.int k))) (hl : 0 < l.length) :
    ∃ g c, v = .slice (some ⟨g, 0, none⟩) l.length c ∧ B ≤ g ∧ g < w.heap.size ∧ ∀ j u, (l.map (Value.int k))[j]? = some u → w.cell? ((⟨g, 0, none⟩ : Addr).add j) = some u := by
  rcases h.2 with ⟨_, h0⟩ | ⟨g, cap, cur, rfl, hg, hh, _, _, _, _⟩
  · omega
  · exact ⟨g, cap, rfl, hg, (h.lt g rfl).2, h.cells rfl⟩

theorem putI_ref (r : Int) (h : refPut r ≠ []) : putI r = refPut r := by
  unfold refPut putI at *
  by_cases hb : Bad r
  · rw [if_pos hb] at h; exact absurd rfl h
  · rw [if_neg hb, if_neg hb]
theorem putI_sub (r : Int) (h : refPut r = []) : putI r = refPut 65533 := by
  unfold refPut putI at *
  by_cases hb : Bad r
  · rw [if_pos hb, if_neg (by decide)]
  · rw [if_neg hb] at h
    have := encB_len r
    rw [h] at this
    simp at this

def PutsRel (w : World) (l : List Int) (v i : Value) (wr : World) : Prop :=
  ∃ k : Nat, k ≤ l.length ∧ i = .int .i64 k ∧ OwnB wr w.heap.size v (putL (l.take k)) ∧ Below w.heap.size w wr

set_option maxHeartbeats 1000000 in
set_option maxRecDepth 100000 in
theorem puts_law (A : Option Addr) (c : Nat) (l : List Int) (w : World) (h : Rd .i32 w w.heap.size A l) (hl : l.length ≤ 100) (hr : ∀ x ∈ l, -2147483648 ≤ x ∧ x ≤ 2147483647) :
    Calls Try.prog 5 #[.slice A l.length c] w fun e w' => e = .returned (.bool true) ∧ Below w.heap.size w w' := by
  obtain ⟨i0, hi, hz0, hz1, hz2⟩ := info_parts Try.info5
  obtain ⟨n, hn⟩ : ∃ n, n = l.length := ⟨_, rfl⟩
  rw [← hn]
  have HN := Lib.hid hn
  have hn1 : n ≤ l.length := by omega
  have hn2 : l.length ≤ n := by omega
  clear hn
  have t1 : decide ((100 : Int) < (n : Int)) = false := by simp; omega
  go_enter Try.func5, Try.ntmps5
  go_wp2_with (go_at_call 8; refine (awake_any _).mono ?_; rintro e w1 ⟨rfl, hb1⟩)
  go_loopw [3, 4] (fun v i wr => PutsRel w l v i wr) (fun _ i _ => l.length - (intOf i).toNat)
  case atStart => exact ⟨0, Nat.zero_le _, rfl, World.ownsRow_nil _ _ _ _, hb1⟩
  case round =>
    obtain ⟨k, hk, rfl, hown, hbel⟩ := hrel
    by_cases hlt : k < n
    · obtain ⟨b, off, rfl, hb, hc⟩ := (h.below hbel).at_ (j := k) (by omega)
      have HS := Lib.hid (putL_step l k (by omega))
      have hrb := hr (l.getD k 0) (by rw [List.getD_eq_getElem?_getD, List.getElem?_eq_getElem (by omega)]; exact List.getElem_mem _)
      generalize hx : l.getD k 0 = r at hc HS hrb
      clear hx
      obtain ⟨hrb1, hrb2⟩ := hrb
      have hpl := putL_len (l.take k)
      have hpt : (l.take k).length ≤ 1000 := by simp; omega
      have hsz := hbel.size
      by_cases hp : refPut r = []
      · rw [putI_sub r hp] at HS
        have c1 := fun W => refput_any r W
        rw [hp] at c1
        have C1 := Lib.hid c1
        clear hp c1
        have hq : (refPut 65533).length = 3 := by decide
        have C2 := Lib.hid (fun W => refput_any 65533 W)
        generalize refPut 65533 = q at HS C2 hq
        have hq1 : 0 < q.length := by omega
        have hq2 : q.length ≤ 4 := by omega
        clear hq
        go_wp2_with fail
        refine (C1.out _).mono ?_
        rintro e w2 ⟨p, rfl, hown2, hbel2⟩
        obtain ⟨A2, c2, rfl, _⟩ := own_rd hown2
        have hsz2 := hbel2.size
        clear hown2
        go_wp2_with fail
        refine (C2.out _).mono ?_
        rintro e w3 ⟨p, rfl, hown3, hbel3⟩
        have hsz3 := hbel3.size
        obtain ⟨g, c3, rfl, hg1, hg2, hcells⟩ := own_some hown3 hq1
        have hown4 := own_below (own_below hown hbel2) hbel3
        go_wp2_with (at_builtin; refine wpList_append_own _ rfl _ _ 37 rfl w.heap.size 5 i0 (.int .u8 0) 1 1 Try.underlying37 hi hz0 hz1 hz2 rfl (by decide) _ _ _ rfl hown4 ⟨g, 0, none⟩ q.length c3 (q.map (Value.int .u8)) rfl (by simp) hcells (ints_oneCell .u8 q) (by unfold maxLen; omega) (by omega) (by omega) ?_)
        intro v' w4 hown5 hgrow _
        go_wp2
        go_roundw
        case rel =>
          refine ⟨k + 1, by omega, by go_num, ?_, ?_⟩
          · rw [HS.out]; unfold OwnB; rw [List.map_append, List.length_append]; exact hown5
          · exact ((hbel.trans (hbel2.mono hsz)).trans (hbel3.mono (by omega))).grown hgrow (by omega) (fun g hg => (World.ownsRow.lt hown g hg).1)
        case measure => simp [intOf]; omega
      · rw [putI_ref r hp] at HS
        have C1 := Lib.hid (fun W => refput_any r W)
        have hq2 : (refPut r).length ≤ 4 := by rw [← putI_ref r hp]; exact (putI_len r).2
        generalize refPut r = q at HS C1 hp hq2
        have hq1 : 0 < q.length := List.length_pos_iff.2 hp
        have hq3 : ((q.length : Int) == 0) = false := by simp; exact hp
        clear hp
        go_wp2_with fail
        refine (C1.out _).mono ?_
        rintro e w3 ⟨p, rfl, hown3, hbel3⟩
        have hsz3 := hbel3.size
        obtain ⟨g, c3, rfl, hg1, hg2, hcells⟩ := own_some hown3 hq1
        have hown4 := own_below hown hbel3
        go_wp2_with (at_builtin; refine wpList_append_own _ rfl _ _ 37 rfl w.heap.size 5 i0 (.int .u8 0) 1 1 Try.underlying37 hi hz0 hz1 hz2 rfl (by decide) _ _ _ rfl hown4 ⟨g, 0, none⟩ q.length c3 (q.map (Value.int .u8)) rfl (by simp) hcells (ints_oneCell .u8 q) (by unfold maxLen; omega) (by omega) (by omega) ?_)
        intro v' w4 hown5 hgrow _
        go_wp2
        go_roundw
        case rel =>
          refine ⟨k + 1, by omega, by go_num, ?_, ?_⟩
          · rw [HS.out]; unfold OwnB; rw [List.map_append, List.length_append]; exact hown5
          · exact (hbel.trans (hbel3.mono (by omega))).grown hgrow (by omega) (fun g hg => (World.ownsRow.lt hown g hg).1)
        case measure => simp [intOf]; omega
    · have hkn : k = l.length := by omega
      subst hkn
      rw [List.take_length] at hown
      obtain ⟨A2, c2, rfl, hrd⟩ := own_rd hown
      have hcv : (convert 37 9 (.slice A2 (putL l).length c2)).run Try.prog wr.drew = .ok (.string (strOfNums (putL l))) wr.drew := conv_rd (c := c2) hrd
      have hrd' : Rd .u8 wr.drew wr.drew.heap.size A2 (putL l) := hrd
      have hri : Rd .i32 wr.drew wr.drew.heap.size A l := (h.below hbel).more hbel.size
      have hput := put_any A c l wr.drew hri (by omega)
      rw [← HN.out] at hput
      have HP := Lib.hid hput
      clear hput
      go_wp2_with fail
      go_region_with (go_at_call 17; refine HP.out.mono ?_; rintro e w2 ⟨rfl, hb2⟩; have hcv2 := conv_rd (c := c2) (hrd'.below hb2))
      all_goals
        go_wp2
        go_ret
        exact ⟨ret_bool (by simp), (hbel.drew).trans (hb2.mono hbel.size)⟩
end Go.Proofs.Ytjpmffgjlfjgaaa
