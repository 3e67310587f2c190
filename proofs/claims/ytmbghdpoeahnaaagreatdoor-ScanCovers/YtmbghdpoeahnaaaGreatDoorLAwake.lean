/-
  The walk of awake: answers that the document fixes.
-/
import Derived.Test.YtmbghdpoeahnaaaGreatDoorG32
set_option linter.unusedSimpArgs false
set_option linter.unusedVariables false
namespace Go.Proofs.YtmbghdpoeahnaaaGreatDoor
open Go.RowKit

/-- A slice of tokens: where its cells lie. -/
theorem own_cells {w : World} {B : Nat} {v : Value} {l : List Tk} (h : OwnT w B v l) (hl : l ≠ []) : ∃ g cap, v = .slice (some ⟨g, 0, none⟩) l.length cap ∧ B ≤ g ∧ g < w.heap.size ∧ ∀ j, j < l.length * 4 → w.cell? ⟨g, j, none⟩ = (tkL l)[j]? := by
  have h' : w.ownsRow B 33 4 v l.length (tkL l) := h
  rcases h'.2 with ⟨_, h0⟩ | ⟨g, cap, cur, rfl, hB, _⟩
  · exact absurd (List.eq_nil_of_length_eq_zero h0) hl
  · exact ⟨g, cap, rfl, hB, (h'.lt g rfl).2, fun j hj => h'.cellAt j hj⟩
def awakeT : ByteArray := ⟨#[60, 97, 32, 120, 61, 39, 62, 39, 47, 62, 98]⟩
set_option maxRecDepth 100000 in
theorem awake_all : allAtT (byts ⟨#[60, 97, 32, 120, 61, 39, 62, 39, 47, 62, 98]⟩) 0 = ([⟨1, [97, 32, 120, 61, 39, 62, 39], true, false⟩, ⟨3, [98], false, false⟩, ⟨6, [], false, false⟩], 11, 0) := by kernel_rfl
set_option maxRecDepth 100000 in
theorem awake_more : frontF (decide (0 = 0)) true ((byts ⟨#[98]⟩).drop 0) = (T0, 0, 7) := by kernel_rfl
set_option maxRecDepth 100000 in
theorem awake_doc : nx (byts ⟨#[60, 33, 68, 79, 67, 84, 89, 80, 69, 32, 97, 62]⟩) 0 = (T0, 0, 12) := by kernel_rfl
theorem awake_str : strOfNums [97, 32, 120, 61, 39, 62, 39] = ⟨#[97, 32, 120, 61, 39, 62, 39]⟩ ∧ strOfNums [98] = ⟨#[98]⟩ := by
  rw [strOf_eq, strOf_eq]
  exact ⟨rfl, rfl⟩
set_option maxHeartbeats 4000000 in
set_option maxRecDepth 100000 in
theorem awake_any (w : World) (hG : Gl w) : Calls Tryz.prog 7 #[] w fun e w' => e = .returned (.bool true) ∧ Below w.heap.size w w' := by
  have A := all_any ⟨#[60, 97, 32, 120, 61, 39, 62, 39, 47, 62, 98]⟩ w hG (by decide)
  rw [awake_all] at A
  have CA := Lib.hid A
  have CB := Lib.hid (fun W (hW : Gl W) => More_any ⟨#[98]⟩ 0 W hW (by decide) (by decide))
  rw [awake_more] at CB
  have CC := Lib.hid (fun W (hW : Gl W) => Next_any ⟨#[60, 33, 68, 79, 67, 84, 89, 80, 69, 32, 97, 62]⟩ 0 W hW (by decide) (by decide))
  rw [awake_doc] at CC
  have HG := Lib.hid hG
  have s1 : ((⟨#[97, 32, 120, 61, 39, 62, 39]⟩ : ByteArray).toList == [97, 32, 120, 61, 39, 62, 39]) = true := by rw [Lib.toList_data]; decide
  have s2 : ((⟨#[98]⟩ : ByteArray).toList == [98]) = true := by rw [Lib.toList_data]; decide
  clear hG A
  go_enter Tryz.func7, Tryz.ntmps7
  go_wp2_with fail
  refine CA.out.mono ?_
  rintro e w1 ⟨v, rfl, hown, hb1⟩
  obtain ⟨g, cap, rfl, hBg, hg, hc⟩ := own_cells hown (by simp)
  have p0 := hc 0 (by decide)
  have p1 := hc 1 (by decide)
  have p2 := hc 2 (by decide)
  have p5 := hc 5 (by decide)
  have p8 := hc 8 (by decide)
  have HP : Hid (w1.cell? ⟨g, 0, none⟩ = some (.int .i64 1) ∧ w1.cell? ⟨g, 1, none⟩ = some (.string ⟨#[97, 32, 120, 61, 39, 62, 39]⟩) ∧ w1.cell? ⟨g, 2, none⟩ = some (.bool true) ∧ w1.cell? ⟨g, 5, none⟩ = some (.string ⟨#[98]⟩) ∧ w1.cell? ⟨g, 8, none⟩ = some (.int .i64 6)) :=
    Lib.hid ⟨p0, by rw [p1, ← awake_str.1]; rfl, p2, by rw [p5, ← awake_str.2]; rfl, p8⟩
  have HG1 := Lib.hid (HG.out.after hb1)
  have HB1 := Lib.hid hb1
  clear hown hc p0 p1 p2 p5 p8 CA hb1
  dsimp only [List.length]
  go_wp2_with fail
  refine (CB.out _ HG1.out).mono ?_
  rintro e w2 ⟨rfl, hb2⟩
  rw [tk0]
  have ha2 := (Below.refl w2.heap.size w2).alloc (Nat.le_refl _) (.cells #[.int .i64 0, .string ⟨#[]⟩, .bool false, .bool false] 33)
  have hb2' := hb2.trans (ha2.mono hb2.size)
  have HG2 := Lib.hid (HG1.out.after hb2')
  have HB2 := Lib.hid (HB1.out.trans (hb2'.mono HB1.out.size))
  have k2 : ∀ j, (w2.alloc (.cells #[.int .i64 0, .string ⟨#[]⟩, .bool false, .bool false] 33)).cell? ⟨g, j, none⟩ = w1.cell? ⟨g, j, none⟩ := fun j => hb2'.cell (p := ⟨g, j, none⟩) hg
  have hg2 : g < (w2.alloc (.cells #[.int .i64 0, .string ⟨#[]⟩, .bool false, .bool false] 33)).heap.size := Nat.lt_of_lt_of_le hg hb2'.size
  have K2 := Lib.hid k2
  clear hb2 ha2 hb2' k2
  go_wp2_with fail
  refine (CC.out _ HG2.out).mono ?_
  rintro e w3 ⟨rfl, hb3⟩
  rw [tk0]
  have ha3 := (Below.refl w3.heap.size w3).alloc (Nat.le_refl _) (.cells #[.int .i64 0, .string ⟨#[]⟩, .bool false, .bool false] 33)
  have hb3' := hb3.trans (ha3.mono hb3.size)
  have HB3 := Lib.hid (HB2.out.trans (hb3'.mono HB2.out.size))
  have k3 : ∀ j, (w3.alloc (.cells #[.int .i64 0, .string ⟨#[]⟩, .bool false, .bool false] 33)).cell? ⟨g, j, none⟩ = w1.cell? ⟨g, j, none⟩ := fun j => (hb3'.cell (p := ⟨g, j, none⟩) hg2).trans (K2.out j)
  have f0 := (k3 0).trans HP.out.1
  have f1 := (k3 1).trans HP.out.2.1
  have f2 := (k3 2).trans HP.out.2.2.1
  have f5 := (k3 5).trans HP.out.2.2.2.1
  have f8 := (k3 8).trans HP.out.2.2.2.2
  clear hb3 ha3 hb3' k3 K2 HP
  go_wp2
  go_ret
  exact ⟨rfl, HB3.out⟩
end Go.Proofs.YtmbghdpoeahnaaaGreatDoor
