/-
  What the walk of the document's cut needs.
-/
import Derived.Test.YtkaimohkdkdbmaaDoorRefMath
import Derived.Test.YtkaimohkdkdbmaaDoorRefPut
import Derived.Test.YtkaimohkdkdbmaaDoorBegins
import Derived.Deep.DeepCutAuto
set_option linter.unusedSimpArgs false
set_option linter.unusedVariables false
namespace Go.Proofs.YtkaimohkdkdbmaaDoor
open Go.RowKit

def CutPost (F : List Int) (w : World) (e : Ending) (w' : World) : Prop :=
  ∃ b : Bool, e = .returned (.bool b) ∧ (b = true ↔ (dec1 F).2.2 = 7) ∧ Below w.heap.size w w'
def CutRel (F : List Int) (w : World) (t : Value) (wr : World) : Prop :=
  ∃ k : Nat, F.length < k ∧ k ≤ 5 ∧ t = .int .i64 k ∧ (∀ j, F.length < j → j < k → ¬ Srch F j) ∧ Below w.heap.size w wr
def LowRel (F : List Int) (t : Nat) (l h : Value) : Prop :=
  ∃ (j : Nat) (lo hi : ByteArray), F.length + j ≤ t ∧ l = .string lo ∧ h = .string hi ∧ byts lo = F ++ List.replicate j 128 ∧ byts hi = F ++ List.replicate j 191
theorem byts_app (a b : ByteArray) : byts (a ++ b) = byts a ++ byts b := by
  unfold byts
  rw [ByteArray.data_append, Array.toList_append, List.map_append]
theorem rep_snoc (j : Nat) (x : Int) : List.replicate j x ++ [x] = List.replicate (j + 1) x := by
  rw [List.replicate_succ']

theorem val_bt (s : ByteArray) (n : Nat) : valG (bt s) n n = valL (byts s) n := by
  unfold valL
  congr 1
  funext k
  exact bt_byts s k
theorem F_get {s : ByteArray} {a : Nat} {F : List Int} (h : F = (byts s).drop a) (k : Nat) (hk : a + k < s.size) : ((s[a + k]'hk).toNat : Int) = F.getD k 0 := by
  rw [bt_eq s (a + k) hk, bt_byts, h]
  simp [List.getD_eq_getElem?_getD, List.getElem?_drop]
theorem tl_step {F : List Int} {k : Nat} {c d : Bool} (hc : c = true ↔ ∀ j, 1 ≤ j → j < k → 128 ≤ F.getD j 0 ∧ F.getD j 0 ≤ 191) (hk : 1 ≤ k)
    (hd : d = true ↔ c = true ∧ 128 ≤ F.getD k 0 ∧ F.getD k 0 ≤ 191) : d = true ↔ ∀ j, 1 ≤ j → j < k + 1 → 128 ≤ F.getD j 0 ∧ F.getD j 0 ≤ 191 := by
  rw [hd, hc]
  refine ⟨fun ⟨h1, h2⟩ j j1 j2 => ?_, fun h => ⟨fun j j1 j2 => h j j1 (by omega), h k hk (by omega)⟩⟩
  rcases Nat.lt_or_ge j k with h | h
  · exact h1 j j1 h
  · obtain rfl : j = k := by omega
    exact h2
theorem F_get0 {s : ByteArray} {a : Nat} {F : List Int} (h : F = (byts s).drop a) (hk : a < s.size) : ((s[a]'hk).toNat : Int) = F.getD 0 0 := F_get h 0 hk
def TlRel (F : List Int) (b i : Value) : Prop :=
  ∃ (k : Nat) (c : Bool), 1 ≤ k ∧ k ≤ F.length ∧ i = .int .i64 k ∧ b = .bool c ∧ (c = true ↔ ∀ j, 1 ≤ j → j < k → 128 ≤ F.getD j 0 ∧ F.getD j 0 ≤ 191)

theorem stp_bd (j : Nat) : 1 ≤ stp j ∧ stp j ≤ 4161 := by unfold stp; repeat' split <;> omega
theorem stp_mul (j k : Nat) (hk : k ≤ 64) : 0 ≤ stp j * (k : Int) ∧ stp j * (k : Int) ≤ 300000 := by
  have h := stp_bd j
  refine ⟨Int.mul_nonneg (by omega) (by omega), ?_⟩
  have : stp j * (k : Int) ≤ 4161 * 64 := Int.mul_le_mul h.2 (by omega) (by omega) (by omega)
  omega
/-- What the search compares, where the lengths agree. -/
theorem begP_hit (q F : List Int) (h0 : NN q) (h1 : ∀ x ∈ q, x ≤ 255) (hF : 0 < F.length) (hlt : F.length < q.length) :
    begP (strOfNums q ++ ⟨#[120]⟩) 0 F ↔ q.take F.length = F := by
  have hb : byts (strOfNums q ++ (⟨#[120]⟩ : ByteArray)) = q ++ [120] := by rw [byts_app, byts_str q h0 h1]; rfl
  have hz : (strOfNums q ++ (⟨#[120]⟩ : ByteArray)).size = q.length + 1 := by rw [← byts_len, hb]; simp
  have hg : ∀ j, j < F.length → bt (strOfNums q ++ (⟨#[120]⟩ : ByteArray)) (0 + j) = q.getD j 0 := fun j hj => by
    rw [bt_byts, hb, Nat.zero_add]
    rw [List.getD_eq_getElem?_getD, List.getElem?_append_left (by omega), List.getD_eq_getElem?_getD]
  refine ⟨fun ⟨_, _, h⟩ => ?_, fun h => ⟨hF, by omega, fun j hj => ?_⟩⟩
  · refine List.ext_getElem (by rw [List.length_take]; omega) fun i i1 i2 => ?_
    have := h i i2
    rw [hg i i2] at this
    simp only [List.getD_eq_getElem?_getD, List.getElem?_eq_getElem i2, List.getElem?_eq_getElem (show i < q.length by omega), Option.getD_some] at this
    rw [List.getElem_take]
    exact this
  · rw [hg j hj]
    have := congrArg (fun l => l.getD j 0) h
    simp only [List.getD_eq_getElem?_getD, List.getElem?_take, hj, if_true] at this ⊢
    exact this
theorem begins0 (s : ByteArray) (A : Option Addr) (c m : Nat) (L : List Int) (w : World) (h : Rd .u8 w w.heap.size A L) (hs : s.size ≤ 100000) (hL : L.length ≤ 100000) (hm : m = L.length) (b : Bool) (hp : b = true ↔ begP s 0 L) :
    Calls Tryd.prog 27 #[.string s, .int .i64 0, .slice A m c] w fun e w' => e = .returned (.bool b) ∧ Below w.heap.size w w' := by
  subst hm
  cases b with
  | true => exact begins_yes s 0 A c L w h hs hL (by omega) (hp.1 rfl)
  | false => exact begins_no s 0 A c L w h hs hL (by omega) fun hq => by cases hp.2 hq
/-- The bytes that '[]byte(s)' lays. -/
theorem rd_bytes (w : World) (E : ByteArray) (c : Nat) (fr : Nat × Nat) : Rd .u8 (w.alloc (.cells (bytesRow E c) 5 fr)) (w.alloc (.cells (bytesRow E c) 5 fr)).heap.size (some ⟨w.heap.size, 0, none⟩) (byts E) := by
  refine .inr ⟨w.heap.size, 0, rfl, by simp, fun j hj => ?_⟩
  rw [Nat.zero_add]
  have := cell_of_row (w.alloc (.cells (bytesRow E c) 5 fr)) w.heap.size j (bytesRow E c) 5 fr (heap_alloc_new w _)
  rw [this]
  rw [byts_len] at hj
  have hj' : j < E.data.size := hj
  simp only [bytesRow, byts, Array.getElem?_append, List.getD_eq_getElem?_getD, Array.size_map, hj', if_true, Array.getElem?_map, List.getElem?_map, Array.getElem?_toList, Array.getElem?_eq_getElem hj', Option.map_some, Option.getD_some]
def SrRel (F : List Int) (t : Nat) (w : World) (i : Value) (wr : World) : Prop :=
  ∃ k : Nat, k ≤ 64 ∧ i = .int .i64 k ∧ (∀ j, j < k → ¬ Hit F t j) ∧ Below w.heap.size w wr
theorem no_more {F : List Int} {t : Nat} (h : ∀ j, F.length < j → j < t → ¬ Srch F j) (hn : ¬ Srch F t) : ∀ j, F.length < j → j < t + 1 → ¬ Srch F j := fun j j1 j2 => by
  rcases Nat.lt_or_ge j t with h' | h'
  · exact h j j1 h'
  · obtain rfl : j = t := by omega
    exact hn

theorem refPut_nn (r : Int) : NN (refPut r) ∧ ∀ x ∈ refPut r, x ≤ 255 := by
  by_cases h : Bad r
  · rw [refPut, if_pos h]
    exact ⟨fun x hx => by simp at hx, fun x hx => by simp at hx⟩
  · rw [refPut_ok h]
    exact encB_nn r h
theorem hit_more {F : List Int} {t k : Nat} (h : ∀ j, j < k → ¬ Hit F t j) (hn : ¬ Hit F t k) : ∀ j, j < k + 1 → ¬ Hit F t j := fun j j2 => by
  rcases Nat.lt_or_ge j k with h' | h'
  · exact h j h'
  · obtain rfl : j = k := by omega
    exact hn
end Go.Proofs.YtkaimohkdkdbmaaDoor
