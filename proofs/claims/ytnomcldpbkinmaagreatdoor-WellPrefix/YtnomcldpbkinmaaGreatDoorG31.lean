/-
  Merged by program out of the texts Kinds, Marked of one seat.
-/
import Derived.Test.YtnomcldpbkinmaaGreatDoorG30
import Derived.Laws.EntriesVeiled

/- The walks of scan.upTo, scan.refused and scan.kinds. -/
set_option linter.unusedSimpArgs false
set_option linter.unusedVariables false
namespace Go.Proofs.YtnomcldpbkinmaaGreatDoor
open Go.RowKit

set_option maxHeartbeats 1000000 in
set_option maxRecDepth 100000 in
theorem upto_mk (m : ByteArray) (w : World) : Calls Tryz.prog 103 #[.string m] w fun e w' => e = .returned (.func (.func 128) #[] #[.pointer (some ⟨w.heap.size, 0, none⟩)]) ∧ w' = w.alloc (.cells #[.string m] 9) := by
  go_enter Tryz.func103, Tryz.ntmps103
  go_wp2
  go_ret
  exact ⟨rfl, rfl⟩
set_option maxHeartbeats 1000000 in
set_option maxRecDepth 100000 in
theorem refused_mk (er : Int) (w : World) : Calls Tryz.prog 106 #[.int .i64 er] w fun e w' => e = .returned (.func (.func 131) #[] #[.pointer (some ⟨w.heap.size, 0, none⟩)]) ∧ w' = w.alloc (.cells #[.int .i64 er] 24) := by
  go_enter Tryz.func106, Tryz.ntmps106
  go_wp2
  go_ret
  exact ⟨rfl, rfl⟩
/-- The list of the kinds of markup, from block N on. -/
def kcells (N : Nat) : Array Value :=
  #[.string ⟨#[60, 33, 91, 67, 68, 65, 84, 65, 91]⟩, .func (.func 128) #[] #[.pointer (some ⟨N, 0, none⟩)], .func (.func 104) #[] #[],
    .string ⟨#[60, 33, 45, 45]⟩, .func (.func 128) #[] #[.pointer (some ⟨N + 1, 0, none⟩)], .func (.func 105) #[] #[],
    .string ⟨#[60, 33, 68, 79, 67, 84, 89, 80, 69]⟩, .func (.func 128) #[] #[.pointer (some ⟨N + 2, 0, none⟩)], .func (.func 131) #[] #[.pointer (some ⟨N + 3, 0, none⟩)],
    .string ⟨#[60, 33]⟩, .func (.func 128) #[] #[.pointer (some ⟨N + 4, 0, none⟩)], .func (.func 131) #[] #[.pointer (some ⟨N + 5, 0, none⟩)],
    .string ⟨#[60, 63]⟩, .func (.func 128) #[] #[.pointer (some ⟨N + 6, 0, none⟩)], .func (.func 107) #[] #[],
    .string ⟨#[60, 47]⟩, .func (.func 128) #[] #[.pointer (some ⟨N + 7, 0, none⟩)], .func (.func 108) #[] #[],
    .string ⟨#[60]⟩, .func (.func 109) #[] #[], .func (.func 110) #[] #[]]
structure KW (N : Nat) (w : World) : Prop where
  m0 : w.cell? ⟨N, 0, none⟩ = some (.string ⟨#[93, 93, 62]⟩)
  m1 : w.cell? ⟨N + 1, 0, none⟩ = some (.string ⟨#[45, 45, 62]⟩)
  m2 : w.cell? ⟨N + 2, 0, none⟩ = some (.string ⟨#[]⟩)
  m3 : w.cell? ⟨N + 3, 0, none⟩ = some (.int .i64 12)
  m4 : w.cell? ⟨N + 4, 0, none⟩ = some (.string ⟨#[]⟩)
  m5 : w.cell? ⟨N + 5, 0, none⟩ = some (.int .i64 6)
  m6 : w.cell? ⟨N + 6, 0, none⟩ = some (.string ⟨#[63, 62]⟩)
  m7 : w.cell? ⟨N + 7, 0, none⟩ = some (.string ⟨#[62]⟩)
  row : ∀ i, i < 21 → w.cell? ⟨N + 8, i, none⟩ = (kcells N)[i]?
theorem KW.keep {N : Nat} {w w' : World} (h : KW N w) (hb : Below (N + 9) w w') : KW N w' :=
  ⟨(hb.cell (p := ⟨N, 0, none⟩) (by show N < N + 9; omega)).trans h.m0, (hb.cell (p := ⟨N + 1, 0, none⟩) (by show N + 1 < N + 9; omega)).trans h.m1, (hb.cell (p := ⟨N + 2, 0, none⟩) (by show N + 2 < N + 9; omega)).trans h.m2,
   (hb.cell (p := ⟨N + 3, 0, none⟩) (by show N + 3 < N + 9; omega)).trans h.m3, (hb.cell (p := ⟨N + 4, 0, none⟩) (by show N + 4 < N + 9; omega)).trans h.m4, (hb.cell (p := ⟨N + 5, 0, none⟩) (by show N + 5 < N + 9; omega)).trans h.m5,
   (hb.cell (p := ⟨N + 6, 0, none⟩) (by show N + 6 < N + 9; omega)).trans h.m6, (hb.cell (p := ⟨N + 7, 0, none⟩) (by show N + 7 < N + 9; omega)).trans h.m7, fun i hi => (hb.cell (p := ⟨N + 8, i, none⟩) (by show N + 8 < N + 9; omega)).trans (h.row i hi)⟩
def kw0 (w : World) : World := w.alloc (.cells #[.string ⟨#[93, 93, 62]⟩] 9)
def kw1 (w : World) : World := (kw0 w).alloc (.cells #[.string ⟨#[45, 45, 62]⟩] 9)
def kw2 (w : World) : World := (kw1 w).alloc (.cells #[.string ⟨#[]⟩] 9)
def kw3 (w : World) : World := (kw2 w).alloc (.cells #[.int .i64 12] 24)
def kw4 (w : World) : World := (kw3 w).alloc (.cells #[.string ⟨#[]⟩] 9)
def kw5 (w : World) : World := (kw4 w).alloc (.cells #[.int .i64 6] 24)
def kw6 (w : World) : World := (kw5 w).alloc (.cells #[.string ⟨#[63, 62]⟩] 9)
def kw7 (w : World) : World := (kw6 w).alloc (.cells #[.string ⟨#[62]⟩] 9)
def kw8 (w : World) : World := (kw7 w).alloc (.cells (kcells w.heap.size) 145)
theorem alloc_size (w : World) (o : Obj) : (w.alloc o).heap.size = w.heap.size + 1 := by simp
theorem alloc_cell (w : World) (v : Value) (t : TypeId) : (w.alloc (.cells #[v] t)).cell? ⟨w.heap.size, 0, none⟩ = some v := Blk0 w t #[v] 0
theorem alloc_keep {w : World} {b o : Nat} {v : Value} (x : Obj) (h : w.cell? ⟨b, o, none⟩ = some v) : (w.alloc x).cell? ⟨b, o, none⟩ = some v := keepA h x
theorem kw_sizes (w : World) : (kw0 w).heap.size = w.heap.size + 1 ∧ (kw1 w).heap.size = w.heap.size + 2 ∧ (kw2 w).heap.size = w.heap.size + 3 ∧ (kw3 w).heap.size = w.heap.size + 4 ∧ (kw4 w).heap.size = w.heap.size + 5 ∧
    (kw5 w).heap.size = w.heap.size + 6 ∧ (kw6 w).heap.size = w.heap.size + 7 ∧ (kw7 w).heap.size = w.heap.size + 8 ∧ (kw8 w).heap.size = w.heap.size + 9 := by
  have h0 : (kw0 w).heap.size = w.heap.size + 1 := alloc_size w _
  have h1 : (kw1 w).heap.size = w.heap.size + 2 := (alloc_size _ _).trans (by rw [h0])
  have h2 : (kw2 w).heap.size = w.heap.size + 3 := (alloc_size _ _).trans (by rw [h1])
  have h3 : (kw3 w).heap.size = w.heap.size + 4 := (alloc_size _ _).trans (by rw [h2])
  have h4 : (kw4 w).heap.size = w.heap.size + 5 := (alloc_size _ _).trans (by rw [h3])
  have h5 : (kw5 w).heap.size = w.heap.size + 6 := (alloc_size _ _).trans (by rw [h4])
  have h6 : (kw6 w).heap.size = w.heap.size + 7 := (alloc_size _ _).trans (by rw [h5])
  have h7 : (kw7 w).heap.size = w.heap.size + 8 := (alloc_size _ _).trans (by rw [h6])
  have h8 : (kw8 w).heap.size = w.heap.size + 9 := (alloc_size _ _).trans (by rw [h7])
  exact ⟨h0, h1, h2, h3, h4, h5, h6, h7, h8⟩
theorem kw_kw (w : World) : KW w.heap.size (kw8 w) := by
  obtain ⟨s0, s1, s2, s3, s4, s5, s6, s7, s8⟩ := kw_sizes w
  have a0 : (kw0 w).cell? ⟨w.heap.size, 0, none⟩ = _ := alloc_cell w _ _
  have a1 : (kw1 w).cell? ⟨w.heap.size + 1, 0, none⟩ = some (.string ⟨#[45, 45, 62]⟩) := by have := alloc_cell (kw0 w) (.string ⟨#[45, 45, 62]⟩) 9; rw [s0] at this; exact this
  have a2 : (kw2 w).cell? ⟨w.heap.size + 2, 0, none⟩ = some (.string ⟨#[]⟩) := by have := alloc_cell (kw1 w) (.string ⟨#[]⟩) 9; rw [s1] at this; exact this
  have a3 : (kw3 w).cell? ⟨w.heap.size + 3, 0, none⟩ = some (.int .i64 12) := by have := alloc_cell (kw2 w) (.int .i64 12) 24; rw [s2] at this; exact this
  have a4 : (kw4 w).cell? ⟨w.heap.size + 4, 0, none⟩ = some (.string ⟨#[]⟩) := by have := alloc_cell (kw3 w) (.string ⟨#[]⟩) 9; rw [s3] at this; exact this
  have a5 : (kw5 w).cell? ⟨w.heap.size + 5, 0, none⟩ = some (.int .i64 6) := by have := alloc_cell (kw4 w) (.int .i64 6) 24; rw [s4] at this; exact this
  have a6 : (kw6 w).cell? ⟨w.heap.size + 6, 0, none⟩ = some (.string ⟨#[63, 62]⟩) := by have := alloc_cell (kw5 w) (.string ⟨#[63, 62]⟩) 9; rw [s5] at this; exact this
  have a7 : (kw7 w).cell? ⟨w.heap.size + 7, 0, none⟩ = some (.string ⟨#[62]⟩) := by have := alloc_cell (kw6 w) (.string ⟨#[62]⟩) 9; rw [s6] at this; exact this
  have k1 : ∀ {b : Nat} {v : Value}, (kw0 w).cell? ⟨b, 0, none⟩ = some v → (kw1 w).cell? ⟨b, 0, none⟩ = some v := fun h => alloc_keep _ h
  have k2 : ∀ {b : Nat} {v : Value}, (kw1 w).cell? ⟨b, 0, none⟩ = some v → (kw2 w).cell? ⟨b, 0, none⟩ = some v := fun h => alloc_keep _ h
  have k3 : ∀ {b : Nat} {v : Value}, (kw2 w).cell? ⟨b, 0, none⟩ = some v → (kw3 w).cell? ⟨b, 0, none⟩ = some v := fun h => alloc_keep _ h
  have k4 : ∀ {b : Nat} {v : Value}, (kw3 w).cell? ⟨b, 0, none⟩ = some v → (kw4 w).cell? ⟨b, 0, none⟩ = some v := fun h => alloc_keep _ h
  have k5 : ∀ {b : Nat} {v : Value}, (kw4 w).cell? ⟨b, 0, none⟩ = some v → (kw5 w).cell? ⟨b, 0, none⟩ = some v := fun h => alloc_keep _ h
  have k6 : ∀ {b : Nat} {v : Value}, (kw5 w).cell? ⟨b, 0, none⟩ = some v → (kw6 w).cell? ⟨b, 0, none⟩ = some v := fun h => alloc_keep _ h
  have k7 : ∀ {b : Nat} {v : Value}, (kw6 w).cell? ⟨b, 0, none⟩ = some v → (kw7 w).cell? ⟨b, 0, none⟩ = some v := fun h => alloc_keep _ h
  have k8 : ∀ {b : Nat} {v : Value}, (kw7 w).cell? ⟨b, 0, none⟩ = some v → (kw8 w).cell? ⟨b, 0, none⟩ = some v := fun h => alloc_keep _ h
  refine ⟨k8 (k7 (k6 (k5 (k4 (k3 (k2 (k1 a0))))))), k8 (k7 (k6 (k5 (k4 (k3 (k2 a1)))))), k8 (k7 (k6 (k5 (k4 (k3 a2))))), k8 (k7 (k6 (k5 (k4 a3)))), k8 (k7 (k6 (k5 a4))), k8 (k7 (k6 a5)), k8 (k7 a6), k8 a7, fun i hi => ?_⟩
  have := Blk0 (kw7 w) 145 (kcells w.heap.size) i
  rw [s7] at this
  exact this
theorem kw_below (w : World) : Below w.heap.size w (kw8 w) := by
  obtain ⟨s0, s1, s2, s3, s4, s5, s6, s7, s8⟩ := kw_sizes w
  have b0 : Below w.heap.size w (kw0 w) := (Below.refl _ w).alloc (Nat.le_refl _) _
  have b1 : Below w.heap.size w (kw1 w) := b0.alloc (by omega) _
  have b2 : Below w.heap.size w (kw2 w) := b1.alloc (by omega) _
  have b3 : Below w.heap.size w (kw3 w) := b2.alloc (by omega) _
  have b4 : Below w.heap.size w (kw4 w) := b3.alloc (by omega) _
  have b5 : Below w.heap.size w (kw5 w) := b4.alloc (by omega) _
  have b6 : Below w.heap.size w (kw6 w) := b5.alloc (by omega) _
  have b7 : Below w.heap.size w (kw7 w) := b6.alloc (by omega) _
  exact b7.alloc (by omega) _
def KdPost (w : World) (e : Ending) (w' : World) : Prop := e = .returned (.slice (some ⟨w.heap.size + 8, 0, none⟩) 7 7) ∧ KW w.heap.size w' ∧ Below w.heap.size w w' ∧ w'.heap.size = w.heap.size + 9
set_option maxHeartbeats 4000000 in
set_option maxRecDepth 100000 in
theorem kinds_any (w : World) : Calls Tryz.prog 82 #[] w (KdPost w) := by
  obtain ⟨s0, s1, s2, s3, s4, s5, s6, s7, s8⟩ := kw_sizes w
  have HF : Hid (KW w.heap.size (kw8 w) ∧ Below w.heap.size w (kw8 w) ∧ (kw8 w).heap.size = w.heap.size + 9) := Lib.hid ⟨kw_kw w, kw_below w, s8⟩
  have U := Lib.hid (fun m W => upto_mk m W)
  have R := Lib.hid (fun m W => refused_mk m W)
  have E8 : Hid (∀ W, W = kw7 w → W.alloc (.cells (kcells w.heap.size) 145) = kw8 w) := Lib.hid fun W h => by rw [h]; rfl
  clear s8
  go_enter Tryz.func82, Tryz.ntmps82
  go_wp2_with fail
  refine (U.out _ _).mono ?_
  rintro e w0 ⟨rfl, h0⟩
  rw [show w.alloc (.cells #[.string ⟨#[93, 93, 62]⟩] 9) = kw0 w from rfl] at h0
  subst h0
  go_wp2_with fail
  refine (U.out _ _).mono ?_
  rintro e w1 ⟨rfl, h0⟩
  rw [show (kw0 w).alloc (.cells #[.string ⟨#[45, 45, 62]⟩] 9) = kw1 w from rfl] at h0
  subst h0
  rw [s0]
  go_wp2_with fail
  refine (U.out _ _).mono ?_
  rintro e w1 ⟨rfl, h0⟩
  rw [show (kw1 w).alloc (.cells #[.string ⟨#[]⟩] 9) = kw2 w from rfl] at h0
  subst h0
  rw [s1]
  go_wp2_with fail
  refine (R.out _ _).mono ?_
  rintro e w1 ⟨rfl, h0⟩
  rw [show (kw2 w).alloc (.cells #[.int .i64 12] 24) = kw3 w from rfl] at h0
  subst h0
  rw [s2]
  go_wp2_with fail
  refine (U.out _ _).mono ?_
  rintro e w1 ⟨rfl, h0⟩
  rw [show (kw3 w).alloc (.cells #[.string ⟨#[]⟩] 9) = kw4 w from rfl] at h0
  subst h0
  rw [s3]
  go_wp2_with fail
  refine (R.out _ _).mono ?_
  rintro e w1 ⟨rfl, h0⟩
  rw [show (kw4 w).alloc (.cells #[.int .i64 6] 24) = kw5 w from rfl] at h0
  subst h0
  rw [s4]
  go_wp2_with fail
  refine (U.out _ _).mono ?_
  rintro e w1 ⟨rfl, h0⟩
  rw [show (kw5 w).alloc (.cells #[.string ⟨#[63, 62]⟩] 9) = kw6 w from rfl] at h0
  subst h0
  rw [s5]
  go_wp2_with fail
  refine (U.out _ _).mono ?_
  rintro e w1 ⟨rfl, h0⟩
  rw [show (kw6 w).alloc (.cells #[.string ⟨#[62]⟩] 9) = kw7 w from rfl] at h0
  subst h0
  rw [s6]
  clear s0 s1 s2 s3 s4 s5 s6
  go_wp2_with fail
  go_ret
  exact ⟨by rw [← s7]; rfl, HF.out⟩
end Go.Proofs.YtnomcldpbkinmaaGreatDoor

/- The walk of scan.marked: the kinds of markup are asked for one behind the other. -/
set_option linter.unusedSimpArgs false
set_option linter.unusedVariables false
namespace Go.Proofs.YtnomcldpbkinmaaGreatDoor
open Go.RowKit

def begA (N k : Nat) : ByteArray := match (kcells N)[3 * k]? with | some (.string s) => s | _ => ⟨#[]⟩
def edA (N k : Nat) : Value := (kcells N).getD (3 * k + 1) undef
def rdA (N k : Nat) : Value := (kcells N).getD (3 * k + 2) undef
theorem kc_all (N k : Nat) (hk : k < 7) : (kcells N)[3 * k]? = some (.string (begA N k)) ∧ (kcells N)[3 * k + 1]? = some (edA N k) ∧ (kcells N)[3 * k + 2]? = some (rdA N k) := by
  rcases (show k = 0 ∨ k = 1 ∨ k = 2 ∨ k = 3 ∨ k = 4 ∨ k = 5 ∨ k = 6 by omega) with rfl | rfl | rfl | rfl | rfl | rfl | rfl
  all_goals exact ⟨rfl, rfl, rfl⟩
theorem kc_shape (N k : Nat) (hk : k < 7) : (∃ fe pe, edA N k = .func (.func fe) #[] pe) ∧ ∃ fr pr, rdA N k = .func (.func fr) #[] pr := by
  rcases (show k = 0 ∨ k = 1 ∨ k = 2 ∨ k = 3 ∨ k = 4 ∨ k = 5 ∨ k = 6 by omega) with rfl | rfl | rfl | rfl | rfl | rfl | rfl
  all_goals exact ⟨⟨_, _, rfl⟩, ⟨_, _, rfl⟩⟩
theorem KW.at_ {N : Nat} {w : World} (h : KW N w) {k : Nat} (hk : k < 7) : w.cell? ⟨N + 8, k * 3, none⟩ = some (.string (begA N k)) ∧ w.cell? ⟨N + 8, k * 3 + 1, none⟩ = some (edA N k) ∧ w.cell? ⟨N + 8, k * 3 + 2, none⟩ = some (rdA N k) := by
  obtain ⟨a, b, c⟩ := kc_all N k hk
  rw [Nat.mul_comm k 3]
  exact ⟨(h.row _ (by omega)).trans a, (h.row _ (by omega)).trans b, (h.row _ (by omega)).trans c⟩
theorem one_end' {w w1 : World} (hb1 : Below (w.alloc (.cells #[.int .i64 0, .string ⟨#[]⟩, .bool false, .bool false] 42)).heap.size (w.alloc (.cells #[.int .i64 0, .string ⟨#[]⟩, .bool false, .bool false] 42)) w1) :
    w.heap.size < w1.heap.size ∧ Below w.heap.size w w1 ∧ Res4 w1 w.heap.size := by
  have hz1 : w.heap.size < w1.heap.size := by have := hb1.size; simp at this; omega
  have hb := ((Below.refl w.heap.size w).alloc (Nat.le_refl _) (.cells #[.int .i64 0, .string ⟨#[]⟩, .bool false, .bool false] 42)).trans (hb1.mono (by simp))
  exact ⟨hz1, hb, (res_new w).keep hb1 (by simp)⟩
def Pk (N : Nat) (s : ByteArray) (k : Nat) : Bool := (byts (begA N k)).isPrefixOf (byts s)
def Qk (N : Nat) (s : ByteArray) (k : Nat) : Bool := (byts s).isPrefixOf (byts (begA N k))
/-- What a round finds: the result's cells, the list of kinds, the memory that was there. -/
structure MW (N : Nat) (w wr : World) : Prop where
  kw : KW N wr
  gl : Gl wr
  bel : Below w.heap.size w wr
  res : Res4 wr w.heap.size
  size : N + 9 ≤ wr.heap.size
  lt : w.heap.size < wr.heap.size
theorem mw_alloc {N : Nat} {w wr : World} (h : MW N w wr) (o : Obj) : MW N w (wr.alloc o) := by
  have hb := (Below.refl wr.heap.size wr).alloc (Nat.le_refl _) o
  exact ⟨h.kw.keep (hb.mono h.size), h.gl.after hb, h.bel.trans (hb.mono h.bel.size), h.res.keep hb h.lt, by rw [alloc_size]; have := h.size; omega, by rw [alloc_size]; have := h.lt; omega⟩
theorem mw_end {N : Nat} {w wr w3 : World} (h : MW N w wr) (hb : Below wr.heap.size wr w3) : w.heap.size < w3.heap.size ∧ Below w.heap.size w w3 ∧ Res4 w3 w.heap.size :=
  ⟨Nat.lt_of_lt_of_le h.lt hb.size, h.bel.trans (hb.mono h.bel.size), h.res.keep hb h.lt⟩
theorem tok_of {x y : Tk × Nat × Int} {w w' : World} {e : Ending} (h : x = y) (hp : TokPost y w e w') : TokPost x w e w' := by rw [h]; exact hp
def MkRel (N : Nat) (s : ByteArray) (w : World) (i : Value) (wr : World) : Prop :=
  ∃ k : Nat, i = .int .i64 k ∧ k ≤ 7 ∧ Hid (∀ j, j < k → Pk N s j = false ∧ Qk N s j = false) ∧ Hid (MW N w wr)
set_option maxHeartbeats 4000000 in
set_option maxRecDepth 100000 in
theorem marked_of (s : ByteArray) (at_ : Int) (x : Tk × Nat × Int) (N : Nat) (w : World) (hG : Gl w) (hs : s.size ≤ 10000) (hN : Hid (w.heap.size + 1 = N))
    (C1 : Hid (∀ W, W.heap.size = N → Calls Tryz.prog 82 #[] W fun e w' => e = .returned (.slice (some ⟨N + 8, 0, none⟩) 7 7) ∧ KW N w' ∧ Below N W w' ∧ N + 9 ≤ w'.heap.size))
    (HT : Hid (∀ k, k < 7 → (∀ j, j < k → Pk N s j = false ∧ Qk N s j = false) → Pk N s k = true → ∀ W, KW N W → Gl W → N + 9 ≤ W.heap.size →
      Calls Tryz.prog 84 #[.agg #[.string (begA N k), edA N k, rdA N k], .string (strOfNums ((byts s).drop (byts (begA N k)).length)), .int .i64 at_] W (TokPost x W)))
    (HC : Hid (∀ k, k < 7 → (∀ j, j < k → Pk N s j = false ∧ Qk N s j = false) → Pk N s k = false → Qk N s k = true → x = (T0, 0, 7)))
    (HE : Hid ((∀ j, j < 7 → Pk N s j = false ∧ Qk N s j = false) → x = (T0, 0, 7))) :
    Calls Tryz.prog 70 #[.string s, .int .i64 at_] w (TokPost x w) := by
  have HG := Lib.hid hG
  clear hG
  go_enter Tryz.func70, Tryz.ntmps70
  go_wp2_with fail
  refine (C1.out _ ((alloc_size w _).trans hN.out)).mono ?_
  rintro e w1 ⟨rfl, hk1, hb1, hs1⟩
  have HM : Hid (MW N w w1) := Lib.hid (by
    have hb1' : Below (w.alloc (.cells #[.int .i64 0, .string ⟨#[]⟩, .bool false, .bool false] 42)).heap.size (w.alloc (.cells #[.int .i64 0, .string ⟨#[]⟩, .bool false, .bool false] 42)) w1 := by rw [alloc_size, hN.out]; exact hb1
    obtain ⟨a, b, c⟩ := one_end' hb1'
    exact ⟨hk1, HG.out.after b, b, c, hs1, a⟩)
  clear hk1 hb1 hs1 C1
  go_wp2_with fail
  go_loopw [13] (fun i wr => MkRel N s w i wr) (fun i _ => 7 - (intOf i).toNat)
  case atStart => exact ⟨0, rfl, by omega, Lib.hid fun j h => by omega, HM⟩
  case round =>
    obtain ⟨k, rfl, hk, ho, hM⟩ := hrel
    by_cases hlt : k < 7
    · obtain ⟨p0, p1, p2⟩ := hM.out.kw.at_ hlt
      have d1 : (k : Int) < 7 := by omega
      have d0 : (0 : Int) ≤ (k : Int) := by omega
      have hT := HT.out k hlt ho.out
      obtain ⟨⟨fe, pe, e1⟩, ⟨fr, pr, e2⟩⟩ := kc_shape N k hlt
      rw [e1] at p1 hT
      rw [e2] at p2 hT
      clear e1 e2
      have hC := HC.out k hlt ho.out
      cases hP : Pk N s k with
      | true =>
        have C3 := hT hP
        have C2 := fun W => cutpre_yes s (begA N k) W hP
        generalize strOfNums ((byts s).drop (byts (begA N k)).length) = ins at *
        generalize begA N k = bg at *
        have HA := Lib.hid (mw_alloc hM.out (.cells #[.string bg, .func (.func fe) #[] pe, .func (.func fr) #[] pr] 145))
        have CA := Lib.hid C2
        have CB := Lib.hid (C3 (wr.alloc (.cells #[.string bg, .func (.func fe) #[] pe, .func (.func fr) #[] pr] 145)) HA.out.kw HA.out.gl HA.out.size)
        clear C2 C3 hT hC hP ho HT HC HE
        go_wp2_with fail
        refine (CA.out _).mono ?_
        rintro e w2 ⟨rfl, rfl⟩
        go_wp2_with fail
        refine CB.out.mono ?_
        rintro e w3 ⟨⟨kd, tx, em, bk⟩, n, rfl, hx, hb3⟩
        have HX := Lib.hid hx
        obtain ⟨hz, hb, ⟨c0, c1, c2, c3, f0, f1, f2, f3⟩⟩ := mw_end HA.out hb3
        have HB := Lib.hid hb
        clear hb3 hb hx CA CB HA hM HM HG
        unfold tkV
        dsimp only
        generalize hst : strOfNums tx = str
        have HS := Lib.hid hst
        clear hst
        go_wp2_with fail
        exact bodyPost_ret (v := .tuple #[.agg #[.int .i64 kd, .string str, .bool em, .bool bk], .int .i64 n, .int .i64 x.2.2]) (by simp [results, Tryz.results70, go_sem, c0, c1, c2, c3, hz]) rfl ⟨⟨kd, tx, em, bk⟩, n, by rw [← HS.out]; rfl, HX.out, below_set4 HB.out (Nat.le_refl _) _ _ _ _⟩
      | false =>
        have C2 := fun W => cutpre_no s (begA N k) W hP
        cases hQ : Qk N s k with
        | true =>
          have HX := Lib.hid (hC hP hQ)
          have C3 := fun W => haspre_any (begA N k) s W true hQ
          generalize begA N k = bg at *
          have HA := Lib.hid (mw_alloc hM.out (.cells #[.string bg, .func (.func fe) #[] pe, .func (.func fr) #[] pr] 145))
          have CA := Lib.hid C2
          have CB := Lib.hid C3
          clear C2 C3 hT hC hP hQ ho HT HC HE
          go_wp2_with fail
          refine (CA.out _).mono ?_
          rintro e w2 ⟨rfl, rfl⟩
          go_wp2_with fail
          refine (CB.out _).mono ?_
          rintro e w2 ⟨rfl, rfl⟩
          obtain ⟨c0, c1, c2, c3, f0, f1, f2, f3⟩ := HA.out.res
          have hz := HA.out.lt
          have HB := Lib.hid HA.out.bel
          clear CA CB HA hM HM HG
          go_wp2_with fail
          exact bodyPost_ret (v := .tuple #[tkV T0, .int .i64 0, .int .i64 7]) (by rw [tk0]; simp [results, Tryz.results70, go_sem, c0, c1, c2, c3, hz]) rfl (tok_of HX.out ⟨T0, 0, rfl, fun _ => ⟨rfl, rfl⟩, below_set4 HB.out (Nat.le_refl _) _ _ _ _⟩)
        | false =>
          have C3 := fun W => haspre_any (begA N k) s W false hQ
          have HO : Hid (∀ j, j < k + 1 → Pk N s j = false ∧ Qk N s j = false) := Lib.hid fun j hj => by
            by_cases e : j = k
            · rw [e]; exact ⟨hP, hQ⟩
            · exact ho.out j (by omega)
          generalize begA N k = bg at *
          have HA := Lib.hid (mw_alloc hM.out (.cells #[.string bg, .func (.func fe) #[] pe, .func (.func fr) #[] pr] 145))
          have CA := Lib.hid C2
          have CB := Lib.hid C3
          clear C2 C3 hT hC hP hQ ho HT HC HE
          go_wp2_with fail
          refine (CA.out _).mono ?_
          rintro e w2 ⟨rfl, rfl⟩
          go_wp2_with fail
          refine (CB.out _).mono ?_
          rintro e w2 ⟨rfl, rfl⟩
          go_wp2_with fail
          go_roundw
          case rel => exact ⟨k + 1, by go_num, by omega, HO, HA⟩
          case measure => simp only [intOf]; omega
    · have d1 : ¬ (k : Int) < 7 := by omega
      have HX := Lib.hid (HE.out fun j hj => ho.out j (by omega))
      obtain ⟨c0, c1, c2, c3, f0, f1, f2, f3⟩ := hM.out.res
      have hz := hM.out.lt
      have HB := Lib.hid hM.out.bel
      clear ho HT HC HE hM HM HG
      go_wp2_with fail
      exact bodyPost_ret (v := .tuple #[tkV T0, .int .i64 0, .int .i64 7]) (by rw [tk0]; simp [results, Tryz.results70, go_sem, c0, c1, c2, c3, hz]) rfl (tok_of HX.out ⟨T0, 0, rfl, fun _ => ⟨rfl, rfl⟩, below_set4 HB.out (Nat.le_refl _) _ _ _ _⟩)
end Go.Proofs.YtnomcldpbkinmaaGreatDoor
