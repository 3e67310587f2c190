/-
  How many bytes a decoded rune has: as many as it is encoded to, but one where fffd stands for bytes that are no rune's.
-/
import Derived.Test.YtpfbnbmpeaihjaaCut
import Derived.Laws.AppendOwn
set_option linter.unusedSimpArgs false
set_option linter.unusedVariables false
namespace Go.Proofs.Ytpfbnbmpeaihjaa
open Go.RowKit

def eS (c : Nat) : Nat := if c < 128 then 1 else if c < 2048 then 2 else if c < 65536 then 3 else 4
theorem enc_size (c : Nat) (h : Val (c : Int)) : (Utf8.encode (c : Int)).size = eS c := by
  have hv := val_utf h
  unfold Utf8.encode eS
  simp only [hv, if_true, Int.toNat_natCast]
  by_cases h1 : c < 128
  · simp only [h1, if_true]
    rfl
  · by_cases h2 : c < 2048
    · simp only [h1, h2, if_true, if_false]
      rfl
    · by_cases h3 : c < 65536
      · simp only [h1, h2, h3, if_true, if_false]
        rfl
      · simp only [h1, h2, h3, if_true, if_false]
        rfl
/-- The bytes of fffd stand first. -/
def Fd (n b0 b1 b2 : Nat) : Prop := 3 ≤ n ∧ b0 = 239 ∧ b1 = 191 ∧ b2 = 189
instance (n b0 b1 b2 : Nat) : Decidable (Fd n b0 b1 b2) := inferInstanceAs (Decidable (3 ≤ n ∧ b0 = 239 ∧ b1 = 191 ∧ b2 = 189))

set_option maxHeartbeats 1000000 in
theorem decN_w (n b0 b1 b2 b3 : Nat) (h0 : b0 < 256) : (Lib.decodeN n b0 b1 b2 b3).2 = if (Lib.decodeN n b0 b1 b2 b3).1 = 65533 ∧ ¬ Fd n b0 b1 b2 then 1 else eS (Lib.decodeN n b0 b1 b2 b3).1 := by
  have hfd : ∀ {α : Type} (p : Prop) [Decidable p] (x y : α), (if p ∧ ¬ Fd n b0 b1 b2 then x else y) = if p ∧ ¬ (3 ≤ n ∧ b0 = 239 ∧ b1 = 191 ∧ b2 = 189) then x else y := fun p _ x y => rfl
  rw [hfd]
  unfold Lib.decodeN eS
  by_cases g0 : b0 < 128
  · simp only [g0, if_true]
    rw [if_neg (by omega)]
  · simp only [g0, if_false]
    by_cases g1 : b0 / 32 = 6 ∧ (1 < n ∧ b1 / 64 = 2)
    · rw [if_pos g1]
      by_cases v1 : b0 % 32 * 64 + b1 % 64 ≥ 128
      · rw [if_pos v1]
        dsimp only
        rw [if_neg (by omega), if_neg (by omega), if_pos (by omega)]
      · rw [if_neg v1]
        dsimp only
        rw [if_pos ⟨rfl, by omega⟩]
    · rw [if_neg g1]
      by_cases g2 : b0 / 16 = 14 ∧ (1 < n ∧ b1 / 64 = 2) ∧ (2 < n ∧ b2 / 64 = 2)
      · rw [if_pos g2]
        by_cases v2 : b0 % 16 * 4096 + b1 % 64 * 64 + b2 % 64 ≥ 2048 ∧ (b0 % 16 * 4096 + b1 % 64 * 64 + b2 % 64 < 55296 ∨ (57344 ≤ b0 % 16 * 4096 + b1 % 64 * 64 + b2 % 64 ∧ b0 % 16 * 4096 + b1 % 64 * 64 + b2 % 64 ≤ 1114111))
        · rw [if_pos v2]
          dsimp only
          rw [if_neg (by omega), if_neg (by omega), if_neg (by omega), if_pos (by omega)]
        · rw [if_neg v2]
          dsimp only
          rw [if_pos ⟨rfl, by omega⟩]
      · rw [if_neg g2]
        have nf : ¬ (3 ≤ n ∧ b0 = 239 ∧ b1 = 191 ∧ b2 = 189) := by omega
        by_cases g3 : b0 / 8 = 30 ∧ (1 < n ∧ b1 / 64 = 2) ∧ (2 < n ∧ b2 / 64 = 2) ∧ (3 < n ∧ b3 / 64 = 2)
        · rw [if_pos g3]
          by_cases v3 : b0 % 8 * 262144 + b1 % 64 * 4096 + b2 % 64 * 64 + b3 % 64 ≥ 65536 ∧ (b0 % 8 * 262144 + b1 % 64 * 4096 + b2 % 64 * 64 + b3 % 64 < 55296 ∨ (57344 ≤ b0 % 8 * 262144 + b1 % 64 * 4096 + b2 % 64 * 64 + b3 % 64 ∧ b0 % 8 * 262144 + b1 % 64 * 4096 + b2 % 64 * 64 + b3 % 64 ≤ 1114111))
          · rw [if_pos v3]
            dsimp only
            rw [if_neg (by omega), if_neg (by omega), if_neg (by omega), if_neg (by omega)]
          · rw [if_neg v3]
            dsimp only
            rw [if_pos ⟨rfl, nf⟩]
        · rw [if_neg g3]
          dsimp only
          rw [if_pos ⟨rfl, nf⟩]
theorem bl_lt (s : ByteArray) : ∀ x ∈ bl s, x < 256 := by
  intro x hx
  unfold bl at hx
  obtain ⟨y, _, rfl⟩ := List.mem_map.1 hx
  exact y.toNat_lt
theorem take3 (L : List Nat) : (L.take 3 = [239, 191, 189]) ↔ Fd L.length (L.getD 0 0) (L.getD 1 0) (L.getD 2 0) := by
  unfold Fd
  match L with
  | [] => simp
  | [a] => simp
  | [a, b] => simp
  | a :: b :: c :: L => simp
/-- The width of what stands at a place. -/
theorem dN_w (L : List Nat) (h : ∀ x ∈ L, x < 256) : (dN L).2 = if (dN L).1 = 65533 ∧ ¬ L.take 3 = [239, 191, 189] then 1 else eS (dN L).1 := by
  have h0 : L.getD 0 0 < 256 := by
    match L with
    | [] => decide
    | a :: L => exact h a (by simp)
  have := decN_w L.length (L.getD 0 0) (L.getD 1 0) (L.getD 2 0) (L.getD 3 0) h0
  have e : (if (dN L).1 = 65533 ∧ ¬ L.take 3 = [239, 191, 189] then 1 else eS (dN L).1) = if (dN L).1 = 65533 ∧ ¬ Fd L.length (L.getD 0 0) (L.getD 1 0) (L.getD 2 0) then 1 else eS (dN L).1 := by
    by_cases hf : Fd L.length (L.getD 0 0) (L.getD 1 0) (L.getD 2 0)
    · rw [if_neg (fun h => h.2 ((take3 L).2 hf)), if_neg (fun h => h.2 hf)]
    · by_cases hr : (dN L).1 = 65533
      · rw [if_pos ⟨hr, fun h => hf ((take3 L).1 h)⟩, if_pos ⟨hr, hf⟩]
      · rw [if_neg (fun h => hr h.1), if_neg (fun h => hr h.1)]
  rw [e]
  exact this

theorem conv_cap (w : World) (s : ByteArray) (hs : s.size ≤ 1000) : ∃ c w1, ConvPost w s c w1 ∧ (runes s).length ≤ c := by
  have hl := runes_len s
  have hrun := run_runes_of_string (P := Try.prog) w 9 34 21 s Try.underlying9 Try.underlying34 Try.underlying21 (by rw [runesFrom_runes]; simp; omega)
  rw [runesFrom_runes] at hrun
  have hz : ((runes s).map (Value.int .i32)).toArray.size = (runes s).length := by simp
  rw [hz] at hrun
  obtain ⟨c, w1, h1, h2⟩ := conv_runes w s hs
  refine ⟨c, w1, ⟨h1, h2⟩, ?_⟩
  rw [h1] at hrun
  have hc : c = grownCap w (runes s).length 0 21 := by
    injection hrun with e1 e2
    injection e1
  rw [hc]
  exact grownCap_ge _ _ _ _
/-- 'string(l[j:j+1])'. -/
theorem conv_one (w : World) (b j c : Nat) (x : Int) (h : w.cell? ⟨b, j, none⟩ = some (.int .i32 x)) :
    (convert 34 9 (.slice (some ⟨b, j, none⟩) 1 c)).run Try.prog w = .ok (.string (Utf8.encode x)) w := by
  have hc := run_convert_runes (P := Try.prog) w 34 9 21 ⟨b, j, none⟩ 1 c [x] (by simp) Try.underlying34 Try.underlying21 Try.underlying9 (fun i hi => by
    obtain rfl : i = 0 := by simpa using hi
    simpa [Addr.add] using h)
  rw [hc]
  have : runesBytes ([x].take 1) = Utf8.encode x := by
    apply bl_inj
    rw [bl_runesBytes]
    simp
  rw [this]
end Go.Proofs.Ytpfbnbmpeaihjaa
