/-
  Plain mathematics: a text's runes, over its bytes as a list: what a blank between, and what is encoded, is decoded to.
-/
import Derived.Test.YtepmleieekpdiaaConv
import Derived.Laws.Cover4
import Derived.Lib.DecodeN
set_option linter.unusedSimpArgs false
set_option linter.unusedVariables false
namespace Go.Proofs.Ytepmleieekpdiaa
open Go.RowKit

def bl (s : ByteArray) : List Nat := s.data.toList.map UInt8.toNat
def dN (L : List Nat) : Nat × Nat := Lib.decodeN L.length (L.getD 0 0) (L.getD 1 0) (L.getD 2 0) (L.getD 3 0)
def rl : Nat → List Nat → List Int
  | 0, _ => []
  | f + 1, L => if L = [] then [] else ((dN L).1 : Int) :: rl f (L.drop (dN L).2)
def Rn (L : List Nat) : List Int := rl L.length L

theorem bl_len (s : ByteArray) : (bl s).length = s.size := by simp [bl]
theorem bl_app (a b : ByteArray) : bl (a ++ b) = bl a ++ bl b := by
  simp [bl, ByteArray.data_append]
theorem get_bl (s : ByteArray) (i k : Nat) : (s.get! (i + k)).toNat = ((bl s).drop i).getD k 0 := by
  rw [List.getD_eq_getElem?_getD, List.getElem?_drop]
  unfold bl
  rw [List.getElem?_map]
  show (s.data[i + k]!).toNat = _
  by_cases h : i + k < s.data.size
  · rw [getElem!_pos s.data (i + k) h]
    rw [Array.getElem?_toList, Array.getElem?_eq_getElem h]
    rfl
  · rw [getElem!_neg s.data (i + k) h, Array.getElem?_toList, Array.getElem?_eq_none (by omega)]
    rfl
theorem dec_dN (s : ByteArray) (i : Nat) : Utf8.decode s i = dN ((bl s).drop i) := by
  rw [Lib.decode_at]
  unfold dN
  rw [List.length_drop, bl_len, ← get_bl s i 0, ← get_bl s i 1, ← get_bl s i 2, ← get_bl s i 3]
  rfl

theorem dN_width (L : List Nat) (h : L ≠ []) : 1 ≤ (dN L).2 ∧ (dN L).2 ≤ L.length := by
  have hl : 1 ≤ L.length := List.length_pos_iff.2 h
  unfold dN Lib.decodeN
  repeat' split
  all_goals refine ⟨?_, ?_⟩ <;> simp <;> omega
theorem dN_valid (L : List Nat) : ((dN L).1 < 55296 ∨ (57344 ≤ (dN L).1 ∧ (dN L).1 ≤ 1114111)) := by
  unfold dN
  generalize L.getD 0 0 = a
  generalize L.getD 1 0 = b
  generalize L.getD 2 0 = c
  generalize L.getD 3 0 = d
  unfold Lib.decodeN
  repeat' split
  all_goals dsimp only <;> omega

theorem rl_nil (f : Nat) : rl f [] = [] := by cases f <;> simp [rl]
theorem rl_fuel : ∀ (f g : Nat) (L : List Nat), L.length ≤ f → L.length ≤ g → rl f L = rl g L
  | 0, g, L, h1, h2 => by
    have : L = [] := List.eq_nil_of_length_eq_zero (by omega)
    subst this
    rw [rl_nil, rl_nil]
  | f + 1, 0, L, h1, h2 => by
    have : L = [] := List.eq_nil_of_length_eq_zero (by omega)
    subst this
    rw [rl_nil, rl_nil]
  | f + 1, g + 1, L, h1, h2 => by
    by_cases h : L = []
    · subst h; rw [rl_nil, rl_nil]
    · have hw := dN_width L h
      simp only [rl, h, if_false]
      rw [rl_fuel f g (L.drop (dN L).2) (by simp; omega) (by simp; omega)]
theorem Rn_nil : Rn [] = [] := rfl
theorem Rn_cons (L : List Nat) (h : L ≠ []) : Rn L = ((dN L).1 : Int) :: Rn (L.drop (dN L).2) := by
  have hl : 1 ≤ L.length := List.length_pos_iff.2 h
  have hw := dN_width L h
  unfold Rn
  obtain ⟨f, hf⟩ : ∃ f, L.length = f + 1 := ⟨L.length - 1, by omega⟩
  rw [hf]
  simp only [rl, h, if_false]
  rw [rl_fuel f (L.drop (dN L).2).length (L.drop (dN L).2) (by simp; omega) (Nat.le_refl _)]
theorem rgo_rl (s : ByteArray) : ∀ (b i : Nat), rgo s b i = rl b ((bl s).drop i)
  | 0, i => rfl
  | b + 1, i => by
    unfold rgo rl
    by_cases h : i < s.size
    · have hne : (bl s).drop i ≠ [] := by
        intro h2
        have := congrArg List.length h2
        simp [bl_len] at this
        omega
      rw [if_pos h, if_neg hne, rgo_rl s b, dec_dN, List.drop_drop]
    · have he : (bl s).drop i = [] := by
        rw [List.drop_eq_nil_iff, bl_len]
        omega
      rw [if_neg h, if_pos he]
theorem runes_Rn (s : ByteArray) : runes s = Rn (bl s) := by
  unfold runes Rn
  rw [rgo_rl, List.drop_zero, bl_len]

set_option maxHeartbeats 1000000 in
set_option maxRecDepth 100000 in
theorem dN_blank (A B : List Nat) (h : A ≠ []) : dN (A ++ 32 :: B) = dN A := by
  match A, h with
  | [a], _ =>
    simp only [dN, Lib.decodeN, List.cons_append, List.nil_append, List.getD_cons_zero, List.getD_cons_succ, List.length_cons, List.length_nil, List.getD_nil]
    repeat' split
    all_goals first | (exfalso; omega) | rfl
  | [a, b], _ =>
    simp only [dN, Lib.decodeN, List.cons_append, List.nil_append, List.getD_cons_zero, List.getD_cons_succ, List.length_cons, List.length_nil, List.getD_nil]
    repeat' split
    all_goals first | (exfalso; omega) | rfl
  | [a, b, c], _ =>
    simp only [dN, Lib.decodeN, List.cons_append, List.nil_append, List.getD_cons_zero, List.getD_cons_succ, List.length_cons, List.length_nil, List.getD_nil]
    repeat' split
    all_goals first | (exfalso; omega) | rfl
  | a :: b :: c :: d :: A', _ =>
    simp only [dN, Lib.decodeN, List.cons_append, List.nil_append, List.getD_cons_zero, List.getD_cons_succ, List.length_cons, List.length_append]
    repeat' split
    all_goals first | (exfalso; omega) | rfl
theorem Rn_blank : ∀ (n : Nat) (A B : List Nat), A.length ≤ n → Rn (A ++ 32 :: B) = Rn A ++ 32 :: Rn B
  | n, A, B, hn => by
    by_cases h : A = []
    · subst h
      rw [List.nil_append, Rn_nil, List.nil_append, Rn_cons _ (by simp)]
      have : dN (32 :: B) = (32, 1) := by simp [dN, Lib.decodeN]
      rw [this]
      rfl
    · have hl : 1 ≤ A.length := List.length_pos_iff.2 h
      have hw := dN_width A h
      match n with
      | 0 => omega
      | n + 1 =>
        rw [Rn_cons (A ++ 32 :: B) (by simp), dN_blank A B h, Rn_cons A h, List.drop_append_of_le_length hw.2, Rn_blank n (A.drop (dN A).2) B (by simp; omega)]
        rfl

def Val (x : Int) : Prop := (0 ≤ x ∧ x < 55296) ∨ (57344 ≤ x ∧ x ≤ 1114111)
theorem val_utf {x : Int} (h : Val x) : Utf8.valid x = true := by
  rw [validRune_eq]
  unfold Val at h
  unfold validRune
  refine decide_eq_true ?_
  omega
theorem Rn_val : ∀ (n : Nat) (L : List Nat), L.length ≤ n → ∀ x ∈ Rn L, Val x
  | n, L, hn, x, hx => by
    by_cases h : L = []
    · subst h; simp [Rn_nil] at hx
    · have hl : 1 ≤ L.length := List.length_pos_iff.2 h
      have hw := dN_width L h
      match n with
      | 0 => omega
      | n + 1 =>
        rw [Rn_cons L h] at hx
        rcases List.mem_cons.1 hx with rfl | hx
        · have := dN_valid L
          unfold Val
          omega
        · exact Rn_val n _ (by simp; omega) x hx

set_option maxHeartbeats 1000000 in
theorem dN_enc (x : Int) (T : List Nat) (h : Val x) : dN (bl (Utf8.encode x) ++ T) = (x.toNat, (bl (Utf8.encode x)).length) := by
  have hv := val_utf h
  obtain ⟨c, rfl⟩ : ∃ c : Nat, x = c := ⟨x.toNat, by unfold Val at h; omega⟩
  have hc : c < 55296 ∨ (57344 ≤ c ∧ c ≤ 1114111) := by unfold Val at h; omega
  unfold Utf8.encode
  simp only [hv, if_true, Int.toNat_natCast]
  by_cases h1 : c < 128
  · simp only [h1, if_true]
    simp [bl, dN, Lib.decodeN]
    rw [show c % 256 = c by omega]
    repeat' split
    all_goals first | (exfalso; omega) | (simp; omega) | simp
  · by_cases h2 : c < 2048
    · simp only [h1, h2, if_true, if_false]
      simp [bl, dN, Lib.decodeN]
      rw [show (192 + c / 64) % 256 = 192 + c / 64 by omega, show (128 + c % 64) % 256 = 128 + c % 64 by omega]
      repeat' split
      all_goals first | (exfalso; omega) | (simp; omega)
    · by_cases h3 : c < 65536
      · simp only [h1, h2, h3, if_true, if_false]
        simp [bl, dN, Lib.decodeN]
        rw [show (224 + c / 4096) % 256 = 224 + c / 4096 by omega, show (128 + c / 64 % 64) % 256 = 128 + c / 64 % 64 by omega, show (128 + c % 64) % 256 = 128 + c % 64 by omega]
        repeat' split
        all_goals first | (exfalso; omega) | (simp; omega)
      · simp only [h1, h2, h3, if_true, if_false]
        simp [bl, dN, Lib.decodeN]
        rw [show (240 + c / 262144) % 256 = 240 + c / 262144 by omega, show (128 + c / 4096 % 64) % 256 = 128 + c / 4096 % 64 by omega, show (128 + c / 64 % 64) % 256 = 128 + c / 64 % 64 by omega, show (128 + c % 64) % 256 = 128 + c % 64 by omega]
        repeat' split
        all_goals first | (exfalso; omega) | (simp; omega)
theorem enc_ne (x : Int) : bl (Utf8.encode x) ≠ [] := by
  unfold Utf8.encode
  simp only
  repeat' split
  all_goals simp [bl]
theorem Rn_enc (x : Int) (T : List Nat) (h : Val x) : Rn (bl (Utf8.encode x) ++ T) = x :: Rn T := by
  rw [Rn_cons _ (by simp [enc_ne]), dN_enc x T h]
  have : ((x.toNat : Nat) : Int) = x := by unfold Val at h; omega
  simp [this]
theorem Rn_encs : ∀ (l : List Int) (T : List Nat), (∀ x ∈ l, Val x) → Rn (l.flatMap (fun x => bl (Utf8.encode x)) ++ T) = l ++ Rn T
  | [], T, h => rfl
  | x :: l, T, h => by
    rw [List.flatMap_cons, List.append_assoc, Rn_enc x _ (h x (by simp)), Rn_encs l T (fun y hy => h y (by simp [hy]))]
    rfl
theorem bl_fold (l : List Int) : ∀ s : ByteArray, bl (l.foldl (fun r n => r ++ Utf8.encode n) s) = bl s ++ l.flatMap (fun x => bl (Utf8.encode x)) := by
  induction l with
  | nil => intro s; simp
  | cons x l ih =>
    intro s
    rw [List.foldl_cons, ih, bl_app, List.flatMap_cons, List.append_assoc]
theorem bl_runesBytes (l : List Int) : bl (runesBytes l) = l.flatMap (fun x => bl (Utf8.encode x)) := by
  unfold runesBytes
  rw [bl_fold]
  rfl

theorem runes_val (s : ByteArray) : ∀ x ∈ runes s, Val x := by
  rw [runes_Rn]
  exact Rn_val _ _ (Nat.le_refl _)
theorem runes_blank (s t : ByteArray) : runes (s ++ ⟨#[32]⟩ ++ t) = runes s ++ 32 :: runes t := by
  rw [runes_Rn, runes_Rn, runes_Rn, bl_app, bl_app, List.append_assoc]
  have : bl ⟨#[32]⟩ = [32] := rfl
  rw [this]
  exact Rn_blank _ _ _ (Nat.le_refl _)
theorem runes_back (s t : ByteArray) : runes (runesBytes (runes s) ++ runesBytes (runes t)) = runes s ++ runes t := by
  rw [runes_Rn (runesBytes (runes s) ++ runesBytes (runes t)), bl_app, bl_runesBytes, bl_runesBytes, Rn_encs _ _ (runes_val s)]
  have := Rn_encs (runes t) [] (runes_val t)
  rw [List.append_nil, Rn_nil, List.append_nil] at this
  rw [this]
end Go.Proofs.Ytepmleieekpdiaa
