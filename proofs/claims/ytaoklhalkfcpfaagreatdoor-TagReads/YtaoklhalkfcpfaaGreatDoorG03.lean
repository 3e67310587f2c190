/-
  Merged by program out of the texts NzRune, NzNm, NzRef, NzPlain of one seat.
-/
import Derived.Test.YtaoklhalkfcpfaaGreatDoorG02
import Derived.Laws.Cover4
import Derived.Lib.DecodeN
import Derived.Lib.Bytealg

/- Plain mathematics: a text's runes, over its bytes as a list: what a blank between, and what is encoded, is decoded to. -/
set_option linter.unusedSimpArgs false
set_option linter.unusedVariables false
namespace Go.Proofs.YtaoklhalkfcpfaaGreatDoor.Nz
open Go.RowKit

def bl (s : ByteArray) : List Nat := s.data.toList.map UInt8.toNat
def dN (L : List Nat) : Nat × Nat := Lib.decodeN L.length (L.getD 0 0) (L.getD 1 0) (L.getD 2 0) (L.getD 3 0)
def rl : Nat → List Nat → List Int
  | 0, _ => []
  | f + 1, L => if L = [] then [] else ((dN L).1 : Int) :: rl f (L.drop (dN L).2)
def Rn (L : List Nat) : List Int := rl L.length L

theorem bl_len (s : ByteArray) : (bl s).length = s.size := by simp [bl]
theorem bl_app (a b : ByteArray) : bl (a ++ b) = bl a ++ bl b := by
  simp [bl, ByteArray.data_append]
theorem get_bl (s : ByteArray) (i k : Nat) : (s.get! (i + k)).toNat = ((bl s).drop i).getD k 0 := by
  rw [List.getD_eq_getElem?_getD, List.getElem?_drop]
  unfold bl
  rw [List.getElem?_map]
  show (s.data[i + k]!).toNat = _
  by_cases h : i + k < s.data.size
  · rw [getElem!_pos s.data (i + k) h]
    rw [Array.getElem?_toList, Array.getElem?_eq_getElem h]
    rfl
  · rw [getElem!_neg s.data (i + k) h, Array.getElem?_toList, Array.getElem?_eq_none (by omega)]
    rfl
theorem dec_dN (s : ByteArray) (i : Nat) : Utf8.decode s i = dN ((bl s).drop i) := by
  rw [Lib.decode_at]
  unfold dN
  rw [List.length_drop, bl_len, ← get_bl s i 0, ← get_bl s i 1, ← get_bl s i 2, ← get_bl s i 3]
  rfl

theorem dN_width (L : List Nat) (h : L ≠ []) : 1 ≤ (dN L).2 ∧ (dN L).2 ≤ L.length := by
  have hl : 1 ≤ L.length := List.length_pos_iff.2 h
  unfold dN Lib.decodeN
  repeat' split
  all_goals refine ⟨?_, ?_⟩ <;> simp <;> omega
theorem dN_valid (L : List Nat) : ((dN L).1 < 55296 ∨ (57344 ≤ (dN L).1 ∧ (dN L).1 ≤ 1114111)) := by
  unfold dN
  generalize L.getD 0 0 = a
  generalize L.getD 1 0 = b
  generalize L.getD 2 0 = c
  generalize L.getD 3 0 = d
  unfold Lib.decodeN
  repeat' split
  all_goals dsimp only <;> omega

theorem rl_nil (f : Nat) : rl f [] = [] := by cases f <;> simp [rl]
theorem rl_fuel : ∀ (f g : Nat) (L : List Nat), L.length ≤ f → L.length ≤ g → rl f L = rl g L
  | 0, g, L, h1, h2 => by
    have : L = [] := List.eq_nil_of_length_eq_zero (by omega)
    subst this
    rw [rl_nil, rl_nil]
  | f + 1, 0, L, h1, h2 => by
    have : L = [] := List.eq_nil_of_length_eq_zero (by omega)
    subst this
    rw [rl_nil, rl_nil]
  | f + 1, g + 1, L, h1, h2 => by
    by_cases h : L = []
    · subst h; rw [rl_nil, rl_nil]
    · have hw := dN_width L h
      simp only [rl, h, if_false]
      rw [rl_fuel f g (L.drop (dN L).2) (by simp; omega) (by simp; omega)]
theorem Rn_nil : Rn [] = [] := rfl
theorem Rn_cons (L : List Nat) (h : L ≠ []) : Rn L = ((dN L).1 : Int) :: Rn (L.drop (dN L).2) := by
  have hl : 1 ≤ L.length := List.length_pos_iff.2 h
  have hw := dN_width L h
  unfold Rn
  obtain ⟨f, hf⟩ : ∃ f, L.length = f + 1 := ⟨L.length - 1, by omega⟩
  rw [hf]
  simp only [rl, h, if_false]
  rw [rl_fuel f (L.drop (dN L).2).length (L.drop (dN L).2) (by simp; omega) (Nat.le_refl _)]
theorem rgo_rl (s : ByteArray) : ∀ (b i : Nat), rgo s b i = rl b ((bl s).drop i)
  | 0, i => rfl
  | b + 1, i => by
    unfold rgo rl
    by_cases h : i < s.size
    · have hne : (bl s).drop i ≠ [] := by
        intro h2
        have := congrArg List.length h2
        simp [bl_len] at this
        omega
      rw [if_pos h, if_neg hne, rgo_rl s b, dec_dN, List.drop_drop]
    · have he : (bl s).drop i = [] := by
        rw [List.drop_eq_nil_iff, bl_len]
        omega
      rw [if_neg h, if_pos he]
theorem runes_Rn (s : ByteArray) : runes s = Rn (bl s) := by
  unfold runes Rn
  rw [rgo_rl, List.drop_zero, bl_len]

set_option maxHeartbeats 1000000 in
set_option maxRecDepth 100000 in
theorem dN_blank (A B : List Nat) (h : A ≠ []) : dN (A ++ 32 :: B) = dN A := by
  match A, h with
  | [a], _ =>
    simp only [dN, Lib.decodeN, List.cons_append, List.nil_append, List.getD_cons_zero, List.getD_cons_succ, List.length_cons, List.length_nil, List.getD_nil]
    repeat' split
    all_goals first | (exfalso; omega) | rfl
  | [a, b], _ =>
    simp only [dN, Lib.decodeN, List.cons_append, List.nil_append, List.getD_cons_zero, List.getD_cons_succ, List.length_cons, List.length_nil, List.getD_nil]
    repeat' split
    all_goals first | (exfalso; omega) | rfl
  | [a, b, c], _ =>
    simp only [dN, Lib.decodeN, List.cons_append, List.nil_append, List.getD_cons_zero, List.getD_cons_succ, List.length_cons, List.length_nil, List.getD_nil]
    repeat' split
    all_goals first | (exfalso; omega) | rfl
  | a :: b :: c :: d :: A', _ =>
    simp only [dN, Lib.decodeN, List.cons_append, List.nil_append, List.getD_cons_zero, List.getD_cons_succ, List.length_cons, List.length_append]
    repeat' split
    all_goals first | (exfalso; omega) | rfl
theorem Rn_blank : ∀ (n : Nat) (A B : List Nat), A.length ≤ n → Rn (A ++ 32 :: B) = Rn A ++ 32 :: Rn B
  | n, A, B, hn => by
    by_cases h : A = []
    · subst h
      rw [List.nil_append, Rn_nil, List.nil_append, Rn_cons _ (by simp)]
      have : dN (32 :: B) = (32, 1) := by simp [dN, Lib.decodeN]
      rw [this]
      rfl
    · have hl : 1 ≤ A.length := List.length_pos_iff.2 h
      have hw := dN_width A h
      match n with
      | 0 => omega
      | n + 1 =>
        rw [Rn_cons (A ++ 32 :: B) (by simp), dN_blank A B h, Rn_cons A h, List.drop_append_of_le_length hw.2, Rn_blank n (A.drop (dN A).2) B (by simp; omega)]
        rfl

def Val (x : Int) : Prop := (0 ≤ x ∧ x < 55296) ∨ (57344 ≤ x ∧ x ≤ 1114111)
theorem val_utf {x : Int} (h : Val x) : Utf8.valid x = true := by
  rw [validRune_eq]
  unfold Val at h
  unfold validRune
  refine decide_eq_true ?_
  omega
theorem Rn_val : ∀ (n : Nat) (L : List Nat), L.length ≤ n → ∀ x ∈ Rn L, Val x
  | n, L, hn, x, hx => by
    by_cases h : L = []
    · subst h; simp [Rn_nil] at hx
    · have hl : 1 ≤ L.length := List.length_pos_iff.2 h
      have hw := dN_width L h
      match n with
      | 0 => omega
      | n + 1 =>
        rw [Rn_cons L h] at hx
        rcases List.mem_cons.1 hx with rfl | hx
        · have := dN_valid L
          unfold Val
          omega
        · exact Rn_val n _ (by simp; omega) x hx

set_option maxHeartbeats 1000000 in
theorem dN_enc (x : Int) (T : List Nat) (h : Val x) : dN (bl (Utf8.encode x) ++ T) = (x.toNat, (bl (Utf8.encode x)).length) := by
  have hv := val_utf h
  obtain ⟨c, rfl⟩ : ∃ c : Nat, x = c := ⟨x.toNat, by unfold Val at h; omega⟩
  have hc : c < 55296 ∨ (57344 ≤ c ∧ c ≤ 1114111) := by unfold Val at h; omega
  unfold Utf8.encode
  simp only [hv, if_true, Int.toNat_natCast]
  by_cases h1 : c < 128
  · simp only [h1, if_true]
    simp [bl, dN, Lib.decodeN]
    rw [show c % 256 = c by omega]
    repeat' split
    all_goals first | (exfalso; omega) | (simp; omega) | simp
  · by_cases h2 : c < 2048
    · simp only [h1, h2, if_true, if_false]
      simp [bl, dN, Lib.decodeN]
      rw [show (192 + c / 64) % 256 = 192 + c / 64 by omega, show (128 + c % 64) % 256 = 128 + c % 64 by omega]
      repeat' split
      all_goals first | (exfalso; omega) | (simp; omega)
    · by_cases h3 : c < 65536
      · simp only [h1, h2, h3, if_true, if_false]
        simp [bl, dN, Lib.decodeN]
        rw [show (224 + c / 4096) % 256 = 224 + c / 4096 by omega, show (128 + c / 64 % 64) % 256 = 128 + c / 64 % 64 by omega, show (128 + c % 64) % 256 = 128 + c % 64 by omega]
        repeat' split
        all_goals first | (exfalso; omega) | (simp; omega)
      · simp only [h1, h2, h3, if_true, if_false]
        simp [bl, dN, Lib.decodeN]
        rw [show (240 + c / 262144) % 256 = 240 + c / 262144 by omega, show (128 + c / 4096 % 64) % 256 = 128 + c / 4096 % 64 by omega, show (128 + c / 64 % 64) % 256 = 128 + c / 64 % 64 by omega, show (128 + c % 64) % 256 = 128 + c % 64 by omega]
        repeat' split
        all_goals first | (exfalso; omega) | (simp; omega)
theorem enc_ne (x : Int) : bl (Utf8.encode x) ≠ [] := by
  unfold Utf8.encode
  simp only
  repeat' split
  all_goals simp [bl]
theorem Rn_enc (x : Int) (T : List Nat) (h : Val x) : Rn (bl (Utf8.encode x) ++ T) = x :: Rn T := by
  rw [Rn_cons _ (by simp [enc_ne]), dN_enc x T h]
  have : ((x.toNat : Nat) : Int) = x := by unfold Val at h; omega
  simp [this]
theorem Rn_encs : ∀ (l : List Int) (T : List Nat), (∀ x ∈ l, Val x) → Rn (l.flatMap (fun x => bl (Utf8.encode x)) ++ T) = l ++ Rn T
  | [], T, h => rfl
  | x :: l, T, h => by
    rw [List.flatMap_cons, List.append_assoc, Rn_enc x _ (h x (by simp)), Rn_encs l T (fun y hy => h y (by simp [hy]))]
    rfl
theorem bl_fold (l : List Int) : ∀ s : ByteArray, bl (l.foldl (fun r n => r ++ Utf8.encode n) s) = bl s ++ l.flatMap (fun x => bl (Utf8.encode x)) := by
  induction l with
  | nil => intro s; simp
  | cons x l ih =>
    intro s
    rw [List.foldl_cons, ih, bl_app, List.flatMap_cons, List.append_assoc]
theorem bl_runesBytes (l : List Int) : bl (runesBytes l) = l.flatMap (fun x => bl (Utf8.encode x)) := by
  unfold runesBytes
  rw [bl_fold]
  rfl

theorem runes_val (s : ByteArray) : ∀ x ∈ runes s, Val x := by
  rw [runes_Rn]
  exact Rn_val _ _ (Nat.le_refl _)
theorem runes_blank (s t : ByteArray) : runes (s ++ ⟨#[32]⟩ ++ t) = runes s ++ 32 :: runes t := by
  rw [runes_Rn, runes_Rn, runes_Rn, bl_app, bl_app, List.append_assoc]
  have : bl ⟨#[32]⟩ = [32] := rfl
  rw [this]
  exact Rn_blank _ _ _ (Nat.le_refl _)
theorem runes_back (s t : ByteArray) : runes (runesBytes (runes s) ++ runesBytes (runes t)) = runes s ++ runes t := by
  rw [runes_Rn (runesBytes (runes s) ++ runesBytes (runes t)), bl_app, bl_runesBytes, bl_runesBytes, Rn_encs _ _ (runes_val s)]
  have := Rn_encs (runes t) [] (runes_val t)
  rw [List.append_nil, Rn_nil, List.append_nil] at this
  rw [this]
end Go.Proofs.YtaoklhalkfcpfaaGreatDoor.Nz

/- Plain mathematics: plain names, the stretch of a name, the first colon, over a text's bytes as a list. -/
set_option linter.unusedSimpArgs false
set_option linter.unusedVariables false
namespace Go.Proofs.YtaoklhalkfcpfaaGreatDoor.Nz
open Go.RowKit

/-- May the rune stand in a stretch: in a name, or as a colon. -/
def Ok (r : Int) : Prop := r = 58 ∨ Part r
instance (r : Int) : Decidable (Ok r) := inferInstanceAs (Decidable (r = 58 ∨ Part r))

/-- A plain name, of its runes. -/
def plR : List Int → Bool
  | [] => false
  | x :: l => decide (Start x) && (x :: l).all (fun r => decide (Part r))
def pl (L : List Nat) : Bool := plR (Rn L)

/-- How many bytes the stretch has that stands first. -/
def sp : Nat → List Nat → Nat
  | 0, _ => 0
  | f + 1, L => if L = [] then 0 else if Ok ((dN L).1 : Int) then (dN L).2 + sp f (L.drop (dN L).2) else 0
def St (L : List Nat) : Nat := sp L.length L

theorem sp_nil (f : Nat) : sp f [] = 0 := by cases f <;> simp [sp]
theorem sp_fuel : ∀ (f g : Nat) (L : List Nat), L.length ≤ f → L.length ≤ g → sp f L = sp g L
  | 0, g, L, h1, h2 => by
    have : L = [] := List.eq_nil_of_length_eq_zero (by omega)
    subst this
    rw [sp_nil, sp_nil]
  | f + 1, 0, L, h1, h2 => by
    have : L = [] := List.eq_nil_of_length_eq_zero (by omega)
    subst this
    rw [sp_nil, sp_nil]
  | f + 1, g + 1, L, h1, h2 => by
    by_cases h : L = []
    · subst h; rw [sp_nil, sp_nil]
    · have hw := dN_width L h
      simp only [sp, h, if_false]
      rw [sp_fuel f g (L.drop (dN L).2) (by simp; omega) (by simp; omega)]
theorem St_nil : St [] = 0 := rfl
theorem St_cons (L : List Nat) (h : L ≠ []) : St L = if Ok ((dN L).1 : Int) then (dN L).2 + St (L.drop (dN L).2) else 0 := by
  have hl : 1 ≤ L.length := List.length_pos_iff.2 h
  have hw := dN_width L h
  unfold St
  obtain ⟨f, hf⟩ : ∃ f, L.length = f + 1 := ⟨L.length - 1, by omega⟩
  rw [hf]
  simp only [sp, h, if_false]
  rw [sp_fuel f (L.drop (dN L).2).length (L.drop (dN L).2) (by simp; omega) (Nat.le_refl _)]
theorem St_le : ∀ (n : Nat) (L : List Nat), L.length ≤ n → St L ≤ L.length
  | n, L, hn => by
    by_cases h : L = []
    · subst h; rw [St_nil]; exact Nat.zero_le _
    · have hl : 1 ≤ L.length := List.length_pos_iff.2 h
      have hw := dN_width L h
      match n with
      | 0 => omega
      | n + 1 =>
        rw [St_cons L h]
        split
        · have := St_le n (L.drop (dN L).2) (by simp; omega)
          simp at this
          omega
        · omega

set_option maxHeartbeats 1000000 in
set_option maxRecDepth 100000 in
/-- A byte below 80 ends what stands ahead of it. -/
theorem dN_asc (A B : List Nat) (c : Nat) (hc : c < 128) (h : A ≠ []) : dN (A ++ c :: B) = dN A := by
  match A, h with
  | [a], _ =>
    simp only [dN, Lib.decodeN, List.cons_append, List.nil_append, List.getD_cons_zero, List.getD_cons_succ, List.length_cons, List.length_nil, List.getD_nil]
    repeat' split
    all_goals first | (exfalso; omega) | rfl
  | [a, b], _ =>
    simp only [dN, Lib.decodeN, List.cons_append, List.nil_append, List.getD_cons_zero, List.getD_cons_succ, List.length_cons, List.length_nil, List.getD_nil]
    repeat' split
    all_goals first | (exfalso; omega) | rfl
  | [a, b, d], _ =>
    simp only [dN, Lib.decodeN, List.cons_append, List.nil_append, List.getD_cons_zero, List.getD_cons_succ, List.length_cons, List.length_nil, List.getD_nil]
    repeat' split
    all_goals first | (exfalso; omega) | rfl
  | a :: b :: d :: e :: A', _ =>
    simp only [dN, Lib.decodeN, List.cons_append, List.nil_append, List.getD_cons_zero, List.getD_cons_succ, List.length_cons, List.length_append]
    repeat' split
    all_goals first | (exfalso; omega) | rfl
theorem dN_asc0 (B : List Nat) (c : Nat) (hc : c < 128) : dN (c :: B) = (c, 1) := by simp [dN, Lib.decodeN, hc]
theorem Rn_asc : ∀ (n : Nat) (A B : List Nat) (c : Nat), c < 128 → A.length ≤ n → Rn (A ++ c :: B) = Rn A ++ (c : Int) :: Rn B
  | n, A, B, c, hc, hn => by
    by_cases h : A = []
    · subst h
      rw [List.nil_append, Rn_nil, List.nil_append, Rn_cons _ (by simp), dN_asc0 B c hc]
      rfl
    · have hl : 1 ≤ A.length := List.length_pos_iff.2 h
      have hw := dN_width A h
      match n with
      | 0 => omega
      | n + 1 =>
        rw [Rn_cons (A ++ c :: B) (by simp), dN_asc A B c hc h, Rn_cons A h, List.drop_append_of_le_length hw.2, Rn_asc n (A.drop (dN A).2) B c hc (by simp; omega)]
        rfl
theorem part58 : ¬ Part 58 := by decide
/-- No plain name holds a colon. -/
theorem pl_colon (A B : List Nat) : pl (A ++ 58 :: B) = false := by
  unfold pl
  rw [Rn_asc _ A B 58 (by omega) (Nat.le_refl _)]
  have key : (Rn A ++ (58 : Int) :: Rn B).all (fun r => decide (Part r)) = false := by
    rw [List.all_append, List.all_cons, decide_eq_false part58]
    simp
  have h58 : ((58 : Nat) : Int) = 58 := rfl
  rw [h58]
  cases hR : Rn A ++ (58 : Int) :: Rn B with
  | nil => rfl
  | cons x l =>
    rw [hR] at key
    simp only [plR, key, Bool.and_false]
theorem pl_mem (L : List Nat) (h : 58 ∈ L) : pl L = false := by
  obtain ⟨A, B, rfl⟩ := List.append_of_mem h
  exact pl_colon A B
theorem pl_nil : pl [] = false := rfl
theorem pl_ok {L : List Nat} (h : pl L = true) : ∀ x ∈ Rn L, Part x := by
  unfold pl at h
  intro x hx
  cases hR : Rn L with
  | nil => rw [hR] at hx; simp at hx
  | cons y l =>
    rw [hR] at h hx
    simp only [plR, Bool.and_eq_true, List.all_eq_true, decide_eq_true_eq] at h
    exact h.2 x hx

/-- A stretch, all of whose runes may stand in one, ahead of a byte below 80 that may not. -/
theorem St_full : ∀ (n : Nat) (A B : List Nat) (c : Nat), c < 128 → ¬ Ok (c : Int) → A.length ≤ n → (∀ x ∈ Rn A, Ok x) → St (A ++ c :: B) = A.length
  | n, A, B, c, hc, hok, hn, hA => by
    by_cases h : A = []
    · subst h
      rw [List.nil_append, St_cons _ (by simp), dN_asc0 B c hc, if_neg hok]
      rfl
    · have hl : 1 ≤ A.length := List.length_pos_iff.2 h
      have hw := dN_width A h
      match n with
      | 0 => omega
      | n + 1 =>
        have hR := Rn_cons A h
        rw [St_cons (A ++ c :: B) (by simp), dN_asc A B c hc h, if_pos (hA _ (by rw [hR]; simp)), List.drop_append_of_le_length hw.2,
          St_full n (A.drop (dN A).2) B c hc hok (by simp; omega) (fun x hx => hA x (by rw [hR]; simp [hx]))]
        simp
        omega

set_option maxHeartbeats 2000000 in
set_option maxRecDepth 100000 in
theorem decN_less (n m b0 b1 b2 b3 c1 c2 c3 : Nat) (e1 : 1 < n → c1 = b1) (e2 : 2 < n → c2 = b2) (e3 : 3 < n → c3 = b3) (hn : 1 ≤ n) (hm : n ≤ m) (hw : (Lib.decodeN m b0 b1 b2 b3).2 ≤ n) :
    Lib.decodeN n b0 c1 c2 c3 = Lib.decodeN m b0 b1 b2 b3 := by
  unfold Lib.decodeN at hw ⊢
  by_cases h0 : b0 < 128
  · rw [if_pos h0, if_pos h0]
  · rw [if_neg h0] at hw
    rw [if_neg h0, if_neg h0]
    by_cases h1 : b0 / 32 = 6 ∧ (1 < m ∧ b1 / 64 = 2)
    · rw [if_pos h1] at hw
      rw [if_pos h1]
      by_cases g1 : 1 < n
      · rw [e1 g1, if_pos ⟨h1.1, g1, h1.2.2⟩]
      · have hv : ¬ b0 % 32 * 64 + b1 % 64 ≥ 128 := by
          intro hv
          rw [if_pos hv] at hw
          exact g1 hw
        rw [if_neg hv, if_neg (fun h => g1 h.2.1), if_neg (fun h => g1 h.2.1.1), if_neg (fun h => g1 h.2.1.1)]
    · rw [if_neg h1] at hw
      have k1 : ¬ (b0 / 32 = 6 ∧ (1 < n ∧ c1 / 64 = 2)) := fun h => h1 ⟨h.1, by omega, by rw [← e1 h.2.1]; exact h.2.2⟩
      rw [if_neg h1, if_neg k1]
      by_cases h2 : b0 / 16 = 14 ∧ (1 < m ∧ b1 / 64 = 2) ∧ (2 < m ∧ b2 / 64 = 2)
      · rw [if_pos h2] at hw
        rw [if_pos h2]
        by_cases g2 : 2 < n
        · rw [e1 (by omega), e2 g2, if_pos ⟨h2.1, ⟨by omega, h2.2.1.2⟩, g2, h2.2.2.2⟩]
        · by_cases hv : b0 % 16 * 4096 + b1 % 64 * 64 + b2 % 64 ≥ 2048 ∧ (b0 % 16 * 4096 + b1 % 64 * 64 + b2 % 64 < 55296 ∨ (57344 ≤ b0 % 16 * 4096 + b1 % 64 * 64 + b2 % 64 ∧ b0 % 16 * 4096 + b1 % 64 * 64 + b2 % 64 ≤ 1114111))
          · rw [if_pos hv] at hw
            exact absurd hw g2
          · rw [if_neg hv, if_neg (fun h => g2 h.2.2.1), if_neg (fun h => g2 h.2.2.1.1)]
      · rw [if_neg h2] at hw
        have k2 : ¬ (b0 / 16 = 14 ∧ (1 < n ∧ c1 / 64 = 2) ∧ (2 < n ∧ c2 / 64 = 2)) := fun h => h2 ⟨h.1, ⟨by omega, by rw [← e1 h.2.1.1]; exact h.2.1.2⟩, by omega, by rw [← e2 h.2.2.1]; exact h.2.2.2⟩
        rw [if_neg h2, if_neg k2]
        by_cases h3 : b0 / 8 = 30 ∧ (1 < m ∧ b1 / 64 = 2) ∧ (2 < m ∧ b2 / 64 = 2) ∧ (3 < m ∧ b3 / 64 = 2)
        · rw [if_pos h3] at hw
          rw [if_pos h3]
          by_cases g3 : 3 < n
          · rw [e1 (by omega), e2 (by omega), e3 g3, if_pos ⟨h3.1, ⟨by omega, h3.2.1.2⟩, ⟨by omega, h3.2.2.1.2⟩, g3, h3.2.2.2.2⟩]
          · by_cases hv : b0 % 8 * 262144 + b1 % 64 * 4096 + b2 % 64 * 64 + b3 % 64 ≥ 65536 ∧ (b0 % 8 * 262144 + b1 % 64 * 4096 + b2 % 64 * 64 + b3 % 64 < 55296 ∨ (57344 ≤ b0 % 8 * 262144 + b1 % 64 * 4096 + b2 % 64 * 64 + b3 % 64 ∧ b0 % 8 * 262144 + b1 % 64 * 4096 + b2 % 64 * 64 + b3 % 64 ≤ 1114111))
            · rw [if_pos hv] at hw
              exact absurd hw g3
            · rw [if_neg hv, if_neg (fun h => g3 h.2.2.2.1)]
        · have k3 : ¬ (b0 / 8 = 30 ∧ (1 < n ∧ c1 / 64 = 2) ∧ (2 < n ∧ c2 / 64 = 2) ∧ (3 < n ∧ c3 / 64 = 2)) := fun h =>
            h3 ⟨h.1, ⟨by omega, by rw [← e1 h.2.1.1]; exact h.2.1.2⟩, ⟨by omega, by rw [← e2 h.2.2.1.1]; exact h.2.2.1.2⟩, by omega, by rw [← e3 h.2.2.2.1]; exact h.2.2.2.2⟩
          rw [if_neg h3, if_neg k3]
theorem getD_app (A T : List Nat) (i : Nat) (h : i < A.length) : A.getD i 0 = (A ++ T).getD i 0 := by
  rw [List.getD_eq_getElem?_getD, List.getD_eq_getElem?_getD, List.getElem?_append_left h]
/-- What is decoded hangs on its own bytes alone. -/
theorem dN_app (A T : List Nat) (h : A ≠ []) (hw : (dN (A ++ T)).2 ≤ A.length) : dN A = dN (A ++ T) := by
  have hl : 1 ≤ A.length := List.length_pos_iff.2 h
  unfold dN at *
  rw [getD_app A T 0 hl]
  exact decN_less _ _ _ _ _ _ _ _ _ (fun h => getD_app A T 1 h) (fun h => getD_app A T 2 h) (fun h => getD_app A T 3 h) hl (by simp) hw

/-- Behind a stretch, none begins. -/
theorem St_rest : ∀ (n : Nat) (L : List Nat), L.length ≤ n → St (L.drop (St L)) = 0
  | n, L, hn => by
    by_cases h : L = []
    · subst h; rfl
    · have hl : 1 ≤ L.length := List.length_pos_iff.2 h
      have hw := dN_width L h
      match n with
      | 0 => omega
      | n + 1 =>
        have hc := St_cons L h
        by_cases hk : Ok ((dN L).1 : Int)
        · rw [if_pos hk] at hc
          rw [hc, ← List.drop_drop]
          exact St_rest n (L.drop (dN L).2) (by simp; omega)
        · rw [if_neg hk] at hc
          rw [hc, List.drop_zero, hc]
/-- A stretch alone is a stretch. -/
theorem St_self : ∀ (n : Nat) (L : List Nat), L.length ≤ n → St (L.take (St L)) = St L
  | n, L, hn => by
    by_cases h : L = []
    · subst h; rfl
    · have hl : 1 ≤ L.length := List.length_pos_iff.2 h
      have hw := dN_width L h
      match n with
      | 0 => omega
      | n + 1 =>
        have hc := St_cons L h
        by_cases hk : Ok ((dN L).1 : Int)
        · rw [if_pos hk] at hc
          have hle := St_le L.length L (Nat.le_refl _)
          have hne : L.take (St L) ≠ [] := by
            intro h2
            have := congrArg List.length h2
            rw [List.length_take, List.length_nil] at this
            omega
          have hd : dN (L.take (St L)) = dN L := by
            have h1 := dN_app (L.take (St L)) (L.drop (St L)) hne (by rw [List.take_append_drop, List.length_take]; omega)
            rw [List.take_append_drop] at h1
            exact h1
          rw [St_cons _ hne, hd, if_pos hk, List.drop_take]
          have e : St L - (dN L).2 = St (L.drop (dN L).2) := by omega
          rw [e, St_self n (L.drop (dN L).2) (by simp; omega), hc]
        · rw [if_neg hk] at hc
          rw [hc]
          rfl
end Go.Proofs.YtaoklhalkfcpfaaGreatDoor.Nz

/- Walks: what the document's own classes return (Start, Part), whatever the world. -/
set_option linter.unusedSimpArgs false
set_option linter.unusedVariables false
namespace Go.Proofs.YtaoklhalkfcpfaaGreatDoor.Nz
open Go.RowKit

set_option maxHeartbeats 4000000 in
set_option maxRecDepth 100000 in
theorem rstart_any (r : Int) (w : World) : Calls Tryz.prog 46 #[.int .i64 r] w fun e w' => e = .returned (.bool (decide (Start r))) ∧ w = w' := by
  go_enter Tryz.func46, Tryz.ntmps46
  go_wp2
  all_goals
    go_ret
    refine ⟨ret_bool ?_, rfl⟩
    first
      | refine bt ?_
      | refine bf ?_
      | (refine Bool.eq_iff_iff.2 ?_; simp only [decide_eq_true_eq, Bool.or_eq_true, beq_iff_eq])
    try simp only [beq_iff_eq, Bool.or_eq_true, Bool.and_eq_true, decide_eq_true_eq, decide_eq_false_iff_not, beq_eq_false_iff_ne] at *
    simp only [Part, Start, Chr, Blank, Btw] at *
    first
      | omega
      | (constructor <;> intro hq <;> omega)

set_option maxHeartbeats 4000000 in
set_option maxRecDepth 100000 in
theorem rpart_any (r : Int) (w : World) : Calls Tryz.prog 30 #[.int .i64 r] w fun e w' => e = .returned (.bool (decide (Part r))) ∧ w = w' := by
  go_enter Tryz.func30, Tryz.ntmps30
  go_wp2_with (first | (go_at_call 46; refine (rstart_any _ _).mono ?_; rintro e w' ⟨rfl, rfl⟩))
  all_goals
    go_ret
    refine ⟨ret_bool ?_, rfl⟩
    first
      | refine bt ?_
      | refine bf ?_
      | (refine Bool.eq_iff_iff.2 ?_; simp only [decide_eq_true_eq, Bool.or_eq_true, beq_iff_eq])
    try simp only [beq_iff_eq, Bool.or_eq_true, Bool.and_eq_true, decide_eq_true_eq, decide_eq_false_iff_not, beq_eq_false_iff_ne] at *
    simp only [Part, Start, Chr, Blank, Btw] at *
    first
      | omega
      | (constructor <;> intro hq <;> omega)

end Go.Proofs.YtaoklhalkfcpfaaGreatDoor.Nz

/- The walks of name.Plain and of the document's own. -/
set_option linter.unusedSimpArgs false
set_option linter.unusedVariables false
namespace Go.Proofs.YtaoklhalkfcpfaaGreatDoor.Nz
open Go.RowKit

def aP (l : List Int) : Bool := l.all (fun r => decide (Part r))
theorem drop_ne (s : ByteArray) (pos : Nat) (h : pos < s.size) : (bl s).drop pos ≠ [] := by
  intro h2
  have := congrArg List.length h2
  simp [bl_len] at this
  omega
theorem Rn_at (s : ByteArray) (pos : Nat) (h : pos < s.size) : Rn ((bl s).drop pos) = ((Utf8.decode s pos).1 : Int) :: Rn ((bl s).drop (pos + (Utf8.decode s pos).2)) := by
  rw [Rn_cons _ (drop_ne s pos h), ← dec_dN, List.drop_drop]
theorem Rn_end (s : ByteArray) (pos : Nat) (h : ¬ pos < s.size) : Rn ((bl s).drop pos) = [] := by
  rw [List.drop_of_length_le (by rw [bl_len]; omega)]
  rfl
theorem pl_first (s : ByteArray) (h : 0 < s.size) : pl (bl s) = (decide (Start ((Utf8.decode s 0).1 : Int)) && (decide (Part ((Utf8.decode s 0).1 : Int)) && aP (Rn ((bl s).drop (0 + (Utf8.decode s 0).2))))) := by
  have := Rn_at s 0 h
  rw [List.drop_zero] at this
  unfold pl aP
  rw [this]
  simp only [plR, List.all_cons]

theorem isE (s : ByteArray) : s.toList.isEmpty = decide (s.size = 0) := by
  rw [Lib.toList_data, Lib.size_eq]
  cases s.data.toList <;> simp

def PlRel (s : ByteArray) (w : World) (wr : World) : Prop :=
  ∃ pos : Nat, wr = w.iter s pos ∧ (pos = 0 ∨ (pos ≠ 0 ∧ s.size ≠ 0 ∧ pl (bl s) = aP (Rn ((bl s).drop pos))))

set_option maxHeartbeats 1000000 in
set_option maxRecDepth 100000 in
theorem plain_any (s : ByteArray) (w : World) :
    Calls Tryz.prog 57 #[.string s] w fun e w' => e = .returned (.bool (pl (bl s))) ∧ Below w.heap.size w w' := by
  have HB := Lib.hid (fun pos => (Below.refl w.heap.size w).alloc (Nat.le_refl _) (.stringIter s pos))
  have HF := Lib.hid (pl_first s)
  have HA := Lib.hid (Rn_at s)
  have HE := Lib.hid (Rn_end s)
  have HZ : Hid (s.size = 0 → pl (bl s) = false) := Lib.hid (fun h => by
    have : bl s = [] := List.eq_nil_of_length_eq_zero (by rw [bl_len]; exact h)
    rw [this]; rfl)
  obtain ⟨res, hres⟩ : ∃ res, res = pl (bl s) := ⟨_, rfl⟩
  have HRES := Lib.hid hres
  rw [← hres]
  clear hres
  go_enter Tryz.func57, Tryz.ntmps57
  go_wp2_with fail
  go_loopw [3, 4] (fun _ _ wr => PlRel s w wr) (fun _ _ wr => s.size - wr.iterPos w.heap.size)
  case atStart => exact ⟨0, rfl, .inl rfl⟩
  case round =>
    obtain ⟨pos, rfl, hq⟩ := hrel
    have HQ := Lib.hid hq
    clear hq
    by_cases hp : pos < s.size
    · have hnx : ∀ ty, (Instr.next (.pointer (some ⟨w.heap.size, 0, none⟩)) true ty).run Tryz.prog (w.iter s pos) = _ := fun ty => run_next_any w s pos ty hp
      have hwd := width_pos s pos hp
      have HR := Lib.hid (HA.out pos hp)
      by_cases h0 : pos = 0
      · have F0 := Lib.hid (HF.out (by omega))
        have c0 : ((pos : Int) == 0) = true := by simp [h0]
        have H0 := Lib.hid h0
        rw [← h0] at F0
        clear h0 HA HQ
        generalize (Utf8.decode s pos).1 = r at *
        generalize (Utf8.decode s pos).2 = d at *
        go_wp2_with (first | (go_at_call 68; refine (start_any _ _).mono ?_; rintro e w' ⟨rfl, rfl⟩) | (go_at_call 54; refine (part_any _ _).mono ?_; rintro e w' ⟨rfl, rfl⟩))
        all_goals first
          | (go_ret
             refine ⟨ret_bool ?_, HB.out _⟩
             have f0 := F0.out
             try rw [HR.out] at f0
             rw [HRES.out, f0]
             simp_all [aP])
          | (refine ⟨⟨pos + d, rfl, .inr ⟨by omega, by omega, ?_⟩⟩, by simp; omega⟩
             have f0 := F0.out
             try rw [HR.out] at f0
             rw [f0]
             simp_all [aP])
      · have Q := HQ.out
        have c0 : ((pos : Int) == 0) = false := by simp; omega
        have F0 : Hid (pl (bl s) = aP (Rn ((bl s).drop pos))) := Lib.hid (by rcases Q with h | h; exact absurd h h0; exact h.2.2)
        clear Q HA HQ
        generalize (Utf8.decode s pos).1 = r at *
        generalize (Utf8.decode s pos).2 = d at *
        go_wp2_with (first | (go_at_call 68; refine (start_any _ _).mono ?_; rintro e w' ⟨rfl, rfl⟩) | (go_at_call 54; refine (part_any _ _).mono ?_; rintro e w' ⟨rfl, rfl⟩))
        all_goals first
          | (go_ret
             refine ⟨ret_bool ?_, HB.out _⟩
             have f0 := F0.out
             try rw [HR.out] at f0
             rw [HRES.out, f0]
             simp_all [aP])
          | (refine ⟨⟨pos + d, rfl, .inr ⟨by omega, by omega, ?_⟩⟩, by simp; omega⟩
             have f0 := F0.out
             try rw [HR.out] at f0
             rw [f0]
             simp_all [aP])
    · have hnx : ∀ ty, (Instr.next (.pointer (some ⟨w.heap.size, 0, none⟩)) true ty).run Tryz.prog (w.iter s pos) = _ := fun ty => run_next_end w s pos ty hp
      go_wp2
      go_ret
      refine ⟨ret_bool ?_, HB.out pos⟩
      rw [HRES.out, isE]
      by_cases hz : s.size = 0
      · rw [HZ.out hz]
        simp [hz]
      · rcases HQ.out with h | h
        · omega
        · rw [h.2.2, HE.out pos hp]
          simp [hz, aP]

def RpRel (l : List Int) (i : Value) : Prop := ∃ k : Nat, k ≤ l.length ∧ i = .int .i64 k ∧ aP l = aP (l.drop k)
theorem aP_drop (l : List Int) (k : Nat) (h : k < l.length) : aP (l.drop k) = (decide (Part (l.getD k 0)) && aP (l.drop (k + 1))) := by
  rw [List.drop_eq_getElem_cons h, List.getD_eq_getElem?_getD, List.getElem?_eq_getElem h]
  unfold aP
  rw [List.all_cons]
  rfl
theorem rgo_range (s : ByteArray) : ∀ (b i : Nat) (x : Int), x ∈ rgo s b i → 0 ≤ x ∧ x ≤ 2147483647
  | 0, i, x, h => by simp [rgo] at h
  | b + 1, i, x, h => by
    unfold rgo at h
    split at h
    · rcases List.mem_cons.1 h with rfl | h
      · have := decode_le s i
        omega
      · exact rgo_range s b _ x h
    · simp at h
theorem plR_eq (l : List Int) (h : 0 < l.length) : plR l = (decide (Start (l.getD 0 0)) && aP l) := by
  cases l with
  | nil => simp at h
  | cons x l => simp [plR, aP]

theorem rst_t {r : Int} (h : Start r) (w : World) : Calls Tryz.prog 46 #[.int .i64 r] w fun e w' => e = .returned (.bool true) ∧ w = w' := (rstart_any r w).mono fun e w' ⟨h1, h2⟩ => ⟨by rw [h1, decide_eq_true h], h2⟩
theorem rst_f {r : Int} (h : ¬ Start r) (w : World) : Calls Tryz.prog 46 #[.int .i64 r] w fun e w' => e = .returned (.bool false) ∧ w = w' := (rstart_any r w).mono fun e w' ⟨h1, h2⟩ => ⟨by rw [h1, decide_eq_false h], h2⟩

set_option maxHeartbeats 1000000 in
set_option maxRecDepth 100000 in
theorem rplain_any (s : ByteArray) (hs : s.size ≤ 1000) (w : World) :
    Calls Tryz.prog 31 #[.string s] w fun e w' => e = .returned (.bool (pl (bl s))) ∧ Below w.heap.size w w' := by
  obtain ⟨c, w1, hcv, hb1, hzz, hcell⟩ := conv_runes w s hs
  have hln := runes_len s
  have HRG := Lib.hid (fun x (hx : x ∈ runes s) => rgo_range s s.size 0 x hx)
  have HP : Hid (pl (bl s) = plR (runes s)) := Lib.hid (by unfold pl; rw [runes_Rn])
  have HB := Lib.hid hb1
  have hsz := hb1.size
  clear hzz hb1
  generalize pl (bl s) = res at *
  generalize runes s = l at *
  obtain ⟨n, hn⟩ : ∃ n, n = l.length := ⟨_, rfl⟩
  rw [← hn] at hcv
  have hn1 : n ≤ l.length := by omega
  have hn2 : l.length ≤ n := by omega
  have hn3 : n ≤ 1000 := by omega
  clear hn
  by_cases hz : n = 0
  · have q0 : ((n : Int) == 0) = true := by simp [hz]
    have HL : Hid (l = []) := Lib.hid (List.eq_nil_of_length_eq_zero (by omega))
    clear hcell
    go_enter Tryz.func31, Tryz.ntmps31
    go_wp2_with fail
    go_ret
    refine ⟨ret_bool ?_, HB.out⟩
    rw [HP.out, HL.out]
    rfl
  · have q0 : ((n : Int) == 0) = false := by simp; omega
    have hc0 := hcell 0 (by omega)
    have HX := Lib.hid (plR_eq l (by omega))
    obtain ⟨hx0, hx1⟩ := HRG.out (l.getD 0 0) (by rw [List.getD_eq_getElem?_getD, List.getElem?_eq_getElem (by omega)]; exact List.getElem_mem _)
    have HCELL := Lib.hid hcell
    clear hcell
    generalize l.getD 0 0 = x0 at *
    have i0 : (0 : Int) < (n : Int) := by omega
    by_cases hS : Start x0
    · have CS := Lib.hid (fun W => rst_t hS W)
      have HST : Hid (decide (Start x0) = true) := Lib.hid (decide_eq_true hS)
      clear hS
      go_enter Tryz.func31, Tryz.ntmps31
      go_wp2_with (first | (go_at_call 46; refine (CS.out _).mono ?_; rintro e w' ⟨rfl, rfl⟩))
      go_loop [4] (fun i => RpRel l i) (fun i => l.length - (intOf i).toNat)
      case atStart => exact ⟨0, Nat.zero_le _, rfl, by simp⟩
      case round =>
        obtain ⟨k, hk, rfl, ho⟩ := hrel
        have HO := Lib.hid ho
        clear ho hc0
        by_cases hlt : k < n
        · have hc := HCELL.out k (by omega)
          have HT := Lib.hid (aP_drop l k (by omega))
          obtain ⟨hy0, hy1⟩ := HRG.out (l.getD k 0) (by rw [List.getD_eq_getElem?_getD, List.getElem?_eq_getElem (by omega)]; exact List.getElem_mem _)
          generalize l.getD k 0 = y at hc HT hy0 hy1
          clear hcv
          go_wp2_with (first | (go_at_call 30; refine (rpart_any _ _).mono ?_; rintro e w' ⟨rfl, rfl⟩))
          · go_ret
            refine ⟨ret_bool ?_, HB.out⟩
            rw [HP.out, HX.out, HO.out, HT.out]
            simp_all
          · refine ⟨⟨k + 1, by omega, by go_num, ?_⟩, by simp [intOf]; omega⟩
            rw [HO.out, HT.out]
            simp_all
        · clear hcv
          go_wp2_with fail
          go_ret
          refine ⟨ret_bool ?_, HB.out⟩
          have hkn : k = l.length := by omega
          rw [HP.out, HX.out, HST.out, HO.out, hkn, List.drop_length]
          rfl
    · have CS := Lib.hid (fun W => rst_f hS W)
      have HST : Hid (decide (Start x0) = false) := Lib.hid (decide_eq_false hS)
      clear hS
      go_enter Tryz.func31, Tryz.ntmps31
      go_wp2_with (first | (go_at_call 46; refine (CS.out _).mono ?_; rintro e w' ⟨rfl, rfl⟩))
      go_ret
      refine ⟨ret_bool ?_, HB.out⟩
      rw [HP.out, HX.out, HST.out]
      rfl
end Go.Proofs.YtaoklhalkfcpfaaGreatDoor.Nz
