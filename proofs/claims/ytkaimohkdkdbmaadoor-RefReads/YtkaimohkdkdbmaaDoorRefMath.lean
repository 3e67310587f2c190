/-
  The document's way to a rune, and to what is cut off: by trying. It comes to the same as the table of first bytes.
-/
import Derived.Test.YtkaimohkdkdbmaaDoorStr
import Derived.Test.YtkaimohkdkdbmaaDoorVal
set_option linter.unusedSimpArgs false
set_option linter.unusedVariables false
namespace Go.Proofs.YtkaimohkdkdbmaaDoor

def valL (L : List Int) (n : Nat) : Int := valG (fun k => L.getD k 0) n n
theorem val2 (L : List Int) : valL L 2 = (L.getD 0 0 - 192) * 64 + (L.getD 1 0 - 128) := by simp [valL, valG, offs]
theorem val3 (L : List Int) : valL L 3 = ((L.getD 0 0 - 224) * 64 + (L.getD 1 0 - 128)) * 64 + (L.getD 2 0 - 128) := by simp [valL, valG, offs]
theorem val4 (L : List Int) : valL L 4 = (((L.getD 0 0 - 240) * 64 + (L.getD 1 0 - 128)) * 64 + (L.getD 2 0 - 128)) * 64 + (L.getD 3 0 - 128) := by simp [valL, valG, offs]
/-- What is tried at n bytes. -/
def vAt (L : List Int) (n : Nat) : Int := if n = 1 then L.getD 0 0 else valL L n

theorem refPut_ok {r : Int} (h : ¬ Bad r) : refPut r = encB r := by rw [refPut, if_neg h]
theorem refPut_pos {r : Int} (h : 0 < (refPut r).length) : ¬ Bad r := fun hb => by
  rw [refPut, if_pos hb] at h
  simp at h

/-- A try that succeeds. -/
def Try1 (L : List Int) (n : Nat) : Prop := (refPut (vAt L n)).length = n ∧ L.take n = refPut (vAt L n)
theorem try_dec (L : List Int) (n : Nat) (hn : 1 ≤ n) (h : Try1 L n) : dec1 L = (vAt L n, (n : Int), 0) := by
  obtain ⟨h1, h2⟩ := h
  have hb : ¬ Bad (vAt L n) := refPut_pos (by omega)
  rw [refPut_ok hb] at h1 h2
  have hL : L = encB (vAt L n) ++ L.drop n := by rw [← h2, List.take_append_drop]
  generalize vAt L n = r at *
  have := dec_enc r (L.drop n) hb
  rw [← hL, h1] at this
  exact this
theorem getD_of_take {L T : List Int} {n k : Nat} (h : L.take n = T) (hk : k < n) : L.getD k 0 = T.getD k 0 := by
  subst h
  simp [List.getD_eq_getElem?_getD, List.getElem?_take, hk]
/-- Where a rune stands, the try of its length succeeds. -/
theorem dec_try (L : List Int) (hl : L ≠ []) (hn : NN L) (h : (dec1 L).2.2 = 0) : ∃ n, 1 ≤ n ∧ n ≤ 4 ∧ n ≤ L.length ∧ Try1 L n := by
  obtain ⟨hb, h1, h2, h3⟩ := dec_inv L hl hn.getD h
  generalize (dec1 L).1 = r at *
  have h4 := encB_len r
  refine ⟨(encB r).length, by omega, by omega, h3, ?_⟩
  have key : vAt L (encB r).length = r := by
    have hb' := hb
    unfold Bad at hb'
    by_cases q1 : r < 128
    · rw [enc1 q1] at h2 ⊢
      have g0 := getD_of_take (k := 0) h2 (by simp)
      simp at g0
      simp [vAt, g0]
    by_cases q2 : r < 2048
    · rw [enc2 (by omega) q2] at h2 ⊢
      have g0 := getD_of_take (k := 0) h2 (by simp)
      have g1 := getD_of_take (k := 1) h2 (by simp)
      simp only [List.getD_cons_zero, List.getD_cons_succ] at g0 g1
      show vAt L 2 = r
      rw [vAt, if_neg (by omega), val2, g0, g1]
      omega
    by_cases q3 : r < 65536
    · rw [enc3 (by omega) q3] at h2 ⊢
      have g0 := getD_of_take (k := 0) h2 (by simp)
      have g1 := getD_of_take (k := 1) h2 (by simp)
      have g2 := getD_of_take (k := 2) h2 (by simp)
      simp only [List.getD_cons_zero, List.getD_cons_succ] at g0 g1 g2
      show vAt L 3 = r
      rw [vAt, if_neg (by omega), val3, g0, g1, g2]
      omega
    · rw [enc4 (by omega)] at h2 ⊢
      have g0 := getD_of_take (k := 0) h2 (by simp)
      have g1 := getD_of_take (k := 1) h2 (by simp)
      have g2 := getD_of_take (k := 2) h2 (by simp)
      have g3 := getD_of_take (k := 3) h2 (by simp)
      simp only [List.getD_cons_zero, List.getD_cons_succ] at g0 g1 g2 g3
      show vAt L 4 = r
      rw [vAt, if_neg (by omega), val4, g0, g1, g2, g3]
      omega
  refine ⟨?_, ?_⟩
  · rw [key, refPut_ok hb]
  · rw [key, refPut_ok hb, h2]

/-- The steps between the least rune and the greatest that bytes begin, so many bytes missing. -/
def stp (j : Nat) : Int := if j = 1 then 1 else if j = 2 then 65 else 4161
def loV (F : List Int) (t : Nat) : Int := valL (F ++ List.replicate (t - F.length) 128) t
def hiV (F : List Int) (t : Nat) : Int := valL (F ++ List.replicate (t - F.length) 191) t
def rK (F : List Int) (t k : Nat) : Int := loV F t + stp (t - F.length) * k
def Tl (F : List Int) : Prop := ∀ i, 1 ≤ i → i < F.length → 128 ≤ F.getD i 0 ∧ F.getD i 0 ≤ 191
def Fst (F : List Int) (t : Nat) : Prop := (t = 2 ∧ 192 ≤ F.getD 0 0 ∧ F.getD 0 0 < 224) ∨ (t = 3 ∧ 224 ≤ F.getD 0 0 ∧ F.getD 0 0 < 240) ∨ (t = 4 ∧ 240 ≤ F.getD 0 0 ∧ F.getD 0 0 < 248)
def Hit (F : List Int) (t k : Nat) : Prop := (refPut (rK F t k)).length = t ∧ (refPut (rK F t k)).take F.length = F
def Srch (F : List Int) (t : Nat) : Prop := Tl F ∧ Fst F t ∧ ∃ k, k < 64 ∧ Hit F t k

theorem hi_lo (F : List Int) (t : Nat) (h1 : 1 ≤ F.length) (h2 : F.length < t) (h3 : t ≤ 4) : hiV F t = loV F t + stp (t - F.length) * 63 := by
  match F, h1, h2 with
  | [a], _, h2 =>
    have : t = 2 ∨ t = 3 ∨ t = 4 := by simp only [List.length_cons, List.length_nil] at h2; omega
    rcases this with rfl | rfl | rfl
    · simp [hiV, loV, val2, stp, List.replicate] <;> try omega
    · simp [hiV, loV, val3, stp, List.replicate] <;> try omega
    · simp [hiV, loV, val4, stp, List.replicate] <;> try omega
  | [a, b], _, h2 =>
    have : t = 3 ∨ t = 4 := by simp at h2; omega
    rcases this with rfl | rfl
    · simp [hiV, loV, val3, stp, List.replicate] <;> try omega
    · simp [hiV, loV, val4, stp, List.replicate] <;> try omega
  | [a, b, c], _, h2 =>
    have : t = 4 := by simp at h2; omega
    subst this
    simp [hiV, loV, val4, stp, List.replicate] <;> try omega
  | a :: b :: c :: d :: F, _, h2 => simp at h2; omega

theorem hit_cut (F : List Int) (t k : Nat) (h1 : 1 ≤ F.length) (h2 : F.length < t) (h : Hit F t k) : (dec1 F).2.2 = 7 := by
  obtain ⟨a, b⟩ := h
  have hb : ¬ Bad (rK F t k) := refPut_pos (by omega)
  rw [refPut_ok hb] at a b
  have := dec_cut (rK F t k) F.length hb h1 (by omega)
  rw [b] at this
  rw [this]

theorem hit2 (F : List Int) (k : Nat) (hF : F.length = 1) (h0 : 194 ≤ F.getD 0 0) (h1 : F.getD 0 0 < 224) : Hit F 2 0 := by
  match F, hF with
  | [a], _ =>
    simp at h0 h1
    have hr : rK [a] 2 0 = (a - 192) * 64 := by simp [rK, loV, val2, stp, List.replicate]
    unfold Hit
    rw [hr, refPut_ok (by unfold Bad; omega), enc2 (by omega) (by omega)]
    refine ⟨rfl, ?_⟩
    exact cons_eq (by omega) rfl
theorem hit3 (a : Int) (h0 : 224 ≤ a) (h1 : a < 240) : ∃ k, k < 64 ∧ Hit [a] 3 k := by
  by_cases e : a = 224
  · subst e
    refine ⟨32, by omega, ?_⟩
    have hr : rK [224] 3 32 = 2080 := by decide
    unfold Hit
    rw [hr]
    decide
  · refine ⟨0, by omega, ?_⟩
    have hr : rK [a] 3 0 = (a - 224) * 64 * 64 := by simp [rK, loV, val3, stp, List.replicate]
    unfold Hit
    rw [hr, refPut_ok (by unfold Bad; omega), enc3 (by omega) (by omega)]
    refine ⟨rfl, ?_⟩
    exact cons_eq (by omega) rfl
theorem hit4 (a : Int) (h0 : 240 ≤ a) (h1 : a < 245) : ∃ k, k < 64 ∧ Hit [a] 4 k := by
  by_cases e : a = 240
  · subst e
    refine ⟨16, by omega, ?_⟩
    have hr : rK [240] 4 16 = 66576 := by decide
    unfold Hit
    rw [hr]
    decide
  · refine ⟨0, by omega, ?_⟩
    have hr : rK [a] 4 0 = (a - 240) * 64 * 64 * 64 := by simp [rK, loV, val4, stp, List.replicate]
    unfold Hit
    rw [hr, refPut_ok (by unfold Bad; omega), enc4 (by omega)]
    refine ⟨rfl, ?_⟩
    exact cons_eq (by omega) rfl
theorem hit32 (a b : Int) (h0 : 224 ≤ a) (h1 : a < 240) (h2 : 128 ≤ b) (h3 : b ≤ 191) (h4 : a = 224 → 160 ≤ b) (h5 : a = 237 → b ≤ 159) : Hit [a, b] 3 0 := by
  have hr : rK [a, b] 3 0 = ((a - 224) * 64 + (b - 128)) * 64 := by simp [rK, loV, val3, stp, List.replicate]
  unfold Hit
  rw [hr, refPut_ok (by unfold Bad; omega), enc3 (by omega) (by omega)]
  refine ⟨rfl, ?_⟩
  exact cons_eq (by omega) (cons_eq (by omega) rfl)
theorem hit42 (a b : Int) (h0 : 240 ≤ a) (h1 : a < 245) (h2 : 128 ≤ b) (h3 : b ≤ 191) (h4 : a = 240 → 144 ≤ b) (h5 : a = 244 → b ≤ 143) : Hit [a, b] 4 0 := by
  have hr : rK [a, b] 4 0 = ((a - 240) * 64 + (b - 128)) * 64 * 64 := by simp [rK, loV, val4, stp, List.replicate]
  unfold Hit
  rw [hr, refPut_ok (by unfold Bad; omega), enc4 (by omega)]
  refine ⟨rfl, ?_⟩
  exact cons_eq (by omega) (cons_eq (by omega) rfl)
theorem hit43 (a b c : Int) (h0 : 240 ≤ a) (h1 : a < 245) (h2 : 128 ≤ b) (h3 : b ≤ 191) (h4 : a = 240 → 144 ≤ b) (h5 : a = 244 → b ≤ 143) (h6 : 128 ≤ c) (h7 : c ≤ 191) : Hit [a, b, c] 4 0 := by
  have hr : rK [a, b, c] 4 0 = (((a - 240) * 64 + (b - 128)) * 64 + (c - 128)) * 64 := by simp [rK, loV, val4, stp, List.replicate]
  unfold Hit
  rw [hr, refPut_ok (by unfold Bad; omega), enc4 (by omega)]
  refine ⟨rfl, ?_⟩
  exact cons_eq (by omega) (cons_eq (by omega) (cons_eq (by omega) rfl))

/-- What canon says of so few bytes, where it says that they are cut off. -/
theorem cut_1 (a : Int) (h : (dec1 [a]).2.2 = 7) : 194 ≤ a ∧ a < 245 := by
  by_cases q : 194 ≤ a ∧ a < 245
  · exact q
  · exfalso
    simp [dec1, canon] at h
    repeat' split at h
    all_goals first | omega | simp at h
def C7 (P : Prop) (x : Int × Int × Int) : Prop := x.2.2 = 7 → P
theorem c7_ite {P : Prop} {c : Prop} [Decidable c] {x y : Int × Int × Int} (h1 : c → C7 P x) (h2 : ¬ c → C7 P y) : C7 P (if c then x else y) := by
  by_cases h : c
  · rw [if_pos h]; exact h1 h
  · rw [if_neg h]; exact h2 h
theorem c7_2 {P : Prop} : C7 P (0, 0, 2) := fun h => by simp at h
theorem c7_0 {P : Prop} {r n : Int} : C7 P (r, n, 0) := fun h => by simp at h
theorem c7_7 {P : Prop} (h : P) : C7 P (0, 0, 7) := fun _ => h
theorem cut_2 (a b : Int) (h : (dec1 [a, b]).2.2 = 7) : (224 ≤ a ∧ a < 240 ∧ 128 ≤ b ∧ b ≤ 191 ∧ (a = 224 → 160 ≤ b) ∧ (a = 237 → b ≤ 159)) ∨ (240 ≤ a ∧ a < 245 ∧ 128 ≤ b ∧ b ≤ 191 ∧ (a = 240 → 144 ≤ b) ∧ (a = 244 → b ≤ 143)) := by
  refine (?_ : C7 _ (dec1 [a, b])) h
  unfold dec1 canon
  simp only [List.getD_cons_zero, List.getD_cons_succ, List.length_cons, List.length_nil]
  refine c7_ite (fun _ => c7_0) fun n1 => c7_ite (fun _ => c7_2) fun n2 => ?_
  refine c7_ite (fun q => c7_ite (fun q => by omega) fun _ => c7_ite (fun _ => c7_2) fun _ => c7_0) fun n3 => ?_
  refine c7_ite (fun q => c7_ite (fun q => by omega) fun _ => c7_ite (fun _ => c7_2) fun n4 => c7_ite (fun _ => c7_7 (.inl ?_)) fun q => by omega) fun n4 => ?_
  · refine ⟨by omega, by omega, ?_, ?_, ?_, ?_⟩
    · by_cases e : a = 224
      · rw [if_pos e] at n4; omega
      · rw [if_neg e] at n4; omega
    · by_cases e : a = 237
      · rw [if_pos e] at n4; omega
      · rw [if_neg e] at n4; omega
    · intro e; rw [if_pos e] at n4; omega
    · intro e; rw [if_pos e] at n4; omega
  refine c7_ite (fun q => c7_ite (fun q => by omega) fun _ => c7_ite (fun _ => c7_2) fun n5 => c7_ite (fun _ => c7_7 (.inr ?_)) fun q => by omega) fun _ => c7_2
  refine ⟨by omega, by omega, ?_, ?_, ?_, ?_⟩
  · by_cases e : a = 240
    · rw [if_pos e] at n5; omega
    · rw [if_neg e] at n5; omega
  · by_cases e : a = 244
    · rw [if_pos e] at n5; omega
    · rw [if_neg e] at n5; omega
  · intro e; rw [if_pos e] at n5; omega
  · intro e; rw [if_pos e] at n5; omega
theorem cut_3 (a b c : Int) (h : (dec1 [a, b, c]).2.2 = 7) : 240 ≤ a ∧ a < 245 ∧ 128 ≤ b ∧ b ≤ 191 ∧ (a = 240 → 144 ≤ b) ∧ (a = 244 → b ≤ 143) ∧ 128 ≤ c ∧ c ≤ 191 := by
  refine (?_ : C7 _ (dec1 [a, b, c])) h
  unfold dec1 canon
  simp only [List.getD_cons_zero, List.getD_cons_succ, List.length_cons, List.length_nil]
  refine c7_ite (fun _ => c7_0) fun n1 => c7_ite (fun _ => c7_2) fun n2 => ?_
  refine c7_ite (fun q => c7_ite (fun q => by omega) fun _ => c7_ite (fun _ => c7_2) fun _ => c7_0) fun n3 => ?_
  refine c7_ite (fun q => c7_ite (fun q => by omega) fun _ => c7_ite (fun _ => c7_2) fun n4 => c7_ite (fun q => by omega) fun q => c7_ite (fun _ => c7_2) fun _ => c7_0) fun n4 => ?_
  refine c7_ite (fun q => c7_ite (fun q => by omega) fun _ => c7_ite (fun _ => c7_2) fun n5 => c7_ite (fun q => by omega) fun q => c7_ite (fun _ => c7_2) fun n6 => c7_ite (fun _ => c7_7 ?_) fun q => by omega) fun _ => c7_2
  refine ⟨by omega, by omega, ?_, ?_, ?_, ?_, by omega, by omega⟩
  · by_cases e : a = 240
    · rw [if_pos e] at n5; omega
    · rw [if_neg e] at n5; omega
  · by_cases e : a = 244
    · rw [if_pos e] at n5; omega
    · rw [if_neg e] at n5; omega
  · intro e; rw [if_pos e] at n5; omega
  · intro e; rw [if_pos e] at n5; omega
theorem cut_4 (L : List Int) (h : 4 ≤ L.length) : (dec1 L).2.2 ≠ 7 := by
  intro h7
  refine (?_ : C7 False (dec1 L)) h7
  unfold dec1 canon
  refine c7_ite (fun _ => c7_0) fun n1 => c7_ite (fun _ => c7_2) fun n2 => ?_
  refine c7_ite (fun q => c7_ite (fun q => by omega) fun _ => c7_ite (fun _ => c7_2) fun _ => c7_0) fun n3 => ?_
  refine c7_ite (fun q => c7_ite (fun q => by omega) fun _ => c7_ite (fun _ => c7_2) fun n4 => c7_ite (fun q => by omega) fun q => c7_ite (fun _ => c7_2) fun _ => c7_0) fun n4 => ?_
  exact c7_ite (fun q => c7_ite (fun q => by omega) fun _ => c7_ite (fun _ => c7_2) fun n5 => c7_ite (fun q => by omega) fun q => c7_ite (fun _ => c7_2) fun n6 => c7_ite (fun q => by omega) fun _ => c7_ite (fun _ => c7_2) fun _ => c7_0) fun _ => c7_2

/-- Bytes, few of them: they are cut off just where the search finds a rune. -/
theorem srch_iff (F : List Int) (h1 : 1 ≤ F.length) (h3 : F.length ≤ 3) : (∃ t, F.length < t ∧ t ≤ 4 ∧ Srch F t) ↔ (dec1 F).2.2 = 7 := by
  refine ⟨fun ⟨t, a, b, _, _, k, _, hk⟩ => hit_cut F t k h1 a hk, fun h => ?_⟩
  match F, h1, h3, h with
  | [a], _, _, h =>
    obtain ⟨q1, q2⟩ := cut_1 a h
    have ht : Tl [a] := fun i i1 i2 => by simp at i2; omega
    by_cases c1 : a < 224
    · exact ⟨2, by simp, by omega, ht, .inl ⟨rfl, by simp; omega, by simpa using c1⟩, 0, by omega, hit2 [a] 0 rfl (by simpa using q1) (by simpa using c1)⟩
    by_cases c2 : a < 240
    · exact ⟨3, by simp, by omega, ht, .inr (.inl ⟨rfl, by simp; omega, by simpa using c2⟩), hit3 a (by omega) c2⟩
    · exact ⟨4, by simp, by omega, ht, .inr (.inr ⟨rfl, by simp; omega, by simp; omega⟩), hit4 a (by omega) q2⟩
  | [a, b], _, _, h =>
    have ht : 128 ≤ b → b ≤ 191 → Tl [a, b] := fun b1 b2 i i1 i2 => by
      have : i = 1 := by simp at i2; omega
      subst this
      simp; omega
    rcases cut_2 a b h with ⟨q1, q2, q3, q4, q5, q6⟩ | ⟨q1, q2, q3, q4, q5, q6⟩
    · exact ⟨3, by simp, by omega, ht q3 q4, .inr (.inl ⟨rfl, by simpa using q1, by simpa using q2⟩), 0, by omega, hit32 a b q1 q2 q3 q4 q5 q6⟩
    · exact ⟨4, by simp, by omega, ht q3 q4, .inr (.inr ⟨rfl, by simpa using q1, by simp; omega⟩), 0, by omega, hit42 a b q1 q2 q3 q4 q5 q6⟩
  | [a, b, c], _, _, h =>
    obtain ⟨q1, q2, q3, q4, q5, q6, q7, q8⟩ := cut_3 a b c h
    have ht : Tl [a, b, c] := fun i i1 i2 => by
      have : i = 1 ∨ i = 2 := by simp at i2; omega
      rcases this with rfl | rfl
      · simp; omega
      · simp; omega
    exact ⟨4, by simp, by omega, ht, .inr (.inr ⟨rfl, by simpa using q1, by simp; omega⟩), 0, by omega, hit43 a b c q1 q2 q3 q4 q5 q6 q7 q8⟩
end Go.Proofs.YtkaimohkdkdbmaaDoor
