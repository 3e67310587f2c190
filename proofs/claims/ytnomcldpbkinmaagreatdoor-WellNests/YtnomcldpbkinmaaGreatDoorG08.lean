/-
  Merged by program out of the texts NzNm, NzRef, NzPlain, NzCut, NzIdx of one seat.
-/
import Derived.Test.YtnomcldpbkinmaaGreatDoorG07
import Derived.Lib.Bytealg
import Derived.Deep.QuietTactic
import Derived.BigQuiet

/- Plain mathematics: plain names, the stretch of a name, the first colon, over a text's bytes as a list. -/
set_option linter.unusedSimpArgs false
set_option linter.unusedVariables false
namespace Go.Proofs.YtnomcldpbkinmaaGreatDoor.Nz
open Go.RowKit

/-- May the rune stand in a stretch: in a name, or as a colon. -/
def Ok (r : Int) : Prop := r = 58 ∨ Part r
instance (r : Int) : Decidable (Ok r) := inferInstanceAs (Decidable (r = 58 ∨ Part r))

/-- A plain name, of its runes. -/
def plR : List Int → Bool
  | [] => false
  | x :: l => decide (Start x) && (x :: l).all (fun r => decide (Part r))
def pl (L : List Nat) : Bool := plR (Rn L)

/-- How many bytes the stretch has that stands first. -/
def sp : Nat → List Nat → Nat
  | 0, _ => 0
  | f + 1, L => if L = [] then 0 else if Ok ((dN L).1 : Int) then (dN L).2 + sp f (L.drop (dN L).2) else 0
def St (L : List Nat) : Nat := sp L.length L

theorem sp_nil (f : Nat) : sp f [] = 0 := by cases f <;> simp [sp]
theorem sp_fuel : ∀ (f g : Nat) (L : List Nat), L.length ≤ f → L.length ≤ g → sp f L = sp g L
  | 0, g, L, h1, h2 => by
    have : L = [] := List.eq_nil_of_length_eq_zero (by omega)
    subst this
    rw [sp_nil, sp_nil]
  | f + 1, 0, L, h1, h2 => by
    have : L = [] := List.eq_nil_of_length_eq_zero (by omega)
    subst this
    rw [sp_nil, sp_nil]
  | f + 1, g + 1, L, h1, h2 => by
    by_cases h : L = []
    · subst h; rw [sp_nil, sp_nil]
    · have hw := dN_width L h
      simp only [sp, h, if_false]
      rw [sp_fuel f g (L.drop (dN L).2) (by simp; omega) (by simp; omega)]
theorem St_nil : St [] = 0 := rfl
theorem St_cons (L : List Nat) (h : L ≠ []) : St L = if Ok ((dN L).1 : Int) then (dN L).2 + St (L.drop (dN L).2) else 0 := by
  have hl : 1 ≤ L.length := List.length_pos_iff.2 h
  have hw := dN_width L h
  unfold St
  obtain ⟨f, hf⟩ : ∃ f, L.length = f + 1 := ⟨L.length - 1, by omega⟩
  rw [hf]
  simp only [sp, h, if_false]
  rw [sp_fuel f (L.drop (dN L).2).length (L.drop (dN L).2) (by simp; omega) (Nat.le_refl _)]
theorem St_le : ∀ (n : Nat) (L : List Nat), L.length ≤ n → St L ≤ L.length
  | n, L, hn => by
    by_cases h : L = []
    · subst h; rw [St_nil]; exact Nat.zero_le _
    · have hl : 1 ≤ L.length := List.length_pos_iff.2 h
      have hw := dN_width L h
      match n with
      | 0 => omega
      | n + 1 =>
        rw [St_cons L h]
        split
        · have := St_le n (L.drop (dN L).2) (by simp; omega)
          simp at this
          omega
        · omega

set_option maxHeartbeats 1000000 in
set_option maxRecDepth 100000 in
/-- A byte below 80 ends what stands ahead of it. -/
theorem dN_asc (A B : List Nat) (c : Nat) (hc : c < 128) (h : A ≠ []) : dN (A ++ c :: B) = dN A := by
  match A, h with
  | [a], _ =>
    simp only [dN, Lib.decodeN, List.cons_append, List.nil_append, List.getD_cons_zero, List.getD_cons_succ, List.length_cons, List.length_nil, List.getD_nil]
    repeat' split
    all_goals first | (exfalso; omega) | rfl
  | [a, b], _ =>
    simp only [dN, Lib.decodeN, List.cons_append, List.nil_append, List.getD_cons_zero, List.getD_cons_succ, List.length_cons, List.length_nil, List.getD_nil]
    repeat' split
    all_goals first | (exfalso; omega) | rfl
  | [a, b, d], _ =>
    simp only [dN, Lib.decodeN, List.cons_append, List.nil_append, List.getD_cons_zero, List.getD_cons_succ, List.length_cons, List.length_nil, List.getD_nil]
    repeat' split
    all_goals first | (exfalso; omega) | rfl
  | a :: b :: d :: e :: A', _ =>
    simp only [dN, Lib.decodeN, List.cons_append, List.nil_append, List.getD_cons_zero, List.getD_cons_succ, List.length_cons, List.length_append]
    repeat' split
    all_goals first | (exfalso; omega) | rfl
theorem dN_asc0 (B : List Nat) (c : Nat) (hc : c < 128) : dN (c :: B) = (c, 1) := by simp [dN, Lib.decodeN, hc]
theorem Rn_asc : ∀ (n : Nat) (A B : List Nat) (c : Nat), c < 128 → A.length ≤ n → Rn (A ++ c :: B) = Rn A ++ (c : Int) :: Rn B
  | n, A, B, c, hc, hn => by
    by_cases h : A = []
    · subst h
      rw [List.nil_append, Rn_nil, List.nil_append, Rn_cons _ (by simp), dN_asc0 B c hc]
      rfl
    · have hl : 1 ≤ A.length := List.length_pos_iff.2 h
      have hw := dN_width A h
      match n with
      | 0 => omega
      | n + 1 =>
        rw [Rn_cons (A ++ c :: B) (by simp), dN_asc A B c hc h, Rn_cons A h, List.drop_append_of_le_length hw.2, Rn_asc n (A.drop (dN A).2) B c hc (by simp; omega)]
        rfl
theorem part58 : ¬ Part 58 := by decide
/-- No plain name holds a colon. -/
theorem pl_colon (A B : List Nat) : pl (A ++ 58 :: B) = false := by
  unfold pl
  rw [Rn_asc _ A B 58 (by omega) (Nat.le_refl _)]
  have key : (Rn A ++ (58 : Int) :: Rn B).all (fun r => decide (Part r)) = false := by
    rw [List.all_append, List.all_cons, decide_eq_false part58]
    simp
  have h58 : ((58 : Nat) : Int) = 58 := rfl
  rw [h58]
  cases hR : Rn A ++ (58 : Int) :: Rn B with
  | nil => rfl
  | cons x l =>
    rw [hR] at key
    simp only [plR, key, Bool.and_false]
theorem pl_mem (L : List Nat) (h : 58 ∈ L) : pl L = false := by
  obtain ⟨A, B, rfl⟩ := List.append_of_mem h
  exact pl_colon A B
theorem pl_nil : pl [] = false := rfl
theorem pl_ok {L : List Nat} (h : pl L = true) : ∀ x ∈ Rn L, Part x := by
  unfold pl at h
  intro x hx
  cases hR : Rn L with
  | nil => rw [hR] at hx; simp at hx
  | cons y l =>
    rw [hR] at h hx
    simp only [plR, Bool.and_eq_true, List.all_eq_true, decide_eq_true_eq] at h
    exact h.2 x hx

/-- A stretch, all of whose runes may stand in one, ahead of a byte below 80 that may not. -/
theorem St_full : ∀ (n : Nat) (A B : List Nat) (c : Nat), c < 128 → ¬ Ok (c : Int) → A.length ≤ n → (∀ x ∈ Rn A, Ok x) → St (A ++ c :: B) = A.length
  | n, A, B, c, hc, hok, hn, hA => by
    by_cases h : A = []
    · subst h
      rw [List.nil_append, St_cons _ (by simp), dN_asc0 B c hc, if_neg hok]
      rfl
    · have hl : 1 ≤ A.length := List.length_pos_iff.2 h
      have hw := dN_width A h
      match n with
      | 0 => omega
      | n + 1 =>
        have hR := Rn_cons A h
        rw [St_cons (A ++ c :: B) (by simp), dN_asc A B c hc h, if_pos (hA _ (by rw [hR]; simp)), List.drop_append_of_le_length hw.2,
          St_full n (A.drop (dN A).2) B c hc hok (by simp; omega) (fun x hx => hA x (by rw [hR]; simp [hx]))]
        simp
        omega

set_option maxHeartbeats 2000000 in
set_option maxRecDepth 100000 in
theorem decN_less (n m b0 b1 b2 b3 c1 c2 c3 : Nat) (e1 : 1 < n → c1 = b1) (e2 : 2 < n → c2 = b2) (e3 : 3 < n → c3 = b3) (hn : 1 ≤ n) (hm : n ≤ m) (hw : (Lib.decodeN m b0 b1 b2 b3).2 ≤ n) :
    Lib.decodeN n b0 c1 c2 c3 = Lib.decodeN m b0 b1 b2 b3 := by
  unfold Lib.decodeN at hw ⊢
  by_cases h0 : b0 < 128
  · rw [if_pos h0, if_pos h0]
  · rw [if_neg h0] at hw
    rw [if_neg h0, if_neg h0]
    by_cases h1 : b0 / 32 = 6 ∧ (1 < m ∧ b1 / 64 = 2)
    · rw [if_pos h1] at hw
      rw [if_pos h1]
      by_cases g1 : 1 < n
      · rw [e1 g1, if_pos ⟨h1.1, g1, h1.2.2⟩]
      · have hv : ¬ b0 % 32 * 64 + b1 % 64 ≥ 128 := by
          intro hv
          rw [if_pos hv] at hw
          exact g1 hw
        rw [if_neg hv, if_neg (fun h => g1 h.2.1), if_neg (fun h => g1 h.2.1.1), if_neg (fun h => g1 h.2.1.1)]
    · rw [if_neg h1] at hw
      have k1 : ¬ (b0 / 32 = 6 ∧ (1 < n ∧ c1 / 64 = 2)) := fun h => h1 ⟨h.1, by omega, by rw [← e1 h.2.1]; exact h.2.2⟩
      rw [if_neg h1, if_neg k1]
      by_cases h2 : b0 / 16 = 14 ∧ (1 < m ∧ b1 / 64 = 2) ∧ (2 < m ∧ b2 / 64 = 2)
      · rw [if_pos h2] at hw
        rw [if_pos h2]
        by_cases g2 : 2 < n
        · rw [e1 (by omega), e2 g2, if_pos ⟨h2.1, ⟨by omega, h2.2.1.2⟩, g2, h2.2.2.2⟩]
        · by_cases hv : b0 % 16 * 4096 + b1 % 64 * 64 + b2 % 64 ≥ 2048 ∧ (b0 % 16 * 4096 + b1 % 64 * 64 + b2 % 64 < 55296 ∨ (57344 ≤ b0 % 16 * 4096 + b1 % 64 * 64 + b2 % 64 ∧ b0 % 16 * 4096 + b1 % 64 * 64 + b2 % 64 ≤ 1114111))
          · rw [if_pos hv] at hw
            exact absurd hw g2
          · rw [if_neg hv, if_neg (fun h => g2 h.2.2.1), if_neg (fun h => g2 h.2.2.1.1)]
      · rw [if_neg h2] at hw
        have k2 : ¬ (b0 / 16 = 14 ∧ (1 < n ∧ c1 / 64 = 2) ∧ (2 < n ∧ c2 / 64 = 2)) := fun h => h2 ⟨h.1, ⟨by omega, by rw [← e1 h.2.1.1]; exact h.2.1.2⟩, by omega, by rw [← e2 h.2.2.1]; exact h.2.2.2⟩
        rw [if_neg h2, if_neg k2]
        by_cases h3 : b0 / 8 = 30 ∧ (1 < m ∧ b1 / 64 = 2) ∧ (2 < m ∧ b2 / 64 = 2) ∧ (3 < m ∧ b3 / 64 = 2)
        · rw [if_pos h3] at hw
          rw [if_pos h3]
          by_cases g3 : 3 < n
          · rw [e1 (by omega), e2 (by omega), e3 g3, if_pos ⟨h3.1, ⟨by omega, h3.2.1.2⟩, ⟨by omega, h3.2.2.1.2⟩, g3, h3.2.2.2.2⟩]
          · by_cases hv : b0 % 8 * 262144 + b1 % 64 * 4096 + b2 % 64 * 64 + b3 % 64 ≥ 65536 ∧ (b0 % 8 * 262144 + b1 % 64 * 4096 + b2 % 64 * 64 + b3 % 64 < 55296 ∨ (57344 ≤ b0 % 8 * 262144 + b1 % 64 * 4096 + b2 % 64 * 64 + b3 % 64 ∧ b0 % 8 * 262144 + b1 % 64 * 4096 + b2 % 64 * 64 + b3 % 64 ≤ 1114111))
            · rw [if_pos hv] at hw
              exact absurd hw g3
            · rw [if_neg hv, if_neg (fun h => g3 h.2.2.2.1)]
        · have k3 : ¬ (b0 / 8 = 30 ∧ (1 < n ∧ c1 / 64 = 2) ∧ (2 < n ∧ c2 / 64 = 2) ∧ (3 < n ∧ c3 / 64 = 2)) := fun h =>
            h3 ⟨h.1, ⟨by omega, by rw [← e1 h.2.1.1]; exact h.2.1.2⟩, ⟨by omega, by rw [← e2 h.2.2.1.1]; exact h.2.2.1.2⟩, by omega, by rw [← e3 h.2.2.2.1]; exact h.2.2.2.2⟩
          rw [if_neg h3, if_neg k3]
theorem getD_app (A T : List Nat) (i : Nat) (h : i < A.length) : A.getD i 0 = (A ++ T).getD i 0 := by
  rw [List.getD_eq_getElem?_getD, List.getD_eq_getElem?_getD, List.getElem?_append_left h]
/-- What is decoded hangs on its own bytes alone. -/
theorem dN_app (A T : List Nat) (h : A ≠ []) (hw : (dN (A ++ T)).2 ≤ A.length) : dN A = dN (A ++ T) := by
  have hl : 1 ≤ A.length := List.length_pos_iff.2 h
  unfold dN at *
  rw [getD_app A T 0 hl]
  exact decN_less _ _ _ _ _ _ _ _ _ (fun h => getD_app A T 1 h) (fun h => getD_app A T 2 h) (fun h => getD_app A T 3 h) hl (by simp) hw

/-- A stretch alone is a stretch. -/
theorem St_self : ∀ (n : Nat) (L : List Nat), L.length ≤ n → St (L.take (St L)) = St L
  | n, L, hn => by
    by_cases h : L = []
    · subst h; rfl
    · have hl : 1 ≤ L.length := List.length_pos_iff.2 h
      have hw := dN_width L h
      match n with
      | 0 => omega
      | n + 1 =>
        have hc := St_cons L h
        by_cases hk : Ok ((dN L).1 : Int)
        · rw [if_pos hk] at hc
          have hle := St_le L.length L (Nat.le_refl _)
          have hne : L.take (St L) ≠ [] := by
            intro h2
            have := congrArg List.length h2
            rw [List.length_take, List.length_nil] at this
            omega
          have hd : dN (L.take (St L)) = dN L := by
            have h1 := dN_app (L.take (St L)) (L.drop (St L)) hne (by rw [List.take_append_drop, List.length_take]; omega)
            rw [List.take_append_drop] at h1
            exact h1
          rw [St_cons _ hne, hd, if_pos hk, List.drop_take]
          have e : St L - (dN L).2 = St (L.drop (dN L).2) := by omega
          rw [e, St_self n (L.drop (dN L).2) (by simp; omega), hc]
        · rw [if_neg hk] at hc
          rw [hc]
          rfl
end Go.Proofs.YtnomcldpbkinmaaGreatDoor.Nz

/- Walks: what the document's own classes return (Start, Part), whatever the world. -/
set_option linter.unusedSimpArgs false
set_option linter.unusedVariables false
namespace Go.Proofs.YtnomcldpbkinmaaGreatDoor.Nz
open Go.RowKit

set_option maxHeartbeats 4000000 in
set_option maxRecDepth 100000 in
theorem rstart_any (r : Int) (w : World) : Calls Tryz.prog 68 #[.int .i64 r] w fun e w' => e = .returned (.bool (decide (Start r))) ∧ w = w' := by
  go_enter Tryz.func68, Tryz.ntmps68
  go_wp2
  all_goals
    go_ret
    refine ⟨ret_bool ?_, rfl⟩
    first
      | refine bt ?_
      | refine bf ?_
      | (refine Bool.eq_iff_iff.2 ?_; simp only [decide_eq_true_eq, Bool.or_eq_true, beq_iff_eq])
    try simp only [beq_iff_eq, Bool.or_eq_true, Bool.and_eq_true, decide_eq_true_eq, decide_eq_false_iff_not, beq_eq_false_iff_ne] at *
    simp only [Part, Start, Chr, Blank, Btw] at *
    first
      | omega
      | (constructor <;> intro hq <;> omega)

set_option maxHeartbeats 4000000 in
set_option maxRecDepth 100000 in
theorem rpart_any (r : Int) (w : World) : Calls Tryz.prog 66 #[.int .i64 r] w fun e w' => e = .returned (.bool (decide (Part r))) ∧ w = w' := by
  go_enter Tryz.func66, Tryz.ntmps66
  go_wp2_with (first | (go_at_call 68; refine (rstart_any _ _).mono ?_; rintro e w' ⟨rfl, rfl⟩))
  all_goals
    go_ret
    refine ⟨ret_bool ?_, rfl⟩
    first
      | refine bt ?_
      | refine bf ?_
      | (refine Bool.eq_iff_iff.2 ?_; simp only [decide_eq_true_eq, Bool.or_eq_true, beq_iff_eq])
    try simp only [beq_iff_eq, Bool.or_eq_true, Bool.and_eq_true, decide_eq_true_eq, decide_eq_false_iff_not, beq_eq_false_iff_ne] at *
    simp only [Part, Start, Chr, Blank, Btw] at *
    first
      | omega
      | (constructor <;> intro hq <;> omega)

end Go.Proofs.YtnomcldpbkinmaaGreatDoor.Nz

/- The walks of name.Plain and of the document's own. -/
set_option linter.unusedSimpArgs false
set_option linter.unusedVariables false
namespace Go.Proofs.YtnomcldpbkinmaaGreatDoor.Nz
open Go.RowKit

def aP (l : List Int) : Bool := l.all (fun r => decide (Part r))
theorem drop_ne (s : ByteArray) (pos : Nat) (h : pos < s.size) : (bl s).drop pos ≠ [] := by
  intro h2
  have := congrArg List.length h2
  simp [bl_len] at this
  omega
theorem Rn_at (s : ByteArray) (pos : Nat) (h : pos < s.size) : Rn ((bl s).drop pos) = ((Utf8.decode s pos).1 : Int) :: Rn ((bl s).drop (pos + (Utf8.decode s pos).2)) := by
  rw [Rn_cons _ (drop_ne s pos h), ← dec_dN, List.drop_drop]
theorem Rn_end (s : ByteArray) (pos : Nat) (h : ¬ pos < s.size) : Rn ((bl s).drop pos) = [] := by
  rw [List.drop_of_length_le (by rw [bl_len]; omega)]
  rfl
theorem pl_first (s : ByteArray) (h : 0 < s.size) : pl (bl s) = (decide (Start ((Utf8.decode s 0).1 : Int)) && (decide (Part ((Utf8.decode s 0).1 : Int)) && aP (Rn ((bl s).drop (0 + (Utf8.decode s 0).2))))) := by
  have := Rn_at s 0 h
  rw [List.drop_zero] at this
  unfold pl aP
  rw [this]
  simp only [plR, List.all_cons]

theorem isE (s : ByteArray) : s.toList.isEmpty = decide (s.size = 0) := by
  rw [Lib.toList_data, Lib.size_eq]
  cases s.data.toList <;> simp

def PlRel (s : ByteArray) (w : World) (wr : World) : Prop :=
  ∃ pos : Nat, wr = w.iter s pos ∧ (pos = 0 ∨ (pos ≠ 0 ∧ s.size ≠ 0 ∧ pl (bl s) = aP (Rn ((bl s).drop pos))))

set_option maxHeartbeats 1000000 in
set_option maxRecDepth 100000 in
theorem plain_any (s : ByteArray) (w : World) :
    Calls Tryz.prog 125 #[.string s] w fun e w' => e = .returned (.bool (pl (bl s))) ∧ Below w.heap.size w w' := by
  have HB := Lib.hid (fun pos => (Below.refl w.heap.size w).alloc (Nat.le_refl _) (.stringIter s pos))
  have HF := Lib.hid (pl_first s)
  have HA := Lib.hid (Rn_at s)
  have HE := Lib.hid (Rn_end s)
  have HZ : Hid (s.size = 0 → pl (bl s) = false) := Lib.hid (fun h => by
    have : bl s = [] := List.eq_nil_of_length_eq_zero (by rw [bl_len]; exact h)
    rw [this]; rfl)
  obtain ⟨res, hres⟩ : ∃ res, res = pl (bl s) := ⟨_, rfl⟩
  have HRES := Lib.hid hres
  rw [← hres]
  clear hres
  go_enter Tryz.func125, Tryz.ntmps125
  go_wp2_with fail
  go_loopw [3, 4] (fun _ _ wr => PlRel s w wr) (fun _ _ wr => s.size - wr.iterPos w.heap.size)
  case atStart => exact ⟨0, rfl, .inl rfl⟩
  case round =>
    obtain ⟨pos, rfl, hq⟩ := hrel
    have HQ := Lib.hid hq
    clear hq
    by_cases hp : pos < s.size
    · have hnx : ∀ ty, (Instr.next (.pointer (some ⟨w.heap.size, 0, none⟩)) true ty).run Tryz.prog (w.iter s pos) = _ := fun ty => run_next_any w s pos ty hp
      have hwd := width_pos s pos hp
      have HR := Lib.hid (HA.out pos hp)
      by_cases h0 : pos = 0
      · have F0 := Lib.hid (HF.out (by omega))
        have c0 : ((pos : Int) == 0) = true := by simp [h0]
        have H0 := Lib.hid h0
        rw [← h0] at F0
        clear h0 HA HQ
        generalize (Utf8.decode s pos).1 = r at *
        generalize (Utf8.decode s pos).2 = d at *
        go_wp2_with (first | (go_at_call 155; refine (start_any _ _).mono ?_; rintro e w' ⟨rfl, rfl⟩) | (go_at_call 145; refine (part_any _ _).mono ?_; rintro e w' ⟨rfl, rfl⟩))
        all_goals first
          | (go_ret
             refine ⟨ret_bool ?_, HB.out _⟩
             have f0 := F0.out
             try rw [HR.out] at f0
             rw [HRES.out, f0]
             simp_all [aP])
          | (refine ⟨⟨pos + d, rfl, .inr ⟨by omega, by omega, ?_⟩⟩, by simp; omega⟩
             have f0 := F0.out
             try rw [HR.out] at f0
             rw [f0]
             simp_all [aP])
      · have Q := HQ.out
        have c0 : ((pos : Int) == 0) = false := by simp; omega
        have F0 : Hid (pl (bl s) = aP (Rn ((bl s).drop pos))) := Lib.hid (by rcases Q with h | h; exact absurd h h0; exact h.2.2)
        clear Q HA HQ
        generalize (Utf8.decode s pos).1 = r at *
        generalize (Utf8.decode s pos).2 = d at *
        go_wp2_with (first | (go_at_call 155; refine (start_any _ _).mono ?_; rintro e w' ⟨rfl, rfl⟩) | (go_at_call 145; refine (part_any _ _).mono ?_; rintro e w' ⟨rfl, rfl⟩))
        all_goals first
          | (go_ret
             refine ⟨ret_bool ?_, HB.out _⟩
             have f0 := F0.out
             try rw [HR.out] at f0
             rw [HRES.out, f0]
             simp_all [aP])
          | (refine ⟨⟨pos + d, rfl, .inr ⟨by omega, by omega, ?_⟩⟩, by simp; omega⟩
             have f0 := F0.out
             try rw [HR.out] at f0
             rw [f0]
             simp_all [aP])
    · have hnx : ∀ ty, (Instr.next (.pointer (some ⟨w.heap.size, 0, none⟩)) true ty).run Tryz.prog (w.iter s pos) = _ := fun ty => run_next_end w s pos ty hp
      go_wp2
      go_ret
      refine ⟨ret_bool ?_, HB.out pos⟩
      rw [HRES.out, isE]
      by_cases hz : s.size = 0
      · rw [HZ.out hz]
        simp [hz]
      · rcases HQ.out with h | h
        · omega
        · rw [h.2.2, HE.out pos hp]
          simp [hz, aP]

def RpRel (l : List Int) (i : Value) : Prop := ∃ k : Nat, k ≤ l.length ∧ i = .int .i64 k ∧ aP l = aP (l.drop k)
theorem aP_drop (l : List Int) (k : Nat) (h : k < l.length) : aP (l.drop k) = (decide (Part (l.getD k 0)) && aP (l.drop (k + 1))) := by
  rw [List.drop_eq_getElem_cons h, List.getD_eq_getElem?_getD, List.getElem?_eq_getElem h]
  unfold aP
  rw [List.all_cons]
  rfl
theorem rgo_range (s : ByteArray) : ∀ (b i : Nat) (x : Int), x ∈ rgo s b i → 0 ≤ x ∧ x ≤ 2147483647
  | 0, i, x, h => by simp [rgo] at h
  | b + 1, i, x, h => by
    unfold rgo at h
    split at h
    · rcases List.mem_cons.1 h with rfl | h
      · have := decode_le s i
        omega
      · exact rgo_range s b _ x h
    · simp at h
theorem plR_eq (l : List Int) (h : 0 < l.length) : plR l = (decide (Start (l.getD 0 0)) && aP l) := by
  cases l with
  | nil => simp at h
  | cons x l => simp [plR, aP]

theorem rst_t {r : Int} (h : Start r) (w : World) : Calls Tryz.prog 68 #[.int .i64 r] w fun e w' => e = .returned (.bool true) ∧ w = w' := (rstart_any r w).mono fun e w' ⟨h1, h2⟩ => ⟨by rw [h1, decide_eq_true h], h2⟩
theorem rst_f {r : Int} (h : ¬ Start r) (w : World) : Calls Tryz.prog 68 #[.int .i64 r] w fun e w' => e = .returned (.bool false) ∧ w = w' := (rstart_any r w).mono fun e w' ⟨h1, h2⟩ => ⟨by rw [h1, decide_eq_false h], h2⟩

set_option maxHeartbeats 1000000 in
set_option maxRecDepth 100000 in
theorem rplain_any (s : ByteArray) (hs : s.size ≤ 10000) (w : World) :
    Calls Tryz.prog 47 #[.string s] w fun e w' => e = .returned (.bool (pl (bl s))) ∧ Below w.heap.size w w' := by
  obtain ⟨c, w1, hcv, hb1, hzz, hcell⟩ := conv_runes w s hs
  have hln := runes_len s
  have HRG := Lib.hid (fun x (hx : x ∈ runes s) => rgo_range s s.size 0 x hx)
  have HP : Hid (pl (bl s) = plR (runes s)) := Lib.hid (by unfold pl; rw [runes_Rn])
  have HB := Lib.hid hb1
  have hsz := hb1.size
  clear hzz hb1
  generalize pl (bl s) = res at *
  generalize runes s = l at *
  obtain ⟨n, hn⟩ : ∃ n, n = l.length := ⟨_, rfl⟩
  rw [← hn] at hcv
  have hn1 : n ≤ l.length := by omega
  have hn2 : l.length ≤ n := by omega
  have hn3 : n ≤ 10000 := by omega
  clear hn
  by_cases hz : n = 0
  · have q0 : ((n : Int) == 0) = true := by simp [hz]
    have HL : Hid (l = []) := Lib.hid (List.eq_nil_of_length_eq_zero (by omega))
    clear hcell
    go_enter Tryz.func47, Tryz.ntmps47
    go_wp2_with fail
    go_ret
    refine ⟨ret_bool ?_, HB.out⟩
    rw [HP.out, HL.out]
    rfl
  · have q0 : ((n : Int) == 0) = false := by simp; omega
    have hc0 := hcell 0 (by omega)
    have HX := Lib.hid (plR_eq l (by omega))
    obtain ⟨hx0, hx1⟩ := HRG.out (l.getD 0 0) (by rw [List.getD_eq_getElem?_getD, List.getElem?_eq_getElem (by omega)]; exact List.getElem_mem _)
    have HCELL := Lib.hid hcell
    clear hcell
    generalize l.getD 0 0 = x0 at *
    have i0 : (0 : Int) < (n : Int) := by omega
    by_cases hS : Start x0
    · have CS := Lib.hid (fun W => rst_t hS W)
      have HST : Hid (decide (Start x0) = true) := Lib.hid (decide_eq_true hS)
      clear hS
      go_enter Tryz.func47, Tryz.ntmps47
      go_wp2_with (first | (go_at_call 68; refine (CS.out _).mono ?_; rintro e w' ⟨rfl, rfl⟩))
      go_loop [4] (fun i => RpRel l i) (fun i => l.length - (intOf i).toNat)
      case atStart => exact ⟨0, Nat.zero_le _, rfl, by simp⟩
      case round =>
        obtain ⟨k, hk, rfl, ho⟩ := hrel
        have HO := Lib.hid ho
        clear ho hc0
        by_cases hlt : k < n
        · have hc := HCELL.out k (by omega)
          have HT := Lib.hid (aP_drop l k (by omega))
          obtain ⟨hy0, hy1⟩ := HRG.out (l.getD k 0) (by rw [List.getD_eq_getElem?_getD, List.getElem?_eq_getElem (by omega)]; exact List.getElem_mem _)
          generalize l.getD k 0 = y at hc HT hy0 hy1
          clear hcv
          go_wp2_with (first | (go_at_call 66; refine (rpart_any _ _).mono ?_; rintro e w' ⟨rfl, rfl⟩))
          · go_ret
            refine ⟨ret_bool ?_, HB.out⟩
            rw [HP.out, HX.out, HO.out, HT.out]
            simp_all
          · refine ⟨⟨k + 1, by omega, by go_num, ?_⟩, by simp [intOf]; omega⟩
            rw [HO.out, HT.out]
            simp_all
        · clear hcv
          go_wp2_with fail
          go_ret
          refine ⟨ret_bool ?_, HB.out⟩
          have hkn : k = l.length := by omega
          rw [HP.out, HX.out, HST.out, HO.out, hkn, List.drop_length]
          rfl
    · have CS := Lib.hid (fun W => rst_f hS W)
      have HST : Hid (decide (Start x0) = false) := Lib.hid (decide_eq_false hS)
      clear hS
      go_enter Tryz.func47, Tryz.ntmps47
      go_wp2_with (first | (go_at_call 68; refine (CS.out _).mono ?_; rintro e w' ⟨rfl, rfl⟩))
      go_ret
      refine ⟨ret_bool ?_, HB.out⟩
      rw [HP.out, HX.out, HST.out]
      rfl
end Go.Proofs.YtnomcldpbkinmaaGreatDoor.Nz

/- The walk of name.Cut. -/
set_option linter.unusedSimpArgs false
set_option linter.unusedVariables false
namespace Go.Proofs.YtnomcldpbkinmaaGreatDoor.Nz
open Go.RowKit

/-- What stands from a place on, and the stretch of it. -/
def fr (s : ByteArray) (k : Nat) : ByteArray := s.extract k s.size
def sn (s : ByteArray) (k : Nat) : Nat := St ((bl s).drop k)
def sx (s : ByteArray) (k : Nat) : ByteArray := (fr s k).extract 0 (sn s k)

theorem bl_ext (s : ByteArray) (i j : Nat) : bl (s.extract i j) = ((bl s).drop i).take (j - i) := by
  simp [bl, ByteArray.data_extract, List.map_take, List.map_drop, List.extract_eq_take_drop]
theorem bl_fr (s : ByteArray) (k : Nat) : bl (fr s k) = (bl s).drop k := by
  rw [fr, bl_ext, List.take_of_length_le]
  simp [bl_len]
theorem bl_inj {a b : ByteArray} (h : bl a = bl b) : a = b := by
  have h1 : a.data.toList = b.data.toList := by
    unfold bl at h
    exact (List.map_inj_right (fun x y hxy => UInt8.toNat_inj.1 hxy)).1 h
  have h2 : a.data = b.data := by
    rw [← Array.toArray_toList (xs := a.data), h1, Array.toArray_toList]
  cases a; cases b; simp at h2; rw [h2]
theorem ext_all (u : ByteArray) (n : Nat) (h : u.size ≤ n) : u.extract 0 n = u := by
  apply bl_inj
  rw [bl_ext, List.drop_zero, List.take_of_length_le (by rw [bl_len]; omega)]
theorem fr_size (s : ByteArray) (k : Nat) : (fr s k).size = s.size - k := by
  rw [← bl_len, bl_fr, List.length_drop, bl_len]
theorem sn_le (s : ByteArray) (k : Nat) : sn s k ≤ s.size - k := by
  have := St_le _ ((bl s).drop k) (Nat.le_refl _)
  rw [List.length_drop, bl_len] at this
  exact this
theorem St_at (u : ByteArray) (pos : Nat) (h : pos < u.size) : St ((bl u).drop pos) = if Ok ((Utf8.decode u pos).1 : Int) then (Utf8.decode u pos).2 + St ((bl u).drop (pos + (Utf8.decode u pos).2)) else 0 := by
  rw [St_cons _ (drop_ne u pos h), ← dec_dN, List.drop_drop]
theorem St_end (u : ByteArray) (pos : Nat) (h : ¬ pos < u.size) : St ((bl u).drop pos) = 0 := by
  rw [List.drop_of_length_le (by rw [bl_len]; omega)]
  rfl

def CutRel (u : ByteArray) (m : Nat) (w : World) (wr : World) : Prop := ∃ pos : Nat, wr = w.iter u pos ∧ pos + St ((bl u).drop pos) = m ∧ pos ≤ u.size
theorem dec_le (u : ByteArray) (pos : Nat) (h : pos < u.size) : pos + (Utf8.decode u pos).2 ≤ u.size := by
  rw [dec_dN]
  have := (dN_width _ (drop_ne u pos h)).2
  rw [List.length_drop, bl_len] at this
  omega
theorem pt_t {r : Int} (h : Part r) (w : World) : Calls Tryz.prog 145 #[.int .i32 r] w fun e w' => e = .returned (.bool true) ∧ w = w' := (part_any r w).mono fun e w' ⟨h1, h2⟩ => ⟨by rw [h1, decide_eq_true h], h2⟩
theorem pt_f {r : Int} (h : ¬ Part r) (w : World) : Calls Tryz.prog 145 #[.int .i32 r] w fun e w' => e = .returned (.bool false) ∧ w = w' := (part_any r w).mono fun e w' ⟨h1, h2⟩ => ⟨by rw [h1, decide_eq_false h], h2⟩
theorem ret_two {a b : ByteArray} {x y : Int} (h : a = b) (h2 : x = y) : Ending.returned (.tuple #[.string a, .int .i64 x]) = .returned (.tuple #[.string b, .int .i64 y]) := by rw [h, h2]

set_option maxHeartbeats 1000000 in
set_option maxRecDepth 100000 in
theorem cut_any (s : ByteArray) (k : Nat) (hs : s.size ≤ 1000000) (hk : k ≤ s.size) (w : World) :
    Calls Tryz.prog 118 #[.string s, .int .i64 k] w fun e w' => e = .returned (.tuple #[.string (sx s k), .int .i64 ((k : Int) + (sn s k : Int))]) ∧ Below w.heap.size w w' := by
  have b1 : decide ((k : Int) < 0) = false := by simp
  have b2 : decide ((s.size : Int) < (k : Int)) = false := by simp; omega
  have b3 : decide (s.size < k) = false := by simp; omega
  have i1 : (0 : Int) ≤ (k : Int) := by omega
  have i2 : (k : Int) ≤ (s.size : Int) := by omega
  have hu : fr s k = s.extract k s.size := rfl
  have hz := fr_size s k
  have HM : Hid (sn s k = St (bl (fr s k))) := Lib.hid (by rw [sn, bl_fr])
  have HX : Hid (sx s k = (fr s k).extract 0 (sn s k)) := Lib.hid rfl
  generalize sx s k = res at *
  generalize sn s k = m at *
  go_enter Tryz.func118, Tryz.ntmps118
  go_wp2_with fail
  rw [← hu]
  clear hu
  generalize fr s k = u at *
  have HB := Lib.hid (fun pos => (Below.refl w.heap.size w).alloc (Nat.le_refl _) (.stringIter u pos))
  have HA := Lib.hid (St_at u)
  have HE := Lib.hid (St_end u)
  have HD := Lib.hid (dec_le u)
  go_loopw [7, 8] (fun _ _ wr => CutRel u m w wr) (fun _ _ wr => u.size - wr.iterPos w.heap.size)
  case atStart => exact ⟨0, rfl, by rw [HM.out, List.drop_zero]; omega, by omega⟩
  case round =>
    obtain ⟨pos, rfl, hq, hpl⟩ := hrel
    have HQ := Lib.hid hq
    clear hq
    by_cases hp : pos < u.size
    · have hnx : ∀ ty, (Instr.next (.pointer (some ⟨w.heap.size, 0, none⟩)) true ty).run Tryz.prog (w.iter u pos) = _ := fun ty => run_next_any w u pos ty hp
      have hwd := width_pos u pos hp
      have HR := Lib.hid (HA.out pos hp)
      have hd := HD.out pos hp
      have i3 : (0 : Int) ≤ (pos : Int) := by omega
      have i4 : (pos : Int) ≤ (u.size : Int) := by omega
      clear HA HD
      generalize (Utf8.decode u pos).1 = r at *
      generalize (Utf8.decode u pos).2 = d at *
      by_cases h58 : (r : Int) = 58
      · have c1 : ((r : Int) != 58) = false := by simp [h58]
        have HO : Hid (Ok (r : Int)) := Lib.hid (.inl h58)
        clear h58
        go_wp2_with fail
        go_roundw
        case rel =>
          refine ⟨pos + d, rfl, ?_, hd⟩
          have q := HQ.out
          rw [HR.out, if_pos HO.out] at q
          omega
        case measure => simp; omega
      · have c1 : ((r : Int) != 58) = true := by simp [h58]
        by_cases hP : Part (r : Int)
        · have HO : Hid (Ok (r : Int)) := Lib.hid (.inr hP)
          have CP := Lib.hid (fun W => pt_t hP W)
          clear h58 hP
          go_wp2_with (first | (go_at_call 145; refine (CP.out _).mono ?_; rintro e w' ⟨rfl, rfl⟩))
          go_roundw
          case rel =>
            refine ⟨pos + d, rfl, ?_, hd⟩
            have q := HQ.out
            rw [HR.out, if_pos HO.out] at q
            omega
          case measure => simp; omega
        · have HO : Hid (¬ Ok (r : Int)) := Lib.hid (by rintro (h | h); exact h58 h; exact hP h)
          have CP := Lib.hid (fun W => pt_f hP W)
          clear h58 hP
          go_wp2_with (first | (go_at_call 145; refine (CP.out _).mono ?_; rintro e w' ⟨rfl, rfl⟩))
          go_ret2
          have q := HQ.out
          rw [HR.out, if_neg HO.out] at q
          refine ⟨ret_two ?_ ?_, HB.out _⟩
          · rw [HX.out, ← q]
            rfl
          · omega
    · have hnx : ∀ ty, (Instr.next (.pointer (some ⟨w.heap.size, 0, none⟩)) true ty).run Tryz.prog (w.iter u pos) = _ := fun ty => run_next_end w u pos ty hp
      go_wp2
      go_ret2
      have q := HQ.out
      rw [HE.out pos hp] at q
      have hm : m = u.size := by omega
      refine ⟨ret_two ?_ ?_, HB.out pos⟩
      · rw [HX.out, ext_all _ _ (by omega)]
      · omega

end Go.Proofs.YtnomcldpbkinmaaGreatDoor.Nz

/- The walk of strings.Cut at a colon. -/
set_option linter.unusedSimpArgs false
set_option linter.unusedVariables false
namespace Go.Proofs.YtnomcldpbkinmaaGreatDoor.Nz
open Go.RowKit

theorem below_drewN {B : Nat} {w w' : World} (h : Below B w w') (n : Nat) : Below B w (w'.drewN n) := ⟨h.os, h.tape, h.output, h.size, h.block⟩

/-- Where the first colon stands. -/
def ci (s : ByteArray) : Int := Lib.indexByte s.data.toList 58
theorem ib_cases : ∀ (l : List UInt8), (Lib.indexByte l 58 = -1 ∧ 58 ∉ l.map UInt8.toNat) ∨
    ∃ i : Nat, Lib.indexByte l 58 = i ∧ i < l.length ∧ l.map UInt8.toNat = (l.map UInt8.toNat).take i ++ 58 :: (l.map UInt8.toNat).drop (i + 1) ∧ 58 ∉ (l.map UInt8.toNat).take i
  | [] => .inl ⟨rfl, by simp⟩
  | b :: l => by
    unfold Lib.indexByte
    by_cases hb : b = 58
    · subst hb
      exact .inr ⟨0, by simp, by simp, by simp, by simp⟩
    · have hb1 : (b == 58) = false := by simpa using hb
      have hb2 : b.toNat ≠ 58 := fun h => hb (UInt8.toNat_inj.1 (by rw [h]; rfl))
      rw [hb1]
      rcases ib_cases l with ⟨h1, h2⟩ | ⟨i, h1, h2, h3, h4⟩
      · refine .inl ⟨by rw [h1]; rfl, ?_⟩
        rw [List.map_cons, List.mem_cons]
        rintro (h | h)
        · exact hb2 h.symm
        · exact h2 h
      · refine .inr ⟨i + 1, ?_, by simp; omega, ?_, ?_⟩
        · rw [h1]
          have : (((i : Int)) == -1) = false := by rw [beq_eq_false_iff_ne]; omega
          simp [this]
        · rw [List.map_cons, List.take_succ_cons, List.drop_succ_cons, List.cons_append, ← h3]
        · rw [List.map_cons, List.take_succ_cons, List.mem_cons]
          rintro (h | h)
          · exact hb2 h.symm
          · exact h4 h
theorem ci_cases (s : ByteArray) : (ci s = -1 ∧ 58 ∉ bl s) ∨ ∃ i : Nat, ci s = i ∧ i < s.size ∧ bl s = (bl s).take i ++ 58 :: (bl s).drop (i + 1) ∧ 58 ∉ (bl s).take i := by
  have := ib_cases s.data.toList
  rw [← Lib.size_eq] at this
  exact this

def em : ByteArray := ⟨#[]⟩
/-- What Split answers. -/
def splitA (s : ByteArray) : ByteArray × ByteArray × Bool :=
  if ci s = -1 then (if pl (bl s) = true then (em, s, true) else (em, em, false))
  else if pl (bl (s.extract 0 (ci s).toNat)) = true ∧ pl (bl (s.extract ((ci s).toNat + 1) s.size)) = true then (s.extract 0 (ci s).toNat, s.extract ((ci s).toNat + 1) s.size, true) else (em, em, false)
theorem bl_pre (s : ByteArray) (i : Nat) : bl (s.extract 0 i) = (bl s).take i := by rw [bl_ext]; simp
theorem bl_post (s : ByteArray) (i : Nat) : bl (s.extract i s.size) = (bl s).drop i := bl_fr s i

set_option maxHeartbeats 400000 in
set_option maxRecDepth 100000 in
theorem idxb_any (s : ByteArray) (c : Int) (w : World) :
    Calls Tryz.prog 137 #[.string s, .int .u8 c] w fun e w' => e = .returned (.int .i64 (Lib.indexByte s.data.toList c.toNat.toUInt8)) ∧ w = w' := by
  go_enter Tryz.func137, Tryz.ntmps137
  go_wp2
  rw [run_callFunc_extern Tryz.func168 (by kernel_rfl) (by kernel_rfl) (by kernel_rfl) (e := Extern.BytealgIndexByte.indexByte) (by kernel_rfl), Lib.run_indexByteString]
  simp only [Result.andThen]
  rw [Oper.upon_value]
  go_wp2
  go_ret
  exact ⟨rfl, rfl⟩

set_option maxHeartbeats 1000000 in
set_option maxRecDepth 100000 in
theorem idx_any (s : ByteArray) (w : World) :
    Calls Tryz.prog 113 #[.string s, .string ⟨#[58]⟩] w fun e w' => e = .returned (.int .i64 (ci s)) ∧ w = w' := by
  go_enter Tryz.func113, Tryz.ntmps113
  go_wp2_with (go_at_call 137; refine (idxb_any _ _ _).mono ?_; rintro e w' ⟨rfl, rfl⟩)
  · have h : ([58] == s.toList) = true := by assumption
    go_ret
    refine ⟨?_, rfl⟩
    have e : s.data.toList = [58] := by rw [← Lib.toList_data]; exact (beq_iff_eq.1 h).symm
    unfold ci
    rw [e]
    rfl
  · go_ret
    exact ⟨rfl, rfl⟩
set_option maxHeartbeats 1000000 in
set_option maxRecDepth 100000 in
theorem lcut_hit (s : ByteArray) (i : Nat) (h : ci s = i) (hi : i < s.size) (hs : s.size ≤ 1000000) (w : World) :
    Calls Tryz.prog 154 #[.string s, .string ⟨#[58]⟩] w fun e w' => e = .returned (.tuple #[.string (s.extract 0 i), .string (s.extract (i + 1) s.size), .bool true]) ∧ Below w.heap.size w w' := by
  have CI := Lib.hid (idx_any s)
  rw [h] at CI
  clear h
  have c1 : (0 : Int) ≤ (i : Int) := by omega
  have c2 : (i : Int) ≤ (s.size : Int) := by omega
  have c3 : (0 : Int) ≤ (i : Int) + 1 := by omega
  have c4 : (i : Int) + 1 ≤ (s.size : Int) := by omega
  have c5 : decide ((0 : Int) ≤ (i : Int)) = true := by simp
  have q3 : ((i : Int) + 1).toNat = i + 1 := by omega
  have q2 : IntKind.i64.wrap ((i : Int) + 1) = (i : Int) + 1 := IntWalk.i64_in _ (by omega)
  go_enter Tryz.func154, Tryz.ntmps154
  go_wp2_with (go_at_call 113; refine (CI.out _).mono ?_; rintro e w' ⟨rfl, rfl⟩)
  go_quiet (fail)
  go_wp2
  go_ret3
  exact ⟨rfl, below_drewN (Below.refl _ _) _⟩

set_option maxHeartbeats 1000000 in
set_option maxRecDepth 100000 in
theorem lcut_miss (s : ByteArray) (h : ci s = -1) (w : World) :
    Calls Tryz.prog 154 #[.string s, .string ⟨#[58]⟩] w fun e w' => e = .returned (.tuple #[.string s, .string ⟨#[]⟩, .bool false]) ∧ Below w.heap.size w w' := by
  have CI := Lib.hid (idx_any s)
  rw [h] at CI
  clear h
  go_enter Tryz.func154, Tryz.ntmps154
  go_wp2_with (go_at_call 113; refine (CI.out _).mono ?_; rintro e w' ⟨rfl, rfl⟩)
  go_ret3
  exact ⟨rfl, Below.refl _ _⟩

set_option maxHeartbeats 1000000 in
set_option maxRecDepth 100000 in
theorem scut_hit (s : ByteArray) (i : Nat) (h : ci s = i) (hi : i < s.size) (hs : s.size ≤ 1000000) (w : World) :
    Calls Tryz.prog 123 #[.string s, .string ⟨#[58]⟩] w fun e w' => e = .returned (.tuple #[.string (s.extract 0 i), .string (s.extract (i + 1) s.size), .bool true]) ∧ Below w.heap.size w w' := by
  have CL := Lib.hid (lcut_hit s i h hi hs)
  clear h hi hs
  go_enter Tryz.func123, Tryz.ntmps123
  go_wp2_with (go_at_call 154; refine (CL.out _).mono ?_; rintro e w' ⟨rfl, hb⟩)
  go_ret3
  exact ⟨rfl, hb⟩
set_option maxHeartbeats 1000000 in
set_option maxRecDepth 100000 in
theorem scut_miss (s : ByteArray) (h : ci s = -1) (w : World) :
    Calls Tryz.prog 123 #[.string s, .string ⟨#[58]⟩] w fun e w' => e = .returned (.tuple #[.string s, .string ⟨#[]⟩, .bool false]) ∧ Below w.heap.size w w' := by
  have CL := Lib.hid (lcut_miss s h)
  clear h
  go_enter Tryz.func123, Tryz.ntmps123
  go_wp2_with (go_at_call 154; refine (CL.out _).mono ?_; rintro e w' ⟨rfl, hb⟩)
  go_ret3
  exact ⟨rfl, hb⟩

end Go.Proofs.YtnomcldpbkinmaaGreatDoor.Nz
