/-
  Merged by program out of the texts NzConv, NzRune, NzNm, NzRef of one seat.
-/
import Derived.Test.YtmbghdpoeahnaaaGreatDoorG14
import Derived.Laws.RangeAny
import Derived.Laws.Cover4
import Derived.Lib.Hide
import Derived.Lib.DecodeN
import Derived.Lib.Bytealg

/- []rune(s) in memory: a slice that reads as the text's runes. -/
set_option linter.unusedSimpArgs false
set_option linter.unusedVariables false
namespace Go.Proofs.YtmbghdpoeahnaaaGreatDoor.Nz
open Go.RowKit

/-- A text's runes from a place on. -/
def rgo (s : ByteArray) : Nat → Nat → List Int
  | 0, _ => []
  | f + 1, i => if i < s.size then ((Utf8.decode s i).1 : Int) :: rgo s f (i + (Utf8.decode s i).2) else []
def runes (s : ByteArray) : List Int := rgo s s.size 0

theorem width_pos (s : ByteArray) (pos : Nat) (h : pos < s.size) : 1 ≤ (Utf8.decode s pos).2 := by
  by_cases ha : (s[pos]'h).toNat < 128
  · rw [decode_ascii s pos h ha]
    exact Nat.le_refl _
  · exact (decode_high s pos h (by omega)).2
theorem rgo_end (s : ByteArray) (b pos : Nat) (h : ¬ pos < s.size) : rgo s b pos = [] := by
  cases b with
  | zero => rfl
  | succ b => simp [rgo, h]
theorem Blk0 (w : World) (t : TypeId) (cs : Array Value) (i : Nat) : (w.alloc (.cells cs t)).cell? ⟨w.heap.size, i, none⟩ = cs[i]? := World.cell?_alloc_mark w cs t (0, 0) i
theorem runesFrom_eq (s : ByteArray) : ∀ (b i : Nat) (acc : Array Value), Conv.runesFrom s b i acc = acc ++ ((rgo s b i).map (Value.int .i32)).toArray
  | 0, i, acc => by simp [Conv.runesFrom, rgo]
  | b + 1, i, acc => by
    unfold Conv.runesFrom rgo
    by_cases h : i < s.size
    · simp only [h, if_true]
      rw [runesFrom_eq s b]
      simp
    · simp [h]
theorem runesFrom_runes (s : ByteArray) : Conv.runesFrom s s.size 0 #[] = ((runes s).map (Value.int .i32)).toArray := by
  rw [runesFrom_eq]
  simp [runes]
theorem rgo_len (s : ByteArray) : ∀ (b i : Nat), (rgo s b i).length ≤ b
  | 0, i => by simp [rgo]
  | b + 1, i => by
    unfold rgo
    split
    · have := rgo_len s b (i + (Utf8.decode s i).2)
      simp only [List.length_cons]
      omega
    · simp
theorem runes_len (s : ByteArray) : (runes s).length ≤ s.size := rgo_len s s.size 0

/-- What '[]rune(s)' leaves. -/
def ConvPost (w : World) (s : ByteArray) (c : Nat) (w1 : World) : Prop :=
  (convert 9 49 (.string s)).run Tryz.prog w = .ok (.slice (some ⟨w.heap.size, 0, none⟩) (runes s).length c) w1 ∧ Below w.heap.size w w1 ∧ w1.heap.size = w.heap.size + 1 ∧
    ∀ j, j < (runes s).length → w1.cell? ⟨w.heap.size, j, none⟩ = some (.int .i32 ((runes s).getD j 0))
theorem conv_runes (w : World) (s : ByteArray) (hs : s.size ≤ 1000) : ∃ c w1, ConvPost w s c w1 := by
  have hl := runes_len s
  have hrun := run_runes_of_string (P := Tryz.prog) w 9 49 21 s Tryz.underlying9 Tryz.underlying49 Tryz.underlying21 (by rw [runesFrom_runes]; simp; omega)
  rw [runesFrom_runes] at hrun
  have hz : ((runes s).map (Value.int .i32)).toArray.size = (runes s).length := by simp
  rw [hz] at hrun
  refine ⟨_, _, hrun, ((Below.refl _ w).drew).alloc (Nat.le_refl _) _, by simp, fun j hj => ?_⟩
  have hb := Blk0 w.drew 21 (((runes s).map (Value.int .i32)).toArray ++ Array.replicate (grownCap w (runes s).length 0 21 - (runes s).length) (.int .i32 0)) j
  refine hb.trans ?_
  rw [Array.getElem?_append_left (by simpa using hj)]
  simp [List.getElem?_eq_getElem hj]
end Go.Proofs.YtmbghdpoeahnaaaGreatDoor.Nz

/- Plain mathematics: a text's runes, over its bytes as a list: what a blank between, and what is encoded, is decoded to. -/
set_option linter.unusedSimpArgs false
set_option linter.unusedVariables false
namespace Go.Proofs.YtmbghdpoeahnaaaGreatDoor.Nz
open Go.RowKit

def bl (s : ByteArray) : List Nat := s.data.toList.map UInt8.toNat
def dN (L : List Nat) : Nat × Nat := Lib.decodeN L.length (L.getD 0 0) (L.getD 1 0) (L.getD 2 0) (L.getD 3 0)
def rl : Nat → List Nat → List Int
  | 0, _ => []
  | f + 1, L => if L = [] then [] else ((dN L).1 : Int) :: rl f (L.drop (dN L).2)
def Rn (L : List Nat) : List Int := rl L.length L

theorem bl_len (s : ByteArray) : (bl s).length = s.size := by simp [bl]
theorem bl_app (a b : ByteArray) : bl (a ++ b) = bl a ++ bl b := by
  simp [bl, ByteArray.data_append]
theorem get_bl (s : ByteArray) (i k : Nat) : (s.get! (i + k)).toNat = ((bl s).drop i).getD k 0 := by
  rw [List.getD_eq_getElem?_getD, List.getElem?_drop]
  unfold bl
  rw [List.getElem?_map]
  show (s.data[i + k]!).toNat = _
  by_cases h : i + k < s.data.size
  · rw [getElem!_pos s.data (i + k) h]
    rw [Array.getElem?_toList, Array.getElem?_eq_getElem h]
    rfl
  · rw [getElem!_neg s.data (i + k) h, Array.getElem?_toList, Array.getElem?_eq_none (by omega)]
    rfl
theorem dec_dN (s : ByteArray) (i : Nat) : Utf8.decode s i = dN ((bl s).drop i) := by
  rw [Lib.decode_at]
  unfold dN
  rw [List.length_drop, bl_len, ← get_bl s i 0, ← get_bl s i 1, ← get_bl s i 2, ← get_bl s i 3]
  rfl

theorem dN_width (L : List Nat) (h : L ≠ []) : 1 ≤ (dN L).2 ∧ (dN L).2 ≤ L.length := by
  have hl : 1 ≤ L.length := List.length_pos_iff.2 h
  unfold dN Lib.decodeN
  repeat' split
  all_goals refine ⟨?_, ?_⟩ <;> simp <;> omega
theorem dN_valid (L : List Nat) : ((dN L).1 < 55296 ∨ (57344 ≤ (dN L).1 ∧ (dN L).1 ≤ 1114111)) := by
  unfold dN
  generalize L.getD 0 0 = a
  generalize L.getD 1 0 = b
  generalize L.getD 2 0 = c
  generalize L.getD 3 0 = d
  unfold Lib.decodeN
  repeat' split
  all_goals dsimp only <;> omega

theorem rl_nil (f : Nat) : rl f [] = [] := by cases f <;> simp [rl]
theorem rl_fuel : ∀ (f g : Nat) (L : List Nat), L.length ≤ f → L.length ≤ g → rl f L = rl g L
  | 0, g, L, h1, h2 => by
    have : L = [] := List.eq_nil_of_length_eq_zero (by omega)
    subst this
    rw [rl_nil, rl_nil]
  | f + 1, 0, L, h1, h2 => by
    have : L = [] := List.eq_nil_of_length_eq_zero (by omega)
    subst this
    rw [rl_nil, rl_nil]
  | f + 1, g + 1, L, h1, h2 => by
    by_cases h : L = []
    · subst h; rw [rl_nil, rl_nil]
    · have hw := dN_width L h
      simp only [rl, h, if_false]
      rw [rl_fuel f g (L.drop (dN L).2) (by simp; omega) (by simp; omega)]
theorem Rn_nil : Rn [] = [] := rfl
theorem Rn_cons (L : List Nat) (h : L ≠ []) : Rn L = ((dN L).1 : Int) :: Rn (L.drop (dN L).2) := by
  have hl : 1 ≤ L.length := List.length_pos_iff.2 h
  have hw := dN_width L h
  unfold Rn
  obtain ⟨f, hf⟩ : ∃ f, L.length = f + 1 := ⟨L.length - 1, by omega⟩
  rw [hf]
  simp only [rl, h, if_false]
  rw [rl_fuel f (L.drop (dN L).2).length (L.drop (dN L).2) (by simp; omega) (Nat.le_refl _)]
theorem rgo_rl (s : ByteArray) : ∀ (b i : Nat), rgo s b i = rl b ((bl s).drop i)
  | 0, i => rfl
  | b + 1, i => by
    unfold rgo rl
    by_cases h : i < s.size
    · have hne : (bl s).drop i ≠ [] := by
        intro h2
        have := congrArg List.length h2
        simp [bl_len] at this
        omega
      rw [if_pos h, if_neg hne, rgo_rl s b, dec_dN, List.drop_drop]
    · have he : (bl s).drop i = [] := by
        rw [List.drop_eq_nil_iff, bl_len]
        omega
      rw [if_neg h, if_pos he]
theorem runes_Rn (s : ByteArray) : runes s = Rn (bl s) := by
  unfold runes Rn
  rw [rgo_rl, List.drop_zero, bl_len]

set_option maxHeartbeats 1000000 in
set_option maxRecDepth 100000 in
theorem dN_blank (A B : List Nat) (h : A ≠ []) : dN (A ++ 32 :: B) = dN A := by
  match A, h with
  | [a], _ =>
    simp only [dN, Lib.decodeN, List.cons_append, List.nil_append, List.getD_cons_zero, List.getD_cons_succ, List.length_cons, List.length_nil, List.getD_nil]
    repeat' split
    all_goals first | (exfalso; omega) | rfl
  | [a, b], _ =>
    simp only [dN, Lib.decodeN, List.cons_append, List.nil_append, List.getD_cons_zero, List.getD_cons_succ, List.length_cons, List.length_nil, List.getD_nil]
    repeat' split
    all_goals first | (exfalso; omega) | rfl
  | [a, b, c], _ =>
    simp only [dN, Lib.decodeN, List.cons_append, List.nil_append, List.getD_cons_zero, List.getD_cons_succ, List.length_cons, List.length_nil, List.getD_nil]
    repeat' split
    all_goals first | (exfalso; omega) | rfl
  | a :: b :: c :: d :: A', _ =>
    simp only [dN, Lib.decodeN, List.cons_append, List.nil_append, List.getD_cons_zero, List.getD_cons_succ, List.length_cons, List.length_append]
    repeat' split
    all_goals first | (exfalso; omega) | rfl
theorem Rn_blank : ∀ (n : Nat) (A B : List Nat), A.length ≤ n → Rn (A ++ 32 :: B) = Rn A ++ 32 :: Rn B
  | n, A, B, hn => by
    by_cases h : A = []
    · subst h
      rw [List.nil_append, Rn_nil, List.nil_append, Rn_cons _ (by simp)]
      have : dN (32 :: B) = (32, 1) := by simp [dN, Lib.decodeN]
      rw [this]
      rfl
    · have hl : 1 ≤ A.length := List.length_pos_iff.2 h
      have hw := dN_width A h
      match n with
      | 0 => omega
      | n + 1 =>
        rw [Rn_cons (A ++ 32 :: B) (by simp), dN_blank A B h, Rn_cons A h, List.drop_append_of_le_length hw.2, Rn_blank n (A.drop (dN A).2) B (by simp; omega)]
        rfl

def Val (x : Int) : Prop := (0 ≤ x ∧ x < 55296) ∨ (57344 ≤ x ∧ x ≤ 1114111)
theorem val_utf {x : Int} (h : Val x) : Utf8.valid x = true := by
  rw [validRune_eq]
  unfold Val at h
  unfold validRune
  refine decide_eq_true ?_
  omega
theorem Rn_val : ∀ (n : Nat) (L : List Nat), L.length ≤ n → ∀ x ∈ Rn L, Val x
  | n, L, hn, x, hx => by
    by_cases h : L = []
    · subst h; simp [Rn_nil] at hx
    · have hl : 1 ≤ L.length := List.length_pos_iff.2 h
      have hw := dN_width L h
      match n with
      | 0 => omega
      | n + 1 =>
        rw [Rn_cons L h] at hx
        rcases List.mem_cons.1 hx with rfl | hx
        · have := dN_valid L
          unfold Val
          omega
        · exact Rn_val n _ (by simp; omega) x hx

set_option maxHeartbeats 1000000 in
theorem dN_enc (x : Int) (T : List Nat) (h : Val x) : dN (bl (Utf8.encode x) ++ T) = (x.toNat, (bl (Utf8.encode x)).length) := by
  have hv := val_utf h
  obtain ⟨c, rfl⟩ : ∃ c : Nat, x = c := ⟨x.toNat, by unfold Val at h; omega⟩
  have hc : c < 55296 ∨ (57344 ≤ c ∧ c ≤ 1114111) := by unfold Val at h; omega
  unfold Utf8.encode
  simp only [hv, if_true, Int.toNat_natCast]
  by_cases h1 : c < 128
  · simp only [h1, if_true]
    simp [bl, dN, Lib.decodeN]
    rw [show c % 256 = c by omega]
    repeat' split
    all_goals first | (exfalso; omega) | (simp; omega) | simp
  · by_cases h2 : c < 2048
    · simp only [h1, h2, if_true, if_false]
      simp [bl, dN, Lib.decodeN]
      rw [show (192 + c / 64) % 256 = 192 + c / 64 by omega, show (128 + c % 64) % 256 = 128 + c % 64 by omega]
      repeat' split
      all_goals first | (exfalso; omega) | (simp; omega)
    · by_cases h3 : c < 65536
      · simp only [h1, h2, h3, if_true, if_false]
        simp [bl, dN, Lib.decodeN]
        rw [show (224 + c / 4096) % 256 = 224 + c / 4096 by omega, show (128 + c / 64 % 64) % 256 = 128 + c / 64 % 64 by omega, show (128 + c % 64) % 256 = 128 + c % 64 by omega]
        repeat' split
        all_goals first | (exfalso; omega) | (simp; omega)
      · simp only [h1, h2, h3, if_true, if_false]
        simp [bl, dN, Lib.decodeN]
        rw [show (240 + c / 262144) % 256 = 240 + c / 262144 by omega, show (128 + c / 4096 % 64) % 256 = 128 + c / 4096 % 64 by omega, show (128 + c / 64 % 64) % 256 = 128 + c / 64 % 64 by omega, show (128 + c % 64) % 256 = 128 + c % 64 by omega]
        repeat' split
        all_goals first | (exfalso; omega) | (simp; omega)
theorem enc_ne (x : Int) : bl (Utf8.encode x) ≠ [] := by
  unfold Utf8.encode
  simp only
  repeat' split
  all_goals simp [bl]
theorem Rn_enc (x : Int) (T : List Nat) (h : Val x) : Rn (bl (Utf8.encode x) ++ T) = x :: Rn T := by
  rw [Rn_cons _ (by simp [enc_ne]), dN_enc x T h]
  have : ((x.toNat : Nat) : Int) = x := by unfold Val at h; omega
  simp [this]
theorem Rn_encs : ∀ (l : List Int) (T : List Nat), (∀ x ∈ l, Val x) → Rn (l.flatMap (fun x => bl (Utf8.encode x)) ++ T) = l ++ Rn T
  | [], T, h => rfl
  | x :: l, T, h => by
    rw [List.flatMap_cons, List.append_assoc, Rn_enc x _ (h x (by simp)), Rn_encs l T (fun y hy => h y (by simp [hy]))]
    rfl
theorem bl_fold (l : List Int) : ∀ s : ByteArray, bl (l.foldl (fun r n => r ++ Utf8.encode n) s) = bl s ++ l.flatMap (fun x => bl (Utf8.encode x)) := by
  induction l with
  | nil => intro s; simp
  | cons x l ih =>
    intro s
    rw [List.foldl_cons, ih, bl_app, List.flatMap_cons, List.append_assoc]
theorem bl_runesBytes (l : List Int) : bl (runesBytes l) = l.flatMap (fun x => bl (Utf8.encode x)) := by
  unfold runesBytes
  rw [bl_fold]
  rfl

theorem runes_val (s : ByteArray) : ∀ x ∈ runes s, Val x := by
  rw [runes_Rn]
  exact Rn_val _ _ (Nat.le_refl _)
theorem runes_blank (s t : ByteArray) : runes (s ++ ⟨#[32]⟩ ++ t) = runes s ++ 32 :: runes t := by
  rw [runes_Rn, runes_Rn, runes_Rn, bl_app, bl_app, List.append_assoc]
  have : bl ⟨#[32]⟩ = [32] := rfl
  rw [this]
  exact Rn_blank _ _ _ (Nat.le_refl _)
theorem runes_back (s t : ByteArray) : runes (runesBytes (runes s) ++ runesBytes (runes t)) = runes s ++ runes t := by
  rw [runes_Rn (runesBytes (runes s) ++ runesBytes (runes t)), bl_app, bl_runesBytes, bl_runesBytes, Rn_encs _ _ (runes_val s)]
  have := Rn_encs (runes t) [] (runes_val t)
  rw [List.append_nil, Rn_nil, List.append_nil] at this
  rw [this]
end Go.Proofs.YtmbghdpoeahnaaaGreatDoor.Nz

/- Plain mathematics: plain names, the stretch of a name, the first colon, over a text's bytes as a list. -/
set_option linter.unusedSimpArgs false
set_option linter.unusedVariables false
namespace Go.Proofs.YtmbghdpoeahnaaaGreatDoor.Nz
open Go.RowKit

/-- May the rune stand in a stretch: in a name, or as a colon. -/
def Ok (r : Int) : Prop := r = 58 ∨ Part r
instance (r : Int) : Decidable (Ok r) := inferInstanceAs (Decidable (r = 58 ∨ Part r))

/-- A plain name, of its runes. -/
def plR : List Int → Bool
  | [] => false
  | x :: l => decide (Start x) && (x :: l).all (fun r => decide (Part r))
def pl (L : List Nat) : Bool := plR (Rn L)

/-- How many bytes the stretch has that stands first. -/
def sp : Nat → List Nat → Nat
  | 0, _ => 0
  | f + 1, L => if L = [] then 0 else if Ok ((dN L).1 : Int) then (dN L).2 + sp f (L.drop (dN L).2) else 0
def St (L : List Nat) : Nat := sp L.length L

theorem sp_nil (f : Nat) : sp f [] = 0 := by cases f <;> simp [sp]
theorem sp_fuel : ∀ (f g : Nat) (L : List Nat), L.length ≤ f → L.length ≤ g → sp f L = sp g L
  | 0, g, L, h1, h2 => by
    have : L = [] := List.eq_nil_of_length_eq_zero (by omega)
    subst this
    rw [sp_nil, sp_nil]
  | f + 1, 0, L, h1, h2 => by
    have : L = [] := List.eq_nil_of_length_eq_zero (by omega)
    subst this
    rw [sp_nil, sp_nil]
  | f + 1, g + 1, L, h1, h2 => by
    by_cases h : L = []
    · subst h; rw [sp_nil, sp_nil]
    · have hw := dN_width L h
      simp only [sp, h, if_false]
      rw [sp_fuel f g (L.drop (dN L).2) (by simp; omega) (by simp; omega)]
theorem St_nil : St [] = 0 := rfl
theorem St_cons (L : List Nat) (h : L ≠ []) : St L = if Ok ((dN L).1 : Int) then (dN L).2 + St (L.drop (dN L).2) else 0 := by
  have hl : 1 ≤ L.length := List.length_pos_iff.2 h
  have hw := dN_width L h
  unfold St
  obtain ⟨f, hf⟩ : ∃ f, L.length = f + 1 := ⟨L.length - 1, by omega⟩
  rw [hf]
  simp only [sp, h, if_false]
  rw [sp_fuel f (L.drop (dN L).2).length (L.drop (dN L).2) (by simp; omega) (Nat.le_refl _)]
theorem St_le : ∀ (n : Nat) (L : List Nat), L.length ≤ n → St L ≤ L.length
  | n, L, hn => by
    by_cases h : L = []
    · subst h; rw [St_nil]; exact Nat.zero_le _
    · have hl : 1 ≤ L.length := List.length_pos_iff.2 h
      have hw := dN_width L h
      match n with
      | 0 => omega
      | n + 1 =>
        rw [St_cons L h]
        split
        · have := St_le n (L.drop (dN L).2) (by simp; omega)
          simp at this
          omega
        · omega

set_option maxHeartbeats 1000000 in
set_option maxRecDepth 100000 in
/-- A byte below 80 ends what stands ahead of it. -/
theorem dN_asc (A B : List Nat) (c : Nat) (hc : c < 128) (h : A ≠ []) : dN (A ++ c :: B) = dN A := by
  match A, h with
  | [a], _ =>
    simp only [dN, Lib.decodeN, List.cons_append, List.nil_append, List.getD_cons_zero, List.getD_cons_succ, List.length_cons, List.length_nil, List.getD_nil]
    repeat' split
    all_goals first | (exfalso; omega) | rfl
  | [a, b], _ =>
    simp only [dN, Lib.decodeN, List.cons_append, List.nil_append, List.getD_cons_zero, List.getD_cons_succ, List.length_cons, List.length_nil, List.getD_nil]
    repeat' split
    all_goals first | (exfalso; omega) | rfl
  | [a, b, d], _ =>
    simp only [dN, Lib.decodeN, List.cons_append, List.nil_append, List.getD_cons_zero, List.getD_cons_succ, List.length_cons, List.length_nil, List.getD_nil]
    repeat' split
    all_goals first | (exfalso; omega) | rfl
  | a :: b :: d :: e :: A', _ =>
    simp only [dN, Lib.decodeN, List.cons_append, List.nil_append, List.getD_cons_zero, List.getD_cons_succ, List.length_cons, List.length_append]
    repeat' split
    all_goals first | (exfalso; omega) | rfl
theorem dN_asc0 (B : List Nat) (c : Nat) (hc : c < 128) : dN (c :: B) = (c, 1) := by simp [dN, Lib.decodeN, hc]
theorem Rn_asc : ∀ (n : Nat) (A B : List Nat) (c : Nat), c < 128 → A.length ≤ n → Rn (A ++ c :: B) = Rn A ++ (c : Int) :: Rn B
  | n, A, B, c, hc, hn => by
    by_cases h : A = []
    · subst h
      rw [List.nil_append, Rn_nil, List.nil_append, Rn_cons _ (by simp), dN_asc0 B c hc]
      rfl
    · have hl : 1 ≤ A.length := List.length_pos_iff.2 h
      have hw := dN_width A h
      match n with
      | 0 => omega
      | n + 1 =>
        rw [Rn_cons (A ++ c :: B) (by simp), dN_asc A B c hc h, Rn_cons A h, List.drop_append_of_le_length hw.2, Rn_asc n (A.drop (dN A).2) B c hc (by simp; omega)]
        rfl
theorem part58 : ¬ Part 58 := by decide
/-- No plain name holds a colon. -/
theorem pl_colon (A B : List Nat) : pl (A ++ 58 :: B) = false := by
  unfold pl
  rw [Rn_asc _ A B 58 (by omega) (Nat.le_refl _)]
  have key : (Rn A ++ (58 : Int) :: Rn B).all (fun r => decide (Part r)) = false := by
    rw [List.all_append, List.all_cons, decide_eq_false part58]
    simp
  have h58 : ((58 : Nat) : Int) = 58 := rfl
  rw [h58]
  cases hR : Rn A ++ (58 : Int) :: Rn B with
  | nil => rfl
  | cons x l =>
    rw [hR] at key
    simp only [plR, key, Bool.and_false]
theorem pl_mem (L : List Nat) (h : 58 ∈ L) : pl L = false := by
  obtain ⟨A, B, rfl⟩ := List.append_of_mem h
  exact pl_colon A B
theorem pl_nil : pl [] = false := rfl
theorem pl_ok {L : List Nat} (h : pl L = true) : ∀ x ∈ Rn L, Part x := by
  unfold pl at h
  intro x hx
  cases hR : Rn L with
  | nil => rw [hR] at hx; simp at hx
  | cons y l =>
    rw [hR] at h hx
    simp only [plR, Bool.and_eq_true, List.all_eq_true, decide_eq_true_eq] at h
    exact h.2 x hx

/-- A stretch, all of whose runes may stand in one, ahead of a byte below 80 that may not. -/
theorem St_full : ∀ (n : Nat) (A B : List Nat) (c : Nat), c < 128 → ¬ Ok (c : Int) → A.length ≤ n → (∀ x ∈ Rn A, Ok x) → St (A ++ c :: B) = A.length
  | n, A, B, c, hc, hok, hn, hA => by
    by_cases h : A = []
    · subst h
      rw [List.nil_append, St_cons _ (by simp), dN_asc0 B c hc, if_neg hok]
      rfl
    · have hl : 1 ≤ A.length := List.length_pos_iff.2 h
      have hw := dN_width A h
      match n with
      | 0 => omega
      | n + 1 =>
        have hR := Rn_cons A h
        rw [St_cons (A ++ c :: B) (by simp), dN_asc A B c hc h, if_pos (hA _ (by rw [hR]; simp)), List.drop_append_of_le_length hw.2,
          St_full n (A.drop (dN A).2) B c hc hok (by simp; omega) (fun x hx => hA x (by rw [hR]; simp [hx]))]
        simp
        omega

set_option maxHeartbeats 2000000 in
set_option maxRecDepth 100000 in
theorem decN_less (n m b0 b1 b2 b3 c1 c2 c3 : Nat) (e1 : 1 < n → c1 = b1) (e2 : 2 < n → c2 = b2) (e3 : 3 < n → c3 = b3) (hn : 1 ≤ n) (hm : n ≤ m) (hw : (Lib.decodeN m b0 b1 b2 b3).2 ≤ n) :
    Lib.decodeN n b0 c1 c2 c3 = Lib.decodeN m b0 b1 b2 b3 := by
  unfold Lib.decodeN at hw ⊢
  by_cases h0 : b0 < 128
  · rw [if_pos h0, if_pos h0]
  · rw [if_neg h0] at hw
    rw [if_neg h0, if_neg h0]
    by_cases h1 : b0 / 32 = 6 ∧ (1 < m ∧ b1 / 64 = 2)
    · rw [if_pos h1] at hw
      rw [if_pos h1]
      by_cases g1 : 1 < n
      · rw [e1 g1, if_pos ⟨h1.1, g1, h1.2.2⟩]
      · have hv : ¬ b0 % 32 * 64 + b1 % 64 ≥ 128 := by
          intro hv
          rw [if_pos hv] at hw
          exact g1 hw
        rw [if_neg hv, if_neg (fun h => g1 h.2.1), if_neg (fun h => g1 h.2.1.1), if_neg (fun h => g1 h.2.1.1)]
    · rw [if_neg h1] at hw
      have k1 : ¬ (b0 / 32 = 6 ∧ (1 < n ∧ c1 / 64 = 2)) := fun h => h1 ⟨h.1, by omega, by rw [← e1 h.2.1]; exact h.2.2⟩
      rw [if_neg h1, if_neg k1]
      by_cases h2 : b0 / 16 = 14 ∧ (1 < m ∧ b1 / 64 = 2) ∧ (2 < m ∧ b2 / 64 = 2)
      · rw [if_pos h2] at hw
        rw [if_pos h2]
        by_cases g2 : 2 < n
        · rw [e1 (by omega), e2 g2, if_pos ⟨h2.1, ⟨by omega, h2.2.1.2⟩, g2, h2.2.2.2⟩]
        · by_cases hv : b0 % 16 * 4096 + b1 % 64 * 64 + b2 % 64 ≥ 2048 ∧ (b0 % 16 * 4096 + b1 % 64 * 64 + b2 % 64 < 55296 ∨ (57344 ≤ b0 % 16 * 4096 + b1 % 64 * 64 + b2 % 64 ∧ b0 % 16 * 4096 + b1 % 64 * 64 + b2 % 64 ≤ 1114111))
          · rw [if_pos hv] at hw
            exact absurd hw g2
          · rw [if_neg hv, if_neg (fun h => g2 h.2.2.1), if_neg (fun h => g2 h.2.2.1.1)]
      · rw [if_neg h2] at hw
        have k2 : ¬ (b0 / 16 = 14 ∧ (1 < n ∧ c1 / 64 = 2) ∧ (2 < n ∧ c2 / 64 = 2)) := fun h => h2 ⟨h.1, ⟨by omega, by rw [← e1 h.2.1.1]; exact h.2.1.2⟩, by omega, by rw [← e2 h.2.2.1]; exact h.2.2.2⟩
        rw [if_neg h2, if_neg k2]
        by_cases h3 : b0 / 8 = 30 ∧ (1 < m ∧ b1 / 64 = 2) ∧ (2 < m ∧ b2 / 64 = 2) ∧ (3 < m ∧ b3 / 64 = 2)
        · rw [if_pos h3] at hw
          rw [if_pos h3]
          by_cases g3 : 3 < n
          · rw [e1 (by omega), e2 (by omega), e3 g3, if_pos ⟨h3.1, ⟨by omega, h3.2.1.2⟩, ⟨by omega, h3.2.2.1.2⟩, g3, h3.2.2.2.2⟩]
          · by_cases hv : b0 % 8 * 262144 + b1 % 64 * 4096 + b2 % 64 * 64 + b3 % 64 ≥ 65536 ∧ (b0 % 8 * 262144 + b1 % 64 * 4096 + b2 % 64 * 64 + b3 % 64 < 55296 ∨ (57344 ≤ b0 % 8 * 262144 + b1 % 64 * 4096 + b2 % 64 * 64 + b3 % 64 ∧ b0 % 8 * 262144 + b1 % 64 * 4096 + b2 % 64 * 64 + b3 % 64 ≤ 1114111))
            · rw [if_pos hv] at hw
              exact absurd hw g3
            · rw [if_neg hv, if_neg (fun h => g3 h.2.2.2.1)]
        · have k3 : ¬ (b0 / 8 = 30 ∧ (1 < n ∧ c1 / 64 = 2) ∧ (2 < n ∧ c2 / 64 = 2) ∧ (3 < n ∧ c3 / 64 = 2)) := fun h =>
            h3 ⟨h.1, ⟨by omega, by rw [← e1 h.2.1.1]; exact h.2.1.2⟩, ⟨by omega, by rw [← e2 h.2.2.1.1]; exact h.2.2.1.2⟩, by omega, by rw [← e3 h.2.2.2.1]; exact h.2.2.2.2⟩
          rw [if_neg h3, if_neg k3]
theorem getD_app (A T : List Nat) (i : Nat) (h : i < A.length) : A.getD i 0 = (A ++ T).getD i 0 := by
  rw [List.getD_eq_getElem?_getD, List.getD_eq_getElem?_getD, List.getElem?_append_left h]
/-- What is decoded hangs on its own bytes alone. -/
theorem dN_app (A T : List Nat) (h : A ≠ []) (hw : (dN (A ++ T)).2 ≤ A.length) : dN A = dN (A ++ T) := by
  have hl : 1 ≤ A.length := List.length_pos_iff.2 h
  unfold dN at *
  rw [getD_app A T 0 hl]
  exact decN_less _ _ _ _ _ _ _ _ _ (fun h => getD_app A T 1 h) (fun h => getD_app A T 2 h) (fun h => getD_app A T 3 h) hl (by simp) hw

/-- Behind a stretch, none begins. -/
theorem St_rest : ∀ (n : Nat) (L : List Nat), L.length ≤ n → St (L.drop (St L)) = 0
  | n, L, hn => by
    by_cases h : L = []
    · subst h; rfl
    · have hl : 1 ≤ L.length := List.length_pos_iff.2 h
      have hw := dN_width L h
      match n with
      | 0 => omega
      | n + 1 =>
        have hc := St_cons L h
        by_cases hk : Ok ((dN L).1 : Int)
        · rw [if_pos hk] at hc
          rw [hc, ← List.drop_drop]
          exact St_rest n (L.drop (dN L).2) (by simp; omega)
        · rw [if_neg hk] at hc
          rw [hc, List.drop_zero, hc]
/-- A stretch alone is a stretch. -/
theorem St_self : ∀ (n : Nat) (L : List Nat), L.length ≤ n → St (L.take (St L)) = St L
  | n, L, hn => by
    by_cases h : L = []
    · subst h; rfl
    · have hl : 1 ≤ L.length := List.length_pos_iff.2 h
      have hw := dN_width L h
      match n with
      | 0 => omega
      | n + 1 =>
        have hc := St_cons L h
        by_cases hk : Ok ((dN L).1 : Int)
        · rw [if_pos hk] at hc
          have hle := St_le L.length L (Nat.le_refl _)
          have hne : L.take (St L) ≠ [] := by
            intro h2
            have := congrArg List.length h2
            rw [List.length_take, List.length_nil] at this
            omega
          have hd : dN (L.take (St L)) = dN L := by
            have h1 := dN_app (L.take (St L)) (L.drop (St L)) hne (by rw [List.take_append_drop, List.length_take]; omega)
            rw [List.take_append_drop] at h1
            exact h1
          rw [St_cons _ hne, hd, if_pos hk, List.drop_take]
          have e : St L - (dN L).2 = St (L.drop (dN L).2) := by omega
          rw [e, St_self n (L.drop (dN L).2) (by simp; omega), hc]
        · rw [if_neg hk] at hc
          rw [hc]
          rfl
end Go.Proofs.YtmbghdpoeahnaaaGreatDoor.Nz

/- Walks: what the document's own classes return (Start, Part), whatever the world. -/
set_option linter.unusedSimpArgs false
set_option linter.unusedVariables false
namespace Go.Proofs.YtmbghdpoeahnaaaGreatDoor.Nz
open Go.RowKit

set_option maxHeartbeats 4000000 in
set_option maxRecDepth 100000 in
theorem rstart_any (r : Int) (w : World) : Calls Tryz.prog 43 #[.int .i64 r] w fun e w' => e = .returned (.bool (decide (Start r))) ∧ w = w' := by
  go_enter Tryz.func43, Tryz.ntmps43
  go_wp2
  all_goals
    go_ret
    refine ⟨ret_bool ?_, rfl⟩
    first
      | refine bt ?_
      | refine bf ?_
      | (refine Bool.eq_iff_iff.2 ?_; simp only [decide_eq_true_eq, Bool.or_eq_true, beq_iff_eq])
    try simp only [beq_iff_eq, Bool.or_eq_true, Bool.and_eq_true, decide_eq_true_eq, decide_eq_false_iff_not, beq_eq_false_iff_ne] at *
    simp only [Part, Start, Chr, Blank, Btw] at *
    first
      | omega
      | (constructor <;> intro hq <;> omega)

set_option maxHeartbeats 4000000 in
set_option maxRecDepth 100000 in
theorem rpart_any (r : Int) (w : World) : Calls Tryz.prog 42 #[.int .i64 r] w fun e w' => e = .returned (.bool (decide (Part r))) ∧ w = w' := by
  go_enter Tryz.func42, Tryz.ntmps42
  go_wp2_with (first | (go_at_call 43; refine (rstart_any _ _).mono ?_; rintro e w' ⟨rfl, rfl⟩))
  all_goals
    go_ret
    refine ⟨ret_bool ?_, rfl⟩
    first
      | refine bt ?_
      | refine bf ?_
      | (refine Bool.eq_iff_iff.2 ?_; simp only [decide_eq_true_eq, Bool.or_eq_true, beq_iff_eq])
    try simp only [beq_iff_eq, Bool.or_eq_true, Bool.and_eq_true, decide_eq_true_eq, decide_eq_false_iff_not, beq_eq_false_iff_ne] at *
    simp only [Part, Start, Chr, Blank, Btw] at *
    first
      | omega
      | (constructor <;> intro hq <;> omega)

end Go.Proofs.YtmbghdpoeahnaaaGreatDoor.Nz
