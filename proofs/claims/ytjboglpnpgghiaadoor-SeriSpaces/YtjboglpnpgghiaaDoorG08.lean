/-
  Merged by program out of the texts NzRune, NzNm, NzRef, NzPlain, Val, RefMath, RefPut, Begins, CutLem of one seat.
-/
import Derived.Test.YtjboglpnpgghiaaDoorG07
import Derived.Test.YtjboglpnpgghiaaDoorG02
import Derived.Laws.Cover4
import Derived.Lib.DecodeN
import Derived.Lib.Bytealg
import Derived.Lib.Hide
import Derived.Deep.QuietTactic
import Derived.BigQuiet
import Derived.Deep.DeepCutAuto

/- Plain mathematics: a text's runes, over its bytes as a list: what a blank between, and what is encoded, is decoded to. -/
set_option linter.unusedSimpArgs false
set_option linter.unusedVariables false
namespace Go.Proofs.YtjboglpnpgghiaaDoor.Nz
open Go.RowKit

def bl (s : ByteArray) : List Nat := s.data.toList.map UInt8.toNat
def dN (L : List Nat) : Nat × Nat := Lib.decodeN L.length (L.getD 0 0) (L.getD 1 0) (L.getD 2 0) (L.getD 3 0)
def rl : Nat → List Nat → List Int
  | 0, _ => []
  | f + 1, L => if L = [] then [] else ((dN L).1 : Int) :: rl f (L.drop (dN L).2)
def Rn (L : List Nat) : List Int := rl L.length L

theorem bl_len (s : ByteArray) : (bl s).length = s.size := by simp [bl]
theorem get_bl (s : ByteArray) (i k : Nat) : (s.get! (i + k)).toNat = ((bl s).drop i).getD k 0 := by
  rw [List.getD_eq_getElem?_getD, List.getElem?_drop]
  unfold bl
  rw [List.getElem?_map]
  show (s.data[i + k]!).toNat = _
  by_cases h : i + k < s.data.size
  · rw [getElem!_pos s.data (i + k) h]
    rw [Array.getElem?_toList, Array.getElem?_eq_getElem h]
    rfl
  · rw [getElem!_neg s.data (i + k) h, Array.getElem?_toList, Array.getElem?_eq_none (by omega)]
    rfl
theorem dec_dN (s : ByteArray) (i : Nat) : Utf8.decode s i = dN ((bl s).drop i) := by
  rw [Lib.decode_at]
  unfold dN
  rw [List.length_drop, bl_len, ← get_bl s i 0, ← get_bl s i 1, ← get_bl s i 2, ← get_bl s i 3]
  rfl

theorem dN_width (L : List Nat) (h : L ≠ []) : 1 ≤ (dN L).2 ∧ (dN L).2 ≤ L.length := by
  have hl : 1 ≤ L.length := List.length_pos_iff.2 h
  unfold dN Lib.decodeN
  repeat' split
  all_goals refine ⟨?_, ?_⟩ <;> simp <;> omega
theorem rl_nil (f : Nat) : rl f [] = [] := by cases f <;> simp [rl]
theorem rl_fuel : ∀ (f g : Nat) (L : List Nat), L.length ≤ f → L.length ≤ g → rl f L = rl g L
  | 0, g, L, h1, h2 => by
    have : L = [] := List.eq_nil_of_length_eq_zero (by omega)
    subst this
    rw [rl_nil, rl_nil]
  | f + 1, 0, L, h1, h2 => by
    have : L = [] := List.eq_nil_of_length_eq_zero (by omega)
    subst this
    rw [rl_nil, rl_nil]
  | f + 1, g + 1, L, h1, h2 => by
    by_cases h : L = []
    · subst h; rw [rl_nil, rl_nil]
    · have hw := dN_width L h
      simp only [rl, h, if_false]
      rw [rl_fuel f g (L.drop (dN L).2) (by simp; omega) (by simp; omega)]
theorem Rn_cons (L : List Nat) (h : L ≠ []) : Rn L = ((dN L).1 : Int) :: Rn (L.drop (dN L).2) := by
  have hl : 1 ≤ L.length := List.length_pos_iff.2 h
  have hw := dN_width L h
  unfold Rn
  obtain ⟨f, hf⟩ : ∃ f, L.length = f + 1 := ⟨L.length - 1, by omega⟩
  rw [hf]
  simp only [rl, h, if_false]
  rw [rl_fuel f (L.drop (dN L).2).length (L.drop (dN L).2) (by simp; omega) (Nat.le_refl _)]
theorem rgo_rl (s : ByteArray) : ∀ (b i : Nat), rgo s b i = rl b ((bl s).drop i)
  | 0, i => rfl
  | b + 1, i => by
    unfold rgo rl
    by_cases h : i < s.size
    · have hne : (bl s).drop i ≠ [] := by
        intro h2
        have := congrArg List.length h2
        simp [bl_len] at this
        omega
      rw [if_pos h, if_neg hne, rgo_rl s b, dec_dN, List.drop_drop]
    · have he : (bl s).drop i = [] := by
        rw [List.drop_eq_nil_iff, bl_len]
        omega
      rw [if_neg h, if_pos he]
theorem runes_Rn (s : ByteArray) : runes s = Rn (bl s) := by
  unfold runes Rn
  rw [rgo_rl, List.drop_zero, bl_len]

end Go.Proofs.YtjboglpnpgghiaaDoor.Nz

/- Plain mathematics: plain names, the stretch of a name, the first colon, over a text's bytes as a list. -/
set_option linter.unusedSimpArgs false
set_option linter.unusedVariables false
namespace Go.Proofs.YtjboglpnpgghiaaDoor.Nz
open Go.RowKit

/-- May the rune stand in a stretch: in a name, or as a colon. -/
def Ok (r : Int) : Prop := r = 58 ∨ Part r
instance (r : Int) : Decidable (Ok r) := inferInstanceAs (Decidable (r = 58 ∨ Part r))

/-- A plain name, of its runes. -/
def plR : List Int → Bool
  | [] => false
  | x :: l => decide (Start x) && (x :: l).all (fun r => decide (Part r))
def pl (L : List Nat) : Bool := plR (Rn L)

/-- How many bytes the stretch has that stands first. -/
def sp : Nat → List Nat → Nat
  | 0, _ => 0
  | f + 1, L => if L = [] then 0 else if Ok ((dN L).1 : Int) then (dN L).2 + sp f (L.drop (dN L).2) else 0
end Go.Proofs.YtjboglpnpgghiaaDoor.Nz

/- Walks: what the document's own classes return (Start, Part), whatever the world. -/
set_option linter.unusedSimpArgs false
set_option linter.unusedVariables false
namespace Go.Proofs.YtjboglpnpgghiaaDoor.Nz
open Go.RowKit

set_option maxHeartbeats 4000000 in
set_option maxRecDepth 100000 in
theorem rstart_any (r : Int) (w : World) : Calls Tryd.prog 57 #[.int .i64 r] w fun e w' => e = .returned (.bool (decide (Start r))) ∧ w = w' := by
  go_enter Tryd.func57, Tryd.ntmps57
  go_wp2
  all_goals
    go_ret
    refine ⟨ret_bool ?_, rfl⟩
    first
      | refine bt ?_
      | refine bf ?_
      | (refine Bool.eq_iff_iff.2 ?_; simp only [decide_eq_true_eq, Bool.or_eq_true, beq_iff_eq])
    try simp only [beq_iff_eq, Bool.or_eq_true, Bool.and_eq_true, decide_eq_true_eq, decide_eq_false_iff_not, beq_eq_false_iff_ne] at *
    simp only [Part, Start, Chr, Blank, Btw] at *
    first
      | omega
      | (constructor <;> intro hq <;> omega)

set_option maxHeartbeats 4000000 in
set_option maxRecDepth 100000 in
theorem rpart_any (r : Int) (w : World) : Calls Tryd.prog 58 #[.int .i64 r] w fun e w' => e = .returned (.bool (decide (Part r))) ∧ w = w' := by
  go_enter Tryd.func58, Tryd.ntmps58
  go_wp2_with (first | (go_at_call 57; refine (rstart_any _ _).mono ?_; rintro e w' ⟨rfl, rfl⟩))
  all_goals
    go_ret
    refine ⟨ret_bool ?_, rfl⟩
    first
      | refine bt ?_
      | refine bf ?_
      | (refine Bool.eq_iff_iff.2 ?_; simp only [decide_eq_true_eq, Bool.or_eq_true, beq_iff_eq])
    try simp only [beq_iff_eq, Bool.or_eq_true, Bool.and_eq_true, decide_eq_true_eq, decide_eq_false_iff_not, beq_eq_false_iff_ne] at *
    simp only [Part, Start, Chr, Blank, Btw] at *
    first
      | omega
      | (constructor <;> intro hq <;> omega)

end Go.Proofs.YtjboglpnpgghiaaDoor.Nz

/- The walks of name.Plain and of the document's own. -/
set_option linter.unusedSimpArgs false
set_option linter.unusedVariables false
namespace Go.Proofs.YtjboglpnpgghiaaDoor.Nz
open Go.RowKit

def aP (l : List Int) : Bool := l.all (fun r => decide (Part r))
theorem drop_ne (s : ByteArray) (pos : Nat) (h : pos < s.size) : (bl s).drop pos ≠ [] := by
  intro h2
  have := congrArg List.length h2
  simp [bl_len] at this
  omega
theorem Rn_at (s : ByteArray) (pos : Nat) (h : pos < s.size) : Rn ((bl s).drop pos) = ((Utf8.decode s pos).1 : Int) :: Rn ((bl s).drop (pos + (Utf8.decode s pos).2)) := by
  rw [Rn_cons _ (drop_ne s pos h), ← dec_dN, List.drop_drop]
theorem Rn_end (s : ByteArray) (pos : Nat) (h : ¬ pos < s.size) : Rn ((bl s).drop pos) = [] := by
  rw [List.drop_of_length_le (by rw [bl_len]; omega)]
  rfl
theorem pl_first (s : ByteArray) (h : 0 < s.size) : pl (bl s) = (decide (Start ((Utf8.decode s 0).1 : Int)) && (decide (Part ((Utf8.decode s 0).1 : Int)) && aP (Rn ((bl s).drop (0 + (Utf8.decode s 0).2))))) := by
  have := Rn_at s 0 h
  rw [List.drop_zero] at this
  unfold pl aP
  rw [this]
  simp only [plR, List.all_cons]

theorem isE (s : ByteArray) : s.toList.isEmpty = decide (s.size = 0) := by
  rw [Lib.toList_data, Lib.size_eq]
  cases s.data.toList <;> simp

def PlRel (s : ByteArray) (w : World) (wr : World) : Prop :=
  ∃ pos : Nat, wr = w.iter s pos ∧ (pos = 0 ∨ (pos ≠ 0 ∧ s.size ≠ 0 ∧ pl (bl s) = aP (Rn ((bl s).drop pos))))

set_option maxHeartbeats 1000000 in
set_option maxRecDepth 100000 in
theorem plain_any (s : ByteArray) (w : World) :
    Calls Tryd.prog 40 #[.string s] w fun e w' => e = .returned (.bool (pl (bl s))) ∧ Below w.heap.size w w' := by
  have HB := Lib.hid (fun pos => (Below.refl w.heap.size w).alloc (Nat.le_refl _) (.stringIter s pos))
  have HF := Lib.hid (pl_first s)
  have HA := Lib.hid (Rn_at s)
  have HE := Lib.hid (Rn_end s)
  have HZ : Hid (s.size = 0 → pl (bl s) = false) := Lib.hid (fun h => by
    have : bl s = [] := List.eq_nil_of_length_eq_zero (by rw [bl_len]; exact h)
    rw [this]; rfl)
  obtain ⟨res, hres⟩ : ∃ res, res = pl (bl s) := ⟨_, rfl⟩
  have HRES := Lib.hid hres
  rw [← hres]
  clear hres
  go_enter Tryd.func40, Tryd.ntmps40
  go_wp2_with fail
  go_loopw [3, 4] (fun _ _ wr => PlRel s w wr) (fun _ _ wr => s.size - wr.iterPos w.heap.size)
  case atStart => exact ⟨0, rfl, .inl rfl⟩
  case round =>
    obtain ⟨pos, rfl, hq⟩ := hrel
    have HQ := Lib.hid hq
    clear hq
    by_cases hp : pos < s.size
    · have hnx : ∀ ty, (Instr.next (.pointer (some ⟨w.heap.size, 0, none⟩)) true ty).run Tryd.prog (w.iter s pos) = _ := fun ty => run_next_any w s pos ty hp
      have hwd := width_pos s pos hp
      have HR := Lib.hid (HA.out pos hp)
      by_cases h0 : pos = 0
      · have F0 := Lib.hid (HF.out (by omega))
        have c0 : ((pos : Int) == 0) = true := by simp [h0]
        have H0 := Lib.hid h0
        rw [← h0] at F0
        clear h0 HA HQ
        generalize (Utf8.decode s pos).1 = r at *
        generalize (Utf8.decode s pos).2 = d at *
        go_wp2_with (first | (go_at_call 49; refine (start_any _ _).mono ?_; rintro e w' ⟨rfl, rfl⟩) | (go_at_call 50; refine (part_any _ _).mono ?_; rintro e w' ⟨rfl, rfl⟩))
        all_goals first
          | (go_ret
             refine ⟨ret_bool ?_, HB.out _⟩
             have f0 := F0.out
             try rw [HR.out] at f0
             rw [HRES.out, f0]
             simp_all [aP])
          | (refine ⟨⟨pos + d, rfl, .inr ⟨by omega, by omega, ?_⟩⟩, by simp; omega⟩
             have f0 := F0.out
             try rw [HR.out] at f0
             rw [f0]
             simp_all [aP])
      · have Q := HQ.out
        have c0 : ((pos : Int) == 0) = false := by simp; omega
        have F0 : Hid (pl (bl s) = aP (Rn ((bl s).drop pos))) := Lib.hid (by rcases Q with h | h; exact absurd h h0; exact h.2.2)
        clear Q HA HQ
        generalize (Utf8.decode s pos).1 = r at *
        generalize (Utf8.decode s pos).2 = d at *
        go_wp2_with (first | (go_at_call 49; refine (start_any _ _).mono ?_; rintro e w' ⟨rfl, rfl⟩) | (go_at_call 50; refine (part_any _ _).mono ?_; rintro e w' ⟨rfl, rfl⟩))
        all_goals first
          | (go_ret
             refine ⟨ret_bool ?_, HB.out _⟩
             have f0 := F0.out
             try rw [HR.out] at f0
             rw [HRES.out, f0]
             simp_all [aP])
          | (refine ⟨⟨pos + d, rfl, .inr ⟨by omega, by omega, ?_⟩⟩, by simp; omega⟩
             have f0 := F0.out
             try rw [HR.out] at f0
             rw [f0]
             simp_all [aP])
    · have hnx : ∀ ty, (Instr.next (.pointer (some ⟨w.heap.size, 0, none⟩)) true ty).run Tryd.prog (w.iter s pos) = _ := fun ty => run_next_end w s pos ty hp
      go_wp2
      go_ret
      refine ⟨ret_bool ?_, HB.out pos⟩
      rw [HRES.out, isE]
      by_cases hz : s.size = 0
      · rw [HZ.out hz]
        simp [hz]
      · rcases HQ.out with h | h
        · omega
        · rw [h.2.2, HE.out pos hp]
          simp [hz, aP]

def RpRel (l : List Int) (i : Value) : Prop := ∃ k : Nat, k ≤ l.length ∧ i = .int .i64 k ∧ aP l = aP (l.drop k)
theorem aP_drop (l : List Int) (k : Nat) (h : k < l.length) : aP (l.drop k) = (decide (Part (l.getD k 0)) && aP (l.drop (k + 1))) := by
  rw [List.drop_eq_getElem_cons h, List.getD_eq_getElem?_getD, List.getElem?_eq_getElem h]
  unfold aP
  rw [List.all_cons]
  rfl
theorem rgo_range (s : ByteArray) : ∀ (b i : Nat) (x : Int), x ∈ rgo s b i → 0 ≤ x ∧ x ≤ 2147483647
  | 0, i, x, h => by simp [rgo] at h
  | b + 1, i, x, h => by
    unfold rgo at h
    split at h
    · rcases List.mem_cons.1 h with rfl | h
      · have := decode_le s i
        omega
      · exact rgo_range s b _ x h
    · simp at h
theorem plR_eq (l : List Int) (h : 0 < l.length) : plR l = (decide (Start (l.getD 0 0)) && aP l) := by
  cases l with
  | nil => simp at h
  | cons x l => simp [plR, aP]

theorem rst_t {r : Int} (h : Start r) (w : World) : Calls Tryd.prog 57 #[.int .i64 r] w fun e w' => e = .returned (.bool true) ∧ w = w' := (rstart_any r w).mono fun e w' ⟨h1, h2⟩ => ⟨by rw [h1, decide_eq_true h], h2⟩
theorem rst_f {r : Int} (h : ¬ Start r) (w : World) : Calls Tryd.prog 57 #[.int .i64 r] w fun e w' => e = .returned (.bool false) ∧ w = w' := (rstart_any r w).mono fun e w' ⟨h1, h2⟩ => ⟨by rw [h1, decide_eq_false h], h2⟩

set_option maxHeartbeats 1000000 in
set_option maxRecDepth 100000 in
theorem rplain_any (s : ByteArray) (hs : s.size ≤ 10000) (w : World) :
    Calls Tryd.prog 45 #[.string s] w fun e w' => e = .returned (.bool (pl (bl s))) ∧ Below w.heap.size w w' := by
  obtain ⟨c, w1, hcv, hb1, hzz, hcell⟩ := conv_runes w s hs
  have hln := runes_len s
  have HRG := Lib.hid (fun x (hx : x ∈ runes s) => rgo_range s s.size 0 x hx)
  have HP : Hid (pl (bl s) = plR (runes s)) := Lib.hid (by unfold pl; rw [runes_Rn])
  have HB := Lib.hid hb1
  have hsz := hb1.size
  clear hzz hb1
  generalize pl (bl s) = res at *
  generalize runes s = l at *
  obtain ⟨n, hn⟩ : ∃ n, n = l.length := ⟨_, rfl⟩
  rw [← hn] at hcv
  have hn1 : n ≤ l.length := by omega
  have hn2 : l.length ≤ n := by omega
  have hn3 : n ≤ 10000 := by omega
  clear hn
  by_cases hz : n = 0
  · have q0 : ((n : Int) == 0) = true := by simp [hz]
    have HL : Hid (l = []) := Lib.hid (List.eq_nil_of_length_eq_zero (by omega))
    clear hcell
    go_enter Tryd.func45, Tryd.ntmps45
    go_wp2_with fail
    go_ret
    refine ⟨ret_bool ?_, HB.out⟩
    rw [HP.out, HL.out]
    rfl
  · have q0 : ((n : Int) == 0) = false := by simp; omega
    have hc0 := hcell 0 (by omega)
    have HX := Lib.hid (plR_eq l (by omega))
    obtain ⟨hx0, hx1⟩ := HRG.out (l.getD 0 0) (by rw [List.getD_eq_getElem?_getD, List.getElem?_eq_getElem (by omega)]; exact List.getElem_mem _)
    have HCELL := Lib.hid hcell
    clear hcell
    generalize l.getD 0 0 = x0 at *
    have i0 : (0 : Int) < (n : Int) := by omega
    by_cases hS : Start x0
    · have CS := Lib.hid (fun W => rst_t hS W)
      have HST : Hid (decide (Start x0) = true) := Lib.hid (decide_eq_true hS)
      clear hS
      go_enter Tryd.func45, Tryd.ntmps45
      go_wp2_with (first | (go_at_call 57; refine (CS.out _).mono ?_; rintro e w' ⟨rfl, rfl⟩))
      go_loop [4] (fun i => RpRel l i) (fun i => l.length - (intOf i).toNat)
      case atStart => exact ⟨0, Nat.zero_le _, rfl, by simp⟩
      case round =>
        obtain ⟨k, hk, rfl, ho⟩ := hrel
        have HO := Lib.hid ho
        clear ho hc0
        by_cases hlt : k < n
        · have hc := HCELL.out k (by omega)
          have HT := Lib.hid (aP_drop l k (by omega))
          obtain ⟨hy0, hy1⟩ := HRG.out (l.getD k 0) (by rw [List.getD_eq_getElem?_getD, List.getElem?_eq_getElem (by omega)]; exact List.getElem_mem _)
          generalize l.getD k 0 = y at hc HT hy0 hy1
          clear hcv
          go_wp2_with (first | (go_at_call 58; refine (rpart_any _ _).mono ?_; rintro e w' ⟨rfl, rfl⟩))
          · go_ret
            refine ⟨ret_bool ?_, HB.out⟩
            rw [HP.out, HX.out, HO.out, HT.out]
            simp_all
          · refine ⟨⟨k + 1, by omega, by go_num, ?_⟩, by simp [intOf]; omega⟩
            rw [HO.out, HT.out]
            simp_all
        · clear hcv
          go_wp2_with fail
          go_ret
          refine ⟨ret_bool ?_, HB.out⟩
          have hkn : k = l.length := by omega
          rw [HP.out, HX.out, HST.out, HO.out, hkn, List.drop_length]
          rfl
    · have CS := Lib.hid (fun W => rst_f hS W)
      have HST : Hid (decide (Start x0) = false) := Lib.hid (decide_eq_false hS)
      clear hS
      go_enter Tryd.func45, Tryd.ntmps45
      go_wp2_with (first | (go_at_call 57; refine (CS.out _).mono ?_; rintro e w' ⟨rfl, rfl⟩))
      go_ret
      refine ⟨ret_bool ?_, HB.out⟩
      rw [HP.out, HX.out, HST.out]
      rfl
end Go.Proofs.YtjboglpnpgghiaaDoor.Nz

/- The walk of the document's value: the rune that so many bytes would be. -/
set_option linter.unusedSimpArgs false
set_option linter.unusedVariables false
namespace Go.Proofs.YtjboglpnpgghiaaDoor
open Go.RowKit

def offs (n i : Nat) : Int := if i = 0 then (if n = 2 then 192 else if n = 3 then 224 else if n = 4 then 240 else 0) else 128
def valG (b : Nat → Int) (n : Nat) : Nat → Int
  | 0 => 0
  | i + 1 => valG b n i * 64 + (b i - offs n i)
theorem offs_bd (n i : Nat) : 0 ≤ offs n i ∧ offs n i ≤ 240 := by unfold offs; repeat' split <;> omega
def vb (i : Nat) : Int := if i = 0 then 0 else if i = 1 then 256 else if i = 2 then 16640 else if i = 3 then 1065216 else 68174080
theorem valG_bd (b : Nat → Int) (n : Nat) (h0 : ∀ k, 0 ≤ b k) (h1 : ∀ k, b k < 256) (i : Nat) (hi : i ≤ 4) : -100000000 ≤ valG b n i ∧ valG b n i ≤ 100000000 := by
  have a0 := h0 0; have a1 := h1 0
  have b0 := h0 1; have b1 := h1 1
  have c0 := h0 2; have c1 := h1 2
  have d0 := h0 3; have d1 := h1 3
  have o0 := offs_bd n 0
  have o1 := offs_bd n 1
  have o2 := offs_bd n 2
  have o3 := offs_bd n 3
  have h : i = 0 ∨ i = 1 ∨ i = 2 ∨ i = 3 ∨ i = 4 := by omega
  rcases h with rfl | rfl | rfl | rfl | rfl <;> simp only [valG] <;> omega

set_option maxHeartbeats 1000000 in
set_option maxRecDepth 100000 in
theorem value_any (s : ByteArray) (a n : Nat) (w : World) (hs : s.size ≤ 100000) (h : a + n ≤ s.size) (h2 : 2 ≤ n) (h4 : n ≤ 4) :
    Calls Tryd.prog 62 #[.string s, .int .i64 a, .int .i64 n] w fun e w' => e = .returned (.int .i64 (valG (fun i => bt s (a + i)) n n)) ∧ w = w' := by
  have VB := valG_bd (fun i => bt s (a + i)) n (fun k => bt_lo s _) (fun k => bt_hi s _)
  have VS : ∀ i, valG (fun i => bt s (a + i)) n (i + 1) = valG (fun i => bt s (a + i)) n i * 64 + (bt s (a + i) - offs n i) := fun i => rfl
  have V0 : valG (fun i => bt s (a + i)) n 0 = 0 := rfl
  generalize valG (fun i => bt s (a + i)) n = f at *
  have HB := Lib.hid VB
  have HS := Lib.hid VS
  have H0 := Lib.hid V0
  clear VB VS V0
  go_enter Tryd.func62, Tryd.ntmps62
  go_wp2_with fail
  go_loop [7, 8] (fun v i => ∃ k : Nat, k ≤ n ∧ i = .int .i64 k ∧ v = .int .i64 (f k)) (fun _ i => n - (intOf i).toNat)
  case atStart => exact ⟨0, Nat.zero_le _, rfl, by rw [H0.out]⟩
  case round =>
    obtain ⟨k, hk, rfl, rfl⟩ := hrel
    by_cases hlt : k < n
    · have vb := HB.out k (by omega)
      have hb := bt_eq s (a + k) (by omega)
      have hby : (s[a + k].toNat : Int) < 256 := by have := s[a + k].toNat_lt; omega
      have hst := HS.out k
      rw [← hb] at hst
      have HST := Lib.hid hst
      clear hb hst
      generalize f k = v at *
      by_cases h0 : k = 0
      · have t0 : ((k : Int) == 0) = true := by simp; omega
        have hk0 : k ≤ 0 := by omega
        have HO := Lib.hid h0
        clear h0
        have hn : n = 2 ∨ n = 3 ∨ n = 4 := by omega
        rcases hn with hn | hn | hn
        · have ho : offs n k = 192 := by rw [HO.out, hn]; rfl
          rw [ho] at HST
          have n2 : ((n : Int) == 2) = true := by simp; omega
          have n3 : ((n : Int) == 3) = false := by simp; omega
          have n4 : ((n : Int) == 4) = false := by simp; omega
          clear ho hn
          go_wp2
          go_round
          case rel => exact ⟨k + 1, by omega, by go_num, by rw [HST.out]⟩
          case measure => simp [intOf]; omega
        · have ho : offs n k = 224 := by rw [HO.out, hn]; rfl
          rw [ho] at HST
          have n2 : ((n : Int) == 2) = false := by simp; omega
          have n3 : ((n : Int) == 3) = true := by simp; omega
          have n4 : ((n : Int) == 4) = false := by simp; omega
          clear ho hn
          go_wp2
          go_round
          case rel => exact ⟨k + 1, by omega, by go_num, by rw [HST.out]⟩
          case measure => simp [intOf]; omega
        · have ho : offs n k = 240 := by rw [HO.out, hn]; rfl
          rw [ho] at HST
          have n2 : ((n : Int) == 2) = false := by simp; omega
          have n3 : ((n : Int) == 3) = false := by simp; omega
          have n4 : ((n : Int) == 4) = true := by simp; omega
          clear ho hn
          go_wp2
          go_round
          case rel => exact ⟨k + 1, by omega, by go_num, by rw [HST.out]⟩
          case measure => simp [intOf]; omega
      · have t0 : ((k : Int) == 0) = false := by simp; omega
        have ho : offs n k = 128 := by unfold offs; rw [if_neg h0]
        rw [ho] at HST
        have hk1 : (0 : Int) < (k : Int) := by omega
        clear h0 ho
        go_wp2
        go_round
        case rel => exact ⟨k + 1, by omega, by go_num, by rw [HST.out]⟩
        case measure => simp [intOf]; omega
    · have : k = n := by omega
      subst this
      go_wp2
      go_ret
      exact ⟨rfl, rfl⟩
theorem value_zero (s : ByteArray) (n : Nat) (w : World) (hs : s.size ≤ 100000) (h : n ≤ s.size) (h2 : 2 ≤ n) (h4 : n ≤ 4) :
    Calls Tryd.prog 62 #[.string s, .int .i64 0, .int .i64 n] w fun e w' => e = .returned (.int .i64 (valG (bt s) n n)) ∧ w = w' := by
  have := value_any s 0 n w hs (by omega) h2 h4
  simp only [Nat.zero_add] at this
  exact this
end Go.Proofs.YtjboglpnpgghiaaDoor

/- The document's way to a rune, and to what is cut off: by trying. It comes to the same as the table of first bytes. -/
set_option linter.unusedSimpArgs false
set_option linter.unusedVariables false
namespace Go.Proofs.YtjboglpnpgghiaaDoor

def valL (L : List Int) (n : Nat) : Int := valG (fun k => L.getD k 0) n n
theorem val2 (L : List Int) : valL L 2 = (L.getD 0 0 - 192) * 64 + (L.getD 1 0 - 128) := by simp [valL, valG, offs]
theorem val3 (L : List Int) : valL L 3 = ((L.getD 0 0 - 224) * 64 + (L.getD 1 0 - 128)) * 64 + (L.getD 2 0 - 128) := by simp [valL, valG, offs]
theorem val4 (L : List Int) : valL L 4 = (((L.getD 0 0 - 240) * 64 + (L.getD 1 0 - 128)) * 64 + (L.getD 2 0 - 128)) * 64 + (L.getD 3 0 - 128) := by simp [valL, valG, offs]
/-- What is tried at n bytes. -/
def vAt (L : List Int) (n : Nat) : Int := if n = 1 then L.getD 0 0 else valL L n

theorem refPut_ok {r : Int} (h : ¬ Bad r) : refPut r = encB r := by rw [refPut, if_neg h]
theorem refPut_pos {r : Int} (h : 0 < (refPut r).length) : ¬ Bad r := fun hb => by
  rw [refPut, if_pos hb] at h
  simp at h

/-- A try that succeeds. -/
def Try1 (L : List Int) (n : Nat) : Prop := (refPut (vAt L n)).length = n ∧ L.take n = refPut (vAt L n)
theorem try_dec (L : List Int) (n : Nat) (hn : 1 ≤ n) (h : Try1 L n) : dec1 L = (vAt L n, (n : Int), 0) := by
  obtain ⟨h1, h2⟩ := h
  have hb : ¬ Bad (vAt L n) := refPut_pos (by omega)
  rw [refPut_ok hb] at h1 h2
  have hL : L = encB (vAt L n) ++ L.drop n := by rw [← h2, List.take_append_drop]
  generalize vAt L n = r at *
  have := dec_enc r (L.drop n) hb
  rw [← hL, h1] at this
  exact this
theorem getD_of_take {L T : List Int} {n k : Nat} (h : L.take n = T) (hk : k < n) : L.getD k 0 = T.getD k 0 := by
  subst h
  simp [List.getD_eq_getElem?_getD, List.getElem?_take, hk]
/-- Where a rune stands, the try of its length succeeds. -/
theorem dec_try (L : List Int) (hl : L ≠ []) (hn : NN L) (h : (dec1 L).2.2 = 0) : ∃ n, 1 ≤ n ∧ n ≤ 4 ∧ n ≤ L.length ∧ Try1 L n := by
  obtain ⟨hb, h1, h2, h3⟩ := dec_inv L hl hn.getD h
  generalize (dec1 L).1 = r at *
  have h4 := encB_len r
  refine ⟨(encB r).length, by omega, by omega, h3, ?_⟩
  have key : vAt L (encB r).length = r := by
    have hb' := hb
    unfold Bad at hb'
    by_cases q1 : r < 128
    · rw [enc1 q1] at h2 ⊢
      have g0 := getD_of_take (k := 0) h2 (by simp)
      simp at g0
      simp [vAt, g0]
    by_cases q2 : r < 2048
    · rw [enc2 (by omega) q2] at h2 ⊢
      have g0 := getD_of_take (k := 0) h2 (by simp)
      have g1 := getD_of_take (k := 1) h2 (by simp)
      simp only [List.getD_cons_zero, List.getD_cons_succ] at g0 g1
      show vAt L 2 = r
      rw [vAt, if_neg (by omega), val2, g0, g1]
      omega
    by_cases q3 : r < 65536
    · rw [enc3 (by omega) q3] at h2 ⊢
      have g0 := getD_of_take (k := 0) h2 (by simp)
      have g1 := getD_of_take (k := 1) h2 (by simp)
      have g2 := getD_of_take (k := 2) h2 (by simp)
      simp only [List.getD_cons_zero, List.getD_cons_succ] at g0 g1 g2
      show vAt L 3 = r
      rw [vAt, if_neg (by omega), val3, g0, g1, g2]
      omega
    · rw [enc4 (by omega)] at h2 ⊢
      have g0 := getD_of_take (k := 0) h2 (by simp)
      have g1 := getD_of_take (k := 1) h2 (by simp)
      have g2 := getD_of_take (k := 2) h2 (by simp)
      have g3 := getD_of_take (k := 3) h2 (by simp)
      simp only [List.getD_cons_zero, List.getD_cons_succ] at g0 g1 g2 g3
      show vAt L 4 = r
      rw [vAt, if_neg (by omega), val4, g0, g1, g2, g3]
      omega
  refine ⟨?_, ?_⟩
  · rw [key, refPut_ok hb]
  · rw [key, refPut_ok hb, h2]

/-- The steps between the least rune and the greatest that bytes begin, so many bytes missing. -/
def stp (j : Nat) : Int := if j = 1 then 1 else if j = 2 then 65 else 4161
def loV (F : List Int) (t : Nat) : Int := valL (F ++ List.replicate (t - F.length) 128) t
def hiV (F : List Int) (t : Nat) : Int := valL (F ++ List.replicate (t - F.length) 191) t
def rK (F : List Int) (t k : Nat) : Int := loV F t + stp (t - F.length) * k
def Tl (F : List Int) : Prop := ∀ i, 1 ≤ i → i < F.length → 128 ≤ F.getD i 0 ∧ F.getD i 0 ≤ 191
def Fst (F : List Int) (t : Nat) : Prop := (t = 2 ∧ 192 ≤ F.getD 0 0 ∧ F.getD 0 0 < 224) ∨ (t = 3 ∧ 224 ≤ F.getD 0 0 ∧ F.getD 0 0 < 240) ∨ (t = 4 ∧ 240 ≤ F.getD 0 0 ∧ F.getD 0 0 < 248)
def Hit (F : List Int) (t k : Nat) : Prop := (refPut (rK F t k)).length = t ∧ (refPut (rK F t k)).take F.length = F
def Srch (F : List Int) (t : Nat) : Prop := Tl F ∧ Fst F t ∧ ∃ k, k < 64 ∧ Hit F t k

theorem hi_lo (F : List Int) (t : Nat) (h1 : 1 ≤ F.length) (h2 : F.length < t) (h3 : t ≤ 4) : hiV F t = loV F t + stp (t - F.length) * 63 := by
  match F, h1, h2 with
  | [a], _, h2 =>
    have : t = 2 ∨ t = 3 ∨ t = 4 := by simp only [List.length_cons, List.length_nil] at h2; omega
    rcases this with rfl | rfl | rfl
    · simp [hiV, loV, val2, stp, List.replicate] <;> try omega
    · simp [hiV, loV, val3, stp, List.replicate] <;> try omega
    · simp [hiV, loV, val4, stp, List.replicate] <;> try omega
  | [a, b], _, h2 =>
    have : t = 3 ∨ t = 4 := by simp at h2; omega
    rcases this with rfl | rfl
    · simp [hiV, loV, val3, stp, List.replicate] <;> try omega
    · simp [hiV, loV, val4, stp, List.replicate] <;> try omega
  | [a, b, c], _, h2 =>
    have : t = 4 := by simp at h2; omega
    subst this
    simp [hiV, loV, val4, stp, List.replicate] <;> try omega
  | a :: b :: c :: d :: F, _, h2 => simp at h2; omega

theorem hit_cut (F : List Int) (t k : Nat) (h1 : 1 ≤ F.length) (h2 : F.length < t) (h : Hit F t k) : (dec1 F).2.2 = 7 := by
  obtain ⟨a, b⟩ := h
  have hb : ¬ Bad (rK F t k) := refPut_pos (by omega)
  rw [refPut_ok hb] at a b
  have := dec_cut (rK F t k) F.length hb h1 (by omega)
  rw [b] at this
  rw [this]

theorem hit2 (F : List Int) (k : Nat) (hF : F.length = 1) (h0 : 194 ≤ F.getD 0 0) (h1 : F.getD 0 0 < 224) : Hit F 2 0 := by
  match F, hF with
  | [a], _ =>
    simp at h0 h1
    have hr : rK [a] 2 0 = (a - 192) * 64 := by simp [rK, loV, val2, stp, List.replicate]
    unfold Hit
    rw [hr, refPut_ok (by unfold Bad; omega), enc2 (by omega) (by omega)]
    refine ⟨rfl, ?_⟩
    exact cons_eq (by omega) rfl
theorem hit3 (a : Int) (h0 : 224 ≤ a) (h1 : a < 240) : ∃ k, k < 64 ∧ Hit [a] 3 k := by
  by_cases e : a = 224
  · subst e
    refine ⟨32, by omega, ?_⟩
    have hr : rK [224] 3 32 = 2080 := by decide
    unfold Hit
    rw [hr]
    decide
  · refine ⟨0, by omega, ?_⟩
    have hr : rK [a] 3 0 = (a - 224) * 64 * 64 := by simp [rK, loV, val3, stp, List.replicate]
    unfold Hit
    rw [hr, refPut_ok (by unfold Bad; omega), enc3 (by omega) (by omega)]
    refine ⟨rfl, ?_⟩
    exact cons_eq (by omega) rfl
theorem hit4 (a : Int) (h0 : 240 ≤ a) (h1 : a < 245) : ∃ k, k < 64 ∧ Hit [a] 4 k := by
  by_cases e : a = 240
  · subst e
    refine ⟨16, by omega, ?_⟩
    have hr : rK [240] 4 16 = 66576 := by decide
    unfold Hit
    rw [hr]
    decide
  · refine ⟨0, by omega, ?_⟩
    have hr : rK [a] 4 0 = (a - 240) * 64 * 64 * 64 := by simp [rK, loV, val4, stp, List.replicate]
    unfold Hit
    rw [hr, refPut_ok (by unfold Bad; omega), enc4 (by omega)]
    refine ⟨rfl, ?_⟩
    exact cons_eq (by omega) rfl
theorem hit32 (a b : Int) (h0 : 224 ≤ a) (h1 : a < 240) (h2 : 128 ≤ b) (h3 : b ≤ 191) (h4 : a = 224 → 160 ≤ b) (h5 : a = 237 → b ≤ 159) : Hit [a, b] 3 0 := by
  have hr : rK [a, b] 3 0 = ((a - 224) * 64 + (b - 128)) * 64 := by simp [rK, loV, val3, stp, List.replicate]
  unfold Hit
  rw [hr, refPut_ok (by unfold Bad; omega), enc3 (by omega) (by omega)]
  refine ⟨rfl, ?_⟩
  exact cons_eq (by omega) (cons_eq (by omega) rfl)
theorem hit42 (a b : Int) (h0 : 240 ≤ a) (h1 : a < 245) (h2 : 128 ≤ b) (h3 : b ≤ 191) (h4 : a = 240 → 144 ≤ b) (h5 : a = 244 → b ≤ 143) : Hit [a, b] 4 0 := by
  have hr : rK [a, b] 4 0 = ((a - 240) * 64 + (b - 128)) * 64 * 64 := by simp [rK, loV, val4, stp, List.replicate]
  unfold Hit
  rw [hr, refPut_ok (by unfold Bad; omega), enc4 (by omega)]
  refine ⟨rfl, ?_⟩
  exact cons_eq (by omega) (cons_eq (by omega) rfl)
theorem hit43 (a b c : Int) (h0 : 240 ≤ a) (h1 : a < 245) (h2 : 128 ≤ b) (h3 : b ≤ 191) (h4 : a = 240 → 144 ≤ b) (h5 : a = 244 → b ≤ 143) (h6 : 128 ≤ c) (h7 : c ≤ 191) : Hit [a, b, c] 4 0 := by
  have hr : rK [a, b, c] 4 0 = (((a - 240) * 64 + (b - 128)) * 64 + (c - 128)) * 64 := by simp [rK, loV, val4, stp, List.replicate]
  unfold Hit
  rw [hr, refPut_ok (by unfold Bad; omega), enc4 (by omega)]
  refine ⟨rfl, ?_⟩
  exact cons_eq (by omega) (cons_eq (by omega) (cons_eq (by omega) rfl))

/-- What canon says of so few bytes, where it says that they are cut off. -/
theorem cut_1 (a : Int) (h : (dec1 [a]).2.2 = 7) : 194 ≤ a ∧ a < 245 := by
  by_cases q : 194 ≤ a ∧ a < 245
  · exact q
  · exfalso
    simp [dec1, canon] at h
    repeat' split at h
    all_goals first | omega | simp at h
def C7 (P : Prop) (x : Int × Int × Int) : Prop := x.2.2 = 7 → P
theorem c7_ite {P : Prop} {c : Prop} [Decidable c] {x y : Int × Int × Int} (h1 : c → C7 P x) (h2 : ¬ c → C7 P y) : C7 P (if c then x else y) := by
  by_cases h : c
  · rw [if_pos h]; exact h1 h
  · rw [if_neg h]; exact h2 h
theorem c7_2 {P : Prop} : C7 P (0, 0, 2) := fun h => by simp at h
theorem c7_0 {P : Prop} {r n : Int} : C7 P (r, n, 0) := fun h => by simp at h
theorem c7_7 {P : Prop} (h : P) : C7 P (0, 0, 7) := fun _ => h
theorem cut_2 (a b : Int) (h : (dec1 [a, b]).2.2 = 7) : (224 ≤ a ∧ a < 240 ∧ 128 ≤ b ∧ b ≤ 191 ∧ (a = 224 → 160 ≤ b) ∧ (a = 237 → b ≤ 159)) ∨ (240 ≤ a ∧ a < 245 ∧ 128 ≤ b ∧ b ≤ 191 ∧ (a = 240 → 144 ≤ b) ∧ (a = 244 → b ≤ 143)) := by
  refine (?_ : C7 _ (dec1 [a, b])) h
  unfold dec1 canon
  simp only [List.getD_cons_zero, List.getD_cons_succ, List.length_cons, List.length_nil]
  refine c7_ite (fun _ => c7_0) fun n1 => c7_ite (fun _ => c7_2) fun n2 => ?_
  refine c7_ite (fun q => c7_ite (fun q => by omega) fun _ => c7_ite (fun _ => c7_2) fun _ => c7_0) fun n3 => ?_
  refine c7_ite (fun q => c7_ite (fun q => by omega) fun _ => c7_ite (fun _ => c7_2) fun n4 => c7_ite (fun _ => c7_7 (.inl ?_)) fun q => by omega) fun n4 => ?_
  · refine ⟨by omega, by omega, ?_, ?_, ?_, ?_⟩
    · by_cases e : a = 224
      · rw [if_pos e] at n4; omega
      · rw [if_neg e] at n4; omega
    · by_cases e : a = 237
      · rw [if_pos e] at n4; omega
      · rw [if_neg e] at n4; omega
    · intro e; rw [if_pos e] at n4; omega
    · intro e; rw [if_pos e] at n4; omega
  refine c7_ite (fun q => c7_ite (fun q => by omega) fun _ => c7_ite (fun _ => c7_2) fun n5 => c7_ite (fun _ => c7_7 (.inr ?_)) fun q => by omega) fun _ => c7_2
  refine ⟨by omega, by omega, ?_, ?_, ?_, ?_⟩
  · by_cases e : a = 240
    · rw [if_pos e] at n5; omega
    · rw [if_neg e] at n5; omega
  · by_cases e : a = 244
    · rw [if_pos e] at n5; omega
    · rw [if_neg e] at n5; omega
  · intro e; rw [if_pos e] at n5; omega
  · intro e; rw [if_pos e] at n5; omega
theorem cut_3 (a b c : Int) (h : (dec1 [a, b, c]).2.2 = 7) : 240 ≤ a ∧ a < 245 ∧ 128 ≤ b ∧ b ≤ 191 ∧ (a = 240 → 144 ≤ b) ∧ (a = 244 → b ≤ 143) ∧ 128 ≤ c ∧ c ≤ 191 := by
  refine (?_ : C7 _ (dec1 [a, b, c])) h
  unfold dec1 canon
  simp only [List.getD_cons_zero, List.getD_cons_succ, List.length_cons, List.length_nil]
  refine c7_ite (fun _ => c7_0) fun n1 => c7_ite (fun _ => c7_2) fun n2 => ?_
  refine c7_ite (fun q => c7_ite (fun q => by omega) fun _ => c7_ite (fun _ => c7_2) fun _ => c7_0) fun n3 => ?_
  refine c7_ite (fun q => c7_ite (fun q => by omega) fun _ => c7_ite (fun _ => c7_2) fun n4 => c7_ite (fun q => by omega) fun q => c7_ite (fun _ => c7_2) fun _ => c7_0) fun n4 => ?_
  refine c7_ite (fun q => c7_ite (fun q => by omega) fun _ => c7_ite (fun _ => c7_2) fun n5 => c7_ite (fun q => by omega) fun q => c7_ite (fun _ => c7_2) fun n6 => c7_ite (fun _ => c7_7 ?_) fun q => by omega) fun _ => c7_2
  refine ⟨by omega, by omega, ?_, ?_, ?_, ?_, by omega, by omega⟩
  · by_cases e : a = 240
    · rw [if_pos e] at n5; omega
    · rw [if_neg e] at n5; omega
  · by_cases e : a = 244
    · rw [if_pos e] at n5; omega
    · rw [if_neg e] at n5; omega
  · intro e; rw [if_pos e] at n5; omega
  · intro e; rw [if_pos e] at n5; omega
theorem cut_4 (L : List Int) (h : 4 ≤ L.length) : (dec1 L).2.2 ≠ 7 := by
  intro h7
  refine (?_ : C7 False (dec1 L)) h7
  unfold dec1 canon
  refine c7_ite (fun _ => c7_0) fun n1 => c7_ite (fun _ => c7_2) fun n2 => ?_
  refine c7_ite (fun q => c7_ite (fun q => by omega) fun _ => c7_ite (fun _ => c7_2) fun _ => c7_0) fun n3 => ?_
  refine c7_ite (fun q => c7_ite (fun q => by omega) fun _ => c7_ite (fun _ => c7_2) fun n4 => c7_ite (fun q => by omega) fun q => c7_ite (fun _ => c7_2) fun _ => c7_0) fun n4 => ?_
  exact c7_ite (fun q => c7_ite (fun q => by omega) fun _ => c7_ite (fun _ => c7_2) fun n5 => c7_ite (fun q => by omega) fun q => c7_ite (fun _ => c7_2) fun n6 => c7_ite (fun q => by omega) fun _ => c7_ite (fun _ => c7_2) fun _ => c7_0) fun _ => c7_2

/-- Bytes, few of them: they are cut off just where the search finds a rune. -/
theorem srch_iff (F : List Int) (h1 : 1 ≤ F.length) (h3 : F.length ≤ 3) : (∃ t, F.length < t ∧ t ≤ 4 ∧ Srch F t) ↔ (dec1 F).2.2 = 7 := by
  refine ⟨fun ⟨t, a, b, _, _, k, _, hk⟩ => hit_cut F t k h1 a hk, fun h => ?_⟩
  match F, h1, h3, h with
  | [a], _, _, h =>
    obtain ⟨q1, q2⟩ := cut_1 a h
    have ht : Tl [a] := fun i i1 i2 => by simp at i2; omega
    by_cases c1 : a < 224
    · exact ⟨2, by simp, by omega, ht, .inl ⟨rfl, by simp; omega, by simpa using c1⟩, 0, by omega, hit2 [a] 0 rfl (by simpa using q1) (by simpa using c1)⟩
    by_cases c2 : a < 240
    · exact ⟨3, by simp, by omega, ht, .inr (.inl ⟨rfl, by simp; omega, by simpa using c2⟩), hit3 a (by omega) c2⟩
    · exact ⟨4, by simp, by omega, ht, .inr (.inr ⟨rfl, by simp; omega, by simp; omega⟩), hit4 a (by omega) q2⟩
  | [a, b], _, _, h =>
    have ht : 128 ≤ b → b ≤ 191 → Tl [a, b] := fun b1 b2 i i1 i2 => by
      have : i = 1 := by simp at i2; omega
      subst this
      simp; omega
    rcases cut_2 a b h with ⟨q1, q2, q3, q4, q5, q6⟩ | ⟨q1, q2, q3, q4, q5, q6⟩
    · exact ⟨3, by simp, by omega, ht q3 q4, .inr (.inl ⟨rfl, by simpa using q1, by simpa using q2⟩), 0, by omega, hit32 a b q1 q2 q3 q4 q5 q6⟩
    · exact ⟨4, by simp, by omega, ht q3 q4, .inr (.inr ⟨rfl, by simpa using q1, by simp; omega⟩), 0, by omega, hit42 a b q1 q2 q3 q4 q5 q6⟩
  | [a, b, c], _, _, h =>
    obtain ⟨q1, q2, q3, q4, q5, q6, q7, q8⟩ := cut_3 a b c h
    have ht : Tl [a, b, c] := fun i i1 i2 => by
      have : i = 1 ∨ i = 2 := by simp at i2; omega
      rcases this with rfl | rfl
      · simp; omega
      · simp; omega
    exact ⟨4, by simp, by omega, ht, .inr (.inr ⟨rfl, by simpa using q1, by simp; omega⟩), 0, by omega, hit43 a b c q1 q2 q3 q4 q5 q6 q7 q8⟩
end Go.Proofs.YtjboglpnpgghiaaDoor

/- The walk of the document's Put. -/
set_option linter.unusedSimpArgs false
set_option linter.unusedVariables false
namespace Go.Proofs.YtjboglpnpgghiaaDoor
open Go.RowKit

def RefPutPost (w : World) (l : List Int) (e : Ending) (w' : World) : Prop := ∃ v, e = .returned v ∧ OwnB w' w.heap.size v l ∧ Below w.heap.size w w'

theorem refput_post (w : World) (ys : List Int) (cs : Array Value) (h : cs.toList = ys.map (Value.int .u8)) (hl : ys.length ≤ 10000) :
    RefPutPost w ys (.returned (.slice (some ⟨w.heap.size, 0, none⟩) ys.length ys.length)) (w.alloc (.cells cs 5)) := by
  refine ⟨_, rfl, ?_, (Below.refl _ w).alloc (Nat.le_refl _) _⟩
  unfold OwnB
  have := World.ownsRow_lit (base := w.heap.size) (e := 5) (size := 1) w cs ys.length (Nat.le_refl _) (by unfold maxLen; omega) (by rw [← Array.length_toList, h]; simp)
  rw [h] at this
  exact this

set_option maxHeartbeats 1000000 in
set_option maxRecDepth 100000 in
theorem refput1 (r : Int) (w : World) (h0 : 0 ≤ r) (h1 : r < 128) : Calls Tryd.prog 63 #[.int .i64 r] w (RefPutPost w [r]) := by
  go_enter Tryd.func63, Tryd.ntmps63
  go_wp2
  go_ret
  exact refput_post w [r] #[.int .u8 (r)] rfl (by simp)

set_option maxHeartbeats 1000000 in
set_option maxRecDepth 100000 in
theorem refput2 (r : Int) (w : World) (h0 : 128 ≤ r) (h1 : r < 2048) : Calls Tryd.prog 63 #[.int .i64 r] w (RefPutPost w [192 + r / 64, 128 + r % 64]) := by
  go_enter Tryd.func63, Tryd.ntmps63
  go_wp2
  go_ret
  exact refput_post w [192 + r / 64, 128 + r % 64] #[.int .u8 (192 + r / 64), .int .u8 (128 + r % 64)] rfl (by simp)

set_option maxHeartbeats 1000000 in
set_option maxRecDepth 100000 in
theorem refput3a (r : Int) (w : World) (h0 : 2048 ≤ r) (h1 : r < 55296) : Calls Tryd.prog 63 #[.int .i64 r] w (RefPutPost w [224 + r / 4096, 128 + r / 64 % 64, 128 + r % 64]) := by
  go_enter Tryd.func63, Tryd.ntmps63
  go_wp2
  go_ret
  exact refput_post w [224 + r / 4096, 128 + r / 64 % 64, 128 + r % 64] #[.int .u8 (224 + r / 4096), .int .u8 (128 + r / 64 % 64), .int .u8 (128 + r % 64)] rfl (by simp)

set_option maxHeartbeats 1000000 in
set_option maxRecDepth 100000 in
theorem refput3b (r : Int) (w : World) (h0 : 57343 < r) (h1 : r < 65536) : Calls Tryd.prog 63 #[.int .i64 r] w (RefPutPost w [224 + r / 4096, 128 + r / 64 % 64, 128 + r % 64]) := by
  go_enter Tryd.func63, Tryd.ntmps63
  go_wp2
  go_ret
  exact refput_post w [224 + r / 4096, 128 + r / 64 % 64, 128 + r % 64] #[.int .u8 (224 + r / 4096), .int .u8 (128 + r / 64 % 64), .int .u8 (128 + r % 64)] rfl (by simp)

set_option maxHeartbeats 1000000 in
set_option maxRecDepth 100000 in
theorem refput4 (r : Int) (w : World) (h0 : 65536 ≤ r) (h1 : r ≤ 1114111) : Calls Tryd.prog 63 #[.int .i64 r] w (RefPutPost w [240 + r / 262144, 128 + r / 4096 % 64, 128 + r / 64 % 64, 128 + r % 64]) := by
  go_enter Tryd.func63, Tryd.ntmps63
  go_wp2
  go_ret
  exact refput_post w [240 + r / 262144, 128 + r / 4096 % 64, 128 + r / 64 % 64, 128 + r % 64] #[.int .u8 (240 + r / 262144), .int .u8 (128 + r / 4096 % 64), .int .u8 (128 + r / 64 % 64), .int .u8 (128 + r % 64)] rfl (by simp)

set_option maxHeartbeats 1000000 in
set_option maxRecDepth 100000 in
theorem refputbad1 (r : Int) (w : World) (h0 : r < 0) : Calls Tryd.prog 63 #[.int .i64 r] w (RefPutPost w []) := by
  go_enter Tryd.func63, Tryd.ntmps63
  go_wp2
  go_ret
  exact ⟨_, rfl, World.ownsRow_nil _ _ _ _, Below.refl _ _⟩

set_option maxHeartbeats 1000000 in
set_option maxRecDepth 100000 in
theorem refputbad2 (r : Int) (w : World) (h0 : 1114111 < r) : Calls Tryd.prog 63 #[.int .i64 r] w (RefPutPost w []) := by
  go_enter Tryd.func63, Tryd.ntmps63
  go_wp2
  go_ret
  exact ⟨_, rfl, World.ownsRow_nil _ _ _ _, Below.refl _ _⟩

set_option maxHeartbeats 1000000 in
set_option maxRecDepth 100000 in
theorem refputbad3 (r : Int) (w : World) (h0 : 55296 ≤ r) (h1 : r ≤ 57343) : Calls Tryd.prog 63 #[.int .i64 r] w (RefPutPost w []) := by
  go_enter Tryd.func63, Tryd.ntmps63
  go_wp2
  go_ret
  exact ⟨_, rfl, World.ownsRow_nil _ _ _ _, Below.refl _ _⟩

theorem refput_any (r : Int) (w : World) : Calls Tryd.prog 63 #[.int .i64 r] w (RefPutPost w (refPut r)) := by
  by_cases hb : Bad r
  · rw [refPut, if_pos hb]
    rcases hb with h | h | ⟨h, h2⟩
    · exact refputbad1 r w h
    · exact refputbad2 r w h
    · exact refputbad3 r w h h2
  · rw [refPut, if_neg hb]
    unfold Bad at hb
    by_cases h1 : r < 128
    · rw [enc1 h1]; exact refput1 r w (by omega) h1
    by_cases h2 : r < 2048
    · rw [enc2 (by omega) h2]; exact refput2 r w (by omega) h2
    by_cases h3 : r < 55296
    · rw [enc3 (by omega) (by omega)]; exact refput3a r w (by omega) h3
    by_cases h4 : r < 65536
    · rw [enc3 (by omega) (by omega)]; exact refput3b r w (by omega) h4
    · rw [enc4 (by omega)]; exact refput4 r w (by omega) (by omega)
end Go.Proofs.YtjboglpnpgghiaaDoor

/- The walk of the document's begins. -/
set_option linter.unusedSimpArgs false
set_option linter.unusedVariables false
namespace Go.Proofs.YtjboglpnpgghiaaDoor
open Go.RowKit

theorem below_drewN {B : Nat} {w w' : World} (h : Below B w w') (n : Nat) : Below B w (w'.drewN n) := ⟨h.os, h.tape, h.output, h.size, h.block⟩
def begP (s : ByteArray) (a : Nat) (L : List Int) : Prop := 0 < L.length ∧ a + L.length ≤ s.size ∧ ∀ j, j < L.length → bt s (a + j) = L.getD j 0
def BegRel (s : ByteArray) (a : Nat) (L : List Int) (w : World) (i : Value) (wr : World) : Prop :=
  ∃ k : Nat, k ≤ L.length ∧ i = .int .i64 k ∧ (∀ j, j < k → bt s (a + j) = L.getD j 0) ∧ Below w.heap.size w wr
def BegPost (s : ByteArray) (a : Nat) (L : List Int) (w : World) (e : Ending) (w' : World) : Prop :=
  ∃ b : Bool, e = .returned (.bool b) ∧ (b = true ↔ begP s a L) ∧ Below w.heap.size w w'

set_option maxHeartbeats 1000000 in
set_option maxRecDepth 100000 in
theorem begins_post (s : ByteArray) (a : Nat) (A : Option Addr) (c : Nat) (L : List Int) (w : World) (h : Rd .u8 w w.heap.size A L) (hs : s.size ≤ 100000) (hL : L.length ≤ 100000) (ha : a ≤ 100000) :
    Calls Tryd.prog 64 #[.string s, .int .i64 a, .slice A L.length c] w (BegPost s a L w) := by
  obtain ⟨n, hn⟩ : ∃ n, n = L.length := ⟨_, rfl⟩
  rw [← hn]
  have HN := Lib.hid hn
  have hn1 : n ≤ L.length := by omega
  have hn2 : L.length ≤ n := by omega
  clear hn
  by_cases h0 : n = 0
  · have t0 : ((n : Int) == 0) = true := by simp; omega
    have HP : Hid (¬ begP s a L) := fun hp => by have := hp.1; omega
    clear h0
    go_enter Tryd.func64, Tryd.ntmps64
    go_wp2
    go_ret
    exact ⟨false, rfl, by simp; exact HP.out, Below.refl _ _⟩
  have t0 : ((n : Int) == 0) = false := by simp; omega
  by_cases h1 : s.size < a + n
  · have t1 : decide ((s.size : Int) < (a : Int) + (n : Int)) = true := by simp; omega
    have HP : Hid (¬ begP s a L) := fun hp => by have := hp.2.1; omega
    clear h0
    go_enter Tryd.func64, Tryd.ntmps64
    go_wp2
    go_ret
    exact ⟨false, rfl, by simp; exact HP.out, Below.refl _ _⟩
  have t1 : decide ((s.size : Int) < (a : Int) + (n : Int)) = false := by simp; omega
  have hfit : a + n ≤ s.size := by omega
  have hpos : 0 < n := by omega
  clear h0 h1
  go_enter Tryd.func64, Tryd.ntmps64
  go_wp2_with fail
  go_loopw [7] (fun i wr => BegRel s a L w i wr) (fun i _ => L.length - (intOf i).toNat)
  case atStart => exact ⟨0, Nat.zero_le _, rfl, fun j hj => by omega, Below.refl _ _⟩
  case round =>
    obtain ⟨k, hk, rfl, hall, hbel⟩ := hrel
    have HA := Lib.hid hall
    clear hall
    by_cases hlt : k < n
    · obtain ⟨b, off, rfl, hb, hc⟩ := (h.below hbel).at_ (j := k) (by omega)
      have hbe := bt_eq s (a + k) (by omega)
      have hi1 : (a : Int) + (k : Int) < (s.size : Int) := by omega
      have hi2 : (k : Int) < (n : Int) := by omega
      by_cases he : bt s (a + k) = L.getD k 0
      · have HR : Hid (∀ j, j < k + 1 → bt s (a + j) = L.getD j 0) := fun j hj => by
          rcases Nat.lt_or_ge j k with hj' | hj'
          · exact HA.out j hj'
          · obtain rfl : j = k := by omega
            exact he
        have te : ((s[a + k].toNat : Int) != L.getD k 0) = false := by rw [hbe]; simpa using he
        clear he hbe HA
        generalize L.getD k 0 = x at *
        go_wp2_with fail
        have q1 : (0 : Int) ≤ (a : Int) + (k : Int) := by omega
        have q3 : ((a : Int) + (k : Int)).toNat = a + k := by omega
        have q2 : IntKind.i64.wrap ((a : Int) + (k : Int)) = (a : Int) + (k : Int) := IntWalk.i64_in _ (by omega)
        go_quiet (fail)
        go_wp2
        go_roundw
        case rel =>
          exact ⟨k + 1, by omega, by go_num, HR.out, below_drewN hbel _⟩
        case measure => simp [intOf]; omega
      · have te : ((s[a + k].toNat : Int) != L.getD k 0) = true := by rw [hbe]; simpa using he
        have HP : Hid (¬ begP s a L) := fun hp => he (hp.2.2 k (by omega))
        clear he hbe
        generalize L.getD k 0 = x at *
        go_wp2_with fail
        have q1 : (0 : Int) ≤ (a : Int) + (k : Int) := by omega
        have q3 : ((a : Int) + (k : Int)).toNat = a + k := by omega
        have q2 : IntKind.i64.wrap ((a : Int) + (k : Int)) = (a : Int) + (k : Int) := IntWalk.i64_in _ (by omega)
        go_quiet (fail)
        go_wp2
        go_ret
        exact ⟨false, rfl, by simp; exact HP.out, below_drewN hbel _⟩
    · have HP : Hid (begP s a L) := ⟨by omega, by omega, fun j hj => HA.out j (by omega)⟩
      go_wp2
      go_ret
      exact ⟨true, rfl, by simp; exact HP.out, hbel⟩

theorem begins_yes (s : ByteArray) (a : Nat) (A : Option Addr) (c : Nat) (L : List Int) (w : World) (h : Rd .u8 w w.heap.size A L) (hs : s.size ≤ 100000) (hL : L.length ≤ 100000) (ha : a ≤ 100000) (hp : begP s a L) :
    Calls Tryd.prog 64 #[.string s, .int .i64 a, .slice A L.length c] w fun e w' => e = .returned (.bool true) ∧ Below w.heap.size w w' :=
  (begins_post s a A c L w h hs hL ha).mono fun e w' ⟨b, h1, h2, h3⟩ => ⟨by rw [h1, h2.2 hp], h3⟩
theorem begins_no (s : ByteArray) (a : Nat) (A : Option Addr) (c : Nat) (L : List Int) (w : World) (h : Rd .u8 w w.heap.size A L) (hs : s.size ≤ 100000) (hL : L.length ≤ 100000) (ha : a ≤ 100000) (hp : ¬ begP s a L) :
    Calls Tryd.prog 64 #[.string s, .int .i64 a, .slice A L.length c] w fun e w' => e = .returned (.bool false) ∧ Below w.heap.size w w' :=
  (begins_post s a A c L w h hs hL ha).mono fun e w' ⟨b, h1, h2, h3⟩ => ⟨by rw [h1, Bool.eq_false_iff.2 fun hb => hp (h2.1 hb)], h3⟩
end Go.Proofs.YtjboglpnpgghiaaDoor

/- What the walk of the document's cut needs. -/
set_option linter.unusedSimpArgs false
set_option linter.unusedVariables false
namespace Go.Proofs.YtjboglpnpgghiaaDoor
open Go.RowKit

def CutPost (F : List Int) (w : World) (e : Ending) (w' : World) : Prop :=
  ∃ b : Bool, e = .returned (.bool b) ∧ (b = true ↔ (dec1 F).2.2 = 7) ∧ Below w.heap.size w w'
def CutRel (F : List Int) (w : World) (t : Value) (wr : World) : Prop :=
  ∃ k : Nat, F.length < k ∧ k ≤ 5 ∧ t = .int .i64 k ∧ (∀ j, F.length < j → j < k → ¬ Srch F j) ∧ Below w.heap.size w wr
def LowRel (F : List Int) (t : Nat) (l h : Value) : Prop :=
  ∃ (j : Nat) (lo hi : ByteArray), F.length + j ≤ t ∧ l = .string lo ∧ h = .string hi ∧ byts lo = F ++ List.replicate j 128 ∧ byts hi = F ++ List.replicate j 191
theorem byts_app (a b : ByteArray) : byts (a ++ b) = byts a ++ byts b := by
  unfold byts
  rw [ByteArray.data_append, Array.toList_append, List.map_append]
theorem rep_snoc (j : Nat) (x : Int) : List.replicate j x ++ [x] = List.replicate (j + 1) x := by
  rw [List.replicate_succ']

theorem val_bt (s : ByteArray) (n : Nat) : valG (bt s) n n = valL (byts s) n := by
  unfold valL
  congr 1
  funext k
  exact bt_byts s k
theorem F_get {s : ByteArray} {a : Nat} {F : List Int} (h : F = (byts s).drop a) (k : Nat) (hk : a + k < s.size) : ((s[a + k]'hk).toNat : Int) = F.getD k 0 := by
  rw [bt_eq s (a + k) hk, bt_byts, h]
  simp [List.getD_eq_getElem?_getD, List.getElem?_drop]
theorem tl_step {F : List Int} {k : Nat} {c d : Bool} (hc : c = true ↔ ∀ j, 1 ≤ j → j < k → 128 ≤ F.getD j 0 ∧ F.getD j 0 ≤ 191) (hk : 1 ≤ k)
    (hd : d = true ↔ c = true ∧ 128 ≤ F.getD k 0 ∧ F.getD k 0 ≤ 191) : d = true ↔ ∀ j, 1 ≤ j → j < k + 1 → 128 ≤ F.getD j 0 ∧ F.getD j 0 ≤ 191 := by
  rw [hd, hc]
  refine ⟨fun ⟨h1, h2⟩ j j1 j2 => ?_, fun h => ⟨fun j j1 j2 => h j j1 (by omega), h k hk (by omega)⟩⟩
  rcases Nat.lt_or_ge j k with h | h
  · exact h1 j j1 h
  · obtain rfl : j = k := by omega
    exact h2
theorem F_get0 {s : ByteArray} {a : Nat} {F : List Int} (h : F = (byts s).drop a) (hk : a < s.size) : ((s[a]'hk).toNat : Int) = F.getD 0 0 := F_get h 0 hk
def TlRel (F : List Int) (b i : Value) : Prop :=
  ∃ (k : Nat) (c : Bool), 1 ≤ k ∧ k ≤ F.length ∧ i = .int .i64 k ∧ b = .bool c ∧ (c = true ↔ ∀ j, 1 ≤ j → j < k → 128 ≤ F.getD j 0 ∧ F.getD j 0 ≤ 191)

theorem stp_bd (j : Nat) : 1 ≤ stp j ∧ stp j ≤ 4161 := by unfold stp; repeat' split <;> omega
theorem stp_mul (j k : Nat) (hk : k ≤ 64) : 0 ≤ stp j * (k : Int) ∧ stp j * (k : Int) ≤ 300000 := by
  have h := stp_bd j
  refine ⟨Int.mul_nonneg (by omega) (by omega), ?_⟩
  have : stp j * (k : Int) ≤ 4161 * 64 := Int.mul_le_mul h.2 (by omega) (by omega) (by omega)
  omega
/-- What the search compares, where the lengths agree. -/
theorem begP_hit (q F : List Int) (h0 : NN q) (h1 : ∀ x ∈ q, x ≤ 255) (hF : 0 < F.length) (hlt : F.length < q.length) :
    begP (strOfNums q ++ ⟨#[120]⟩) 0 F ↔ q.take F.length = F := by
  have hb : byts (strOfNums q ++ (⟨#[120]⟩ : ByteArray)) = q ++ [120] := by rw [byts_app, byts_str q h0 h1]; rfl
  have hz : (strOfNums q ++ (⟨#[120]⟩ : ByteArray)).size = q.length + 1 := by rw [← byts_len, hb]; simp
  have hg : ∀ j, j < F.length → bt (strOfNums q ++ (⟨#[120]⟩ : ByteArray)) (0 + j) = q.getD j 0 := fun j hj => by
    rw [bt_byts, hb, Nat.zero_add]
    rw [List.getD_eq_getElem?_getD, List.getElem?_append_left (by omega), List.getD_eq_getElem?_getD]
  refine ⟨fun ⟨_, _, h⟩ => ?_, fun h => ⟨hF, by omega, fun j hj => ?_⟩⟩
  · refine List.ext_getElem (by rw [List.length_take]; omega) fun i i1 i2 => ?_
    have := h i i2
    rw [hg i i2] at this
    simp only [List.getD_eq_getElem?_getD, List.getElem?_eq_getElem i2, List.getElem?_eq_getElem (show i < q.length by omega), Option.getD_some] at this
    rw [List.getElem_take]
    exact this
  · rw [hg j hj]
    have := congrArg (fun l => l.getD j 0) h
    simp only [List.getD_eq_getElem?_getD, List.getElem?_take, hj, if_true] at this ⊢
    exact this
theorem begins0 (s : ByteArray) (A : Option Addr) (c m : Nat) (L : List Int) (w : World) (h : Rd .u8 w w.heap.size A L) (hs : s.size ≤ 100000) (hL : L.length ≤ 100000) (hm : m = L.length) (b : Bool) (hp : b = true ↔ begP s 0 L) :
    Calls Tryd.prog 64 #[.string s, .int .i64 0, .slice A m c] w fun e w' => e = .returned (.bool b) ∧ Below w.heap.size w w' := by
  subst hm
  cases b with
  | true => exact begins_yes s 0 A c L w h hs hL (by omega) (hp.1 rfl)
  | false => exact begins_no s 0 A c L w h hs hL (by omega) fun hq => by cases hp.2 hq
/-- The bytes that '[]byte(s)' lays. -/
theorem rd_bytes (w : World) (E : ByteArray) (c : Nat) (fr : Nat × Nat) : Rd .u8 (w.alloc (.cells (bytesRow E c) 5 fr)) (w.alloc (.cells (bytesRow E c) 5 fr)).heap.size (some ⟨w.heap.size, 0, none⟩) (byts E) := by
  refine .inr ⟨w.heap.size, 0, rfl, by simp, fun j hj => ?_⟩
  rw [Nat.zero_add]
  have := cell_of_row (w.alloc (.cells (bytesRow E c) 5 fr)) w.heap.size j (bytesRow E c) 5 fr (heap_alloc_new w _)
  rw [this]
  rw [byts_len] at hj
  have hj' : j < E.data.size := hj
  simp only [bytesRow, byts, Array.getElem?_append, List.getD_eq_getElem?_getD, Array.size_map, hj', if_true, Array.getElem?_map, List.getElem?_map, Array.getElem?_toList, Array.getElem?_eq_getElem hj', Option.map_some, Option.getD_some]
def SrRel (F : List Int) (t : Nat) (w : World) (i : Value) (wr : World) : Prop :=
  ∃ k : Nat, k ≤ 64 ∧ i = .int .i64 k ∧ (∀ j, j < k → ¬ Hit F t j) ∧ Below w.heap.size w wr
theorem no_more {F : List Int} {t : Nat} (h : ∀ j, F.length < j → j < t → ¬ Srch F j) (hn : ¬ Srch F t) : ∀ j, F.length < j → j < t + 1 → ¬ Srch F j := fun j j1 j2 => by
  rcases Nat.lt_or_ge j t with h' | h'
  · exact h j j1 h'
  · obtain rfl : j = t := by omega
    exact hn

theorem refPut_nn (r : Int) : NN (refPut r) ∧ ∀ x ∈ refPut r, x ≤ 255 := by
  by_cases h : Bad r
  · rw [refPut, if_pos h]
    exact ⟨fun x hx => by simp at hx, fun x hx => by simp at hx⟩
  · rw [refPut_ok h]
    exact encB_nn r h
theorem hit_more {F : List Int} {t k : Nat} (h : ∀ j, j < k → ¬ Hit F t j) (hn : ¬ Hit F t k) : ∀ j, j < k + 1 → ¬ Hit F t j := fun j j2 => by
  rcases Nat.lt_or_ge j k with h' | h'
  · exact h j h'
  · obtain rfl : j = k := by omega
    exact hn
end Go.Proofs.YtjboglpnpgghiaaDoor
