/-
  Merged by program out of the texts KAt, CRef, Read of one seat.
-/
import Derived.Test.YtmbghdpoeahnaaaGreatDoorG02
import Derived.Test.YtmbghdpoeahnaaaGreatDoorG03
import Derived.Test.YtmbghdpoeahnaaaGreatDoorG07

/- The walks of the document's At, Find, blank, skip and Blanks. -/
set_option linter.unusedSimpArgs false
set_option linter.unusedVariables false
namespace Go.Proofs.YtmbghdpoeahnaaaGreatDoor
open Go.RowKit

theorem ba_eq (a b : ByteArray) : (a.toList == b.toList) = decide (byts a = byts b) := by
  have := eqB a b.toList (byts b) (by rw [Lib.toList_data]; rfl)
  exact this
theorem ext_pre (s x : ByteArray) (a : Nat) (h : a + x.size ≤ s.size) : (byts (s.extract a (a + x.size)) = byts x) ↔ (byts x).isPrefixOf ((byts s).drop a) = true := by
  rw [byts_extract, List.isPrefixOf_iff_prefix, List.prefix_iff_eq_take, byts_len, List.drop_take]
  rw [show a + x.size - a = x.size by omega]
  exact eq_comm
theorem pre_room (s x : ByteArray) (a : Nat) (h : ¬ a + x.size ≤ s.size) : (byts x).isPrefixOf ((byts s).drop a) = true → a ≤ s.size → False := fun h1 h2 => by
  have := (List.isPrefixOf_iff_prefix.1 h1).length_le
  rw [List.length_drop, byts_len, byts_len] at this
  omega
set_option maxHeartbeats 1000000 in
set_option maxRecDepth 100000 in
theorem rat_any (s x : ByteArray) (a : Nat) (w : World) (hs : s.size ≤ 1000000) (hx : x.size ≤ 1000000) (ha : a ≤ s.size) (b : Bool) (hb : (byts x).isPrefixOf ((byts s).drop a) = b) :
    Calls Tryz.prog 19 #[.string s, .int .i64 a, .string x] w fun e w' => e = .returned (.bool b) ∧ w = w' := by
  have q1 : IntKind.i64.wrap ((a : Int) + (x.size : Int)) = (a : Int) + (x.size : Int) := IntWalk.i64_in _ (by omega)
  have d1 : (0 : Int) ≤ (a : Int) := by omega
  by_cases hr : a + x.size ≤ s.size
  · have d2 : (a : Int) + (x.size : Int) ≤ (s.size : Int) := by omega
    have d3 : (a : Int) ≤ (a : Int) + (x.size : Int) := by omega
    have q3 : ((a : Int) + (x.size : Int)).toNat = a + x.size := by omega
    have t1 : ((s.extract a (a + x.size)).toList == x.toList) = b := by
      rw [ba_eq, ← hb, Bool.eq_iff_iff, decide_eq_true_eq]
      exact ext_pre s x a hr
    clear hb
    cases b
    all_goals
      go_enter Tryz.func19, Tryz.ntmps19
      go_wp2
      go_ret
      exact ⟨rfl, rfl⟩
  · have d2 : ¬ (a : Int) + (x.size : Int) ≤ (s.size : Int) := by omega
    have hb' : b = false := by
      cases b with
      | false => rfl
      | true => exact absurd (pre_room s x a hr hb ha) id
    subst hb'
    clear hb
    go_enter Tryz.func19, Tryz.ntmps19
    go_wp2
    go_ret
    exact ⟨rfl, rfl⟩
def FdRel (s x : ByteArray) (a : Nat) (i : Value) : Prop := ∃ k : Nat, i = .int .i64 k ∧ a ≤ k ∧ k ≤ s.size + 1 ∧ Hid (∀ j, a ≤ j → j < k → ¬ (byts x).isPrefixOf ((byts s).drop j) = true)
/-- Where a text stands from a place on, as the document's Find tells it. -/
def findI (m l : List Int) (a : Nat) : Int := match fnd m (l.drop a) with | some n => ((a + n : Nat) : Int) | none => -1
theorem occ_pre (m l : List Int) (a j : Nat) : Occ m (l.drop a) j ↔ m.isPrefixOf (l.drop (a + j)) = true := by
  unfold Occ
  rw [List.drop_drop, List.isPrefixOf_iff_prefix]
theorem findI_is {m l : List Int} {a k : Nat} (hk : a ≤ k) (hl : k ≤ l.length) (h : m.isPrefixOf (l.drop k) = true) (h2 : ∀ j, a ≤ j → j < k → ¬ m.isPrefixOf (l.drop j) = true) : findI m l a = k := by
  unfold findI
  have : fnd m (l.drop a) = some (k - a) := fnd_is (by rw [List.length_drop]; omega) ((occ_pre m l a _).2 (by rw [show a + (k - a) = k by omega]; exact h)) fun j hj ho => h2 (a + j) (by omega) (by omega) ((occ_pre m l a j).1 ho)
  rw [this]
  show ((a + (k - a) : Nat) : Int) = _
  rw [show a + (k - a) = k by omega]
theorem findI_no {m l : List Int} {a : Nat} (ha : a ≤ l.length) (h2 : ∀ j, a ≤ j → j ≤ l.length → ¬ m.isPrefixOf (l.drop j) = true) : findI m l a = -1 := by
  unfold findI
  have : fnd m (l.drop a) = none := fnd_not fun j hj ho => by
    rw [List.length_drop] at hj
    exact h2 (a + j) (by omega) (by omega) ((occ_pre m l a j).1 ho)
  rw [this]
set_option maxHeartbeats 1000000 in
set_option maxRecDepth 100000 in
theorem rfind_any (s x : ByteArray) (a : Nat) (w : World) (hs : s.size ≤ 1000000) (hx : x.size ≤ 1000000) (ha : a ≤ s.size) :
    Calls Tryz.prog 15 #[.string s, .int .i64 a, .string x] w fun e w' => e = .returned (.int .i64 (findI (byts x) (byts s) a)) ∧ w = w' := by
  have HI := Lib.hid (fun k (h1 : a ≤ k) (h2 : k ≤ s.size) h3 h4 => findI_is (m := byts x) (l := byts s) h1 (by rw [byts_len]; exact h2) h3 h4)
  have HN := Lib.hid (fun h4 => findI_no (m := byts x) (l := byts s) (a := a) (by rw [byts_len]; exact ha) h4)
  have HE := Lib.hid (ext_pre s x)
  have HR := Lib.hid (pre_room s x)
  generalize findI (byts x) (byts s) a = res at *
  go_enter Tryz.func15, Tryz.ntmps15
  go_wp2_with fail
  go_loop [7] (fun i => FdRel s x a i) (fun i => s.size + 1 - (intOf i).toNat)
  case atStart => exact ⟨a, rfl, Nat.le_refl _, by omega, Lib.hid fun j h1 h2 => by omega⟩
  case round =>
    obtain ⟨k, rfl, hk1, hk2, ho⟩ := hrel
    have q1 : IntKind.i64.wrap ((k : Int) + (x.size : Int)) = (k : Int) + (x.size : Int) := IntWalk.i64_in _ (by omega)
    by_cases hr : k + x.size ≤ s.size
    · have d0 : (0 : Int) ≤ (k : Int) := by omega
      have d2 : (k : Int) + (x.size : Int) ≤ (s.size : Int) := by omega
      have d3 : (k : Int) ≤ (k : Int) + (x.size : Int) := by omega
      have q3 : ((k : Int) + (x.size : Int)).toNat = k + x.size := by omega
      by_cases hp : (byts x).isPrefixOf ((byts s).drop k) = true
      · have t1 : ((s.extract k (k + x.size)).toList == x.toList) = true := by
          rw [ba_eq, decide_eq_true_eq]
          exact (HE.out k hr).2 hp
        have HF := Lib.hid (HI.out k hk1 (by omega) hp ho.out)
        clear hp HI HN HE HR ho
        go_wp2_with fail
        go_ret
        exact ⟨by rw [HF.out]; rfl, rfl⟩
      · have t1 : ((s.extract k (k + x.size)).toList == x.toList) = false := by
          rw [ba_eq, decide_eq_false_iff_not]
          exact fun h => hp ((HE.out k hr).1 h)
        have HO : Hid (∀ j, a ≤ j → j < k + 1 → ¬ (byts x).isPrefixOf ((byts s).drop j) = true) := Lib.hid fun j h1 h2 => by
          by_cases e : j = k
          · rw [e]; exact hp
          · exact ho.out j h1 (by omega)
        clear hp HI HN HE HR ho
        go_wp2_with fail
        go_round
        case rel => exact ⟨k + 1, by go_num, by omega, by omega, HO⟩
        case measure => simp only [intOf]; omega
    · have d2 : ¬ (k : Int) + (x.size : Int) ≤ (s.size : Int) := by omega
      have HF := Lib.hid (HN.out fun j h1 h2 h3 => by
        rw [byts_len] at h2
        rcases Nat.lt_or_ge j k with h | h
        · exact ho.out j h1 h h3
        · exact HR.out j (by omega) h3 h2)
      clear HI HN HE HR ho
      go_wp2_with fail
      go_ret
      exact ⟨by rw [HF.out]; rfl, rfl⟩
set_option maxHeartbeats 1000000 in
set_option maxRecDepth 100000 in
theorem rbl_any (c : Int) (w : World) : Calls Tryz.prog 31 #[.int .u8 c] w fun e w' => e = .returned (.bool (blk? c)) ∧ w = w' := by
  by_cases h1 : c = 9
  · subst h1
    go_enter Tryz.func31, Tryz.ntmps31
    go_wp2
    go_ret
    exact ⟨rfl, rfl⟩
  by_cases h2 : c = 10
  · subst h2
    go_enter Tryz.func31, Tryz.ntmps31
    go_wp2
    go_ret
    exact ⟨rfl, rfl⟩
  by_cases h3 : c = 13
  · subst h3
    go_enter Tryz.func31, Tryz.ntmps31
    go_wp2
    go_ret
    exact ⟨rfl, rfl⟩
  by_cases h4 : c = 32
  · subst h4
    go_enter Tryz.func31, Tryz.ntmps31
    go_wp2
    go_ret
    exact ⟨rfl, rfl⟩
  have hb : blk? c = false := decide_eq_false (by unfold Blank; omega)
  have t1 : (c == 9) = false := by rw [beq_eq_false_iff_ne]; exact h1
  have t2 : (c == 10) = false := by rw [beq_eq_false_iff_ne]; exact h2
  have t3 : (c == 13) = false := by rw [beq_eq_false_iff_ne]; exact h3
  have t4 : (c == 32) = false := by rw [beq_eq_false_iff_ne]; exact h4
  rw [hb]
  go_enter Tryz.func31, Tryz.ntmps31
  go_wp2
  go_ret
  exact ⟨rfl, rfl⟩
theorem rbl_t {c : Int} (h : blk? c = true) (w : World) : Calls Tryz.prog 31 #[.int .u8 c] w fun e w' => e = .returned (.bool true) ∧ w = w' := by have := rbl_any c w; rw [h] at this; exact this
theorem rbl_f {c : Int} (h : blk? c = false) (w : World) : Calls Tryz.prog 31 #[.int .u8 c] w fun e w' => e = .returned (.bool false) ∧ w = w' := by have := rbl_any c w; rw [h] at this; exact this
/-- The first place from one on where no blank stands. -/
def skp (l : List Int) (a : Nat) : Nat := a + ((l.drop a).takeWhile blk?).length
theorem skp_le (l : List Int) (a : Nat) (h : a ≤ l.length) : skp l a ≤ l.length := by
  unfold skp
  have := (List.takeWhile_prefix blk? (l := l.drop a)).length_le
  rw [List.length_drop] at this
  omega
theorem skp_step (l : List Int) (a : Nat) (h : a < l.length) : skp l a = if blk? (l.getD a 0) = true then skp l (a + 1) else a := by
  unfold skp
  rw [List.drop_eq_getElem_cons h, List.getD_eq_getElem?_getD, List.getElem?_eq_getElem h, Option.getD_some]
  by_cases hb : blk? l[a] = true
  · rw [List.takeWhile_cons_of_pos hb, if_pos hb, List.length_cons]
    omega
  · rw [List.takeWhile_cons_of_neg hb, if_neg hb]
    rfl
theorem skp_end (l : List Int) : skp l l.length = l.length := by
  unfold skp
  rw [List.drop_length]
  rfl
set_option maxHeartbeats 1000000 in
set_option maxRecDepth 100000 in
theorem rskip_any (s : ByteArray) (a : Nat) (w : World) (hs : s.size ≤ 1000000) (ha : a ≤ s.size) :
    Calls Tryz.prog 27 #[.string s, .int .i64 a] w fun e w' => e = .returned (.int .i64 (skp (byts s) a : Int)) ∧ w = w' := by
  have HS := Lib.hid (fun k (h : k < s.size) => skp_step (byts s) k (by rw [byts_len]; exact h))
  have HE : Hid (skp (byts s) s.size = s.size) := Lib.hid (by have := skp_end (byts s); rw [byts_len] at this; exact this)
  obtain ⟨res, hres⟩ : ∃ res, res = skp (byts s) a := ⟨_, rfl⟩
  rw [← hres]
  have HQ := Lib.hid hres
  clear hres
  go_enter Tryz.func27, Tryz.ntmps27
  go_wp2_with fail
  go_loop [1] (fun i => ∃ k : Nat, i = .int .i64 k ∧ k ≤ s.size ∧ Hid (res = skp (byts s) k)) (fun i => s.size - (intOf i).toNat)
  case atStart => exact ⟨a, rfl, ha, HQ⟩
  case round =>
    obtain ⟨k, rfl, hk, hr⟩ := hrel
    by_cases hlt : k < s.size
    · have hb := at_byt s k hlt
      have d1 : (k : Int) < (s.size : Int) := by omega
      have hst := HS.out k hlt
      cases hq : blk? ((byts s).getD k 0) with
      | true =>
        have HR : Hid (res = skp (byts s) (k + 1)) := Lib.hid (by rw [hr.out, hst, if_pos hq])
        have C := Lib.hid (rbl_t hq)
        rw [← hb] at C
        clear hst hq hr hb HS HE HQ
        go_wp2_with fail
        refine (C.out _).mono ?_
        rintro e wx ⟨rfl, rfl⟩
        go_wp2_with fail
        go_round
        case rel => exact ⟨k + 1, by go_num, by omega, HR⟩
        case measure => simp only [intOf]; omega
      | false =>
        have HR : Hid (res = k) := Lib.hid (by rw [hr.out, hst, if_neg (by rw [hq]; simp)])
        have C := Lib.hid (rbl_f hq)
        rw [← hb] at C
        clear hst hq hr hb HS HE HQ
        go_wp2_with fail
        refine (C.out _).mono ?_
        rintro e wx ⟨rfl, rfl⟩
        go_wp2_with fail
        go_ret
        exact ⟨by rw [HR.out]; rfl, rfl⟩
    · have d1 : ¬ (k : Int) < (s.size : Int) := by omega
      have HR : Hid (res = k) := Lib.hid (by rw [hr.out, show k = s.size by omega, HE.out])
      clear hr HS HE HQ
      go_wp2_with fail
      go_ret
      exact ⟨by rw [HR.out]; rfl, rfl⟩
theorem skp_all : ∀ (l : List Int), (skp l 0 = l.length) ↔ l.all blk? = true := fun l => by
  unfold skp
  rw [List.drop_zero, Nat.zero_add]
  constructor
  · intro h
    have hp := List.takeWhile_prefix blk? (l := l)
    have := List.IsPrefix.eq_of_length hp h
    rw [← this]
    rw [List.all_eq_true]
    intro x hx
    exact (List.all_eq_true.1 (List.all_takeWhile (p := blk?) (l := l))) x hx
  · intro h
    have : l.takeWhile blk? = l := by
      induction l with
      | nil => rfl
      | cons a l ih =>
        rw [List.all_cons, Bool.and_eq_true] at h
        rw [List.takeWhile_cons_of_pos h.1, ih h.2]
    rw [this]
set_option maxHeartbeats 1000000 in
set_option maxRecDepth 100000 in
theorem rblanks_any (s : ByteArray) (w : World) (hs : s.size ≤ 1000000) : Calls Tryz.prog 18 #[.string s] w fun e w' => e = .returned (.bool ((byts s).all blk?)) ∧ w = w' := by
  have C := Lib.hid (rskip_any s 0 w hs (Nat.zero_le _))
  have hq := skp_all (byts s)
  rw [byts_len] at hq
  generalize skp (byts s) 0 = n at *
  cases h : (byts s).all blk?
  · rw [h] at hq
    have t1 : ((n : Int) == (s.size : Int)) = false := by rw [beq_eq_false_iff_ne]; intro g; have := hq.1 (by omega); simp at this
    clear hq h
    go_enter Tryz.func18, Tryz.ntmps18
    go_wp2_with fail
    refine C.out.mono ?_
    rintro e wx ⟨rfl, rfl⟩
    go_wp2
    go_ret
    exact ⟨rfl, rfl⟩
  · rw [h] at hq
    have t1 : ((n : Int) == (s.size : Int)) = true := by rw [beq_iff_eq]; have := hq.2 rfl; omega
    clear hq h
    go_enter Tryz.func18, Tryz.ntmps18
    go_wp2_with fail
    refine C.out.mono ?_
    rintro e wx ⟨rfl, rfl⟩
    go_wp2
    go_ret
    exact ⟨rfl, rfl⟩
end Go.Proofs.YtmbghdpoeahnaaaGreatDoor

/- Walks: what the document's own classes return (Blank, Char, Start, Part), whatever the world. -/
set_option linter.unusedSimpArgs false
set_option linter.unusedVariables false
namespace Go.Proofs.YtmbghdpoeahnaaaGreatDoor
open Go.RowKit

set_option maxHeartbeats 400000 in
set_option maxRecDepth 100000 in
theorem rblank_any (r : Int) (w : World) : Calls Tryz.prog 37 #[.int .i64 r] w fun e w' => e = .returned (.bool (decide (Blank r))) ∧ w = w' := by
  go_enter Tryz.func37, Tryz.ntmps37
  go_wp2
  all_goals
    go_ret
    refine ⟨cret_bool ?_, rfl⟩
    first
      | refine cbt ?_
      | refine cbf ?_
      | (refine Bool.eq_iff_iff.2 ?_; simp only [decide_eq_true_eq, Bool.or_eq_true, beq_iff_eq])
    try simp only [beq_iff_eq, Bool.or_eq_true, Bool.and_eq_true, decide_eq_true_eq, decide_eq_false_iff_not, beq_eq_false_iff_ne] at *
    simp only [Part, Start, Chr, Blank, Btw] at *
    first
      | omega
      | (constructor <;> intro hq <;> omega)

set_option maxHeartbeats 1000000 in
set_option maxRecDepth 100000 in
theorem rchr_any (r : Int) (w : World) : Calls Tryz.prog 23 #[.int .i64 r] w fun e w' => e = .returned (.bool (decide (Chr r))) ∧ w = w' := by
  go_enter Tryz.func23, Tryz.ntmps23
  go_wp2_with (first | (go_at_call 37; refine (rblank_any _ _).mono ?_; rintro e w' ⟨rfl, rfl⟩))
  all_goals
    go_ret
    refine ⟨cret_bool ?_, rfl⟩
    first
      | refine cbt ?_
      | refine cbf ?_
      | (refine Bool.eq_iff_iff.2 ?_; simp only [decide_eq_true_eq, Bool.or_eq_true, beq_iff_eq])
    try simp only [beq_iff_eq, Bool.or_eq_true, Bool.and_eq_true, decide_eq_true_eq, decide_eq_false_iff_not, beq_eq_false_iff_ne] at *
    simp only [Part, Start, Chr, Blank, Btw] at *
    first
      | omega
      | (constructor <;> intro hq <;> omega)

end Go.Proofs.YtmbghdpoeahnaaaGreatDoor

/- The walks of ref.read, ref.escape, and of Text, Value, Escape, Quote. -/
set_option linter.unusedSimpArgs false
set_option linter.unusedVariables false
namespace Go.Proofs.YtmbghdpoeahnaaaGreatDoor
open Go.RowKit

theorem step_len (v : Bool) (l : List Int) (h : (stepF v l).1 = 0) : (stepF v l).2.1.length ≤ 4 := by
  unfold stepF
  repeat' split
  all_goals simp
  all_goals exact (encB_len _).2
/-- Where read stands: k bytes are read, bs is gathered of them. -/
def RdRel (s : ByteArray) (v : Bool) (w : World) (i : Value) (wr : World) : Prop :=
  ∃ (k : Nat) (bs : List Int), k ≤ s.size ∧ i = .int .i64 k ∧ Gat w.heap.size w.heap.size v bs wr ∧ Below w.heap.size w wr ∧ bs.length ≤ 4 * k ∧
    readF v (byts s) = (bs ++ (readF v ((byts s).drop k)).1, k + (readF v ((byts s).drop k)).2.1, (readF v ((byts s).drop k)).2.2)
def RdPost (x : List Int × Int × Int) (w : World) (e : Ending) (w' : World) : Prop :=
  e = .returned (.tuple #[.string (strOfNums x.1), .int .i64 x.2.1, .int .i64 x.2.2]) ∧ Below w.heap.size w w'
theorem rd_of {x y : List Int × Int × Int} {w w' : World} {e : Ending} (h : x = y) (hp : RdPost y w e w') : RdPost x w e w' := by rw [h]; exact hp
theorem str_none : strOfNums [] = ⟨#[]⟩ := by rw [strOf_eq]; rfl
theorem ans_ok {v : Bool} {l : List Int} {g : List Int} {n : Nat} (h : readF v l = (g, n, 0)) : ansF v l = (g, 0, 0) := by
  unfold ansF; rw [h]; simp
theorem ans_err {v : Bool} {l : List Int} {g : List Int} {n : Nat} {er : Int} (h : readF v l = (g, n, er)) (he : er ≠ 0) : ansF v l = ([], (n : Int), er) := by
  unfold ansF; rw [h]; simp [he]

set_option maxHeartbeats 4000000 in
set_option maxRecDepth 100000 in
theorem read_any (s : ByteArray) (v : Bool) (w : World) (hs : s.size ≤ 10000) (hV : Vars w) : Calls Tryz.prog 68 #[.string s, .bool v] w (RdPost (ansF v (byts s)) w) := by
  have HV := Lib.hid hV
  clear hV
  go_enter Tryz.func68, Tryz.ntmps68
  go_wp2_with fail
  go_loopw [8] (fun i wr => RdRel s v w i wr) (fun i _ => s.size - (intOf i).toNat)
  case atStart =>
    exact ⟨0, [], Nat.zero_le _, rfl, gat_new w v, (Below.refl _ w).alloc (Nat.le_refl _) _, by simp, by simp⟩
  case round =>
    obtain ⟨k, bs, hk, rfl, hg, hb, hl, hr⟩ := hrel
    by_cases hlt : k < s.size
    · have hsz := hb.size
      have hne : (byts s).drop k ≠ [] := by
        intro e
        have := congrArg List.length e
        rw [List.length_drop, byts_len, List.length_nil] at this
        omega
      have hnn : NN ((byts s).drop k) := (byts_nn s).drop k
      have C := Lib.hid (next_any w.heap.size w.heap.size v bs s k wr hlt (by omega) hg hsz (by omega) (HV.out.keep hb HV.out.1))
      have S1 := step_bd v _ hne hnn
      have S2 := step_len v ((byts s).drop k)
      have R1 := readF_err v _ hne
      have R2 := readF_ok v _ hne hnn
      rw [List.drop_drop] at R2
      rw [List.length_drop, byts_len] at S1
      generalize stepF v ((byts s).drop k) = x at *
      obtain ⟨er, o, n⟩ := x
      simp only at S1 S2 R1 R2
      by_cases he : er = 0
      · subst he
        have S1 := S1 rfl
        have S2 := S2 rfl
        rw [R2 rfl] at hr
        have HR : Hid (readF v (byts s) = (bs ++ o ++ (readF v ((byts s).drop (k + n))).1, k + n + (readF v ((byts s).drop (k + n))).2.1, (readF v ((byts s).drop (k + n))).2.2)) := Lib.hid (by
          rw [hr]; simp only [List.append_assoc, Nat.add_assoc])
        clear R1 R2 hr hg hne hnn
        go_wp2_with fail
        refine C.out.mono ?_
        rintro e w1 ⟨rfl, h1, hb1⟩
        have HG := Lib.hid (h1 rfl)
        clear h1 C
        have q2 : IntKind.i64.wrap ((k : Int) + (n : Int)) = (k : Int) + (n : Int) := IntWalk.i64_in _ (by omega)
        go_wp2_with fail
        go_roundw
        case rel => exact ⟨k + n, bs ++ o, by omega, by rw [Int.natCast_add], HG.out, hb.trans hb1, by rw [List.length_append]; omega, HR.out⟩
        case measure => simp only [intOf]; omega
      · have t1 : (er != 0) = true := by simpa using he
        rw [R1 he] at hr
        have HA : Hid (ansF v (byts s) = ([], (k : Int), er)) := Lib.hid (by
          have := ans_err hr he
          rw [this]; simp)
        clear R1 R2 hr hg hne hnn S1 S2 he
        go_wp2_with fail
        refine C.out.mono ?_
        rintro e w1 ⟨rfl, h1, hb1⟩
        clear h1 C
        go_wp2
        go_ret3
        exact rd_of HA.out ⟨by rw [str_none]; rfl, hb.trans hb1⟩
    · have hkk : k = s.size := by omega
      subst hkk
      rw [List.drop_of_length_le (by rw [byts_len]; omega), readF_nil] at hr
      have HA : Hid (ansF v (byts s) = (bs, 0, 0)) := Lib.hid (by
        have := ans_ok hr
        rw [this]; simp)
      have CS := Lib.hid (str_any w.heap.size w.heap.size v bs wr hg)
      clear hr hg
      go_wp2_with fail
      refine CS.out.mono ?_
      rintro e w1 ⟨rfl, hb1⟩
      go_wp2
      go_ret3
      exact rd_of HA.out ⟨rfl, hb.trans hb1⟩

set_option maxHeartbeats 1000000 in
set_option maxRecDepth 100000 in
theorem text_of (s : ByteArray) (x : List Int × Int × Int) (w : World) (C : Hid (Calls Tryz.prog 68 #[.string s, .bool false] w (RdPost x w))) : Calls Tryz.prog 52 #[.string s] w (RdPost x w) := by
  go_enter Tryz.func52, Tryz.ntmps52
  go_wp2_with fail
  refine C.out.mono ?_
  rintro e w1 ⟨rfl, hb⟩
  go_wp2
  go_ret3
  exact ⟨rfl, hb⟩
theorem text_any (s : ByteArray) (w : World) (hs : s.size ≤ 10000) (hV : Vars w) : Calls Tryz.prog 52 #[.string s] w (RdPost (ansF false (byts s)) w) := text_of s _ w (Lib.hid (read_any s false w hs hV))
end Go.Proofs.YtmbghdpoeahnaaaGreatDoor
