/-
  Merged by program out of the texts Math, Leaf, Enc, Add, TrWdW, TrEndW, TrKidW, TrTrM of one seat.
-/
import Derived.Test.YtaoggciebkaakaaProg
import Derived.Test.YtaoggciebkaakaaG03
import Derived.Test.YtaoggciebkaakaaG02
import Derived.WalkKit
import Derived.WalkSpells
import Derived.WalkLawsBesides
import Derived.Lib.Hide

/- Plain functions on numbers and bytes: what package utf and the document's answer compute. No program is named here. -/
namespace Go.Proofs.Ytaoggciebkaakaa

/-- The byte at a place, as a number (0 beyond the end). -/
def bt (s : ByteArray) (k : Nat) : Int := ((s.data.toList.getD k 0).toNat : Int)
theorem bt_lo (s : ByteArray) (k : Nat) : 0 ≤ bt s k := by unfold bt; omega
theorem bt_hi (s : ByteArray) (k : Nat) : bt s k < 256 := by unfold bt; have := (s.data.toList.getD k 0).toNat_lt; omega
theorem bt_eq (s : ByteArray) (k : Nat) (h : k < s.size) : ((s[k]).toNat : Int) = bt s k := by
  unfold bt
  have h' : k < s.data.toList.length := by simpa using h
  rw [List.getD_eq_getElem?_getD, List.getElem?_eq_getElem h']
  rfl

/-- How many bytes a first byte says that its rune has, and that byte's bits. -/
def leadN (b : Int) : Nat := if b < 128 then 1 else if b < 192 then 0 else if b < 224 then 2 else if b < 240 then 3 else if b < 248 then 4 else 0
def leadR (b : Int) : Int := if b < 128 then b else if b < 192 then 0 else if b < 224 then b - 192 else if b < 240 then b - 224 else if b < 248 then b - 240 else 0

def least (n : Nat) : Int := if n = 1 then 0 else if n = 2 then 128 else if n = 3 then 2048 else 65536
def most (n : Nat) : Int := if n = 1 then 127 else if n = 2 then 2047 else if n = 3 then 65535 else 1114111
def p64 (n : Nat) : Int := if n = 0 then 1 else if n = 1 then 64 else if n = 2 then 4096 else 262144
def possB (r : Int) (k n : Nat) : Bool :=
  n != 0 && !(decide (55296 ≤ r * p64 (n - k)) && decide (r * p64 (n - k) + p64 (n - k) - 1 ≤ 57343)) && decide (r * p64 (n - k) ≤ most n) && decide (least n ≤ r * p64 (n - k) + p64 (n - k) - 1)

/-- The decoder's loop: 'b k' is the k-th byte from the place on, of which there are 'left'. -/
def rgo (b : Nat → Int) (left n : Nat) : Nat → Nat → Int → Int × Int × Int
  | 0, _, _ => (0, 0, 2)
  | f + 1, k, r => if possB r k n = false then (0, 0, 2) else if k = n then (r, n, 0) else if k = left then (0, 0, 7) else if b k / 64 = 2 then rgo b left n f (k + 1) (r * 64 + b k % 64) else (0, 0, 2)

/-- A rune, by its first bytes: the rune, how many bytes, the error's number. -/
def canon (b : Nat → Int) (left : Nat) : Int × Int × Int :=
  if b 0 < 128 then (b 0, 1, 0)
  else if b 0 < 194 then (0, 0, 2)
  else if b 0 < 224 then
    if left < 2 then (0, 0, 7) else if b 1 < 128 ∨ 191 < b 1 then (0, 0, 2) else ((b 0 - 192) * 64 + (b 1 - 128), 2, 0)
  else if b 0 < 240 then
    if left < 2 then (0, 0, 7)
    else if b 1 < (if b 0 = 224 then 160 else 128) ∨ (if b 0 = 237 then 159 else 191) < b 1 then (0, 0, 2)
    else if left < 3 then (0, 0, 7) else if b 2 < 128 ∨ 191 < b 2 then (0, 0, 2)
    else ((b 0 - 224) * 4096 + (b 1 - 128) * 64 + (b 2 - 128), 3, 0)
  else if b 0 < 245 then
    if left < 2 then (0, 0, 7)
    else if b 1 < (if b 0 = 240 then 144 else 128) ∨ (if b 0 = 244 then 143 else 191) < b 1 then (0, 0, 2)
    else if left < 3 then (0, 0, 7) else if b 2 < 128 ∨ 191 < b 2 then (0, 0, 2)
    else if left < 4 then (0, 0, 7) else if b 3 < 128 ∨ 191 < b 3 then (0, 0, 2)
    else ((b 0 - 240) * 262144 + (b 1 - 128) * 4096 + (b 2 - 128) * 64 + (b 3 - 128), 4, 0)
  else (0, 0, 2)

theorem possB_eq (r : Int) (k n : Nat) (c : Bool) (h : (n ≠ 0 ∧ ¬ (55296 ≤ r * p64 (n - k) ∧ r * p64 (n - k) + p64 (n - k) - 1 ≤ 57343) ∧ r * p64 (n - k) ≤ most n ∧ least n ≤ r * p64 (n - k) + p64 (n - k) - 1) ↔ c = true) : possB r k n = c := by
  rw [Bool.eq_iff_iff, ← h]
  simp [possB, and_assoc]
  omega

theorem rgo_step (b : Nat → Int) (left n f k : Nat) (r : Int) : rgo b left n (f + 1) k r = if possB r k n = false then (0, 0, 2) else if k = n then (r, (n : Int), 0) else if k = left then (0, 0, 7) else if b k / 64 = 2 then rgo b left n f (k + 1) (r * 64 + b k % 64) else (0, 0, 2) := rfl

theorem possB_false (r : Int) (k n : Nat) : possB r k n = false ↔ (n = 0 ∨ (55296 ≤ r * p64 (n - k) ∧ r * p64 (n - k) + p64 (n - k) - 1 ≤ 57343) ∨ most n < r * p64 (n - k) ∨ r * p64 (n - k) + p64 (n - k) - 1 < least n) := by
  simp [possB]
  omega

theorem p64_0 : p64 0 = 1 := rfl
theorem p64_1 : p64 1 = 64 := rfl
theorem p64_2 : p64 2 = 4096 := rfl
theorem p64_3 : p64 3 = 262144 := rfl
theorem least1 : least 1 = 0 := rfl
theorem most1 : most 1 = 127 := rfl
theorem least2 : least 2 = 128 := rfl
theorem least3 : least 3 = 2048 := rfl
theorem least4 : least 4 = 65536 := rfl
theorem most2 : most 2 = 2047 := rfl
theorem most3 : most 3 = 65535 := rfl
theorem most4 : most 4 = 1114111 := rfl
theorem tri {a b c a1 b1 c1 : Int} (h : a = a1) (h1 : b = b1) (h2 : c = c1) : (a, b, c) = (a1, b1, c1) := by subst h h1 h2; rfl
theorem rgo0 (b : Nat → Int) (left f : Nat) (r : Int) (k : Nat) : rgo b left 0 (f + 1) k r = (0, 0, 2) := by simp [rgo, possB]

/-- Rune: of whatever bytes, at whatever place. -/
def runeF (s : ByteArray) (a : Int) : Int × Int × Int := if a < 0 ∨ (s.size : Int) ≤ a then (0, 0, 7) else canon (fun k => bt s (a.toNat + k)) (s.size - a.toNat)

/-- All: from a place on. -/
def allGo (s : ByteArray) : Nat → Nat → List Int × Int × Int
  | 0, a => ([], a, 0)
  | f + 1, a => if s.size ≤ a then ([], a, 0) else if (runeF s a).2.2 = 0 then ((runeF s a).1 :: (allGo s f (a + (runeF s a).2.1.toNat)).1, (allGo s f (a + (runeF s a).2.1.toNat)).2) else ([], a, (runeF s a).2.2)
def allF (s : ByteArray) : List Int × Int × Int := allGo s s.size 0

def Okay (left : Nat) (x : Int × Int × Int) : Prop := (x.2.2 = 0 ∧ 1 ≤ x.2.1 ∧ x.2.1 ≤ 4 ∧ x.2.1 ≤ left ∧ 0 ≤ x.1 ∧ x.1 ≤ 1114111 ∧ ¬ (55296 ≤ x.1 ∧ x.1 ≤ 57343)) ∨ (x.1 = 0 ∧ x.2.1 = 0 ∧ (x.2.2 = 2 ∨ x.2.2 = 7))
theorem okay_ite {left : Nat} {c : Prop} [Decidable c] {x y : Int × Int × Int} (h1 : c → Okay left x) (h2 : ¬ c → Okay left y) : Okay left (if c then x else y) := by
  by_cases h : c
  · rw [if_pos h]; exact h1 h
  · rw [if_neg h]; exact h2 h
theorem okay2 {left : Nat} : Okay left (0, 0, 2) := .inr ⟨rfl, rfl, .inl rfl⟩
theorem okay7 {left : Nat} : Okay left (0, 0, 7) := .inr ⟨rfl, rfl, .inr rfl⟩
theorem okay_mk {left : Nat} {r n : Int} (h1 : 1 ≤ n) (h2 : n ≤ 4) (h3 : n ≤ left) (h4 : 0 ≤ r) (h5 : r ≤ 1114111) (h6 : ¬ (55296 ≤ r ∧ r ≤ 57343)) : Okay left (r, n, 0) := .inl ⟨rfl, h1, h2, h3, h4, h5, h6⟩
theorem canon_okay (b : Nat → Int) (left : Nat) (hl : 1 ≤ left) (h0 : ∀ k, 0 ≤ b k) : Okay left (canon b left) := by
  have a0 := h0 0
  have b0 := h0 1
  have c0 := h0 2
  have d0 := h0 3
  unfold canon
  refine okay_ite (fun h => okay_mk (by omega) (by omega) (by omega) (by omega) (by omega) (by omega)) fun h => ?_
  refine okay_ite (fun h => okay2) fun h => ?_
  refine okay_ite (fun h => okay_ite (fun h => okay7) fun h => okay_ite (fun h => okay2) fun h => okay_mk (by omega) (by omega) (by omega) (by omega) (by omega) (by omega)) fun h => ?_
  refine okay_ite (fun h => okay_ite (fun h => okay7) fun h => okay_ite (fun h => okay2) fun h => okay_ite (fun h => okay7) fun h => okay_ite (fun h => okay2) fun h => okay_mk (by omega) (by omega) (by omega) (by omega) (by omega) (by omega)) fun h => ?_
  refine okay_ite (fun h => okay_ite (fun h => okay7) fun h => okay_ite (fun h => okay2) fun h => okay_ite (fun h => okay7) fun h => okay_ite (fun h => okay2) fun h => okay_ite (fun h => okay7) fun h => okay_ite (fun h => okay2) fun h => okay_mk (by omega) (by omega) (by omega) (by omega) (by omega) (by omega)) fun h => ?_
  exact okay2
theorem runeF_okay (s : ByteArray) (a : Nat) (h : a < s.size) : Okay (s.size - a) (runeF s a) := by
  unfold runeF
  rw [if_neg (by omega)]
  simp only [Int.toNat_natCast]
  exact canon_okay _ _ (by omega) fun k => bt_lo s _
theorem allGo_done (s : ByteArray) (f a : Nat) (h : s.size ≤ a) : allGo s f a = ([], (a : Int), 0) := by
  cases f with
  | zero => rfl
  | succ f => rw [allGo, if_pos h]
theorem allGo_err (s : ByteArray) (f a : Nat) (h : a < s.size) (he : (runeF s a).2.2 ≠ 0) : allGo s (f + 1) a = ([], (a : Int), (runeF s a).2.2) := by
  rw [allGo, if_neg (by omega), if_neg he]
theorem allGo_ok (s : ByteArray) (f a : Nat) (h : a < s.size) (he : (runeF s a).2.2 = 0) :
    allGo s (f + 1) a = ((runeF s a).1 :: (allGo s f (a + (runeF s a).2.1.toNat)).1, (allGo s f (a + (runeF s a).2.1.toNat)).2) := by
  rw [allGo, if_neg (by omega), if_pos he]
/-- The fuel does not matter, where there is enough of it. -/
theorem allGo_fuel (s : ByteArray) : ∀ (f g a : Nat), s.size - a ≤ f → s.size - a ≤ g → allGo s f a = allGo s g a
  | 0, g, a, hf, _ => by rw [allGo_done s 0 a (by omega), allGo_done s g a (by omega)]
  | f + 1, 0, a, _, hg => by rw [allGo_done s 0 a (by omega), allGo_done s (f + 1) a (by omega)]
  | f + 1, g + 1, a, hf, hg => by
    by_cases h : s.size ≤ a
    · rw [allGo_done s _ a h, allGo_done s _ a h]
    by_cases he : (runeF s a).2.2 = 0
    · have hk := runeF_okay s a (by omega)
      rw [allGo_ok s f a (by omega) he, allGo_ok s g a (by omega) he]
      have h1 : 1 ≤ (runeF s a).2.1 := by
        rcases hk with hk | hk
        · exact hk.2.1
        · omega
      rw [allGo_fuel s f g (a + (runeF s a).2.1.toNat) (by omega) (by omega)]
    · rw [allGo_err s f a (by omega) he, allGo_err s g a (by omega) he]
def allAt (s : ByteArray) (a : Nat) : List Int × Int × Int := allGo s (s.size - a) a
theorem allF_eq (s : ByteArray) : allF s = allAt s 0 := rfl
theorem allAt_done (s : ByteArray) (a : Nat) (h : s.size ≤ a) : allAt s a = ([], (a : Int), 0) := allGo_done s _ a h
theorem allAt_err (s : ByteArray) (a : Nat) (h : a < s.size) (he : (runeF s a).2.2 ≠ 0) : allAt s a = ([], (a : Int), (runeF s a).2.2) := by
  unfold allAt
  rw [show s.size - a = (s.size - a - 1) + 1 by omega]
  exact allGo_err s _ a h he
theorem allAt_ok (s : ByteArray) (a : Nat) (h : a < s.size) (he : (runeF s a).2.2 = 0) :
    allAt s a = ((runeF s a).1 :: (allAt s (a + (runeF s a).2.1.toNat)).1, (allAt s (a + (runeF s a).2.1.toNat)).2) := by
  have hk := runeF_okay s a h
  have h1 : 1 ≤ (runeF s a).2.1 := by
    rcases hk with hk | hk
    · exact hk.2.1
    · omega
  unfold allAt
  rw [show s.size - a = (s.size - a - 1) + 1 by omega, allGo_ok s _ a h he]
  rw [allGo_fuel s (s.size - a - 1) (s.size - (a + (runeF s a).2.1.toNat)) _ (by omega) (by omega)]
end Go.Proofs.Ytaoggciebkaakaa

/- Walks: what utf's small functions return (lead, span, follow, possible), whatever the world. -/
namespace Go.Proofs.Ytaoggciebkaakaa
open Go.RowKit

theorem i32_or0 (x : Int) (h0 : 0 ≤ x) (h1 : x < 2147483648) : bits .or .i32 x 0 = x := by
  have := bits_join .i32 31 (by decide) wraps_i32 0 x 0 h0 (by omega) h1 (by omega) (by omega) (by omega)
  simpa using this
theorem ret_two {k1 k2 : IntKind} {a b a1 b1 : Int} (h : a = a1) (h1 : b = b1) : Ending.returned (.tuple #[.int k1 a, .int k2 b]) = .returned (.tuple #[.int k1 a1, .int k2 b1]) := by rw [h, h1]
theorem ret_bool {a b : Bool} (h : a = b) : Ending.returned (.bool a) = .returned (.bool b) := by rw [h]

set_option maxHeartbeats 400000 in
theorem lead_any (b : Int) (w : World) (h0 : 0 ≤ b) (h1 : b < 256) : Calls Try.prog 61 #[.int .u8 b] w fun e w' => e = .returned (.tuple #[.int .i32 (leadR b), .int .i64 (leadN b)]) ∧ w = w' := by
  go_enter Try.func61, Try.ntmps61
  go_wp2
  all_goals
    go_ret2
    refine ⟨?_, rfl⟩
    simp only [beq_iff_eq, beq_eq_false_iff_ne] at *
    unfold leadR leadN
    refine ret_two ?_ ?_
    · repeat' split
      all_goals omega
    · repeat' split
      all_goals omega

set_option maxHeartbeats 4000000 in
theorem poss_any (r : Int) (k n : Nat) (w : World) (h0 : 0 ≤ r) (h1 : r * p64 (n - k) < 2097152) (hk : 1 ≤ k) (hn : k ≤ n) (h4 : n ≤ 4) :
    Calls Try.prog 62 #[.int .i32 r, .int .i64 k, .int .i64 n] w fun e w' => e = .returned (.bool (possB r k n)) ∧ w = w' := by
  have h : (k = 1 ∧ n = 1) ∨ (k = 1 ∧ n = 2) ∨ (k = 2 ∧ n = 2) ∨ (k = 1 ∧ n = 3) ∨ (k = 2 ∧ n = 3) ∨ (k = 3 ∧ n = 3) ∨ (k = 1 ∧ n = 4) ∨ (k = 2 ∧ n = 4) ∨ (k = 3 ∧ n = 4) ∨ (k = 4 ∧ n = 4) := by omega
  rcases h with ⟨rfl, rfl⟩ | ⟨rfl, rfl⟩ | ⟨rfl, rfl⟩ | ⟨rfl, rfl⟩ | ⟨rfl, rfl⟩ | ⟨rfl, rfl⟩ | ⟨rfl, rfl⟩ | ⟨rfl, rfl⟩ | ⟨rfl, rfl⟩ | ⟨rfl, rfl⟩
  all_goals
    simp only [Nat.reduceSub, p64_0, p64_1, p64_2, p64_3] at h1
    have h00 := i32_or0 r h0 (by omega)
    go_enter Try.func62, Try.ntmps62
    go_wp2
    all_goals
      go_ret
      refine ⟨ret_bool (possB_eq _ _ _ _ ?_).symm, rfl⟩
      simp only [Nat.reduceSub, p64_0, p64_1, p64_2, p64_3, least1, least2, least3, least4, most1, most2, most3, most4, decide_eq_true_eq, Bool.false_eq_true, iff_false]
      first
        | omega
        | (simp only [iff_true]; omega)
        | (simp; omega)

set_option maxHeartbeats 400000 in
theorem poss_zero (r : Int) (k : Int) (w : World) :
    Calls Try.prog 62 #[.int .i32 r, .int .i64 k, .int .i64 0] w fun e w' => e = .returned (.bool false) ∧ w = w' := by
  go_enter Try.func62, Try.ntmps62
  go_wp2
  go_ret
  exact ⟨rfl, rfl⟩
end Go.Proofs.Ytaoggciebkaakaa

/- A rune's bytes, as numbers. -/
set_option linter.unusedSimpArgs false
set_option linter.unusedVariables false
namespace Go.Proofs.Ytaoggciebkaakaa

def encB (r : Int) : List Int :=
  if r < 128 then [r] else if r < 2048 then [192 + r / 64, 128 + r % 64] else if r < 65536 then [224 + r / 4096, 128 + r / 64 % 64, 128 + r % 64]
  else [240 + r / 262144, 128 + r / 4096 % 64, 128 + r / 64 % 64, 128 + r % 64]
/-- It has no bytes. -/
def Bad (r : Int) : Prop := r < 0 ∨ 1114111 < r ∨ (55296 ≤ r ∧ r ≤ 57343)
instance (r : Int) : Decidable (Bad r) := by unfold Bad; infer_instance
def putI (r : Int) : List Int := if Bad r then encB 65533 else encB r
def refPut (r : Int) : List Int := if Bad r then [] else encB r
theorem enc1 {r : Int} (h : r < 128) : encB r = [r] := by simp [encB, h]
theorem enc2 {r : Int} (h : 128 ≤ r) (h2 : r < 2048) : encB r = [192 + r / 64, 128 + r % 64] := by
  simp only [encB]; rw [if_neg (by omega), if_pos h2]
theorem enc3 {r : Int} (h : 2048 ≤ r) (h2 : r < 65536) : encB r = [224 + r / 4096, 128 + r / 64 % 64, 128 + r % 64] := by
  simp only [encB]; rw [if_neg (by omega), if_neg (by omega), if_pos h2]
theorem enc4 {r : Int} (h : 65536 ≤ r) : encB r = [240 + r / 262144, 128 + r / 4096 % 64, 128 + r / 64 % 64, 128 + r % 64] := by
  simp only [encB]; rw [if_neg (by omega), if_neg (by omega), if_neg (by omega)]
theorem putI_ok {r : Int} (h : ¬ Bad r) : putI r = encB r := by simp only [putI, if_neg h]
theorem encB_len (r : Int) : 1 ≤ (encB r).length ∧ (encB r).length ≤ 4 := by
  unfold encB
  repeat' split
  all_goals simp
theorem putI_len (r : Int) : 1 ≤ (putI r).length ∧ (putI r).length ≤ 4 := by
  unfold putI
  split
  · exact encB_len _
  · exact encB_len _
end Go.Proofs.Ytaoggciebkaakaa

/- The walk of utf.add: a rune's bytes behind a slice of the call's own. -/
set_option linter.unusedSimpArgs false
set_option linter.unusedVariables false
namespace Go.Proofs.Ytaoggciebkaakaa
open Go.RowKit

theorem Try.info5 : (Try.prog.info? 5).map (fun i => (i.zero, i.size, i.bytes)) = some (some (.int .u8 0), 1, 1) := by kernel_rfl
/-- A slice of bytes of the call's own: from block B on. -/
def OwnB (w : World) (B : Nat) (v : Value) (l : List Int) : Prop := w.ownsRow B 5 1 v l.length (l.map (Value.int .u8))
def AddPost (w : World) (B : Nat) (l : List Int) (e : Ending) (w' : World) : Prop := ∃ v, e = .returned v ∧ OwnB w' B v l ∧ Below B w w'

theorem Blk0 (w : World) (t : TypeId) (cs : Array Value) (i : Nat) : (w.alloc (.cells cs t)).cell? ⟨w.heap.size, i, none⟩ = cs[i]? := cell_of_row _ _ i cs t (0, 0) (heap_alloc_new w _)
theorem lit_cells (w : World) (cs : Array Value) (e : TypeId) : ∀ (j : Nat) (u : Value), cs.toList[j]? = some u → (w.alloc (.cells cs e)).cell? ((⟨w.heap.size, 0, none⟩ : Addr).add j) = some u := by
  intro j u h
  have hc := (Blk0 w e cs) j
  unfold Addr.add
  by_cases h0 : j = 0
  · subst h0
    simpa [hc] using h
  · simpa [h0, hc] using h
end Go.Proofs.Ytaoggciebkaakaa

/- The document's Word (layer 10) of whatever tree. -/
set_option linter.unusedSimpArgs false
set_option linter.unusedVariables false
namespace Go.Proofs.Ytaoggciebkaakaa.Ev
open Go.RowKit

/-- Events of the call's own, attributes in blocks below B. -/
structure EvW (W : World) (base B : Nat) (v : Value) (ps : List PE) : Prop where
  own : W.ownsRow base 38 5 v ps.length (peL ps)
  atO : PeO W ps
  low : ∀ p ∈ ps, AtP (· < B) p.2.1 p.2.2.1
theorem EvW.keep {W W' : World} {base B : Nat} {v : Value} {ps : List PE} (h : EvW W base B v ps) (hb : Below W.heap.size W W') : EvW W' base B v ps := ⟨own_keep h.own hb, h.atO.keep hb, h.low⟩
theorem PeO.grown {W W' : World} {ps : List PE} {B : Nat} {row : Option Nat} (h : PeO W ps) (hl : ∀ p ∈ ps, AtP (· < B) p.2.1 p.2.2.1) (hg : W.grownBy W' row) (hr : ∀ g, row = some g → B ≤ g) : PeO W' ps := fun p hp => ⟨(h p hp).1.keepG hg (fun h0 a e hh => by
  have h1 : a.block < B := hl p hp h0 a e
  have h2 := hr _ hh.symm
  omega), (h p hp).2⟩
theorem evs_len : ∀ f : Fo, f.evs.length ≤ 2 * f.siz
  | .nil => Nat.zero_le _
  | .cons t tx sp lo ats ks nx => by
    rw [Fo.evs, Fo.siz, List.length_append]
    have h1 := evs_len ks
    have h2 := evs_len nx
    cases t
    · rw [if_neg (by decide)]
      simp
      omega
    · rw [if_pos rfl]
      simp
      omega
theorem own_base {W : World} {B B' n z : Nat} {e : TypeId} {v : Value} {xs : List Value} (h : W.ownsRow B e z v n xs) (hb : B' ≤ B) : W.ownsRow B' e z v n xs :=
  ⟨h.1, h.2.imp id fun ⟨g, cap, cur, q, h1, h2⟩ => ⟨g, cap, cur, q, Nat.le_trans hb h1, h2⟩⟩
theorem evs_el (tx sp lo : ByteArray) (ats : List P3) (ks : Fo) : (Fo.cons false tx sp lo ats ks .nil).evs = [(⟨1, sp, lo, ats, emB⟩ : RE)] ++ ks.evs ++ [clE] := by
  rw [Fo.evs, if_neg (by decide)]
  simp [Fo.evs]
def WdC (N : Nat) : Prop := ∀ (t : Bool) (tx sp lo : ByteArray) (ats : List P3) (ks : Fo) (Aa : Option Addr) (na ca : Nat) (Ak : Option Addr) (nk ck : Nat) (B : Nat) (W : World), ks.siz < N → ks.siz ≤ 1000 → B ≤ W.heap.size → Tr1 (· < B) W tx sp lo ats ks Aa na ca Ak nk ck →
    Calls Try.prog 15 #[.agg #[.bool t, .string tx, .string sp, .string lo, .slice Aa na ca, .slice Ak nk ck]] W fun e w' => ∃ v ps, e = .returned v ∧ EvW w' W.heap.size B v ps ∧ ps.map (·.1) = (Fo.cons t tx sp lo ats ks .nil).evs ∧ Below W.heap.size W w'
theorem one_ev {W : World} {base b B : Nat} {p : PE} (h : W.heap[b]? = some (.cells (peC p).toArray 38 (0, 0))) (hb : base ≤ b) (ha : AttsIn W p.2.1 p.2.2.1 p.2.2.2 p.1.ats ∧ RSz p.1) (hl : AtP (· < B) p.2.1 p.2.2.1) : EvW W base B (.slice (some ⟨b, 0, none⟩) 1 1) [p] :=
  ⟨⟨rfl, .inr ⟨b, 1, _, rfl, hb, h, Nat.le_refl _, by decide, rfl, by simp [peL, peC]⟩⟩, fun q hq => by rw [List.mem_singleton.1 hq]; exact ha, fun q hq => by rw [List.mem_singleton.1 hq]; exact hl⟩
set_option maxHeartbeats 8000000 in
set_option maxRecDepth 100000 in
theorem word_step (N : Nat) (hIH : Hid (WdC N)) : WdC (N + 1) := by
  intro t tx sp lo ats ks Aa na ca Ak nk ck B w hN h1k hBw T
  obtain ⟨i0, hi, hz0, hz1, hz2⟩ := info_parts Try.info38
  have HT := Lib.hid T
  have hnk := T.ks.2.1
  have HB0 := Lib.hid ((Below.refl w.heap.size w).alloc (Nat.le_refl _) (.cells #[.bool t, .string tx, .string sp, .string lo, .slice Aa na ca, .slice Ak nk ck] 30))
  have HK0 := Lib.hid (nblk w 30 #[.bool t, .string tx, .string sp, .string lo, .slice Aa na ca, .slice Ak nk ck])
  have HZ := Lib.hid (show w.heap.size < (w.alloc (.cells #[.bool t, .string tx, .string sp, .string lo, .slice Aa na ca, .slice Ak nk ck] 30)).heap.size by simp)
  have hsz : (w.alloc (.cells #[.bool t, .string tx, .string sp, .string lo, .slice Aa na ca, .slice Ak nk ck] 30)).heap.size = w.heap.size + 1 := World.size_alloc _ _
  clear T
  cases t with
  | true =>
    have HE : Hid (EvW ((w.alloc (.cells #[.bool true, .string tx, .string sp, .string lo, .slice Aa na ca, .slice Ak nk ck] 30)).alloc (.cells #[.int .i64 2, .string ⟨#[]⟩, .string ⟨#[]⟩, .slice none 0 0, .string tx] 38)) w.heap.size B (.slice (some ⟨w.heap.size + 1, 0, none⟩) 1 1) [(⟨2, emB, emB, [], tx⟩, none, 0, 0)]) := Lib.hid (by
      have h := nblk (w.alloc (.cells #[.bool true, .string tx, .string sp, .string lo, .slice Aa na ca, .slice Ak nk ck] 30)) 38 #[.int .i64 2, .string ⟨#[]⟩, .string ⟨#[]⟩, .slice none 0 0, .string tx]
      rw [hsz] at h
      exact one_ev (p := (⟨2, emB, emB, [], tx⟩, none, 0, 0)) h (by omega) ⟨attsNil _, ⟨by show emB.size ≤ maxLen; decide, by show emB.size ≤ maxLen; decide, HT.out.sz.1⟩⟩ (fun h => absurd h (Nat.lt_irrefl 0)))
    have HB1 := Lib.hid (HB0.out.alloc (by rw [hsz]; omega) (.cells #[.int .i64 2, .string ⟨#[]⟩, .string ⟨#[]⟩, .slice none 0 0, .string tx] 38))
    clear HT hIH HK0 HZ hsz
    go_enter Try.func15, Try.ntmps15
    go_wp2
    go_ret
    exact ⟨_, _, rfl, HE.out, rfl, HB1.out⟩
  | false =>
    have HP0 : Hid (EvW ((w.alloc (.cells #[.bool false, .string tx, .string sp, .string lo, .slice Aa na ca, .slice Ak nk ck] 30)).alloc (.cells #[.int .i64 1, .string sp, .string lo, .slice Aa na ca, .string ⟨#[]⟩] 38)) (w.heap.size + 1) B (.slice (some ⟨w.heap.size + 1, 0, none⟩) 1 1) [(⟨1, sp, lo, ats, emB⟩, Aa, na, ca)]) := Lib.hid (by
      have h := nblk (w.alloc (.cells #[.bool false, .string tx, .string sp, .string lo, .slice Aa na ca, .slice Ak nk ck] 30)) 38 #[.int .i64 1, .string sp, .string lo, .slice Aa na ca, .string ⟨#[]⟩]
      rw [hsz] at h
      exact one_ev (p := (⟨1, sp, lo, ats, emB⟩, Aa, na, ca)) h (Nat.le_refl _) ⟨(HT.out.at_.keep HB0.out).keep ((Below.refl _ _).alloc (Nat.le_refl _) _), ⟨HT.out.sz.2.1, HT.out.sz.2.2, by show emB.size ≤ maxLen; decide⟩⟩ HT.out.ap)
    have HB1 := Lib.hid (HB0.out.alloc (by rw [hsz]; omega) (.cells #[.int .i64 1, .string sp, .string lo, .slice Aa na ca, .string ⟨#[]⟩] 38))
    have HK1 := Lib.hid ((Below.heap_alloc (w.alloc (.cells #[.bool false, .string tx, .string sp, .string lo, .slice Aa na ca, .slice Ak nk ck] 30)) (.cells #[.int .i64 1, .string sp, .string lo, .slice Aa na ca, .string ⟨#[]⟩] 38) _ HZ.out).trans HK0.out)
    have HZ1 := Lib.hid (show w.heap.size < ((w.alloc (.cells #[.bool false, .string tx, .string sp, .string lo, .slice Aa na ca, .slice Ak nk ck] 30)).alloc (.cells #[.int .i64 1, .string sp, .string lo, .slice Aa na ca, .string ⟨#[]⟩] 38)).heap.size by simp; omega)
    have HQ0 : Hid ([((⟨1, sp, lo, ats, emB⟩ : RE), Aa, na, ca)].map (·.1) = [(⟨1, sp, lo, ats, emB⟩ : RE)] ++ (ks.take 0).evs) := Lib.hid (by cases ks <;> rfl)
    have HTn : Hid ((ks.take nk).evs = ks.evs) := Lib.hid (by
      have h0 : ks.drop nk = .nil := by
        cases hd : ks.drop nk with
        | nil => rfl
        | cons a1 a2 a3 a4 a5 a6 a7 =>
          have h := len_drop (k := nk) (f := ks)
          rw [hd, Fo.len, HT.out.ks.1] at h
          omega
      have h := take_drop_F nk ks
      rw [h0] at h
      conv => rhs; rw [← h]
      rw [evs_app]
      exact (List.append_nil _).symm)
    clear HB0 HK0 HZ hsz
    go_enter Try.func15, Try.ntmps15
    go_wp2_with fail
    generalize hW0 : (w.alloc (.cells #[.bool false, .string tx, .string sp, .string lo, .slice Aa na ca, .slice Ak nk ck] 30)).alloc (.cells #[.int .i64 1, .string sp, .string lo, .slice Aa na ca, .string ⟨#[]⟩] 38) = W0 at *
    clear hW0
    have hevl := evs_len ks
    go_loopw [3, 4] (fun v i wr => ∃ (k : Nat) (ps : List PE), i = .int .i64 k ∧ k ≤ nk ∧ Hid (EvW wr (w.heap.size + 1) B v ps) ∧ Hid (ps.map (·.1) = [(⟨1, sp, lo, ats, emB⟩ : RE)] ++ (ks.take k).evs) ∧ Hid (Below w.heap.size w wr) ∧ Hid (wr.heap[w.heap.size]? = some (.cells #[.bool false, .string tx, .string sp, .string lo, .slice Aa na ca, .slice Ak nk ck] 30 (0, 0))) ∧ Hid (w.heap.size < wr.heap.size)) (fun _ i _ => nk - (intOf i).toNat)
    case atStart => exact ⟨0, _, rfl, Nat.zero_le _, HP0, HQ0, HB1, HK1, HZ1⟩
    case round =>
      clear HP0 HQ0 HB1 HK1 HZ1
      obtain ⟨k, ps, rfl, hk, HO, HM, HB, HX, HL⟩ := hrel
      obtain ⟨_, _, _, _, _, c5⟩ := cells6 HX.out
      obtain ⟨A3, c3, hv⟩ := own_slice HO.out.own
      subst hv
      by_cases hlt : k < nk
      · have g1 : (k : Int) < (nk : Int) := by omega
        have g0 : (0 : Int) ≤ (k : Int) := by omega
        obtain ⟨u, ux, us, ul, ua, uk, b1, o1, u1, u2, u3, u4, u5, u6, ed, rfl, hb1, x6, X⟩ := (HT.out.ks.keep HB.out).at_ (k := k) hlt
        have hsk := siz_kid ed
        have CS := Lib.hid (hIH.out u ux us ul ua uk u1 u2 u3 u4 u5 u6 B wr (by omega) (by omega) (Nat.le_trans hBw HB.out.size) X)
        have HTk : Hid ((ks.take (k + 1)).evs = (ks.take k).evs ++ (Fo.cons u ux us ul ua uk .nil).evs ∧ (ks.take (k + 1)).evs.length ≤ ks.evs.length) := Lib.hid (by
          obtain ⟨t', tx', sp', lo', ats', ks', e1, e2⟩ := drop_cons (f := ks) (k := k) (by rw [← HT.out.ks.1]; exact hlt)
          rw [ed] at e1
          injection e1 with e1 e4 e5 e6 e7 e8 e9
          subst e1 e4 e5 e6 e7 e8
          refine ⟨by rw [e2, evs_app], ?_⟩
          conv => rhs; rw [← take_drop_F (k + 1) ks]
          rw [evs_app, List.length_append]
          omega)
        obtain ⟨x1, x2, x3, x4, x5, x7⟩ := x6
        clear X ed hb1 HTn
        go_wp2_with fail
        refine CS.out.mono ?_
        rintro e' w2 ⟨v2, qs, rfl, o2, m2, b2⟩
        have HO2 := Lib.hid (HO.out.keep b2)
        have HB2 := Lib.hid (HB.out.trans (b2.mono HB.out.size))
        have HX2 := Lib.hid ((b2.block _ HL.out).trans HX.out)
        have hL2 := Nat.lt_of_lt_of_le HL.out b2.size
        have hzz : w.heap.size + 1 ≤ w2.heap.size := hL2
        obtain ⟨A4, c4, hv⟩ := own_slice o2.own
        subst hv
        obtain ⟨sn, sc⟩ := own_src o2.own
        have hnum : ps.length + qs.length ≤ 10000 := by
          have h1 := congrArg List.length HM.out
          have h2 := congrArg List.length m2
          rw [List.length_map, List.length_append, List.length_singleton] at h1
          rw [List.length_map] at h2
          have h3 := congrArg List.length HTk.out.1
          rw [List.length_append] at h3
          have := HTk.out.2
          omega
        have hql := peL_len qs
        have HOq := Lib.hid o2
        have HMq := Lib.hid m2
        have hown2 := HO2.out.own
        clear CS b2 o2 m2 x1 x2 x3 x4 x5 x7 c5 HO
        go_wp2_with (at_builtin; refine wpList_append_any (w := w2) rfl _ _ 22 rfl (w.heap.size + 1) 38 i0 (.agg #[.int .i64 0, .string ⟨#[]⟩, .string ⟨#[]⟩, .slice none 0 0, .string ⟨#[]⟩]) 5 80 Try.underlying22 hi hz0 hz1 hz2 rfl (by decide) _ ps.length (peL ps) rfl hown2 A4 qs.length c4 (peL qs) rfl sn hql sc (peL_one qs) (by unfold maxLen; omega) (by omega) hzz ?_)
        intro v' w3 n1 n2
        have HBr : ∀ g, (Value.slice A3 ps.length c3).ownBlock = some g → w.heap.size + 1 ≤ g := fun g (hg : (Value.slice A3 ps.length c3).ownBlock = some g) => (World.ownsRow.lt hown2 g hg).1
        have HO3 : Hid (EvW w3 (w.heap.size + 1) B v' (ps ++ qs)) := Lib.hid ⟨by rw [List.length_append, peL_app]; exact n1, (HO2.out.atO.grown HO2.out.low n2 (fun g hg => by have := HBr g hg; omega)).app (HOq.out.atO.grown HOq.out.low n2 (fun g hg => by have := HBr g hg; omega)), fun p hp => (List.mem_append.1 hp).elim (HO2.out.low p) (HOq.out.low p)⟩
        have HB3 : Hid (Below w.heap.size w w3) := Lib.hid (HB2.out.grown n2 HB2.out.size (fun g hg => by have := HBr g hg; omega))
        have HX3 := Lib.hid ((n2.block w.heap.size hL2 (fun h => by have := HBr _ h.symm; omega)).trans HX2.out)
        have HL3 := Lib.hid (Nat.lt_of_lt_of_le hL2 n2.size)
        have HM3 : Hid ((ps ++ qs).map (·.1) = [(⟨1, sp, lo, ats, emB⟩ : RE)] ++ (ks.take (k + 1)).evs) := Lib.hid (by rw [List.map_append, HM.out, HMq.out, HTk.out.1, List.append_assoc])
        clear hown2 n1 n2 sn sc hql hzz HBr HO2 HOq HMq HM HB2 HX2 hL2
        go_wp2
        go_roundw
        case rel => exact ⟨k + 1, ps ++ qs, by go_num, by omega, HO3, HM3, HB3, HX3, HL3⟩
        case measure => simp only [intOf]; omega
      · have hke : k = nk := by omega
        subst hke
        have g1 : ¬ (k : Int) < (k : Int) := by omega
        have hnum : ps.length ≤ 10000 := by
          have h1 := congrArg List.length HM.out
          rw [List.length_map, List.length_append, List.length_singleton, HTn.out] at h1
          omega
        have HO2 := Lib.hid (HO.out.keep ((Below.refl wr.heap.size wr).alloc (Nat.le_refl _) (.cells #[.int .i64 3, .string ⟨#[]⟩, .string ⟨#[]⟩, .slice none 0 0, .string ⟨#[]⟩] 38)))
        have HB2 := Lib.hid (HB.out.alloc HB.out.size (.cells #[.int .i64 3, .string ⟨#[]⟩, .string ⟨#[]⟩, .slice none 0 0, .string ⟨#[]⟩] 38))
        have HE : Hid (EvW (wr.alloc (.cells #[.int .i64 3, .string ⟨#[]⟩, .string ⟨#[]⟩, .slice none 0 0, .string ⟨#[]⟩] 38)) wr.heap.size B (.slice (some ⟨wr.heap.size, 0, none⟩) 1 1) [(clE, none, 0, 0)]) := Lib.hid (one_ev (p := (clE, none, 0, 0)) (nblk wr 38 #[.int .i64 3, .string ⟨#[]⟩, .string ⟨#[]⟩, .slice none 0 0, .string ⟨#[]⟩]) (Nat.le_refl _) ⟨attsNil _, ⟨by show emB.size ≤ maxLen; decide, by show emB.size ≤ maxLen; decide, by show emB.size ≤ maxLen; decide⟩⟩ (fun h => absurd h (Nat.lt_irrefl 0)))
        have hzz : w.heap.size + 1 ≤ (wr.alloc (.cells #[.int .i64 3, .string ⟨#[]⟩, .string ⟨#[]⟩, .slice none 0 0, .string ⟨#[]⟩] 38)).heap.size := by
          have := HL.out
          rw [World.size_alloc]
          omega
        obtain ⟨sn, sc⟩ := own_src HE.out.own
        have hown2 := HO2.out.own
        clear HO HX
        go_wp2_with (at_builtin; refine wpList_append_any (w := wr.alloc (.cells #[.int .i64 3, .string ⟨#[]⟩, .string ⟨#[]⟩, .slice none 0 0, .string ⟨#[]⟩] 38)) rfl _ _ 22 rfl (w.heap.size + 1) 38 i0 (.agg #[.int .i64 0, .string ⟨#[]⟩, .string ⟨#[]⟩, .slice none 0 0, .string ⟨#[]⟩]) 5 80 Try.underlying22 hi hz0 hz1 hz2 rfl (by decide) _ ps.length (peL ps) rfl hown2 (some ⟨wr.heap.size, 0, none⟩) 1 1 (peL [(clE, none, 0, 0)]) rfl sn rfl sc (peL_one _) (by unfold maxLen; omega) (by omega) hzz ?_)
        intro v' w3 n1 n2
        have HBr : ∀ g, (Value.slice A3 ps.length c3).ownBlock = some g → w.heap.size + 1 ≤ g := fun g (hg : (Value.slice A3 ps.length c3).ownBlock = some g) => (World.ownsRow.lt hown2 g hg).1
        have HO3 : Hid (EvW w3 w.heap.size B v' (ps ++ [(clE, none, 0, 0)])) := Lib.hid ⟨by rw [List.length_append, peL_app]; exact own_base n1 (Nat.le_succ _), (HO2.out.atO.grown HO2.out.low n2 (fun g hg => by have := HBr g hg; omega)).app (HE.out.atO.grown HE.out.low n2 (fun g hg => by have := HBr g hg; omega)), fun p hp => (List.mem_append.1 hp).elim (HO2.out.low p) (HE.out.low p)⟩
        have HB3 : Hid (Below w.heap.size w w3) := Lib.hid (HB2.out.grown n2 HB2.out.size (fun g hg => by have := HBr g hg; omega))
        have HM3 : Hid ((ps ++ [((clE, none, 0, 0) : PE)]).map (·.1) = (Fo.cons false tx sp lo ats ks .nil).evs) := Lib.hid (by
          rw [List.map_append, HM.out, HTn.out, evs_el]
          rfl)
        clear hown2 n1 n2 sn sc hzz HBr HO2 HE HM HB2
        go_wp2
        go_ret
        exact ⟨_, _, rfl, HO3.out, HM3.out, HB3.out⟩
theorem word_all : ∀ N, WdC N
  | 0 => fun t tx sp lo ats ks Aa na ca Ak nk ck B W h => by omega
  | N + 1 => word_step N (Lib.hid (word_all N))
end Go.Proofs.Ytaoggciebkaakaa.Ev

/- The document's End, Number (layer 10). -/
set_option linter.unusedSimpArgs false
set_option linter.unusedVariables false
namespace Go.Proofs.Ytaoggciebkaakaa.Ev
open Go.RowKit

theorem drop_at {α : Type} {l : List α} {k : Nat} {x : α} (h : l[k]? = some x) : l.drop k = x :: l.drop (k + 1) := by
  have hlt := (List.getElem?_eq_some_iff.1 h).1
  rw [List.drop_eq_getElem_cons hlt]
  rw [(List.getElem?_eq_some_iff.1 h).2]
theorem num_take {l : List RE} {k : Nat} {x : RE} (h : l[k]? = some x) : numG (l.take (k + 1)) = numG (l.take k) + (if x.kind = 3 then 0 else 1) := by
  rw [List.take_add_one, h, num_app]
  simp [numG]
theorem num_le : ∀ l : List RE, numG l ≤ l.length
  | [] => Nat.le_refl _
  | x :: l => by
    rw [numG, List.length_cons]
    have := num_le l
    split <;> omega
set_option maxHeartbeats 2000000 in
set_option maxRecDepth 100000 in
theorem end_any (A : Option Addr) (n c : Nat) (l : List RE) (a : Nat) (w : World) (T : EvsIn w A n c l) (hn : n ≤ 100000) (ha : a ≤ n) :
    Calls Try.prog 24 #[.slice A n c, .int .i64 (a : Int)] w fun e w' => e = .returned (.int .i64 (endG 0 a (l.drop a) : Nat)) ∧ w = w' := by
  obtain ⟨F, hF⟩ : ∃ F, F = endG 0 a (l.drop a) := ⟨_, rfl⟩
  rw [← hF]
  have HF := Lib.hid hF
  have HT := Lib.hid T
  clear T hF
  go_enter Try.func24, Try.ntmps24
  go_wp2_with fail
  go_loop [5, 6] (fun vn vi => ∃ (k : Nat) (m : Int), vi = .int .i64 k ∧ vn = .int .i64 m ∧ k ≤ n ∧ a ≤ k ∧ -(k : Int) ≤ m ∧ m ≤ (k : Int) ∧ Hid (F = endG m k (l.drop k))) (fun _ vi => n - (intOf vi).toNat)
  case atStart => exact ⟨a, 0, rfl, rfl, ha, Nat.le_refl _, by omega, by omega, HF⟩
  case round =>
    clear HF
    obtain ⟨k, m, rfl, rfl, hk, hak, hm1, hm2, HA⟩ := hrel
    by_cases hlt : k < n
    · have k1 : (k : Int) < (n : Int) := by omega
      have k2 : (0 : Int) ≤ (k : Int) := by omega
      have hkl : k < l.length := by rw [← HT.out.len]; exact hlt
      have hx := List.getElem?_eq_getElem hkl
      obtain ⟨b, off, Aa, na, ca, hA, hbl, TA, c0, c1, c2, c3, c4⟩ := HT.out.rd k _ hx
      have HD := Lib.hid (drop_at hx)
      generalize l[k] = x at *
      subst hA
      obtain ⟨kind, sp, lo, ats, tx⟩ := x
      dsimp only at c0
      have HE := Lib.hid (HA.out.trans (by rw [HD.out, endG]))
      clear hx hkl hbl TA c1 c2 c3 c4 HA HD
      by_cases h1 : kind = 1
      · have q1 : IntKind.i64.wrap (m + 1) = m + 1 := by rw [IntWalk.i64_in _ (by omega)]
        subst h1
        have HE2 : Hid (F = if m + 1 = 0 then k + 1 else endG (m + 1) (k + 1) (l.drop (k + 1))) := HE
        clear HE
        by_cases h0 : m + 1 = 0
        · have HE3 : Hid (F = k + 1) := Lib.hid (by rw [HE2.out, if_pos h0])
          have e0 : (m + 1 == 0) = true := by simpa using h0
          clear HE2
          go_wp2
          go_ret
          exact ⟨by rw [HE3.out] <;> first | rfl | (rw [Int.natCast_add]; rfl), rfl⟩
        · have HE3 : Hid (F = endG (m + 1) (k + 1) (l.drop (k + 1))) := Lib.hid (by rw [HE2.out, if_neg h0])
          have e0 : (m + 1 == 0) = false := by simpa using h0
          clear HE2
          go_wp2
          refine ⟨⟨k + 1, m + 1, by go_num, rfl, by omega, by omega, by omega, by omega, HE3⟩, by simp only [intOf]; omega⟩
      · have e1 : (kind == 1) = false := by simpa using h1
        by_cases h3 : kind = 3
        · have q1 : IntKind.i64.wrap (m - 1) = m - 1 := by rw [IntWalk.i64_in _ (by omega)]
          subst h3
          have HE2 : Hid (F = if m - 1 = 0 then k + 1 else endG (m - 1) (k + 1) (l.drop (k + 1))) := HE
          clear HE e1
          by_cases h0 : m - 1 = 0
          · have HE3 : Hid (F = k + 1) := Lib.hid (by rw [HE2.out, if_pos h0])
            have e0 : (m - 1 == 0) = true := by simpa using h0
            clear HE2
            go_wp2
            go_ret
            exact ⟨by rw [HE3.out] <;> first | rfl | (rw [Int.natCast_add]; rfl), rfl⟩
          · have HE3 : Hid (F = endG (m - 1) (k + 1) (l.drop (k + 1))) := Lib.hid (by rw [HE2.out, if_neg h0])
            have e0 : (m - 1 == 0) = false := by simpa using h0
            clear HE2
            go_wp2
            refine ⟨⟨k + 1, m - 1, by go_num, rfl, by omega, by omega, by omega, by omega, HE3⟩, by simp only [intOf]; omega⟩
        · have e3 : (kind == 3) = false := by simpa using h3
          have HE2 : Hid (F = if m = 0 then k + 1 else endG m (k + 1) (l.drop (k + 1))) := Lib.hid (HE.out.trans (by
            unfold dlt
            dsimp only
            rw [if_neg h1, if_neg h3, Int.add_zero]))
          clear HE h1 h3
          by_cases h0 : m = 0
          · have HE3 : Hid (F = k + 1) := Lib.hid (by rw [HE2.out, if_pos h0])
            clear HE2
            subst h0
            go_wp2
            go_ret
            exact ⟨by rw [HE3.out] <;> first | rfl | (rw [Int.natCast_add]; rfl), rfl⟩
          · have HE3 : Hid (F = endG m (k + 1) (l.drop (k + 1))) := Lib.hid (by rw [HE2.out, if_neg h0])
            have e0 : (m == 0) = false := by simpa using h0
            clear HE2 h0
            go_wp2
            refine ⟨⟨k + 1, m, by go_num, rfl, by omega, by omega, by omega, by omega, HE3⟩, by simp only [intOf]; omega⟩
    · have k1 : ¬ (k : Int) < (n : Int) := by omega
      have HE : Hid (F = n) := Lib.hid (by rw [HA.out, List.drop_of_length_le (by rw [← HT.out.len]; omega)]; show k = n; omega)
      clear HA
      go_wp2
      go_ret
      exact ⟨by rw [HE.out] <;> rfl, rfl⟩
set_option maxHeartbeats 2000000 in
set_option maxRecDepth 100000 in
theorem number_any (A : Option Addr) (n c : Nat) (l : List RE) (a : Nat) (w : World) (T : EvsIn w A n c l) (hn : n ≤ 100000) (ha : a ≤ n) :
    Calls Try.prog 21 #[.slice A n c, .int .i64 (a : Int)] w fun e w' => e = .returned (.int .i64 (numG (l.take a) : Nat)) ∧ w = w' := by
  have HT := Lib.hid T
  clear T
  go_enter Try.func21, Try.ntmps21
  go_wp2_with fail
  go_loop [5, 6] (fun vn vi => ∃ k m : Nat, vi = .int .i64 k ∧ vn = .int .i64 m ∧ k ≤ a ∧ m ≤ k ∧ Hid (m = numG (l.take k))) (fun _ vi => a - (intOf vi).toNat)
  case atStart => exact ⟨0, 0, rfl, rfl, Nat.zero_le _, Nat.zero_le _, Lib.hid (by simp [numG])⟩
  case round =>
    obtain ⟨k, m, rfl, rfl, hk, hm, HA⟩ := hrel
    by_cases hlt : k < a
    · have k1 : (k : Int) < (a : Int) := by omega
      have k3 : (k : Int) < (n : Int) := by omega
      have k2 : (0 : Int) ≤ (k : Int) := by omega
      have hkl : k < l.length := by rw [← HT.out.len]; omega
      have hx := List.getElem?_eq_getElem hkl
      obtain ⟨b, off, Aa, na, ca, hA, hbl, TA, c0, c1, c2, c3, c4⟩ := HT.out.rd k _ hx
      have HD := Lib.hid (num_take hx)
      generalize l[k] = x at *
      subst hA
      obtain ⟨kind, sp, lo, ats, tx⟩ := x
      dsimp only at c0 HD
      clear hx hkl hbl TA c1 c2 c3 c4
      by_cases h3 : kind = 3
      · have HE : Hid (m = numG (l.take (k + 1))) := Lib.hid (by rw [HD.out, if_pos h3, HA.out]; rfl)
        subst h3
        clear HA HD
        go_wp2
        refine ⟨⟨k + 1, m, by go_num, rfl, by omega, by omega, HE⟩, by simp only [intOf]; omega⟩
      · have HE : Hid (m + 1 = numG (l.take (k + 1))) := Lib.hid (by rw [HD.out, if_neg h3, HA.out])
        have e3 : (kind != 3) = true := by simpa using h3
        clear HA HD h3
        go_wp2
        refine ⟨⟨k + 1, m + 1, by go_num, by go_num, by omega, by omega, HE⟩, by simp only [intOf]; omega⟩
    · have k1 : ¬ (k : Int) < (a : Int) := by omega
      have hka : k = a := by omega
      subst hka
      have HE : Hid (m = numG (l.take k)) := HA
      clear HA
      go_wp2
      go_ret
      exact ⟨by rw [← HE.out] <;> rfl, rfl⟩
end Go.Proofs.Ytaoggciebkaakaa.Ev

/- The document's Kids (layer 10) in a document. -/
set_option linter.unusedSimpArgs false
set_option linter.unusedVariables false
namespace Go.Proofs.Ytaoggciebkaakaa.Ev
open Go.RowKit

theorem Try.info3 : (Try.prog.info? 3).map (fun i => (i.zero, i.size, i.bytes)) = some (some (.int .i64 0), 1, 8) := by kernel_rfl
/-- Places as numbers. -/
def plI (l : List Nat) : List Int := l.map fun (x : Nat) => (x : Int)
theorem plc_snoc : ∀ (f : Fo) (i : Nat) (t : Bool) (tx sp lo : ByteArray) (ats : List P3) (ks : Fo), (f.app (.cons t tx sp lo ats ks .nil)).plc i = f.plc i ++ [i + f.evs.length]
  | .nil, i, t, tx, sp, lo, ats, ks => by simp [Fo.app, Fo.plc, Fo.evs]
  | .cons t' tx' sp' lo' ats' ks' nx, i, t, tx, sp, lo, ats, ks => by
    rw [Fo.app, Fo.plc, Fo.plc, plc_snoc nx, evs_cons t' tx' sp' lo' ats' ks' nx, List.length_append, List.cons_append]
    congr 3
    omega
set_option maxHeartbeats 4000000 in
set_option maxRecDepth 100000 in
theorem kids_el (A : Option Addr) (n c : Nat) (pre post : List RE) (sp lo : ByteArray) (ats : List P3) (ks : Fo) (w : World) (T : EvsIn w A n c (pre ++ (Fo.cons false emB sp lo ats ks .nil).evs ++ post)) (hn : n ≤ 100000) :
    Calls Try.prog 22 #[.slice A n c, .int .i64 (pre.length : Int)] w fun e w' => ∃ v, e = .returned v ∧ OwnI w' w.heap.size v (plI (ks.plc (pre.length + 1))) ∧ Below w.heap.size w w' := by
  obtain ⟨i0, hi, hz0, hz1, hz2⟩ := info_parts Try.info3
  obtain ⟨l, hl⟩ : ∃ l, l = pre ++ (Fo.cons false emB sp lo ats ks .nil).evs ++ post := ⟨_, rfl⟩
  rw [← hl] at T
  have he : (Fo.cons false emB sp lo ats ks .nil).evs = ⟨1, sp, lo, ats, emB⟩ :: (ks.evs ++ [clE]) := by rw [Fo.evs, if_neg (by decide)]; simp [Fo.evs]
  have hlen : pre.length + ks.evs.length + 2 ≤ n := by
    rw [T.len, hl, he]
    simp
    omega
  have hx : l[pre.length]? = some ⟨1, sp, lo, ats, emB⟩ := by
    rw [hl, he, List.append_assoc, List.getElem?_append_right (Nat.le_refl _), Nat.sub_self]
    rfl
  have hd0 : l.drop pre.length = (Fo.cons false emB sp lo ats ks .nil).evs ++ post := by rw [hl, List.append_assoc, List.drop_left' rfl]
  have HEnd : Hid (∀ W, Below w.heap.size w W → Calls Try.prog 24 #[.slice A n c, .int .i64 (pre.length : Int)] W fun e w' => e = .returned (.int .i64 ((pre.length + 1 + ks.evs.length + 1 : Nat) : Int)) ∧ W = w') := Lib.hid fun W hb => by
    have h := end_any A n c l pre.length W (T.keep hb) hn (by omega)
    rw [hd0, end_one, he] at h
    simp only [List.length_cons, List.length_append, List.length_nil] at h
    rw [show pre.length + (ks.evs.length + (0 + 1) + 1) = pre.length + 1 + ks.evs.length + 1 by omega] at h
    exact h
  have HKid : Hid (∀ (k : Nat), k < ks.len → ∃ m : Nat, 1 ≤ m ∧ (ks.take (k + 1)).evs.length = (ks.take k).evs.length + m ∧ (ks.take (k + 1)).evs.length ≤ ks.evs.length ∧ (ks.take (k + 1)).plc (pre.length + 1) = (ks.take k).plc (pre.length + 1) ++ [pre.length + 1 + (ks.take k).evs.length] ∧ ∀ W, Below w.heap.size w W → Calls Try.prog 24 #[.slice A n c, .int .i64 ((pre.length + 1 + (ks.take k).evs.length : Nat) : Int)] W fun e w' => e = .returned (.int .i64 ((pre.length + 1 + (ks.take k).evs.length + m : Nat) : Int)) ∧ W = w') := Lib.hid fun k hk => by
    obtain ⟨t, tx, sp', lo', ats', ks', e1, e2⟩ := drop_cons hk
    have hev : (ks.take (k + 1)).evs = (ks.take k).evs ++ (Fo.cons t tx sp' lo' ats' ks' .nil).evs := by rw [e2, evs_app]
    have hks : ks.evs = (ks.take k).evs ++ ((Fo.cons t tx sp' lo' ats' ks' .nil).evs ++ (ks.drop (k + 1)).evs) := by
      conv => lhs; rw [← take_drop_F k ks]
      rw [evs_app, e1, evs_cons]
    have hle : (ks.take (k + 1)).evs.length ≤ ks.evs.length := by rw [hev, hks]; simp
    refine ⟨(Fo.cons t tx sp' lo' ats' ks' .nil).evs.length, evs_one_pos _ _ _ _ _ _, by rw [hev, List.length_append], hle, by rw [e2, plc_snoc], fun W hb => ?_⟩
    have h := end_any A n c l (pre.length + 1 + (ks.take k).evs.length) W (T.keep hb) hn (by rw [hev, List.length_append] at hle; omega)
    have hd : l.drop (pre.length + 1 + (ks.take k).evs.length) = (Fo.cons t tx sp' lo' ats' ks' .nil).evs ++ ((ks.drop (k + 1)).evs ++ ([clE] ++ post)) := by
      rw [hl, he, hks]
      rw [show pre ++ (⟨1, sp, lo, ats, emB⟩ :: ((ks.take k).evs ++ ((Fo.cons t tx sp' lo' ats' ks' .nil).evs ++ (ks.drop (k + 1)).evs) ++ [clE])) ++ post = (pre ++ [⟨1, sp, lo, ats, emB⟩] ++ (ks.take k).evs) ++ ((Fo.cons t tx sp' lo' ats' ks' .nil).evs ++ ((ks.drop (k + 1)).evs ++ ([clE] ++ post))) by simp]
      rw [List.drop_left' (by simp; omega)]
    rw [hd, end_one] at h
    exact h
  obtain ⟨b, off, Aa, na, ca, hA, hbl, TA, c0, c1, c2, c3, c4⟩ := T.rd _ _ hx
  have g1 : (pre.length : Int) < (n : Int) := by omega
  have g0 : (0 : Int) ≤ (pre.length : Int) := by omega
  have hkl : (ks.take 0).evs.length = 0 := by cases ks <;> rfl
  have HS : Hid (OwnI w w.heap.size (.slice none 0 0) (plI ((ks.take 0).plc (pre.length + 1)))) := Lib.hid (by
    have : (ks.take 0).plc (pre.length + 1) = [] := by cases ks <;> rfl
    rw [this]
    exact World.ownsRow_nil _ _ _ _)
  have HKl := Lib.hid hkl
  subst hA
  dsimp only at c0
  clear T hx hd0 he hl hbl TA c1 c2 c3 c4 hkl
  generalize pre.length = a at *
  go_enter Try.func22, Try.ntmps22
  go_wp2_with fail
  go_loopw [5, 6] (fun v i wr => ∃ k : Nat, k ≤ ks.len ∧ i = .int .i64 ((a + 1 + (ks.take k).evs.length : Nat) : Int) ∧ Hid (OwnI wr w.heap.size v (plI ((ks.take k).plc (a + 1)))) ∧ Hid (Below w.heap.size w wr)) (fun _ i _ => n - (intOf i).toNat)
  case atStart => exact ⟨0, Nat.zero_le _, by rw [HKl.out]; rfl, HS, Lib.hid (Below.refl _ _)⟩
  case round =>
    clear HS HKl c0
    obtain ⟨k, hk, rfl, HO, HB⟩ := hrel
    have CE := Lib.hid (HEnd.out wr HB.out)
    by_cases hlt : k < ks.len
    · obtain ⟨m, hm1, hm2, hm3, hm4, hm5⟩ := HKid.out k hlt
      have hpl : ((ks.take k).plc (a + 1)).length = k := by
        rw [plc_len]
        have := congrArg Fo.len (take_drop_F k ks)
        rw [len_app, len_drop] at this
        omega
      have HP4 := Lib.hid hm4
      have HC := Lib.hid hm5
      have HM2 := Lib.hid hm2
      have HPl : Hid ((plI ((ks.take k).plc (a + 1))).length = k) := Lib.hid (by unfold plI; rw [List.length_map]; exact hpl)
      have hkn : k ≤ 100000 := by
        have : k ≤ (ks.take k).evs.length := by
          clear HC HP4 HPl hm5 hm4 HKid HEnd CE
          have h2 : ∀ f : Fo, f.len ≤ f.evs.length := fun f => by
            induction f with
            | nil => exact Nat.zero_le _
            | cons t tx sp lo ats ks nx _ ih =>
              rw [Fo.len, evs_cons, List.length_append]
              have := evs_one_pos t tx sp lo ats ks
              omega
          have h3 := h2 (ks.take k)
          have := congrArg Fo.len (take_drop_F k ks)
          rw [len_app, len_drop] at this
          omega
        omega
      have hle : a + 1 + (ks.take k).evs.length + m ≤ n := by omega
      have hj : a + 1 + (ks.take k).evs.length < a + 1 + ks.evs.length := by omega
      clear hm2 hm3 hm4 hm5 hpl HKid HEnd
      generalize (ks.take k).evs.length = j at *
      generalize ks.evs.length = t at *
      generalize hp : a + 1 + j = p at *
      generalize hq : a + 1 + t = q at *
      have q1 : (p : Int) < (q : Int) := by omega
      have q2 : IntKind.i64.wrap (((q + 1 : Nat) : Int) - 1) = (q : Int) := by rw [IntWalk.i64_in _ (by omega)]; omega
      have HP := Lib.hid hp
      have hqn : q ≤ 100000 := by omega
      have hz := HB.out.size
      have HO2 := Lib.hid (HO.out.alloc (.cells #[.int .i64 (p : Int)] 3))
      have HB2 := Lib.hid (HB.out.alloc hz (.cells #[.int .i64 (p : Int)] 3))
      have hzq : w.heap.size ≤ (wr.alloc (.cells #[.int .i64 (p : Int)] 3)).heap.size := by simp; omega
      rw [HPl.out] at HO2
      clear hp hq
      go_wp2_with fail
      refine CE.out.mono ?_
      rintro e w1 ⟨rfl, rfl⟩
      clear CE
      go_wp2_with (at_builtin; refine wpList_append_own _ rfl _ _ 41 rfl w.heap.size 3 i0 (.int .i64 0) 1 8 Try.underlying41 hi hz0 hz1 hz2 rfl (by decide) _ _ _ rfl HO2.out ⟨wr.heap.size, 0, none⟩ 1 1 [.int .i64 (p : Int)] rfl rfl (lit_cells wr #[.int .i64 (p : Int)] 3) (ints_oneCell .i64 [(p : Int)]) (by unfold maxLen; omega) (by omega) hzq ?_)
      intro v' w2 hown2 hgrow _
      have HB3 := Lib.hid (HB2.out.grown hgrow hzq (fun g hg => (World.ownsRow.lt HO2.out g hg).1))
      have HO3 : Hid (OwnI w2 w.heap.size v' (plI ((ks.take (k + 1)).plc (a + 1)))) := Lib.hid (by
        rw [HP4.out]
        unfold plI OwnI
        rw [List.map_append, List.map_append, List.length_append]
        have : (List.map (fun (x : Nat) => (x : Int)) ((ks.take k).plc (a + 1))).length = k := HPl.out
        rw [this]
        exact hown2)
      have C3 := Lib.hid (HC.out w2 HB3.out)
      clear hown2 hgrow HO2 HB2 hz hzq HC HP4 HPl HO HB
      go_wp2_with fail
      refine C3.out.mono ?_
      rintro e w3 ⟨rfl, rfl⟩
      clear C3
      go_wp2
      go_roundw
      case rel => exact ⟨k + 1, hlt, by rw [HM2.out, ← HP.out]; congr 2; omega, HO3, HB3⟩
      case measure => simp only [intOf]; omega
    · have hkk : k = ks.len := by omega
      subst hkk
      rw [take_all] at *
      have q2 : IntKind.i64.wrap (((a + 1 + ks.evs.length + 1 : Nat) : Int) - 1) = ((a + 1 + ks.evs.length : Nat) : Int) := by rw [IntWalk.i64_in _ (by omega)]; omega
      have hqn : a + 1 + ks.evs.length ≤ 100000 := by omega
      clear HKid HEnd hlt hk hlen
      generalize a + 1 + ks.evs.length = q at *
      have q1 : ¬ (q : Int) < (q : Int) := by omega
      go_wp2_with fail
      refine CE.out.mono ?_
      rintro e w1 ⟨rfl, rfl⟩
      clear CE
      go_wp2
      go_ret
      exact ⟨_, rfl, HO.out, HB.out⟩
end Go.Proofs.Ytaoggciebkaakaa.Ev

/- Rows of trees of the call's own, and what stores leave of trees in memory. -/
set_option linter.unusedSimpArgs false
set_option linter.unusedVariables false
namespace Go.Proofs.Ytaoggciebkaakaa.Ev
open Go.RowKit

theorem Tr1.grown {P : Nat → Prop} {W W' : World} {row : Option Nat} {tx sp lo : ByteArray} {ats : List P3} {ks : Fo} {Aa : Option Addr} {na ca : Nat} {Ak : Option Addr} {nk ck : Nat} (hg : W.grownBy W' row) (hP : ∀ b, P b → some b ≠ row) (h : Tr1 P W tx sp lo ats ks Aa na ca Ak nk ck) : Tr1 P W' tx sp lo ats ks Aa na ca Ak nk ck :=
  ⟨h.sz, h.at_.keepG hg (fun h0 a e => hP _ (h.ap h0 a e)), h.ap, h.ks.grown hg hP⟩
/-- The cells of trees, as a list. -/
def KsV (P : Nat → Prop) (W : World) : Fo → List Value → Prop
  | .nil, vs => vs = []
  | .cons t tx sp lo ats ks nx, vs => ∃ Aa na ca Ak nk ck vs', vs = [.bool t, .string tx, .string sp, .string lo, .slice Aa na ca, .slice Ak nk ck] ++ vs' ∧ Tr1 P W tx sp lo ats ks Aa na ca Ak nk ck ∧ KsV P W nx vs'
theorem KsV.map {P Q : Nat → Prop} {W W' : World} (h : ∀ {tx sp lo : ByteArray} {ats : List P3} {ks : Fo} {Aa : Option Addr} {na ca : Nat} {Ak : Option Addr} {nk ck : Nat}, Tr1 P W tx sp lo ats ks Aa na ca Ak nk ck → Tr1 Q W' tx sp lo ats ks Aa na ca Ak nk ck) : ∀ {f : Fo} {vs : List Value}, KsV P W f vs → KsV Q W' f vs
  | .nil, _, e => e
  | .cons t tx sp lo ats ks nx, vs, ⟨Aa, na, ca, Ak, nk, ck, vs', e, h1, h2⟩ => ⟨Aa, na, ca, Ak, nk, ck, vs', e, h h1, KsV.map h h2⟩
theorem KsV.app {P : Nat → Prop} {W : World} : ∀ {f g : Fo} {vs us : List Value}, KsV P W f vs → KsV P W g us → KsV P W (f.app g) (vs ++ us)
  | .nil, g, vs, us, e, h => by
    have e : vs = [] := e
    rw [e]
    exact h
  | .cons t tx sp lo ats ks nx, g, vs, us, ⟨Aa, na, ca, Ak, nk, ck, vs', e, h1, h2⟩, h => ⟨Aa, na, ca, Ak, nk, ck, vs' ++ us, by rw [e, List.append_assoc], h1, KsV.app h2 h⟩
theorem KsV.at_ {P : Nat → Prop} {W : World} {g : Nat} : ∀ {f : Fo} {vs : List Value} {off : Nat}, KsV P W f vs → (∀ j u, vs[j]? = some u → W.cell? ⟨g, off + j, none⟩ = some u) → KsAt P W f g off
  | .nil, _, _, _, _ => trivial
  | .cons t tx sp lo ats ks nx, vs, off, ⟨Aa, na, ca, Ak, nk, ck, vs', e, h1, h2⟩, h => by
    subst e
    refine KsAt.mk ⟨h 0 _ rfl, h 1 _ rfl, h 2 _ rfl, h 3 _ rfl, h 4 _ rfl, h 5 _ rfl⟩ h1 (KsV.at_ h2 fun j u hj => ?_)
    have := h (6 + j) u (by rw [List.getElem?_append_right (by simp)]; simpa using hj)
    rw [show off + 6 + j = off + (6 + j) by omega]
    exact this
/-- A slice of trees of the call's own. -/
theorem own_ks {P : Nat → Prop} {W : World} {base n : Nat} {f : Fo} {v : Value} {vs : List Value} (h : W.ownsRow base 30 6 v n vs) (hk : KsV P W f vs) (hn : n = f.len) (hb : n ≤ 4398046511104) (hP : ∀ g, v.ownBlock = some g → P g) : ∃ A c, v = .slice A n c ∧ KsIn P W f A n c := by
  obtain ⟨sn, sc⟩ : True ∧ True := ⟨trivial, trivial⟩
  rcases h.2 with ⟨rfl, h0⟩ | ⟨g, cap, cur, rfl, hB, hh, h1, h2, h3, h4⟩
  · subst h0
    exact ⟨none, 0, rfl, hn, hb, Nat.le_refl _, Nat.zero_le _, fun _ => ⟨rfl, rfl⟩, fun h => absurd h (Nat.lt_irrefl 0)⟩
  · refine ⟨_, cap, rfl, hn, hb, h1, h2, (fun h => by cases h), fun _ => ⟨g, 0, rfl, (Array.getElem?_eq_some_iff.1 hh).1, hP g rfl, hk.at_ fun j u hj => ?_⟩⟩
    have := (own_src h).2 _ rfl j u hj
    have ha : (⟨g, 0, none⟩ : Addr).add j = ⟨g, 0 + j, none⟩ := by cases j <;> simp [Addr.add]
    rw [← ha]
    exact this
theorem len_pln : ∀ f : Fo, f.pln.len = f.len
  | .nil => rfl
  | .cons t tx sp lo ats ks nx => by
    rw [Fo.pln]
    split <;> rw [Fo.len, Fo.len, len_pln nx]
theorem pln_app : ∀ f g : Fo, (f.app g).pln = f.pln.app g.pln
  | .nil, g => rfl
  | .cons t tx sp lo ats ks nx, g => by
    rw [Fo.app, Fo.pln, Fo.pln]
    split <;> rw [Fo.app, pln_app nx]
theorem grown_setCell (W : World) (a : Addr) (u : Value) : W.grownBy (W.setCell a u) (some a.block) :=
  have h := (Below.refl 0 W).setCell (p := a) (Nat.zero_le _) u
  ⟨h.os, h.tape, h.output, h.size, fun k _ hne => Below.heap_setCell W a u k (fun e => hne (by rw [e]))⟩
end Go.Proofs.Ytaoggciebkaakaa.Ev
