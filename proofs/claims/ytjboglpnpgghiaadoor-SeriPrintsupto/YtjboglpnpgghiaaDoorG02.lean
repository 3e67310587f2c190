/-
  Merged by program out of the texts Math, Leaf, Enc, Add, Dec, Dec2, Mem, Str, Bld, CMath, RMath of one seat.
-/
import Derived.Test.YtjboglpnpgghiaaDoorProg
import Derived.WalkKit
import Derived.WalkSpells
import Derived.WalkLawsBesides
import Derived.Lib.Hide
import Derived.Laws.BytesArg
import Derived.Laws.OwnMore
import Derived.Lib.Builder
import Derived.Lib.AppendStr
import Derived.Lib.UnsafeStr
import Derived.Laws.Externs
import Derived.Lib.DecodeN

/- Plain functions on numbers and bytes: what package utf and the document's answer compute. No program is named here. -/
namespace Go.Proofs.YtjboglpnpgghiaaDoor

/-- The byte at a place, as a number (0 beyond the end). -/
def bt (s : ByteArray) (k : Nat) : Int := ((s.data.toList.getD k 0).toNat : Int)
theorem bt_lo (s : ByteArray) (k : Nat) : 0 ≤ bt s k := by unfold bt; omega
theorem bt_hi (s : ByteArray) (k : Nat) : bt s k < 256 := by unfold bt; have := (s.data.toList.getD k 0).toNat_lt; omega
theorem bt_eq (s : ByteArray) (k : Nat) (h : k < s.size) : ((s[k]).toNat : Int) = bt s k := by
  unfold bt
  have h' : k < s.data.toList.length := by simpa using h
  rw [List.getD_eq_getElem?_getD, List.getElem?_eq_getElem h']
  rfl

/-- How many bytes a first byte says that its rune has, and that byte's bits. -/
def leadN (b : Int) : Nat := if b < 128 then 1 else if b < 192 then 0 else if b < 224 then 2 else if b < 240 then 3 else if b < 248 then 4 else 0
def leadR (b : Int) : Int := if b < 128 then b else if b < 192 then 0 else if b < 224 then b - 192 else if b < 240 then b - 224 else if b < 248 then b - 240 else 0

def least (n : Nat) : Int := if n = 1 then 0 else if n = 2 then 128 else if n = 3 then 2048 else 65536
def most (n : Nat) : Int := if n = 1 then 127 else if n = 2 then 2047 else if n = 3 then 65535 else 1114111
def p64 (n : Nat) : Int := if n = 0 then 1 else if n = 1 then 64 else if n = 2 then 4096 else 262144
def possB (r : Int) (k n : Nat) : Bool :=
  n != 0 && !(decide (55296 ≤ r * p64 (n - k)) && decide (r * p64 (n - k) + p64 (n - k) - 1 ≤ 57343)) && decide (r * p64 (n - k) ≤ most n) && decide (least n ≤ r * p64 (n - k) + p64 (n - k) - 1)

/-- The decoder's loop: 'b k' is the k-th byte from the place on, of which there are 'left'. -/
def rgo (b : Nat → Int) (left n : Nat) : Nat → Nat → Int → Int × Int × Int
  | 0, _, _ => (0, 0, 2)
  | f + 1, k, r => if possB r k n = false then (0, 0, 2) else if k = n then (r, n, 0) else if k = left then (0, 0, 7) else if b k / 64 = 2 then rgo b left n f (k + 1) (r * 64 + b k % 64) else (0, 0, 2)

/-- A rune, by its first bytes: the rune, how many bytes, the error's number. -/
def canon (b : Nat → Int) (left : Nat) : Int × Int × Int :=
  if b 0 < 128 then (b 0, 1, 0)
  else if b 0 < 194 then (0, 0, 2)
  else if b 0 < 224 then
    if left < 2 then (0, 0, 7) else if b 1 < 128 ∨ 191 < b 1 then (0, 0, 2) else ((b 0 - 192) * 64 + (b 1 - 128), 2, 0)
  else if b 0 < 240 then
    if left < 2 then (0, 0, 7)
    else if b 1 < (if b 0 = 224 then 160 else 128) ∨ (if b 0 = 237 then 159 else 191) < b 1 then (0, 0, 2)
    else if left < 3 then (0, 0, 7) else if b 2 < 128 ∨ 191 < b 2 then (0, 0, 2)
    else ((b 0 - 224) * 4096 + (b 1 - 128) * 64 + (b 2 - 128), 3, 0)
  else if b 0 < 245 then
    if left < 2 then (0, 0, 7)
    else if b 1 < (if b 0 = 240 then 144 else 128) ∨ (if b 0 = 244 then 143 else 191) < b 1 then (0, 0, 2)
    else if left < 3 then (0, 0, 7) else if b 2 < 128 ∨ 191 < b 2 then (0, 0, 2)
    else if left < 4 then (0, 0, 7) else if b 3 < 128 ∨ 191 < b 3 then (0, 0, 2)
    else ((b 0 - 240) * 262144 + (b 1 - 128) * 4096 + (b 2 - 128) * 64 + (b 3 - 128), 4, 0)
  else (0, 0, 2)

theorem possB_eq (r : Int) (k n : Nat) (c : Bool) (h : (n ≠ 0 ∧ ¬ (55296 ≤ r * p64 (n - k) ∧ r * p64 (n - k) + p64 (n - k) - 1 ≤ 57343) ∧ r * p64 (n - k) ≤ most n ∧ least n ≤ r * p64 (n - k) + p64 (n - k) - 1) ↔ c = true) : possB r k n = c := by
  rw [Bool.eq_iff_iff, ← h]
  simp [possB, and_assoc]
  omega

theorem rgo_step (b : Nat → Int) (left n f k : Nat) (r : Int) : rgo b left n (f + 1) k r = if possB r k n = false then (0, 0, 2) else if k = n then (r, (n : Int), 0) else if k = left then (0, 0, 7) else if b k / 64 = 2 then rgo b left n f (k + 1) (r * 64 + b k % 64) else (0, 0, 2) := rfl

theorem possB_false (r : Int) (k n : Nat) : possB r k n = false ↔ (n = 0 ∨ (55296 ≤ r * p64 (n - k) ∧ r * p64 (n - k) + p64 (n - k) - 1 ≤ 57343) ∨ most n < r * p64 (n - k) ∨ r * p64 (n - k) + p64 (n - k) - 1 < least n) := by
  simp [possB]
  omega

theorem p64_0 : p64 0 = 1 := rfl
theorem p64_1 : p64 1 = 64 := rfl
theorem p64_2 : p64 2 = 4096 := rfl
theorem p64_3 : p64 3 = 262144 := rfl
theorem least1 : least 1 = 0 := rfl
theorem most1 : most 1 = 127 := rfl
theorem least2 : least 2 = 128 := rfl
theorem least3 : least 3 = 2048 := rfl
theorem least4 : least 4 = 65536 := rfl
theorem most2 : most 2 = 2047 := rfl
theorem most3 : most 3 = 65535 := rfl
theorem most4 : most 4 = 1114111 := rfl
theorem tri {a b c a1 b1 c1 : Int} (h : a = a1) (h1 : b = b1) (h2 : c = c1) : (a, b, c) = (a1, b1, c1) := by subst h h1 h2; rfl
theorem rgo0 (b : Nat → Int) (left f : Nat) (r : Int) (k : Nat) : rgo b left 0 (f + 1) k r = (0, 0, 2) := by simp [rgo, possB]

/-- Rune: of whatever bytes, at whatever place. -/
def runeF (s : ByteArray) (a : Int) : Int × Int × Int := if a < 0 ∨ (s.size : Int) ≤ a then (0, 0, 7) else canon (fun k => bt s (a.toNat + k)) (s.size - a.toNat)

/-- All: from a place on. -/
def allGo (s : ByteArray) : Nat → Nat → List Int × Int × Int
  | 0, a => ([], a, 0)
  | f + 1, a => if s.size ≤ a then ([], a, 0) else if (runeF s a).2.2 = 0 then ((runeF s a).1 :: (allGo s f (a + (runeF s a).2.1.toNat)).1, (allGo s f (a + (runeF s a).2.1.toNat)).2) else ([], a, (runeF s a).2.2)
def allF (s : ByteArray) : List Int × Int × Int := allGo s s.size 0

def Okay (left : Nat) (x : Int × Int × Int) : Prop := (x.2.2 = 0 ∧ 1 ≤ x.2.1 ∧ x.2.1 ≤ 4 ∧ x.2.1 ≤ left ∧ 0 ≤ x.1 ∧ x.1 ≤ 1114111 ∧ ¬ (55296 ≤ x.1 ∧ x.1 ≤ 57343)) ∨ (x.1 = 0 ∧ x.2.1 = 0 ∧ (x.2.2 = 2 ∨ x.2.2 = 7))
theorem okay_ite {left : Nat} {c : Prop} [Decidable c] {x y : Int × Int × Int} (h1 : c → Okay left x) (h2 : ¬ c → Okay left y) : Okay left (if c then x else y) := by
  by_cases h : c
  · rw [if_pos h]; exact h1 h
  · rw [if_neg h]; exact h2 h
theorem okay2 {left : Nat} : Okay left (0, 0, 2) := .inr ⟨rfl, rfl, .inl rfl⟩
theorem okay7 {left : Nat} : Okay left (0, 0, 7) := .inr ⟨rfl, rfl, .inr rfl⟩
theorem okay_mk {left : Nat} {r n : Int} (h1 : 1 ≤ n) (h2 : n ≤ 4) (h3 : n ≤ left) (h4 : 0 ≤ r) (h5 : r ≤ 1114111) (h6 : ¬ (55296 ≤ r ∧ r ≤ 57343)) : Okay left (r, n, 0) := .inl ⟨rfl, h1, h2, h3, h4, h5, h6⟩
theorem canon_okay (b : Nat → Int) (left : Nat) (hl : 1 ≤ left) (h0 : ∀ k, 0 ≤ b k) : Okay left (canon b left) := by
  have a0 := h0 0
  have b0 := h0 1
  have c0 := h0 2
  have d0 := h0 3
  unfold canon
  refine okay_ite (fun h => okay_mk (by omega) (by omega) (by omega) (by omega) (by omega) (by omega)) fun h => ?_
  refine okay_ite (fun h => okay2) fun h => ?_
  refine okay_ite (fun h => okay_ite (fun h => okay7) fun h => okay_ite (fun h => okay2) fun h => okay_mk (by omega) (by omega) (by omega) (by omega) (by omega) (by omega)) fun h => ?_
  refine okay_ite (fun h => okay_ite (fun h => okay7) fun h => okay_ite (fun h => okay2) fun h => okay_ite (fun h => okay7) fun h => okay_ite (fun h => okay2) fun h => okay_mk (by omega) (by omega) (by omega) (by omega) (by omega) (by omega)) fun h => ?_
  refine okay_ite (fun h => okay_ite (fun h => okay7) fun h => okay_ite (fun h => okay2) fun h => okay_ite (fun h => okay7) fun h => okay_ite (fun h => okay2) fun h => okay_ite (fun h => okay7) fun h => okay_ite (fun h => okay2) fun h => okay_mk (by omega) (by omega) (by omega) (by omega) (by omega) (by omega)) fun h => ?_
  exact okay2
theorem runeF_okay (s : ByteArray) (a : Nat) (h : a < s.size) : Okay (s.size - a) (runeF s a) := by
  unfold runeF
  rw [if_neg (by omega)]
  simp only [Int.toNat_natCast]
  exact canon_okay _ _ (by omega) fun k => bt_lo s _
theorem allGo_done (s : ByteArray) (f a : Nat) (h : s.size ≤ a) : allGo s f a = ([], (a : Int), 0) := by
  cases f with
  | zero => rfl
  | succ f => rw [allGo, if_pos h]
theorem allGo_err (s : ByteArray) (f a : Nat) (h : a < s.size) (he : (runeF s a).2.2 ≠ 0) : allGo s (f + 1) a = ([], (a : Int), (runeF s a).2.2) := by
  rw [allGo, if_neg (by omega), if_neg he]
theorem allGo_ok (s : ByteArray) (f a : Nat) (h : a < s.size) (he : (runeF s a).2.2 = 0) :
    allGo s (f + 1) a = ((runeF s a).1 :: (allGo s f (a + (runeF s a).2.1.toNat)).1, (allGo s f (a + (runeF s a).2.1.toNat)).2) := by
  rw [allGo, if_neg (by omega), if_pos he]
/-- The fuel does not matter, where there is enough of it. -/
theorem allGo_fuel (s : ByteArray) : ∀ (f g a : Nat), s.size - a ≤ f → s.size - a ≤ g → allGo s f a = allGo s g a
  | 0, g, a, hf, _ => by rw [allGo_done s 0 a (by omega), allGo_done s g a (by omega)]
  | f + 1, 0, a, _, hg => by rw [allGo_done s 0 a (by omega), allGo_done s (f + 1) a (by omega)]
  | f + 1, g + 1, a, hf, hg => by
    by_cases h : s.size ≤ a
    · rw [allGo_done s _ a h, allGo_done s _ a h]
    by_cases he : (runeF s a).2.2 = 0
    · have hk := runeF_okay s a (by omega)
      rw [allGo_ok s f a (by omega) he, allGo_ok s g a (by omega) he]
      have h1 : 1 ≤ (runeF s a).2.1 := by
        rcases hk with hk | hk
        · exact hk.2.1
        · omega
      rw [allGo_fuel s f g (a + (runeF s a).2.1.toNat) (by omega) (by omega)]
    · rw [allGo_err s f a (by omega) he, allGo_err s g a (by omega) he]
def allAt (s : ByteArray) (a : Nat) : List Int × Int × Int := allGo s (s.size - a) a
theorem allF_eq (s : ByteArray) : allF s = allAt s 0 := rfl
theorem allAt_done (s : ByteArray) (a : Nat) (h : s.size ≤ a) : allAt s a = ([], (a : Int), 0) := allGo_done s _ a h
theorem allAt_err (s : ByteArray) (a : Nat) (h : a < s.size) (he : (runeF s a).2.2 ≠ 0) : allAt s a = ([], (a : Int), (runeF s a).2.2) := by
  unfold allAt
  rw [show s.size - a = (s.size - a - 1) + 1 by omega]
  exact allGo_err s _ a h he
theorem allAt_ok (s : ByteArray) (a : Nat) (h : a < s.size) (he : (runeF s a).2.2 = 0) :
    allAt s a = ((runeF s a).1 :: (allAt s (a + (runeF s a).2.1.toNat)).1, (allAt s (a + (runeF s a).2.1.toNat)).2) := by
  have hk := runeF_okay s a h
  have h1 : 1 ≤ (runeF s a).2.1 := by
    rcases hk with hk | hk
    · exact hk.2.1
    · omega
  unfold allAt
  rw [show s.size - a = (s.size - a - 1) + 1 by omega, allGo_ok s _ a h he]
  rw [allGo_fuel s (s.size - a - 1) (s.size - (a + (runeF s a).2.1.toNat)) _ (by omega) (by omega)]
end Go.Proofs.YtjboglpnpgghiaaDoor

/- Walks: what utf's small functions return (lead, span, follow, possible), whatever the world. -/
namespace Go.Proofs.YtjboglpnpgghiaaDoor
open Go.RowKit

theorem i32_or0 (x : Int) (h0 : 0 ≤ x) (h1 : x < 2147483648) : bits .or .i32 x 0 = x := by
  have := bits_join .i32 31 (by decide) wraps_i32 0 x 0 h0 (by omega) h1 (by omega) (by omega) (by omega)
  simpa using this
theorem ret_two {k1 k2 : IntKind} {a b a1 b1 : Int} (h : a = a1) (h1 : b = b1) : Ending.returned (.tuple #[.int k1 a, .int k2 b]) = .returned (.tuple #[.int k1 a1, .int k2 b1]) := by rw [h, h1]
theorem ret_bool {a b : Bool} (h : a = b) : Ending.returned (.bool a) = .returned (.bool b) := by rw [h]

set_option maxHeartbeats 400000 in
theorem lead_any (b : Int) (w : World) (h0 : 0 ≤ b) (h1 : b < 256) : Calls Tryd.prog 51 #[.int .u8 b] w fun e w' => e = .returned (.tuple #[.int .i32 (leadR b), .int .i64 (leadN b)]) ∧ w = w' := by
  go_enter Tryd.func51, Tryd.ntmps51
  go_wp2
  all_goals
    go_ret2
    refine ⟨?_, rfl⟩
    simp only [beq_iff_eq, beq_eq_false_iff_ne] at *
    unfold leadR leadN
    refine ret_two ?_ ?_
    · repeat' split
      all_goals omega
    · repeat' split
      all_goals omega

set_option maxHeartbeats 4000000 in
theorem poss_any (r : Int) (k n : Nat) (w : World) (h0 : 0 ≤ r) (h1 : r * p64 (n - k) < 2097152) (hk : 1 ≤ k) (hn : k ≤ n) (h4 : n ≤ 4) :
    Calls Tryd.prog 52 #[.int .i32 r, .int .i64 k, .int .i64 n] w fun e w' => e = .returned (.bool (possB r k n)) ∧ w = w' := by
  have h : (k = 1 ∧ n = 1) ∨ (k = 1 ∧ n = 2) ∨ (k = 2 ∧ n = 2) ∨ (k = 1 ∧ n = 3) ∨ (k = 2 ∧ n = 3) ∨ (k = 3 ∧ n = 3) ∨ (k = 1 ∧ n = 4) ∨ (k = 2 ∧ n = 4) ∨ (k = 3 ∧ n = 4) ∨ (k = 4 ∧ n = 4) := by omega
  rcases h with ⟨rfl, rfl⟩ | ⟨rfl, rfl⟩ | ⟨rfl, rfl⟩ | ⟨rfl, rfl⟩ | ⟨rfl, rfl⟩ | ⟨rfl, rfl⟩ | ⟨rfl, rfl⟩ | ⟨rfl, rfl⟩ | ⟨rfl, rfl⟩ | ⟨rfl, rfl⟩
  all_goals
    simp only [Nat.reduceSub, p64_0, p64_1, p64_2, p64_3] at h1
    have h00 := i32_or0 r h0 (by omega)
    go_enter Tryd.func52, Tryd.ntmps52
    go_wp2
    all_goals
      go_ret
      refine ⟨ret_bool (possB_eq _ _ _ _ ?_).symm, rfl⟩
      simp only [Nat.reduceSub, p64_0, p64_1, p64_2, p64_3, least1, least2, least3, least4, most1, most2, most3, most4, decide_eq_true_eq, Bool.false_eq_true, iff_false]
      first
        | omega
        | (simp only [iff_true]; omega)
        | (simp; omega)

set_option maxHeartbeats 400000 in
theorem poss_zero (r : Int) (k : Int) (w : World) :
    Calls Tryd.prog 52 #[.int .i32 r, .int .i64 k, .int .i64 0] w fun e w' => e = .returned (.bool false) ∧ w = w' := by
  go_enter Tryd.func52, Tryd.ntmps52
  go_wp2
  go_ret
  exact ⟨rfl, rfl⟩
end Go.Proofs.YtjboglpnpgghiaaDoor

/- A rune's bytes, as numbers. -/
set_option linter.unusedSimpArgs false
set_option linter.unusedVariables false
namespace Go.Proofs.YtjboglpnpgghiaaDoor

def encB (r : Int) : List Int :=
  if r < 128 then [r] else if r < 2048 then [192 + r / 64, 128 + r % 64] else if r < 65536 then [224 + r / 4096, 128 + r / 64 % 64, 128 + r % 64]
  else [240 + r / 262144, 128 + r / 4096 % 64, 128 + r / 64 % 64, 128 + r % 64]
/-- It has no bytes. -/
def Bad (r : Int) : Prop := r < 0 ∨ 1114111 < r ∨ (55296 ≤ r ∧ r ≤ 57343)
instance (r : Int) : Decidable (Bad r) := by unfold Bad; infer_instance
def putI (r : Int) : List Int := if Bad r then encB 65533 else encB r
def refPut (r : Int) : List Int := if Bad r then [] else encB r
theorem enc1 {r : Int} (h : r < 128) : encB r = [r] := by simp [encB, h]
theorem enc2 {r : Int} (h : 128 ≤ r) (h2 : r < 2048) : encB r = [192 + r / 64, 128 + r % 64] := by
  simp only [encB]; rw [if_neg (by omega), if_pos h2]
theorem enc3 {r : Int} (h : 2048 ≤ r) (h2 : r < 65536) : encB r = [224 + r / 4096, 128 + r / 64 % 64, 128 + r % 64] := by
  simp only [encB]; rw [if_neg (by omega), if_neg (by omega), if_pos h2]
theorem enc4 {r : Int} (h : 65536 ≤ r) : encB r = [240 + r / 262144, 128 + r / 4096 % 64, 128 + r / 64 % 64, 128 + r % 64] := by
  simp only [encB]; rw [if_neg (by omega), if_neg (by omega), if_neg (by omega)]
theorem putI_ok {r : Int} (h : ¬ Bad r) : putI r = encB r := by simp only [putI, if_neg h]
theorem encB_len (r : Int) : 1 ≤ (encB r).length ∧ (encB r).length ≤ 4 := by
  unfold encB
  repeat' split
  all_goals simp
theorem putI_len (r : Int) : 1 ≤ (putI r).length ∧ (putI r).length ≤ 4 := by
  unfold putI
  split
  · exact encB_len _
  · exact encB_len _
end Go.Proofs.YtjboglpnpgghiaaDoor

/- The walk of utf.add: a rune's bytes behind a slice of the call's own. -/
set_option linter.unusedSimpArgs false
set_option linter.unusedVariables false
namespace Go.Proofs.YtjboglpnpgghiaaDoor
open Go.RowKit

theorem Tryd.info5 : (Tryd.prog.info? 5).map (fun i => (i.zero, i.size, i.bytes)) = some (some (.int .u8 0), 1, 1) := by kernel_rfl
/-- A slice of bytes of the call's own: from block B on. -/
def OwnB (w : World) (B : Nat) (v : Value) (l : List Int) : Prop := w.ownsRow B 5 1 v l.length (l.map (Value.int .u8))
theorem Blk0 (w : World) (t : TypeId) (cs : Array Value) (i : Nat) : (w.alloc (.cells cs t)).cell? ⟨w.heap.size, i, none⟩ = cs[i]? := cell_of_row _ _ i cs t (0, 0) (heap_alloc_new w _)
theorem lit_cells (w : World) (cs : Array Value) (e : TypeId) : ∀ (j : Nat) (u : Value), cs.toList[j]? = some u → (w.alloc (.cells cs e)).cell? ((⟨w.heap.size, 0, none⟩ : Addr).add j) = some u := by
  intro j u h
  have hc := (Blk0 w e cs) j
  unfold Addr.add
  by_cases h0 : j = 0
  · subst h0
    simpa [hc] using h
  · simpa [h0, hc] using h
end Go.Proofs.YtjboglpnpgghiaaDoor

/- Decoding and encoding, on lists of bytes: each undoes the other; what begins a rune is cut off. -/
set_option linter.unusedSimpArgs false
set_option linter.unusedVariables false
namespace Go.Proofs.YtjboglpnpgghiaaDoor

def dec1 (L : List Int) : Int × Int × Int := canon (fun k => L.getD k 0) L.length

theorem dec_enc (r : Int) (T : List Int) (h : ¬ Bad r) : dec1 (encB r ++ T) = (r, ((encB r).length : Int), 0) := by
  unfold Bad at h
  unfold dec1
  by_cases h1 : r < 128
  · rw [enc1 h1]
    simp [canon, h1]
  by_cases h2 : r < 2048
  · rw [enc2 (by omega) h2]
    simp only [canon, List.cons_append, List.nil_append, List.getD_cons_zero, List.getD_cons_succ, List.length_cons, List.length_nil]
    rw [if_neg (by omega), if_neg (by omega), if_pos (by omega), if_neg (by omega), if_neg (by omega)]
    exact tri (by omega) (by omega) rfl
  by_cases h3 : r < 65536
  · rw [enc3 (by omega) h3]
    simp only [canon, List.cons_append, List.nil_append, List.getD_cons_zero, List.getD_cons_succ, List.length_cons, List.length_nil]
    rw [if_neg (by omega), if_neg (by omega), if_neg (by omega), if_pos (by omega), if_neg (by omega), if_neg (by omega), if_neg (by omega), if_neg (by omega)]
    exact tri (by omega) (by omega) rfl
  · rw [enc4 (by omega)]
    simp only [canon, List.cons_append, List.nil_append, List.getD_cons_zero, List.getD_cons_succ, List.length_cons, List.length_nil]
    rw [if_neg (by omega), if_neg (by omega), if_neg (by omega), if_neg (by omega), if_pos (by omega), if_neg (by omega), if_neg (by omega), if_neg (by omega), if_neg (by omega), if_neg (by omega), if_neg (by omega)]
    exact tri (by omega) (by omega) rfl

/-- A proper beginning of a rune's bytes is cut off. -/
theorem dec_cut (r : Int) (j : Nat) (h : ¬ Bad r) (h1 : 1 ≤ j) (h2 : j < (encB r).length) : dec1 ((encB r).take j) = (0, 0, 7) := by
  unfold Bad at h
  unfold dec1
  by_cases q1 : r < 128
  · rw [enc1 q1] at h2; simp at h2; omega
  by_cases q2 : r < 2048
  · rw [enc2 (by omega) q2] at h2 ⊢
    have : j = 1 := by simp at h2; omega
    subst this
    simp only [canon, List.take_succ_cons, List.take_zero, List.getD_cons_zero, List.getD_cons_succ, List.length_cons, List.length_nil]
    rw [if_neg (by omega), if_neg (by omega), if_pos (by omega), if_pos (by omega)]
  by_cases q3 : r < 65536
  · rw [enc3 (by omega) q3] at h2 ⊢
    have : j = 1 ∨ j = 2 := by simp at h2; omega
    rcases this with rfl | rfl
    · simp only [canon, List.take_succ_cons, List.take_zero, List.getD_cons_zero, List.getD_cons_succ, List.length_cons, List.length_nil]
      rw [if_neg (by omega), if_neg (by omega), if_neg (by omega), if_pos (by omega), if_pos (by omega)]
    · simp only [canon, List.take_succ_cons, List.take_zero, List.getD_cons_zero, List.getD_cons_succ, List.length_cons, List.length_nil]
      rw [if_neg (by omega), if_neg (by omega), if_neg (by omega), if_pos (by omega), if_neg (by omega), if_neg (by omega), if_pos (by omega)]
  · rw [enc4 (by omega)] at h2 ⊢
    have : j = 1 ∨ j = 2 ∨ j = 3 := by simp at h2; omega
    rcases this with rfl | rfl | rfl
    · simp only [canon, List.take_succ_cons, List.take_zero, List.getD_cons_zero, List.getD_cons_succ, List.length_cons, List.length_nil]
      rw [if_neg (by omega), if_neg (by omega), if_neg (by omega), if_neg (by omega), if_pos (by omega), if_pos (by omega)]
    · simp only [canon, List.take_succ_cons, List.take_zero, List.getD_cons_zero, List.getD_cons_succ, List.length_cons, List.length_nil]
      rw [if_neg (by omega), if_neg (by omega), if_neg (by omega), if_neg (by omega), if_pos (by omega), if_neg (by omega), if_neg (by omega), if_pos (by omega)]
    · simp only [canon, List.take_succ_cons, List.take_zero, List.getD_cons_zero, List.getD_cons_succ, List.length_cons, List.length_nil]
      rw [if_neg (by omega), if_neg (by omega), if_neg (by omega), if_neg (by omega), if_pos (by omega), if_neg (by omega), if_neg (by omega), if_neg (by omega), if_neg (by omega), if_pos (by omega)]

/-- What is decoded is what was encoded. -/
def Inv (L : List Int) (x : Int × Int × Int) : Prop := x.2.2 = 0 → ¬ Bad x.1 ∧ x.2.1 = ((encB x.1).length : Int) ∧ L.take (encB x.1).length = encB x.1 ∧ (encB x.1).length ≤ L.length
theorem inv_ite {L : List Int} {c : Prop} [Decidable c] {x y : Int × Int × Int} (h1 : c → Inv L x) (h2 : ¬ c → Inv L y) : Inv L (if c then x else y) := by
  by_cases h : c
  · rw [if_pos h]; exact h1 h
  · rw [if_neg h]; exact h2 h
theorem inv2 {L : List Int} : Inv L (0, 0, 2) := fun h => by simp at h
theorem inv7 {L : List Int} : Inv L (0, 0, 7) := fun h => by simp at h
theorem inv_mk {L : List Int} {r n : Int} (h : ¬ Bad r) (hn : n = ((encB r).length : Int)) (h1 : L.take (encB r).length = encB r) : Inv L (r, n, 0) := fun _ => ⟨h, hn, h1, by
  have := congrArg List.length h1
  rw [List.length_take] at this
  dsimp only
  omega⟩
theorem take1 {L : List Int} (h : 1 ≤ L.length) : L.take 1 = [L.getD 0 0] := by
  match L, h with
  | a :: L, _ => simp
theorem take2 {L : List Int} (h : 2 ≤ L.length) : L.take 2 = [L.getD 0 0, L.getD 1 0] := by
  match L, h with
  | a :: b :: L, _ => simp
theorem take3 {L : List Int} (h : 3 ≤ L.length) : L.take 3 = [L.getD 0 0, L.getD 1 0, L.getD 2 0] := by
  match L, h with
  | a :: b :: c :: L, _ => simp
theorem take4 {L : List Int} (h : 4 ≤ L.length) : L.take 4 = [L.getD 0 0, L.getD 1 0, L.getD 2 0, L.getD 3 0] := by
  match L, h with
  | a :: b :: c :: d :: L, _ => simp
theorem cons_eq {a b : Int} {s t : List Int} (h : a = b) (h2 : s = t) : a :: s = b :: t := by rw [h, h2]

theorem inv_1 {L : List Int} (hl : 1 ≤ L.length) (h0 : 0 ≤ L.getD 0 0) (h1 : L.getD 0 0 < 128) : Inv L (L.getD 0 0, 1, 0) := by
  refine inv_mk (by unfold Bad; omega) ?_ ?_
  · rw [enc1 h1]; rfl
  · rw [enc1 h1]; exact take1 hl
theorem inv_2 {L : List Int} (hl : 2 ≤ L.length) (h0 : 194 ≤ L.getD 0 0) (h1 : L.getD 0 0 < 224) (h2 : 128 ≤ L.getD 1 0) (h3 : L.getD 1 0 ≤ 191) :
    Inv L ((L.getD 0 0 - 192) * 64 + (L.getD 1 0 - 128), 2, 0) := by
  have t := take2 hl
  generalize L.getD 0 0 = a at *
  generalize L.getD 1 0 = b at *
  refine inv_mk (by unfold Bad; omega) ?_ ?_
  · rw [enc2 (by omega) (by omega)]; rfl
  · rw [enc2 (by omega) (by omega)]
    refine t.trans (cons_eq (by omega) (cons_eq (by omega) rfl))
theorem inv_3 {L : List Int} (hl : 3 ≤ L.length) (h0 : 224 ≤ L.getD 0 0) (h1 : L.getD 0 0 < 240) (h2 : 128 ≤ L.getD 1 0) (h3 : L.getD 1 0 ≤ 191) (h4 : 128 ≤ L.getD 2 0) (h5 : L.getD 2 0 ≤ 191)
    (h6 : L.getD 0 0 = 224 → 160 ≤ L.getD 1 0) (h7 : L.getD 0 0 = 237 → L.getD 1 0 ≤ 159) :
    Inv L ((L.getD 0 0 - 224) * 4096 + (L.getD 1 0 - 128) * 64 + (L.getD 2 0 - 128), 3, 0) := by
  have t := take3 hl
  generalize L.getD 0 0 = a at *
  generalize L.getD 1 0 = b at *
  generalize L.getD 2 0 = c at *
  refine inv_mk (by unfold Bad; omega) ?_ ?_
  · rw [enc3 (by omega) (by omega)]; rfl
  · rw [enc3 (by omega) (by omega)]
    refine t.trans (cons_eq (by omega) (cons_eq (by omega) (cons_eq (by omega) rfl)))
theorem inv_4 {L : List Int} (hl : 4 ≤ L.length) (h0 : 240 ≤ L.getD 0 0) (h1 : L.getD 0 0 < 245) (h2 : 128 ≤ L.getD 1 0) (h3 : L.getD 1 0 ≤ 191) (h4 : 128 ≤ L.getD 2 0) (h5 : L.getD 2 0 ≤ 191) (h8 : 128 ≤ L.getD 3 0) (h9 : L.getD 3 0 ≤ 191)
    (h6 : L.getD 0 0 = 240 → 144 ≤ L.getD 1 0) (h7 : L.getD 0 0 = 244 → L.getD 1 0 ≤ 143) :
    Inv L ((L.getD 0 0 - 240) * 262144 + (L.getD 1 0 - 128) * 4096 + (L.getD 2 0 - 128) * 64 + (L.getD 3 0 - 128), 4, 0) := by
  have t := take4 hl
  generalize L.getD 0 0 = a at *
  generalize L.getD 1 0 = b at *
  generalize L.getD 2 0 = c at *
  generalize L.getD 3 0 = d at *
  refine inv_mk (by unfold Bad; omega) ?_ ?_
  · rw [enc4 (by omega)]; rfl
  · rw [enc4 (by omega)]
    refine t.trans (cons_eq (by omega) (cons_eq (by omega) (cons_eq (by omega) (cons_eq (by omega) rfl))))

theorem dec_inv (L : List Int) (hl : L ≠ []) (h0 : ∀ k, 0 ≤ L.getD k 0) : Inv L (dec1 L) := by
  have hp : 1 ≤ L.length := by
    have := List.length_pos_iff.2 hl
    omega
  have a0 := h0 0
  unfold dec1 canon
  simp only
  refine inv_ite (fun h => inv_1 hp a0 h) fun n1 => ?_
  refine inv_ite (fun h => inv2) fun n2 => ?_
  refine inv_ite (fun h => inv_ite (fun h => inv7) fun n3 => inv_ite (fun h => inv2) fun n4 => inv_2 (by omega) (by omega) (by omega) (by omega) (by omega)) fun n3 => ?_
  refine inv_ite (fun h => inv_ite (fun h => inv7) fun n3 => inv_ite (fun h => inv2) fun n4 => inv_ite (fun h => inv7) fun n5 => inv_ite (fun h => inv2) fun n6 =>
    inv_3 (by omega) (by omega) (by omega) (by split at n4 <;> omega) (by split at n4 <;> (try split at n4) <;> omega) (by omega) (by omega) (by intro e; rw [if_pos e] at n4; omega) (by intro e; rw [if_pos e] at n4; omega)) fun n3 => ?_
  refine inv_ite (fun h => inv_ite (fun h => inv7) fun n3 => inv_ite (fun h => inv2) fun n4 => inv_ite (fun h => inv7) fun n5 => inv_ite (fun h => inv2) fun n6 => inv_ite (fun h => inv7) fun n7 => inv_ite (fun h => inv2) fun n8 =>
    inv_4 (by omega) (by omega) (by omega) (by split at n4 <;> omega) (by split at n4 <;> (try split at n4) <;> omega) (by omega) (by omega) (by omega) (by omega) (by intro e; rw [if_pos e] at n4; omega) (by intro e; rw [if_pos e] at n4; omega)) fun n3 => ?_
  exact inv2
end Go.Proofs.YtjboglpnpgghiaaDoor

/- Decoding a whole list of bytes. -/
set_option linter.unusedSimpArgs false
set_option linter.unusedVariables false
namespace Go.Proofs.YtjboglpnpgghiaaDoor

/-- No number below 0. -/
def NN (L : List Int) : Prop := ∀ x ∈ L, 0 ≤ x
theorem NN.getD {L : List Int} (h : NN L) (k : Nat) : 0 ≤ L.getD k 0 := by
  rw [List.getD_eq_getElem?_getD]
  rcases Nat.lt_or_ge k L.length with hk | hk
  · rw [List.getElem?_eq_getElem hk]; exact h _ (List.getElem_mem hk)
  · rw [List.getElem?_eq_none hk]; exact Int.le_refl 0
theorem NN.drop {L : List Int} (h : NN L) (k : Nat) : NN (L.drop k) := fun x hx => h x (List.mem_of_mem_drop hx)
theorem NN.take {L : List Int} (h : NN L) (k : Nat) : NN (L.take k) := fun x hx => h x (List.mem_of_mem_take hx)

def decL : Nat → List Int → List Int × Nat × Int
  | 0, _ => ([], 0, 0)
  | f + 1, L => if L = [] then ([], 0, 0) else if (dec1 L).2.2 = 0 then ((dec1 L).1 :: (decL f (L.drop (dec1 L).2.1.toNat)).1, (dec1 L).2.1.toNat + (decL f (L.drop (dec1 L).2.1.toNat)).2.1, (decL f (L.drop (dec1 L).2.1.toNat)).2.2) else ([], 0, (dec1 L).2.2)
def decF (L : List Int) : List Int × Nat × Int := decL L.length L

theorem dec_ok1 {L : List Int} (hl : L ≠ []) (hn : NN L) (h : (dec1 L).2.2 = 0) : 1 ≤ (dec1 L).2.1.toNat ∧ (dec1 L).2.1.toNat ≤ L.length := by
  have hi := dec_inv L hl hn.getD h
  have := encB_len (dec1 L).1
  omega
theorem decL_nil (f : Nat) : decL f [] = ([], 0, 0) := by cases f <;> simp [decL]
theorem decL_err (f : Nat) (L : List Int) (hl : L ≠ []) (h : (dec1 L).2.2 ≠ 0) : decL (f + 1) L = ([], 0, (dec1 L).2.2) := by rw [decL, if_neg hl, if_neg h]
theorem decL_ok (f : Nat) (L : List Int) (hl : L ≠ []) (h : (dec1 L).2.2 = 0) : decL (f + 1) L = ((dec1 L).1 :: (decL f (L.drop (dec1 L).2.1.toNat)).1, (dec1 L).2.1.toNat + (decL f (L.drop (dec1 L).2.1.toNat)).2.1, (decL f (L.drop (dec1 L).2.1.toNat)).2.2) := by
  rw [decL, if_neg hl, if_pos h]
theorem decL_fuel : ∀ (f g : Nat) (L : List Int), NN L → L.length ≤ f → L.length ≤ g → decL f L = decL g L
  | 0, g, L, _, hf, _ => by
    have : L = [] := List.eq_nil_of_length_eq_zero (by omega)
    subst this
    rw [decL_nil, decL_nil]
  | f + 1, 0, L, _, _, hg => by
    have : L = [] := List.eq_nil_of_length_eq_zero (by omega)
    subst this
    rw [decL_nil, decL_nil]
  | f + 1, g + 1, L, hn, hf, hg => by
    by_cases hl : L = []
    · subst hl; rw [decL_nil, decL_nil]
    by_cases h : (dec1 L).2.2 = 0
    · have hk := dec_ok1 hl hn h
      rw [decL_ok f L hl h, decL_ok g L hl h, decL_fuel f g (L.drop (dec1 L).2.1.toNat) (hn.drop _) (by simp; omega) (by simp; omega)]
    · rw [decL_err f L hl h, decL_err g L hl h]
theorem decF_nil : decF [] = ([], 0, 0) := rfl
theorem decF_err (L : List Int) (hl : L ≠ []) (h : (dec1 L).2.2 ≠ 0) : decF L = ([], 0, (dec1 L).2.2) := by
  have hp := List.length_pos_iff.2 hl
  unfold decF
  rw [show L.length = (L.length - 1) + 1 by omega]
  exact decL_err _ L hl h
theorem decF_ok (L : List Int) (hl : L ≠ []) (hn : NN L) (h : (dec1 L).2.2 = 0) : decF L = ((dec1 L).1 :: (decF (L.drop (dec1 L).2.1.toNat)).1, (dec1 L).2.1.toNat + (decF (L.drop (dec1 L).2.1.toNat)).2.1, (decF (L.drop (dec1 L).2.1.toNat)).2.2) := by
  have hp := List.length_pos_iff.2 hl
  have hk := dec_ok1 hl hn h
  have e : decL L.length L = decL ((L.length - 1) + 1) L := by rw [show (L.length - 1) + 1 = L.length by omega]
  unfold decF
  rw [e, decL_ok _ L hl h, decL_fuel (L.length - 1) (L.drop (dec1 L).2.1.toNat).length _ (hn.drop _) (by simp; omega) (Nat.le_refl _)]

theorem encB_nn (r : Int) (h : ¬ Bad r) : NN (encB r) ∧ ∀ x ∈ encB r, x ≤ 255 := by
  unfold Bad at h
  unfold NN
  by_cases h1 : r < 128
  · rw [enc1 h1]; simp; omega
  by_cases h2 : r < 2048
  · rw [enc2 (by omega) h2]; simp; omega
  by_cases h3 : r < 65536
  · rw [enc3 (by omega) h3]; simp; omega
  · rw [enc4 (by omega)]; simp; omega

def Good (l : List Int) : Prop := ∀ r ∈ l, ¬ Bad r
/-- What is decoded, put again, is what was there; without an error, all of it. -/
def Back (L : List Int) (x : List Int × Nat × Int) : Prop :=
  Good x.1 ∧ x.1.flatMap putI = L.take x.2.1 ∧ x.2.1 ≤ L.length ∧ (x.2.2 = 0 → x.2.1 = L.length) ∧ (x.2.2 ≠ 0 → x.2.1 < L.length)
theorem decF_back : ∀ (n : Nat) (L : List Int), L.length ≤ n → NN L → Back L (decF L)
  | 0, L, h, hn => by
    have : L = [] := List.eq_nil_of_length_eq_zero (by omega)
    subst this
    rw [decF_nil]
    exact ⟨fun r hr => by simp at hr, rfl, Nat.le_refl _, fun _ => rfl, fun h => absurd rfl h⟩
  | n + 1, L, h, hn => by
    by_cases hl : L = []
    · subst hl
      rw [decF_nil]
      exact ⟨fun r hr => by simp at hr, rfl, Nat.le_refl _, fun _ => rfl, fun h => absurd rfl h⟩
    have hp := List.length_pos_iff.2 hl
    by_cases he : (dec1 L).2.2 = 0
    · have hi := dec_inv L hl hn.getD he
      obtain ⟨hb, hlen, htk, hle⟩ := hi
      have h1 := encB_len (dec1 L).1
      rw [decF_ok L hl hn he]
      have ht : (dec1 L).2.1.toNat = (encB (dec1 L).1).length := by omega
      rw [ht]
      generalize (dec1 L).1 = r at *
      obtain ⟨a, b, c, d, e⟩ := decF_back n (L.drop (encB r).length) (by simp; omega) (hn.drop _)
      generalize decF (L.drop (encB r).length) = y at *
      rw [List.length_drop] at c d e
      refine ⟨?_, ?_, ?_, ?_, ?_⟩
      · intro x hx
        rcases List.mem_cons.1 hx with rfl | hx
        · exact hb
        · exact a x hx
      · show (r :: y.1).flatMap putI = L.take ((encB r).length + y.2.1)
        rw [List.flatMap_cons, putI_ok hb, b, List.take_add, htk]
      · show (encB r).length + y.2.1 ≤ L.length
        omega
      · intro h0
        have := d h0
        show (encB r).length + y.2.1 = L.length
        omega
      · intro h0
        have := e h0
        show (encB r).length + y.2.1 < L.length
        omega
    · rw [decF_err L hl he]
      exact ⟨fun r hr => by simp at hr, rfl, Nat.zero_le _, fun h => absurd h he, fun _ => hp⟩
end Go.Proofs.YtjboglpnpgghiaaDoor

/- Slices of numbers in memory: what a slice reads as; what a slice of the call's own reads as; bytes as a string. -/
set_option linter.unusedSimpArgs false
set_option linter.unusedVariables false
namespace Go.Proofs.YtjboglpnpgghiaaDoor
open Go.RowKit

/-- The slice at A reads as the numbers l, and lies below block B. -/
def Rd (k : IntKind) (w : World) (B : Nat) (A : Option Addr) (l : List Int) : Prop :=
  l = [] ∨ ∃ b off, A = some ⟨b, off, none⟩ ∧ b < B ∧ ∀ j, j < l.length → w.cell? ⟨b, off + j, none⟩ = some (.int k (l.getD j 0))

theorem Rd.below {k : IntKind} {w w' : World} {B : Nat} {A : Option Addr} {l : List Int} (h : Rd k w B A l) (hb : Below B w w') : Rd k w' B A l := by
  rcases h with h | ⟨b, off, rfl, hlt, hc⟩
  · exact .inl h
  · exact .inr ⟨b, off, rfl, hlt, fun j hj => (hb.cell (p := ⟨b, off + j, none⟩) hlt).trans (hc j hj)⟩
theorem Rd.at_ {k : IntKind} {w : World} {B : Nat} {A : Option Addr} {l : List Int} (h : Rd k w B A l) {j : Nat} (hj : j < l.length) :
    ∃ b off, A = some ⟨b, off, none⟩ ∧ b < B ∧ w.cell? ⟨b, off + j, none⟩ = some (.int k (l.getD j 0)) := by
  rcases h with h | ⟨b, off, rfl, hlt, hc⟩
  · subst h; simp at hj
  · exact ⟨b, off, rfl, hlt, hc j hj⟩
/-- A slice of the call's own is a slice value, and reads as what it owns. -/
theorem own_rd {k : IntKind} {w : World} {B : Nat} {e : TypeId} {v : Value} {l : List Int} (h : w.ownsRow B e 1 v l.length (l.map (Value.int k))) :
    ∃ A c, v = .slice A l.length c ∧ Rd k w w.heap.size A l := by
  rcases h.2 with ⟨rfl, h0⟩ | ⟨g, cap, cur, rfl, _, hh, _, _, _, _⟩
  · have : l = [] := List.eq_nil_of_length_eq_zero h0
    subst this
    exact ⟨none, 0, rfl, .inl rfl⟩
  · refine ⟨_, cap, rfl, .inr ⟨g, 0, rfl, ?_, fun j hj => ?_⟩⟩
    · exact (h.lt g rfl).2
    · have := h.cellAt (g := g) j (by omega)
      rw [Nat.zero_add, this]
      simp [List.getElem?_eq_getElem hj]
/-- 'string(b)'. -/
theorem conv_rd {w : World} {B : Nat} {A : Option Addr} {l : List Int} {c : Nat} (h : Rd .u8 w B A l) :
    (convert 39 9 (.slice A l.length c)).run Tryd.prog w = .ok (.string (strOfNums l)) w := by
  rcases h with rfl | ⟨b, off, rfl, hlt, hc⟩
  · cases A with
    | none => exact run_convert_bytes_nil w 39 5 Tryd.underlying39 Tryd.underlying5 _ _ 9 Tryd.underlying9
    | some a =>
      rw [run_convert_bytes_string w 39 9 5 _ _ c Tryd.underlying39 Tryd.underlying5 Tryd.underlying9, run_bytesToString w a _ c [] (by simp [loadCells, loadCellsFrom])]
      rfl
  · exact run_convert_bytes_arg w 39 5 Tryd.underlying39 Tryd.underlying5 b off l.length c l rfl hc 9 Tryd.underlying9
end Go.Proofs.YtjboglpnpgghiaaDoor

/- Strings as lists of bytes: Rune, All and Whole by them. -/
set_option linter.unusedSimpArgs false
set_option linter.unusedVariables false
namespace Go.Proofs.YtjboglpnpgghiaaDoor

def byts (s : ByteArray) : List Int := s.data.toList.map fun b => (b.toNat : Int)
theorem byts_len (s : ByteArray) : (byts s).length = s.size := by simp [byts]
theorem byts_nn (s : ByteArray) : NN (byts s) := fun x hx => by
  obtain ⟨b, _, rfl⟩ := List.mem_map.1 hx
  omega
theorem bt_byts (s : ByteArray) (k : Nat) : bt s k = (byts s).getD k 0 := by
  unfold bt byts
  simp only [List.getD_eq_getElem?_getD, List.getElem?_map]
  cases s.data.toList[k]? <;> simp
theorem runeF_dec (s : ByteArray) (a : Nat) (h : a < s.size) : runeF s a = dec1 ((byts s).drop a) := by
  unfold runeF dec1
  rw [if_neg (by omega), Int.toNat_natCast, List.length_drop, byts_len]
  congr 1
  funext k
  rw [bt_byts]
  simp [List.getD_eq_getElem?_getD, List.getElem?_drop]
theorem allGo_dec (s : ByteArray) : ∀ (f a : Nat), a ≤ s.size →
    allGo s f a = ((decL f ((byts s).drop a)).1, ((a + (decL f ((byts s).drop a)).2.1 : Nat) : Int), (decL f ((byts s).drop a)).2.2)
  | 0, a, h => by simp [allGo, decL]
  | f + 1, a, h => by
    by_cases hlt : a < s.size
    · have hne : (byts s).drop a ≠ [] := by
        intro e
        have := congrArg List.length e
        rw [List.length_drop, byts_len] at this
        simp at this
        omega
      by_cases he : (runeF s a).2.2 = 0
      · rw [allGo_ok s f a hlt he]
        have hk := runeF_okay s a hlt
        have hn : (runeF s a).2.1.toNat ≤ s.size - a := by
          rcases hk with hk | hk
          · omega
          · omega
        rw [runeF_dec s a hlt] at he hn ⊢
        rw [decL_ok f _ hne he, allGo_dec s f _ (by omega)]
        simp [Nat.add_assoc]
      · rw [allGo_err s f a hlt he]
        rw [runeF_dec s a hlt] at he ⊢
        rw [decL_err f _ hne he]
        simp
    · rw [allGo_done s _ a (by omega)]
      have : (byts s).drop a = [] := List.drop_of_length_le (by rw [byts_len]; omega)
      rw [this, decL_nil]
      simp
theorem allF_dec (s : ByteArray) : allF s = ((decF (byts s)).1, ((decF (byts s)).2.1 : Int), (decF (byts s)).2.2) := by
  unfold allF decF
  rw [allGo_dec s s.size 0 (by omega), byts_len]
  simp

theorem ofNat_toNat (x : Int) (h0 : 0 ≤ x) (h1 : x ≤ 255) : ((UInt8.ofNat x.toNat).toNat : Int) = x := by
  rw [UInt8.toNat_ofNat']
  omega
theorem byts_str (l : List Int) (h : NN l) (h1 : ∀ x ∈ l, x ≤ 255) : byts (strOfNums l) = l := by
  unfold byts
  rw [strOfNums_data, List.map_map]
  conv => rhs; rw [← List.map_id l]
  refine List.map_congr_left fun x hx => ?_
  simp only [Function.comp]
  exact ofNat_toNat x (h x hx) (h1 x hx)
theorem byts_inj {s t : ByteArray} (h : byts s = byts t) : s = t := by
  unfold byts at h
  have hl := congrArg List.length h
  simp only [List.length_map] at hl
  have : s.data.toList = t.data.toList := by
    refine List.ext_getElem hl fun i h1 h2 => ?_
    have := congrArg (fun l => l[i]?) h
    simp only [List.getElem?_map, List.getElem?_eq_getElem h1, List.getElem?_eq_getElem h2, Option.map_some, Option.some.injEq] at this
    exact UInt8.toNat_inj.1 (by omega)
  cases s; cases t
  simp only [ByteArray.mk.injEq] at this ⊢
  exact Array.toList_inj.1 this
theorem byts_extract (s : ByteArray) (a b : Nat) : byts (s.extract a b) = ((byts s).take b).drop a := by
  unfold byts
  rw [ByteArray.data_extract, Array.toList_extract, List.extract_eq_take_drop, List.map_take, List.map_drop, List.drop_take]
end Go.Proofs.YtjboglpnpgghiaaDoor

/- The walks of strings.Builder's methods, at a builder that lies within a gatherer of the call's own. -/
set_option linter.unusedSimpArgs false
set_option linter.unusedVariables false
namespace Go.Proofs.YtjboglpnpgghiaaDoor
open Go.RowKit

theorem sizeBld : (Tryd.prog.info? 41).map (·.size) = some 2 := by kernel_rfl
theorem liesBld : liesAt Tryd.prog Tryd.prog.depth 80 (3 / Tryd.prog.cellsOf 80) 0 41 1 = true := by kernel_rfl
theorem cellsByte : Tryd.prog.cellsOf 5 = 1 := by kernel_rfl

def Byt (l : List Int) : Prop := ∀ x ∈ l, 0 ≤ x ∧ x ≤ 255
theorem Byt.nil : Byt [] := fun x h => by simp at h
theorem Byt.app {l m : List Int} (h : Byt l) (h2 : Byt m) : Byt (l ++ m) := fun x hx => by
  rcases List.mem_append.1 hx with h1 | h1
  · exact h x h1
  · exact h2 x h1
theorem Byt.byts (s : ByteArray) : Byt (byts s) := fun x hx => by
  obtain ⟨b, _, rfl⟩ := List.mem_map.1 hx
  have := b.toNat_lt
  omega
theorem Byt.enc {r : Int} (h : ¬ Bad r) : Byt (encB r) := fun x hx => ⟨(encB_nn r h).1 x hx, (encB_nn r h).2 x hx⟩
theorem Byt.one {x : Int} (h : 0 ≤ x) (h2 : x ≤ 255) : Byt [x] := fun y hy => by
  have : y = x := by simpa using hy
  omega

/-- A gatherer in block b (one of the call's own: from B on) that holds the bytes bs; 'p': what its builder's own address is. -/
def GatP (p : Value) (B b : Nat) (v : Bool) (bs : List Int) (w : World) : Prop :=
  B ≤ b ∧ Byt bs ∧ ∃ x, w.heap[b]? = some (.cells #[p, x, .bool v] 80 (0, 0)) ∧ OwnB w B x bs ∧ (bs = [] → x = .slice none 0 0)
def Gat (B b : Nat) (v : Bool) (bs : List Int) (w : World) : Prop := GatP (.pointer none) B b v bs w ∨ GatP (.pointer (some ⟨b, 0, none⟩)) B b v bs w
theorem Gat.one {B b : Nat} {v : Bool} {bs : List Int} {w : World} (h : Gat B b v bs w) : ∃ p, GatP p B b v bs w := by
  rcases h with h | h
  · exact ⟨_, h⟩
  · exact ⟨_, h⟩
theorem GatP.lt {p : Value} {B b : Nat} {v : Bool} {bs : List Int} {w : World} (h : GatP p B b v bs w) : b < w.heap.size := by
  obtain ⟨_, _, x, hb, _⟩ := h
  rcases Nat.lt_or_ge b w.heap.size with h' | h'
  · exact h'
  · simp [Array.getElem?_eq_none h'] at hb
theorem Gat.lt {B b : Nat} {v : Bool} {bs : List Int} {w : World} (h : Gat B b v bs w) : b < w.heap.size := by
  obtain ⟨p, hp⟩ := h.one
  exact hp.lt
theorem own_keep {w w' : World} {B : Nat} {e : TypeId} {size : Nat} {v : Value} {n : Nat} {xs : List Value} (h : w.ownsRow B e size v n xs) (hb : Below w.heap.size w w') : w'.ownsRow B e size v n xs := by
  refine ⟨h.1, ?_⟩
  rcases h.2 with hn | ⟨g, cap, cur, rfl, hb1, hgg, rest⟩
  · exact .inl hn
  · refine .inr ⟨g, cap, cur, rfl, hb1, ?_, rest⟩
    rw [hb.block g (Array.getElem?_eq_some_iff.1 hgg).1]
    exact hgg
theorem GatP.keep {p : Value} {B b : Nat} {v : Bool} {bs : List Int} {w w' : World} (h : GatP p B b v bs w) (hb : Below w.heap.size w w') : GatP p B b v bs w' := by
  have hlt := h.lt
  obtain ⟨h1, h2, x, h3, h4, h5⟩ := h
  exact ⟨h1, h2, x, (hb.block b hlt).trans h3, own_keep h4 hb, h5⟩
theorem Gat.keep {B b : Nat} {v : Bool} {bs : List Int} {w w' : World} (h : Gat B b v bs w) (hb : Below w.heap.size w w') : Gat B b v bs w' := by
  rcases h with h | h
  · exact .inl (h.keep hb)
  · exact .inr (h.keep hb)
/-- What g := gatherer{value: v} leaves. -/
theorem gat_new (w : World) (v : Bool) : Gat w.heap.size w.heap.size v [] (w.alloc (.cells #[.pointer none, .slice none 0 0, .bool v] 80)) :=
  .inl ⟨Nat.le_refl _, Byt.nil, .slice none 0 0, heap_alloc_new w _, World.ownsRow_nil _ _ _ _, fun _ => rfl⟩
theorem GatP.value {p : Value} {B b : Nat} {v : Bool} {bs : List Int} {w : World} (h : GatP p B b v bs w) : w.cell? ⟨b, 2, none⟩ = some (.bool v) := by
  obtain ⟨_, _, x, hb, _⟩ := h
  rw [Lib.cell_of_heap hb]; rfl
theorem Gat.value {B b : Nat} {v : Bool} {bs : List Int} {w : World} (h : Gat B b v bs w) : w.cell? ⟨b, 2, none⟩ = some (.bool v) := by
  obtain ⟨p, hp⟩ := h.one
  exact hp.value

set_option maxHeartbeats 1000000 in
set_option maxRecDepth 100000 in
theorem chk_used (b : Nat) (w : World) (h0 : w.cell? ⟨b, 0, none⟩ = some (.pointer (some ⟨b, 0, none⟩))) :
    Calls Tryd.prog 36 #[.pointer (some ⟨b, 0, none⟩)] w fun e w' => e = .returned (.tuple #[]) ∧ w' = w := by
  obtain ⟨j, hj, _⟩ := Option.map_eq_some_iff.1 sizeBld
  go_enter Tryd.func36, Tryd.ntmps36
  go_wp2
  rw [Lib.run_neq_ptr_same w _ Tryd.underlying38 hj]
  go_wp2
  go_end0
  exact ⟨rfl, rfl⟩

set_option maxHeartbeats 1000000 in
set_option maxRecDepth 100000 in
theorem chk_fresh (b : Nat) (w : World) (h0 : w.cell? ⟨b, 0, none⟩ = some (.pointer none)) (hsh : w.shape? b = some (80, 3)) (hfz : w.frozen? ⟨b, 0, none⟩ = false) :
    Calls Tryd.prog 36 #[.pointer (some ⟨b, 0, none⟩)] w fun e w' => e = .returned (.tuple #[]) ∧ w' = w.setCell ⟨b, 0, none⟩ (.pointer (some ⟨b, 0, none⟩)) := by
  obtain ⟨j, hj, hjs⟩ := Option.map_eq_some_iff.1 sizeBld
  go_enter Tryd.func36, Tryd.ntmps36
  go_wp2
  rw [Lib.run_to_unsafe w ⟨b, 0, none⟩ Tryd.underlying38 Tryd.underlying77 hj (by rw [hjs]; decide) hsh (Nat.zero_lt_succ 2)]
  simp only [Result.andThen]
  rw [Oper.upon_value]
  go_wp2
  rw [run_callFunc_extern Tryd.func46 (by kernel_rfl) (by kernel_rfl) (by kernel_rfl) (e := Extern.AbiNoEscape.same) (by kernel_rfl)]
  rw [Lib.run_noEscape]
  simp only [Result.andThen]
  rw [Oper.upon_value]
  go_wp2
  rw [Lib.run_from_unsafe w ⟨b, 0, none⟩ Tryd.underlying77 Tryd.underlying38 hj hsh liesBld]
  simp only [Result.andThen]
  rw [Oper.upon_value]
  go_wp2
  go_end0
  exact ⟨rfl, rfl⟩

theorem chk_any (B b : Nat) (v : Bool) (bs : List Int) (w : World) (h : Gat B b v bs w) :
    Calls Tryd.prog 36 #[.pointer (some ⟨b, 0, none⟩)] w fun e w' => e = .returned (.tuple #[]) ∧ GatP (.pointer (some ⟨b, 0, none⟩)) B b v bs w' ∧ Below B w w' := by
  rcases h with h | h
  · have hlt := h.lt
    obtain ⟨hB, hby, x, hb, hown, h0⟩ := h
    refine (chk_fresh b w (by rw [Lib.cell_of_heap hb]; rfl) (by simp [World.shape?, hb]) (Lib.frozen_of_heap hb 0)).mono ?_
    rintro e w' ⟨rfl, rfl⟩
    refine ⟨rfl, ⟨hB, hby, x, ?_, ?_, h0⟩, (Below.refl B w).setCell (p := ⟨b, 0, none⟩) hB _⟩
    · simp [World.setCell, Array.getElem?_modify, hb]
    · exact World.ownsRow.kept (row := some b) hown ⟨rfl, rfl, rfl, by simp [World.setCell], fun k _ hk => Below.heap_setCell _ _ _ _ (fun e => hk (by simp [e]))⟩ (Or.inr (Lib.ownBlock_ne hown hb (by decide)))
  · refine (chk_used b w ?_).mono ?_
    · obtain ⟨_, _, x, hb, _⟩ := h
      rw [Lib.cell_of_heap hb]; rfl
    · rintro e w' ⟨rfl, rfl⟩
      exact ⟨rfl, h, Below.refl B _⟩

/-- A new buffer laid into the builder. -/
theorem GatP.put {p x x' : Value} {B b : Nat} {v : Bool} {bs : List Int} {w : World} (hB : B ≤ b) (hby : Byt bs) (hb : w.heap[b]? = some (.cells #[p, x, .bool v] 80 (0, 0))) (hown : OwnB w B x' bs) (hne : bs ≠ []) :
    GatP p B b v bs (w.setCell ⟨b, 1, none⟩ x') := by
  refine ⟨hB, hby, x', ?_, ?_, fun h => absurd h hne⟩
  · simp [World.setCell, Array.getElem?_modify, hb]
  · exact World.ownsRow.kept (row := some b) hown ⟨rfl, rfl, rfl, by simp [World.setCell], fun k _ hk => Below.heap_setCell _ _ _ _ (fun e => hk (by simp [e]))⟩ (Or.inr (Lib.ownBlock_ne hown hb (by decide)))

set_option maxHeartbeats 2000000 in
set_option maxRecDepth 100000 in
/-- WriteByte. -/
theorem wbyte_any (B b : Nat) (v : Bool) (bs : List Int) (c : Int) (w : World) (h : Gat B b v bs w) (hB0 : B ≤ w.heap.size) (hl : bs.length ≤ 17592186044416) (hc0 : 0 ≤ c) (hc1 : c ≤ 255) :
    Calls Tryd.prog 59 #[.pointer (some ⟨b, 0, none⟩), .int .u8 c] w fun e w' => e = .returned .nilIface ∧ Gat B b v (bs ++ [c]) w' ∧ Below B w w' := by
  obtain ⟨i0, hi, hz0, hz1, hz2⟩ := info_parts Tryd.info5
  go_enter Tryd.func59, Tryd.ntmps59
  go_wp2_with (go_at_call 36; refine (chk_any B b v bs _ h).mono ?_)
  rintro e w1 ⟨rfl, h1, hb1⟩
  have hlt := h1.lt
  obtain ⟨hB, hby, x, hbk, hown, hx0⟩ := h1
  have hne := Lib.ownBlock_ne hown hbk (by decide)
  have c0 : w1.cell? ⟨b, 0, none⟩ = some (.pointer (some ⟨b, 0, none⟩)) := by rw [Lib.cell_of_heap hbk]; rfl
  have c1 : w1.cell? ⟨b, 1, none⟩ = some x := by rw [Lib.cell_of_heap hbk]; rfl
  have hs1 := hb1.size
  clear hx0 h
  go_wp2_with (at_builtin; refine wpList_append_own _ rfl _ _ 39 rfl B 5 i0 (.int .u8 0) 1 1 Tryd.underlying39 hi hz0 hz1 hz2 rfl (by decide) _ _ _ rfl (World.ownsRow.alloc hown _) ⟨w1.heap.size, 0, none⟩ 1 1 [.int .u8 c] rfl rfl (lit_cells w1 #[.int .u8 c] 5) (ints_oneCell .u8 [c]) (by unfold maxLen; omega) (by omega) (by simp; omega) ?_)
  intro v' w2 hown' hgrow _
  have hb2 : w2.heap[b]? = some (.cells #[.pointer (some ⟨b, 0, none⟩), x, .bool v] 80 (0, 0)) := by
    rw [hgrow.block b (by simp; omega) (fun e => hne e.symm), Lib.alloc_old w1 _ b hlt]
    exact hbk
  have d0 : w2.cell? ⟨b, 0, none⟩ = some (.pointer (some ⟨b, 0, none⟩)) := by rw [Lib.cell_of_heap hb2]; rfl
  have d1 : w2.cell? ⟨b, 1, none⟩ = some x := by rw [Lib.cell_of_heap hb2]; rfl
  have f1 : w2.frozen? ⟨b, 1, none⟩ = false := Lib.frozen_of_heap hb2 1
  obtain ⟨g, cap, rfl⟩ : ∃ g cap, v' = .slice (some ⟨g, 0, none⟩) (bs.length + 1) cap := by
    rcases hown'.2 with ⟨_, h0⟩ | ⟨g, cap, cur, hv, _⟩
    · omega
    · exact ⟨g, cap, hv⟩
  have R : OwnB w2 B (.slice (some ⟨g, 0, none⟩) (bs.length + 1) cap) (bs ++ [c]) := by
    unfold OwnB; rw [List.map_append, List.length_append]; exact hown'
  have FG := Lib.hid (GatP.put (v := v) hB (hby.app (Byt.one hc0 hc1)) hb2 R (by simp))
  have FB := Lib.hid (((hb1.alloc (by omega) (.cells #[.int .u8 c] 5)).grown hgrow (by simp; omega) (fun k hk => (World.ownsRow.lt hown k hk).1)).setCell (p := ⟨b, 1, none⟩) hB (.slice (some ⟨g, 0, none⟩) (bs.length + 1) cap))
  clear R hown' hgrow hown hb1
  go_wp2
  go_ret
  exact ⟨rfl, .inr FG.out, FB.out⟩

set_option maxHeartbeats 2000000 in
set_option maxRecDepth 100000 in
/-- WriteString, of a text that is not empty. -/
theorem wstr_any (B b : Nat) (v : Bool) (bs : List Int) (s : ByteArray) (w : World) (h : Gat B b v bs w) (hB0 : B ≤ w.heap.size) (hl : bs.length ≤ 17592186044416) (hs : s.size ≤ 17592186044416) (hs0 : 1 ≤ s.size) :
    Calls Tryd.prog 26 #[.pointer (some ⟨b, 0, none⟩), .string s] w fun e w' => e = .returned (.tuple #[.int .i64 s.size, .nilIface]) ∧ Gat B b v (bs ++ byts s) w' ∧ Below B w w' := by
  obtain ⟨i0, hi, hz0, hz1, hz2⟩ := info_parts Tryd.info5
  go_enter Tryd.func26, Tryd.ntmps26
  go_wp2_with (go_at_call 36; refine (chk_any B b v bs _ h).mono ?_)
  rintro e w1 ⟨rfl, h1, hb1⟩
  have hlt := h1.lt
  obtain ⟨hB, hby, x, hbk, hown, hx0⟩ := h1
  have hne := Lib.ownBlock_ne hown hbk (by decide)
  have c0 : w1.cell? ⟨b, 0, none⟩ = some (.pointer (some ⟨b, 0, none⟩)) := by rw [Lib.cell_of_heap hbk]; rfl
  have c1 : w1.cell? ⟨b, 1, none⟩ = some x := by rw [Lib.cell_of_heap hbk]; rfl
  have hs1 := hb1.size
  clear hx0 h
  go_wp2_with (at_builtin; refine Lib.wpList_append_own_string _ rfl _ _ 39 9 rfl B 5 i0 Tryd.underlying39 Tryd.underlying9 hi hz0 hz1 hz2 _ _ _ rfl hown s rfl (by unfold maxLen; omega) (by omega) (by omega) ?_)
  intro v' w2 hown' hgrow _
  have hb2 : w2.heap[b]? = some (.cells #[.pointer (some ⟨b, 0, none⟩), x, .bool v] 80 (0, 0)) := by
    rw [hgrow.block b hlt (fun e => hne e.symm)]
    exact hbk
  have d0 : w2.cell? ⟨b, 0, none⟩ = some (.pointer (some ⟨b, 0, none⟩)) := by rw [Lib.cell_of_heap hb2]; rfl
  have d1 : w2.cell? ⟨b, 1, none⟩ = some x := by rw [Lib.cell_of_heap hb2]; rfl
  have f1 : w2.frozen? ⟨b, 1, none⟩ = false := Lib.frozen_of_heap hb2 1
  obtain ⟨g, cap, rfl⟩ : ∃ g cap, v' = .slice (some ⟨g, 0, none⟩) (bs.length + s.size) cap := by
    rcases hown'.2 with ⟨_, h0⟩ | ⟨g, cap, cur, hv, _⟩
    · omega
    · exact ⟨g, cap, hv⟩
  have R : OwnB w2 B (.slice (some ⟨g, 0, none⟩) (bs.length + s.size) cap) (bs ++ byts s) := by
    unfold OwnB
    rw [List.map_append, List.length_append, byts_len]
    have e : (byts s).map (Value.int .u8) = Lib.strCells s := by unfold byts; rw [List.map_map]; rfl
    rw [e]; exact hown'
  have FG := Lib.hid (GatP.put (v := v) hB (hby.app (Byt.byts s)) hb2 R (fun e => by
    have := congrArg List.length e
    rw [List.length_append, byts_len, List.length_nil] at this
    omega))
  have FB := Lib.hid ((hb1.grown hgrow (by omega) (fun k hk => (World.ownsRow.lt hown k hk).1)).setCell (p := ⟨b, 1, none⟩) hB (.slice (some ⟨g, 0, none⟩) (bs.length + s.size) cap))
  clear R hown' hgrow hown hb1
  go_wp2
  go_ret2
  exact ⟨rfl, .inr FG.out, FB.out⟩

theorem strOf_cells {l : List Int} (h : Byt l) : l.map (Value.int .u8) = Lib.byteCells (l.map fun x => UInt8.ofNat x.toNat) := by
  unfold Lib.byteCells
  rw [List.map_map]
  refine List.map_congr_left fun x hx => ?_
  have := h x hx
  simp only [Function.comp]
  rw [ofNat_toNat x this.1 this.2]
theorem strOf_eq (l : List Int) : strOfNums l = ⟨(l.map fun x => UInt8.ofNat x.toNat).toArray⟩ := by
  have := strOfNums_data l
  cases h : strOfNums l with
  | mk d =>
    rw [h] at this
    simp only at this
    rw [← this]

set_option maxHeartbeats 2000000 in
set_option maxRecDepth 100000 in
theorem str_some (B b : Nat) (p : Value) (v : Bool) (bs : List Int) (w : World) (h : GatP p B b v bs w) (h0 : bs ≠ []) :
    Calls Tryd.prog 17 #[.pointer (some ⟨b, 0, none⟩)] w fun e w' => e = .returned (.string (strOfNums bs)) ∧ Below B w w' := by
  obtain ⟨hB, hby, x, hbk, hown, hx0⟩ := h
  clear hx0
  unfold OwnB at hown
  rw [strOf_eq]
  have hl : (bs.map fun x => UInt8.ofNat x.toNat).length = bs.length := by simp
  rw [strOf_cells hby, ← hl] at hown
  have hl0 : (bs.map fun x => UInt8.ofNat x.toNat) ≠ [] := by simpa using h0
  generalize (bs.map fun x => UInt8.ofNat x.toNat) = l at *
  clear hl h0 hby bs
  have hz0 : l.length ≠ 0 := by simpa using hl0
  obtain ⟨g, cap, cur, rfl, hbg, hg, hnc, hcm, hcs, htake⟩ : ∃ g cap cur, x = .slice (some ⟨g, 0, none⟩) l.length cap ∧ B ≤ g ∧ w.heap[g]? = some (.cells cur 5 (0, 0)) ∧ l.length ≤ cap ∧ cap ≤ maxLen ∧ cur.size = cap * 1 ∧ cur.toList.take (l.length * 1) = Lib.byteCells l := by
    rcases hown.2 with ⟨_, hz⟩ | ⟨g, cap, cur, hv, r⟩
    · exact absurd hz hz0
    · exact ⟨g, cap, cur, hv, r⟩
  have c1 : w.drew.cell? ⟨b, 1, none⟩ = some (.slice (some ⟨g, 0, none⟩) l.length cap) := by
    have : w.drew.heap[b]? = some (.cells #[p, .slice (some ⟨g, 0, none⟩) l.length cap, .bool v] 80 (0, 0)) := hbk
    rw [Lib.cell_of_heap this]; rfl
  have hSD : (Builtin.unsafeSliceData_ #[39] 63 #[.slice (some ⟨g, 0, none⟩) l.length cap]).run Tryd.prog w.drew = .ok (.pointer (some ⟨g, 0, none⟩)) w.drew :=
    Lib.run_unsafeSliceData_row _ _ _ _ _ _ (by omega)
  have hUS : (Builtin.unsafeString_ #[63, 3] 9 #[.pointer (some ⟨g, 0, none⟩), .int .i64 l.length]).run Tryd.prog w.drew = .ok (.string ⟨l.toArray⟩) (w.drew.freeze ⟨g, 0, none⟩ l.length) := by
    refine Lib.run_unsafeString_row w.drew 63 3 9 5 Tryd.underlying63 cellsByte g cur.size (by have hg' : w.drew.heap[g]? = some (.cells cur 5 (0, 0)) := hg; simp [World.shape?, hg']) l hl0 (by omega) (by unfold maxLen at hcm; omega) ?_
    intro j y hy
    have := hown.cells (g := g) rfl j (.int .u8 y.toNat) (by simp [Lib.byteCells, hy])
    exact this
  go_enter Tryd.func17, Tryd.ntmps17
  go_wp2
  go_region
  all_goals (go_wp2; go_ret; exact ⟨rfl, Lib.below_freeze (Below.drew (Below.refl B w)) (p := ⟨g, 0, none⟩) hbg _⟩)

set_option maxHeartbeats 2000000 in
set_option maxRecDepth 100000 in
theorem str_nil (B b : Nat) (p : Value) (v : Bool) (w : World) (h : GatP p B b v [] w) :
    Calls Tryd.prog 17 #[.pointer (some ⟨b, 0, none⟩)] w fun e w' => e = .returned (.string ⟨#[]⟩) ∧ Below B w w' := by
  obtain ⟨hB, hby, x, hbk, hown, hx⟩ := h
  have hx := hx rfl
  subst hx
  have hUS : ∀ (W : World) (q : Option Addr), (Builtin.unsafeString_ #[63, 3] 9 #[.pointer q, .int .i64 0]).run Tryd.prog W = .ok (.string .empty) W := fun W q => Lib.run_unsafeString_none W _ _ _ q
  have c1 : w.drew.cell? ⟨b, 1, none⟩ = some (.slice none 0 0) := by
    have : w.drew.heap[b]? = some (.cells #[p, .slice none 0 0, .bool v] 80 (0, 0)) := hbk
    rw [Lib.cell_of_heap this]; rfl
  have hSD : (Builtin.unsafeSliceData_ #[39] 63 #[.slice none 0 0]).run Tryd.prog w.drew = .ok (.pointer none) w.drew := rfl
  clear hown hby
  go_enter Tryd.func17, Tryd.ntmps17
  go_wp2
  go_region
  all_goals (go_wp2; go_ret; exact ⟨rfl, Below.drew (Below.refl B w)⟩)

theorem str_any (B b : Nat) (v : Bool) (bs : List Int) (w : World) (h : Gat B b v bs w) :
    Calls Tryd.prog 17 #[.pointer (some ⟨b, 0, none⟩)] w fun e w' => e = .returned (.string (strOfNums bs)) ∧ Below B w w' := by
  obtain ⟨p, hp⟩ := h.one
  by_cases h0 : bs = []
  · subst h0
    have : strOfNums [] = ⟨#[]⟩ := by rw [strOf_eq]; rfl
    rw [this]
    exact str_nil B b p v w hp
  · exact str_some B b p v bs w hp h0
end Go.Proofs.YtjboglpnpgghiaaDoor

/- Plain mathematics: the four classes of runes, as propositions that are decided. -/
set_option linter.unusedSimpArgs false
set_option linter.unusedVariables false
namespace Go.Proofs.YtjboglpnpgghiaaDoor

def Btw (r a b : Int) : Prop := a ≤ r ∧ r ≤ b
def Blank (r : Int) : Prop := r = 9 ∨ r = 10 ∨ r = 13 ∨ r = 32
def Chr (r : Int) : Prop := r = 9 ∨ r = 10 ∨ r = 13 ∨ Btw r 32 55295 ∨ Btw r 57344 65533 ∨ Btw r 65536 1114111
def Start (r : Int) : Prop :=
  Btw r 65 90 ∨ Btw r 97 122 ∨ r = 95 ∨ Btw r 192 214 ∨ Btw r 216 246 ∨ Btw r 248 767 ∨ Btw r 880 893 ∨ Btw r 895 8191 ∨ Btw r 8204 8205 ∨ Btw r 8304 8591 ∨
  Btw r 11264 12271 ∨ Btw r 12289 55295 ∨ Btw r 63744 64975 ∨ Btw r 65008 65533 ∨ Btw r 65536 983039
def Part (r : Int) : Prop := Start r ∨ r = 45 ∨ r = 46 ∨ Btw r 48 57 ∨ r = 183 ∨ Btw r 768 879 ∨ Btw r 8255 8256

instance (r a b : Int) : Decidable (Btw r a b) := inferInstanceAs (Decidable (a ≤ r ∧ r ≤ b))
instance (r : Int) : Decidable (Blank r) := inferInstanceAs (Decidable (r = 9 ∨ r = 10 ∨ r = 13 ∨ r = 32))
instance (r : Int) : Decidable (Chr r) := inferInstanceAs (Decidable (r = 9 ∨ r = 10 ∨ r = 13 ∨ Btw r 32 55295 ∨ Btw r 57344 65533 ∨ Btw r 65536 1114111))
instance (r : Int) : Decidable (Start r) := by unfold Start; infer_instance
instance (r : Int) : Decidable (Part r) := by unfold Part; infer_instance

end Go.Proofs.YtjboglpnpgghiaaDoor

/- Plain mathematics: what is read of bytes, as a text and as a value; what is escaped. -/
set_option linter.unusedSimpArgs false
set_option linter.unusedVariables false
namespace Go.Proofs.YtjboglpnpgghiaaDoor

def blk (v : Bool) (b : Int) : Int := if v = true then 32 else b
/-- Escaped. -/
def escB (v : Bool) (b : Int) : List Int :=
  if b = 38 then [38, 97, 109, 112, 59] else if b = 60 then [38, 108, 116, 59] else if b = 62 then [38, 103, 116, 59] else if b = 13 then [38, 35, 120, 68, 59]
  else if v = true ∧ b = 34 then [38, 113, 117, 111, 116, 59] else if v = true ∧ b = 9 then [38, 35, 120, 57, 59] else if v = true ∧ b = 10 then [38, 35, 120, 65, 59] else [b]
def escF (v : Bool) (l : List Int) : List Int := l.flatMap (escB v)
end Go.Proofs.YtjboglpnpgghiaaDoor
