/-
  Plain functions on numbers and bytes: what package utf and the document's answer compute. No program is named here.
-/
namespace Go.Proofs.YtkaimohkdkdbmaaDoor

/-- The byte at a place, as a number (0 beyond the end). -/
def bt (s : ByteArray) (k : Nat) : Int := ((s.data.toList.getD k 0).toNat : Int)
theorem bt_lo (s : ByteArray) (k : Nat) : 0 ≤ bt s k := by unfold bt; omega
theorem bt_hi (s : ByteArray) (k : Nat) : bt s k < 256 := by unfold bt; have := (s.data.toList.getD k 0).toNat_lt; omega
theorem bt_eq (s : ByteArray) (k : Nat) (h : k < s.size) : ((s[k]).toNat : Int) = bt s k := by
  unfold bt
  have h' : k < s.data.toList.length := by simpa using h
  rw [List.getD_eq_getElem?_getD, List.getElem?_eq_getElem h']
  rfl

/-- How many bytes a first byte says that its rune has, and that byte's bits. -/
def leadN (b : Int) : Nat := if b < 128 then 1 else if b < 192 then 0 else if b < 224 then 2 else if b < 240 then 3 else if b < 248 then 4 else 0
def leadR (b : Int) : Int := if b < 128 then b else if b < 192 then 0 else if b < 224 then b - 192 else if b < 240 then b - 224 else if b < 248 then b - 240 else 0

def least (n : Nat) : Int := if n = 1 then 0 else if n = 2 then 128 else if n = 3 then 2048 else 65536
def most (n : Nat) : Int := if n = 1 then 127 else if n = 2 then 2047 else if n = 3 then 65535 else 1114111
def p64 (n : Nat) : Int := if n = 0 then 1 else if n = 1 then 64 else if n = 2 then 4096 else 262144
def possB (r : Int) (k n : Nat) : Bool :=
  n != 0 && !(decide (55296 ≤ r * p64 (n - k)) && decide (r * p64 (n - k) + p64 (n - k) - 1 ≤ 57343)) && decide (r * p64 (n - k) ≤ most n) && decide (least n ≤ r * p64 (n - k) + p64 (n - k) - 1)

/-- The decoder's loop: 'b k' is the k-th byte from the place on, of which there are 'left'. -/
def rgo (b : Nat → Int) (left n : Nat) : Nat → Nat → Int → Int × Int × Int
  | 0, _, _ => (0, 0, 2)
  | f + 1, k, r => if possB r k n = false then (0, 0, 2) else if k = n then (r, n, 0) else if k = left then (0, 0, 7) else if b k / 64 = 2 then rgo b left n f (k + 1) (r * 64 + b k % 64) else (0, 0, 2)

/-- A rune, by its first bytes: the rune, how many bytes, the error's number. -/
def canon (b : Nat → Int) (left : Nat) : Int × Int × Int :=
  if b 0 < 128 then (b 0, 1, 0)
  else if b 0 < 194 then (0, 0, 2)
  else if b 0 < 224 then
    if left < 2 then (0, 0, 7) else if b 1 < 128 ∨ 191 < b 1 then (0, 0, 2) else ((b 0 - 192) * 64 + (b 1 - 128), 2, 0)
  else if b 0 < 240 then
    if left < 2 then (0, 0, 7)
    else if b 1 < (if b 0 = 224 then 160 else 128) ∨ (if b 0 = 237 then 159 else 191) < b 1 then (0, 0, 2)
    else if left < 3 then (0, 0, 7) else if b 2 < 128 ∨ 191 < b 2 then (0, 0, 2)
    else ((b 0 - 224) * 4096 + (b 1 - 128) * 64 + (b 2 - 128), 3, 0)
  else if b 0 < 245 then
    if left < 2 then (0, 0, 7)
    else if b 1 < (if b 0 = 240 then 144 else 128) ∨ (if b 0 = 244 then 143 else 191) < b 1 then (0, 0, 2)
    else if left < 3 then (0, 0, 7) else if b 2 < 128 ∨ 191 < b 2 then (0, 0, 2)
    else if left < 4 then (0, 0, 7) else if b 3 < 128 ∨ 191 < b 3 then (0, 0, 2)
    else ((b 0 - 240) * 262144 + (b 1 - 128) * 4096 + (b 2 - 128) * 64 + (b 3 - 128), 4, 0)
  else (0, 0, 2)

theorem possB_eq (r : Int) (k n : Nat) (c : Bool) (h : (n ≠ 0 ∧ ¬ (55296 ≤ r * p64 (n - k) ∧ r * p64 (n - k) + p64 (n - k) - 1 ≤ 57343) ∧ r * p64 (n - k) ≤ most n ∧ least n ≤ r * p64 (n - k) + p64 (n - k) - 1) ↔ c = true) : possB r k n = c := by
  rw [Bool.eq_iff_iff, ← h]
  simp [possB, and_assoc]
  omega

theorem rgo_step (b : Nat → Int) (left n f k : Nat) (r : Int) : rgo b left n (f + 1) k r = if possB r k n = false then (0, 0, 2) else if k = n then (r, (n : Int), 0) else if k = left then (0, 0, 7) else if b k / 64 = 2 then rgo b left n f (k + 1) (r * 64 + b k % 64) else (0, 0, 2) := rfl

theorem possB_false (r : Int) (k n : Nat) : possB r k n = false ↔ (n = 0 ∨ (55296 ≤ r * p64 (n - k) ∧ r * p64 (n - k) + p64 (n - k) - 1 ≤ 57343) ∨ most n < r * p64 (n - k) ∨ r * p64 (n - k) + p64 (n - k) - 1 < least n) := by
  simp [possB]
  omega

theorem p64_0 : p64 0 = 1 := rfl
theorem p64_1 : p64 1 = 64 := rfl
theorem p64_2 : p64 2 = 4096 := rfl
theorem p64_3 : p64 3 = 262144 := rfl
theorem least1 : least 1 = 0 := rfl
theorem most1 : most 1 = 127 := rfl
theorem least2 : least 2 = 128 := rfl
theorem least3 : least 3 = 2048 := rfl
theorem least4 : least 4 = 65536 := rfl
theorem most2 : most 2 = 2047 := rfl
theorem most3 : most 3 = 65535 := rfl
theorem most4 : most 4 = 1114111 := rfl
theorem tri {a b c a1 b1 c1 : Int} (h : a = a1) (h1 : b = b1) (h2 : c = c1) : (a, b, c) = (a1, b1, c1) := by subst h h1 h2; rfl
theorem rgo0 (b : Nat → Int) (left f : Nat) (r : Int) (k : Nat) : rgo b left 0 (f + 1) k r = (0, 0, 2) := by simp [rgo, possB]

/-- Rune: of whatever bytes, at whatever place. -/
def runeF (s : ByteArray) (a : Int) : Int × Int × Int := if a < 0 ∨ (s.size : Int) ≤ a then (0, 0, 7) else canon (fun k => bt s (a.toNat + k)) (s.size - a.toNat)

/-- All: from a place on. -/
def allGo (s : ByteArray) : Nat → Nat → List Int × Int × Int
  | 0, a => ([], a, 0)
  | f + 1, a => if s.size ≤ a then ([], a, 0) else if (runeF s a).2.2 = 0 then ((runeF s a).1 :: (allGo s f (a + (runeF s a).2.1.toNat)).1, (allGo s f (a + (runeF s a).2.1.toNat)).2) else ([], a, (runeF s a).2.2)
def allF (s : ByteArray) : List Int × Int × Int := allGo s s.size 0

def Okay (left : Nat) (x : Int × Int × Int) : Prop := (x.2.2 = 0 ∧ 1 ≤ x.2.1 ∧ x.2.1 ≤ 4 ∧ x.2.1 ≤ left ∧ 0 ≤ x.1 ∧ x.1 ≤ 1114111 ∧ ¬ (55296 ≤ x.1 ∧ x.1 ≤ 57343)) ∨ (x.1 = 0 ∧ x.2.1 = 0 ∧ (x.2.2 = 2 ∨ x.2.2 = 7))
theorem okay_ite {left : Nat} {c : Prop} [Decidable c] {x y : Int × Int × Int} (h1 : c → Okay left x) (h2 : ¬ c → Okay left y) : Okay left (if c then x else y) := by
  by_cases h : c
  · rw [if_pos h]; exact h1 h
  · rw [if_neg h]; exact h2 h
theorem okay2 {left : Nat} : Okay left (0, 0, 2) := .inr ⟨rfl, rfl, .inl rfl⟩
theorem okay7 {left : Nat} : Okay left (0, 0, 7) := .inr ⟨rfl, rfl, .inr rfl⟩
theorem okay_mk {left : Nat} {r n : Int} (h1 : 1 ≤ n) (h2 : n ≤ 4) (h3 : n ≤ left) (h4 : 0 ≤ r) (h5 : r ≤ 1114111) (h6 : ¬ (55296 ≤ r ∧ r ≤ 57343)) : Okay left (r, n, 0) := .inl ⟨rfl, h1, h2, h3, h4, h5, h6⟩
theorem canon_okay (b : Nat → Int) (left : Nat) (hl : 1 ≤ left) (h0 : ∀ k, 0 ≤ b k) : Okay left (canon b left) := by
  have a0 := h0 0
  have b0 := h0 1
  have c0 := h0 2
  have d0 := h0 3
  unfold canon
  refine okay_ite (fun h => okay_mk (by omega) (by omega) (by omega) (by omega) (by omega) (by omega)) fun h => ?_
  refine okay_ite (fun h => okay2) fun h => ?_
  refine okay_ite (fun h => okay_ite (fun h => okay7) fun h => okay_ite (fun h => okay2) fun h => okay_mk (by omega) (by omega) (by omega) (by omega) (by omega) (by omega)) fun h => ?_
  refine okay_ite (fun h => okay_ite (fun h => okay7) fun h => okay_ite (fun h => okay2) fun h => okay_ite (fun h => okay7) fun h => okay_ite (fun h => okay2) fun h => okay_mk (by omega) (by omega) (by omega) (by omega) (by omega) (by omega)) fun h => ?_
  refine okay_ite (fun h => okay_ite (fun h => okay7) fun h => okay_ite (fun h => okay2) fun h => okay_ite (fun h => okay7) fun h => okay_ite (fun h => okay2) fun h => okay_ite (fun h => okay7) fun h => okay_ite (fun h => okay2) fun h => okay_mk (by omega) (by omega) (by omega) (by omega) (by omega) (by omega)) fun h => ?_
  exact okay2
theorem runeF_okay (s : ByteArray) (a : Nat) (h : a < s.size) : Okay (s.size - a) (runeF s a) := by
  unfold runeF
  rw [if_neg (by omega)]
  simp only [Int.toNat_natCast]
  exact canon_okay _ _ (by omega) fun k => bt_lo s _
theorem allGo_done (s : ByteArray) (f a : Nat) (h : s.size ≤ a) : allGo s f a = ([], (a : Int), 0) := by
  cases f with
  | zero => rfl
  | succ f => rw [allGo, if_pos h]
theorem allGo_err (s : ByteArray) (f a : Nat) (h : a < s.size) (he : (runeF s a).2.2 ≠ 0) : allGo s (f + 1) a = ([], (a : Int), (runeF s a).2.2) := by
  rw [allGo, if_neg (by omega), if_neg he]
theorem allGo_ok (s : ByteArray) (f a : Nat) (h : a < s.size) (he : (runeF s a).2.2 = 0) :
    allGo s (f + 1) a = ((runeF s a).1 :: (allGo s f (a + (runeF s a).2.1.toNat)).1, (allGo s f (a + (runeF s a).2.1.toNat)).2) := by
  rw [allGo, if_neg (by omega), if_pos he]
/-- The fuel does not matter, where there is enough of it. -/
theorem allGo_fuel (s : ByteArray) : ∀ (f g a : Nat), s.size - a ≤ f → s.size - a ≤ g → allGo s f a = allGo s g a
  | 0, g, a, hf, _ => by rw [allGo_done s 0 a (by omega), allGo_done s g a (by omega)]
  | f + 1, 0, a, _, hg => by rw [allGo_done s 0 a (by omega), allGo_done s (f + 1) a (by omega)]
  | f + 1, g + 1, a, hf, hg => by
    by_cases h : s.size ≤ a
    · rw [allGo_done s _ a h, allGo_done s _ a h]
    by_cases he : (runeF s a).2.2 = 0
    · have hk := runeF_okay s a (by omega)
      rw [allGo_ok s f a (by omega) he, allGo_ok s g a (by omega) he]
      have h1 : 1 ≤ (runeF s a).2.1 := by
        rcases hk with hk | hk
        · exact hk.2.1
        · omega
      rw [allGo_fuel s f g (a + (runeF s a).2.1.toNat) (by omega) (by omega)]
    · rw [allGo_err s f a (by omega) he, allGo_err s g a (by omega) he]
def allAt (s : ByteArray) (a : Nat) : List Int × Int × Int := allGo s (s.size - a) a
theorem allF_eq (s : ByteArray) : allF s = allAt s 0 := rfl
theorem allAt_done (s : ByteArray) (a : Nat) (h : s.size ≤ a) : allAt s a = ([], (a : Int), 0) := allGo_done s _ a h
theorem allAt_err (s : ByteArray) (a : Nat) (h : a < s.size) (he : (runeF s a).2.2 ≠ 0) : allAt s a = ([], (a : Int), (runeF s a).2.2) := by
  unfold allAt
  rw [show s.size - a = (s.size - a - 1) + 1 by omega]
  exact allGo_err s _ a h he
theorem allAt_ok (s : ByteArray) (a : Nat) (h : a < s.size) (he : (runeF s a).2.2 = 0) :
    allAt s a = ((runeF s a).1 :: (allAt s (a + (runeF s a).2.1.toNat)).1, (allAt s (a + (runeF s a).2.1.toNat)).2) := by
  have hk := runeF_okay s a h
  have h1 : 1 ≤ (runeF s a).2.1 := by
    rcases hk with hk | hk
    · exact hk.2.1
    · omega
  unfold allAt
  rw [show s.size - a = (s.size - a - 1) + 1 by omega, allGo_ok s _ a h he]
  rw [allGo_fuel s (s.size - a - 1) (s.size - (a + (runeF s a).2.1.toNat)) _ (by omega) (by omega)]
end Go.Proofs.YtkaimohkdkdbmaaDoor
