/-
  Merged by program out of the texts Math, Enc, Dec, Dec2, CMath of one seat.
-/
import Derived.Lib.DecodeN

/- Plain functions on numbers and bytes: what package utf and the document's answer compute. No program is named here. -/
namespace Go.Proofs.YtaoklhalkfcpfaaGreatDoor

/-- The byte at a place, as a number (0 beyond the end). -/
def bt (s : ByteArray) (k : Nat) : Int := ((s.data.toList.getD k 0).toNat : Int)
theorem bt_lo (s : ByteArray) (k : Nat) : 0 ≤ bt s k := by unfold bt; omega
theorem bt_hi (s : ByteArray) (k : Nat) : bt s k < 256 := by unfold bt; have := (s.data.toList.getD k 0).toNat_lt; omega
theorem bt_eq (s : ByteArray) (k : Nat) (h : k < s.size) : ((s[k]).toNat : Int) = bt s k := by
  unfold bt
  have h' : k < s.data.toList.length := by simpa using h
  rw [List.getD_eq_getElem?_getD, List.getElem?_eq_getElem h']
  rfl

/-- How many bytes a first byte says that its rune has, and that byte's bits. -/
def leadN (b : Int) : Nat := if b < 128 then 1 else if b < 192 then 0 else if b < 224 then 2 else if b < 240 then 3 else if b < 248 then 4 else 0
def leadR (b : Int) : Int := if b < 128 then b else if b < 192 then 0 else if b < 224 then b - 192 else if b < 240 then b - 224 else if b < 248 then b - 240 else 0

def least (n : Nat) : Int := if n = 1 then 0 else if n = 2 then 128 else if n = 3 then 2048 else 65536
def most (n : Nat) : Int := if n = 1 then 127 else if n = 2 then 2047 else if n = 3 then 65535 else 1114111
def p64 (n : Nat) : Int := if n = 0 then 1 else if n = 1 then 64 else if n = 2 then 4096 else 262144
def possB (r : Int) (k n : Nat) : Bool :=
  n != 0 && !(decide (55296 ≤ r * p64 (n - k)) && decide (r * p64 (n - k) + p64 (n - k) - 1 ≤ 57343)) && decide (r * p64 (n - k) ≤ most n) && decide (least n ≤ r * p64 (n - k) + p64 (n - k) - 1)

/-- The decoder's loop: 'b k' is the k-th byte from the place on, of which there are 'left'. -/
def rgo (b : Nat → Int) (left n : Nat) : Nat → Nat → Int → Int × Int × Int
  | 0, _, _ => (0, 0, 2)
  | f + 1, k, r => if possB r k n = false then (0, 0, 2) else if k = n then (r, n, 0) else if k = left then (0, 0, 7) else if b k / 64 = 2 then rgo b left n f (k + 1) (r * 64 + b k % 64) else (0, 0, 2)

/-- A rune, by its first bytes: the rune, how many bytes, the error's number. -/
def canon (b : Nat → Int) (left : Nat) : Int × Int × Int :=
  if b 0 < 128 then (b 0, 1, 0)
  else if b 0 < 194 then (0, 0, 2)
  else if b 0 < 224 then
    if left < 2 then (0, 0, 7) else if b 1 < 128 ∨ 191 < b 1 then (0, 0, 2) else ((b 0 - 192) * 64 + (b 1 - 128), 2, 0)
  else if b 0 < 240 then
    if left < 2 then (0, 0, 7)
    else if b 1 < (if b 0 = 224 then 160 else 128) ∨ (if b 0 = 237 then 159 else 191) < b 1 then (0, 0, 2)
    else if left < 3 then (0, 0, 7) else if b 2 < 128 ∨ 191 < b 2 then (0, 0, 2)
    else ((b 0 - 224) * 4096 + (b 1 - 128) * 64 + (b 2 - 128), 3, 0)
  else if b 0 < 245 then
    if left < 2 then (0, 0, 7)
    else if b 1 < (if b 0 = 240 then 144 else 128) ∨ (if b 0 = 244 then 143 else 191) < b 1 then (0, 0, 2)
    else if left < 3 then (0, 0, 7) else if b 2 < 128 ∨ 191 < b 2 then (0, 0, 2)
    else if left < 4 then (0, 0, 7) else if b 3 < 128 ∨ 191 < b 3 then (0, 0, 2)
    else ((b 0 - 240) * 262144 + (b 1 - 128) * 4096 + (b 2 - 128) * 64 + (b 3 - 128), 4, 0)
  else (0, 0, 2)

theorem possB_eq (r : Int) (k n : Nat) (c : Bool) (h : (n ≠ 0 ∧ ¬ (55296 ≤ r * p64 (n - k) ∧ r * p64 (n - k) + p64 (n - k) - 1 ≤ 57343) ∧ r * p64 (n - k) ≤ most n ∧ least n ≤ r * p64 (n - k) + p64 (n - k) - 1) ↔ c = true) : possB r k n = c := by
  rw [Bool.eq_iff_iff, ← h]
  simp [possB, and_assoc]
  omega

theorem rgo_step (b : Nat → Int) (left n f k : Nat) (r : Int) : rgo b left n (f + 1) k r = if possB r k n = false then (0, 0, 2) else if k = n then (r, (n : Int), 0) else if k = left then (0, 0, 7) else if b k / 64 = 2 then rgo b left n f (k + 1) (r * 64 + b k % 64) else (0, 0, 2) := rfl

theorem possB_false (r : Int) (k n : Nat) : possB r k n = false ↔ (n = 0 ∨ (55296 ≤ r * p64 (n - k) ∧ r * p64 (n - k) + p64 (n - k) - 1 ≤ 57343) ∨ most n < r * p64 (n - k) ∨ r * p64 (n - k) + p64 (n - k) - 1 < least n) := by
  simp [possB]
  omega

theorem p64_0 : p64 0 = 1 := rfl
theorem p64_1 : p64 1 = 64 := rfl
theorem p64_2 : p64 2 = 4096 := rfl
theorem p64_3 : p64 3 = 262144 := rfl
theorem least1 : least 1 = 0 := rfl
theorem most1 : most 1 = 127 := rfl
theorem least2 : least 2 = 128 := rfl
theorem least3 : least 3 = 2048 := rfl
theorem least4 : least 4 = 65536 := rfl
theorem most2 : most 2 = 2047 := rfl
theorem most3 : most 3 = 65535 := rfl
theorem most4 : most 4 = 1114111 := rfl
theorem tri {a b c a1 b1 c1 : Int} (h : a = a1) (h1 : b = b1) (h2 : c = c1) : (a, b, c) = (a1, b1, c1) := by subst h h1 h2; rfl
theorem rgo0 (b : Nat → Int) (left f : Nat) (r : Int) (k : Nat) : rgo b left 0 (f + 1) k r = (0, 0, 2) := by simp [rgo, possB]

/-- Rune: of whatever bytes, at whatever place. -/
def runeF (s : ByteArray) (a : Int) : Int × Int × Int := if a < 0 ∨ (s.size : Int) ≤ a then (0, 0, 7) else canon (fun k => bt s (a.toNat + k)) (s.size - a.toNat)

/-- All: from a place on. -/
def allGo (s : ByteArray) : Nat → Nat → List Int × Int × Int
  | 0, a => ([], a, 0)
  | f + 1, a => if s.size ≤ a then ([], a, 0) else if (runeF s a).2.2 = 0 then ((runeF s a).1 :: (allGo s f (a + (runeF s a).2.1.toNat)).1, (allGo s f (a + (runeF s a).2.1.toNat)).2) else ([], a, (runeF s a).2.2)
def allF (s : ByteArray) : List Int × Int × Int := allGo s s.size 0

def Okay (left : Nat) (x : Int × Int × Int) : Prop := (x.2.2 = 0 ∧ 1 ≤ x.2.1 ∧ x.2.1 ≤ 4 ∧ x.2.1 ≤ left ∧ 0 ≤ x.1 ∧ x.1 ≤ 1114111 ∧ ¬ (55296 ≤ x.1 ∧ x.1 ≤ 57343)) ∨ (x.1 = 0 ∧ x.2.1 = 0 ∧ (x.2.2 = 2 ∨ x.2.2 = 7))
theorem okay_ite {left : Nat} {c : Prop} [Decidable c] {x y : Int × Int × Int} (h1 : c → Okay left x) (h2 : ¬ c → Okay left y) : Okay left (if c then x else y) := by
  by_cases h : c
  · rw [if_pos h]; exact h1 h
  · rw [if_neg h]; exact h2 h
theorem okay2 {left : Nat} : Okay left (0, 0, 2) := .inr ⟨rfl, rfl, .inl rfl⟩
theorem okay7 {left : Nat} : Okay left (0, 0, 7) := .inr ⟨rfl, rfl, .inr rfl⟩
theorem okay_mk {left : Nat} {r n : Int} (h1 : 1 ≤ n) (h2 : n ≤ 4) (h3 : n ≤ left) (h4 : 0 ≤ r) (h5 : r ≤ 1114111) (h6 : ¬ (55296 ≤ r ∧ r ≤ 57343)) : Okay left (r, n, 0) := .inl ⟨rfl, h1, h2, h3, h4, h5, h6⟩
theorem canon_okay (b : Nat → Int) (left : Nat) (hl : 1 ≤ left) (h0 : ∀ k, 0 ≤ b k) : Okay left (canon b left) := by
  have a0 := h0 0
  have b0 := h0 1
  have c0 := h0 2
  have d0 := h0 3
  unfold canon
  refine okay_ite (fun h => okay_mk (by omega) (by omega) (by omega) (by omega) (by omega) (by omega)) fun h => ?_
  refine okay_ite (fun h => okay2) fun h => ?_
  refine okay_ite (fun h => okay_ite (fun h => okay7) fun h => okay_ite (fun h => okay2) fun h => okay_mk (by omega) (by omega) (by omega) (by omega) (by omega) (by omega)) fun h => ?_
  refine okay_ite (fun h => okay_ite (fun h => okay7) fun h => okay_ite (fun h => okay2) fun h => okay_ite (fun h => okay7) fun h => okay_ite (fun h => okay2) fun h => okay_mk (by omega) (by omega) (by omega) (by omega) (by omega) (by omega)) fun h => ?_
  refine okay_ite (fun h => okay_ite (fun h => okay7) fun h => okay_ite (fun h => okay2) fun h => okay_ite (fun h => okay7) fun h => okay_ite (fun h => okay2) fun h => okay_ite (fun h => okay7) fun h => okay_ite (fun h => okay2) fun h => okay_mk (by omega) (by omega) (by omega) (by omega) (by omega) (by omega)) fun h => ?_
  exact okay2
theorem runeF_okay (s : ByteArray) (a : Nat) (h : a < s.size) : Okay (s.size - a) (runeF s a) := by
  unfold runeF
  rw [if_neg (by omega)]
  simp only [Int.toNat_natCast]
  exact canon_okay _ _ (by omega) fun k => bt_lo s _
theorem allGo_done (s : ByteArray) (f a : Nat) (h : s.size ≤ a) : allGo s f a = ([], (a : Int), 0) := by
  cases f with
  | zero => rfl
  | succ f => rw [allGo, if_pos h]
theorem allGo_err (s : ByteArray) (f a : Nat) (h : a < s.size) (he : (runeF s a).2.2 ≠ 0) : allGo s (f + 1) a = ([], (a : Int), (runeF s a).2.2) := by
  rw [allGo, if_neg (by omega), if_neg he]
theorem allGo_ok (s : ByteArray) (f a : Nat) (h : a < s.size) (he : (runeF s a).2.2 = 0) :
    allGo s (f + 1) a = ((runeF s a).1 :: (allGo s f (a + (runeF s a).2.1.toNat)).1, (allGo s f (a + (runeF s a).2.1.toNat)).2) := by
  rw [allGo, if_neg (by omega), if_pos he]
/-- The fuel does not matter, where there is enough of it. -/
theorem allGo_fuel (s : ByteArray) : ∀ (f g a : Nat), s.size - a ≤ f → s.size - a ≤ g → allGo s f a = allGo s g a
  | 0, g, a, hf, _ => by rw [allGo_done s 0 a (by omega), allGo_done s g a (by omega)]
  | f + 1, 0, a, _, hg => by rw [allGo_done s 0 a (by omega), allGo_done s (f + 1) a (by omega)]
  | f + 1, g + 1, a, hf, hg => by
    by_cases h : s.size ≤ a
    · rw [allGo_done s _ a h, allGo_done s _ a h]
    by_cases he : (runeF s a).2.2 = 0
    · have hk := runeF_okay s a (by omega)
      rw [allGo_ok s f a (by omega) he, allGo_ok s g a (by omega) he]
      have h1 : 1 ≤ (runeF s a).2.1 := by
        rcases hk with hk | hk
        · exact hk.2.1
        · omega
      rw [allGo_fuel s f g (a + (runeF s a).2.1.toNat) (by omega) (by omega)]
    · rw [allGo_err s f a (by omega) he, allGo_err s g a (by omega) he]
def allAt (s : ByteArray) (a : Nat) : List Int × Int × Int := allGo s (s.size - a) a
theorem allF_eq (s : ByteArray) : allF s = allAt s 0 := rfl
theorem allAt_done (s : ByteArray) (a : Nat) (h : s.size ≤ a) : allAt s a = ([], (a : Int), 0) := allGo_done s _ a h
theorem allAt_err (s : ByteArray) (a : Nat) (h : a < s.size) (he : (runeF s a).2.2 ≠ 0) : allAt s a = ([], (a : Int), (runeF s a).2.2) := by
  unfold allAt
  rw [show s.size - a = (s.size - a - 1) + 1 by omega]
  exact allGo_err s _ a h he
theorem allAt_ok (s : ByteArray) (a : Nat) (h : a < s.size) (he : (runeF s a).2.2 = 0) :
    allAt s a = ((runeF s a).1 :: (allAt s (a + (runeF s a).2.1.toNat)).1, (allAt s (a + (runeF s a).2.1.toNat)).2) := by
  have hk := runeF_okay s a h
  have h1 : 1 ≤ (runeF s a).2.1 := by
    rcases hk with hk | hk
    · exact hk.2.1
    · omega
  unfold allAt
  rw [show s.size - a = (s.size - a - 1) + 1 by omega, allGo_ok s _ a h he]
  rw [allGo_fuel s (s.size - a - 1) (s.size - (a + (runeF s a).2.1.toNat)) _ (by omega) (by omega)]
end Go.Proofs.YtaoklhalkfcpfaaGreatDoor

/- A rune's bytes, as numbers. -/
set_option linter.unusedSimpArgs false
set_option linter.unusedVariables false
namespace Go.Proofs.YtaoklhalkfcpfaaGreatDoor

def encB (r : Int) : List Int :=
  if r < 128 then [r] else if r < 2048 then [192 + r / 64, 128 + r % 64] else if r < 65536 then [224 + r / 4096, 128 + r / 64 % 64, 128 + r % 64]
  else [240 + r / 262144, 128 + r / 4096 % 64, 128 + r / 64 % 64, 128 + r % 64]
/-- It has no bytes. -/
def Bad (r : Int) : Prop := r < 0 ∨ 1114111 < r ∨ (55296 ≤ r ∧ r ≤ 57343)
instance (r : Int) : Decidable (Bad r) := by unfold Bad; infer_instance
def putI (r : Int) : List Int := if Bad r then encB 65533 else encB r
def refPut (r : Int) : List Int := if Bad r then [] else encB r
theorem enc1 {r : Int} (h : r < 128) : encB r = [r] := by simp [encB, h]
theorem enc2 {r : Int} (h : 128 ≤ r) (h2 : r < 2048) : encB r = [192 + r / 64, 128 + r % 64] := by
  simp only [encB]; rw [if_neg (by omega), if_pos h2]
theorem enc3 {r : Int} (h : 2048 ≤ r) (h2 : r < 65536) : encB r = [224 + r / 4096, 128 + r / 64 % 64, 128 + r % 64] := by
  simp only [encB]; rw [if_neg (by omega), if_neg (by omega), if_pos h2]
theorem enc4 {r : Int} (h : 65536 ≤ r) : encB r = [240 + r / 262144, 128 + r / 4096 % 64, 128 + r / 64 % 64, 128 + r % 64] := by
  simp only [encB]; rw [if_neg (by omega), if_neg (by omega), if_neg (by omega)]
theorem putI_bad {r : Int} (h : Bad r) : putI r = [239, 191, 189] := by simp only [putI, if_pos h]; decide
theorem putI_ok {r : Int} (h : ¬ Bad r) : putI r = encB r := by simp only [putI, if_neg h]
theorem encB_len (r : Int) : 1 ≤ (encB r).length ∧ (encB r).length ≤ 4 := by
  unfold encB
  repeat' split
  all_goals simp
theorem putI_len (r : Int) : 1 ≤ (putI r).length ∧ (putI r).length ≤ 4 := by
  unfold putI
  split
  · exact encB_len _
  · exact encB_len _
end Go.Proofs.YtaoklhalkfcpfaaGreatDoor

/- Decoding and encoding, on lists of bytes: each undoes the other; what begins a rune is cut off. -/
set_option linter.unusedSimpArgs false
set_option linter.unusedVariables false
namespace Go.Proofs.YtaoklhalkfcpfaaGreatDoor

def dec1 (L : List Int) : Int × Int × Int := canon (fun k => L.getD k 0) L.length

theorem dec_enc (r : Int) (T : List Int) (h : ¬ Bad r) : dec1 (encB r ++ T) = (r, ((encB r).length : Int), 0) := by
  unfold Bad at h
  unfold dec1
  by_cases h1 : r < 128
  · rw [enc1 h1]
    simp [canon, h1]
  by_cases h2 : r < 2048
  · rw [enc2 (by omega) h2]
    simp only [canon, List.cons_append, List.nil_append, List.getD_cons_zero, List.getD_cons_succ, List.length_cons, List.length_nil]
    rw [if_neg (by omega), if_neg (by omega), if_pos (by omega), if_neg (by omega), if_neg (by omega)]
    exact tri (by omega) (by omega) rfl
  by_cases h3 : r < 65536
  · rw [enc3 (by omega) h3]
    simp only [canon, List.cons_append, List.nil_append, List.getD_cons_zero, List.getD_cons_succ, List.length_cons, List.length_nil]
    rw [if_neg (by omega), if_neg (by omega), if_neg (by omega), if_pos (by omega), if_neg (by omega), if_neg (by omega), if_neg (by omega), if_neg (by omega)]
    exact tri (by omega) (by omega) rfl
  · rw [enc4 (by omega)]
    simp only [canon, List.cons_append, List.nil_append, List.getD_cons_zero, List.getD_cons_succ, List.length_cons, List.length_nil]
    rw [if_neg (by omega), if_neg (by omega), if_neg (by omega), if_neg (by omega), if_pos (by omega), if_neg (by omega), if_neg (by omega), if_neg (by omega), if_neg (by omega), if_neg (by omega), if_neg (by omega)]
    exact tri (by omega) (by omega) rfl

/-- A proper beginning of a rune's bytes is cut off. -/
theorem dec_cut (r : Int) (j : Nat) (h : ¬ Bad r) (h1 : 1 ≤ j) (h2 : j < (encB r).length) : dec1 ((encB r).take j) = (0, 0, 7) := by
  unfold Bad at h
  unfold dec1
  by_cases q1 : r < 128
  · rw [enc1 q1] at h2; simp at h2; omega
  by_cases q2 : r < 2048
  · rw [enc2 (by omega) q2] at h2 ⊢
    have : j = 1 := by simp at h2; omega
    subst this
    simp only [canon, List.take_succ_cons, List.take_zero, List.getD_cons_zero, List.getD_cons_succ, List.length_cons, List.length_nil]
    rw [if_neg (by omega), if_neg (by omega), if_pos (by omega), if_pos (by omega)]
  by_cases q3 : r < 65536
  · rw [enc3 (by omega) q3] at h2 ⊢
    have : j = 1 ∨ j = 2 := by simp at h2; omega
    rcases this with rfl | rfl
    · simp only [canon, List.take_succ_cons, List.take_zero, List.getD_cons_zero, List.getD_cons_succ, List.length_cons, List.length_nil]
      rw [if_neg (by omega), if_neg (by omega), if_neg (by omega), if_pos (by omega), if_pos (by omega)]
    · simp only [canon, List.take_succ_cons, List.take_zero, List.getD_cons_zero, List.getD_cons_succ, List.length_cons, List.length_nil]
      rw [if_neg (by omega), if_neg (by omega), if_neg (by omega), if_pos (by omega), if_neg (by omega), if_neg (by omega), if_pos (by omega)]
  · rw [enc4 (by omega)] at h2 ⊢
    have : j = 1 ∨ j = 2 ∨ j = 3 := by simp at h2; omega
    rcases this with rfl | rfl | rfl
    · simp only [canon, List.take_succ_cons, List.take_zero, List.getD_cons_zero, List.getD_cons_succ, List.length_cons, List.length_nil]
      rw [if_neg (by omega), if_neg (by omega), if_neg (by omega), if_neg (by omega), if_pos (by omega), if_pos (by omega)]
    · simp only [canon, List.take_succ_cons, List.take_zero, List.getD_cons_zero, List.getD_cons_succ, List.length_cons, List.length_nil]
      rw [if_neg (by omega), if_neg (by omega), if_neg (by omega), if_neg (by omega), if_pos (by omega), if_neg (by omega), if_neg (by omega), if_pos (by omega)]
    · simp only [canon, List.take_succ_cons, List.take_zero, List.getD_cons_zero, List.getD_cons_succ, List.length_cons, List.length_nil]
      rw [if_neg (by omega), if_neg (by omega), if_neg (by omega), if_neg (by omega), if_pos (by omega), if_neg (by omega), if_neg (by omega), if_neg (by omega), if_neg (by omega), if_pos (by omega)]

/-- A byte that can only follow begins nothing. -/
theorem dec_follow (L : List Int) (h1 : 128 ≤ L.getD 0 0) (h2 : L.getD 0 0 < 192) : dec1 L = (0, 0, 2) := by
  unfold dec1 canon
  simp only
  rw [if_neg (by omega), if_pos (by omega)]

/-- The bytes behind a rune's first one can only follow. -/
theorem enc_follow (r : Int) (T : List Int) (j : Nat) (h : ¬ Bad r) (h1 : 1 ≤ j) (h2 : j < (encB r).length) :
    128 ≤ ((encB r ++ T).drop j).getD 0 0 ∧ ((encB r ++ T).drop j).getD 0 0 < 192 := by
  unfold Bad at h
  by_cases q1 : r < 128
  · rw [enc1 q1] at h2; simp at h2; omega
  by_cases q2 : r < 2048
  · rw [enc2 (by omega) q2] at h2 ⊢
    have : j = 1 := by simp at h2; omega
    subst this
    simp; omega
  by_cases q3 : r < 65536
  · rw [enc3 (by omega) q3] at h2 ⊢
    have : j = 1 ∨ j = 2 := by simp at h2; omega
    rcases this with rfl | rfl
    · simp; omega
    · simp; omega
  · rw [enc4 (by omega)] at h2 ⊢
    have : j = 1 ∨ j = 2 ∨ j = 3 := by simp at h2; omega
    rcases this with rfl | rfl | rfl
    · simp; omega
    · simp; omega
    · simp; omega

/-- What is decoded is what was encoded. -/
def Inv (L : List Int) (x : Int × Int × Int) : Prop := x.2.2 = 0 → ¬ Bad x.1 ∧ x.2.1 = ((encB x.1).length : Int) ∧ L.take (encB x.1).length = encB x.1 ∧ (encB x.1).length ≤ L.length
theorem inv_ite {L : List Int} {c : Prop} [Decidable c] {x y : Int × Int × Int} (h1 : c → Inv L x) (h2 : ¬ c → Inv L y) : Inv L (if c then x else y) := by
  by_cases h : c
  · rw [if_pos h]; exact h1 h
  · rw [if_neg h]; exact h2 h
theorem inv2 {L : List Int} : Inv L (0, 0, 2) := fun h => by simp at h
theorem inv7 {L : List Int} : Inv L (0, 0, 7) := fun h => by simp at h
theorem inv_mk {L : List Int} {r n : Int} (h : ¬ Bad r) (hn : n = ((encB r).length : Int)) (h1 : L.take (encB r).length = encB r) : Inv L (r, n, 0) := fun _ => ⟨h, hn, h1, by
  have := congrArg List.length h1
  rw [List.length_take] at this
  dsimp only
  omega⟩
theorem take1 {L : List Int} (h : 1 ≤ L.length) : L.take 1 = [L.getD 0 0] := by
  match L, h with
  | a :: L, _ => simp
theorem take2 {L : List Int} (h : 2 ≤ L.length) : L.take 2 = [L.getD 0 0, L.getD 1 0] := by
  match L, h with
  | a :: b :: L, _ => simp
theorem take3 {L : List Int} (h : 3 ≤ L.length) : L.take 3 = [L.getD 0 0, L.getD 1 0, L.getD 2 0] := by
  match L, h with
  | a :: b :: c :: L, _ => simp
theorem take4 {L : List Int} (h : 4 ≤ L.length) : L.take 4 = [L.getD 0 0, L.getD 1 0, L.getD 2 0, L.getD 3 0] := by
  match L, h with
  | a :: b :: c :: d :: L, _ => simp
theorem cons_eq {a b : Int} {s t : List Int} (h : a = b) (h2 : s = t) : a :: s = b :: t := by rw [h, h2]

theorem inv_1 {L : List Int} (hl : 1 ≤ L.length) (h0 : 0 ≤ L.getD 0 0) (h1 : L.getD 0 0 < 128) : Inv L (L.getD 0 0, 1, 0) := by
  refine inv_mk (by unfold Bad; omega) ?_ ?_
  · rw [enc1 h1]; rfl
  · rw [enc1 h1]; exact take1 hl
theorem inv_2 {L : List Int} (hl : 2 ≤ L.length) (h0 : 194 ≤ L.getD 0 0) (h1 : L.getD 0 0 < 224) (h2 : 128 ≤ L.getD 1 0) (h3 : L.getD 1 0 ≤ 191) :
    Inv L ((L.getD 0 0 - 192) * 64 + (L.getD 1 0 - 128), 2, 0) := by
  have t := take2 hl
  generalize L.getD 0 0 = a at *
  generalize L.getD 1 0 = b at *
  refine inv_mk (by unfold Bad; omega) ?_ ?_
  · rw [enc2 (by omega) (by omega)]; rfl
  · rw [enc2 (by omega) (by omega)]
    refine t.trans (cons_eq (by omega) (cons_eq (by omega) rfl))
theorem inv_3 {L : List Int} (hl : 3 ≤ L.length) (h0 : 224 ≤ L.getD 0 0) (h1 : L.getD 0 0 < 240) (h2 : 128 ≤ L.getD 1 0) (h3 : L.getD 1 0 ≤ 191) (h4 : 128 ≤ L.getD 2 0) (h5 : L.getD 2 0 ≤ 191)
    (h6 : L.getD 0 0 = 224 → 160 ≤ L.getD 1 0) (h7 : L.getD 0 0 = 237 → L.getD 1 0 ≤ 159) :
    Inv L ((L.getD 0 0 - 224) * 4096 + (L.getD 1 0 - 128) * 64 + (L.getD 2 0 - 128), 3, 0) := by
  have t := take3 hl
  generalize L.getD 0 0 = a at *
  generalize L.getD 1 0 = b at *
  generalize L.getD 2 0 = c at *
  refine inv_mk (by unfold Bad; omega) ?_ ?_
  · rw [enc3 (by omega) (by omega)]; rfl
  · rw [enc3 (by omega) (by omega)]
    refine t.trans (cons_eq (by omega) (cons_eq (by omega) (cons_eq (by omega) rfl)))
theorem inv_4 {L : List Int} (hl : 4 ≤ L.length) (h0 : 240 ≤ L.getD 0 0) (h1 : L.getD 0 0 < 245) (h2 : 128 ≤ L.getD 1 0) (h3 : L.getD 1 0 ≤ 191) (h4 : 128 ≤ L.getD 2 0) (h5 : L.getD 2 0 ≤ 191) (h8 : 128 ≤ L.getD 3 0) (h9 : L.getD 3 0 ≤ 191)
    (h6 : L.getD 0 0 = 240 → 144 ≤ L.getD 1 0) (h7 : L.getD 0 0 = 244 → L.getD 1 0 ≤ 143) :
    Inv L ((L.getD 0 0 - 240) * 262144 + (L.getD 1 0 - 128) * 4096 + (L.getD 2 0 - 128) * 64 + (L.getD 3 0 - 128), 4, 0) := by
  have t := take4 hl
  generalize L.getD 0 0 = a at *
  generalize L.getD 1 0 = b at *
  generalize L.getD 2 0 = c at *
  generalize L.getD 3 0 = d at *
  refine inv_mk (by unfold Bad; omega) ?_ ?_
  · rw [enc4 (by omega)]; rfl
  · rw [enc4 (by omega)]
    refine t.trans (cons_eq (by omega) (cons_eq (by omega) (cons_eq (by omega) (cons_eq (by omega) rfl))))

theorem dec_inv (L : List Int) (hl : L ≠ []) (h0 : ∀ k, 0 ≤ L.getD k 0) : Inv L (dec1 L) := by
  have hp : 1 ≤ L.length := by
    have := List.length_pos_iff.2 hl
    omega
  have a0 := h0 0
  unfold dec1 canon
  simp only
  refine inv_ite (fun h => inv_1 hp a0 h) fun n1 => ?_
  refine inv_ite (fun h => inv2) fun n2 => ?_
  refine inv_ite (fun h => inv_ite (fun h => inv7) fun n3 => inv_ite (fun h => inv2) fun n4 => inv_2 (by omega) (by omega) (by omega) (by omega) (by omega)) fun n3 => ?_
  refine inv_ite (fun h => inv_ite (fun h => inv7) fun n3 => inv_ite (fun h => inv2) fun n4 => inv_ite (fun h => inv7) fun n5 => inv_ite (fun h => inv2) fun n6 =>
    inv_3 (by omega) (by omega) (by omega) (by split at n4 <;> omega) (by split at n4 <;> (try split at n4) <;> omega) (by omega) (by omega) (by intro e; rw [if_pos e] at n4; omega) (by intro e; rw [if_pos e] at n4; omega)) fun n3 => ?_
  refine inv_ite (fun h => inv_ite (fun h => inv7) fun n3 => inv_ite (fun h => inv2) fun n4 => inv_ite (fun h => inv7) fun n5 => inv_ite (fun h => inv2) fun n6 => inv_ite (fun h => inv7) fun n7 => inv_ite (fun h => inv2) fun n8 =>
    inv_4 (by omega) (by omega) (by omega) (by split at n4 <;> omega) (by split at n4 <;> (try split at n4) <;> omega) (by omega) (by omega) (by omega) (by omega) (by intro e; rw [if_pos e] at n4; omega) (by intro e; rw [if_pos e] at n4; omega)) fun n3 => ?_
  exact inv2
end Go.Proofs.YtaoklhalkfcpfaaGreatDoor

/- Decoding a whole list of bytes. -/
set_option linter.unusedSimpArgs false
set_option linter.unusedVariables false
namespace Go.Proofs.YtaoklhalkfcpfaaGreatDoor

/-- No number below 0. -/
def NN (L : List Int) : Prop := ∀ x ∈ L, 0 ≤ x
theorem NN.getD {L : List Int} (h : NN L) (k : Nat) : 0 ≤ L.getD k 0 := by
  rw [List.getD_eq_getElem?_getD]
  rcases Nat.lt_or_ge k L.length with hk | hk
  · rw [List.getElem?_eq_getElem hk]; exact h _ (List.getElem_mem hk)
  · rw [List.getElem?_eq_none hk]; exact Int.le_refl 0
theorem NN.drop {L : List Int} (h : NN L) (k : Nat) : NN (L.drop k) := fun x hx => h x (List.mem_of_mem_drop hx)
theorem NN.take {L : List Int} (h : NN L) (k : Nat) : NN (L.take k) := fun x hx => h x (List.mem_of_mem_take hx)

def decL : Nat → List Int → List Int × Nat × Int
  | 0, _ => ([], 0, 0)
  | f + 1, L => if L = [] then ([], 0, 0) else if (dec1 L).2.2 = 0 then ((dec1 L).1 :: (decL f (L.drop (dec1 L).2.1.toNat)).1, (dec1 L).2.1.toNat + (decL f (L.drop (dec1 L).2.1.toNat)).2.1, (decL f (L.drop (dec1 L).2.1.toNat)).2.2) else ([], 0, (dec1 L).2.2)
def decF (L : List Int) : List Int × Nat × Int := decL L.length L

theorem dec_ok1 {L : List Int} (hl : L ≠ []) (hn : NN L) (h : (dec1 L).2.2 = 0) : 1 ≤ (dec1 L).2.1.toNat ∧ (dec1 L).2.1.toNat ≤ L.length := by
  have hi := dec_inv L hl hn.getD h
  have := encB_len (dec1 L).1
  omega
theorem decL_nil (f : Nat) : decL f [] = ([], 0, 0) := by cases f <;> simp [decL]
theorem decL_err (f : Nat) (L : List Int) (hl : L ≠ []) (h : (dec1 L).2.2 ≠ 0) : decL (f + 1) L = ([], 0, (dec1 L).2.2) := by rw [decL, if_neg hl, if_neg h]
theorem decL_ok (f : Nat) (L : List Int) (hl : L ≠ []) (h : (dec1 L).2.2 = 0) : decL (f + 1) L = ((dec1 L).1 :: (decL f (L.drop (dec1 L).2.1.toNat)).1, (dec1 L).2.1.toNat + (decL f (L.drop (dec1 L).2.1.toNat)).2.1, (decL f (L.drop (dec1 L).2.1.toNat)).2.2) := by
  rw [decL, if_neg hl, if_pos h]
theorem decL_fuel : ∀ (f g : Nat) (L : List Int), NN L → L.length ≤ f → L.length ≤ g → decL f L = decL g L
  | 0, g, L, _, hf, _ => by
    have : L = [] := List.eq_nil_of_length_eq_zero (by omega)
    subst this
    rw [decL_nil, decL_nil]
  | f + 1, 0, L, _, _, hg => by
    have : L = [] := List.eq_nil_of_length_eq_zero (by omega)
    subst this
    rw [decL_nil, decL_nil]
  | f + 1, g + 1, L, hn, hf, hg => by
    by_cases hl : L = []
    · subst hl; rw [decL_nil, decL_nil]
    by_cases h : (dec1 L).2.2 = 0
    · have hk := dec_ok1 hl hn h
      rw [decL_ok f L hl h, decL_ok g L hl h, decL_fuel f g (L.drop (dec1 L).2.1.toNat) (hn.drop _) (by simp; omega) (by simp; omega)]
    · rw [decL_err f L hl h, decL_err g L hl h]
theorem decF_nil : decF [] = ([], 0, 0) := rfl
theorem decF_err (L : List Int) (hl : L ≠ []) (h : (dec1 L).2.2 ≠ 0) : decF L = ([], 0, (dec1 L).2.2) := by
  have hp := List.length_pos_iff.2 hl
  unfold decF
  rw [show L.length = (L.length - 1) + 1 by omega]
  exact decL_err _ L hl h
theorem decF_ok (L : List Int) (hl : L ≠ []) (hn : NN L) (h : (dec1 L).2.2 = 0) : decF L = ((dec1 L).1 :: (decF (L.drop (dec1 L).2.1.toNat)).1, (dec1 L).2.1.toNat + (decF (L.drop (dec1 L).2.1.toNat)).2.1, (decF (L.drop (dec1 L).2.1.toNat)).2.2) := by
  have hp := List.length_pos_iff.2 hl
  have hk := dec_ok1 hl hn h
  have e : decL L.length L = decL ((L.length - 1) + 1) L := by rw [show (L.length - 1) + 1 = L.length by omega]
  unfold decF
  rw [e, decL_ok _ L hl h, decL_fuel (L.length - 1) (L.drop (dec1 L).2.1.toNat).length _ (hn.drop _) (by simp; omega) (Nat.le_refl _)]

theorem encB_ne (r : Int) : encB r ≠ [] := by
  intro e
  have := encB_len r
  rw [e] at this
  simp at this
theorem encB_nn (r : Int) (h : ¬ Bad r) : NN (encB r) ∧ ∀ x ∈ encB r, x ≤ 255 := by
  unfold Bad at h
  unfold NN
  by_cases h1 : r < 128
  · rw [enc1 h1]; simp; omega
  by_cases h2 : r < 2048
  · rw [enc2 (by omega) h2]; simp; omega
  by_cases h3 : r < 65536
  · rw [enc3 (by omega) h3]; simp; omega
  · rw [enc4 (by omega)]; simp; omega

theorem decF_enc (r : Int) (T : List Int) (h : ¬ Bad r) (hT : NN T) : decF (encB r ++ T) = (r :: (decF T).1, (encB r).length + (decF T).2.1, (decF T).2.2) := by
  have hd := dec_enc r T h
  have hne : encB r ++ T ≠ [] := by simp [encB_ne]
  have hnn : NN (encB r ++ T) := fun x hx => by
    rcases List.mem_append.1 hx with hx | hx
    · exact (encB_nn r h).1 x hx
    · exact hT x hx
  rw [decF_ok _ hne hnn (by rw [hd]), hd]
  simp
def Good (l : List Int) : Prop := ∀ r ∈ l, ¬ Bad r
theorem putL_nn (l : List Int) (h : Good l) : NN (l.flatMap putI) ∧ ∀ x ∈ l.flatMap putI, x ≤ 255 := by
  refine ⟨fun x hx => ?_, fun x hx => ?_⟩
  · obtain ⟨r, hr, hx⟩ := List.mem_flatMap.1 hx
    rw [putI_ok (h r hr)] at hx
    exact (encB_nn r (h r hr)).1 x hx
  · obtain ⟨r, hr, hx⟩ := List.mem_flatMap.1 hx
    rw [putI_ok (h r hr)] at hx
    exact (encB_nn r (h r hr)).2 x hx

theorem decF_put : ∀ (l T : List Int), Good l → NN T → decF (l.flatMap putI ++ T) = (l ++ (decF T).1, (l.flatMap putI).length + (decF T).2.1, (decF T).2.2)
  | [], T, _, _ => by simp
  | r :: l, T, h, hT => by
    have hr : ¬ Bad r := h r (by simp)
    have hl : Good l := fun x hx => h x (by simp [hx])
    have ih := decF_put l T hl hT
    have hnn : NN (l.flatMap putI ++ T) := fun x hx => by
      rcases List.mem_append.1 hx with hx | hx
      · exact (putL_nn l hl).1 x hx
      · exact hT x hx
    rw [List.flatMap_cons, putI_ok hr, List.append_assoc, decF_enc r _ hr hnn, ih]
    simp [Nat.add_assoc]

/-- What is decoded, put again, is what was there; without an error, all of it. -/
def Back (L : List Int) (x : List Int × Nat × Int) : Prop :=
  Good x.1 ∧ x.1.flatMap putI = L.take x.2.1 ∧ x.2.1 ≤ L.length ∧ (x.2.2 = 0 → x.2.1 = L.length) ∧ (x.2.2 ≠ 0 → x.2.1 < L.length)
theorem decF_back : ∀ (n : Nat) (L : List Int), L.length ≤ n → NN L → Back L (decF L)
  | 0, L, h, hn => by
    have : L = [] := List.eq_nil_of_length_eq_zero (by omega)
    subst this
    rw [decF_nil]
    exact ⟨fun r hr => by simp at hr, rfl, Nat.le_refl _, fun _ => rfl, fun h => absurd rfl h⟩
  | n + 1, L, h, hn => by
    by_cases hl : L = []
    · subst hl
      rw [decF_nil]
      exact ⟨fun r hr => by simp at hr, rfl, Nat.le_refl _, fun _ => rfl, fun h => absurd rfl h⟩
    have hp := List.length_pos_iff.2 hl
    by_cases he : (dec1 L).2.2 = 0
    · have hi := dec_inv L hl hn.getD he
      obtain ⟨hb, hlen, htk, hle⟩ := hi
      have h1 := encB_len (dec1 L).1
      rw [decF_ok L hl hn he]
      have ht : (dec1 L).2.1.toNat = (encB (dec1 L).1).length := by omega
      rw [ht]
      generalize (dec1 L).1 = r at *
      obtain ⟨a, b, c, d, e⟩ := decF_back n (L.drop (encB r).length) (by simp; omega) (hn.drop _)
      generalize decF (L.drop (encB r).length) = y at *
      rw [List.length_drop] at c d e
      refine ⟨?_, ?_, ?_, ?_, ?_⟩
      · intro x hx
        rcases List.mem_cons.1 hx with rfl | hx
        · exact hb
        · exact a x hx
      · show (r :: y.1).flatMap putI = L.take ((encB r).length + y.2.1)
        rw [List.flatMap_cons, putI_ok hb, b, List.take_add, htk]
      · show (encB r).length + y.2.1 ≤ L.length
        omega
      · intro h0
        have := d h0
        show (encB r).length + y.2.1 = L.length
        omega
      · intro h0
        have := e h0
        show (encB r).length + y.2.1 < L.length
        omega
    · rw [decF_err L hl he]
      exact ⟨fun r hr => by simp at hr, rfl, Nat.zero_le _, fun h => absurd h he, fun _ => hp⟩
end Go.Proofs.YtaoklhalkfcpfaaGreatDoor

/- Plain mathematics: the four classes of runes, as propositions that are decided. -/
set_option linter.unusedSimpArgs false
set_option linter.unusedVariables false
namespace Go.Proofs.YtaoklhalkfcpfaaGreatDoor

def Btw (r a b : Int) : Prop := a ≤ r ∧ r ≤ b
def Blank (r : Int) : Prop := r = 9 ∨ r = 10 ∨ r = 13 ∨ r = 32
def Chr (r : Int) : Prop := r = 9 ∨ r = 10 ∨ r = 13 ∨ Btw r 32 55295 ∨ Btw r 57344 65533 ∨ Btw r 65536 1114111
def Start (r : Int) : Prop :=
  Btw r 65 90 ∨ Btw r 97 122 ∨ r = 95 ∨ Btw r 192 214 ∨ Btw r 216 246 ∨ Btw r 248 767 ∨ Btw r 880 893 ∨ Btw r 895 8191 ∨ Btw r 8204 8205 ∨ Btw r 8304 8591 ∨
  Btw r 11264 12271 ∨ Btw r 12289 55295 ∨ Btw r 63744 64975 ∨ Btw r 65008 65533 ∨ Btw r 65536 983039
def Part (r : Int) : Prop := Start r ∨ r = 45 ∨ r = 46 ∨ Btw r 48 57 ∨ r = 183 ∨ Btw r 768 879 ∨ Btw r 8255 8256

instance (r a b : Int) : Decidable (Btw r a b) := inferInstanceAs (Decidable (a ≤ r ∧ r ≤ b))
instance (r : Int) : Decidable (Blank r) := inferInstanceAs (Decidable (r = 9 ∨ r = 10 ∨ r = 13 ∨ r = 32))
instance (r : Int) : Decidable (Chr r) := inferInstanceAs (Decidable (r = 9 ∨ r = 10 ∨ r = 13 ∨ Btw r 32 55295 ∨ Btw r 57344 65533 ∨ Btw r 65536 1114111))
instance (r : Int) : Decidable (Start r) := by unfold Start; infer_instance
instance (r : Int) : Decidable (Part r) := by unfold Part; infer_instance

theorem blank_chr {r : Int} (h : Blank r) : Chr r := by unfold Blank at h; unfold Chr Btw; omega
theorem start_part {r : Int} (h : Start r) : Part r := .inl h
theorem part_chr {r : Int} (h : Part r) : Chr r := by unfold Part Start Btw at h; unfold Chr Btw; omega
theorem blank_part {r : Int} (h : Blank r) : ¬ Part r := by unfold Blank at h; unfold Part Start Btw; omega
end Go.Proofs.YtaoklhalkfcpfaaGreatDoor
