/-
  Merged by program out of the texts Dec2, Mem, Str, Val, RefMath, RefPut, Begins, CutLem of one seat.
-/
import Derived.Test.YtaoggciebkaakaaG10
import Derived.Test.YtaoggciebkaakaaProg
import Derived.Test.YtaoggciebkaakaaG04
import Derived.WalkKit
import Derived.WalkSpells
import Derived.WalkLawsBesides
import Derived.Laws.BytesArg
import Derived.Laws.OwnMore
import Derived.Lib.Hide
import Derived.Deep.QuietTactic
import Derived.BigQuiet
import Derived.Deep.DeepCutAuto

/- Decoding a whole list of bytes. -/
set_option linter.unusedSimpArgs false
set_option linter.unusedVariables false
namespace Go.Proofs.Ytaoggciebkaakaa

/-- No number below 0. -/
def NN (L : List Int) : Prop := ∀ x ∈ L, 0 ≤ x
theorem NN.getD {L : List Int} (h : NN L) (k : Nat) : 0 ≤ L.getD k 0 := by
  rw [List.getD_eq_getElem?_getD]
  rcases Nat.lt_or_ge k L.length with hk | hk
  · rw [List.getElem?_eq_getElem hk]; exact h _ (List.getElem_mem hk)
  · rw [List.getElem?_eq_none hk]; exact Int.le_refl 0
theorem NN.drop {L : List Int} (h : NN L) (k : Nat) : NN (L.drop k) := fun x hx => h x (List.mem_of_mem_drop hx)
theorem NN.take {L : List Int} (h : NN L) (k : Nat) : NN (L.take k) := fun x hx => h x (List.mem_of_mem_take hx)

def decL : Nat → List Int → List Int × Nat × Int
  | 0, _ => ([], 0, 0)
  | f + 1, L => if L = [] then ([], 0, 0) else if (dec1 L).2.2 = 0 then ((dec1 L).1 :: (decL f (L.drop (dec1 L).2.1.toNat)).1, (dec1 L).2.1.toNat + (decL f (L.drop (dec1 L).2.1.toNat)).2.1, (decL f (L.drop (dec1 L).2.1.toNat)).2.2) else ([], 0, (dec1 L).2.2)
def decF (L : List Int) : List Int × Nat × Int := decL L.length L

theorem dec_ok1 {L : List Int} (hl : L ≠ []) (hn : NN L) (h : (dec1 L).2.2 = 0) : 1 ≤ (dec1 L).2.1.toNat ∧ (dec1 L).2.1.toNat ≤ L.length := by
  have hi := dec_inv L hl hn.getD h
  have := encB_len (dec1 L).1
  omega
theorem decL_nil (f : Nat) : decL f [] = ([], 0, 0) := by cases f <;> simp [decL]
theorem decL_err (f : Nat) (L : List Int) (hl : L ≠ []) (h : (dec1 L).2.2 ≠ 0) : decL (f + 1) L = ([], 0, (dec1 L).2.2) := by rw [decL, if_neg hl, if_neg h]
theorem decL_ok (f : Nat) (L : List Int) (hl : L ≠ []) (h : (dec1 L).2.2 = 0) : decL (f + 1) L = ((dec1 L).1 :: (decL f (L.drop (dec1 L).2.1.toNat)).1, (dec1 L).2.1.toNat + (decL f (L.drop (dec1 L).2.1.toNat)).2.1, (decL f (L.drop (dec1 L).2.1.toNat)).2.2) := by
  rw [decL, if_neg hl, if_pos h]
theorem decL_fuel : ∀ (f g : Nat) (L : List Int), NN L → L.length ≤ f → L.length ≤ g → decL f L = decL g L
  | 0, g, L, _, hf, _ => by
    have : L = [] := List.eq_nil_of_length_eq_zero (by omega)
    subst this
    rw [decL_nil, decL_nil]
  | f + 1, 0, L, _, _, hg => by
    have : L = [] := List.eq_nil_of_length_eq_zero (by omega)
    subst this
    rw [decL_nil, decL_nil]
  | f + 1, g + 1, L, hn, hf, hg => by
    by_cases hl : L = []
    · subst hl; rw [decL_nil, decL_nil]
    by_cases h : (dec1 L).2.2 = 0
    · have hk := dec_ok1 hl hn h
      rw [decL_ok f L hl h, decL_ok g L hl h, decL_fuel f g (L.drop (dec1 L).2.1.toNat) (hn.drop _) (by simp; omega) (by simp; omega)]
    · rw [decL_err f L hl h, decL_err g L hl h]
theorem decF_nil : decF [] = ([], 0, 0) := rfl
theorem decF_err (L : List Int) (hl : L ≠ []) (h : (dec1 L).2.2 ≠ 0) : decF L = ([], 0, (dec1 L).2.2) := by
  have hp := List.length_pos_iff.2 hl
  unfold decF
  rw [show L.length = (L.length - 1) + 1 by omega]
  exact decL_err _ L hl h
theorem decF_ok (L : List Int) (hl : L ≠ []) (hn : NN L) (h : (dec1 L).2.2 = 0) : decF L = ((dec1 L).1 :: (decF (L.drop (dec1 L).2.1.toNat)).1, (dec1 L).2.1.toNat + (decF (L.drop (dec1 L).2.1.toNat)).2.1, (decF (L.drop (dec1 L).2.1.toNat)).2.2) := by
  have hp := List.length_pos_iff.2 hl
  have hk := dec_ok1 hl hn h
  have e : decL L.length L = decL ((L.length - 1) + 1) L := by rw [show (L.length - 1) + 1 = L.length by omega]
  unfold decF
  rw [e, decL_ok _ L hl h, decL_fuel (L.length - 1) (L.drop (dec1 L).2.1.toNat).length _ (hn.drop _) (by simp; omega) (Nat.le_refl _)]

theorem encB_nn (r : Int) (h : ¬ Bad r) : NN (encB r) ∧ ∀ x ∈ encB r, x ≤ 255 := by
  unfold Bad at h
  unfold NN
  by_cases h1 : r < 128
  · rw [enc1 h1]; simp; omega
  by_cases h2 : r < 2048
  · rw [enc2 (by omega) h2]; simp; omega
  by_cases h3 : r < 65536
  · rw [enc3 (by omega) h3]; simp; omega
  · rw [enc4 (by omega)]; simp; omega

def Good (l : List Int) : Prop := ∀ r ∈ l, ¬ Bad r
/-- What is decoded, put again, is what was there; without an error, all of it. -/
def Back (L : List Int) (x : List Int × Nat × Int) : Prop :=
  Good x.1 ∧ x.1.flatMap putI = L.take x.2.1 ∧ x.2.1 ≤ L.length ∧ (x.2.2 = 0 → x.2.1 = L.length) ∧ (x.2.2 ≠ 0 → x.2.1 < L.length)
theorem decF_back : ∀ (n : Nat) (L : List Int), L.length ≤ n → NN L → Back L (decF L)
  | 0, L, h, hn => by
    have : L = [] := List.eq_nil_of_length_eq_zero (by omega)
    subst this
    rw [decF_nil]
    exact ⟨fun r hr => by simp at hr, rfl, Nat.le_refl _, fun _ => rfl, fun h => absurd rfl h⟩
  | n + 1, L, h, hn => by
    by_cases hl : L = []
    · subst hl
      rw [decF_nil]
      exact ⟨fun r hr => by simp at hr, rfl, Nat.le_refl _, fun _ => rfl, fun h => absurd rfl h⟩
    have hp := List.length_pos_iff.2 hl
    by_cases he : (dec1 L).2.2 = 0
    · have hi := dec_inv L hl hn.getD he
      obtain ⟨hb, hlen, htk, hle⟩ := hi
      have h1 := encB_len (dec1 L).1
      rw [decF_ok L hl hn he]
      have ht : (dec1 L).2.1.toNat = (encB (dec1 L).1).length := by omega
      rw [ht]
      generalize (dec1 L).1 = r at *
      obtain ⟨a, b, c, d, e⟩ := decF_back n (L.drop (encB r).length) (by simp; omega) (hn.drop _)
      generalize decF (L.drop (encB r).length) = y at *
      rw [List.length_drop] at c d e
      refine ⟨?_, ?_, ?_, ?_, ?_⟩
      · intro x hx
        rcases List.mem_cons.1 hx with rfl | hx
        · exact hb
        · exact a x hx
      · show (r :: y.1).flatMap putI = L.take ((encB r).length + y.2.1)
        rw [List.flatMap_cons, putI_ok hb, b, List.take_add, htk]
      · show (encB r).length + y.2.1 ≤ L.length
        omega
      · intro h0
        have := d h0
        show (encB r).length + y.2.1 = L.length
        omega
      · intro h0
        have := e h0
        show (encB r).length + y.2.1 < L.length
        omega
    · rw [decF_err L hl he]
      exact ⟨fun r hr => by simp at hr, rfl, Nat.zero_le _, fun h => absurd h he, fun _ => hp⟩
end Go.Proofs.Ytaoggciebkaakaa

/- Slices of numbers in memory: what a slice reads as; what a slice of the call's own reads as; bytes as a string. -/
set_option linter.unusedSimpArgs false
set_option linter.unusedVariables false
namespace Go.Proofs.Ytaoggciebkaakaa
open Go.RowKit

/-- The slice at A reads as the numbers l, and lies below block B. -/
def Rd (k : IntKind) (w : World) (B : Nat) (A : Option Addr) (l : List Int) : Prop :=
  l = [] ∨ ∃ b off, A = some ⟨b, off, none⟩ ∧ b < B ∧ ∀ j, j < l.length → w.cell? ⟨b, off + j, none⟩ = some (.int k (l.getD j 0))

theorem Rd.below {k : IntKind} {w w' : World} {B : Nat} {A : Option Addr} {l : List Int} (h : Rd k w B A l) (hb : Below B w w') : Rd k w' B A l := by
  rcases h with h | ⟨b, off, rfl, hlt, hc⟩
  · exact .inl h
  · exact .inr ⟨b, off, rfl, hlt, fun j hj => (hb.cell (p := ⟨b, off + j, none⟩) hlt).trans (hc j hj)⟩
theorem Rd.at_ {k : IntKind} {w : World} {B : Nat} {A : Option Addr} {l : List Int} (h : Rd k w B A l) {j : Nat} (hj : j < l.length) :
    ∃ b off, A = some ⟨b, off, none⟩ ∧ b < B ∧ w.cell? ⟨b, off + j, none⟩ = some (.int k (l.getD j 0)) := by
  rcases h with h | ⟨b, off, rfl, hlt, hc⟩
  · subst h; simp at hj
  · exact ⟨b, off, rfl, hlt, hc j hj⟩
/-- A slice of the call's own is a slice value, and reads as what it owns. -/
theorem own_rd {k : IntKind} {w : World} {B : Nat} {e : TypeId} {v : Value} {l : List Int} (h : w.ownsRow B e 1 v l.length (l.map (Value.int k))) :
    ∃ A c, v = .slice A l.length c ∧ Rd k w w.heap.size A l := by
  rcases h.2 with ⟨rfl, h0⟩ | ⟨g, cap, cur, rfl, _, hh, _, _, _, _⟩
  · have : l = [] := List.eq_nil_of_length_eq_zero h0
    subst this
    exact ⟨none, 0, rfl, .inl rfl⟩
  · refine ⟨_, cap, rfl, .inr ⟨g, 0, rfl, ?_, fun j hj => ?_⟩⟩
    · exact (h.lt g rfl).2
    · have := h.cellAt (g := g) j (by omega)
      rw [Nat.zero_add, this]
      simp [List.getElem?_eq_getElem hj]
/-- 'string(b)'. -/
theorem conv_rd {w : World} {B : Nat} {A : Option Addr} {l : List Int} {c : Nat} (h : Rd .u8 w B A l) :
    (convert 72 9 (.slice A l.length c)).run Try.prog w = .ok (.string (strOfNums l)) w := by
  rcases h with rfl | ⟨b, off, rfl, hlt, hc⟩
  · cases A with
    | none => exact run_convert_bytes_nil w 72 5 Try.underlying72 Try.underlying5 _ _ 9 Try.underlying9
    | some a =>
      rw [run_convert_bytes_string w 72 9 5 _ _ c Try.underlying72 Try.underlying5 Try.underlying9, run_bytesToString w a _ c [] (by simp [loadCells, loadCellsFrom])]
      rfl
  · exact run_convert_bytes_arg w 72 5 Try.underlying72 Try.underlying5 b off l.length c l rfl hc 9 Try.underlying9
end Go.Proofs.Ytaoggciebkaakaa

/- Strings as lists of bytes: Rune, All and Whole by them. -/
set_option linter.unusedSimpArgs false
set_option linter.unusedVariables false
namespace Go.Proofs.Ytaoggciebkaakaa

def byts (s : ByteArray) : List Int := s.data.toList.map fun b => (b.toNat : Int)
theorem byts_len (s : ByteArray) : (byts s).length = s.size := by simp [byts]
theorem byts_nn (s : ByteArray) : NN (byts s) := fun x hx => by
  obtain ⟨b, _, rfl⟩ := List.mem_map.1 hx
  omega
theorem bt_byts (s : ByteArray) (k : Nat) : bt s k = (byts s).getD k 0 := by
  unfold bt byts
  simp only [List.getD_eq_getElem?_getD, List.getElem?_map]
  cases s.data.toList[k]? <;> simp
theorem runeF_dec (s : ByteArray) (a : Nat) (h : a < s.size) : runeF s a = dec1 ((byts s).drop a) := by
  unfold runeF dec1
  rw [if_neg (by omega), Int.toNat_natCast, List.length_drop, byts_len]
  congr 1
  funext k
  rw [bt_byts]
  simp [List.getD_eq_getElem?_getD, List.getElem?_drop]
theorem allGo_dec (s : ByteArray) : ∀ (f a : Nat), a ≤ s.size →
    allGo s f a = ((decL f ((byts s).drop a)).1, ((a + (decL f ((byts s).drop a)).2.1 : Nat) : Int), (decL f ((byts s).drop a)).2.2)
  | 0, a, h => by simp [allGo, decL]
  | f + 1, a, h => by
    by_cases hlt : a < s.size
    · have hne : (byts s).drop a ≠ [] := by
        intro e
        have := congrArg List.length e
        rw [List.length_drop, byts_len] at this
        simp at this
        omega
      by_cases he : (runeF s a).2.2 = 0
      · rw [allGo_ok s f a hlt he]
        have hk := runeF_okay s a hlt
        have hn : (runeF s a).2.1.toNat ≤ s.size - a := by
          rcases hk with hk | hk
          · omega
          · omega
        rw [runeF_dec s a hlt] at he hn ⊢
        rw [decL_ok f _ hne he, allGo_dec s f _ (by omega)]
        simp [Nat.add_assoc]
      · rw [allGo_err s f a hlt he]
        rw [runeF_dec s a hlt] at he ⊢
        rw [decL_err f _ hne he]
        simp
    · rw [allGo_done s _ a (by omega)]
      have : (byts s).drop a = [] := List.drop_of_length_le (by rw [byts_len]; omega)
      rw [this, decL_nil]
      simp
theorem allF_dec (s : ByteArray) : allF s = ((decF (byts s)).1, ((decF (byts s)).2.1 : Int), (decF (byts s)).2.2) := by
  unfold allF decF
  rw [allGo_dec s s.size 0 (by omega), byts_len]
  simp

theorem ofNat_toNat (x : Int) (h0 : 0 ≤ x) (h1 : x ≤ 255) : ((UInt8.ofNat x.toNat).toNat : Int) = x := by
  rw [UInt8.toNat_ofNat']
  omega
theorem byts_str (l : List Int) (h : NN l) (h1 : ∀ x ∈ l, x ≤ 255) : byts (strOfNums l) = l := by
  unfold byts
  rw [strOfNums_data, List.map_map]
  conv => rhs; rw [← List.map_id l]
  refine List.map_congr_left fun x hx => ?_
  simp only [Function.comp]
  exact ofNat_toNat x (h x hx) (h1 x hx)
theorem byts_extract (s : ByteArray) (a b : Nat) : byts (s.extract a b) = ((byts s).take b).drop a := by
  unfold byts
  rw [ByteArray.data_extract, Array.toList_extract, List.extract_eq_take_drop, List.map_take, List.map_drop, List.drop_take]
end Go.Proofs.Ytaoggciebkaakaa

/- The walk of the document's value: the rune that so many bytes would be. -/
set_option linter.unusedSimpArgs false
set_option linter.unusedVariables false
namespace Go.Proofs.Ytaoggciebkaakaa
open Go.RowKit

def offs (n i : Nat) : Int := if i = 0 then (if n = 2 then 192 else if n = 3 then 224 else if n = 4 then 240 else 0) else 128
def valG (b : Nat → Int) (n : Nat) : Nat → Int
  | 0 => 0
  | i + 1 => valG b n i * 64 + (b i - offs n i)
theorem offs_bd (n i : Nat) : 0 ≤ offs n i ∧ offs n i ≤ 240 := by unfold offs; repeat' split <;> omega
def vb (i : Nat) : Int := if i = 0 then 0 else if i = 1 then 256 else if i = 2 then 16640 else if i = 3 then 1065216 else 68174080
theorem valG_bd (b : Nat → Int) (n : Nat) (h0 : ∀ k, 0 ≤ b k) (h1 : ∀ k, b k < 256) (i : Nat) (hi : i ≤ 4) : -100000000 ≤ valG b n i ∧ valG b n i ≤ 100000000 := by
  have a0 := h0 0; have a1 := h1 0
  have b0 := h0 1; have b1 := h1 1
  have c0 := h0 2; have c1 := h1 2
  have d0 := h0 3; have d1 := h1 3
  have o0 := offs_bd n 0
  have o1 := offs_bd n 1
  have o2 := offs_bd n 2
  have o3 := offs_bd n 3
  have h : i = 0 ∨ i = 1 ∨ i = 2 ∨ i = 3 ∨ i = 4 := by omega
  rcases h with rfl | rfl | rfl | rfl | rfl <;> simp only [valG] <;> omega

set_option maxHeartbeats 1000000 in
set_option maxRecDepth 100000 in
theorem value_any (s : ByteArray) (a n : Nat) (w : World) (hs : s.size ≤ 100000) (h : a + n ≤ s.size) (h2 : 2 ≤ n) (h4 : n ≤ 4) :
    Calls Try.prog 65 #[.string s, .int .i64 a, .int .i64 n] w fun e w' => e = .returned (.int .i64 (valG (fun i => bt s (a + i)) n n)) ∧ w = w' := by
  have VB := valG_bd (fun i => bt s (a + i)) n (fun k => bt_lo s _) (fun k => bt_hi s _)
  have VS : ∀ i, valG (fun i => bt s (a + i)) n (i + 1) = valG (fun i => bt s (a + i)) n i * 64 + (bt s (a + i) - offs n i) := fun i => rfl
  have V0 : valG (fun i => bt s (a + i)) n 0 = 0 := rfl
  generalize valG (fun i => bt s (a + i)) n = f at *
  have HB := Lib.hid VB
  have HS := Lib.hid VS
  have H0 := Lib.hid V0
  clear VB VS V0
  go_enter Try.func65, Try.ntmps65
  go_wp2_with fail
  go_loop [7, 8] (fun v i => ∃ k : Nat, k ≤ n ∧ i = .int .i64 k ∧ v = .int .i64 (f k)) (fun _ i => n - (intOf i).toNat)
  case atStart => exact ⟨0, Nat.zero_le _, rfl, by rw [H0.out]⟩
  case round =>
    obtain ⟨k, hk, rfl, rfl⟩ := hrel
    by_cases hlt : k < n
    · have vb := HB.out k (by omega)
      have hb := bt_eq s (a + k) (by omega)
      have hby : (s[a + k].toNat : Int) < 256 := by have := s[a + k].toNat_lt; omega
      have hst := HS.out k
      rw [← hb] at hst
      have HST := Lib.hid hst
      clear hb hst
      generalize f k = v at *
      by_cases h0 : k = 0
      · have t0 : ((k : Int) == 0) = true := by simp; omega
        have hk0 : k ≤ 0 := by omega
        have HO := Lib.hid h0
        clear h0
        have hn : n = 2 ∨ n = 3 ∨ n = 4 := by omega
        rcases hn with hn | hn | hn
        · have ho : offs n k = 192 := by rw [HO.out, hn]; rfl
          rw [ho] at HST
          have n2 : ((n : Int) == 2) = true := by simp; omega
          have n3 : ((n : Int) == 3) = false := by simp; omega
          have n4 : ((n : Int) == 4) = false := by simp; omega
          clear ho hn
          go_wp2
          go_round
          case rel => exact ⟨k + 1, by omega, by go_num, by rw [HST.out]⟩
          case measure => simp [intOf]; omega
        · have ho : offs n k = 224 := by rw [HO.out, hn]; rfl
          rw [ho] at HST
          have n2 : ((n : Int) == 2) = false := by simp; omega
          have n3 : ((n : Int) == 3) = true := by simp; omega
          have n4 : ((n : Int) == 4) = false := by simp; omega
          clear ho hn
          go_wp2
          go_round
          case rel => exact ⟨k + 1, by omega, by go_num, by rw [HST.out]⟩
          case measure => simp [intOf]; omega
        · have ho : offs n k = 240 := by rw [HO.out, hn]; rfl
          rw [ho] at HST
          have n2 : ((n : Int) == 2) = false := by simp; omega
          have n3 : ((n : Int) == 3) = false := by simp; omega
          have n4 : ((n : Int) == 4) = true := by simp; omega
          clear ho hn
          go_wp2
          go_round
          case rel => exact ⟨k + 1, by omega, by go_num, by rw [HST.out]⟩
          case measure => simp [intOf]; omega
      · have t0 : ((k : Int) == 0) = false := by simp; omega
        have ho : offs n k = 128 := by unfold offs; rw [if_neg h0]
        rw [ho] at HST
        have hk1 : (0 : Int) < (k : Int) := by omega
        clear h0 ho
        go_wp2
        go_round
        case rel => exact ⟨k + 1, by omega, by go_num, by rw [HST.out]⟩
        case measure => simp [intOf]; omega
    · have : k = n := by omega
      subst this
      go_wp2
      go_ret
      exact ⟨rfl, rfl⟩
theorem value_zero (s : ByteArray) (n : Nat) (w : World) (hs : s.size ≤ 100000) (h : n ≤ s.size) (h2 : 2 ≤ n) (h4 : n ≤ 4) :
    Calls Try.prog 65 #[.string s, .int .i64 0, .int .i64 n] w fun e w' => e = .returned (.int .i64 (valG (bt s) n n)) ∧ w = w' := by
  have := value_any s 0 n w hs (by omega) h2 h4
  simp only [Nat.zero_add] at this
  exact this
end Go.Proofs.Ytaoggciebkaakaa

/- The document's way to a rune, and to what is cut off: by trying. It comes to the same as the table of first bytes. -/
set_option linter.unusedSimpArgs false
set_option linter.unusedVariables false
namespace Go.Proofs.Ytaoggciebkaakaa

def valL (L : List Int) (n : Nat) : Int := valG (fun k => L.getD k 0) n n
theorem val2 (L : List Int) : valL L 2 = (L.getD 0 0 - 192) * 64 + (L.getD 1 0 - 128) := by simp [valL, valG, offs]
theorem val3 (L : List Int) : valL L 3 = ((L.getD 0 0 - 224) * 64 + (L.getD 1 0 - 128)) * 64 + (L.getD 2 0 - 128) := by simp [valL, valG, offs]
theorem val4 (L : List Int) : valL L 4 = (((L.getD 0 0 - 240) * 64 + (L.getD 1 0 - 128)) * 64 + (L.getD 2 0 - 128)) * 64 + (L.getD 3 0 - 128) := by simp [valL, valG, offs]
/-- What is tried at n bytes. -/
def vAt (L : List Int) (n : Nat) : Int := if n = 1 then L.getD 0 0 else valL L n

theorem refPut_ok {r : Int} (h : ¬ Bad r) : refPut r = encB r := by rw [refPut, if_neg h]
theorem refPut_pos {r : Int} (h : 0 < (refPut r).length) : ¬ Bad r := fun hb => by
  rw [refPut, if_pos hb] at h
  simp at h

/-- A try that succeeds. -/
def Try1 (L : List Int) (n : Nat) : Prop := (refPut (vAt L n)).length = n ∧ L.take n = refPut (vAt L n)
theorem try_dec (L : List Int) (n : Nat) (hn : 1 ≤ n) (h : Try1 L n) : dec1 L = (vAt L n, (n : Int), 0) := by
  obtain ⟨h1, h2⟩ := h
  have hb : ¬ Bad (vAt L n) := refPut_pos (by omega)
  rw [refPut_ok hb] at h1 h2
  have hL : L = encB (vAt L n) ++ L.drop n := by rw [← h2, List.take_append_drop]
  generalize vAt L n = r at *
  have := dec_enc r (L.drop n) hb
  rw [← hL, h1] at this
  exact this
theorem getD_of_take {L T : List Int} {n k : Nat} (h : L.take n = T) (hk : k < n) : L.getD k 0 = T.getD k 0 := by
  subst h
  simp [List.getD_eq_getElem?_getD, List.getElem?_take, hk]
/-- Where a rune stands, the try of its length succeeds. -/
theorem dec_try (L : List Int) (hl : L ≠ []) (hn : NN L) (h : (dec1 L).2.2 = 0) : ∃ n, 1 ≤ n ∧ n ≤ 4 ∧ n ≤ L.length ∧ Try1 L n := by
  obtain ⟨hb, h1, h2, h3⟩ := dec_inv L hl hn.getD h
  generalize (dec1 L).1 = r at *
  have h4 := encB_len r
  refine ⟨(encB r).length, by omega, by omega, h3, ?_⟩
  have key : vAt L (encB r).length = r := by
    have hb' := hb
    unfold Bad at hb'
    by_cases q1 : r < 128
    · rw [enc1 q1] at h2 ⊢
      have g0 := getD_of_take (k := 0) h2 (by simp)
      simp at g0
      simp [vAt, g0]
    by_cases q2 : r < 2048
    · rw [enc2 (by omega) q2] at h2 ⊢
      have g0 := getD_of_take (k := 0) h2 (by simp)
      have g1 := getD_of_take (k := 1) h2 (by simp)
      simp only [List.getD_cons_zero, List.getD_cons_succ] at g0 g1
      show vAt L 2 = r
      rw [vAt, if_neg (by omega), val2, g0, g1]
      omega
    by_cases q3 : r < 65536
    · rw [enc3 (by omega) q3] at h2 ⊢
      have g0 := getD_of_take (k := 0) h2 (by simp)
      have g1 := getD_of_take (k := 1) h2 (by simp)
      have g2 := getD_of_take (k := 2) h2 (by simp)
      simp only [List.getD_cons_zero, List.getD_cons_succ] at g0 g1 g2
      show vAt L 3 = r
      rw [vAt, if_neg (by omega), val3, g0, g1, g2]
      omega
    · rw [enc4 (by omega)] at h2 ⊢
      have g0 := getD_of_take (k := 0) h2 (by simp)
      have g1 := getD_of_take (k := 1) h2 (by simp)
      have g2 := getD_of_take (k := 2) h2 (by simp)
      have g3 := getD_of_take (k := 3) h2 (by simp)
      simp only [List.getD_cons_zero, List.getD_cons_succ] at g0 g1 g2 g3
      show vAt L 4 = r
      rw [vAt, if_neg (by omega), val4, g0, g1, g2, g3]
      omega
  refine ⟨?_, ?_⟩
  · rw [key, refPut_ok hb]
  · rw [key, refPut_ok hb, h2]

/-- The steps between the least rune and the greatest that bytes begin, so many bytes missing. -/
def stp (j : Nat) : Int := if j = 1 then 1 else if j = 2 then 65 else 4161
def loV (F : List Int) (t : Nat) : Int := valL (F ++ List.replicate (t - F.length) 128) t
def hiV (F : List Int) (t : Nat) : Int := valL (F ++ List.replicate (t - F.length) 191) t
def rK (F : List Int) (t k : Nat) : Int := loV F t + stp (t - F.length) * k
def Tl (F : List Int) : Prop := ∀ i, 1 ≤ i → i < F.length → 128 ≤ F.getD i 0 ∧ F.getD i 0 ≤ 191
def Fst (F : List Int) (t : Nat) : Prop := (t = 2 ∧ 192 ≤ F.getD 0 0 ∧ F.getD 0 0 < 224) ∨ (t = 3 ∧ 224 ≤ F.getD 0 0 ∧ F.getD 0 0 < 240) ∨ (t = 4 ∧ 240 ≤ F.getD 0 0 ∧ F.getD 0 0 < 248)
def Hit (F : List Int) (t k : Nat) : Prop := (refPut (rK F t k)).length = t ∧ (refPut (rK F t k)).take F.length = F
def Srch (F : List Int) (t : Nat) : Prop := Tl F ∧ Fst F t ∧ ∃ k, k < 64 ∧ Hit F t k

theorem hi_lo (F : List Int) (t : Nat) (h1 : 1 ≤ F.length) (h2 : F.length < t) (h3 : t ≤ 4) : hiV F t = loV F t + stp (t - F.length) * 63 := by
  match F, h1, h2 with
  | [a], _, h2 =>
    have : t = 2 ∨ t = 3 ∨ t = 4 := by simp only [List.length_cons, List.length_nil] at h2; omega
    rcases this with rfl | rfl | rfl
    · simp [hiV, loV, val2, stp, List.replicate] <;> try omega
    · simp [hiV, loV, val3, stp, List.replicate] <;> try omega
    · simp [hiV, loV, val4, stp, List.replicate] <;> try omega
  | [a, b], _, h2 =>
    have : t = 3 ∨ t = 4 := by simp at h2; omega
    rcases this with rfl | rfl
    · simp [hiV, loV, val3, stp, List.replicate] <;> try omega
    · simp [hiV, loV, val4, stp, List.replicate] <;> try omega
  | [a, b, c], _, h2 =>
    have : t = 4 := by simp at h2; omega
    subst this
    simp [hiV, loV, val4, stp, List.replicate] <;> try omega
  | a :: b :: c :: d :: F, _, h2 => simp at h2; omega

theorem hit_cut (F : List Int) (t k : Nat) (h1 : 1 ≤ F.length) (h2 : F.length < t) (h : Hit F t k) : (dec1 F).2.2 = 7 := by
  obtain ⟨a, b⟩ := h
  have hb : ¬ Bad (rK F t k) := refPut_pos (by omega)
  rw [refPut_ok hb] at a b
  have := dec_cut (rK F t k) F.length hb h1 (by omega)
  rw [b] at this
  rw [this]

theorem hit2 (F : List Int) (k : Nat) (hF : F.length = 1) (h0 : 194 ≤ F.getD 0 0) (h1 : F.getD 0 0 < 224) : Hit F 2 0 := by
  match F, hF with
  | [a], _ =>
    simp at h0 h1
    have hr : rK [a] 2 0 = (a - 192) * 64 := by simp [rK, loV, val2, stp, List.replicate]
    unfold Hit
    rw [hr, refPut_ok (by unfold Bad; omega), enc2 (by omega) (by omega)]
    refine ⟨rfl, ?_⟩
    exact cons_eq (by omega) rfl
theorem hit3 (a : Int) (h0 : 224 ≤ a) (h1 : a < 240) : ∃ k, k < 64 ∧ Hit [a] 3 k := by
  by_cases e : a = 224
  · subst e
    refine ⟨32, by omega, ?_⟩
    have hr : rK [224] 3 32 = 2080 := by decide
    unfold Hit
    rw [hr]
    decide
  · refine ⟨0, by omega, ?_⟩
    have hr : rK [a] 3 0 = (a - 224) * 64 * 64 := by simp [rK, loV, val3, stp, List.replicate]
    unfold Hit
    rw [hr, refPut_ok (by unfold Bad; omega), enc3 (by omega) (by omega)]
    refine ⟨rfl, ?_⟩
    exact cons_eq (by omega) rfl
theorem hit4 (a : Int) (h0 : 240 ≤ a) (h1 : a < 245) : ∃ k, k < 64 ∧ Hit [a] 4 k := by
  by_cases e : a = 240
  · subst e
    refine ⟨16, by omega, ?_⟩
    have hr : rK [240] 4 16 = 66576 := by decide
    unfold Hit
    rw [hr]
    decide
  · refine ⟨0, by omega, ?_⟩
    have hr : rK [a] 4 0 = (a - 240) * 64 * 64 * 64 := by simp [rK, loV, val4, stp, List.replicate]
    unfold Hit
    rw [hr, refPut_ok (by unfold Bad; omega), enc4 (by omega)]
    refine ⟨rfl, ?_⟩
    exact cons_eq (by omega) rfl
theorem hit32 (a b : Int) (h0 : 224 ≤ a) (h1 : a < 240) (h2 : 128 ≤ b) (h3 : b ≤ 191) (h4 : a = 224 → 160 ≤ b) (h5 : a = 237 → b ≤ 159) : Hit [a, b] 3 0 := by
  have hr : rK [a, b] 3 0 = ((a - 224) * 64 + (b - 128)) * 64 := by simp [rK, loV, val3, stp, List.replicate]
  unfold Hit
  rw [hr, refPut_ok (by unfold Bad; omega), enc3 (by omega) (by omega)]
  refine ⟨rfl, ?_⟩
  exact cons_eq (by omega) (cons_eq (by omega) rfl)
theorem hit42 (a b : Int) (h0 : 240 ≤ a) (h1 : a < 245) (h2 : 128 ≤ b) (h3 : b ≤ 191) (h4 : a = 240 → 144 ≤ b) (h5 : a = 244 → b ≤ 143) : Hit [a, b] 4 0 := by
  have hr : rK [a, b] 4 0 = ((a - 240) * 64 + (b - 128)) * 64 * 64 := by simp [rK, loV, val4, stp, List.replicate]
  unfold Hit
  rw [hr, refPut_ok (by unfold Bad; omega), enc4 (by omega)]
  refine ⟨rfl, ?_⟩
  exact cons_eq (by omega) (cons_eq (by omega) rfl)
theorem hit43 (a b c : Int) (h0 : 240 ≤ a) (h1 : a < 245) (h2 : 128 ≤ b) (h3 : b ≤ 191) (h4 : a = 240 → 144 ≤ b) (h5 : a = 244 → b ≤ 143) (h6 : 128 ≤ c) (h7 : c ≤ 191) : Hit [a, b, c] 4 0 := by
  have hr : rK [a, b, c] 4 0 = (((a - 240) * 64 + (b - 128)) * 64 + (c - 128)) * 64 := by simp [rK, loV, val4, stp, List.replicate]
  unfold Hit
  rw [hr, refPut_ok (by unfold Bad; omega), enc4 (by omega)]
  refine ⟨rfl, ?_⟩
  exact cons_eq (by omega) (cons_eq (by omega) (cons_eq (by omega) rfl))

/-- What canon says of so few bytes, where it says that they are cut off. -/
theorem cut_1 (a : Int) (h : (dec1 [a]).2.2 = 7) : 194 ≤ a ∧ a < 245 := by
  by_cases q : 194 ≤ a ∧ a < 245
  · exact q
  · exfalso
    simp [dec1, canon] at h
    repeat' split at h
    all_goals first | omega | simp at h
def C7 (P : Prop) (x : Int × Int × Int) : Prop := x.2.2 = 7 → P
theorem c7_ite {P : Prop} {c : Prop} [Decidable c] {x y : Int × Int × Int} (h1 : c → C7 P x) (h2 : ¬ c → C7 P y) : C7 P (if c then x else y) := by
  by_cases h : c
  · rw [if_pos h]; exact h1 h
  · rw [if_neg h]; exact h2 h
theorem c7_2 {P : Prop} : C7 P (0, 0, 2) := fun h => by simp at h
theorem c7_0 {P : Prop} {r n : Int} : C7 P (r, n, 0) := fun h => by simp at h
theorem c7_7 {P : Prop} (h : P) : C7 P (0, 0, 7) := fun _ => h
theorem cut_2 (a b : Int) (h : (dec1 [a, b]).2.2 = 7) : (224 ≤ a ∧ a < 240 ∧ 128 ≤ b ∧ b ≤ 191 ∧ (a = 224 → 160 ≤ b) ∧ (a = 237 → b ≤ 159)) ∨ (240 ≤ a ∧ a < 245 ∧ 128 ≤ b ∧ b ≤ 191 ∧ (a = 240 → 144 ≤ b) ∧ (a = 244 → b ≤ 143)) := by
  refine (?_ : C7 _ (dec1 [a, b])) h
  unfold dec1 canon
  simp only [List.getD_cons_zero, List.getD_cons_succ, List.length_cons, List.length_nil]
  refine c7_ite (fun _ => c7_0) fun n1 => c7_ite (fun _ => c7_2) fun n2 => ?_
  refine c7_ite (fun q => c7_ite (fun q => by omega) fun _ => c7_ite (fun _ => c7_2) fun _ => c7_0) fun n3 => ?_
  refine c7_ite (fun q => c7_ite (fun q => by omega) fun _ => c7_ite (fun _ => c7_2) fun n4 => c7_ite (fun _ => c7_7 (.inl ?_)) fun q => by omega) fun n4 => ?_
  · refine ⟨by omega, by omega, ?_, ?_, ?_, ?_⟩
    · by_cases e : a = 224
      · rw [if_pos e] at n4; omega
      · rw [if_neg e] at n4; omega
    · by_cases e : a = 237
      · rw [if_pos e] at n4; omega
      · rw [if_neg e] at n4; omega
    · intro e; rw [if_pos e] at n4; omega
    · intro e; rw [if_pos e] at n4; omega
  refine c7_ite (fun q => c7_ite (fun q => by omega) fun _ => c7_ite (fun _ => c7_2) fun n5 => c7_ite (fun _ => c7_7 (.inr ?_)) fun q => by omega) fun _ => c7_2
  refine ⟨by omega, by omega, ?_, ?_, ?_, ?_⟩
  · by_cases e : a = 240
    · rw [if_pos e] at n5; omega
    · rw [if_neg e] at n5; omega
  · by_cases e : a = 244
    · rw [if_pos e] at n5; omega
    · rw [if_neg e] at n5; omega
  · intro e; rw [if_pos e] at n5; omega
  · intro e; rw [if_pos e] at n5; omega
theorem cut_3 (a b c : Int) (h : (dec1 [a, b, c]).2.2 = 7) : 240 ≤ a ∧ a < 245 ∧ 128 ≤ b ∧ b ≤ 191 ∧ (a = 240 → 144 ≤ b) ∧ (a = 244 → b ≤ 143) ∧ 128 ≤ c ∧ c ≤ 191 := by
  refine (?_ : C7 _ (dec1 [a, b, c])) h
  unfold dec1 canon
  simp only [List.getD_cons_zero, List.getD_cons_succ, List.length_cons, List.length_nil]
  refine c7_ite (fun _ => c7_0) fun n1 => c7_ite (fun _ => c7_2) fun n2 => ?_
  refine c7_ite (fun q => c7_ite (fun q => by omega) fun _ => c7_ite (fun _ => c7_2) fun _ => c7_0) fun n3 => ?_
  refine c7_ite (fun q => c7_ite (fun q => by omega) fun _ => c7_ite (fun _ => c7_2) fun n4 => c7_ite (fun q => by omega) fun q => c7_ite (fun _ => c7_2) fun _ => c7_0) fun n4 => ?_
  refine c7_ite (fun q => c7_ite (fun q => by omega) fun _ => c7_ite (fun _ => c7_2) fun n5 => c7_ite (fun q => by omega) fun q => c7_ite (fun _ => c7_2) fun n6 => c7_ite (fun _ => c7_7 ?_) fun q => by omega) fun _ => c7_2
  refine ⟨by omega, by omega, ?_, ?_, ?_, ?_, by omega, by omega⟩
  · by_cases e : a = 240
    · rw [if_pos e] at n5; omega
    · rw [if_neg e] at n5; omega
  · by_cases e : a = 244
    · rw [if_pos e] at n5; omega
    · rw [if_neg e] at n5; omega
  · intro e; rw [if_pos e] at n5; omega
  · intro e; rw [if_pos e] at n5; omega
theorem cut_4 (L : List Int) (h : 4 ≤ L.length) : (dec1 L).2.2 ≠ 7 := by
  intro h7
  refine (?_ : C7 False (dec1 L)) h7
  unfold dec1 canon
  refine c7_ite (fun _ => c7_0) fun n1 => c7_ite (fun _ => c7_2) fun n2 => ?_
  refine c7_ite (fun q => c7_ite (fun q => by omega) fun _ => c7_ite (fun _ => c7_2) fun _ => c7_0) fun n3 => ?_
  refine c7_ite (fun q => c7_ite (fun q => by omega) fun _ => c7_ite (fun _ => c7_2) fun n4 => c7_ite (fun q => by omega) fun q => c7_ite (fun _ => c7_2) fun _ => c7_0) fun n4 => ?_
  exact c7_ite (fun q => c7_ite (fun q => by omega) fun _ => c7_ite (fun _ => c7_2) fun n5 => c7_ite (fun q => by omega) fun q => c7_ite (fun _ => c7_2) fun n6 => c7_ite (fun q => by omega) fun _ => c7_ite (fun _ => c7_2) fun _ => c7_0) fun _ => c7_2

/-- Bytes, few of them: they are cut off just where the search finds a rune. -/
theorem srch_iff (F : List Int) (h1 : 1 ≤ F.length) (h3 : F.length ≤ 3) : (∃ t, F.length < t ∧ t ≤ 4 ∧ Srch F t) ↔ (dec1 F).2.2 = 7 := by
  refine ⟨fun ⟨t, a, b, _, _, k, _, hk⟩ => hit_cut F t k h1 a hk, fun h => ?_⟩
  match F, h1, h3, h with
  | [a], _, _, h =>
    obtain ⟨q1, q2⟩ := cut_1 a h
    have ht : Tl [a] := fun i i1 i2 => by simp at i2; omega
    by_cases c1 : a < 224
    · exact ⟨2, by simp, by omega, ht, .inl ⟨rfl, by simp; omega, by simpa using c1⟩, 0, by omega, hit2 [a] 0 rfl (by simpa using q1) (by simpa using c1)⟩
    by_cases c2 : a < 240
    · exact ⟨3, by simp, by omega, ht, .inr (.inl ⟨rfl, by simp; omega, by simpa using c2⟩), hit3 a (by omega) c2⟩
    · exact ⟨4, by simp, by omega, ht, .inr (.inr ⟨rfl, by simp; omega, by simp; omega⟩), hit4 a (by omega) q2⟩
  | [a, b], _, _, h =>
    have ht : 128 ≤ b → b ≤ 191 → Tl [a, b] := fun b1 b2 i i1 i2 => by
      have : i = 1 := by simp at i2; omega
      subst this
      simp; omega
    rcases cut_2 a b h with ⟨q1, q2, q3, q4, q5, q6⟩ | ⟨q1, q2, q3, q4, q5, q6⟩
    · exact ⟨3, by simp, by omega, ht q3 q4, .inr (.inl ⟨rfl, by simpa using q1, by simpa using q2⟩), 0, by omega, hit32 a b q1 q2 q3 q4 q5 q6⟩
    · exact ⟨4, by simp, by omega, ht q3 q4, .inr (.inr ⟨rfl, by simpa using q1, by simp; omega⟩), 0, by omega, hit42 a b q1 q2 q3 q4 q5 q6⟩
  | [a, b, c], _, _, h =>
    obtain ⟨q1, q2, q3, q4, q5, q6, q7, q8⟩ := cut_3 a b c h
    have ht : Tl [a, b, c] := fun i i1 i2 => by
      have : i = 1 ∨ i = 2 := by simp at i2; omega
      rcases this with rfl | rfl
      · simp; omega
      · simp; omega
    exact ⟨4, by simp, by omega, ht, .inr (.inr ⟨rfl, by simpa using q1, by simp; omega⟩), 0, by omega, hit43 a b c q1 q2 q3 q4 q5 q6 q7 q8⟩
end Go.Proofs.Ytaoggciebkaakaa

/- The walk of the document's Put. -/
set_option linter.unusedSimpArgs false
set_option linter.unusedVariables false
namespace Go.Proofs.Ytaoggciebkaakaa
open Go.RowKit

def RefPutPost (w : World) (l : List Int) (e : Ending) (w' : World) : Prop := ∃ v, e = .returned v ∧ OwnB w' w.heap.size v l ∧ Below w.heap.size w w'

theorem refput_post (w : World) (ys : List Int) (cs : Array Value) (h : cs.toList = ys.map (Value.int .u8)) (hl : ys.length ≤ 10000) :
    RefPutPost w ys (.returned (.slice (some ⟨w.heap.size, 0, none⟩) ys.length ys.length)) (w.alloc (.cells cs 5)) := by
  refine ⟨_, rfl, ?_, (Below.refl _ w).alloc (Nat.le_refl _) _⟩
  unfold OwnB
  have := World.ownsRow_lit (base := w.heap.size) (e := 5) (size := 1) w cs ys.length (Nat.le_refl _) (by unfold maxLen; omega) (by rw [← Array.length_toList, h]; simp)
  rw [h] at this
  exact this

set_option maxHeartbeats 1000000 in
set_option maxRecDepth 100000 in
theorem refput1 (r : Int) (w : World) (h0 : 0 ≤ r) (h1 : r < 128) : Calls Try.prog 66 #[.int .i64 r] w (RefPutPost w [r]) := by
  go_enter Try.func66, Try.ntmps66
  go_wp2
  go_ret
  exact refput_post w [r] #[.int .u8 (r)] rfl (by simp)

set_option maxHeartbeats 1000000 in
set_option maxRecDepth 100000 in
theorem refput2 (r : Int) (w : World) (h0 : 128 ≤ r) (h1 : r < 2048) : Calls Try.prog 66 #[.int .i64 r] w (RefPutPost w [192 + r / 64, 128 + r % 64]) := by
  go_enter Try.func66, Try.ntmps66
  go_wp2
  go_ret
  exact refput_post w [192 + r / 64, 128 + r % 64] #[.int .u8 (192 + r / 64), .int .u8 (128 + r % 64)] rfl (by simp)

set_option maxHeartbeats 1000000 in
set_option maxRecDepth 100000 in
theorem refput3a (r : Int) (w : World) (h0 : 2048 ≤ r) (h1 : r < 55296) : Calls Try.prog 66 #[.int .i64 r] w (RefPutPost w [224 + r / 4096, 128 + r / 64 % 64, 128 + r % 64]) := by
  go_enter Try.func66, Try.ntmps66
  go_wp2
  go_ret
  exact refput_post w [224 + r / 4096, 128 + r / 64 % 64, 128 + r % 64] #[.int .u8 (224 + r / 4096), .int .u8 (128 + r / 64 % 64), .int .u8 (128 + r % 64)] rfl (by simp)

set_option maxHeartbeats 1000000 in
set_option maxRecDepth 100000 in
theorem refput3b (r : Int) (w : World) (h0 : 57343 < r) (h1 : r < 65536) : Calls Try.prog 66 #[.int .i64 r] w (RefPutPost w [224 + r / 4096, 128 + r / 64 % 64, 128 + r % 64]) := by
  go_enter Try.func66, Try.ntmps66
  go_wp2
  go_ret
  exact refput_post w [224 + r / 4096, 128 + r / 64 % 64, 128 + r % 64] #[.int .u8 (224 + r / 4096), .int .u8 (128 + r / 64 % 64), .int .u8 (128 + r % 64)] rfl (by simp)

set_option maxHeartbeats 1000000 in
set_option maxRecDepth 100000 in
theorem refput4 (r : Int) (w : World) (h0 : 65536 ≤ r) (h1 : r ≤ 1114111) : Calls Try.prog 66 #[.int .i64 r] w (RefPutPost w [240 + r / 262144, 128 + r / 4096 % 64, 128 + r / 64 % 64, 128 + r % 64]) := by
  go_enter Try.func66, Try.ntmps66
  go_wp2
  go_ret
  exact refput_post w [240 + r / 262144, 128 + r / 4096 % 64, 128 + r / 64 % 64, 128 + r % 64] #[.int .u8 (240 + r / 262144), .int .u8 (128 + r / 4096 % 64), .int .u8 (128 + r / 64 % 64), .int .u8 (128 + r % 64)] rfl (by simp)

set_option maxHeartbeats 1000000 in
set_option maxRecDepth 100000 in
theorem refputbad1 (r : Int) (w : World) (h0 : r < 0) : Calls Try.prog 66 #[.int .i64 r] w (RefPutPost w []) := by
  go_enter Try.func66, Try.ntmps66
  go_wp2
  go_ret
  exact ⟨_, rfl, World.ownsRow_nil _ _ _ _, Below.refl _ _⟩

set_option maxHeartbeats 1000000 in
set_option maxRecDepth 100000 in
theorem refputbad2 (r : Int) (w : World) (h0 : 1114111 < r) : Calls Try.prog 66 #[.int .i64 r] w (RefPutPost w []) := by
  go_enter Try.func66, Try.ntmps66
  go_wp2
  go_ret
  exact ⟨_, rfl, World.ownsRow_nil _ _ _ _, Below.refl _ _⟩

set_option maxHeartbeats 1000000 in
set_option maxRecDepth 100000 in
theorem refputbad3 (r : Int) (w : World) (h0 : 55296 ≤ r) (h1 : r ≤ 57343) : Calls Try.prog 66 #[.int .i64 r] w (RefPutPost w []) := by
  go_enter Try.func66, Try.ntmps66
  go_wp2
  go_ret
  exact ⟨_, rfl, World.ownsRow_nil _ _ _ _, Below.refl _ _⟩

theorem refput_any (r : Int) (w : World) : Calls Try.prog 66 #[.int .i64 r] w (RefPutPost w (refPut r)) := by
  by_cases hb : Bad r
  · rw [refPut, if_pos hb]
    rcases hb with h | h | ⟨h, h2⟩
    · exact refputbad1 r w h
    · exact refputbad2 r w h
    · exact refputbad3 r w h h2
  · rw [refPut, if_neg hb]
    unfold Bad at hb
    by_cases h1 : r < 128
    · rw [enc1 h1]; exact refput1 r w (by omega) h1
    by_cases h2 : r < 2048
    · rw [enc2 (by omega) h2]; exact refput2 r w (by omega) h2
    by_cases h3 : r < 55296
    · rw [enc3 (by omega) (by omega)]; exact refput3a r w (by omega) h3
    by_cases h4 : r < 65536
    · rw [enc3 (by omega) (by omega)]; exact refput3b r w (by omega) h4
    · rw [enc4 (by omega)]; exact refput4 r w (by omega) (by omega)
end Go.Proofs.Ytaoggciebkaakaa

/- The walk of the document's begins. -/
set_option linter.unusedSimpArgs false
set_option linter.unusedVariables false
namespace Go.Proofs.Ytaoggciebkaakaa
open Go.RowKit

theorem below_drewN {B : Nat} {w w' : World} (h : Below B w w') (n : Nat) : Below B w (w'.drewN n) := ⟨h.os, h.tape, h.output, h.size, h.block⟩
def begP (s : ByteArray) (a : Nat) (L : List Int) : Prop := 0 < L.length ∧ a + L.length ≤ s.size ∧ ∀ j, j < L.length → bt s (a + j) = L.getD j 0
def BegRel (s : ByteArray) (a : Nat) (L : List Int) (w : World) (i : Value) (wr : World) : Prop :=
  ∃ k : Nat, k ≤ L.length ∧ i = .int .i64 k ∧ (∀ j, j < k → bt s (a + j) = L.getD j 0) ∧ Below w.heap.size w wr
def BegPost (s : ByteArray) (a : Nat) (L : List Int) (w : World) (e : Ending) (w' : World) : Prop :=
  ∃ b : Bool, e = .returned (.bool b) ∧ (b = true ↔ begP s a L) ∧ Below w.heap.size w w'

set_option maxHeartbeats 1000000 in
set_option maxRecDepth 100000 in
theorem begins_post (s : ByteArray) (a : Nat) (A : Option Addr) (c : Nat) (L : List Int) (w : World) (h : Rd .u8 w w.heap.size A L) (hs : s.size ≤ 100000) (hL : L.length ≤ 100000) (ha : a ≤ 100000) :
    Calls Try.prog 67 #[.string s, .int .i64 a, .slice A L.length c] w (BegPost s a L w) := by
  obtain ⟨n, hn⟩ : ∃ n, n = L.length := ⟨_, rfl⟩
  rw [← hn]
  have HN := Lib.hid hn
  have hn1 : n ≤ L.length := by omega
  have hn2 : L.length ≤ n := by omega
  clear hn
  by_cases h0 : n = 0
  · have t0 : ((n : Int) == 0) = true := by simp; omega
    have HP : Hid (¬ begP s a L) := fun hp => by have := hp.1; omega
    clear h0
    go_enter Try.func67, Try.ntmps67
    go_wp2
    go_ret
    exact ⟨false, rfl, by simp; exact HP.out, Below.refl _ _⟩
  have t0 : ((n : Int) == 0) = false := by simp; omega
  by_cases h1 : s.size < a + n
  · have t1 : decide ((s.size : Int) < (a : Int) + (n : Int)) = true := by simp; omega
    have HP : Hid (¬ begP s a L) := fun hp => by have := hp.2.1; omega
    clear h0
    go_enter Try.func67, Try.ntmps67
    go_wp2
    go_ret
    exact ⟨false, rfl, by simp; exact HP.out, Below.refl _ _⟩
  have t1 : decide ((s.size : Int) < (a : Int) + (n : Int)) = false := by simp; omega
  have hfit : a + n ≤ s.size := by omega
  have hpos : 0 < n := by omega
  clear h0 h1
  go_enter Try.func67, Try.ntmps67
  go_wp2_with fail
  go_loopw [7] (fun i wr => BegRel s a L w i wr) (fun i _ => L.length - (intOf i).toNat)
  case atStart => exact ⟨0, Nat.zero_le _, rfl, fun j hj => by omega, Below.refl _ _⟩
  case round =>
    obtain ⟨k, hk, rfl, hall, hbel⟩ := hrel
    have HA := Lib.hid hall
    clear hall
    by_cases hlt : k < n
    · obtain ⟨b, off, rfl, hb, hc⟩ := (h.below hbel).at_ (j := k) (by omega)
      have hbe := bt_eq s (a + k) (by omega)
      have hi1 : (a : Int) + (k : Int) < (s.size : Int) := by omega
      have hi2 : (k : Int) < (n : Int) := by omega
      by_cases he : bt s (a + k) = L.getD k 0
      · have HR : Hid (∀ j, j < k + 1 → bt s (a + j) = L.getD j 0) := fun j hj => by
          rcases Nat.lt_or_ge j k with hj' | hj'
          · exact HA.out j hj'
          · obtain rfl : j = k := by omega
            exact he
        have te : ((s[a + k].toNat : Int) != L.getD k 0) = false := by rw [hbe]; simpa using he
        clear he hbe HA
        generalize L.getD k 0 = x at *
        go_wp2_with fail
        have q1 : (0 : Int) ≤ (a : Int) + (k : Int) := by omega
        have q3 : ((a : Int) + (k : Int)).toNat = a + k := by omega
        have q2 : IntKind.i64.wrap ((a : Int) + (k : Int)) = (a : Int) + (k : Int) := IntWalk.i64_in _ (by omega)
        go_quiet (fail)
        go_wp2
        go_roundw
        case rel =>
          exact ⟨k + 1, by omega, by go_num, HR.out, below_drewN hbel _⟩
        case measure => simp [intOf]; omega
      · have te : ((s[a + k].toNat : Int) != L.getD k 0) = true := by rw [hbe]; simpa using he
        have HP : Hid (¬ begP s a L) := fun hp => he (hp.2.2 k (by omega))
        clear he hbe
        generalize L.getD k 0 = x at *
        go_wp2_with fail
        have q1 : (0 : Int) ≤ (a : Int) + (k : Int) := by omega
        have q3 : ((a : Int) + (k : Int)).toNat = a + k := by omega
        have q2 : IntKind.i64.wrap ((a : Int) + (k : Int)) = (a : Int) + (k : Int) := IntWalk.i64_in _ (by omega)
        go_quiet (fail)
        go_wp2
        go_ret
        exact ⟨false, rfl, by simp; exact HP.out, below_drewN hbel _⟩
    · have HP : Hid (begP s a L) := ⟨by omega, by omega, fun j hj => HA.out j (by omega)⟩
      go_wp2
      go_ret
      exact ⟨true, rfl, by simp; exact HP.out, hbel⟩

theorem begins_yes (s : ByteArray) (a : Nat) (A : Option Addr) (c : Nat) (L : List Int) (w : World) (h : Rd .u8 w w.heap.size A L) (hs : s.size ≤ 100000) (hL : L.length ≤ 100000) (ha : a ≤ 100000) (hp : begP s a L) :
    Calls Try.prog 67 #[.string s, .int .i64 a, .slice A L.length c] w fun e w' => e = .returned (.bool true) ∧ Below w.heap.size w w' :=
  (begins_post s a A c L w h hs hL ha).mono fun e w' ⟨b, h1, h2, h3⟩ => ⟨by rw [h1, h2.2 hp], h3⟩
theorem begins_no (s : ByteArray) (a : Nat) (A : Option Addr) (c : Nat) (L : List Int) (w : World) (h : Rd .u8 w w.heap.size A L) (hs : s.size ≤ 100000) (hL : L.length ≤ 100000) (ha : a ≤ 100000) (hp : ¬ begP s a L) :
    Calls Try.prog 67 #[.string s, .int .i64 a, .slice A L.length c] w fun e w' => e = .returned (.bool false) ∧ Below w.heap.size w w' :=
  (begins_post s a A c L w h hs hL ha).mono fun e w' ⟨b, h1, h2, h3⟩ => ⟨by rw [h1, Bool.eq_false_iff.2 fun hb => hp (h2.1 hb)], h3⟩
end Go.Proofs.Ytaoggciebkaakaa

/- What the walk of the document's cut needs. -/
set_option linter.unusedSimpArgs false
set_option linter.unusedVariables false
namespace Go.Proofs.Ytaoggciebkaakaa
open Go.RowKit

def CutPost (F : List Int) (w : World) (e : Ending) (w' : World) : Prop :=
  ∃ b : Bool, e = .returned (.bool b) ∧ (b = true ↔ (dec1 F).2.2 = 7) ∧ Below w.heap.size w w'
def CutRel (F : List Int) (w : World) (t : Value) (wr : World) : Prop :=
  ∃ k : Nat, F.length < k ∧ k ≤ 5 ∧ t = .int .i64 k ∧ (∀ j, F.length < j → j < k → ¬ Srch F j) ∧ Below w.heap.size w wr
def LowRel (F : List Int) (t : Nat) (l h : Value) : Prop :=
  ∃ (j : Nat) (lo hi : ByteArray), F.length + j ≤ t ∧ l = .string lo ∧ h = .string hi ∧ byts lo = F ++ List.replicate j 128 ∧ byts hi = F ++ List.replicate j 191
theorem byts_app (a b : ByteArray) : byts (a ++ b) = byts a ++ byts b := by
  unfold byts
  rw [ByteArray.data_append, Array.toList_append, List.map_append]
theorem rep_snoc (j : Nat) (x : Int) : List.replicate j x ++ [x] = List.replicate (j + 1) x := by
  rw [List.replicate_succ']

theorem val_bt (s : ByteArray) (n : Nat) : valG (bt s) n n = valL (byts s) n := by
  unfold valL
  congr 1
  funext k
  exact bt_byts s k
theorem F_get {s : ByteArray} {a : Nat} {F : List Int} (h : F = (byts s).drop a) (k : Nat) (hk : a + k < s.size) : ((s[a + k]'hk).toNat : Int) = F.getD k 0 := by
  rw [bt_eq s (a + k) hk, bt_byts, h]
  simp [List.getD_eq_getElem?_getD, List.getElem?_drop]
theorem tl_step {F : List Int} {k : Nat} {c d : Bool} (hc : c = true ↔ ∀ j, 1 ≤ j → j < k → 128 ≤ F.getD j 0 ∧ F.getD j 0 ≤ 191) (hk : 1 ≤ k)
    (hd : d = true ↔ c = true ∧ 128 ≤ F.getD k 0 ∧ F.getD k 0 ≤ 191) : d = true ↔ ∀ j, 1 ≤ j → j < k + 1 → 128 ≤ F.getD j 0 ∧ F.getD j 0 ≤ 191 := by
  rw [hd, hc]
  refine ⟨fun ⟨h1, h2⟩ j j1 j2 => ?_, fun h => ⟨fun j j1 j2 => h j j1 (by omega), h k hk (by omega)⟩⟩
  rcases Nat.lt_or_ge j k with h | h
  · exact h1 j j1 h
  · obtain rfl : j = k := by omega
    exact h2
theorem F_get0 {s : ByteArray} {a : Nat} {F : List Int} (h : F = (byts s).drop a) (hk : a < s.size) : ((s[a]'hk).toNat : Int) = F.getD 0 0 := F_get h 0 hk
def TlRel (F : List Int) (b i : Value) : Prop :=
  ∃ (k : Nat) (c : Bool), 1 ≤ k ∧ k ≤ F.length ∧ i = .int .i64 k ∧ b = .bool c ∧ (c = true ↔ ∀ j, 1 ≤ j → j < k → 128 ≤ F.getD j 0 ∧ F.getD j 0 ≤ 191)

theorem stp_bd (j : Nat) : 1 ≤ stp j ∧ stp j ≤ 4161 := by unfold stp; repeat' split <;> omega
theorem stp_mul (j k : Nat) (hk : k ≤ 64) : 0 ≤ stp j * (k : Int) ∧ stp j * (k : Int) ≤ 300000 := by
  have h := stp_bd j
  refine ⟨Int.mul_nonneg (by omega) (by omega), ?_⟩
  have : stp j * (k : Int) ≤ 4161 * 64 := Int.mul_le_mul h.2 (by omega) (by omega) (by omega)
  omega
/-- What the search compares, where the lengths agree. -/
theorem begP_hit (q F : List Int) (h0 : NN q) (h1 : ∀ x ∈ q, x ≤ 255) (hF : 0 < F.length) (hlt : F.length < q.length) :
    begP (strOfNums q ++ ⟨#[120]⟩) 0 F ↔ q.take F.length = F := by
  have hb : byts (strOfNums q ++ (⟨#[120]⟩ : ByteArray)) = q ++ [120] := by rw [byts_app, byts_str q h0 h1]; rfl
  have hz : (strOfNums q ++ (⟨#[120]⟩ : ByteArray)).size = q.length + 1 := by rw [← byts_len, hb]; simp
  have hg : ∀ j, j < F.length → bt (strOfNums q ++ (⟨#[120]⟩ : ByteArray)) (0 + j) = q.getD j 0 := fun j hj => by
    rw [bt_byts, hb, Nat.zero_add]
    rw [List.getD_eq_getElem?_getD, List.getElem?_append_left (by omega), List.getD_eq_getElem?_getD]
  refine ⟨fun ⟨_, _, h⟩ => ?_, fun h => ⟨hF, by omega, fun j hj => ?_⟩⟩
  · refine List.ext_getElem (by rw [List.length_take]; omega) fun i i1 i2 => ?_
    have := h i i2
    rw [hg i i2] at this
    simp only [List.getD_eq_getElem?_getD, List.getElem?_eq_getElem i2, List.getElem?_eq_getElem (show i < q.length by omega), Option.getD_some] at this
    rw [List.getElem_take]
    exact this
  · rw [hg j hj]
    have := congrArg (fun l => l.getD j 0) h
    simp only [List.getD_eq_getElem?_getD, List.getElem?_take, hj, if_true] at this ⊢
    exact this
theorem begins0 (s : ByteArray) (A : Option Addr) (c m : Nat) (L : List Int) (w : World) (h : Rd .u8 w w.heap.size A L) (hs : s.size ≤ 100000) (hL : L.length ≤ 100000) (hm : m = L.length) (b : Bool) (hp : b = true ↔ begP s 0 L) :
    Calls Try.prog 67 #[.string s, .int .i64 0, .slice A m c] w fun e w' => e = .returned (.bool b) ∧ Below w.heap.size w w' := by
  subst hm
  cases b with
  | true => exact begins_yes s 0 A c L w h hs hL (by omega) (hp.1 rfl)
  | false => exact begins_no s 0 A c L w h hs hL (by omega) fun hq => by cases hp.2 hq
/-- The bytes that '[]byte(s)' lays. -/
theorem rd_bytes (w : World) (E : ByteArray) (c : Nat) (fr : Nat × Nat) : Rd .u8 (w.alloc (.cells (bytesRow E c) 5 fr)) (w.alloc (.cells (bytesRow E c) 5 fr)).heap.size (some ⟨w.heap.size, 0, none⟩) (byts E) := by
  refine .inr ⟨w.heap.size, 0, rfl, by simp, fun j hj => ?_⟩
  rw [Nat.zero_add]
  have := cell_of_row (w.alloc (.cells (bytesRow E c) 5 fr)) w.heap.size j (bytesRow E c) 5 fr (heap_alloc_new w _)
  rw [this]
  rw [byts_len] at hj
  have hj' : j < E.data.size := hj
  simp only [bytesRow, byts, Array.getElem?_append, List.getD_eq_getElem?_getD, Array.size_map, hj', if_true, Array.getElem?_map, List.getElem?_map, Array.getElem?_toList, Array.getElem?_eq_getElem hj', Option.map_some, Option.getD_some]
def SrRel (F : List Int) (t : Nat) (w : World) (i : Value) (wr : World) : Prop :=
  ∃ k : Nat, k ≤ 64 ∧ i = .int .i64 k ∧ (∀ j, j < k → ¬ Hit F t j) ∧ Below w.heap.size w wr
theorem no_more {F : List Int} {t : Nat} (h : ∀ j, F.length < j → j < t → ¬ Srch F j) (hn : ¬ Srch F t) : ∀ j, F.length < j → j < t + 1 → ¬ Srch F j := fun j j1 j2 => by
  rcases Nat.lt_or_ge j t with h' | h'
  · exact h j j1 h'
  · obtain rfl : j = t := by omega
    exact hn

theorem refPut_nn (r : Int) : NN (refPut r) ∧ ∀ x ∈ refPut r, x ≤ 255 := by
  by_cases h : Bad r
  · rw [refPut, if_pos h]
    exact ⟨fun x hx => by simp at hx, fun x hx => by simp at hx⟩
  · rw [refPut_ok h]
    exact encB_nn r h
theorem hit_more {F : List Int} {t k : Nat} (h : ∀ j, j < k → ¬ Hit F t j) (hn : ¬ Hit F t k) : ∀ j, j < k + 1 → ¬ Hit F t j := fun j j2 => by
  rcases Nat.lt_or_ge j k with h' | h'
  · exact h j h'
  · obtain rfl : j = k := by omega
    exact hn
end Go.Proofs.Ytaoggciebkaakaa
