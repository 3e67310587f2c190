/-
  Merged by program out of the texts SrItoa, EvLaw2, EvRows, TrMem, SrNum, SrNumb, SrBld of one seat.
-/
import Derived.Test.YtjboglpnpgghiaaDoorRows
import Derived.Test.YtjboglpnpgghiaaDoorG03
import Derived.Test.YtjboglpnpgghiaaDoorG01
import Derived.Test.YtjboglpnpgghiaaDoorG02
import Derived.Shelf.Strconv.Itoa3
import Derived.Lib.AppendIntMem
import Derived.Deep.Cut
import Derived.Laws.OwnMore
import Derived.OwnWalk
import Derived.Lib.OthersKept

/- The library's contract of strconv.Itoa, laid at this program (written by the kit's own two commands); seri.prefix; the document's digits. -/
set_option linter.unusedVariables false
set_option linter.unusedSimpArgs false
namespace Go.Proofs.YtjboglpnpgghiaaDoor.Ev
open Go.Shelf
def laysM171_ren : Go.Shelf.Ren := ⟨fun | 171 => 48 | 243 => 60 | 246 => 66 | 283 => 67 | 284 => 68 | 285 => 69 | 286 => 70 | 129 => 72 | 317 => 71 | 318 => 73 | 319 => 74 | 320 => 75 | 337 => 76 | 338 => 77 | n => n, fun | 3 => 3 | 9 => 9 | 2 => 2 | 4 => 4 | 171 => 98 | 0 => 0 | 53 => 99 | 37 => 39 | 5 => 5 | 173 => 102 | 212 => 106 | 51 => 107 | 20 => 20 | 213 => 108 | 46 => 85 | 232 => 111 | 233 => 112 | n => n, fun | 17 => 0 | 18 => 1 | 19 => 2 | n => n⟩
theorem laysM171 : Go.Proofs.LaysM.n171 Tryd.prog laysM171_ren := {
  mixed := by kernel_rfl
  f129 := Tryd.func72.trans (congrArg some (by kernel_rfl))
  f171 := Tryd.func48.trans (congrArg some (by kernel_rfl))
  f243 := Tryd.func60.trans (congrArg some (by kernel_rfl))
  f246 := Tryd.func66.trans (congrArg some (by kernel_rfl))
  f283 := Tryd.func67.trans (congrArg some (by kernel_rfl))
  f284 := Tryd.func68.trans (congrArg some (by kernel_rfl))
  f285 := Tryd.func69.trans (congrArg some (by kernel_rfl))
  f286 := Tryd.func70.trans (congrArg some (by kernel_rfl))
  f317 := Tryd.func71.trans (congrArg some (by kernel_rfl))
  f318 := Tryd.func73.trans (congrArg some (by kernel_rfl))
  f319 := Tryd.func74.trans (congrArg some (by kernel_rfl))
  f320 := Tryd.func75.trans (congrArg some (by kernel_rfl))
  f337 := Tryd.func76.trans (congrArg some (by kernel_rfl))
  f338 := Tryd.func77.trans (congrArg some (by kernel_rfl))
  t0 := Tryd.underlying0
  a0 := Tryd.isAgg0
  z0 := Tryd.sizeOf0
  v0 := Tryd.zeroValue0
  t2 := Tryd.underlying2
  a2 := Tryd.isAgg2
  z2 := Tryd.sizeOf2
  v2 := Tryd.zeroValue2
  t3 := Tryd.underlying3
  a3 := Tryd.isAgg3
  z3 := Tryd.sizeOf3
  v3 := Tryd.zeroValue3
  t4 := Tryd.underlying4
  a4 := Tryd.isAgg4
  z4 := Tryd.sizeOf4
  v4 := Tryd.zeroValue4
  t5 := Tryd.underlying5
  a5 := Tryd.isAgg5
  z5 := Tryd.sizeOf5
  v5 := Tryd.zeroValue5
  t9 := Tryd.underlying9
  a9 := Tryd.isAgg9
  z9 := Tryd.sizeOf9
  v9 := Tryd.zeroValue9
  t20 := Tryd.underlying20
  a20 := Tryd.isAgg20
  z20 := Tryd.sizeOf20
  v20 := Tryd.zeroValue20
  t37 := Tryd.underlying39
  a37 := Tryd.isAgg39
  z37 := Tryd.sizeOf39
  v37 := Tryd.zeroValue39
  t46 := Tryd.underlying85
  a46 := Tryd.isAgg85
  z46 := Tryd.sizeOf85
  v46 := Tryd.zeroValue85
  t51 := Tryd.underlying107
  a51 := Tryd.isAgg107
  z51 := Tryd.sizeOf107
  v51 := Tryd.zeroValue107
  t53 := Tryd.underlying99
  a53 := Tryd.isAgg99
  z53 := Tryd.sizeOf99
  v53 := Tryd.zeroValue99
  t171 := Tryd.underlying98
  a171 := Tryd.isAgg98
  z171 := Tryd.sizeOf98
  v171 := Tryd.zeroValue98
  t173 := Tryd.underlying102
  a173 := Tryd.isAgg102
  z173 := Tryd.sizeOf102
  v173 := Tryd.zeroValue102
  t212 := Tryd.underlying106
  a212 := Tryd.isAgg106
  z212 := Tryd.sizeOf106
  v212 := Tryd.zeroValue106
  t213 := Tryd.underlying108
  a213 := Tryd.isAgg108
  z213 := Tryd.sizeOf108
  t232 := Tryd.underlying111
  a232 := Tryd.isAgg111
  z232 := Tryd.sizeOf111
  v232 := Tryd.zeroValue111
  t233 := Tryd.underlying112
  a233 := Tryd.isAgg112
  z233 := Tryd.sizeOf112
  v233 := Tryd.zeroValue112
  g17 := by kernel_rfl
  g18 := by kernel_rfl
  g19 := by kernel_rfl
  i0 := by kernel_rfl
  i2 := by kernel_rfl
  i3 := by kernel_rfl
  i4 := by kernel_rfl
  i5 := by kernel_rfl
  i9 := by kernel_rfl
  i20 := by kernel_rfl
  i37 := by kernel_rfl
  i46 := by kernel_rfl
  i51 := by kernel_rfl
  i53 := by kernel_rfl
  i171 := by kernel_rfl
  i173 := by kernel_rfl
  i212 := by kernel_rfl
  i232 := by kernel_rfl
  i233 := by kernel_rfl
  m17 := by kernel_rfl
  m18 := by kernel_rfl
  m19 := by kernel_rfl }
open Go.RowKit

/-- The table of tens. -/
def TbN : String := ((Rows.seriPrintsRow.laid)[2]?.getD (Rows.seriPrintsRow.func, .nil)).1
def TbI (W : World) : Prop := Lib.TabIs Tryd.prog W TbN .u64 Lib.pow10Tab
def TbB (B : Nat) (W : World) : Prop := Lib.TabBelow Tryd.prog B W TbN .u64 Lib.pow10Tab
theorem TbB.here {B : Nat} {W : World} (h : TbB B W) : TbI W := Lib.TabBelow.here h
theorem TbB.on {B : Nat} {W W' : World} (h : TbB B W) (hb : Below B W W') : TbB B W' := Lib.TabBelow.on h hb
theorem TbI.b {W : World} (h : TbI W) : TbB W.heap.size W := Lib.tabBelow_of_tabIs h
theorem TbI.keep {W W' : World} (h : TbI W) (hb : Below W.heap.size W W') : TbI W' := (h.b.on hb).here
theorem below_grow (w : World) (k : Nat) (os : Array Obj) : Below w.heap.size w (Sort.grow (w.drewN k) os) := by
  refine ⟨rfl, rfl, rfl, ?_, ?_⟩
  · simp [Sort.grow]
  · intro i hi
    simp [Sort.grow, Array.getElem?_append, hi]
theorem itoa_any (n : Nat) (hn : n < 1000) (w : World) (hT : TbI w) : Calls Tryd.prog 48 #[.int .i64 n] w fun e w' => (∃ O, e = .returned (.string O) ∧ byts O = dgB n) ∧ Below w.heap.size w w' := by
  refine (Any.strconv_Itoa laysM171 (n : Int) (by omega) (by omega) w hT).mono ?_
  rintro e w' ⟨rfl, k, os, rfl⟩
  refine ⟨⟨_, rfl, ?_⟩, below_grow w k os⟩
  unfold Lib.itoa
  rw [if_neg (by omega), Int.toNat_natCast]
  rfl
set_option maxHeartbeats 1000000 in
set_option maxRecDepth 100000 in
theorem prefix_any (n : Nat) (hn : n < 1000) (w : World) (hT : TbI w) : Calls Tryd.prog 39 #[.int .i64 n] w fun e w' => (∃ O, e = .returned (.string O) ∧ byts O = [110] ++ dgB n) ∧ Below w.heap.size w w' := by
  have C := Lib.hid (itoa_any n hn w hT)
  clear hT
  go_enter Tryd.func39, Tryd.ntmps39
  go_wp2_with fail
  refine C.out.mono ?_
  rintro e w1 ⟨⟨O, rfl, ho⟩, hb⟩
  have hs : O.size ≤ 3 := by rw [← byts_len, ho]; exact dgB_len hn
  have HO := Lib.hid ho
  clear ho C
  go_wp2
  go_ret
  refine ⟨⟨_, rfl, ?_⟩, hb⟩
  rw [byts_cat, HO.out]
  rfl
set_option maxHeartbeats 1000000 in
set_option maxRecDepth 100000 in
theorem dig_one (n : Nat) (hn : n < 10) (w : World) : Calls Tryd.prog 21 #[.int .i64 n] w fun e w' => (∃ O, e = .returned (.string O) ∧ byts O = dgB n) ∧ Below w.heap.size w w' := by
  have q1 : (n : Int) < 10 := by omega
  have q2 : IntKind.i64.wrap (48 + (n : Int)) = 48 + (n : Int) := IntWalk.i64_in _ (by omega)
  have q3 : IntKind.u8.wrap (48 + (n : Int)) = 48 + (n : Int) := by
    show (48 + (n : Int)) % 256 = 48 + (n : Int)
    omega
  have HC := Lib.hid (conv_rd (w := w.alloc (.cells #[.int .u8 (48 + (n : Int))] 5)) (B := w.heap.size + 1) (A := some ⟨w.heap.size, 0, none⟩) (l := [48 + (n : Int)]) (c := 1) (.inr ⟨w.heap.size, 0, rfl, Nat.lt_succ_self _, fun j hj => by
    have : j = 0 := by simpa using hj
    subst this
    rw [Lib.cell_of_heap (heap_alloc_new w _)]
    rfl⟩))
  have hc := HC.out
  have HB := Lib.hid ((Below.refl w.heap.size w).alloc (Nat.le_refl _) (.cells #[.int .u8 (48 + (n : Int))] 5))
  simp only [List.length_singleton] at hc
  go_enter Tryd.func21, Tryd.ntmps21
  go_wp2
  go_ret
  refine ⟨⟨_, rfl, ?_⟩, HB.out⟩
  rw [dgB_small hn, byts_str _ (fun x hx => by rw [List.mem_singleton.1 hx]; omega) (fun x hx => by rw [List.mem_singleton.1 hx]; omega)]
set_option maxHeartbeats 1000000 in
set_option maxRecDepth 100000 in
theorem dig_any : ∀ (k n : Nat) (w : World), n < 10 ^ (k + 1) → n < 1000 → Calls Tryd.prog 21 #[.int .i64 n] w fun e w' => (∃ O, e = .returned (.string O) ∧ byts O = dgB n) ∧ Below w.heap.size w w'
  | 0, n, w, h, _ => dig_one n (by omega) w
  | k + 1, n, w, h, h3 => by
    by_cases h1 : n < 10
    · exact dig_one n h1 w
    have q1 : ¬ (n : Int) < 10 := by omega
    have q2 : (n : Int).tdiv 10 = ((n / 10 : Nat) : Int) := by rw [Int.tdiv_eq_ediv_of_nonneg (by omega)]; omega
    have q3 : (n : Int).tmod 10 = ((n % 10 : Nat) : Int) := by rw [Int.tmod_eq_emod_of_nonneg (by omega)]; omega
    have C1 := Lib.hid (dig_any k (n / 10) w (by rw [Nat.pow_succ] at h; omega) (by omega))
    have C2 := Lib.hid (fun W => dig_one (n % 10) (Nat.mod_lt _ (by decide)) W)
    have HD := Lib.hid (dgB_big h1)
    have hz1 : (dgB (n / 10)).length ≤ 3 := dgB_len (by omega)
    have hz2 : (dgB (n % 10)).length ≤ 3 := dgB_len (by omega)
    have ha : n / 10 < 1000 := by omega
    have hb : n % 10 < 10 := by omega
    generalize n / 10 = a at *
    generalize n % 10 = b at *
    go_enter Tryd.func21, Tryd.ntmps21
    go_wp2_with fail
    refine C1.out.mono ?_
    rintro e w1 ⟨⟨O1, rfl, o1⟩, b1⟩
    go_wp2_with fail
    refine (C2.out w1).mono ?_
    rintro e w2 ⟨⟨O2, rfl, o2⟩, b2⟩
    have s1 : O1.size ≤ 3 := by rw [← byts_len, o1]; exact hz1
    have s2 : O2.size ≤ 3 := by rw [← byts_len, o2]; exact hz2
    have H1 := Lib.hid o1
    have H2 := Lib.hid o2
    have HB := Lib.hid (b1.trans (b2.mono b1.size))
    clear o1 o2 b1 b2 C1 C2
    go_wp2
    go_ret
    exact ⟨⟨_, rfl, by rw [byts_cat, H1.out, H2.out, HD.out]⟩, HB.out⟩
end Go.Proofs.YtjboglpnpgghiaaDoor.Ev

/- WordBegins (layer 9) over the contracts of what it calls. -/
set_option linter.unusedSimpArgs false
set_option linter.unusedVariables false
namespace Go.Proofs.YtjboglpnpgghiaaDoor.Ev
open Go.RowKit

theorem own_slice {e : TypeId} {z n : Nat} {w : World} {B : Nat} {v : Value} {xs : List Value} (h : w.ownsRow B e z v n xs) : ∃ A cap, v = .slice A n cap := by
  rcases h.2 with ⟨rfl, rfl⟩ | ⟨g, cap, cur, rfl, _⟩
  · exact ⟨none, 0, rfl⟩
  · exact ⟨_, cap, rfl⟩
theorem own_keep {e : TypeId} {z n : Nat} {w w' : World} {B : Nat} {v : Value} {xs : List Value} (h : w.ownsRow B e z v n xs) (hb : Below w.heap.size w w') : w'.ownsRow B e z v n xs := by
  refine ⟨h.1, ?_⟩
  rcases h.2 with hn | ⟨g, cap, cur, rfl, hB, hg, rest⟩
  · exact .inl hn
  · exact .inr ⟨g, cap, cur, rfl, hB, (hb.block _ (Array.getElem?_eq_some_iff.1 hg).1).trans hg, rest⟩
/-- The slice at A reads as these numbers. -/
def RdI (w : World) (A : Option Addr) (l : List Int) : Prop :=
  ∀ k x, l[k]? = some x → ∃ b off, A = some ⟨b, off, none⟩ ∧ b < w.heap.size ∧ w.cell? ⟨b, off + k, none⟩ = some (.int .i64 x)
theorem RdI.keep {w w' : World} {A : Option Addr} {l : List Int} (h : RdI w A l) (hb : Below w.heap.size w w') : RdI w' A l := fun k t hk => by
  obtain ⟨b, o, e, hlt, c0⟩ := h k t hk
  exact ⟨b, o, e, Nat.lt_of_lt_of_le hlt hb.size, (hb.cell (p := ⟨b, o + k, none⟩) hlt).trans c0⟩
theorem add_at (g k : Nat) : (⟨g, 0, none⟩ : Addr).add k = ⟨g, k, none⟩ := by
  cases k with
  | zero => rfl
  | succ j => simp [Addr.add]
theorem OwnI.rd {w : World} {B : Nat} {v : Value} {l : List Int} (h : OwnI w B v l) : ∃ A c, v = .slice A l.length c ∧ RdI w A l ∧ l.length ≤ maxLen := by
  have h' : w.ownsRow B 3 1 v l.length (l.map (Value.int .i64)) := h
  rcases h'.2 with ⟨rfl, h0⟩ | ⟨g, cap, cur, rfl, hB, hg, h4, h5, _⟩
  · refine ⟨none, 0, by rw [h0], fun k x hk => ?_, by omega⟩
    rw [List.eq_nil_of_length_eq_zero h0] at hk
    simp at hk
  · refine ⟨_, cap, rfl, fun k x hk => ⟨g, 0, rfl, (Array.getElem?_eq_some_iff.1 hg).1, ?_⟩, by omega⟩
    have := h'.cells rfl k (.int .i64 x) (by rw [List.getElem?_map, hk]; rfl)
    rw [add_at] at this
    rw [Nat.zero_add]
    exact this
end Go.Proofs.YtjboglpnpgghiaaDoor.Ev

/- Rows of events of the call's own: what is appended to them, what they read as; the document's Same of two that are alike. -/
set_option linter.unusedSimpArgs false
set_option linter.unusedVariables false
namespace Go.Proofs.YtjboglpnpgghiaaDoor.Ev
open Go.RowKit

section
variable {α : Type} {f : α → List Value} {z : Nat}
theorem cel_len (hz : ∀ x, (f x).length = z) (l : List α) : (l.flatMap f).length = l.length * z := by
  induction l with
  | nil => simp
  | cons x l ih => rw [List.flatMap_cons, List.length_append, hz, ih, List.length_cons, Nat.add_mul, Nat.one_mul, Nat.add_comm]
theorem cel_get (hz : ∀ x, (f x).length = z) : ∀ (l : List α) (k i : Nat) (t : α), l[k]? = some t → i < z → (l.flatMap f)[k * z + i]? = (f t)[i]?
  | [], k, i, t, h, _ => by simp at h
  | x :: l, 0, i, t, h, hi => by
    have : x = t := by simpa using h
    subst this
    rw [List.flatMap_cons, Nat.zero_mul, Nat.zero_add, List.getElem?_append_left (by rw [hz]; exact hi)]
  | x :: l, k + 1, i, t, h, hi => by
    have h' : l[k]? = some t := by simpa using h
    have e : (k + 1) * z + i - z = k * z + i := by rw [Nat.add_mul, Nat.one_mul]; omega
    rw [List.flatMap_cons, List.getElem?_append_right (by rw [hz, Nat.add_mul, Nat.one_mul]; omega), hz, e]
    exact cel_get hz l k i t h' hi
end
/-- An event, with its attributes' slice. -/
abbrev PE := RE × (Option Addr × Nat × Nat)
def peC (p : PE) : List Value := [.int .i64 p.1.kind, .string p.1.sp, .string p.1.lo, .slice p.2.1 p.2.2.1 p.2.2.2, .string p.1.tx]
def peL (l : List PE) : List Value := l.flatMap peC
theorem peC_len (p : PE) : (peC p).length = 5 := rfl
theorem peL_len (l : List PE) : (peL l).length = l.length * 5 := cel_len peC_len l
theorem peL_get (l : List PE) (k i : Nat) (p : PE) (h : l[k]? = some p) (hi : i < 5) : (peL l)[k * 5 + i]? = (peC p)[i]? := cel_get peC_len l k i p h hi
theorem peL_app (a b : List PE) : peL (a ++ b) = peL a ++ peL b := by unfold peL; simp
theorem peL_one (l : List PE) : ∀ u ∈ peL l, u.oneCell' = true := by
  intro u hu
  obtain ⟨p, _, hu⟩ := List.mem_flatMap.1 hu
  unfold peC at hu
  simp only [List.mem_cons, List.not_mem_nil, or_false] at hu
  rcases hu with rfl | rfl | rfl | rfl | rfl <;> rfl
/-- The attributes of these events stand in memory. -/
def PeO (W : World) (ps : List PE) : Prop := ∀ p ∈ ps, AttsIn W p.2.1 p.2.2.1 p.2.2.2 p.1.ats ∧ RSz p.1
theorem PeO.keep {W W' : World} {ps : List PE} (h : PeO W ps) (hb : Below W.heap.size W W') : PeO W' ps := fun p hp => ⟨(h p hp).1.keep hb, (h p hp).2⟩
theorem PeO.app {W : World} {a b : List PE} (h : PeO W a) (k : PeO W b) : PeO W (a ++ b) := fun p hp => (List.mem_append.1 hp).elim (h p) (k p)
/-- A row of the call's own reads as its events. -/
theorem own_evs {W : World} {B n c : Nat} {A : Option Addr} {ps : List PE} (h : W.ownsRow B 52 5 (.slice A n c) n (peL ps)) (hn : n = ps.length) (hO : PeO W ps) (h5 : n ≤ 4398046511104) : EvsIn W A n c (ps.map (·.1)) := by
  have hx : ∀ x ∈ ps.map (·.1), RSz x := fun x hx => by
    obtain ⟨p, hp, rfl⟩ := List.mem_map.1 hx
    exact (hO p hp).2
  rcases h.2 with ⟨q, h0⟩ | ⟨g, cap, cur, q, hB, hg, h1, h2, _⟩
  · injection q with q1 q2 q3
    subst q1 q2 q3
    refine ⟨by rw [List.length_map]; exact hn, Nat.zero_le _, Nat.zero_le _, hx, fun k x hk => ?_, fun _ => ⟨rfl, rfl⟩, ⟨Nat.le_refl _, Nat.zero_le _⟩⟩
    rw [List.eq_nil_of_length_eq_zero hn.symm] at hk
    simp at hk
  · injection q with q1 q2 q3
    subst q1 q3
    refine ⟨by rw [List.length_map]; exact hn, by omega, h5, hx, fun k x hk => ?_, (fun e => by cases e), ⟨h1, h2⟩⟩
    rw [List.getElem?_map] at hk
    obtain ⟨p, hp, rfl⟩ := Option.map_eq_some_iff.1 hk
    have hc : ∀ i, i < 5 → W.cell? ⟨g, k * 5 + i, none⟩ = (peC p)[i]? := fun i hi => by
      have g1 := peL_get ps k i p hp hi
      have hlt : i < (peC p).length := by rw [peC_len]; exact hi
      rw [List.getElem?_eq_getElem hlt] at g1 ⊢
      have := h.cells rfl _ _ g1
      rw [add_at] at this
      exact this
    refine ⟨g, 0, p.2.1, p.2.2.1, p.2.2.2, rfl, (Array.getElem?_eq_some_iff.1 hg).1, (hO p (List.mem_of_getElem? hp)).1, ?_, ?_, ?_, ?_, ?_⟩
    all_goals rw [Nat.zero_add]
    · exact hc 0 (by omega)
    · exact hc 1 (by omega)
    · exact hc 2 (by omega)
    · exact hc 3 (by omega)
    · exact hc 4 (by omega)
theorem EvsIn.take {W : World} {A : Option Addr} {n c k : Nat} {l : List RE} (h : EvsIn W A n c l) (hk : k ≤ n) : EvsIn W A k c (l.take k) :=
  ⟨by rw [List.length_take, ← h.len]; omega, by have := h.lsz; omega, by have := h.cnt; omega, fun x hx => h.xsz x (List.mem_of_mem_take hx), (fun j x hj => by
    rw [List.getElem?_take] at hj
    by_cases q : j < k
    · rw [if_pos q] at hj
      exact h.rd j x hj
    · rw [if_neg q] at hj
      cases hj), (fun e => ⟨by have := (h.nil e).1; omega, (h.nil e).2⟩), ⟨by have := h.cap.1; omega, h.cap.2⟩⟩
theorem attsNil (W : World) : AttsIn W none 0 0 [] := ⟨rfl, Nat.zero_le _, Nat.zero_le _, fun x hx => by simp at hx, fun j x hx => by simp at hx, fun _ => ⟨rfl, rfl⟩⟩
end Go.Proofs.YtjboglpnpgghiaaDoor.Ev

/- Trees in memory (layer 10): rows of trees, read; kept by what leaves their blocks alone. -/
set_option linter.unusedSimpArgs false
set_option linter.unusedVariables false
namespace Go.Proofs.YtjboglpnpgghiaaDoor.Ev
open Go.RowKit

/-- The slices of attributes whose blocks are all among these. -/
def AtP (P : Nat → Prop) (A : Option Addr) (n : Nat) : Prop := 0 < n → ∀ a, A = some a → P a.block
/-- The trees that stand in block b from there on; what they name lies in blocks among these. -/
def KsAt (P : Nat → Prop) (W : World) : Fo → Nat → Nat → Prop
  | .nil, _, _ => True
  | .cons t tx sp lo ats ks nx, b, off => (∃ Aa na ca Ak nk ck, (W.cell? ⟨b, off, none⟩ = some (.bool t) ∧ W.cell? ⟨b, off + 1, none⟩ = some (.string tx) ∧ W.cell? ⟨b, off + 2, none⟩ = some (.string sp) ∧ W.cell? ⟨b, off + 3, none⟩ = some (.string lo) ∧ W.cell? ⟨b, off + 4, none⟩ = some (.slice Aa na ca) ∧ W.cell? ⟨b, off + 5, none⟩ = some (.slice Ak nk ck)) ∧
      (tx.size ≤ maxLen ∧ sp.size ≤ maxLen ∧ lo.size ≤ maxLen) ∧ AttsIn W Aa na ca ats ∧ AtP P Aa na ∧
      (nk = ks.len ∧ nk ≤ 4398046511104 ∧ nk ≤ ck ∧ ck ≤ maxLen ∧ (Ak = none → nk = 0 ∧ ck = 0) ∧ (0 < nk → ∃ b' off', Ak = some ⟨b', off', none⟩ ∧ b' < W.heap.size ∧ P b' ∧ KsAt P W ks b' off'))) ∧ KsAt P W nx b (off + 6)
/-- A slice of trees. -/
def KsIn (P : Nat → Prop) (W : World) (ks : Fo) (A : Option Addr) (n c : Nat) : Prop :=
  n = ks.len ∧ n ≤ 4398046511104 ∧ n ≤ c ∧ c ≤ maxLen ∧ (A = none → n = 0 ∧ c = 0) ∧ (0 < n → ∃ b' off', A = some ⟨b', off', none⟩ ∧ b' < W.heap.size ∧ P b' ∧ KsAt P W ks b' off')
/-- One tree's parts. -/
structure Tr1 (P : Nat → Prop) (W : World) (tx sp lo : ByteArray) (ats : List P3) (ks : Fo) (Aa : Option Addr) (na ca : Nat) (Ak : Option Addr) (nk ck : Nat) : Prop where
  sz : tx.size ≤ maxLen ∧ sp.size ≤ maxLen ∧ lo.size ≤ maxLen
  at_ : AttsIn W Aa na ca ats
  ap : AtP P Aa na
  ks : KsIn P W ks Ak nk ck
/-- A tree's cells, from there on. -/
def Tc6 (W : World) (b off : Nat) (t : Bool) (tx sp lo : ByteArray) (Aa : Option Addr) (na ca : Nat) (Ak : Option Addr) (nk ck : Nat) : Prop :=
  W.cell? ⟨b, off, none⟩ = some (.bool t) ∧ W.cell? ⟨b, off + 1, none⟩ = some (.string tx) ∧ W.cell? ⟨b, off + 2, none⟩ = some (.string sp) ∧ W.cell? ⟨b, off + 3, none⟩ = some (.string lo) ∧ W.cell? ⟨b, off + 4, none⟩ = some (.slice Aa na ca) ∧ W.cell? ⟨b, off + 5, none⟩ = some (.slice Ak nk ck)
section
variable {P Q : Nat → Prop} {W W' : World}
theorem KsAt.head {t : Bool} {tx sp lo : ByteArray} {ats : List P3} {ks nx : Fo} {b off : Nat} (h : KsAt P W (.cons t tx sp lo ats ks nx) b off) : (∃ Aa na ca Ak nk ck, Tc6 W b off t tx sp lo Aa na ca Ak nk ck ∧ Tr1 P W tx sp lo ats ks Aa na ca Ak nk ck) ∧ KsAt P W nx b (off + 6) := by
  obtain ⟨⟨Aa, na, ca, Ak, nk, ck, h1, h2, h3, h4, h5⟩, h6⟩ := h
  exact ⟨⟨Aa, na, ca, Ak, nk, ck, h1, ⟨h2, h3, h4, h5⟩⟩, h6⟩
theorem KsAt.mk {t : Bool} {tx sp lo : ByteArray} {ats : List P3} {ks nx : Fo} {b off : Nat} {Aa : Option Addr} {na ca : Nat} {Ak : Option Addr} {nk ck : Nat} (h1 : Tc6 W b off t tx sp lo Aa na ca Ak nk ck) (h2 : Tr1 P W tx sp lo ats ks Aa na ca Ak nk ck) (h3 : KsAt P W nx b (off + 6)) : KsAt P W (.cons t tx sp lo ats ks nx) b off :=
  ⟨⟨Aa, na, ca, Ak, nk, ck, h1, h2.sz, h2.at_, h2.ap, h2.ks⟩, h3⟩
theorem KsAt.mono (hPQ : ∀ b, P b → Q b) : ∀ {f : Fo} {b off : Nat}, KsAt P W f b off → KsAt Q W f b off
  | .nil, _, _, _ => trivial
  | .cons t tx sp lo ats ks nx, b, off, h => by
    obtain ⟨⟨Aa, na, ca, Ak, nk, ck, h1, h2, h3, h4, h5, h6, h7, h8, h9, h10⟩, h11⟩ := h
    exact ⟨⟨Aa, na, ca, Ak, nk, ck, h1, h2, h3, fun h0 a e => hPQ _ (h4 h0 a e), h5, h6, h7, h8, h9, fun hn => by
      obtain ⟨b', off', e, hb, hp, hk⟩ := h10 hn
      exact ⟨b', off', e, hb, hPQ _ hp, KsAt.mono hPQ hk⟩⟩, KsAt.mono hPQ h11⟩
theorem cell_lt {p : Addr} {u : Value} (h : W.cell? p = some u) (hb : Below W.heap.size W W') : W'.cell? p = some u := (hb.cell (p := p) (Lib.lt_of_cell h)).trans h
theorem KsAt.keep (hb : Below W.heap.size W W') : ∀ {f : Fo} {b off : Nat}, KsAt P W f b off → KsAt P W' f b off
  | .nil, _, _, _ => trivial
  | .cons t tx sp lo ats ks nx, b, off, h => by
    obtain ⟨⟨Aa, na, ca, Ak, nk, ck, h1, h2, h3, h4, h5, h6, h7, h8, h9, h10⟩, h11⟩ := h
    exact ⟨⟨Aa, na, ca, Ak, nk, ck, ⟨cell_lt h1.1 hb, cell_lt h1.2.1 hb, cell_lt h1.2.2.1 hb, cell_lt h1.2.2.2.1 hb, cell_lt h1.2.2.2.2.1 hb, cell_lt h1.2.2.2.2.2 hb⟩, h2, h3.keep hb, h4, h5, h6, h7, h8, h9, fun hn => by
      obtain ⟨b', off', e, hlt, hp, hk⟩ := h10 hn
      exact ⟨b', off', e, Nat.lt_of_lt_of_le hlt hb.size, hp, KsAt.keep hb hk⟩⟩, KsAt.keep hb h11⟩
theorem KsIn.keep {f : Fo} {A : Option Addr} {n c : Nat} (h : KsIn P W f A n c) (hb : Below W.heap.size W W') : KsIn P W' f A n c :=
  ⟨h.1, h.2.1, h.2.2.1, h.2.2.2.1, h.2.2.2.2.1, fun hn => by
    obtain ⟨b', off', e, hlt, hp, hk⟩ := h.2.2.2.2.2 hn
    exact ⟨b', off', e, Nat.lt_of_lt_of_le hlt hb.size, hp, hk.keep hb⟩⟩
theorem KsIn.mono {f : Fo} {A : Option Addr} {n c : Nat} (hPQ : ∀ b, P b → Q b) (h : KsIn P W f A n c) : KsIn Q W f A n c :=
  ⟨h.1, h.2.1, h.2.2.1, h.2.2.2.1, h.2.2.2.2.1, fun hn => by
    obtain ⟨b', off', e, hlt, hp, hk⟩ := h.2.2.2.2.2 hn
    exact ⟨b', off', e, hlt, hPQ _ hp, hk.mono hPQ⟩⟩
theorem Tr1.keep {tx sp lo : ByteArray} {ats : List P3} {ks : Fo} {Aa : Option Addr} {na ca : Nat} {Ak : Option Addr} {nk ck : Nat} (h : Tr1 P W tx sp lo ats ks Aa na ca Ak nk ck) (hb : Below W.heap.size W W') : Tr1 P W' tx sp lo ats ks Aa na ca Ak nk ck := ⟨h.sz, h.at_.keep hb, h.ap, h.ks.keep hb⟩
theorem Tr1.mono {tx sp lo : ByteArray} {ats : List P3} {ks : Fo} {Aa : Option Addr} {na ca : Nat} {Ak : Option Addr} {nk ck : Nat} (hPQ : ∀ b, P b → Q b) (h : Tr1 P W tx sp lo ats ks Aa na ca Ak nk ck) : Tr1 Q W tx sp lo ats ks Aa na ca Ak nk ck := ⟨h.sz, h.at_, fun h0 a e => hPQ _ (h.ap h0 a e), h.ks.mono hPQ⟩
/-- A row that grows elsewhere. -/
theorem RdT.keepG {A : Option Addr} {l : List P3} {row : Option Nat} (h : RdT W A l) (hg : W.grownBy W' row) (hne : 0 < l.length → ∀ a, A = some a → some a.block ≠ row) : RdT W' A l := fun k x hk => by
  obtain ⟨b, o, e, hlt, c0, c1, c2⟩ := h k x hk
  have hn : some b ≠ row := hne (Nat.lt_of_le_of_lt (Nat.zero_le k) (List.getElem?_eq_some_iff.1 hk).1) _ e
  exact ⟨b, o, e, Nat.lt_of_lt_of_le hlt hg.size, hg.cell c0 hn, hg.cell c1 hn, hg.cell c2 hn⟩
theorem AttsIn.keepG {A : Option Addr} {n c : Nat} {l : List P3} {row : Option Nat} (h : AttsIn W A n c l) (hg : W.grownBy W' row) (hne : 0 < n → ∀ a, A = some a → some a.block ≠ row) : AttsIn W' A n c l := ⟨h.len, h.lsz, h.cnt, h.xsz, h.rd.keepG hg (fun h0 => hne (by rw [h.len]; exact h0)), h.nil⟩
theorem AttsIn.low {A : Option Addr} {n c : Nat} {l : List P3} (h : AttsIn W A n c l) : AtP (· < W.heap.size) A n := fun h0 a e => by
  obtain ⟨b, o, e', hlt, _⟩ := h.rd 0 _ (List.getElem?_eq_getElem (show 0 < l.length by rw [← h.len]; exact h0))
  rw [e] at e'
  injection e' with e'
  rw [e']
  exact hlt
theorem KsAt.grown {row : Option Nat} (hg : W.grownBy W' row) (hP : ∀ b, P b → some b ≠ row) : ∀ {f : Fo} {b off : Nat}, some b ≠ row → KsAt P W f b off → KsAt P W' f b off
  | .nil, _, _, _, _ => trivial
  | .cons t tx sp lo ats ks nx, b, off, hb, h => by
    obtain ⟨⟨Aa, na, ca, Ak, nk, ck, h1, h2, h3, h4, h5, h6, h7, h8, h9, h10⟩, h11⟩ := h
    exact ⟨⟨Aa, na, ca, Ak, nk, ck, ⟨hg.cell h1.1 hb, hg.cell h1.2.1 hb, hg.cell h1.2.2.1 hb, hg.cell h1.2.2.2.1 hb, hg.cell h1.2.2.2.2.1 hb, hg.cell h1.2.2.2.2.2 hb⟩, h2, h3.keepG hg (fun h0 a e => hP _ (h4 h0 a e)), h4, h5, h6, h7, h8, h9, fun hn => by
      obtain ⟨b', off', e, hlt, hp, hk⟩ := h10 hn
      exact ⟨b', off', e, Nat.lt_of_lt_of_le hlt hg.size, hp, KsAt.grown hg hP (hP _ hp) hk⟩⟩, KsAt.grown hg hP hb h11⟩
theorem KsIn.grown {row : Option Nat} (hg : W.grownBy W' row) (hP : ∀ b, P b → some b ≠ row) {f : Fo} {A : Option Addr} {n c : Nat} (h : KsIn P W f A n c) : KsIn P W' f A n c :=
  ⟨h.1, h.2.1, h.2.2.1, h.2.2.2.1, h.2.2.2.2.1, fun hn => by
    obtain ⟨b', off', e, hlt, hp, hk⟩ := h.2.2.2.2.2 hn
    exact ⟨b', off', e, Nat.lt_of_lt_of_le hlt hg.size, hp, hk.grown hg hP (hP _ hp)⟩⟩
theorem KsAt.drop : ∀ {k : Nat} {f : Fo} {b off : Nat}, KsAt P W f b off → KsAt P W (f.drop k) b (off + k * 6)
  | 0, f, b, off, h => by rw [Nat.zero_mul, Nat.add_zero]; exact h
  | k + 1, .nil, b, off, h => trivial
  | k + 1, .cons t tx sp lo ats ks nx, b, off, h => by
    have := KsAt.drop (k := k) h.2
    rw [show off + (k + 1) * 6 = off + 6 + k * 6 by omega]
    exact this
theorem KsAt.app : ∀ {f g : Fo} {b off : Nat}, KsAt P W f b off → KsAt P W g b (off + f.len * 6) → KsAt P W (f.app g) b off
  | .nil, g, b, off, _, h => by
    rw [Fo.len, Nat.zero_mul, Nat.add_zero] at h
    exact h
  | .cons t tx sp lo ats ks nx, g, b, off, h, h2 => by
    rw [Fo.len, show off + (nx.len + 1) * 6 = off + 6 + nx.len * 6 by omega] at h2
    exact ⟨h.1, KsAt.app h.2 h2⟩
/-- The k-th tree of a slice. -/
theorem KsIn.at_ {f : Fo} {A : Option Addr} {n c k : Nat} (h : KsIn P W f A n c) (hk : k < n) : ∃ t tx sp lo ats ks b off Aa na ca Ak nk ck, f.drop k = .cons t tx sp lo ats ks (f.drop (k + 1)) ∧ A = some ⟨b, off, none⟩ ∧ b < W.heap.size ∧ Tc6 W b (off + k * 6) t tx sp lo Aa na ca Ak nk ck ∧ Tr1 P W tx sp lo ats ks Aa na ca Ak nk ck := by
  obtain ⟨b, off, e, hlt, hp, hks⟩ := h.2.2.2.2.2 (by omega)
  obtain ⟨t, tx, sp, lo, ats, ks, e1, _⟩ := drop_cons (k := k) (f := f) (by rw [← h.1]; exact hk)
  have hd := hks.drop (k := k)
  rw [e1] at hd
  obtain ⟨⟨Aa, na, ca, Ak, nk, ck, h1, h2⟩, _⟩ := hd.head
  exact ⟨t, tx, sp, lo, ats, ks, b, off, Aa, na, ca, Ak, nk, ck, e1, e, hlt, h1, h2⟩
end
theorem ksNil (P : Nat → Prop) (W : World) : KsIn P W .nil none 0 0 := ⟨rfl, Nat.zero_le _, Nat.le_refl _, Nat.zero_le _, fun _ => ⟨rfl, rfl⟩, fun h => by omega⟩
end Go.Proofs.YtjboglpnpgghiaaDoor.Ev

/- The document's pair and number of layer 11. -/
set_option linter.unusedVariables false
set_option linter.unusedSimpArgs false
namespace Go.Proofs.YtjboglpnpgghiaaDoor.Ev
open Go.RowKit

theorem esc_byt (v : Bool) {c : Int} (h0 : 0 ≤ c) (h1 : c ≤ 255) : Byt (escB v c) := by
  unfold escB
  repeat' split
  all_goals
    intro x hx
    simp only [List.mem_cons, List.not_mem_nil, or_false] at hx
    omega
theorem escF_byt (v : Bool) : ∀ {l : List Int}, Byt l → Byt (escF v l)
  | [], _ => Byt.nil
  | c :: l, h => by
    unfold escF
    rw [List.flatMap_cons]
    have hc := h c List.mem_cons_self
    exact (esc_byt v hc.1 hc.2).app (escF_byt v fun x hx => h x (List.mem_cons_of_mem _ hx))
theorem byts_strB {l : List Int} (h : Byt l) : byts (strOfNums l) = l := byts_str _ (fun x hx => (h x hx).1) (fun x hx => (h x hx).2)
theorem byts_esc (v : Bool) (s : ByteArray) : byts (strOfNums (escF v (byts s))) = escF v (byts s) := byts_strB (escF_byt v (Byt.byts s))
/-- What a comparison with the two spaces that have no binding says. -/
structure SpK (s : ByteArray) (e x : Bool) : Prop where
  e1 : s.toList.isEmpty = e
  e2 : (s.toList == []) = e
  e3 : (s.toList != []) = !e
  x1 : (s.toList == [104, 116, 116, 112, 58, 47, 47, 119, 119, 119, 46, 119, 51, 46, 111, 114, 103, 47, 88, 77, 76, 47, 49, 57, 57, 56, 47, 110, 97, 109, 101, 115, 112, 97, 99, 101]) = x
  x2 : (s.toList != [104, 116, 116, 112, 58, 47, 47, 119, 119, 119, 46, 119, 51, 46, 111, 114, 103, 47, 88, 77, 76, 47, 49, 57, 57, 56, 47, 110, 97, 109, 101, 115, 112, 97, 99, 101]) = !x
theorem tl_inj {a b : ByteArray} (h : a.toList = b.toList) : a = b := by
  rw [Lib.toList_data, Lib.toList_data] at h
  cases a; cases b
  simp only [ByteArray.mk.injEq]
  exact Array.ext' h
theorem xml_list : xmlB.toList = [104, 116, 116, 112, 58, 47, 47, 119, 119, 119, 46, 119, 51, 46, 111, 114, 103, 47, 88, 77, 76, 47, 49, 57, 57, 56, 47, 110, 97, 109, 101, 115, 112, 97, 99, 101] := by rw [Lib.toList_data]; rfl
theorem em_lst : emB.toList = [] := by rw [Lib.toList_data]; rfl
theorem spK (s : ByteArray) : SpK s (decide (s = emB)) (decide (s = xmlB)) := by
  have h1 : (s.toList == []) = decide (s = emB) := by
    rw [Bool.eq_iff_iff, beq_iff_eq, decide_eq_true_eq]
    exact ⟨fun h => tl_inj (h.trans em_lst.symm), fun h => by rw [h]; exact em_lst⟩
  have h2 : (s.toList == [104, 116, 116, 112, 58, 47, 47, 119, 119, 119, 46, 119, 51, 46, 111, 114, 103, 47, 88, 77, 76, 47, 49, 57, 57, 56, 47, 110, 97, 109, 101, 115, 112, 97, 99, 101]) = decide (s = xmlB) := by
    rw [Bool.eq_iff_iff, beq_iff_eq, decide_eq_true_eq]
    exact ⟨fun h => tl_inj (h.trans xml_list.symm), fun h => by rw [h]; exact xml_list⟩
  refine ⟨?_, h1, ?_, h2, ?_⟩
  · rw [← h1]
    cases s.toList <;> rfl
  · rw [bne, h1]
  · rw [bne, h2]
/-- The three kinds of spaces. -/
theorem sp_cases (s : ByteArray) : (s = emB ∧ okS s = false ∧ SpK s true false) ∨ (s = xmlB ∧ okS s = false ∧ SpK s false true) ∨ (s ≠ emB ∧ s ≠ xmlB ∧ okS s = true ∧ SpK s false false) := by
  have h := spK s
  have hne : emB ≠ xmlB := by decide
  by_cases h1 : s = emB
  · have h2 : s ≠ xmlB := by rw [h1]; exact hne
    rw [decide_eq_true h1, decide_eq_false h2] at h
    refine .inl ⟨h1, ?_, h⟩
    unfold okS
    rw [decide_eq_false (fun q => q h1)]
    rfl
  by_cases h2 : s = xmlB
  · rw [decide_eq_false h1, decide_eq_true h2] at h
    refine .inr (.inl ⟨h2, ?_, h⟩)
    unfold okS
    rw [decide_eq_false (p := s ≠ xmlB) (fun q => q h2), Bool.and_false]
  · rw [decide_eq_false h1, decide_eq_false h2] at h
    exact .inr (.inr ⟨h1, h2, okS_iff.2 ⟨h1, h2⟩, h⟩)
theorem eq_dec (a b : ByteArray) : (a.toList == b.toList) = decide (a = b) := by
  rw [Bool.eq_iff_iff, beq_iff_eq, decide_eq_true_eq]
  exact ⟨tl_inj, fun h => by rw [h]⟩
theorem eq_yes {a b : ByteArray} (h : a = b) : (a.toList == b.toList) = true := by rw [eq_dec, decide_eq_true h]
theorem eq_no {a b : ByteArray} (h : a ≠ b) : (a.toList == b.toList) = false := by rw [eq_dec, decide_eq_false h]
theorem ne_yes {a b : ByteArray} (h : a ≠ b) : (a.toList != b.toList) = true := by rw [bne, eq_no h]; rfl
theorem ne_no {a b : ByteArray} (h : a = b) : (a.toList != b.toList) = false := by rw [bne, eq_yes h]; rfl
set_option maxHeartbeats 1000000 in
set_option maxRecDepth 100000 in
theorem pairD_any (n v : ByteArray) (w : World) (hn : n.size ≤ 1073741824) (hv : v.size ≤ 1048576) : Calls Tryd.prog 19 #[.string n, .string v] w fun e w' => (∃ O, e = .returned (.string O) ∧ byts O = prB (byts n) v) ∧ w = w' := by
  have C := Lib.hid (desc_any v true w hv)
  have HE := Lib.hid (byts_esc true v)
  have hl := escF_len true (byts v)
  rw [byts_len] at hl
  have hs : (strOfNums (escF true (byts v))).size ≤ 6 * v.size := by rw [← byts_len, HE.out]; exact hl
  have HP : Hid (prB (byts n) v = [32] ++ byts n ++ [61, 34] ++ escF true (byts v) ++ [34]) := Lib.hid rfl
  rw [HP.out]
  rw [← HE.out]
  clear HE HP hl
  generalize strOfNums (escF true (byts v)) = O at *
  go_enter Tryd.func19, Tryd.ntmps19
  go_wp2_with fail
  refine C.out.mono ?_
  rintro e w1 ⟨rfl, rfl⟩
  clear C
  go_wp2
  go_ret
  refine ⟨⟨_, rfl, ?_⟩, rfl⟩
  simp only [byts_cat]
  rfl
theorem bytL {l : List Int} (h : (l.all fun x => decide (0 ≤ x ∧ x ≤ 255)) = true) : Byt l := fun x hx => of_decide_eq_true (List.all_eq_true.1 h x hx)
theorem byt_dg (n : Nat) : Byt (dgB n) := fun x hx => by
  unfold dgB at hx
  obtain ⟨c, _, rfl⟩ := List.mem_map.1 hx
  have := c.toNat_lt
  omega
theorem byt_pr {n : List Int} (h : Byt n) (v : ByteArray) : Byt (prB n v) := by
  unfold prB
  exact Byt.app (Byt.app (Byt.app (Byt.app (bytL (by decide)) h) (bytL (by decide))) (escF_byt true (Byt.byts v))) (bytL (by decide))
theorem byt_nm (sp lo : ByteArray) : Byt (nmB sp lo) := by
  unfold nmB xpB
  split
  · exact Byt.app (bytL (by decide)) (Byt.byts lo)
  · exact Byt.byts lo
theorem byt_bd : ∀ (l : List ByteArray) (j : Nat), Byt (bdB j l)
  | [], _ => Byt.nil
  | s :: l, j => Byt.app (byt_pr (Byt.app (bytL (by decide)) (byt_dg j)) s) (byt_bd l (j + 1))
theorem byt_as (sp : List ByteArray) : ∀ l : List P3, Byt (asB sp l)
  | [] => Byt.nil
  | a :: l => Byt.app (byt_pr (by
      unfold aNm xpB
      split
      · exact Byt.byts _
      split
      · exact Byt.app (bytL (by decide)) (Byt.byts _)
      · exact Byt.app (Byt.app (Byt.app (bytL (by decide)) (byt_dg _)) (bytL (by decide))) (Byt.byts _)) a.2) (byt_as sp l)
theorem byt_hd (sp lo d : ByteArray) (ats : List P3) : Byt (hdB sp lo d ats) := by
  unfold hdB
  refine Byt.app (Byt.app (Byt.app (Byt.app (bytL (by decide)) (byt_nm sp lo)) ?_) (byt_bd _ _)) (byt_as _ _)
  split
  · exact byt_pr (Byt.byts _) _
  · exact Byt.nil
theorem byt_txB : ∀ (f : Fo) (d : ByteArray), Byt (txB f d)
  | .nil, _ => Byt.nil
  | .cons t tx sp lo ats ks nx, d => by
    rw [txB]
    refine Byt.app ?_ (byt_txB nx d)
    split
    · exact escF_byt false (Byt.byts tx)
    · refine Byt.app (byt_hd sp lo d ats) ?_
      split
      · exact bytL (by decide)
      · exact Byt.app (Byt.app (Byt.app (Byt.app (bytL (by decide)) (byt_txB ks _)) (bytL (by decide))) (byt_nm sp lo)) (bytL (by decide))
end Go.Proofs.YtjboglpnpgghiaaDoor.Ev

/- The document's number of layer 11. -/
set_option linter.unusedVariables false
set_option linter.unusedSimpArgs false
namespace Go.Proofs.YtjboglpnpgghiaaDoor.Ev
open Go.RowKit

theorem new_iff {l : List P3} {k : Nat} {u : ByteArray} : (okS u = true ∧ u ∉ spL (l.take k)) ↔ (okS u = true ∧ ∀ (q : Nat) (y : P3), q < k → l[q]? = some y → y.1.1 ≠ u) := by
  constructor
  · rintro ⟨h1, h2⟩
    refine ⟨h1, fun q y hq hy e => h2 (spL_mem.2 ⟨h1, y, ?_, e⟩)⟩
    exact List.mem_of_getElem? (i := q) (by rw [List.getElem?_take, if_pos hq]; exact hy)
  · rintro ⟨h1, h2⟩
    refine ⟨h1, fun h => ?_⟩
    obtain ⟨_, y, hy, e⟩ := spL_mem.1 h
    obtain ⟨q, hq⟩ := List.getElem?_of_mem hy
    rw [List.getElem?_take] at hq
    split at hq
    · exact h2 q y (by assumption) hq e
    · cases hq
def NuRel (l : List P3) (s : ByteArray) (n : Nat) (w : World) (vn vi : Value) (wr : World) : Prop :=
  w = wr ∧ ∃ k m : Nat, vi = .int .i64 k ∧ vn = .int .i64 m ∧ k ≤ n ∧ m ≤ k ∧ Hid (m = (spL (l.take k)).length ∧ ∀ (j : Nat) (y : P3), j < k → l[j]? = some y → y.1.1 ≠ s)
def NiRel (l : List P3) (u : ByteArray) (k : Nat) (w : World) (vf vi : Value) (wr : World) : Prop :=
  w = wr ∧ ∃ (j : Nat) (bo : Bool), vi = .int .i64 j ∧ vf = .bool bo ∧ j ≤ k ∧ Hid (bo = true ↔ okS u = true ∧ ∀ (q : Nat) (y : P3), q < j → l[q]? = some y → y.1.1 ≠ u)
theorem lt_cases {l : List P3} {j : Nat} {z : P3} {Q : P3 → Prop} (hz : l[j]? = some z) (h : ∀ (q : Nat) (y : P3), q < j → l[q]? = some y → Q y) (hq : Q z) : ∀ (q : Nat) (y : P3), q < j + 1 → l[q]? = some y → Q y := fun q y h1 h2 => by
  rcases Nat.lt_or_ge q j with g | g
  · exact h q y g h2
  · obtain rfl : q = j := by omega
    rw [hz] at h2
    injection h2 with h2
    rw [← h2]
    exact hq
set_option maxHeartbeats 4000000 in
set_option maxRecDepth 100000 in
theorem number_any (A : Option Addr) (n c : Nat) (l : List P3) (s : ByteArray) (w : World) (T : AttsIn w A n c l) (ho : okS s = true) (hm : ∃ y ∈ l, y.1.1 = s) :
    Calls Tryd.prog 20 #[.slice A n c, .string s] w fun e w' => e = .returned (.int .i64 (ixS (spL l) s)) ∧ w = w' := by
  have hn := T.cnt
  have HT := Lib.hid T
  have HM := Lib.hid hm
  have HO := Lib.hid ho
  clear T hm ho
  obtain ⟨ans, hans⟩ : ∃ a, a = ixS (spL l) s := ⟨_, rfl⟩
  rw [← hans]
  have HA := Lib.hid hans
  clear hans
  go_enter Tryd.func20, Tryd.ntmps20
  go_wp2_with fail
  go_loopw [5, 6, 7, 8, 9] (fun vn vi _ _ _ wr => NuRel l s n w vn vi wr) (fun _ i _ _ _ _ => n - (intOf i).toNat)
  case atStart => exact ⟨rfl, 0, 0, rfl, rfl, Nat.zero_le _, Nat.le_refl _, Lib.hid ⟨rfl, fun j y h => by omega⟩⟩
  case round =>
    obtain ⟨rfl, k, m, rfl, rfl, hk, hmk, HR⟩ := hrel
    by_cases hlt : k < n
    · have k1 : (k : Int) < (n : Int) := by omega
      have k3 : (0 : Int) ≤ (k : Int) := by omega
      have hkl : k < l.length := by rw [← HT.out.len]; exact hlt
      have hx := List.getElem?_eq_getElem hkl
      obtain ⟨b, off, hA, hbl, c0, c1, c2⟩ := HT.out.rd k _ hx
      have HX := Lib.hid hx
      generalize l[k] = x at *
      subst hA
      obtain ⟨⟨u, xlo⟩, xv⟩ := x
      dsimp only at c0
      clear hx hkl hbl c1 c2
      by_cases hus : u = s
      · have f1 := eq_yes hus
        have HE : Hid (ans = m) := Lib.hid (by
          subst hus
          rw [HA.out, ixS_first HX.out HO.out, HR.out.1]
          exact (new_iff.2 ⟨HO.out, HR.out.2⟩).2)
        clear hus HR HX
        go_wp2_with fail
        go_ret
        exact ⟨by rw [HE.out]; rfl, rfl⟩
      · have f1 := eq_no hus
        have HN := Lib.hid (lt_cases (Q := fun y => y.1.1 ≠ s) HX.out HR.out.2 hus)
        clear hus
        rcases sp_cases u with ⟨-, ho, K⟩ | ⟨-, ho, K⟩ | ⟨-, -, ho, K⟩
        all_goals
          obtain ⟨e1, e2, e3, x1, x2⟩ := K
          simp only [Bool.not_true, Bool.not_false] at e3 x2
          have HU := Lib.hid ho
          clear ho
          go_wp2_with fail
          go_loopw [8, 9] (fun vf vi wr => NiRel l u k w vf vi wr) (fun _ i _ => k - (intOf i).toNat)
          case atStart => exact ⟨rfl, 0, _, rfl, rfl, Nat.zero_le _, Lib.hid (by rw [HU.out]; simp)⟩
          case round =>
            obtain ⟨rfl, j, bo, rfl, rfl, hj, HQ⟩ := hrel
            by_cases hjk : j < k
            · have j1 : (j : Int) < (k : Int) := by omega
              have j2 : (0 : Int) ≤ (j : Int) := by omega
              have j3 : (j : Int) < (n : Int) := by omega
              have hjl : j < l.length := by rw [← HT.out.len]; omega
              have hz := List.getElem?_eq_getElem hjl
              obtain ⟨b', off', e', hbl', d0, d1, d2⟩ := HT.out.rd j _ hz
              injection e' with e'
              injection e' with e1' e2' _
              subst e1' e2'
              have HZ := Lib.hid hz
              generalize l[j] = z at *
              obtain ⟨⟨zsp, zlo⟩, zv⟩ := z
              dsimp only at d0
              clear d1 d2 hbl' hz hjl
              by_cases hq : zsp = u
              · have f2 := eq_yes hq
                have HQ2 : Hid (false = true ↔ okS u = true ∧ ∀ (q : Nat) (y : P3), q < j + 1 → l[q]? = some y → y.1.1 ≠ u) := Lib.hid ⟨fun h => absurd h Bool.false_ne_true, fun h => absurd hq (h.2 j _ (Nat.lt_succ_self _) HZ.out)⟩
                clear hq HQ
                go_wp2_with fail
                go_roundw
                case rel => exact ⟨rfl, j + 1, false, by go_num, rfl, by omega, HQ2⟩
                case measure => simp only [intOf]; omega
              · have f2 := eq_no hq
                have HQ2 : Hid (bo = true ↔ okS u = true ∧ ∀ (q : Nat) (y : P3), q < j + 1 → l[q]? = some y → y.1.1 ≠ u) := Lib.hid (HQ.out.trans ⟨fun h => ⟨h.1, lt_cases (Q := fun y => y.1.1 ≠ u) HZ.out h.2 hq⟩, fun h => ⟨h.1, fun q y h1 h2 => h.2 q y (by omega) h2⟩⟩)
                clear hq HQ
                go_wp2_with fail
                go_roundw
                case rel => exact ⟨rfl, j + 1, bo, by go_num, rfl, by omega, HQ2⟩
                case measure => simp only [intOf]; omega
            · have j1 : ¬ (j : Int) < (k : Int) := by omega
              obtain rfl : j = k := by omega
              have HL := Lib.hid (spL_take HX.out)
              have HI := Lib.hid (HQ.out.trans (new_iff (l := l) (k := j) (u := u)).symm)
              clear HQ
              cases bo with
              | true =>
                have HR2 : Hid (m + 1 = (spL (l.take (j + 1))).length ∧ ∀ (q : Nat) (y : P3), q < j + 1 → l[q]? = some y → y.1.1 ≠ s) := Lib.hid ⟨by rw [HL.out, if_pos (HI.out.1 rfl), List.length_append, ← HR.out.1]; rfl, HN.out⟩
                clear HL HI HR
                go_wp2_with fail
                go_roundw
                case rel => exact ⟨rfl, j + 1, m + 1, by go_num, by go_num, by omega, by omega, HR2⟩
                case measure => simp only [intOf]; omega
              | false =>
                have HR2 : Hid (m = (spL (l.take (j + 1))).length ∧ ∀ (q : Nat) (y : P3), q < j + 1 → l[q]? = some y → y.1.1 ≠ s) := Lib.hid ⟨by rw [HL.out, if_neg (fun h => by cases HI.out.2 h), ← HR.out.1], HN.out⟩
                clear HL HI HR
                go_wp2_with fail
                go_roundw
                case rel => exact ⟨rfl, j + 1, m, by go_num, rfl, by omega, by omega, HR2⟩
                case measure => simp only [intOf]; omega
    · have hke : k = n := by omega
      obtain ⟨y, hy, e⟩ := HM.out
      obtain ⟨q, hq⟩ := List.getElem?_of_mem hy
      exact absurd e (HR.out.2 q y (by rw [hke, HT.out.len]; exact (List.getElem?_eq_some_iff.1 hq).1) hq)
end Go.Proofs.YtjboglpnpgghiaaDoor.Ev

/- The walks of strings.Builder's methods, at a builder that is a printer of the call's own. -/
set_option linter.unusedSimpArgs false
set_option linter.unusedVariables false
namespace Go.Proofs.YtjboglpnpgghiaaDoor.Ev
open Go.RowKit

theorem liesPrt : liesAt Tryd.prog Tryd.prog.depth 43 (2 / Tryd.prog.cellsOf 43) 0 41 1 = true := by kernel_rfl
/-- A printer in block b (one of the call's own: from B on) that holds the bytes bs; 'p': what its builder's own address is. -/
def PrtP (p : Value) (B b : Nat) (bs : List Int) (w : World) : Prop :=
  B ≤ b ∧ Byt bs ∧ ∃ x, w.heap[b]? = some (.cells #[p, x] 43 (0, 0)) ∧ OwnB w B x bs ∧ (bs = [] → x = .slice none 0 0)
def Prt (B b : Nat) (bs : List Int) (w : World) : Prop := PrtP (.pointer none) B b bs w ∨ PrtP (.pointer (some ⟨b, 0, none⟩)) B b bs w
/-- What a call leaves that writes into a printer. -/
structure FrP (B b : Nat) (w w' : World) : Prop where
  bel : Below B w w'
  oth : Lib.OthersKept 5 (some b) w w'
theorem FrP.refl (B b : Nat) (w : World) : FrP B b w w := ⟨Below.refl B w, Lib.OthersKept.refl 5 (some b) w⟩
theorem FrP.trans {B b : Nat} {w w1 w2 : World} (h : FrP B b w w1) (k : FrP B b w1 w2) : FrP B b w w2 := ⟨h.bel.trans k.bel, h.oth.trans k.oth⟩
theorem oth_of {B : Nat} {w w' : World} {b : Nat} (hb : Below w.heap.size w w') : Lib.OthersKept 5 (some b) w w' := fun k o hk _ _ => (hb.block k (Array.getElem?_eq_some_iff.1 hk).1).trans hk
theorem FrP.of {B b : Nat} {w w' : World} (hb : Below w.heap.size w w') (hB : B ≤ w.heap.size) : FrP B b w w' := ⟨hb.mono hB, oth_of (B := B) hb⟩
theorem FrP.blk {B b k : Nat} {w w' : World} {cs : Array Value} {T : TypeId} {fz : Nat × Nat} (h : FrP B b w w') (hk : w.heap[k]? = some (.cells cs T fz)) (hkb : k ≠ b) (hT : T ≠ 5) : w'.heap[k]? = some (.cells cs T fz) :=
  h.oth k _ hk (fun e => hkb (Option.some.inj e)) (fun c z e => hT (by injection e))
theorem Prt.one {B b : Nat} {bs : List Int} {w : World} (h : Prt B b bs w) : ∃ p, PrtP p B b bs w := by
  rcases h with h | h
  · exact ⟨_, h⟩
  · exact ⟨_, h⟩
theorem PrtP.lt {p : Value} {B b : Nat} {bs : List Int} {w : World} (h : PrtP p B b bs w) : b < w.heap.size := by
  obtain ⟨_, _, x, hb, _⟩ := h
  exact (Array.getElem?_eq_some_iff.1 hb).1
theorem Prt.lt {B b : Nat} {bs : List Int} {w : World} (h : Prt B b bs w) : b < w.heap.size := by
  obtain ⟨p, hp⟩ := h.one
  exact hp.lt
theorem PrtP.keep {p : Value} {B b : Nat} {bs : List Int} {w w' : World} (h : PrtP p B b bs w) (hb : Below w.heap.size w w') : PrtP p B b bs w' := by
  have hlt := h.lt
  obtain ⟨h1, h2, x, h3, h4, h5⟩ := h
  exact ⟨h1, h2, x, (hb.block b hlt).trans h3, own_keep h4 hb, h5⟩
theorem Prt.keep {B b : Nat} {bs : List Int} {w w' : World} (h : Prt B b bs w) (hb : Below w.heap.size w w') : Prt B b bs w' := by
  rcases h with h | h
  · exact .inl (h.keep hb)
  · exact .inr (h.keep hb)
/-- What 'var p printer' leaves. -/
theorem prt_new (w : World) (B : Nat) (hB : B ≤ w.heap.size) : Prt B w.heap.size [] (w.alloc (.cells #[.pointer none, .slice none 0 0] 43)) :=
  .inl ⟨hB, Byt.nil, .slice none 0 0, heap_alloc_new w _, World.ownsRow_nil _ _ _ _, fun _ => rfl⟩

set_option maxHeartbeats 1000000 in
set_option maxRecDepth 100000 in
theorem chkp_fresh (b : Nat) (w : World) (h0 : w.cell? ⟨b, 0, none⟩ = some (.pointer none)) (hsh : w.shape? b = some (43, 2)) (hfz : w.frozen? ⟨b, 0, none⟩ = false) :
    Calls Tryd.prog 36 #[.pointer (some ⟨b, 0, none⟩)] w fun e w' => e = .returned (.tuple #[]) ∧ w' = w.setCell ⟨b, 0, none⟩ (.pointer (some ⟨b, 0, none⟩)) := by
  obtain ⟨j, hj, hjs⟩ := Option.map_eq_some_iff.1 sizeBld
  go_enter Tryd.func36, Tryd.ntmps36
  go_wp2
  rw [Lib.run_to_unsafe w ⟨b, 0, none⟩ Tryd.underlying38 Tryd.underlying77 hj (by rw [hjs]; decide) hsh (Nat.zero_lt_succ 1)]
  simp only [Result.andThen]
  rw [Oper.upon_value]
  go_wp2
  rw [run_callFunc_extern Tryd.func46 (by kernel_rfl) (by kernel_rfl) (by kernel_rfl) (e := Extern.AbiNoEscape.same) (by kernel_rfl)]
  rw [Lib.run_noEscape]
  simp only [Result.andThen]
  rw [Oper.upon_value]
  go_wp2
  rw [Lib.run_from_unsafe w ⟨b, 0, none⟩ Tryd.underlying77 Tryd.underlying38 hj hsh liesPrt]
  simp only [Result.andThen]
  rw [Oper.upon_value]
  go_wp2
  go_end0
  exact ⟨rfl, rfl⟩

theorem chkp_any (B b : Nat) (bs : List Int) (w : World) (h : Prt B b bs w) :
    Calls Tryd.prog 36 #[.pointer (some ⟨b, 0, none⟩)] w fun e w' => e = .returned (.tuple #[]) ∧ PrtP (.pointer (some ⟨b, 0, none⟩)) B b bs w' ∧ FrP B b w w' := by
  rcases h with h | h
  · have hlt := h.lt
    obtain ⟨hB, hby, x, hb, hown, h0⟩ := h
    refine (chkp_fresh b w (by rw [Lib.cell_of_heap hb]; rfl) (by simp [World.shape?, hb]) (Lib.frozen_of_heap hb 0)).mono ?_
    rintro e w' ⟨rfl, rfl⟩
    refine ⟨rfl, ⟨hB, hby, x, ?_, ?_, h0⟩, ⟨(Below.refl B w).setCell (p := ⟨b, 0, none⟩) hB _, (Lib.OthersKept.refl 5 (some b) w).setCell ⟨b, 0, none⟩ rfl _⟩⟩
    · simp [World.setCell, Array.getElem?_modify, hb]
    · exact World.ownsRow.kept (row := some b) hown ⟨rfl, rfl, rfl, by simp [World.setCell], fun k _ hk => Below.heap_setCell _ _ _ _ (fun e => hk (by simp [e]))⟩ (Or.inr (Lib.ownBlock_ne hown hb (by decide)))
  · refine (chk_used b w ?_).mono ?_
    · obtain ⟨_, _, x, hb, _⟩ := h
      rw [Lib.cell_of_heap hb]; rfl
    · rintro e w' ⟨rfl, rfl⟩
      exact ⟨rfl, h, FrP.refl B b _⟩

/-- A new buffer laid into the builder. -/
theorem PrtP.put {p x x' : Value} {B b : Nat} {bs : List Int} {w : World} (hB : B ≤ b) (hby : Byt bs) (hb : w.heap[b]? = some (.cells #[p, x] 43 (0, 0))) (hown : OwnB w B x' bs) (hne : bs = [] → x' = .slice none 0 0) :
    PrtP p B b bs (w.setCell ⟨b, 1, none⟩ x') := by
  refine ⟨hB, hby, x', ?_, ?_, hne⟩
  · simp [World.setCell, Array.getElem?_modify, hb]
  · exact World.ownsRow.kept (row := some b) hown ⟨rfl, rfl, rfl, by simp [World.setCell], fun k _ hk => Below.heap_setCell _ _ _ _ (fun e => hk (by simp [e]))⟩ (Or.inr (Lib.ownBlock_ne hown hb (by decide)))
theorem own_kind {w : World} {B : Nat} {e : TypeId} {v : Value} {n : Nat} {xs : List Value} (h : w.ownsRow B e 1 v n xs) : ∀ g, v.ownBlock = some g → ∃ c fz, w.heap[g]? = some (.cells c e fz) := by
  intro g hg
  rcases h.2 with ⟨rfl, _⟩ | ⟨g', cap, cur, rfl, _, hgg, _⟩
  · simp [Value.ownBlock] at hg
  · simp [Value.ownBlock] at hg
    subst hg
    exact ⟨cur, _, hgg⟩

set_option maxHeartbeats 2000000 in
set_option maxRecDepth 100000 in
/-- WriteString, of whatever text. -/
theorem wpr_any (B b : Nat) (bs : List Int) (s : ByteArray) (w : World) (h : Prt B b bs w) (hB0 : B ≤ w.heap.size) (hl : bs.length + s.size ≤ 17592186044416) :
    Calls Tryd.prog 26 #[.pointer (some ⟨b, 0, none⟩), .string s] w fun e w' => e = .returned (.tuple #[.int .i64 s.size, .nilIface]) ∧ Prt B b (bs ++ byts s) w' ∧ FrP B b w w' := by
  obtain ⟨i0, hi, hz0, hz1, hz2⟩ := info_parts Tryd.info5
  go_enter Tryd.func26, Tryd.ntmps26
  go_wp2_with (go_at_call 36; refine (chkp_any B b bs _ h).mono ?_)
  rintro e w1 ⟨rfl, h1, hb1⟩
  have hlt := h1.lt
  obtain ⟨hB, hby, x, hbk, hown, hx0⟩ := h1
  have hne := Lib.ownBlock_ne hown hbk (by decide)
  have c0 : w1.cell? ⟨b, 0, none⟩ = some (.pointer (some ⟨b, 0, none⟩)) := by rw [Lib.cell_of_heap hbk]; rfl
  have c1 : w1.cell? ⟨b, 1, none⟩ = some x := by rw [Lib.cell_of_heap hbk]; rfl
  have hs1 := hb1.bel.size
  have HX0 := Lib.hid hx0
  clear hx0 h
  go_wp2_with (at_builtin; refine Lib.wpList_append_own_string _ rfl _ _ 39 9 rfl B 5 i0 Tryd.underlying39 Tryd.underlying9 hi hz0 hz1 hz2 _ _ _ rfl hown s rfl (by unfold maxLen; omega) (by omega) (by omega) ?_)
  intro v' w2 hown' hgrow hiff
  have HI := Lib.hid hiff
  clear hiff
  have hb2 : w2.heap[b]? = some (.cells #[.pointer (some ⟨b, 0, none⟩), x] 43 (0, 0)) := by
    rw [hgrow.block b hlt (fun e => hne e.symm)]
    exact hbk
  have d0 : w2.cell? ⟨b, 0, none⟩ = some (.pointer (some ⟨b, 0, none⟩)) := by rw [Lib.cell_of_heap hb2]; rfl
  have d1 : w2.cell? ⟨b, 1, none⟩ = some x := by rw [Lib.cell_of_heap hb2]; rfl
  have f1 : w2.frozen? ⟨b, 1, none⟩ = false := Lib.frozen_of_heap hb2 1
  obtain ⟨A, cap, rfl⟩ : ∃ A cap, v' = .slice A (bs.length + s.size) cap := by
    rcases hown'.2 with ⟨h1, h0⟩ | ⟨g, cap, cur, hv, _⟩
    · exact ⟨none, 0, by rw [h1, h0]⟩
    · exact ⟨_, cap, hv⟩
  have R : OwnB w2 B (.slice A (bs.length + s.size) cap) (bs ++ byts s) := by
    unfold OwnB
    rw [List.map_append, List.length_append, byts_len]
    have e : (byts s).map (Value.int .u8) = Lib.strCells s := by unfold byts; rw [List.map_map]; rfl
    rw [e]; exact hown'
  have FG := Lib.hid (PrtP.put hB (hby.app (Byt.byts s)) hb2 R (fun e => by
    have h0 := List.append_eq_nil_iff.1 e
    have hz : s.size = 0 := by rw [← byts_len, h0.2]; rfl
    exact HI.out.2 ⟨HX0.out h0.1, by first | exact hz | exact ByteArray.size_eq_zero_iff.1 hz | simpa using hz⟩))
  have FB : Hid (FrP B b w (w2.setCell ⟨b, 1, none⟩ (.slice A (bs.length + s.size) cap))) := Lib.hid ⟨(hb1.bel.grown hgrow (by omega) (fun k hk => (World.ownsRow.lt hown k hk).1)).setCell (p := ⟨b, 1, none⟩) hB (.slice A (bs.length + s.size) cap), (hb1.oth.grown hgrow (own_kind hown)).setCell ⟨b, 1, none⟩ rfl _⟩
  clear R hown' hgrow hown hb1
  go_wp2
  go_ret2
  exact ⟨rfl, .inr FG.out, FB.out⟩

set_option maxHeartbeats 2000000 in
set_option maxRecDepth 100000 in
theorem strp_some (B b : Nat) (p : Value) (bs : List Int) (w : World) (h : PrtP p B b bs w) (h0 : bs ≠ []) :
    Calls Tryd.prog 17 #[.pointer (some ⟨b, 0, none⟩)] w fun e w' => e = .returned (.string (strOfNums bs)) ∧ Below B w w' := by
  obtain ⟨hB, hby, x, hbk, hown, hx0⟩ := h
  clear hx0
  unfold OwnB at hown
  rw [strOf_eq]
  have hl : (bs.map fun x => UInt8.ofNat x.toNat).length = bs.length := by simp
  rw [strOf_cells hby, ← hl] at hown
  have hl0 : (bs.map fun x => UInt8.ofNat x.toNat) ≠ [] := by simpa using h0
  generalize (bs.map fun x => UInt8.ofNat x.toNat) = l at *
  clear hl h0 hby bs
  have hz0 : l.length ≠ 0 := by simpa using hl0
  obtain ⟨g, cap, cur, rfl, hbg, hg, hnc, hcm, hcs, htake⟩ : ∃ g cap cur, x = .slice (some ⟨g, 0, none⟩) l.length cap ∧ B ≤ g ∧ w.heap[g]? = some (.cells cur 5 (0, 0)) ∧ l.length ≤ cap ∧ cap ≤ maxLen ∧ cur.size = cap * 1 ∧ cur.toList.take (l.length * 1) = Lib.byteCells l := by
    rcases hown.2 with ⟨_, hz⟩ | ⟨g, cap, cur, hv, r⟩
    · exact absurd hz hz0
    · exact ⟨g, cap, cur, hv, r⟩
  have c1 : w.drew.cell? ⟨b, 1, none⟩ = some (.slice (some ⟨g, 0, none⟩) l.length cap) := by
    have : w.drew.heap[b]? = some (.cells #[p, .slice (some ⟨g, 0, none⟩) l.length cap] 43 (0, 0)) := hbk
    rw [Lib.cell_of_heap this]; rfl
  have hSD : (Builtin.unsafeSliceData_ #[39] 63 #[.slice (some ⟨g, 0, none⟩) l.length cap]).run Tryd.prog w.drew = .ok (.pointer (some ⟨g, 0, none⟩)) w.drew :=
    Lib.run_unsafeSliceData_row _ _ _ _ _ _ (by omega)
  have hUS : (Builtin.unsafeString_ #[63, 3] 9 #[.pointer (some ⟨g, 0, none⟩), .int .i64 l.length]).run Tryd.prog w.drew = .ok (.string ⟨l.toArray⟩) (w.drew.freeze ⟨g, 0, none⟩ l.length) := by
    refine Lib.run_unsafeString_row w.drew 63 3 9 5 Tryd.underlying63 cellsByte g cur.size (by have hg' : w.drew.heap[g]? = some (.cells cur 5 (0, 0)) := hg; simp [World.shape?, hg']) l hl0 (by omega) (by unfold maxLen at hcm; omega) ?_
    intro j y hy
    have := hown.cells (g := g) rfl j (.int .u8 y.toNat) (by simp [Lib.byteCells, hy])
    exact this
  go_enter Tryd.func17, Tryd.ntmps17
  go_wp2
  go_region
  all_goals (go_wp2; go_ret; exact ⟨rfl, Lib.below_freeze (Below.drew (Below.refl B w)) (p := ⟨g, 0, none⟩) hbg _⟩)

set_option maxHeartbeats 2000000 in
set_option maxRecDepth 100000 in
theorem strp_nil (B b : Nat) (p : Value) (w : World) (h : PrtP p B b [] w) :
    Calls Tryd.prog 17 #[.pointer (some ⟨b, 0, none⟩)] w fun e w' => e = .returned (.string ⟨#[]⟩) ∧ Below B w w' := by
  obtain ⟨hB, hby, x, hbk, hown, hx⟩ := h
  have hx := hx rfl
  subst hx
  have hUS : ∀ (W : World) (q : Option Addr), (Builtin.unsafeString_ #[63, 3] 9 #[.pointer q, .int .i64 0]).run Tryd.prog W = .ok (.string .empty) W := fun W q => Lib.run_unsafeString_none W _ _ _ q
  have c1 : w.drew.cell? ⟨b, 1, none⟩ = some (.slice none 0 0) := by
    have : w.drew.heap[b]? = some (.cells #[p, .slice none 0 0] 43 (0, 0)) := hbk
    rw [Lib.cell_of_heap this]; rfl
  have hSD : (Builtin.unsafeSliceData_ #[39] 63 #[.slice none 0 0]).run Tryd.prog w.drew = .ok (.pointer none) w.drew := rfl
  clear hown hby
  go_enter Tryd.func17, Tryd.ntmps17
  go_wp2
  go_region
  all_goals (go_wp2; go_ret; exact ⟨rfl, Below.drew (Below.refl B w)⟩)

theorem strp_any (B b : Nat) (bs : List Int) (w : World) (h : Prt B b bs w) :
    Calls Tryd.prog 17 #[.pointer (some ⟨b, 0, none⟩)] w fun e w' => e = .returned (.string (strOfNums bs)) ∧ Below B w w' := by
  obtain ⟨p, hp⟩ := h.one
  by_cases h0 : bs = []
  · subst h0
    have : strOfNums [] = ⟨#[]⟩ := by rw [strOf_eq]; rfl
    rw [this]
    exact strp_nil B b p w hp
  · exact strp_some B b p bs w hp h0
end Go.Proofs.YtjboglpnpgghiaaDoor.Ev
