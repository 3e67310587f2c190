/-
  Merged by program out of the texts TrTlM, TpAts, TpMem, TpCt, TpPlF, TpFsM, TpFsT, TpFsL of one seat.
-/
import Derived.Test.YtaoggciebkaakaaG04
import Derived.Test.YtaoggciebkaakaaG01
import Derived.Deep.AppendLies
import Derived.Deep.RegionHeld3
import Derived.Deep.RegionLaw

/- The loop of the document's Tree: what stands in memory. -/
set_option linter.unusedSimpArgs false
set_option linter.unusedVariables false
namespace Go.Proofs.Ytaoggciebkaakaa.Ev
open Go.RowKit

theorem own_ne2 {W : World} {B1 B2 z1 z2 n1 n2 : Nat} {e1 e2 : TypeId} {v1 v2 : Value} {xs1 xs2 : List Value} (h1 : W.ownsRow B1 e1 z1 v1 n1 xs1) (h2 : W.ownsRow B2 e2 z2 v2 n2 xs2) (hT : e1 ≠ e2) : v1.ownBlock = none ∨ v1.ownBlock ≠ v2.ownBlock := by
  rcases h1.2 with ⟨rfl, _⟩ | ⟨g, cap, cur, rfl, _, hg, _⟩
  · exact .inl rfl
  · right
    rcases h2.2 with ⟨rfl, _⟩ | ⟨g', cap', cur', rfl, _, hg', _⟩
    · simp [Value.ownBlock]
    · intro h
      simp only [Value.ownBlock, Option.some.injEq] at h
      subst h
      rw [hg] at hg'
      injection hg' with hg'
      injection hg' with _ h2 _
      exact hT h2
/-- Blocks that the loop does not write. -/
def Pk (B s : Nat) (v : Value) (W : World) (b : Nat) : Prop := (b < B ∨ s ≤ b) ∧ b < W.heap.size ∧ b ≠ s ∧ b ≠ s + 1 ∧ v.ownBlock ≠ some b
structure TL (B s : Nat) (w : World) (sp lo : ByteArray) (Aa : Option Addr) (na ca : Nat) (kv : Value) (pl : List Int) (f : Fo) (k : Nat) (v : Value) (wr : World) : Prop where
  own : ∃ vs, wr.ownsRow (s + 2) 30 6 v k vs ∧ KsV (Pk B s v wr) wr f vs
  box : wr.heap[s + 1]? = some (.cells #[.bool false, .string ⟨#[]⟩, .string sp, .string lo, .slice Aa na ca, v] 30 (0, 0))
  res : wr.heap[s]? = some (.cells #[.bool false, .string ⟨#[]⟩, .string ⟨#[]⟩, .string ⟨#[]⟩, .slice none 0 0, .slice none 0 0] 30 (0, 0))
  ints : OwnI wr (s + 2) kv pl
  bel : Below s w wr
  lt : s + 2 ≤ wr.heap.size
section
variable {B s k : Nat} {w wr : World} {sp lo : ByteArray} {Aa : Option Addr} {na ca : Nat} {kv v : Value} {pl : List Int} {f : Fo}
theorem Pk.mono {w' : World} (h : wr.heap.size ≤ w'.heap.size) {b : Nat} (hp : Pk B s v wr b) : Pk B s v w' b := ⟨hp.1, Nat.lt_of_lt_of_le hp.2.1 h, hp.2.2⟩
theorem TL.keep {w' : World} (h : TL B s w sp lo Aa na ca kv pl f k v wr) (hb : Below wr.heap.size wr w') : TL B s w sp lo Aa na ca kv pl f k v w' := by
  have hl := h.lt
  obtain ⟨vs, h1, h2⟩ := h.own
  exact ⟨⟨vs, own_keep h1 hb, h2.map fun t => (t.keep hb).mono fun b hp => hp.mono hb.size⟩, (hb.block _ (by omega)).trans h.box, (hb.block _ (by omega)).trans h.res, own_keep h.ints hb, h.bel.trans (hb.mono (by omega)), Nat.le_trans h.lt hb.size⟩
theorem froz_of {W : World} {b : Nat} {cs : Array Value} {T : TypeId} (h : W.heap[b]? = some (.cells cs T (0, 0))) (j : Nat) : W.frozen? ⟨b, j, none⟩ = false := by
  unfold World.frozen?
  rw [h]
  simp
theorem TL.child {n : Nat} {vs : List Value} {w5 w6 : World} (h : TL B s w sp lo Aa na ca kv pl f k v wr) (hB : B ≤ s) (ho : wr.ownsRow (s + 2) 30 6 v n vs) (hs : w5.heap.size ≤ w6.heap.size) {b : Nat} (hp : (b < B ∨ wr.heap.size ≤ b) ∧ b < w5.heap.size) : Pk B s v w6 b := by
  have hl := h.lt
  refine ⟨by omega, by omega, by omega, by omega, fun e => ?_⟩
  have := World.ownsRow.lt ho b e
  omega
theorem tree_one (u : Bool) (ux us ul : ByteArray) (u1 : Option Addr) (u2 u3 : Nat) (u4 : Option Addr) (u5 u6 : Nat) : ∀ x ∈ [Value.bool u, .string ux, .string us, .string ul, .slice u1 u2 u3, .slice u4 u5 u6], x.oneCell' = true := by
  intro x hx
  simp only [List.mem_cons, List.not_mem_nil, or_false] at hx
  rcases hx with rfl | rfl | rfl | rfl | rfl | rfl <;> rfl
/-- Behind the append: the row in a place that is known; the box not yet written. -/
theorem TL.put {w4 : World} {g cap : Nat} {u : Bool} {ux us ul : ByteArray} {ua : List P3} {uk : Fo} {u1 : Option Addr} {u2 u3 : Nat} {u4 : Option Addr} {u5 u6 : Nat} {vs : List Value}
    (h : TL B s w sp lo Aa na ca kv pl f k v wr) (hB : B ≤ s) (ho : wr.ownsRow (s + 2) 30 6 v k vs) (hk : KsV (Pk B s v wr) wr f vs) (hc : Tr1 (Pk B s v wr) wr ux us ul ua uk u1 u2 u3 u4 u5 u6)
    (n1 : w4.ownsRow (s + 2) 30 6 (.slice (some ⟨g, 0, none⟩) (k + 1) cap) (k + 1) (vs ++ [.bool u, .string ux, .string us, .string ul, .slice u1 u2 u3, .slice u4 u5 u6])) (n2 : wr.grownBy w4 v.ownBlock) (n3 : v.ownBlock = some g ∨ g = wr.heap.size) (n4 : g < w4.heap.size) :
    TL B s w sp lo Aa na ca kv pl (f.app (.cons u ux us ul ua uk .nil)) (k + 1) (.slice (some ⟨g, 0, none⟩) (k + 1) cap) (w4.setCell ⟨s + 1, 5, none⟩ (.slice (some ⟨g, 0, none⟩) (k + 1) cap)) := by
  have hl := h.lt
  have hv : ∀ j, v.ownBlock = some j → s + 2 ≤ j ∧ j < wr.heap.size := fun j hj => World.ownsRow.lt ho j hj
  have hg : s + 2 ≤ g := by
    rcases n3 with n3 | n3
    · exact (hv g n3).1
    · omega
  have hne : ∀ j, v.ownBlock = some j → j ≠ s + 1 ∧ j ≠ s := fun j hj => by have := hv j hj; omega
  have G2 : w4.grownBy (w4.setCell ⟨s + 1, 5, none⟩ (.slice (some ⟨g, 0, none⟩) (k + 1) cap)) (some (s + 1)) := grown_setCell w4 ⟨s + 1, 5, none⟩ (.slice (some ⟨g, 0, none⟩) (k + 1) cap)
  have hin : kv.ownBlock = none ∨ kv.ownBlock ≠ v.ownBlock := own_ne2 h.ints ho (by decide)
  have hsz := n2.size
  have hsz2 := G2.size
  have hP : ∀ b, Pk B s v wr b → Pk B s (.slice (some ⟨g, 0, none⟩) (k + 1) cap) (w4.setCell ⟨s + 1, 5, none⟩ (.slice (some ⟨g, 0, none⟩) (k + 1) cap)) b := fun b ⟨p1, p2, p3, p4, p5⟩ => ⟨p1, by omega, p3, p4, fun e => by
    have e : some g = some b := e
    injection e with e
    rcases n3 with n3 | n3
    · exact p5 (by rw [n3, e])
    · omega⟩
  have ht : ∀ {tx sp lo : ByteArray} {ats : List P3} {ks : Fo} {Aa : Option Addr} {na ca : Nat} {Ak : Option Addr} {nk ck : Nat}, Tr1 (Pk B s v wr) wr tx sp lo ats ks Aa na ca Ak nk ck → Tr1 (Pk B s (.slice (some ⟨g, 0, none⟩) (k + 1) cap) (w4.setCell ⟨s + 1, 5, none⟩ (.slice (some ⟨g, 0, none⟩) (k + 1) cap))) (w4.setCell ⟨s + 1, 5, none⟩ (.slice (some ⟨g, 0, none⟩) (k + 1) cap)) tx sp lo ats ks Aa na ca Ak nk ck := fun t =>
    ((t.grown n2 (fun b hp e => hp.2.2.2.2 e.symm)).grown G2 (fun b hp e => hp.2.2.2.1 (by injection e))).mono hP
  refine ⟨⟨_, World.ownsRow.kept (row := some (s + 1)) n1 G2 (.inr fun e => ?_), (hk.map ht).app ⟨u1, u2, u3, u4, u5, u6, [], by simp, ht hc, rfl⟩⟩, ?_, ?_, World.ownsRow.kept (row := some (s + 1)) (World.ownsRow.kept h.ints n2 ?_) G2 (.inr fun e => ?_), ?_, by omega⟩
  · have e : some g = some (s + 1) := e
    injection e with e
    omega
  · have hb4 : w4.heap[s + 1]? = some (.cells #[.bool false, .string ⟨#[]⟩, .string sp, .string lo, .slice Aa na ca, v] 30 (0, 0)) := (n2.block _ (by omega) (fun e => (hne _ e.symm).1 rfl)).trans h.box
    simp [World.setCell, Array.getElem?_modify, hb4]
  · exact (G2.block _ (by omega) (fun e => by injection e with e; omega)).trans ((n2.block _ (by omega) (fun e => (hne _ e.symm).2 rfl)).trans h.res)
  · exact hin
  · have := (World.ownsRow.lt (World.ownsRow.kept h.ints n2 hin) (s + 1) e).1
    omega
  · exact (h.bel.grown n2 (by omega) (fun j hj => by have := hv j hj; omega)).grown G2 (by have := h.bel.size; omega) (fun j hj => by injection hj with hj; omega)
end
def put6W (W : World) (s : Nat) (x0 x1 x2 x3 x4 x5 : Value) : World := (((((W.setCell ⟨s, 0, none⟩ x0).setCell ⟨s, 1, none⟩ x1).setCell ⟨s, 2, none⟩ x2).setCell ⟨s, 3, none⟩ x3).setCell ⟨s, 4, none⟩ x4).setCell ⟨s, 5, none⟩ x5
theorem put6 {W : World} {s : Nat} {a0 a1 a2 a3 a4 a5 : Value} {T : TypeId} (x0 x1 x2 x3 x4 x5 : Value) (h : W.heap[s]? = some (.cells #[a0, a1, a2, a3, a4, a5] T (0, 0))) :
    (put6W W s x0 x1 x2 x3 x4 x5).heap[s]? = some (.cells #[x0, x1, x2, x3, x4, x5] T (0, 0)) ∧ W.grownBy (put6W W s x0 x1 x2 x3 x4 x5) (some s) :=
  ⟨by simp [put6W, World.setCell, Array.getElem?_modify, h], (((((grown_setCell W ⟨s, 0, none⟩ x0).trans (grown_setCell _ ⟨s, 1, none⟩ x1)).trans (grown_setCell _ ⟨s, 2, none⟩ x2)).trans (grown_setCell _ ⟨s, 3, none⟩ x3)).trans (grown_setCell _ ⟨s, 4, none⟩ x4)).trans (grown_setCell _ ⟨s, 5, none⟩ x5)⟩
end Go.Proofs.Ytaoggciebkaakaa.Ev

/- tree.attributes: attributes that are new memory. -/
set_option linter.unusedSimpArgs false
set_option linter.unusedVariables false
namespace Go.Proofs.Ytaoggciebkaakaa.Ev
open Go.RowKit

theorem Try.info52 : (Try.prog.info? 52).map (fun i => (i.zero, i.size, i.bytes)) = some (some (.agg #[.string ⟨#[]⟩, .string ⟨#[]⟩, .string ⟨#[]⟩]), 3, 48) := by kernel_rfl
def atC (x : P3) : List Value := [.string x.1.1, .string x.1.2, .string x.2]
def atL (l : List P3) : List Value := l.flatMap atC
theorem atC_len (x : P3) : (atC x).length = 3 := rfl
theorem atL_get (l : List P3) (k i : Nat) (x : P3) (h : l[k]? = some x) (hi : i < 3) : (atL l)[k * 3 + i]? = (atC x)[i]? := cel_get atC_len l k i x h hi
theorem atL_snoc {l : List P3} {k : Nat} {x : P3} (h : l[k]? = some x) : atL (l.take (k + 1)) = atL (l.take k) ++ atC x := by
  unfold atL
  rw [List.take_add_one, h, List.flatMap_append]
  simp
theorem atL_one (x : P3) : ∀ u ∈ atC x, u.oneCell' = true := by
  intro u hu
  simp only [atC, List.mem_cons, List.not_mem_nil, or_false] at hu
  rcases hu with rfl | rfl | rfl <;> rfl
/-- Attributes whose strings can be copied. -/
def LimA (l : List P3) : Prop := ∀ x ∈ l, x.1.1.size ≤ LimS ∧ x.1.2.size ≤ LimS ∧ x.2.size ≤ LimS
set_option maxHeartbeats 8000000 in
set_option maxRecDepth 100000 in
theorem tattrs_any (A : Option Addr) (n c : Nat) (l : List P3) (w : World) (T : AttsIn w A n c l) (hn : n ≤ 100000) (hL : LimA l) :
    Calls Try.prog 38 #[.slice A n c] w fun e w' => ∃ v, e = .returned v ∧ w'.ownsRow w.heap.size 52 3 v n (atL l) ∧ Below w.heap.size w w' := by
  obtain ⟨i0, hi, hz0, hz1, hz2⟩ := info_parts Try.info52
  have HT := Lib.hid T
  have HL := Lib.hid hL
  clear T hL
  go_enter Try.func38, Try.ntmps38
  go_wp2_with fail
  go_loopw [3, 8] (fun v i wr => ∃ k : Nat, i = .int .i64 k ∧ k ≤ n ∧ Hid (wr.ownsRow w.heap.size 52 3 v k (atL (l.take k))) ∧ Hid (Below w.heap.size w wr)) (fun _ i _ => n - (intOf i).toNat)
  case atStart => exact ⟨0, rfl, Nat.zero_le _, Lib.hid (World.ownsRow_nil _ _ _ _), Lib.hid (Below.refl _ _)⟩
  case round =>
    obtain ⟨k, rfl, hk, HO, HB⟩ := hrel
    by_cases hlt : k < n
    · have g1 : (k : Int) < (n : Int) := by omega
      have g0 : (0 : Int) ≤ (k : Int) := by omega
      have hkl : k < l.length := by rw [← HT.out.len]; exact hlt
      have hx := List.getElem?_eq_getElem hkl
      obtain ⟨b, off, hA, hbl, c0, c1, c2⟩ := (HT.out.keep HB.out).rd k _ hx
      obtain ⟨z0, z1, z2⟩ := HL.out _ (List.mem_of_getElem? hx)
      have HX := Lib.hid (atL_snoc hx)
      have H1 := Lib.hid (atL_one l[k])
      generalize l[k] = x at *
      obtain ⟨⟨xs, xl⟩, xv⟩ := x
      subst hA
      dsimp only at c0 c1 c2 z0 z1 z2
      obtain ⟨A3, c3, rfl⟩ := own_slice HO.out
      have HN : Hid (∀ W, Calls Try.prog 37 #[.agg #[.string xs, .string xl]] W fun e w' => e = .returned (.agg #[.string xs, .string xl]) ∧ Below W.heap.size W w') := Lib.hid fun W => tnamed_any xs xl W z0 z1
      have HV : Hid (∀ W, Calls Try.prog 36 #[.string xv] W fun e w' => e = .returned (.string xv) ∧ Below W.heap.size W w') := Lib.hid fun W => clone_any xv W z2
      have D0 : (wr.alloc (.cells #[.string xs, .string xl, .string xv] 52)).drew.cell? ⟨wr.heap.size, 0, none⟩ = some (.string xs) := cells_of (W := (wr.alloc (.cells #[.string xs, .string xl, .string xv] 52)).drew) (nblk wr 52 #[.string xs, .string xl, .string xv]) 0 rfl
      have D1 : (wr.alloc (.cells #[.string xs, .string xl, .string xv] 52)).drew.cell? ⟨wr.heap.size, 1, none⟩ = some (.string xl) := cells_of (W := (wr.alloc (.cells #[.string xs, .string xl, .string xv] 52)).drew) (nblk wr 52 #[.string xs, .string xl, .string xv]) 1 rfl
      have D2 : (wr.alloc (.cells #[.string xs, .string xl, .string xv] 52)).drew.cell? ⟨wr.heap.size, 2, none⟩ = some (.string xv) := cells_of (W := (wr.alloc (.cells #[.string xs, .string xl, .string xv] 52)).drew) (nblk wr 52 #[.string xs, .string xl, .string xv]) 2 rfl
      have DB : Hid (Below wr.heap.size wr (wr.alloc (.cells #[.string xs, .string xl, .string xv] 52)).drew) := Lib.hid ((Below.refl _ wr).alloc (Nat.le_refl _) _).drew
      have DZ : wr.heap.size < (wr.alloc (.cells #[.string xs, .string xl, .string xv] 52)).drew.heap.size := by show _ < (wr.alloc _).heap.size; simp
      clear z0 z1 z2 hx hkl
      go_wp2_with fail
      go_region_law (first
          | (refine step_append_lies _ (by rfl) (.tmp 12) (.tmp 20) 27 (by rfl) w.heap.size 52 i0 (.agg #[.string ⟨#[]⟩, .string ⟨#[]⟩, .string ⟨#[]⟩]) 3 48 Try.underlying27 hi hz0 hz1 hz2 rfl (by decide) (.slice A3 k c3) k (atL (l.take k)) (by simp [Act.eval, Act.put]) o6.out ⟨w6.heap.size, 0, none⟩ 1 1 (atC ((xs, xl), xv)) (by simp [Act.eval, Act.put]) rfl N6.out H1.out (by decide) (by unfold maxLen; omega) (by omega) (Nat.le_trans B6.out.size (Nat.le_refl _)) _ rfl ?_
             intro g cap w7 n1 n2 n3 n4
             have hlo : ∀ j, (Value.slice A3 k c3).ownBlock = some j → w.heap.size ≤ j := fun j hj => (World.ownsRow.lt o6.out j hj).1
             have O7 := Lib.hid n1
             have B7 := Lib.hid (B6.out.grown n2 B6.out.size hlo)
             clear n1 n2 n3 n4 hlo)
          | (go_simp; go_at_call 37; refine (HN.out _).mono ?_; rintro e w5 ⟨rfl, b5⟩
             have D2 : w5.cell? ⟨wr.heap.size, 2, none⟩ = some (.string xv) := (b5.cell (p := ⟨wr.heap.size, 2, none⟩) DZ).trans D2
             have B5 := Lib.hid (DB.out.trans (b5.mono DB.out.size))
             clear b5)
          | (go_simp; go_at_call 36; refine (HV.out _).mono ?_; rintro e w6 ⟨rfl, b6⟩
             have C6 := Lib.hid ((B5.out.trans (b6.mono B5.out.size)).trans (((Below.refl w6.heap.size w6).alloc (Nat.le_refl _) (.cells #[.string xs, .string xl, .string xv] 52)).mono (Nat.le_trans B5.out.size b6.size)))
             have o6 := Lib.hid (own_keep HO.out C6.out)
             have B6 := Lib.hid (HB.out.trans (C6.out.mono HB.out.size))
             have N6 : Hid (∀ (j : Nat) (u : Value), (atC ((xs, xl), xv))[j]? = some u → _) := Lib.hid (lit_cells w6 #[.string xs, .string xl, .string xv] 52)
             clear b6)
          | fail)
      all_goals
        go_wp2_with fail
        go_roundw
      all_goals
        first
          | exact ⟨k + 1, by go_num, by omega, Lib.hid (by rw [HX.out]; exact O7.out), B7⟩
          | (simp only [intOf]; omega)
    · have hke : k = n := by omega
      subst hke
      have g1 : ¬ (k : Int) < (k : Int) := by omega
      have HR : Hid (wr.ownsRow w.heap.size 52 3 u3 k (atL l)) := Lib.hid (by
        have h := HO.out
        rw [HT.out.len, List.take_length, ← HT.out.len] at h
        exact h)
      clear HO
      go_wp2
      go_ret
      exact ⟨_, rfl, HR.out, HB.out⟩
end Go.Proofs.Ytaoggciebkaakaa.Ev

/- Rows of events of the call's own, whose attributes are of the call's own too; trees in blocks below. -/
set_option linter.unusedSimpArgs false
set_option linter.unusedVariables false
namespace Go.Proofs.Ytaoggciebkaakaa.Ev
open Go.RowKit

section
variable {W W' : World} {B : Nat}
theorem RdT.keepB {A : Option Addr} {l : List P3} (h : RdT W A l) (hb : Below B W W') (hl : 0 < l.length → ∀ a, A = some a → a.block < B) : RdT W' A l := fun k x hk => by
  obtain ⟨b, o, e, hlt, c0, c1, c2⟩ := h k x hk
  have hn : b < B := hl (Nat.lt_of_le_of_lt (Nat.zero_le k) (List.getElem?_eq_some_iff.1 hk).1) _ e
  exact ⟨b, o, e, Nat.lt_of_lt_of_le hlt hb.size, (hb.cell (p := ⟨b, o + k * 3, none⟩) hn).trans c0, (hb.cell (p := ⟨b, o + k * 3 + 1, none⟩) hn).trans c1, (hb.cell (p := ⟨b, o + k * 3 + 2, none⟩) hn).trans c2⟩
theorem AttsIn.keepB {A : Option Addr} {n c : Nat} {l : List P3} (h : AttsIn W A n c l) (hb : Below B W W') (hl : AtP (· < B) A n) : AttsIn W' A n c l := ⟨h.len, h.lsz, h.cnt, h.xsz, h.rd.keepB hb (fun h0 => hl (by rw [h.len]; exact h0)), h.nil⟩
theorem KsAt.keepB (hb : Below B W W') : ∀ {f : Fo} {b off : Nat}, b < B → KsAt (· < B) W f b off → KsAt (· < B) W' f b off
  | .nil, _, _, _, _ => trivial
  | .cons t tx sp lo ats ks nx, b, off, hlt, h => by
    obtain ⟨⟨Aa, na, ca, Ak, nk, ck, h1, h2, h3, h4, h5, h6, h7, h8, h9, h10⟩, h11⟩ := h
    have hc : ∀ {j : Nat} {u : Value}, W.cell? ⟨b, j, none⟩ = some u → W'.cell? ⟨b, j, none⟩ = some u := fun {j u} e => (hb.cell (p := ⟨b, j, none⟩) hlt).trans e
    exact ⟨⟨Aa, na, ca, Ak, nk, ck, ⟨hc h1.1, hc h1.2.1, hc h1.2.2.1, hc h1.2.2.2.1, hc h1.2.2.2.2.1, hc h1.2.2.2.2.2⟩, h2, h3.keepB hb h4, h4, h5, h6, h7, h8, h9, fun hn => by
      obtain ⟨b', off', e, hlt', hp, hk⟩ := h10 hn
      exact ⟨b', off', e, Nat.lt_of_lt_of_le hlt' hb.size, hp, KsAt.keepB hb hp hk⟩⟩, KsAt.keepB hb hlt h11⟩
theorem KsIn.keepB {f : Fo} {A : Option Addr} {n c : Nat} (h : KsIn (· < B) W f A n c) (hb : Below B W W') : KsIn (· < B) W' f A n c :=
  ⟨h.1, h.2.1, h.2.2.1, h.2.2.2.1, h.2.2.2.2.1, fun hn => by
    obtain ⟨b', off', e, hlt, hp, hk⟩ := h.2.2.2.2.2 hn
    exact ⟨b', off', e, Nat.lt_of_lt_of_le hlt hb.size, hp, hk.keepB hb hp⟩⟩
theorem Tr1.keepB {tx sp lo : ByteArray} {ats : List P3} {ks : Fo} {Aa : Option Addr} {na ca : Nat} {Ak : Option Addr} {nk ck : Nat} (h : Tr1 (· < B) W tx sp lo ats ks Aa na ca Ak nk ck) (hb : Below B W W') : Tr1 (· < B) W' tx sp lo ats ks Aa na ca Ak nk ck := ⟨h.sz, h.at_.keepB hb h.ap, h.ap, h.ks.keepB hb⟩
/-- Attributes of the call's own, read. -/
theorem own_ats {base : Nat} {A : Option Addr} {n c : Nat} {l : List P3} (h : W.ownsRow base 52 3 (.slice A n c) n (atL l)) (hn : n = l.length) (hb : n ≤ 100000) (hl : LimA l) : AttsIn W A n c l := by
  refine ⟨hn, by unfold maxLen; omega, by omega, fun x hx => ?_, fun k x hk => ?_, fun e => ?_⟩
  · obtain ⟨a, b, c⟩ := hl x hx
    unfold LimS at a b c
    unfold maxLen
    omega
  · have hc : ∀ i, i < 3 → ∀ ad, A = some ad → W.cell? (ad.add (k * 3 + i)) = (atC x)[i]? := fun i hi ad e => by
      have g1 := atL_get l k i x hk hi
      have hlt : i < (atC x).length := by rw [atC_len]; exact hi
      rw [List.getElem?_eq_getElem hlt] at g1 ⊢
      exact (own_src h).2 ad e _ _ g1
    have hk1 := (List.getElem?_eq_some_iff.1 hk).1
    rcases h.2 with ⟨q, h0⟩ | ⟨g, cap, cur, q, hB, hg, _⟩
    · omega
    · injection q with q1 q2 q3
      have hlt := (Array.getElem?_eq_some_iff.1 hg).1
      have d0 := hc 0 (by omega) _ q1
      have d1 := hc 1 (by omega) _ q1
      have d2 := hc 2 (by omega) _ q1
      rw [add_at] at d0 d1 d2
      exact ⟨g, 0, q1, hlt, by rw [Nat.zero_add]; exact d0, by rw [Nat.zero_add]; exact d1, by rw [Nat.zero_add]; exact d2⟩
  · rcases h.2 with ⟨q, h0⟩ | ⟨g, cap, cur, q, _⟩
    · injection q with q1 q2 q3
      exact ⟨h0, q3⟩
    · injection q with q1 q2 q3
      rw [e] at q1
      cases q1
/-- An event whose strings can be copied. -/
structure RLim (x : RE) : Prop where
  tx : x.tx.size ≤ LimS
  sp : x.sp.size ≤ LimS
  lo : x.lo.size ≤ LimS
  cnt : x.ats.length ≤ 100000
  ats : LimA x.ats
theorem lim_sz {x : RE} (h : RLim x) : RSz x := by
  obtain ⟨a, b, c, _, _⟩ := h
  unfold LimS at a b c
  exact ⟨by unfold maxLen; omega, by unfold maxLen; omega, by unfold maxLen; omega⟩
/-- An event's attributes are of the call's own. -/
def PeOwn (W : World) (base : Nat) (p : PE) : Prop := W.ownsRow base 52 3 (.slice p.2.1 p.2.2.1 p.2.2.2) p.2.2.1 (atL p.1.ats) ∧ p.2.2.1 = p.1.ats.length ∧ RLim p.1
structure EvO (W : World) (base : Nat) (v : Value) (ps : List PE) : Prop where
  own : W.ownsRow base 38 5 v ps.length (peL ps)
  blk : ∀ p ∈ ps, PeOwn W base p
theorem EvO.peo {base : Nat} {v : Value} {ps : List PE} (h : EvO W base v ps) : PeO W ps := fun p hp => by
  obtain ⟨h1, h2, h3⟩ := h.blk p hp
  exact ⟨own_ats h1 h2 (by rw [h2]; exact h3.cnt) h3.ats, lim_sz h3⟩
theorem EvO.keep {base : Nat} {v : Value} {ps : List PE} (h : EvO W base v ps) (hb : Below W.heap.size W W') : EvO W' base v ps := ⟨own_keep h.own hb, fun p hp => ⟨own_keep (h.blk p hp).1 hb, (h.blk p hp).2⟩⟩
theorem EvO.low {base base' : Nat} {v : Value} {ps : List PE} (h : EvO W base v ps) (hb : base' ≤ base) : EvO W base' v ps := ⟨own_base h.own hb, fun p hp => ⟨own_base (h.blk p hp).1 hb, (h.blk p hp).2⟩⟩
theorem evoNil (W : World) (base : Nat) : EvO W base (.slice none 0 0) [] := ⟨World.ownsRow_nil _ _ _ _, fun p hp => by cases hp⟩
/-- Behind an append of one event whose attributes are of the call's own. -/
theorem EvO.put {base : Nat} {v v' : Value} {ps : List PE} {p : PE} (h : EvO W base v ps) (hp : PeOwn W base p) (n1 : W'.ownsRow base 38 5 v' (ps.length + 1) (peL ps ++ peC p)) (n2 : W.grownBy W' v.ownBlock) : EvO W' base v' (ps ++ [p]) := by
  refine ⟨?_, fun q hq => ?_⟩
  · rw [List.length_append, peL_app]
    simpa [peL] using n1
  · have hq2 : PeOwn W base q := by
      rcases List.mem_append.1 hq with hq | hq
      · exact h.blk q hq
      · rw [List.mem_singleton.1 hq]
        exact hp
    exact ⟨World.ownsRow.kept hq2.1 n2 (own_ne2 hq2.1 h.own (by decide)), hq2.2⟩
theorem EvO.evs {base : Nat} {A : Option Addr} {c : Nat} {ps : List PE} {n : Nat} (h : EvO W base (.slice A n c) ps) (hn : n = ps.length) (h5 : ps.length ≤ 4398046511104) : EvsIn W A n c (ps.map (·.1)) := by
  subst hn
  exact own_evs h.own rfl h.peo h5
end
end Go.Proofs.Ytaoggciebkaakaa.Ev

/- tree.children, tree.Count. -/
set_option linter.unusedSimpArgs false
set_option linter.unusedVariables false
namespace Go.Proofs.Ytaoggciebkaakaa.Ev
open Go.RowKit

/-- A text's children are none. -/
def kidV (t : Bool) (Ak : Option Addr) (nk ck : Nat) : Value := if t = true then .slice none 0 0 else .slice Ak nk ck
set_option maxRecDepth 100000 in
theorem children_any (t : Bool) (tx sp lo : ByteArray) (Aa : Option Addr) (na ca : Nat) (Ak : Option Addr) (nk ck : Nat) (w : World) :
    Calls Try.prog 32 #[.agg #[.bool t, .string tx, .string sp, .string lo, .slice Aa na ca, .slice Ak nk ck]] w fun e w' => e = .returned (kidV t Ak nk ck) ∧ Below w.heap.size w w' := by
  have HB := Lib.hid ((Below.refl w.heap.size w).alloc (Nat.le_refl _) (.cells #[.bool t, .string tx, .string sp, .string lo, .slice Aa na ca, .slice Ak nk ck] 30))
  cases t with
  | true =>
    go_enter Try.func32, Try.ntmps32
    go_wp2
    go_ret
    exact ⟨rfl, HB.out⟩
  | false =>
    go_enter Try.func32, Try.ntmps32
    go_wp2
    go_ret
    exact ⟨rfl, HB.out⟩
theorem cnt_siz : ∀ f : Fo, f.cnt ≤ f.siz
  | .nil => Nat.le_refl _
  | .cons t tx sp lo ats ks nx => by
    have h1 := cnt_siz ks
    have h2 := cnt_siz nx
    rw [Fo.cnt, Fo.siz]
    cases t
    · rw [if_neg (by decide)]; omega
    · rw [if_pos rfl]; omega
/-- A node's children: none of a text. -/
def kidF (t : Bool) (ks : Fo) : Fo := if t = true then .nil else ks
theorem cnt_one (t : Bool) (tx sp lo : ByteArray) (ats : List P3) (ks : Fo) : (Fo.cons t tx sp lo ats ks .nil).cnt = 1 + (kidF t ks).cnt := by
  unfold kidF
  rw [Fo.cnt]
  cases t
  · rw [if_neg (by decide), if_neg (by decide), Fo.cnt]; omega
  · rw [if_pos rfl, if_pos rfl, Fo.cnt]
/-- The children that children answers, in memory. -/
theorem kid_in {P : Nat → Prop} {W : World} {t : Bool} {ks : Fo} {Ak : Option Addr} {nk ck : Nat} (h : KsIn P W ks Ak nk ck) : ∃ A n c, kidV t Ak nk ck = .slice A n c ∧ KsIn P W (kidF t ks) A n c := by
  unfold kidV kidF
  cases t
  · exact ⟨Ak, nk, ck, by rw [if_neg (by decide)], by rw [if_neg (by decide)]; exact h⟩
  · exact ⟨none, 0, 0, by rw [if_pos rfl], by rw [if_pos rfl]; exact ksNil P W⟩
theorem siz_kidF (t : Bool) (ks : Fo) : (kidF t ks).siz ≤ ks.siz := by
  unfold kidF
  cases t
  · rw [if_neg (by decide)]; exact Nat.le_refl _
  · rw [if_pos rfl]; exact Nat.zero_le _
theorem cnt_take {f : Fo} {k : Nat} {t : Bool} {tx sp lo : ByteArray} {ats : List P3} {ks : Fo} {nx : Fo} (hk : k < f.len) (ed : f.drop k = .cons t tx sp lo ats ks nx) : (f.take (k + 1)).cnt = (f.take k).cnt + (Fo.cons t tx sp lo ats ks .nil).cnt := by
  obtain ⟨t', tx', sp', lo', ats', ks', e1, e2⟩ := drop_cons hk
  rw [ed] at e1
  injection e1 with e1 e4 e5 e6 e7 e8 e9
  subst e1 e4 e5 e6 e7 e8
  rw [e2, cnt_app]
theorem cnt_take_le (f : Fo) (k : Nat) : (f.take k).cnt ≤ f.cnt := by
  conv => rhs; rw [← take_drop_F k f]
  rw [cnt_app]
  omega
def CtC (N : Nat) : Prop := ∀ (t : Bool) (tx sp lo : ByteArray) (ats : List P3) (ks : Fo) (Aa : Option Addr) (na ca : Nat) (Ak : Option Addr) (nk ck : Nat) (P : Nat → Prop) (W : World), ks.siz < N → ks.siz ≤ 1000 → Tr1 P W tx sp lo ats ks Aa na ca Ak nk ck →
    Calls Try.prog 19 #[.agg #[.bool t, .string tx, .string sp, .string lo, .slice Aa na ca, .slice Ak nk ck]] W fun e w' => e = .returned (.int .i64 ((Fo.cons t tx sp lo ats ks .nil).cnt : Int)) ∧ Below W.heap.size W w'
set_option maxHeartbeats 4000000 in
set_option maxRecDepth 100000 in
theorem count_step (N : Nat) (hIH : Hid (CtC N)) : CtC (N + 1) := by
  intro t tx sp lo ats ks Aa na ca Ak nk ck P w hN h1 T
  obtain ⟨A, n, c, hv, hin⟩ := kid_in (t := t) T.ks
  have hs := siz_kidF t ks
  rw [cnt_one]
  have CC := Lib.hid (fun W => children_any t tx sp lo Aa na ca Ak nk ck W)
  rw [hv] at CC
  have B0 : Below w.heap.size w (w.alloc (.cells #[.bool t, .string tx, .string sp, .string lo, .slice Aa na ca, .slice Ak nk ck] 30)) := (Below.refl _ w).alloc (Nat.le_refl _) _
  have HB0 := Lib.hid B0
  have HK := Lib.hid hin
  have hnk : n ≤ 4398046511104 := hin.2.1
  have hnl : n = (kidF t ks).len := hin.1
  have hsz : (kidF t ks).siz ≤ 1000 := by omega
  have hsN : (kidF t ks).siz < N + 1 := by omega
  have hcs := cnt_siz (kidF t ks)
  clear T hin hv B0 hs hN h1
  generalize kidF t ks = f at *
  have HL := Lib.hid hnl
  clear hnl
  go_enter Try.func19, Try.ntmps19
  go_wp2_with fail
  refine (CC.out _).mono ?_
  rintro e w1 ⟨rfl, b1⟩
  have HB1 := Lib.hid (HB0.out.trans (b1.mono HB0.out.size))
  clear b1 CC HB0
  go_wp2_with fail
  go_loopw [3, 9] (fun v i wr => ∃ k m : Nat, v = .int .i64 m ∧ i = .int .i64 k ∧ k ≤ n ∧ m ≤ 1001 ∧ Hid (m = 1 + (f.take k).cnt) ∧ Hid (Below w.heap.size w wr)) (fun _ i _ => n - (intOf i).toNat)
  case atStart => exact ⟨0, 1, rfl, rfl, Nat.zero_le _, by omega, Lib.hid (by cases f <;> rfl), HB1⟩
  case round =>
    clear HB1
    obtain ⟨k, m, rfl, rfl, hk, hm, HM, HB⟩ := hrel
    by_cases hlt : k < n
    · have g1 : (k : Int) < (n : Int) := by omega
      have g0 : (0 : Int) ≤ (k : Int) := by omega
      obtain ⟨u, ux, us, ul, ua, uk, b1, o1, u1, u2, u3, u4, u5, u6, ed, rfl, hb1, x6, X⟩ := (HK.out.keep HB.out).at_ (k := k) hlt
      have hsk := siz_kid ed
      have BA : Hid (Below wr.heap.size wr (wr.alloc (.cells #[.bool u, .string ux, .string us, .string ul, .slice u1 u2 u3, .slice u4 u5 u6] 30))) := Lib.hid ((Below.refl _ wr).alloc (Nat.le_refl _) _)
      have CS := Lib.hid (hIH.out u ux us ul ua uk u1 u2 u3 u4 u5 u6 P (wr.alloc (.cells #[.bool u, .string ux, .string us, .string ul, .slice u1 u2 u3, .slice u4 u5 u6] 30)) (by omega) (by omega) (X.keep BA.out))
      have HT2 := Lib.hid (cnt_take (f := f) (k := k) (by rw [← HL.out]; exact hlt) ed)
      have hcl := cnt_take_le f (k + 1)
      rw [HT2.out] at hcl
      obtain ⟨x1, x2, x3, x4, x5, x7⟩ := x6
      clear X ed hb1
      generalize (Fo.cons u ux us ul ua uk .nil).cnt = z at *
      have hmz : m + z ≤ 1001 := by have := HM.out; omega
      go_wp2_with fail
      refine CS.out.mono ?_
      rintro e' w2 ⟨rfl, b2⟩
      have HB2 := Lib.hid ((HB.out.trans (BA.out.mono HB.out.size)).trans (b2.mono (Nat.le_trans HB.out.size BA.out.size)))
      have HM2 : Hid (m + z = 1 + (f.take (k + 1)).cnt) := Lib.hid (by rw [HT2.out, HM.out]; omega)
      have q3 : IntKind.i64.wrap ((m : Int) + (z : Int)) = (m : Int) + (z : Int) := by rw [IntWalk.i64_in _ (by omega)]
      clear CS b2 x1 x2 x3 x4 x5 x7 HM hcl
      go_wp2
      go_roundw
      case rel => exact ⟨k + 1, m + z, by go_num, by go_num, by omega, by omega, HM2, HB2⟩
      case measure => simp only [intOf]; omega
    · have g1 : ¬ (k : Int) < (n : Int) := by omega
      have HF : Hid (m = 1 + f.cnt) := Lib.hid (by
        have h := HM.out
        rw [show k = f.len by have := HL.out; omega, take_all] at h
        exact h)
      clear HM
      go_wp2
      go_ret
      exact ⟨by rw [show (1 : Int) + (f.cnt : Int) = (m : Int) by have := HF.out; omega]; rfl, HB.out⟩
theorem count_all : ∀ N, CtC N
  | 0 => fun t tx sp lo ats ks Aa na ca Ak nk ck P W h => by omega
  | N + 1 => count_step N (Lib.hid (count_all N))
end Go.Proofs.Ytaoggciebkaakaa.Ev

/- How the nodes of trees hang together, plain. -/
set_option linter.unusedSimpArgs false
set_option linter.unusedVariables false
namespace Go.Proofs.Ytaoggciebkaakaa.Ev
open Go.RowKit

/-- Parents, first children, next siblings, sizes, trees of the nodes of a row of trees, the first of which is node s. -/
def Fo.parL : Fo → Nat → Int → List Int
  | .nil, _, _ => []
  | .cons t _ _ _ _ ks nx, s, p => p :: ((if t = true then [] else ks.parL (s + 1) (s : Int)) ++ nx.parL (s + 1 + (if t = true then 0 else ks.cnt)) p)
def Fo.fstL : Fo → Nat → List Int
  | .nil, _ => []
  | .cons t _ _ _ _ ks nx, s => (if t = true ∨ ks.len = 0 then -1 else (s : Int) + 1) :: ((if t = true then [] else ks.fstL (s + 1)) ++ nx.fstL (s + 1 + (if t = true then 0 else ks.cnt)))
def Fo.nxtL : Fo → Nat → List Int
  | .nil, _ => []
  | .cons t _ _ _ _ ks nx, s => (if nx.len = 0 then -1 else ((s + 1 + (if t = true then 0 else ks.cnt) : Nat) : Int)) :: ((if t = true then [] else ks.nxtL (s + 1)) ++ nx.nxtL (s + 1 + (if t = true then 0 else ks.cnt)))
def Fo.sizL : Fo → List Int
  | .nil => []
  | .cons t _ _ _ _ ks nx => ((1 + (if t = true then 0 else ks.cnt) : Nat) : Int) :: ((if t = true then [] else ks.sizL) ++ nx.sizL)
def Fo.treL : Fo → Fo
  | .nil => .nil
  | .cons t tx sp lo ats ks nx => .cons t tx sp lo ats ks ((if t = true then .nil else ks.treL).app nx.treL)
section
variable (t : Bool) (tx sp lo : ByteArray) (ats : List P3) (ks nx : Fo) (s : Nat) (p : Int)
theorem kid_cnt : (if t = true then 0 else ks.cnt) = (kidF t ks).cnt := by unfold kidF; cases t <;> rfl
theorem par_cons : (Fo.cons t tx sp lo ats ks nx).parL s p = p :: ((kidF t ks).parL (s + 1) (s : Int) ++ nx.parL (s + 1 + (kidF t ks).cnt) p) := by
  rw [Fo.parL, kid_cnt]
  unfold kidF
  cases t <;> rfl
theorem fst_cons : (Fo.cons t tx sp lo ats ks nx).fstL s = (if (kidF t ks).len = 0 then -1 else (s : Int) + 1) :: ((kidF t ks).fstL (s + 1) ++ nx.fstL (s + 1 + (kidF t ks).cnt)) := by
  rw [Fo.fstL, kid_cnt]
  unfold kidF
  cases t
  · simp
  · simp [Fo.len, Fo.fstL]
theorem nxt_cons : (Fo.cons t tx sp lo ats ks nx).nxtL s = (if nx.len = 0 then -1 else ((s + 1 + (kidF t ks).cnt : Nat) : Int)) :: ((kidF t ks).nxtL (s + 1) ++ nx.nxtL (s + 1 + (kidF t ks).cnt)) := by
  rw [Fo.nxtL, kid_cnt]
  unfold kidF
  cases t <;> rfl
theorem siz_cons : (Fo.cons t tx sp lo ats ks nx).sizL = ((1 + (kidF t ks).cnt : Nat) : Int) :: ((kidF t ks).sizL ++ nx.sizL) := by
  rw [Fo.sizL, kid_cnt]
  unfold kidF
  cases t <;> rfl
theorem tre_cons : (Fo.cons t tx sp lo ats ks nx).treL = .cons t tx sp lo ats ks ((kidF t ks).treL.app nx.treL) := by
  rw [Fo.treL]
  unfold kidF
  cases t <;> rfl
theorem cnt_cons : (Fo.cons t tx sp lo ats ks nx).cnt = 1 + (kidF t ks).cnt + nx.cnt := by
  rw [Fo.cnt]
  unfold kidF
  cases t
  · rw [if_neg (by decide), if_neg (by decide)]
  · rw [if_pos rfl, if_pos rfl]; rfl
end
theorem par_len : ∀ (f : Fo) (s : Nat) (p : Int), (f.parL s p).length = f.cnt
  | .nil, _, _ => rfl
  | .cons t tx sp lo ats ks nx, s, p => by
    rw [Fo.parL, Fo.cnt, List.length_cons, List.length_append, par_len nx]
    cases t
    · rw [if_neg (by decide), par_len ks, if_neg (by decide)]; omega
    · rw [if_pos rfl, if_pos rfl, List.length_nil]; omega
theorem fst_len : ∀ (f : Fo) (s : Nat), (f.fstL s).length = f.cnt
  | .nil, _ => rfl
  | .cons t tx sp lo ats ks nx, s => by
    rw [Fo.fstL, Fo.cnt, List.length_cons, List.length_append, fst_len nx]
    cases t
    · rw [if_neg (by decide), fst_len ks, if_neg (by decide)]; omega
    · rw [if_pos rfl, if_pos rfl, List.length_nil]; omega
theorem nxt_len : ∀ (f : Fo) (s : Nat), (f.nxtL s).length = f.cnt
  | .nil, _ => rfl
  | .cons t tx sp lo ats ks nx, s => by
    rw [Fo.nxtL, Fo.cnt, List.length_cons, List.length_append, nxt_len nx]
    cases t
    · rw [if_neg (by decide), nxt_len ks, if_neg (by decide)]; omega
    · rw [if_pos rfl, if_pos rfl, List.length_nil]; omega
theorem siz_len : ∀ (f : Fo), f.sizL.length = f.cnt
  | .nil => rfl
  | .cons t tx sp lo ats ks nx => by
    rw [Fo.sizL, Fo.cnt, List.length_cons, List.length_append, siz_len nx]
    cases t
    · rw [if_neg (by decide), siz_len ks, if_neg (by decide)]; omega
    · rw [if_pos rfl, if_pos rfl, List.length_nil]; omega
theorem tre_len : ∀ (f : Fo), f.treL.len = f.cnt
  | .nil => rfl
  | .cons t tx sp lo ats ks nx => by
    rw [Fo.treL, Fo.cnt, Fo.len, len_app, tre_len nx]
    cases t
    · rw [if_neg (by decide), tre_len ks, if_neg (by decide)]; omega
    · rw [if_pos rfl, if_pos rfl]; simp [Fo.len]; omega
theorem par_app : ∀ (f g : Fo) (s : Nat) (p : Int), (f.app g).parL s p = f.parL s p ++ g.parL (s + f.cnt) p
  | .nil, g, s, p => by simp [Fo.app, Fo.parL, Fo.cnt]
  | .cons t tx sp lo ats ks nx, g, s, p => by
    rw [Fo.app, par_cons, par_cons, par_app nx g, cnt_cons]
    rw [show s + 1 + (kidF t ks).cnt + nx.cnt = s + (1 + (kidF t ks).cnt + nx.cnt) by omega]
    simp
theorem fst_app : ∀ (f g : Fo) (s : Nat), (f.app g).fstL s = f.fstL s ++ g.fstL (s + f.cnt)
  | .nil, g, s => by simp [Fo.app, Fo.fstL, Fo.cnt]
  | .cons t tx sp lo ats ks nx, g, s => by
    rw [Fo.app, fst_cons, fst_cons, fst_app nx g, cnt_cons]
    rw [show s + 1 + (kidF t ks).cnt + nx.cnt = s + (1 + (kidF t ks).cnt + nx.cnt) by omega]
    simp
theorem siz_app_L : ∀ (f g : Fo), (f.app g).sizL = f.sizL ++ g.sizL
  | .nil, g => by simp [Fo.app, Fo.sizL]
  | .cons t tx sp lo ats ks nx, g => by
    rw [Fo.app, siz_cons, siz_cons, siz_app_L nx g]
    simp
theorem tre_app : ∀ (f g : Fo), (f.app g).treL = f.treL.app g.treL
  | .nil, g => by simp [Fo.app, Fo.treL]
  | .cons t tx sp lo ats ks nx, g => by
    rw [Fo.app, tre_cons, tre_cons, tre_app nx g, Fo.app, app_assoc]
theorem set_in {h : Int} {K N : List Int} {j : Nat} {x : Int} : (h :: (K ++ N)).set (1 + K.length + j) x = h :: (K ++ N.set j x) := by
  rw [show 1 + K.length + j = (K.length + j) + 1 by omega, List.set_cons_succ, List.set_append_right (h := by omega), Nat.add_sub_cancel_left]
/-- A sibling behind two: the last one's next is it. -/
theorem nxt_app2 : ∀ (F : Fo) (t : Bool) (tx sp lo : ByteArray) (ats : List P3) (ks : Fo) (X : Fo) (s : Nat), X.len = 1 → ((F.app (.cons t tx sp lo ats ks .nil)).app X).nxtL s = ((F.app (.cons t tx sp lo ats ks .nil)).nxtL s).set F.cnt ((s + (F.app (.cons t tx sp lo ats ks .nil)).cnt : Nat) : Int) ++ X.nxtL (s + (F.app (.cons t tx sp lo ats ks .nil)).cnt)
  | .nil, t, tx, sp, lo, ats, ks, X, s, hX => by
    rw [Fo.app, Fo.app, Fo.app, nxt_cons, nxt_cons, cnt_cons, if_neg (by omega)]
    rw [show s + 1 + (kidF t ks).cnt = s + (1 + (kidF t ks).cnt + Fo.nil.cnt) by rw [Fo.cnt]; omega]
    simp [Fo.cnt, Fo.nxtL]
  | .cons t0 tx0 sp0 lo0 ats0 ks0 nx0, t, tx, sp, lo, ats, ks, X, s, hX => by
    have h1 : (nx0.app (.cons t tx sp lo ats ks .nil)).len ≠ 0 := by rw [len_app, Fo.len]; omega
    have h2 : ((nx0.app (.cons t tx sp lo ats ks .nil)).app X).len ≠ 0 := by rw [len_app, len_app, Fo.len]; omega
    rw [Fo.app, Fo.app, nxt_cons, nxt_cons, if_neg h1, if_neg h2, nxt_app2 nx0 t tx sp lo ats ks X _ hX, cnt_cons, cnt_cons]
    have e := set_in (h := ((s + 1 + (kidF t0 ks0).cnt : Nat) : Int)) (K := (kidF t0 ks0).nxtL (s + 1)) (N := (nx0.app (.cons t tx sp lo ats ks .nil)).nxtL (s + 1 + (kidF t0 ks0).cnt)) (j := nx0.cnt) (x := ((s + (1 + (kidF t0 ks0).cnt + (nx0.app (.cons t tx sp lo ats ks .nil)).cnt) : Nat) : Int))
    rw [nxt_len] at e
    rw [e]
    rw [show s + 1 + (kidF t0 ks0).cnt + (nx0.app (.cons t tx sp lo ats ks .nil)).cnt = s + (1 + (kidF t0 ks0).cnt + (nx0.app (.cons t tx sp lo ats ks .nil)).cnt) by omega]
    simp
end Go.Proofs.Ytaoggciebkaakaa.Ev

/- Events behind the first; what stands in memory in the loop of tree.first. -/
set_option linter.unusedSimpArgs false
set_option linter.unusedVariables false
namespace Go.Proofs.Ytaoggciebkaakaa.Ev
open Go.RowKit

theorem EvsIn.tail {W : World} {b off n c : Nat} {x : RE} {l : List RE} (h : EvsIn W (some ⟨b, off, none⟩) n c (x :: l)) : EvsIn W (some ⟨b, off + 5, none⟩) (n - 1) (c - 1) l := by
  have hl := h.len
  rw [List.length_cons] at hl
  refine ⟨by omega, by have := h.lsz; omega, by have := h.cnt; omega, fun y hy => h.xsz y (List.mem_cons_of_mem _ hy), fun k y hk => ?_, (fun e => by cases e), ⟨by have := h.cap.1; omega, by have := h.cap.2; omega⟩⟩
  obtain ⟨b', o', Aa, n', c', e, hlt, ta, c0, c1, c2, c3, c4⟩ := h.rd (k + 1) y (by rw [List.getElem?_cons_succ]; exact hk)
  injection e with e
  injection e with e1 e2
  subst e1 e2
  have q : off + 5 + k * 5 = off + (k + 1) * 5 := by omega
  refine ⟨b, off + 5, Aa, n', c', rfl, hlt, ta, ?_⟩
  rw [q]
  exact ⟨c0, c1, c2, c3, c4⟩
theorem EvsIn.tail1 {W : World} {a : Addr} {n c : Nat} {x : RE} {l : List RE} (h : EvsIn W (some a) n c (x :: l)) (hc : c = 1) : EvsIn W (some a) (n - 1) (c - 1) l := by
  have hl := h.len
  rw [List.length_cons] at hl
  have h1 := h.cap.1
  have h2 : l = [] := List.eq_nil_of_length_eq_zero (by omega)
  subst h2
  exact ⟨by rw [List.length_nil]; omega, by unfold maxLen; omega, by omega, (fun y hy => by cases hy), (fun k y hk => by simp at hk), (fun e => by cases e), ⟨by omega, by unfold maxLen; omega⟩⟩
/-- What stands first. -/
theorem EvsIn.head {W : World} {A : Option Addr} {n c : Nat} {x : RE} {l : List RE} (h : EvsIn W A n c (x :: l)) : ∃ b off Aa na ca, A = some ⟨b, off, none⟩ ∧ b < W.heap.size ∧ AttsIn W Aa na ca x.ats ∧ W.cell? ⟨b, off, none⟩ = some (.int .i64 x.kind) ∧ W.cell? ⟨b, off + 1, none⟩ = some (.string x.sp) ∧ W.cell? ⟨b, off + 2, none⟩ = some (.string x.lo) ∧ W.cell? ⟨b, off + 3, none⟩ = some (.slice Aa na ca) ∧ W.cell? ⟨b, off + 4, none⟩ = some (.string x.tx) := by
  obtain ⟨b, o, Aa, n', c', e, hlt, ta, c0, c1, c2, c3, c4⟩ := h.rd 0 x rfl
  rw [Nat.zero_mul, Nat.add_zero] at c0 c1 c2 c3 c4
  exact ⟨b, o, Aa, n', c', e, hlt, ta, c0, c1, c2, c3, c4⟩
/-- A tree in blocks from s on. -/
def Lo (s : Nat) (W : World) (b : Nat) : Prop := s ≤ b ∧ b < W.heap.size
def FPost (w0 W : World) (f : Fo) (post : List RE) (e : Ending) (w' : World) : Prop := ∃ t tx sp lo ats ks Aa na ca Ak nk ck A' n' c', f.pln = .cons t tx sp lo ats ks .nil ∧ e = .returned (.tuple #[.agg #[.bool t, .string tx, .string sp, .string lo, .slice Aa na ca, .slice Ak nk ck], .slice A' n' c']) ∧ Tr1 (Lo W.heap.size w') w' tx sp lo ats ks Aa na ca Ak nk ck ∧ EvsIn w0 A' n' c' post ∧ Below W.heap.size W w'
end Go.Proofs.Ytaoggciebkaakaa.Ev

/- tree.first of a text. -/
set_option linter.unusedSimpArgs false
set_option linter.unusedVariables false
namespace Go.Proofs.Ytaoggciebkaakaa.Ev
open Go.RowKit

theorem Try.results27 : Try.f27.results = #[ResultVar.cell 2 30, ResultVar.tmp 3] := by kernel_rfl
theorem lim_maxLen {s : ByteArray} (h : s.size ≤ LimS) : s.size ≤ maxLen := by unfold LimS at h; unfold maxLen; omega
theorem em_lim' : emB.size ≤ LimS := by decide
set_option maxHeartbeats 4000000 in
set_option maxRecDepth 100000 in
theorem first_text (A : Option Addr) (n c : Nat) (tx sp lo : ByteArray) (ats : List P3) (ks : Fo) (post : List RE) (w0 w : World) (hw : Below w0.heap.size w0 w) (T0 : EvsIn w0 A n c (⟨2, emB, emB, [], tx⟩ :: post)) (ht : tx.size ≤ LimS) (hn : n ≤ 100000) :
    Calls Try.prog 27 #[.slice A n c] w (FPost w0 w (Fo.cons true tx sp lo ats ks .nil) post) := by
  have T := T0.keep hw
  obtain ⟨b, off, Aa, na, ca, rfl, hb, _, c0, c1, c2, c3, c4⟩ := T.head
  have hl := T.len
  rw [List.length_cons] at hl
  have hcap := T.cap.1
  have CV : Hid (∀ W, Calls Try.prog 36 #[.string tx] W fun e w' => e = .returned (.string tx) ∧ Below W.heap.size W w') := Lib.hid fun W => clone_any tx W ht
  have HT := Lib.hid T0
  have g1 : (1 : Int) ≤ (n : Int) := by omega
  have g0 : (0 : Int) < (n : Int) := by omega
  dsimp only at c0 c1 c2 c3 c4
  clear T hl T0
  obtain ⟨A1, hA1, HT1⟩ : ∃ A1 : Addr, A1 = (if c = 1 then ⟨b, off, none⟩ else ⟨b, off + 5, none⟩) ∧ Hid (EvsIn w0 (some A1) (n - 1) (c - 1) post) := by
    by_cases hc : c = 1
    · exact ⟨⟨b, off, none⟩, by rw [if_pos hc], Lib.hid (HT.out.tail1 hc)⟩
    · exact ⟨⟨b, off + 5, none⟩, by rw [if_neg hc], Lib.hid HT.out.tail⟩
  obtain ⟨W1, hW1⟩ : ∃ W1, W1 = ((w.alloc (.cells #[.bool false, .string ⟨#[]⟩, .string ⟨#[]⟩, .string ⟨#[]⟩, .slice none 0 0, .slice none 0 0] 30)).alloc (.cells #[.int .i64 2, .string emB, .string emB, .slice Aa na ca, .string tx] 38)).drew := ⟨_, rfl⟩
  have HB1 : Hid (Below w.heap.size w W1) := Lib.hid (by rw [hW1]; exact (((Below.refl _ w).alloc (Nat.le_refl _) _).alloc (by simp) _).drew)
  have HR1 : Hid (W1.heap[w.heap.size]? = some (.cells #[.bool false, .string ⟨#[]⟩, .string ⟨#[]⟩, .string ⟨#[]⟩, .slice none 0 0, .slice none 0 0] 30 (0, 0))) := Lib.hid (by rw [hW1]; exact (Below.heap_alloc (w.alloc _) _ _ (by simp)).trans (nblk w 30 _))
  have CW : Hid (Calls Try.prog 36 #[.string tx] W1 fun e w6 => e = .returned (.string tx) ∧ Hid (w6.heap[w.heap.size]? = some (.cells #[.bool false, .string ⟨#[]⟩, .string ⟨#[]⟩, .string ⟨#[]⟩, .slice none 0 0, .slice none 0 0] 30 (0, 0))) ∧ Hid (Below w.heap.size w w6)) := Lib.hid ((CV.out W1).mono fun e w' h => ⟨h.1, Lib.hid ((h.2.block _ (Array.getElem?_eq_some_iff.1 HR1.out).1).trans HR1.out), Lib.hid (HB1.out.trans (h.2.mono HB1.out.size))⟩)
  clear CV HR1 HB1 HT
  by_cases hc : c = 1
  · rw [if_pos hc] at hA1
    subst hA1
    go_enter Try.func27, Try.ntmps27
    go_wp2_with fail
    go_region
    go_wp2_with fail
    generalize ((w.alloc (.cells #[.bool false, .string ⟨#[]⟩, .string ⟨#[]⟩, .string ⟨#[]⟩, .slice none 0 0, .slice none 0 0] 30)).alloc (.cells #[.int .i64 2, .string emB, .string emB, .slice Aa na ca, .string tx] 38)).drew = V at *
    subst hW1
    refine CW.out.mono ?_
    rintro e w6 ⟨rfl, HR6, HB6⟩
    clear CW c0 c1 c2 c3 c4
    obtain ⟨h6, g6⟩ := put6 (.bool true) (.string tx) (.string ⟨#[]⟩) (.string ⟨#[]⟩) (.slice none 0 0) (.slice none 0 0) HR6.out
    obtain ⟨r0, r1, r2, r3, r4, r5⟩ := cells6 HR6.out
    have f0 := froz_of HR6.out 0
    have f1 := froz_of HR6.out 1
    have f2 := froz_of HR6.out 2
    have f3 := froz_of HR6.out 3
    have f4 := froz_of HR6.out 4
    have f5 := froz_of HR6.out 5
    have HB7 := Lib.hid (HB6.out.grown g6 HB6.out.size (fun j hj => by injection hj with hj; omega))
    have H6 := Lib.hid h6
    clear h6 g6
    go_wp2
    change bodyPost _ _ _ _ _ (put6W w6 w.heap.size (.bool true) (.string tx) (.string ⟨#[]⟩) (.string ⟨#[]⟩) (.slice none 0 0) (.slice none 0 0))
    generalize put6W w6 w.heap.size (.bool true) (.string tx) (.string ⟨#[]⟩) (.string ⟨#[]⟩) (.slice none 0 0) (.slice none 0 0) = W7 at *
    obtain ⟨e0, e1, e2, e3, e4, e5⟩ := cells6 H6.out
    clear r0 r1 r2 r3 r4 r5 f0 f1 f2 f3 f4 f5
    refine bodyPost_ret (v := .tuple #[.agg #[.bool true, .string tx, .string ⟨#[]⟩, .string ⟨#[]⟩, .slice none 0 0, .slice none 0 0], .slice (some ⟨b, off, none⟩) (n - 1) 0]) (by simp [results, Try.results27, go_sem, e0, e1, e2, e3, e4, e5]) rfl ?_
    exact ⟨true, tx, emB, emB, [], .nil, none, 0, 0, none, 0, 0, _, _, _, by rw [Fo.pln, if_pos rfl]; rfl, rfl, ⟨⟨lim_maxLen ht, lim_maxLen em_lim', lim_maxLen em_lim'⟩, attsNil _, fun h => absurd h (Nat.lt_irrefl 0), ksNil _ _⟩, (by have h := HT1.out; rw [hc] at h; exact h), HB7.out⟩
  · rw [if_neg hc] at hA1
    subst hA1
    go_enter Try.func27, Try.ntmps27
    go_wp2_with fail
    go_region
    go_wp2_with fail
    generalize ((w.alloc (.cells #[.bool false, .string ⟨#[]⟩, .string ⟨#[]⟩, .string ⟨#[]⟩, .slice none 0 0, .slice none 0 0] 30)).alloc (.cells #[.int .i64 2, .string emB, .string emB, .slice Aa na ca, .string tx] 38)).drew = V at *
    subst hW1
    refine CW.out.mono ?_
    rintro e w6 ⟨rfl, HR6, HB6⟩
    clear CW c0 c1 c2 c3 c4
    obtain ⟨h6, g6⟩ := put6 (.bool true) (.string tx) (.string ⟨#[]⟩) (.string ⟨#[]⟩) (.slice none 0 0) (.slice none 0 0) HR6.out
    obtain ⟨r0, r1, r2, r3, r4, r5⟩ := cells6 HR6.out
    have f0 := froz_of HR6.out 0
    have f1 := froz_of HR6.out 1
    have f2 := froz_of HR6.out 2
    have f3 := froz_of HR6.out 3
    have f4 := froz_of HR6.out 4
    have f5 := froz_of HR6.out 5
    have HB7 := Lib.hid (HB6.out.grown g6 HB6.out.size (fun j hj => by injection hj with hj; omega))
    have H6 := Lib.hid h6
    clear h6 g6
    go_wp2
    change bodyPost _ _ _ _ _ (put6W w6 w.heap.size (.bool true) (.string tx) (.string ⟨#[]⟩) (.string ⟨#[]⟩) (.slice none 0 0) (.slice none 0 0))
    generalize put6W w6 w.heap.size (.bool true) (.string tx) (.string ⟨#[]⟩) (.string ⟨#[]⟩) (.slice none 0 0) (.slice none 0 0) = W7 at *
    obtain ⟨e0, e1, e2, e3, e4, e5⟩ := cells6 H6.out
    clear r0 r1 r2 r3 r4 r5 f0 f1 f2 f3 f4 f5
    refine bodyPost_ret (v := .tuple #[.agg #[.bool true, .string tx, .string ⟨#[]⟩, .string ⟨#[]⟩, .slice none 0 0, .slice none 0 0], .slice (some ⟨b, off + 5, none⟩) (n - 1) (c - 1)]) (by simp [results, Try.results27, go_sem, e0, e1, e2, e3, e4, e5]) rfl ?_
    exact ⟨true, tx, emB, emB, [], .nil, none, 0, 0, none, 0, 0, _, _, _, by rw [Fo.pln, if_pos rfl]; rfl, rfl, ⟨⟨lim_maxLen ht, lim_maxLen em_lim', lim_maxLen em_lim'⟩, attsNil _, fun h => absurd h (Nat.lt_irrefl 0), ksNil _ _⟩, HT1.out, HB7.out⟩
end Go.Proofs.Ytaoggciebkaakaa.Ev

/- tree.first of an element: what stands in memory. -/
set_option linter.unusedSimpArgs false
set_option linter.unusedVariables false
namespace Go.Proofs.Ytaoggciebkaakaa.Ev
open Go.RowKit

/-- Before the tree is made. -/
structure FE (w : World) (sp lo : ByteArray) (Aa : Option Addr) (na ca : Nat) (W : World) : Prop where
  ebx : W.heap[w.heap.size + 1]? = some (.cells #[.int .i64 1, .string sp, .string lo, .slice Aa na ca, .string emB] 38 (0, 0))
  res : W.heap[w.heap.size]? = some (.cells #[.bool false, .string ⟨#[]⟩, .string ⟨#[]⟩, .string ⟨#[]⟩, .slice none 0 0, .slice none 0 0] 30 (0, 0))
  bel : Below w.heap.size w W
section
variable {w W W' : World} {sp lo : ByteArray} {Aa : Option Addr} {na ca : Nat}
theorem FE.lt (h : FE w sp lo Aa na ca W) : w.heap.size + 2 ≤ W.heap.size := (Array.getElem?_eq_some_iff.1 h.ebx).1
theorem FE.keep (h : FE w sp lo Aa na ca W) (hb : Below W.heap.size W W') : FE w sp lo Aa na ca W' :=
  ⟨(hb.block _ (Array.getElem?_eq_some_iff.1 h.ebx).1).trans h.ebx, (hb.block _ (Array.getElem?_eq_some_iff.1 h.res).1).trans h.res, h.bel.trans (hb.mono h.bel.size)⟩
theorem FE.s3 (h : FE w sp lo Aa na ca W) : W.cell? ⟨w.heap.size + 1, 1, none⟩ = some (.string sp) ∧ W.cell? ⟨w.heap.size + 1, 2, none⟩ = some (.string lo) ∧ W.cell? ⟨w.heap.size + 1, 3, none⟩ = some (.slice Aa na ca) := ⟨cells_of h.ebx 1 rfl, cells_of h.ebx 2 rfl, cells_of h.ebx 3 rfl⟩
theorem FE.grown {row : Option Nat} (h : FE w sp lo Aa na ca W) (hg : W.grownBy W' row) (h0 : ∀ g, row = some g → w.heap.size + 2 ≤ g) : FE w sp lo Aa na ca W' :=
  ⟨(hg.block _ (Array.getElem?_eq_some_iff.1 h.ebx).1 (fun e => by have := h0 _ e.symm; omega)).trans h.ebx, (hg.block _ (Array.getElem?_eq_some_iff.1 h.res).1 (fun e => by have := h0 _ e.symm; omega)).trans h.res, h.bel.grown hg h.bel.size (fun j hj => by have := h0 _ hj; omega)⟩
end
/-- The tree without children stands in block tb. -/
structure FY (w : World) (tb : Nat) (sp lo : ByteArray) (ats : List P3) (A6 : Option Addr) (na c6 : Nat) (W : World) : Prop where
  box : W.heap[tb]? = some (.cells #[.bool false, .string ⟨#[]⟩, .string sp, .string lo, .slice A6 na c6, .slice none 0 0] 30 (0, 0))
  lt : w.heap.size + 2 ≤ tb
  res : W.heap[w.heap.size]? = some (.cells #[.bool false, .string ⟨#[]⟩, .string ⟨#[]⟩, .string ⟨#[]⟩, .slice none 0 0, .slice none 0 0] 30 (0, 0))
  own : W.ownsRow (w.heap.size + 2) 52 3 (.slice A6 na c6) na (atL ats)
  bel : Below w.heap.size w W
section
variable {w W : World} {sp lo : ByteArray} {ats : List P3} {Aa A6 : Option Addr} {na ca c6 : Nat}
theorem own_blk {B z n g : Nat} {e e' : TypeId} {v : Value} {xs : List Value} {cs : Array Value} {f : Nat × Nat} (h : W.ownsRow B e z v n xs) (hg : W.heap[g]? = some (.cells cs e' f)) (hne : e ≠ e') : v.ownBlock = none ∨ v.ownBlock ≠ some g := by
  rcases h.2 with ⟨rfl, _⟩ | ⟨g', cap, cur, rfl, _, hg', _⟩
  · exact .inl rfl
  · right
    intro e1
    simp only [Value.ownBlock, Option.some.injEq] at e1
    subst e1
    rw [hg] at hg'
    injection hg' with hg'
    injection hg' with _ h2 _
    exact hne h2.symm
theorem FE.y1 (h : FE w sp lo Aa na ca W) (ho : W.ownsRow (w.heap.size + 2) 52 3 (.slice A6 na c6) na (atL ats)) : FY w W.heap.size sp lo ats A6 na c6 (W.alloc (.cells #[.bool false, .string ⟨#[]⟩, .string sp, .string lo, .slice A6 na c6, .slice none 0 0] 30)) := by
  have hb := (Below.refl W.heap.size W).alloc (Nat.le_refl _) (.cells #[.bool false, .string ⟨#[]⟩, .string sp, .string lo, .slice A6 na c6, .slice none 0 0] 30)
  exact ⟨nblk W 30 _, h.lt, (h.keep hb).res, own_keep ho hb, (h.keep hb).bel⟩
theorem FE.y2 {tb : Nat} (h : FE w sp lo Aa na ca W) (ho : W.ownsRow (w.heap.size + 2) 52 3 (.slice A6 na c6) na (atL ats)) (hn : W.heap[tb]? = some (.cells #[.bool false, .string ⟨#[]⟩, .string ⟨#[]⟩, .string ⟨#[]⟩, .slice none 0 0, .slice none 0 0] 30 (0, 0))) (ht : w.heap.size + 2 ≤ tb) : FY w tb sp lo ats A6 na c6 (put6W W tb (.bool false) (.string ⟨#[]⟩) (.string sp) (.string lo) (.slice A6 na c6) (.slice none 0 0)) := by
  obtain ⟨h6, g6⟩ := put6 (.bool false) (.string ⟨#[]⟩) (.string sp) (.string lo) (.slice A6 na c6) (.slice none 0 0) hn
  have hf := h.grown g6 (fun g hg => by injection hg with hg; omega)
  exact ⟨h6, ht, hf.res, World.ownsRow.kept ho g6 (own_blk ho hn (by decide)), hf.bel⟩
theorem FE.s3b {tb : Nat} (h : FE w sp lo Aa na ca W) (hn : W.heap[tb]? = some (.cells #[.bool false, .string ⟨#[]⟩, .string ⟨#[]⟩, .string ⟨#[]⟩, .slice none 0 0, .slice none 0 0] 30 (0, 0))) (ht : w.heap.size + 2 ≤ tb) (x0 x1 x2 x3 x4 x5 : Value) : (put6W W tb x0 x1 x2 x3 x4 x5).cell? ⟨w.heap.size + 1, 1, none⟩ = some (.string sp) ∧ (put6W W tb x0 x1 x2 x3 x4 x5).cell? ⟨w.heap.size + 1, 2, none⟩ = some (.string lo) ∧ (put6W W tb x0 x1 x2 x3 x4 x5).cell? ⟨w.heap.size + 1, 3, none⟩ = some (.slice Aa na ca) :=
  (h.grown (put6 x0 x1 x2 x3 x4 x5 hn).2 (fun g hg => by injection hg with hg; omega)).s3
end
/-- Blocks that the loop does not write. -/
def Pq (s tb : Nat) (v : Value) (W : World) (b : Nat) : Prop := s ≤ b ∧ b < W.heap.size ∧ b ≠ s ∧ b ≠ tb ∧ v.ownBlock ≠ some b
/-- In the loop: k children laid. -/
structure FL (w : World) (tb : Nat) (sp lo : ByteArray) (ats : List P3) (A6 : Option Addr) (na c6 : Nat) (f : Fo) (k : Nat) (v : Value) (wr : World) : Prop where
  own : ∃ vs, wr.ownsRow (tb + 1) 30 6 v k vs ∧ KsV (Pq w.heap.size tb v wr) wr f vs
  box : wr.heap[tb]? = some (.cells #[.bool false, .string ⟨#[]⟩, .string sp, .string lo, .slice A6 na c6, v] 30 (0, 0))
  res : wr.heap[w.heap.size]? = some (.cells #[.bool false, .string ⟨#[]⟩, .string ⟨#[]⟩, .string ⟨#[]⟩, .slice none 0 0, .slice none 0 0] 30 (0, 0))
  ats : wr.ownsRow (w.heap.size + 2) 52 3 (.slice A6 na c6) na (atL ats)
  bel : Below w.heap.size w wr
  lt : w.heap.size + 2 ≤ tb ∧ tb < wr.heap.size
section
variable {w wr w' : World} {tb na c6 k : Nat} {sp lo : ByteArray} {ats : List P3} {A6 : Option Addr} {f : Fo} {v : Value}
theorem FY.fl (h : FY w tb sp lo ats A6 na c6 wr) : FL w tb sp lo ats A6 na c6 .nil 0 (.slice none 0 0) wr :=
  ⟨⟨[], World.ownsRow_nil _ _ _ _, rfl⟩, h.box, h.res, h.own, h.bel, h.lt, (Array.getElem?_eq_some_iff.1 h.box).1⟩
theorem Pq.mono {s : Nat} (h : wr.heap.size ≤ w'.heap.size) {b : Nat} (hp : Pq s tb v wr b) : Pq s tb v w' b := ⟨hp.1, Nat.lt_of_lt_of_le hp.2.1 h, hp.2.2⟩
theorem FL.keep (h : FL w tb sp lo ats A6 na c6 f k v wr) (hb : Below wr.heap.size wr w') : FL w tb sp lo ats A6 na c6 f k v w' := by
  obtain ⟨l1, l2⟩ := h.lt
  obtain ⟨vs, h1, h2⟩ := h.own
  exact ⟨⟨vs, own_keep h1 hb, h2.map fun t => (t.keep hb).mono fun b hp => hp.mono hb.size⟩, (hb.block _ (by omega)).trans h.box, (hb.block _ (by omega)).trans h.res, own_keep h.ats hb, h.bel.trans (hb.mono h.bel.size), l1, Nat.lt_of_lt_of_le l2 hb.size⟩
/-- A child's tree: its blocks are not among those that the loop writes. -/
theorem FL.child {n : Nat} {vs : List Value} (ho : wr.ownsRow (tb + 1) 30 6 v n vs) (hl : tb < wr.heap.size) (hs : w.heap.size ≤ tb) {w5 w6 : World} (h5 : wr.heap.size ≤ w5.heap.size) {b : Nat} (hp : Lo w5.heap.size w6 b) : Pq w.heap.size tb v w6 b := by
  obtain ⟨p1, p2⟩ := hp
  refine ⟨by omega, p2, by omega, by omega, fun e => ?_⟩
  have := World.ownsRow.lt ho b e
  omega
/-- Another block of trees, whole, changes. -/
theorem FL.grown {cb : Nat} (h : FL w tb sp lo ats A6 na c6 f k v wr) (hg : wr.grownBy w' (some cb)) (hc : wr.heap[cb]? = some (.cells #[.bool false, .string ⟨#[]⟩, .string ⟨#[]⟩, .string ⟨#[]⟩, .slice none 0 0, .slice none 0 0] 30 (0, 0))) (hcb : tb < cb) (hv : v.ownBlock ≠ some cb) (hP : ∀ {vs : List Value}, wr.ownsRow (tb + 1) 30 6 v k vs → KsV (Pq w.heap.size tb v wr) wr f vs → KsV (fun b => Pq w.heap.size tb v wr b ∧ b ≠ cb) wr f vs) : FL w tb sp lo ats A6 na c6 f k v w' := by
  obtain ⟨l1, l2⟩ := h.lt
  obtain ⟨vs, h1, h2⟩ := h.own
  have h3 := hP h1 h2
  refine ⟨⟨vs, World.ownsRow.kept h1 hg (.inr hv), h3.map fun t => (t.grown hg (fun b hp e => hp.2 (by injection e))).mono fun b hp => hp.1.mono hg.size⟩, (hg.block _ (by omega) (fun e => by injection e with e; omega)).trans h.box, (hg.block _ (by omega) (fun e => by injection e with e; omega)).trans h.res, World.ownsRow.kept h.ats hg (own_blk h.ats hc (by decide)), h.bel.grown hg h.bel.size (fun j hj => by injection hj with hj; omega), l1, Nat.lt_of_lt_of_le l2 hg.size⟩
/-- Behind the append and the store. -/
theorem FL.put {w4 : World} {g cap : Nat} {u : Bool} {ux us ul : ByteArray} {ua : List P3} {uk : Fo} {u1 : Option Addr} {u2 u3 : Nat} {u4 : Option Addr} {u5 u6 : Nat} {vs : List Value}
    (h : FL w tb sp lo ats A6 na c6 f k v wr) (ho : wr.ownsRow (tb + 1) 30 6 v k vs) (hk : KsV (Pq w.heap.size tb v wr) wr f vs) (hc : Tr1 (Pq w.heap.size tb v wr) wr ux us ul ua uk u1 u2 u3 u4 u5 u6)
    (n1 : w4.ownsRow (tb + 1) 30 6 (.slice (some ⟨g, 0, none⟩) (k + 1) cap) (k + 1) (vs ++ [.bool u, .string ux, .string us, .string ul, .slice u1 u2 u3, .slice u4 u5 u6])) (n2 : wr.grownBy w4 v.ownBlock) (n3 : v.ownBlock = some g ∨ g = wr.heap.size) (n4 : g < w4.heap.size) :
    FL w tb sp lo ats A6 na c6 (f.app (.cons u ux us ul ua uk .nil)) (k + 1) (.slice (some ⟨g, 0, none⟩) (k + 1) cap) (w4.setCell ⟨tb, 5, none⟩ (.slice (some ⟨g, 0, none⟩) (k + 1) cap)) := by
  obtain ⟨l1, l2⟩ := h.lt
  have hv : ∀ j, v.ownBlock = some j → tb + 1 ≤ j ∧ j < wr.heap.size := fun j hj => World.ownsRow.lt ho j hj
  have hg : tb + 1 ≤ g := by
    rcases n3 with n3 | n3
    · exact (hv g n3).1
    · omega
  have G2 : w4.grownBy (w4.setCell ⟨tb, 5, none⟩ (.slice (some ⟨g, 0, none⟩) (k + 1) cap)) (some tb) := grown_setCell w4 ⟨tb, 5, none⟩ (.slice (some ⟨g, 0, none⟩) (k + 1) cap)
  have hsz := n2.size
  have hsz2 := G2.size
  have hP : ∀ b, Pq w.heap.size tb v wr b → Pq w.heap.size tb (.slice (some ⟨g, 0, none⟩) (k + 1) cap) (w4.setCell ⟨tb, 5, none⟩ (.slice (some ⟨g, 0, none⟩) (k + 1) cap)) b := fun b ⟨p1, p2, p3, p4, p5⟩ => ⟨p1, by omega, p3, p4, fun e => by
    have e : some g = some b := e
    injection e with e
    rcases n3 with n3 | n3
    · exact p5 (by rw [n3, e])
    · omega⟩
  have ht : ∀ {tx sp lo : ByteArray} {ats : List P3} {ks : Fo} {Aa : Option Addr} {na ca : Nat} {Ak : Option Addr} {nk ck : Nat}, Tr1 (Pq w.heap.size tb v wr) wr tx sp lo ats ks Aa na ca Ak nk ck → Tr1 (Pq w.heap.size tb (.slice (some ⟨g, 0, none⟩) (k + 1) cap) (w4.setCell ⟨tb, 5, none⟩ (.slice (some ⟨g, 0, none⟩) (k + 1) cap))) (w4.setCell ⟨tb, 5, none⟩ (.slice (some ⟨g, 0, none⟩) (k + 1) cap)) tx sp lo ats ks Aa na ca Ak nk ck := fun t =>
    ((t.grown n2 (fun b hp e => hp.2.2.2.2 e.symm)).grown G2 (fun b hp e => hp.2.2.2.1 (by injection e))).mono hP
  have hb4 : w4.heap[tb]? = some (.cells #[.bool false, .string ⟨#[]⟩, .string sp, .string lo, .slice A6 na c6, v] 30 (0, 0)) := (n2.block _ (by omega) (fun e => by have := hv _ e.symm; omega)).trans h.box
  have ha4 := World.ownsRow.kept h.ats n2 (own_ne2 h.ats ho (by decide))
  refine ⟨⟨_, World.ownsRow.kept (row := some tb) n1 G2 (.inr fun e => ?_), (hk.map ht).app ⟨u1, u2, u3, u4, u5, u6, [], by simp, ht hc, rfl⟩⟩, ?_, ?_, World.ownsRow.kept (row := some tb) ha4 G2 (own_blk ha4 hb4 (by decide)), ?_, l1, by omega⟩
  · have e : some g = some tb := e
    injection e with e
    omega
  · simp [World.setCell, Array.getElem?_modify, hb4]
  · exact (G2.block _ (by omega) (fun e => by injection e with e; omega)).trans ((n2.block _ (by omega) (fun e => by have := hv _ e.symm; omega)).trans h.res)
  · exact (h.bel.grown n2 h.bel.size (fun j hj => by have := hv j hj; omega)).grown G2 (by have := h.bel.size; omega) (fun j hj => by injection hj with hj; omega)
end
theorem tr_end {W W' : World} {s : Nat} {tx sp lo : ByteArray} {ats : List P3} {ks : Fo} {Aa : Option Addr} {na ca : Nat} {Ak : Option Addr} {nk ck : Nat} (h : Tr1 (fun b => s ≤ b ∧ b < W.heap.size ∧ b ≠ s) W tx sp lo ats ks Aa na ca Ak nk ck) (g : W.grownBy W' (some s)) : Tr1 (Lo s W'.drew) W'.drew tx sp lo ats ks Aa na ca Ak nk ck :=
  ((h.grown g (fun b hp e => hp.2.2 (by injection e))).keep (Below.refl _ _).drew).mono fun b hp => ⟨hp.1, Nat.lt_of_lt_of_le hp.2.1 g.size⟩
theorem bel_end {w W W' : World} {s : Nat} (h : Below s w W) (g : W.grownBy W' (some s)) (hs : s ≤ w.heap.size) : Below s w W'.drew := (h.grown g (Nat.le_trans hs h.size) (fun j hj => by injection hj with hj; omega)).drew
theorem blk_end {W : World} {s : Nat} {o : Obj} (h : W.heap[s]? = some o) : W.drew.heap[s]? = some o := h
end Go.Proofs.Ytaoggciebkaakaa.Ev
