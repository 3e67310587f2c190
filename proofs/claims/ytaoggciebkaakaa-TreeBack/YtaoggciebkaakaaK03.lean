/-
  Merged by program out of the texts TrSmW, TrSzW, EvSame2, EvLaw3, Math, Leaf, Enc, Add of one seat.
-/
import Derived.Test.YtaoggciebkaakaaK02
import Derived.Test.YtaoggciebkaakaaProg
import Derived.Deep.RegionHeld3
import Derived.BigQuiet
import Derived.OwnWalk
import Derived.Laws.AppendOwn
import Derived.Laws.AppendOwnNone
import Derived.WalkKit
import Derived.WalkSpells
import Derived.WalkLawsBesides
import Derived.Lib.Hide

/- The document's Same (layer 10) of whatever two trees. -/
set_option linter.unusedSimpArgs false
set_option linter.unusedVariables false
namespace Go.Proofs.Ytaoggciebkaakaa.Ev
open Go.RowKit

/-- Two rows of trees are the same. -/
def smG : Fo → Fo → Bool
  | .nil, .nil => true
  | .cons t tx sp lo ats ks nx, .cons t' tx' sp' lo' ats' ks' nx' => (t == t') && (tx.toList == tx'.toList) && eqn (sp, lo) (sp', lo') && (ats.length == ats'.length) && ((ats.zip ats').all fun p => eq3 p.1 p.2) && smG ks ks' && smG nx nx'
  | _, _ => false
theorem sm_len : ∀ {f g : Fo}, smG f g = true → f.len = g.len
  | .nil, .nil, _ => rfl
  | .cons t tx sp lo ats ks nx, .cons t' tx' sp' lo' ats' ks' nx', h => by
    unfold smG at h
    simp only [Bool.and_eq_true] at h
    rw [Fo.len, Fo.len, sm_len h.2]
  | .nil, .cons _ _ _ _ _ _ _, h => by cases h
  | .cons _ _ _ _ _ _ _, .nil, h => by cases h
theorem siz_drop : ∀ (k : Nat) (f : Fo), (f.drop k).siz ≤ f.siz
  | 0, f => Nat.le_refl _
  | k + 1, .nil => Nat.le_refl _
  | k + 1, .cons t tx sp lo ats ks nx => by
    rw [Fo.drop, Fo.siz]
    have := siz_drop k nx
    omega
theorem siz_kid {f : Fo} {k : Nat} {t : Bool} {tx sp lo : ByteArray} {ats : List P3} {ks nx : Fo} (h : f.drop k = .cons t tx sp lo ats ks nx) : ks.siz + 1 ≤ f.siz := by
  have := siz_drop k f
  rw [h, Fo.siz] at this
  omega
theorem sm_one {t t' : Bool} {tx sp lo tx' sp' lo' : ByteArray} {ats ats' : List P3} {ks ks' nx nx' : Fo} : smG (.cons t tx sp lo ats ks nx) (.cons t' tx' sp' lo' ats' ks' nx') = (smG (.cons t tx sp lo ats ks .nil) (.cons t' tx' sp' lo' ats' ks' .nil) && smG nx nx') := by
  have e : smG .nil .nil = true := rfl
  conv => lhs; unfold smG
  conv => rhs; lhs; unfold smG
  rw [e, Bool.and_true]
theorem cells6 {W : World} {b : Nat} {a0 a1 a2 a3 a4 a5 : Value} {T : TypeId} {fz : Nat × Nat} (h : W.heap[b]? = some (.cells #[a0, a1, a2, a3, a4, a5] T fz)) : W.cell? ⟨b, 0, none⟩ = some a0 ∧ W.cell? ⟨b, 1, none⟩ = some a1 ∧ W.cell? ⟨b, 2, none⟩ = some a2 ∧ W.cell? ⟨b, 3, none⟩ = some a3 ∧ W.cell? ⟨b, 4, none⟩ = some a4 ∧ W.cell? ⟨b, 5, none⟩ = some a5 := ⟨cells_of h 0 rfl, cells_of h 1 rfl, cells_of h 2 rfl, cells_of h 3 rfl, cells_of h 4 rfl, cells_of h 5 rfl⟩
theorem Tc6.keep {W W' : World} {b off : Nat} {t : Bool} {tx sp lo : ByteArray} {Aa : Option Addr} {na ca : Nat} {Ak : Option Addr} {nk ck : Nat} (h : Tc6 W b off t tx sp lo Aa na ca Ak nk ck) (hb : Below W.heap.size W W') : Tc6 W' b off t tx sp lo Aa na ca Ak nk ck :=
  ⟨cell_lt h.1 hb, cell_lt h.2.1 hb, cell_lt h.2.2.1 hb, cell_lt h.2.2.2.1 hb, cell_lt h.2.2.2.2.1 hb, cell_lt h.2.2.2.2.2 hb⟩
theorem toList_eq {a b : ByteArray} (h : a.toList = b.toList) : a = b := by
  rw [Lib.toList_data, Lib.toList_data] at h
  cases a; cases b
  simp only [ByteArray.mk.injEq] at h ⊢
  exact Array.toList_inj.1 h
theorem eqn_self (x : P2) : eqn x x = true := by unfold eqn; simp
/-- Two boxes' slices of children, a child of each. -/
structure SmX (bX bY : Nat) (Ak : Option Addr) (nk ck : Nat) (Ak' : Option Addr) (nk' ck' : Nat) (c1 c2 : World → Prop) (W0 W : World) : Prop where
  kx : W.cell? ⟨bX, 5, none⟩ = some (.slice Ak nk ck)
  ky : W.cell? ⟨bY, 5, none⟩ = some (.slice Ak' nk' ck')
  x : c1 W
  y : c2 W
  bel : Below W0.heap.size W0 W
def TrC (N : Nat) : Prop := ∀ (t : Bool) (tx sp lo : ByteArray) (ats : List P3) (ks : Fo) (Aa : Option Addr) (na ca : Nat) (Ak : Option Addr) (nk ck : Nat) (t' : Bool) (tx' sp' lo' : ByteArray) (ats' : List P3) (ks' : Fo) (Aa' : Option Addr) (na' ca' : Nat) (Ak' : Option Addr) (nk' ck' : Nat) (P Q : Nat → Prop) (W : World), ks.siz < N → Tr1 P W tx sp lo ats ks Aa na ca Ak nk ck → Tr1 Q W tx' sp' lo' ats' ks' Aa' na' ca' Ak' nk' ck' →
    Calls Try.prog 12 #[.agg #[.bool t, .string tx, .string sp, .string lo, .slice Aa na ca, .slice Ak nk ck], .agg #[.bool t', .string tx', .string sp', .string lo', .slice Aa' na' ca', .slice Ak' nk' ck']] W fun e w' => e = .returned (.bool (smG (.cons t tx sp lo ats ks .nil) (.cons t' tx' sp' lo' ats' ks' .nil))) ∧ Below W.heap.size W w'
set_option maxHeartbeats 8000000 in
set_option maxRecDepth 100000 in
theorem same_step (N : Nat) (hIH : Hid (TrC N)) : TrC (N + 1) := by
  intro t tx sp lo ats ks Aa na ca Ak nk ck t' tx' sp' lo' ats' ks' Aa' na' ca' Ak' nk' ck' P Q w hN T1 T2
  obtain ⟨F, hF⟩ : ∃ F, F = smG (.cons t tx sp lo ats ks .nil) (.cons t' tx' sp' lo' ats' ks' .nil) := ⟨_, rfl⟩
  rw [← hF]
  have HF : Hid (F = ((t == t') && (tx.toList == tx'.toList) && eqn (sp, lo) (sp', lo') && (ats.length == ats'.length) && ((ats.zip ats').all fun p => eq3 p.1 p.2) && smG ks ks')) := Lib.hid (by
    rw [hF]
    have e : smG .nil .nil = true := rfl
    conv => lhs; unfold smG
    rw [e, Bool.and_true])
  have HN := Lib.hid hN
  have HT1 := Lib.hid T1
  have HT2 := Lib.hid T2
  have hna := T1.at_.cnt
  have hnk := T1.ks.2.1
  obtain ⟨W0, hW0⟩ : ∃ W0, W0 = (w.alloc (.cells #[.bool t, .string tx, .string sp, .string lo, .slice Aa na ca, .slice Ak nk ck] 30)).alloc (.cells #[.bool t', .string tx', .string sp', .string lo', .slice Aa' na' ca', .slice Ak' nk' ck'] 30) := ⟨_, rfl⟩
  have HB0 : Hid (Below w.heap.size w W0) := Lib.hid (by rw [hW0]; exact ((Below.refl w.heap.size w).alloc (Nat.le_refl _) _).alloc (by simp) _)
  have HKa : Hid (W0.heap[w.heap.size]? = some (.cells #[.bool t, .string tx, .string sp, .string lo, .slice Aa na ca, .slice Ak nk ck] 30 (0, 0))) := Lib.hid (by rw [hW0]; exact (Below.heap_alloc _ _ _ (by simp)).trans (nblk w 30 _))
  have HKb : Hid (W0.heap[w.heap.size + 1]? = some (.cells #[.bool t', .string tx', .string sp', .string lo', .slice Aa' na' ca', .slice Ak' nk' ck'] 30 (0, 0))) := Lib.hid (by rw [hW0]; have h := nblk (w.alloc (.cells #[.bool t, .string tx, .string sp, .string lo, .slice Aa na ca, .slice Ak nk ck] 30)) 30 #[.bool t', .string tx', .string sp', .string lo', .slice Aa' na' ca', .slice Ak' nk' ck']; rw [World.size_alloc] at h; exact h)
  have HZ : Hid (w.heap.size + 1 < W0.heap.size) := Lib.hid (by rw [hW0]; simp)
  clear T1 T2 hN hF
  by_cases hall : t = t' ∧ tx = tx' ∧ sp = sp' ∧ lo = lo' ∧ na = na' ∧ nk = nk'
  · obtain ⟨h1, h2, h3, h3b, h4, h5⟩ := hall
    subst h1 h2 h3 h3b
    have HE : Hid (F = (((ats.zip ats').all fun p => eq3 p.1 p.2) && smG ks ks')) := Lib.hid (by
      rw [HF.out, eqn_self, ← HT1.out.at_.len, ← HT2.out.at_.len, h4]
      simp)
    have qn : ((na : Int) != (na' : Int)) = false := by rw [bne, h4]; simp
    have qk : ((nk : Int) != (nk' : Int)) = false := by rw [bne, h5]; simp
    have hn12 : na ≤ na' ∧ na' ≤ na := by omega
    have hk12 : nk ≤ nk' ∧ nk' ≤ nk := by omega
    clear HF h4 h5
    go_enter Try.func12, Try.ntmps12
    go_wp2_with fail
    generalize hw : (w.alloc _).alloc _ = W1 at *
    clear hw
    subst hW0
    go_loopw [5] (fun i wr => SvRel ats ats' na W0 i wr) (fun i _ => na - (intOf i).toNat)
    case atStart => exact ⟨0, rfl, Nat.zero_le _, Lib.hid (Below.refl _ _), Lib.hid (fun j x y h => by omega)⟩
    case round =>
      obtain ⟨k, rfl, hk, HR, HA⟩ := hrel
      obtain ⟨_, _, _, _, c4, _⟩ := cells6 ((HR.out.block _ (by have := HZ.out; omega)).trans HKa.out)
      obtain ⟨_, _, _, _, d4, _⟩ := cells6 ((HR.out.block _ HZ.out).trans HKb.out)
      by_cases hlt : k < na
      · have g1 : (k : Int) < (na : Int) := by omega
        have g2 : (k : Int) < (na' : Int) := by omega
        have g0 : (0 : Int) ≤ (k : Int) := by omega
        have hkl : k < ats.length := by rw [← HT1.out.at_.len]; exact hlt
        have hkm : k < ats'.length := by rw [← HT2.out.at_.len]; omega
        have hx := List.getElem?_eq_getElem hkl
        have hy := List.getElem?_eq_getElem hkm
        have hB := Lib.hid (HB0.out.trans (HR.out.mono (by have := HZ.out; omega)))
        obtain ⟨b1, o1, rfl, hb1, x0, x1, x2⟩ := (HT1.out.at_.rd.keep hB.out) k _ hx
        obtain ⟨b2, o2, rfl, hb2, y0, y1, y2⟩ := (HT2.out.at_.rd.keep hB.out) k _ hy
        have HX := Lib.hid hx
        have HY := Lib.hid hy
        generalize ats[k] = u at *
        generalize ats'[k] = v at *
        obtain ⟨⟨ua, ub⟩, uc⟩ := u
        obtain ⟨⟨va, vb⟩, vc⟩ := v
        dsimp only at x0 x1 x2 y0 y1 y2
        clear hx hy hkl hkm hb1 hb2
        by_cases he : eq3 ((ua, ub), uc) ((va, vb), vc) = true
        · have HA2 : Hid (∀ (j : Nat) x y, j < k + 1 → ats[j]? = some x → ats'[j]? = some y → eq3 x y = true) := Lib.hid fun j x y hj h1 h2 => by
            rcases Nat.lt_or_ge j k with g | g
            · exact HA.out j x y g h1 h2
            · obtain rfl : j = k := by omega
              rw [HX.out] at h1
              rw [HY.out] at h2
              injection h1 with h1
              injection h2 with h2
              rw [← h1, ← h2]
              exact he
          unfold eq3 eqn at he
          simp only [Bool.and_eq_true] at he
          obtain ⟨⟨p1, p2⟩, p3⟩ := he
          clear HA HX HY
          go_wp2_with fail
          go_quiet (fail)
          go_wp2
          go_roundw
          case rel => exact ⟨k + 1, by go_num, by omega, Lib.hid (below_drewN HR.out _), HA2⟩
          case measure => simp only [intOf]; omega
        · have he' : eq3 ((ua, ub), uc) ((va, vb), vc) = false := by simpa using he
          have HFf : Hid (F = false) := Lib.hid (by rw [HE.out, zip_no HX.out HY.out he']; rfl)
          have hc : ((ua.toList == va.toList) = false) ∨ ((ua.toList == va.toList) = true ∧ (ub.toList == vb.toList) = false) ∨ ((ua.toList == va.toList) = true ∧ (ub.toList == vb.toList) = true ∧ (uc.toList == vc.toList) = false) := by
            unfold eq3 eqn at he'
            dsimp only at he'
            revert he'
            cases (ua.toList == va.toList) <;> cases (ub.toList == vb.toList) <;> cases (uc.toList == vc.toList) <;> simp
          clear he he' HA HX HY HE
          rcases hc with p1 | ⟨p1, p2⟩ | ⟨p1, p2, p3⟩
          all_goals
            go_wp2_with fail
            go_quiet (fail)
            go_wp2
            go_ret
            exact ⟨by rw [HFf.out] <;> rfl, below_drewN hB.out _⟩
      · have g1 : ¬ (k : Int) < (na : Int) := by omega
        have HE2 : Hid (F = smG (ks.drop 0) (ks'.drop 0)) := Lib.hid (by
          rw [HE.out, zip_yes fun j x y hj h1 h2 => HA.out j x y (by rw [← HT1.out.at_.len] at hj; omega) h1 h2]
          rfl)
        have HBr := HR
        clear HA HE
        go_wp2_with fail
        clear c4 d4
        go_loopw [6] (fun i wr => ∃ k : Nat, i = .int .i64 k ∧ k ≤ nk ∧ Hid (Below W0.heap.size W0 wr) ∧ Hid (F = smG (ks.drop k) (ks'.drop k))) (fun i _ => nk - (intOf i).toNat)
        case atStart => exact ⟨0, rfl, Nat.zero_le _, HBr, HE2⟩
        case round =>
          clear HE2 HBr HR hk hlt g1
          obtain ⟨k, rfl, hk, HR, HA⟩ := hrel
          obtain ⟨_, _, _, _, _, c5⟩ := cells6 ((HR.out.block _ (by have := HZ.out; omega)).trans HKa.out)
          obtain ⟨_, _, _, _, _, d5⟩ := cells6 ((HR.out.block _ HZ.out).trans HKb.out)
          have HB := Lib.hid (HB0.out.trans (HR.out.mono (by have := HZ.out; omega)))
          by_cases hlt : k < nk
          · have g1 : (k : Int) < (nk : Int) := by omega
            have g2 : (k : Int) < (nk' : Int) := by omega
            have g0 : (0 : Int) ≤ (k : Int) := by omega
            obtain ⟨u, ux, us, ul, ua, uk, b1, o1, u1, u2, u3, u4, u5, u6, ed, rfl, hb1, x6, X⟩ := (HT1.out.ks.keep HB.out).at_ (k := k) hlt
            obtain ⟨v, vx, vs, vl, va, vk, b2, o2, v1, v2, v3, v4, v5, v6, ed', rfl, hb2, y6, Y⟩ := (HT2.out.ks.keep HB.out).at_ (k := k) (by omega)
            have hsz : uk.siz < N := by have := siz_kid ed; have := HN.out; omega
            have CS : Hid (∀ W, Below wr.heap.size wr W → Calls Try.prog 12 #[.agg #[.bool u, .string ux, .string us, .string ul, .slice u1 u2 u3, .slice u4 u5 u6], .agg #[.bool v, .string vx, .string vs, .string vl, .slice v1 v2 v3, .slice v4 v5 v6]] W fun e w' => e = .returned (.bool (smG (.cons u ux us ul ua uk .nil) (.cons v vx vs vl va vk .nil))) ∧ Below W.heap.size W w') := Lib.hid fun W hb => hIH.out u ux us ul ua uk u1 u2 u3 u4 u5 u6 v vx vs vl va vk v1 v2 v3 v4 v5 v6 P Q W hsz (X.keep hb) (Y.keep hb)
            have HA2 : Hid (F = (smG (.cons u ux us ul ua uk .nil) (.cons v vx vs vl va vk .nil) && smG (ks.drop (k + 1)) (ks'.drop (k + 1)))) := Lib.hid (by rw [HA.out, ed, ed', sm_one])
            have HX0 : Hid (SmX w.heap.size (w.heap.size + 1) (some ⟨b1, o1, none⟩) nk ck (some ⟨b2, o2, none⟩) nk' ck' (fun W => Tc6 W b1 (o1 + k * 6) u ux us ul u1 u2 u3 u4 u5 u6) (fun W => Tc6 W b2 (o2 + k * 6) v vx vs vl v1 v2 v3 v4 v5 v6) wr wr.drew) := Lib.hid ⟨c5, d5, x6, y6, (Below.refl _ _).drew⟩
            have HKp : Hid (∀ W W', SmX w.heap.size (w.heap.size + 1) (some ⟨b1, o1, none⟩) nk ck (some ⟨b2, o2, none⟩) nk' ck' (fun W => Tc6 W b1 (o1 + k * 6) u ux us ul u1 u2 u3 u4 u5 u6) (fun W => Tc6 W b2 (o2 + k * 6) v vx vs vl v1 v2 v3 v4 v5 v6) wr W → Below W.heap.size W W' → SmX w.heap.size (w.heap.size + 1) (some ⟨b1, o1, none⟩) nk ck (some ⟨b2, o2, none⟩) nk' ck' (fun W => Tc6 W b1 (o1 + k * 6) u ux us ul u1 u2 u3 u4 u5 u6) (fun W => Tc6 W b2 (o2 + k * 6) v vx vs vl v1 v2 v3 v4 v5 v6) wr W') := Lib.hid fun W W' h hb => ⟨cell_lt h.kx hb, cell_lt h.ky hb, h.x.keep hb, h.y.keep hb, h.bel.trans (hb.mono h.bel.size)⟩
            have HSh : Hid (∀ W, SmX w.heap.size (w.heap.size + 1) (some ⟨b1, o1, none⟩) nk ck (some ⟨b2, o2, none⟩) nk' ck' (fun W => Tc6 W b1 (o1 + k * 6) u ux us ul u1 u2 u3 u4 u5 u6) (fun W => Tc6 W b2 (o2 + k * 6) v vx vs vl v1 v2 v3 v4 v5 v6) wr W → (W.cell? ⟨w.heap.size, 5, none⟩ = some (.slice (some ⟨b1, o1, none⟩) nk ck) ∧ W.cell? ⟨w.heap.size + 1, 5, none⟩ = some (.slice (some ⟨b2, o2, none⟩) nk' ck')) ∧ (W.cell? ⟨b1, o1 + k * 6, none⟩ = some (.bool u) ∧ W.cell? ⟨b1, o1 + k * 6 + 1, none⟩ = some (.string ux) ∧ W.cell? ⟨b1, o1 + k * 6 + 2, none⟩ = some (.string us) ∧ W.cell? ⟨b1, o1 + k * 6 + 3, none⟩ = some (.string ul) ∧ W.cell? ⟨b1, o1 + k * 6 + 4, none⟩ = some (.slice u1 u2 u3) ∧ W.cell? ⟨b1, o1 + k * 6 + 5, none⟩ = some (.slice u4 u5 u6)) ∧ W.cell? ⟨b2, o2 + k * 6, none⟩ = some (.bool v) ∧ W.cell? ⟨b2, o2 + k * 6 + 1, none⟩ = some (.string vx) ∧ W.cell? ⟨b2, o2 + k * 6 + 2, none⟩ = some (.string vs) ∧ W.cell? ⟨b2, o2 + k * 6 + 3, none⟩ = some (.string vl) ∧ W.cell? ⟨b2, o2 + k * 6 + 4, none⟩ = some (.slice v1 v2 v3) ∧ W.cell? ⟨b2, o2 + k * 6 + 5, none⟩ = some (.slice v4 v5 v6)) := Lib.hid fun W h => ⟨⟨h.kx, h.ky⟩, h.x, h.y⟩
            clear X Y x6 y6 hb1 hb2 HA ed ed' hsz
            generalize smG (.cons u ux us ul ua uk .nil) (.cons v vx vs vl va vk .nil) = q at *
            go_wp2_with fail
            go_region_held3 (fun W => (W.cell? ⟨w.heap.size, 5, none⟩ = some (.slice (some ⟨b1, o1, none⟩) nk ck) ∧ W.cell? ⟨w.heap.size + 1, 5, none⟩ = some (.slice (some ⟨b2, o2, none⟩) nk' ck')) ∧ (W.cell? ⟨b1, o1 + k * 6, none⟩ = some (.bool u) ∧ W.cell? ⟨b1, o1 + k * 6 + 1, none⟩ = some (.string ux) ∧ W.cell? ⟨b1, o1 + k * 6 + 2, none⟩ = some (.string us) ∧ W.cell? ⟨b1, o1 + k * 6 + 3, none⟩ = some (.string ul) ∧ W.cell? ⟨b1, o1 + k * 6 + 4, none⟩ = some (.slice u1 u2 u3) ∧ W.cell? ⟨b1, o1 + k * 6 + 5, none⟩ = some (.slice u4 u5 u6)) ∧ W.cell? ⟨b2, o2 + k * 6, none⟩ = some (.bool v) ∧ W.cell? ⟨b2, o2 + k * 6 + 1, none⟩ = some (.string vx) ∧ W.cell? ⟨b2, o2 + k * 6 + 2, none⟩ = some (.string vs) ∧ W.cell? ⟨b2, o2 + k * 6 + 3, none⟩ = some (.string vl) ∧ W.cell? ⟨b2, o2 + k * 6 + 4, none⟩ = some (.slice v1 v2 v3) ∧ W.cell? ⟨b2, o2 + k * 6 + 5, none⟩ = some (.slice v4 v5 v6))
              (first | with_reducible exact HSh.out _ HX0.out | with_reducible exact HSh.out _ HX2.out | fail)
              (first
                | (go_at_call 12; refine (CS.out _ HX0.out.bel).mono ?_; rintro e w2 ⟨rfl, hb⟩; have HX2 := Lib.hid (HKp.out _ _ HX0.out hb); clear hb)
                | fail)
            all_goals
              have HB2 := Lib.hid (HR.out.trans (HX2.out.bel.mono HR.out.size))
              cases q with
              | true =>
                have HA3 : Hid (F = smG (ks.drop (k + 1)) (ks'.drop (k + 1))) := Lib.hid (by rw [HA2.out]; rfl)
                clear HA2 HSh HKp HX0 CS HX2
                go_wp2
                go_roundw
                case rel => exact ⟨k + 1, by go_num, by omega, HB2, HA3⟩
                case measure => simp only [intOf]; omega
              | false =>
                have HFf : Hid (F = false) := Lib.hid (by rw [HA2.out]; rfl)
                have HB3 := Lib.hid (HB0.out.trans (HB2.out.mono (by have := HZ.out; omega)))
                clear HA2 HSh HKp HX0 CS HX2
                go_wp2
                go_ret
                exact ⟨by rw [HFf.out] <;> rfl, HB3.out⟩
          · have g1 : ¬ (k : Int) < (nk : Int) := by omega
            have HFt : Hid (F = true) := Lib.hid (by
              have e1 : ks.drop k = .nil := len_zero (by rw [len_drop, ← HT1.out.ks.1]; omega)
              have e2 : ks'.drop k = .nil := len_zero (by rw [len_drop, ← HT2.out.ks.1]; omega)
              rw [HA.out, e1, e2]
              rfl)
            clear HA
            go_wp2
            go_ret
            exact ⟨by rw [HFt.out] <;> rfl, HB.out⟩
  · have HFf : Hid (F = false) := Lib.hid (by
      rw [HF.out]
      by_cases e1 : t = t'
      · by_cases e2 : tx = tx'
        · by_cases e3 : sp = sp' ∧ lo = lo'
          · by_cases e4 : na = na'
            · have e5 : ¬ nk = nk' := fun h => hall ⟨e1, e2, e3.1, e3.2, e4, h⟩
              have : smG ks ks' = false := by
                cases h : smG ks ks'
                · rfl
                · exact absurd (by rw [HT1.out.ks.1, HT2.out.ks.1, sm_len h]) e5
              rw [this, Bool.and_false]
            · have : (ats.length == ats'.length) = false := by rw [← HT1.out.at_.len, ← HT2.out.at_.len, beq_eq_false_iff_ne]; exact e4
              rw [this]; simp
          · have : eqn (sp, lo) (sp', lo') = false := by
              cases h : eqn (sp, lo) (sp', lo')
              · rfl
              · unfold eqn at h
                simp only [Bool.and_eq_true, beq_iff_eq] at h
                exact absurd ⟨toList_eq h.1, toList_eq h.2⟩ e3
            rw [this]; simp
        · have : (tx.toList == tx'.toList) = false := by rw [beq_eq_false_iff_ne]; exact fun h => e2 (toList_eq h)
          rw [this]; simp
      · have : (t == t') = false := by rw [beq_eq_false_iff_ne]; exact e1
        rw [this]; simp)
    have hc : (¬ t = t') ∨ (t = t' ∧ ¬ tx.toList = tx'.toList) ∨ (t = t' ∧ tx = tx' ∧ (sp.toList == sp'.toList) = false) ∨ (t = t' ∧ tx = tx' ∧ sp = sp' ∧ (lo.toList == lo'.toList) = false) ∨ (t = t' ∧ tx = tx' ∧ sp = sp' ∧ lo = lo' ∧ ((na : Int) != (na' : Int)) = true) ∨ (t = t' ∧ tx = tx' ∧ sp = sp' ∧ lo = lo' ∧ ((na : Int) != (na' : Int)) = false ∧ ((nk : Int) != (nk' : Int)) = true) := by
      by_cases e1 : t = t'
      · right
        by_cases e2 : tx = tx'
        · right
          by_cases e3 : sp = sp'
          · right
            by_cases e3b : lo = lo'
            · right
              by_cases e4 : na = na'
              · exact .inr ⟨e1, e2, e3, e3b, by rw [bne, e4]; simp, by rw [bne_iff_ne]; intro h; exact hall ⟨e1, e2, e3, e3b, e4, by omega⟩⟩
              · exact .inl ⟨e1, e2, e3, e3b, by rw [bne_iff_ne]; omega⟩
            · exact .inl ⟨e1, e2, e3, by rw [beq_eq_false_iff_ne]; exact fun h => e3b (toList_eq h)⟩
          · exact .inl ⟨e1, e2, by rw [beq_eq_false_iff_ne]; exact fun h => e3 (toList_eq h)⟩
        · exact .inl ⟨e1, fun h => e2 (toList_eq h)⟩
      · exact .inl e1
    clear hall HF HT1 HT2 HKa HKb HZ hIH HN
    rcases hc with p1 | ⟨rfl, p2⟩ | ⟨rfl, rfl, p3⟩ | ⟨rfl, rfl, rfl, p4⟩ | ⟨rfl, rfl, rfl, rfl, p5⟩ | ⟨rfl, rfl, rfl, rfl, p5, p6⟩
    all_goals
      go_enter Try.func12, Try.ntmps12
      go_wp2_with fail
      generalize hw : (w.alloc _).alloc _ = W1 at *
      clear hw
      subst hW0
      go_ret
      exact ⟨by rw [HFf.out] <;> rfl, HB0.out⟩
theorem same_all : ∀ N : Nat, TrC N
  | 0 => by
    intro t tx sp lo ats ks Aa na ca Ak nk ck t' tx' sp' lo' ats' ks' Aa' na' ca' Ak' nk' ck' P Q W h
    omega
  | N + 1 => same_step N (Lib.hid (same_all N))
end Go.Proofs.Ytaoggciebkaakaa.Ev

/- The document's size, Few (layer 10) of whatever tree. -/
set_option linter.unusedSimpArgs false
set_option linter.unusedVariables false
namespace Go.Proofs.Ytaoggciebkaakaa.Ev
open Go.RowKit

/-- How deep trees within trees are. -/
def Fo.dep : Fo → Nat
  | .nil => 0
  | .cons _ _ _ _ _ ks nx => max (1 + ks.dep) nx.dep
theorem siz_app : ∀ f g : Fo, (f.app g).siz = f.siz + g.siz
  | .nil, g => by rw [Fo.app, Fo.siz, Nat.zero_add]
  | .cons t tx sp lo ats ks nx, g => by rw [Fo.app, Fo.siz, Fo.siz, siz_app nx g]; omega
theorem dep_app_F : ∀ f g : Fo, (f.app g).dep = max f.dep g.dep
  | .nil, g => by rw [Fo.app, Fo.dep]; omega
  | .cons t tx sp lo ats ks nx, g => by rw [Fo.app, Fo.dep, Fo.dep, dep_app_F nx g]; omega
theorem siz_snoc {f : Fo} {k : Nat} (hk : k < f.len) : ∃ t tx sp lo ats ks, f.drop k = .cons t tx sp lo ats ks (f.drop (k + 1)) ∧ (f.take (k + 1)).siz = (f.take k).siz + (Fo.cons t tx sp lo ats ks .nil).siz ∧ (f.take (k + 1)).dep = max (f.take k).dep (Fo.cons t tx sp lo ats ks .nil).dep := by
  obtain ⟨t, tx, sp, lo, ats, ks, e1, e2⟩ := drop_cons hk
  exact ⟨t, tx, sp, lo, ats, ks, e1, by rw [e2, siz_app], by rw [e2, dep_app_F]⟩
/-- What size answers: how many, if that is not more than most; some more, if it is. -/
def SzPost (f : Fo) (most d : Nat) (w : World) (e : Ending) (w' : World) : Prop := ∃ z : Nat, e = .returned (.int .i64 (z : Int)) ∧ z ≤ most + 1 ∧ (z ≤ most → z = f.siz ∧ f.dep ≤ d) ∧ Below w.heap.size w w'
def SzC (d : Nat) : Prop := ∀ (t : Bool) (tx sp lo : ByteArray) (ats : List P3) (ks : Fo) (Aa : Option Addr) (na ca : Nat) (Ak : Option Addr) (nk ck : Nat) (P : Nat → Prop) (most : Nat) (W : World), most ≤ 150 → Tr1 P W tx sp lo ats ks Aa na ca Ak nk ck →
    Calls Try.prog 29 #[.agg #[.bool t, .string tx, .string sp, .string lo, .slice Aa na ca, .slice Ak nk ck], .int .i64 (most : Int), .int .i64 (d : Int)] W (SzPost (.cons t tx sp lo ats ks .nil) most d W)
theorem size_zero : SzC 0 := by
  intro t tx sp lo ats ks Aa na ca Ak nk ck P most w hm T
  have HB := Lib.hid ((Below.refl w.heap.size w).alloc (Nat.le_refl _) (.cells #[.bool t, .string tx, .string sp, .string lo, .slice Aa na ca, .slice Ak nk ck] 30))
  clear T
  go_enter Try.func29, Try.ntmps29
  go_wp2
  go_ret
  exact ⟨most + 1, by rw [Int.natCast_add]; rfl, Nat.le_refl _, fun h => by omega, HB.out⟩
set_option maxHeartbeats 8000000 in
set_option maxRecDepth 100000 in
theorem size_step (d : Nat) (hd : d ≤ 100) (hIH : Hid (SzC d)) : SzC (d + 1) := by
  intro t tx sp lo ats ks Aa na ca Ak nk ck P most w hm T
  have HT := Lib.hid T
  have hnk := T.ks.2.1
  have HB0 := Lib.hid ((Below.refl w.heap.size w).alloc (Nat.le_refl _) (.cells #[.bool t, .string tx, .string sp, .string lo, .slice Aa na ca, .slice Ak nk ck] 30))
  have HK0 := Lib.hid (nblk w 30 #[.bool t, .string tx, .string sp, .string lo, .slice Aa na ca, .slice Ak nk ck])
  have HZ := Lib.hid (show w.heap.size < (w.alloc (.cells #[.bool t, .string tx, .string sp, .string lo, .slice Aa na ca, .slice Ak nk ck] 30)).heap.size by simp)
  have d0 : (((d + 1 : Nat) : Int) == 0) = false := by rw [beq_eq_false_iff_ne]; omega
  have d1 : IntKind.i64.wrap (((d + 1 : Nat) : Int) - 1) = (d : Int) := by rw [IntWalk.i64_in _ (by omega)]; omega
  have HS0 : Hid (1 ≤ most → 1 = 1 + (ks.take 0).siz ∧ (ks.take 0).dep + 1 ≤ d + 1) := Lib.hid fun _ => by cases ks <;> exact ⟨rfl, by simp [Fo.take, Fo.dep]⟩
  generalize he : d + 1 = e at *
  have HE := Lib.hid he
  have hed : e ≤ 101 := by omega
  clear T he
  go_enter Try.func29, Try.ntmps29
  go_wp2_with fail
  generalize hW0 : w.alloc (.cells #[.bool t, .string tx, .string sp, .string lo, .slice Aa na ca, .slice Ak nk ck] 30) = W0 at *
  clear hW0
  go_loopw [7, 8] (fun vn i wr => ∃ k m : Nat, i = .int .i64 k ∧ vn = .int .i64 m ∧ k ≤ nk ∧ 1 ≤ m ∧ m ≤ most + 1 ∧ Hid (Below W0.heap.size W0 wr) ∧ Hid (m ≤ most → m = 1 + (ks.take k).siz ∧ (ks.take k).dep + 1 ≤ e)) (fun _ i _ => nk - (intOf i).toNat)
  case atStart => exact ⟨0, 1, rfl, rfl, Nat.zero_le _, Nat.le_refl _, by omega, Lib.hid (Below.refl _ _), HS0⟩
  case round =>
    clear HS0
    obtain ⟨k, m, rfl, rfl, hk, hm1, hm2, HR, HA⟩ := hrel
    obtain ⟨_, _, _, _, _, c5⟩ := cells6 ((HR.out.block _ HZ.out).trans HK0.out)
    have HB := Lib.hid (HB0.out.trans (HR.out.mono (Nat.le_of_lt HZ.out)))
    by_cases hlt : k < nk
    · have g1 : (k : Int) < (nk : Int) := by omega
      have g0 : (0 : Int) ≤ (k : Int) := by omega
      by_cases hmm : m ≤ most
      · have g2 : (m : Int) ≤ (most : Int) := by omega
        have g2' : decide ((m : Int) ≤ (most : Int)) = true := decide_eq_true g2
        obtain ⟨u, ux, us, ul, ua, uk, b1, o1, u1, u2, u3, u4, u5, u6, ed, rfl, hb1, x6, X⟩ := (HT.out.ks.keep HB.out).at_ (k := k) hlt
        obtain ⟨mo, hmo⟩ : ∃ mo, m + mo = most := ⟨most - m, by omega⟩
        have q1 : IntKind.i64.wrap ((most : Int) - (m : Int)) = (mo : Int) := by rw [IntWalk.i64_in _ (by omega)]; omega
        have CS := Lib.hid (hIH.out u ux us ul ua uk u1 u2 u3 u4 u5 u6 P mo wr (by omega) X)
        have HSn : Hid ((ks.take (k + 1)).siz = (ks.take k).siz + (Fo.cons u ux us ul ua uk .nil).siz ∧ (ks.take (k + 1)).dep = max (ks.take k).dep (Fo.cons u ux us ul ua uk .nil).dep) := Lib.hid (by
          obtain ⟨t', tx', sp', lo', ats', ks', e1, e2, e3⟩ := siz_snoc (f := ks) (k := k) (by rw [← HT.out.ks.1]; exact hlt)
          rw [ed] at e1
          injection e1 with e1 e4 e5 e6 e7 e8 e9
          subst e1 e4 e5 e6 e7 e8
          exact ⟨e2, e3⟩)
        have HMo := Lib.hid hmo
        obtain ⟨x1, x2, x3, x4, x5, x7⟩ := x6
        have hmo2 : mo ≤ 150 := by omega
        clear X ed hb1 hmo
        go_wp2_with fail
        refine CS.out.mono ?_
        rintro e' w2 ⟨z, rfl, z1, z2, b2⟩
        have HB2 := Lib.hid (HR.out.trans (b2.mono HR.out.size))
        have HZ2 := Lib.hid z2
        have hz3 : m + z ≤ most + 1 := by have := HMo.out; omega
        have q3 : IntKind.i64.wrap ((m : Int) + (z : Int)) = (m : Int) + (z : Int) := by rw [IntWalk.i64_in _ (by omega)]
        clear CS b2 z2 x1 x2 x3 x4 x5 x7 c5 q1
        go_wp2
        go_roundw
        case rel => exact ⟨k + 1, m + z, by go_num, by go_num, by omega, by omega, hz3, HB2, Lib.hid fun h => by
          have h1 := HA.out hmm
          have h2 := HZ2.out (by have := HMo.out; omega)
          have h3 := HSn.out
          have h4 := HE.out
          exact ⟨by omega, by omega⟩⟩
        case measure => simp only [intOf]; omega
      · have g2 : ¬ (m : Int) ≤ (most : Int) := by omega
        have g2' : decide ((m : Int) ≤ (most : Int)) = false := decide_eq_false g2
        clear HA
        go_wp2
        go_ret
        exact ⟨m, rfl, hm2, fun h => absurd h hmm, HB.out⟩
    · have g1 : ¬ (k : Int) < (nk : Int) := by omega
      have hkk : k = ks.len := by have := HT.out.ks.1; omega
      have HF : Hid (m ≤ most → m = (Fo.cons t tx sp lo ats ks .nil).siz ∧ (Fo.cons t tx sp lo ats ks .nil).dep ≤ e) := Lib.hid fun h => by
        have h1 := HA.out h
        rw [hkk, take_all] at h1
        rw [Fo.siz, Fo.dep, Fo.siz, Fo.dep]
        exact ⟨by omega, by omega⟩
      clear HA hkk
      go_wp2
      go_ret
      exact ⟨m, rfl, hm2, HF.out, HB.out⟩
theorem size_all : ∀ d : Nat, d ≤ 100 → SzC d
  | 0, _ => size_zero
  | d + 1, h => size_step d (by omega) (Lib.hid (size_all d (by omega)))
def FtPost (f : Fo) (w : World) (e : Ending) (w' : World) : Prop := ∃ b, e = .returned (.bool b) ∧ (b = true → f.siz ≤ 150 ∧ f.dep ≤ 70) ∧ Below w.heap.size w w'
set_option maxRecDepth 100000 in
theorem tfew_any (t : Bool) (tx sp lo : ByteArray) (ats : List P3) (ks : Fo) (Aa : Option Addr) (na ca : Nat) (Ak : Option Addr) (nk ck : Nat) (P : Nat → Prop) (w : World) (T : Tr1 P w tx sp lo ats ks Aa na ca Ak nk ck) :
    Calls Try.prog 14 #[.agg #[.bool t, .string tx, .string sp, .string lo, .slice Aa na ca, .slice Ak nk ck]] w (FtPost (.cons t tx sp lo ats ks .nil) w) := by
  have HB0 := Lib.hid ((Below.refl w.heap.size w).alloc (Nat.le_refl _) (.cells #[.bool t, .string tx, .string sp, .string lo, .slice Aa na ca, .slice Ak nk ck] 30))
  have CS := Lib.hid (size_all 70 (by omega) t tx sp lo ats ks Aa na ca Ak nk ck P 150 (w.alloc (.cells #[.bool t, .string tx, .string sp, .string lo, .slice Aa na ca, .slice Ak nk ck] 30)) (by omega) (T.keep HB0.out))
  clear T
  go_enter Try.func14, Try.ntmps14
  go_wp2_with fail
  refine CS.out.mono ?_
  rintro e w1 ⟨z, rfl, z1, z2, b1⟩
  have HB1 := Lib.hid (HB0.out.trans (b1.mono HB0.out.size))
  have HZ2 := Lib.hid z2
  clear z2 b1 CS
  by_cases h : z ≤ 150
  · have g2 : (z : Int) ≤ 150 := by omega
    have g2' : decide ((z : Int) ≤ 150) = true := decide_eq_true g2
    go_wp2
    go_ret
    exact ⟨true, by first | rfl | (simp; omega), fun _ => by have := HZ2.out h; omega, HB1.out⟩
  · have g2 : ¬ (z : Int) ≤ 150 := by omega
    have g2' : decide ((z : Int) ≤ 150) = false := decide_eq_false g2
    go_wp2
    go_ret
    exact ⟨false, by first | rfl | (simp; omega), fun h => (by cases h), HB1.out⟩
end Go.Proofs.Ytaoggciebkaakaa.Ev

/- The document's Same (layer 8) of two lists of events that are the same. -/
set_option linter.unusedSimpArgs false
set_option linter.unusedVariables false
namespace Go.Proofs.Ytaoggciebkaakaa.Ev
open Go.RowKit

/-- One event's cells. -/
structure Ev1 (W : World) (b o : Nat) (kx : Int) (na nb tx : ByteArray) (Aa : Option Addr) (n c : Nat) : Prop where
  c0 : W.cell? ⟨b, o, none⟩ = some (.int .i64 kx)
  c1 : W.cell? ⟨b, o + 1, none⟩ = some (.string na)
  c2 : W.cell? ⟨b, o + 2, none⟩ = some (.string nb)
  c3 : W.cell? ⟨b, o + 3, none⟩ = some (.slice Aa n c)
  c4 : W.cell? ⟨b, o + 4, none⟩ = some (.string tx)
theorem Ev1.keep {W W' : World} {b o : Nat} {kx : Int} {na nb tx : ByteArray} {Aa : Option Addr} {n c : Nat} (h : Ev1 W b o kx na nb tx Aa n c) (hb : Below W.heap.size W W') (hlt : b < W.heap.size) : Ev1 W' b o kx na nb tx Aa n c :=
  ⟨(hb.cell (p := ⟨b, o, none⟩) hlt).trans h.c0, (hb.cell (p := ⟨b, o + 1, none⟩) hlt).trans h.c1, (hb.cell (p := ⟨b, o + 2, none⟩) hlt).trans h.c2, (hb.cell (p := ⟨b, o + 3, none⟩) hlt).trans h.c3, (hb.cell (p := ⟨b, o + 4, none⟩) hlt).trans h.c4⟩
def SmRel (n : Nat) (w : World) (i : Value) (wr : World) : Prop := ∃ k : Nat, i = .int .i64 k ∧ k ≤ n ∧ Hid (Below w.heap.size w wr)
set_option maxHeartbeats 4000000 in
set_option maxRecDepth 100000 in
theorem same_any (l : List RE) (n : Nat) (A1 A2 : Option Addr) (k1 k2 : Nat) (w : World) (T1 : EvsIn w A1 n k1 l) (T2 : EvsIn w A2 n k2 l) :
    Calls Try.prog 16 #[.slice A1 n k1, .slice A2 n k2] w fun e w' => e = .returned (.bool true) ∧ Below w.heap.size w w' := by
  have H1 := Lib.hid T1.rd
  have H2 := Lib.hid T2.rd
  have HN := Lib.hid T1.len
  have hl := T1.lsz
  unfold maxLen at hl
  clear T1 T2
  go_enter Try.func16, Try.ntmps16
  go_wp2_with fail
  go_loopw [5] (fun i wr => SmRel n w i wr) (fun i _ => n - (intOf i).toNat)
  case atStart => exact ⟨0, rfl, Nat.zero_le _, Lib.hid (Below.refl _ _)⟩
  case round =>
    obtain ⟨k, rfl, hk, hB⟩ := hrel
    by_cases hlt : k < n
    · have hkl : k < l.length := by rw [← HN.out]; exact hlt
      obtain ⟨b1, o1, Aa1, m1, d1, rfl, hb1, r1, x0, x1, x2, x3, x4⟩ := (H1.out.keep hB.out) k _ (List.getElem?_eq_getElem hkl)
      obtain ⟨b2, o2, Aa2, m2, d2, rfl, hb2, r2, y0, y1, y2, y3, y4⟩ := (H2.out.keep hB.out) k _ (List.getElem?_eq_getElem hkl)
      have g1 : (k : Int) < (n : Int) := by omega
      have g0 : (0 : Int) ≤ (k : Int) := by omega
      generalize l[k] = x at *
      have CS : Hid (∀ W, Below wr.heap.size wr W → Calls Try.prog 30 #[.agg #[.int .i64 x.kind, .string x.sp, .string x.lo, .slice Aa1 m1 d1, .string x.tx], .agg #[.int .i64 x.kind, .string x.sp, .string x.lo, .slice Aa2 m2 d2, .string x.tx]] W fun e w' => e = .returned (.bool true) ∧ Below W.heap.size W w') := Lib.hid fun W hW => by
        have := sev_gen Aa1 Aa2 m1 m2 d1 d2 x x W (r1.keep hW) (r2.keep hW)
        rw [same_self] at this
        exact this
      have HX := Lib.hid (⟨x0, x1, x2, x3, x4⟩ : Ev1 wr b1 (o1 + k * 5) x.kind x.sp x.lo x.tx Aa1 m1 d1)
      have HY := Lib.hid (⟨y0, y1, y2, y3, y4⟩ : Ev1 wr b2 (o2 + k * 5) x.kind x.sp x.lo x.tx Aa2 m2 d2)
      have HL1 := Lib.hid hb1
      have HL2 := Lib.hid hb2
      clear r1 r2 hkl hb1 hb2
      obtain ⟨xk, xs, xl, xa, xt⟩ := x
      dsimp only at *
      have X1 := Lib.hid (HX.out.keep (Below.refl _ wr).drew HL1.out)
      have Y1 := Lib.hid (HY.out.keep (Below.refl _ wr).drew HL2.out)
      go_wp2_with fail
      go_region_held3 (fun W => (W.cell? ⟨b1, o1 + k * 5, none⟩ = some (.int .i64 xk) ∧ W.cell? ⟨b1, o1 + k * 5 + 1, none⟩ = some (.string xs) ∧ W.cell? ⟨b1, o1 + k * 5 + 2, none⟩ = some (.string xl) ∧ W.cell? ⟨b1, o1 + k * 5 + 3, none⟩ = some (.slice Aa1 m1 d1) ∧ W.cell? ⟨b1, o1 + k * 5 + 4, none⟩ = some (.string xt)) ∧ W.cell? ⟨b2, o2 + k * 5, none⟩ = some (.int .i64 xk) ∧ W.cell? ⟨b2, o2 + k * 5 + 1, none⟩ = some (.string xs) ∧ W.cell? ⟨b2, o2 + k * 5 + 2, none⟩ = some (.string xl) ∧ W.cell? ⟨b2, o2 + k * 5 + 3, none⟩ = some (.slice Aa2 m2 d2) ∧ W.cell? ⟨b2, o2 + k * 5 + 4, none⟩ = some (.string xt))
        (first | with_reducible exact ⟨⟨X1.out.c0, X1.out.c1, X1.out.c2, X1.out.c3, X1.out.c4⟩, Y1.out.c0, Y1.out.c1, Y1.out.c2, Y1.out.c3, Y1.out.c4⟩ | with_reducible exact ⟨⟨X2.out.c0, X2.out.c1, X2.out.c2, X2.out.c3, X2.out.c4⟩, Y2.out.c0, Y2.out.c1, Y2.out.c2, Y2.out.c3, Y2.out.c4⟩ | fail)
        (first | (go_at_call 30; refine (CS.out _ (Below.refl _ wr).drew).mono ?_; rintro e w2 ⟨rfl, hb⟩; have X2 := Lib.hid (HX.out.keep ((Below.refl _ wr).drew.trans hb) HL1.out); have Y2 := Lib.hid (HY.out.keep ((Below.refl _ wr).drew.trans hb) HL2.out); have B2 := Lib.hid (hB.out.trans (((Below.refl _ wr).drew.trans hb).mono hB.out.size)); clear hb) | fail)
      go_wp2
      go_roundw
      case rel => exact ⟨k + 1, by go_num, by omega, B2⟩
      case measure => simp only [intOf]; omega
    · have g1 : ¬ (k : Int) < (n : Int) := by omega
      go_wp2_with fail
      go_ret
      exact ⟨rfl, hB.out⟩
end Go.Proofs.Ytaoggciebkaakaa.Ev

/- WordPrefixes (layer 9) over the contracts of what it calls. -/
set_option linter.unusedSimpArgs false
set_option linter.unusedVariables false
namespace Go.Proofs.Ytaoggciebkaakaa.Ev
open Go.RowKit

theorem Try.info38 : (Try.prog.info? 38).map (fun i => (i.zero, i.size, i.bytes)) = some (some (.agg #[.int .i64 0, .string ⟨#[]⟩, .string ⟨#[]⟩, .slice none 0 0, .string ⟨#[]⟩]), 5, 80) := by kernel_rfl
theorem wpList_append_any {P : Program} {w : World} {ops : Array Oper} {rest : List Oper} {o : Oper} {a : Act} {Q : Exit → Act → World → Prop} (hgd : o.guard = none) (s x : Operand) (t : TypeId)
    (ho : o.op = .call { callee := .builtin .append, args := #[s, x], argTypes := #[t, t] })
    (base : Nat) (e : TypeId) (i : TypeInfo) (z : Value) (size bytes : Nat) (ht : P.underlying t = some (.slice e)) (hi : P.info? e = some i) (hz : i.zero = some z) (hsize : i.size = size) (hby : i.bytes = bytes) (hzs : z.cells.size = size) (hsz : 0 < size)
    (v : Value) (n : Nat) (xs : List Value) (hs : a.eval s = v) (hown : w.ownsRow base e size v n xs)
    (A : Option Addr) (m c : Nat) (news : List Value) (hx : a.eval x = .slice A m c) (hnil : A = none → m = 0 ∧ c = 0) (hl : news.length = m * size) (hnews : ∀ ad, A = some ad → ∀ j u, news[j]? = some u → w.cell? (ad.add j) = some u) (h1 : ∀ u ∈ news, u.oneCell' = true)
    (h63 : n + m ≤ maxLen) (hbytes : (n + m) * bytes ≤ 140737488355328) (hbase : base ≤ w.heap.size)
    (h : ∀ v' w', w'.ownsRow base e size v' (n + m) (xs ++ news) → w.grownBy w' v.ownBlock → wpList P ops Q rest (a.put o.dst v') w') :
    wpList P ops Q (o :: rest) a w := by
  cases A with
  | some ad => exact wpList_append_own w hgd s x t ho base e i z size bytes ht hi hz hsize hby hzs hsz v n xs hs hown ad m c news hx hl (hnews ad rfl) h1 h63 hbytes hbase (fun v' w' a1 a2 _ => h v' w' a1 a2)
  | none =>
    obtain ⟨rfl, rfl⟩ := hnil rfl
    have hnw : news = [] := List.eq_nil_of_length_eq_zero (by rw [hl, Nat.zero_mul])
    subst hnw
    refine wpList_plain hgd fun K hK => ?_
    have hr := run_append_owned_none (P := P) (w := w) base t o.type e i size ht hi v n xs hown
    unfold Oper.wp execOp
    simp only [ho, resolve, invoke, builtin, Sem.run_bind, Sem.run_pure, Result.andThen_ok, List.map_toArray, List.map_cons, List.map_nil, hs, hx, hr]
    exact hK _ _ (h v w (by rw [List.append_nil]; exact hown) ⟨rfl, rfl, rfl, Nat.le_refl _, fun _ _ _ => rfl⟩)
theorem own_src {W : World} {B n c z : Nat} {e : TypeId} {A : Option Addr} {xs : List Value} (h : W.ownsRow B e z (.slice A n c) n xs) : (A = none → n = 0 ∧ c = 0) ∧ ∀ ad, A = some ad → ∀ j u, xs[j]? = some u → W.cell? (ad.add j) = some u := by
  rcases h.2 with ⟨q, h0⟩ | ⟨g, cap, cur, q, hB, hh, hr⟩
  · injection q with q1 q2 q3
    refine ⟨fun _ => ⟨h0, q3⟩, fun ad e => ?_⟩
    rw [q1] at e
    cases e
  · injection q with q1 q2 q3
    subst q1
    refine ⟨(fun e => by cases e), fun ad e j u hu => ?_⟩
    cases e
    exact h.cells rfl j u hu
theorem clR (pL tR : ByteArray → Bool) : rightF pL tR clE = true := by
  have e : emB.toList.isEmpty = true := by rw [Lib.toList_data]; rfl
  unfold rightF noneF emp clE
  dsimp only
  rw [if_neg (by decide), if_pos rfl, e]
  rfl
end Go.Proofs.Ytaoggciebkaakaa.Ev

/- Plain functions on numbers and bytes: what package utf and the document's answer compute. No program is named here. -/
namespace Go.Proofs.Ytaoggciebkaakaa

/-- The byte at a place, as a number (0 beyond the end). -/
def bt (s : ByteArray) (k : Nat) : Int := ((s.data.toList.getD k 0).toNat : Int)
theorem bt_lo (s : ByteArray) (k : Nat) : 0 ≤ bt s k := by unfold bt; omega
theorem bt_hi (s : ByteArray) (k : Nat) : bt s k < 256 := by unfold bt; have := (s.data.toList.getD k 0).toNat_lt; omega
theorem bt_eq (s : ByteArray) (k : Nat) (h : k < s.size) : ((s[k]).toNat : Int) = bt s k := by
  unfold bt
  have h' : k < s.data.toList.length := by simpa using h
  rw [List.getD_eq_getElem?_getD, List.getElem?_eq_getElem h']
  rfl

/-- How many bytes a first byte says that its rune has, and that byte's bits. -/
def leadN (b : Int) : Nat := if b < 128 then 1 else if b < 192 then 0 else if b < 224 then 2 else if b < 240 then 3 else if b < 248 then 4 else 0
def leadR (b : Int) : Int := if b < 128 then b else if b < 192 then 0 else if b < 224 then b - 192 else if b < 240 then b - 224 else if b < 248 then b - 240 else 0

def least (n : Nat) : Int := if n = 1 then 0 else if n = 2 then 128 else if n = 3 then 2048 else 65536
def most (n : Nat) : Int := if n = 1 then 127 else if n = 2 then 2047 else if n = 3 then 65535 else 1114111
def p64 (n : Nat) : Int := if n = 0 then 1 else if n = 1 then 64 else if n = 2 then 4096 else 262144
def possB (r : Int) (k n : Nat) : Bool :=
  n != 0 && !(decide (55296 ≤ r * p64 (n - k)) && decide (r * p64 (n - k) + p64 (n - k) - 1 ≤ 57343)) && decide (r * p64 (n - k) ≤ most n) && decide (least n ≤ r * p64 (n - k) + p64 (n - k) - 1)

/-- The decoder's loop: 'b k' is the k-th byte from the place on, of which there are 'left'. -/
def rgo (b : Nat → Int) (left n : Nat) : Nat → Nat → Int → Int × Int × Int
  | 0, _, _ => (0, 0, 2)
  | f + 1, k, r => if possB r k n = false then (0, 0, 2) else if k = n then (r, n, 0) else if k = left then (0, 0, 7) else if b k / 64 = 2 then rgo b left n f (k + 1) (r * 64 + b k % 64) else (0, 0, 2)

/-- A rune, by its first bytes: the rune, how many bytes, the error's number. -/
def canon (b : Nat → Int) (left : Nat) : Int × Int × Int :=
  if b 0 < 128 then (b 0, 1, 0)
  else if b 0 < 194 then (0, 0, 2)
  else if b 0 < 224 then
    if left < 2 then (0, 0, 7) else if b 1 < 128 ∨ 191 < b 1 then (0, 0, 2) else ((b 0 - 192) * 64 + (b 1 - 128), 2, 0)
  else if b 0 < 240 then
    if left < 2 then (0, 0, 7)
    else if b 1 < (if b 0 = 224 then 160 else 128) ∨ (if b 0 = 237 then 159 else 191) < b 1 then (0, 0, 2)
    else if left < 3 then (0, 0, 7) else if b 2 < 128 ∨ 191 < b 2 then (0, 0, 2)
    else ((b 0 - 224) * 4096 + (b 1 - 128) * 64 + (b 2 - 128), 3, 0)
  else if b 0 < 245 then
    if left < 2 then (0, 0, 7)
    else if b 1 < (if b 0 = 240 then 144 else 128) ∨ (if b 0 = 244 then 143 else 191) < b 1 then (0, 0, 2)
    else if left < 3 then (0, 0, 7) else if b 2 < 128 ∨ 191 < b 2 then (0, 0, 2)
    else if left < 4 then (0, 0, 7) else if b 3 < 128 ∨ 191 < b 3 then (0, 0, 2)
    else ((b 0 - 240) * 262144 + (b 1 - 128) * 4096 + (b 2 - 128) * 64 + (b 3 - 128), 4, 0)
  else (0, 0, 2)

theorem possB_eq (r : Int) (k n : Nat) (c : Bool) (h : (n ≠ 0 ∧ ¬ (55296 ≤ r * p64 (n - k) ∧ r * p64 (n - k) + p64 (n - k) - 1 ≤ 57343) ∧ r * p64 (n - k) ≤ most n ∧ least n ≤ r * p64 (n - k) + p64 (n - k) - 1) ↔ c = true) : possB r k n = c := by
  rw [Bool.eq_iff_iff, ← h]
  simp [possB, and_assoc]
  omega

theorem rgo_step (b : Nat → Int) (left n f k : Nat) (r : Int) : rgo b left n (f + 1) k r = if possB r k n = false then (0, 0, 2) else if k = n then (r, (n : Int), 0) else if k = left then (0, 0, 7) else if b k / 64 = 2 then rgo b left n f (k + 1) (r * 64 + b k % 64) else (0, 0, 2) := rfl

theorem possB_false (r : Int) (k n : Nat) : possB r k n = false ↔ (n = 0 ∨ (55296 ≤ r * p64 (n - k) ∧ r * p64 (n - k) + p64 (n - k) - 1 ≤ 57343) ∨ most n < r * p64 (n - k) ∨ r * p64 (n - k) + p64 (n - k) - 1 < least n) := by
  simp [possB]
  omega

theorem p64_0 : p64 0 = 1 := rfl
theorem p64_1 : p64 1 = 64 := rfl
theorem p64_2 : p64 2 = 4096 := rfl
theorem p64_3 : p64 3 = 262144 := rfl
theorem least1 : least 1 = 0 := rfl
theorem most1 : most 1 = 127 := rfl
theorem least2 : least 2 = 128 := rfl
theorem least3 : least 3 = 2048 := rfl
theorem least4 : least 4 = 65536 := rfl
theorem most2 : most 2 = 2047 := rfl
theorem most3 : most 3 = 65535 := rfl
theorem most4 : most 4 = 1114111 := rfl
theorem tri {a b c a1 b1 c1 : Int} (h : a = a1) (h1 : b = b1) (h2 : c = c1) : (a, b, c) = (a1, b1, c1) := by subst h h1 h2; rfl
theorem rgo0 (b : Nat → Int) (left f : Nat) (r : Int) (k : Nat) : rgo b left 0 (f + 1) k r = (0, 0, 2) := by simp [rgo, possB]

/-- Rune: of whatever bytes, at whatever place. -/
def runeF (s : ByteArray) (a : Int) : Int × Int × Int := if a < 0 ∨ (s.size : Int) ≤ a then (0, 0, 7) else canon (fun k => bt s (a.toNat + k)) (s.size - a.toNat)

def Okay (left : Nat) (x : Int × Int × Int) : Prop := (x.2.2 = 0 ∧ 1 ≤ x.2.1 ∧ x.2.1 ≤ 4 ∧ x.2.1 ≤ left ∧ 0 ≤ x.1 ∧ x.1 ≤ 1114111 ∧ ¬ (55296 ≤ x.1 ∧ x.1 ≤ 57343)) ∨ (x.1 = 0 ∧ x.2.1 = 0 ∧ (x.2.2 = 2 ∨ x.2.2 = 7))
theorem okay_ite {left : Nat} {c : Prop} [Decidable c] {x y : Int × Int × Int} (h1 : c → Okay left x) (h2 : ¬ c → Okay left y) : Okay left (if c then x else y) := by
  by_cases h : c
  · rw [if_pos h]; exact h1 h
  · rw [if_neg h]; exact h2 h
theorem okay2 {left : Nat} : Okay left (0, 0, 2) := .inr ⟨rfl, rfl, .inl rfl⟩
theorem okay7 {left : Nat} : Okay left (0, 0, 7) := .inr ⟨rfl, rfl, .inr rfl⟩
theorem okay_mk {left : Nat} {r n : Int} (h1 : 1 ≤ n) (h2 : n ≤ 4) (h3 : n ≤ left) (h4 : 0 ≤ r) (h5 : r ≤ 1114111) (h6 : ¬ (55296 ≤ r ∧ r ≤ 57343)) : Okay left (r, n, 0) := .inl ⟨rfl, h1, h2, h3, h4, h5, h6⟩
theorem canon_okay (b : Nat → Int) (left : Nat) (hl : 1 ≤ left) (h0 : ∀ k, 0 ≤ b k) : Okay left (canon b left) := by
  have a0 := h0 0
  have b0 := h0 1
  have c0 := h0 2
  have d0 := h0 3
  unfold canon
  refine okay_ite (fun h => okay_mk (by omega) (by omega) (by omega) (by omega) (by omega) (by omega)) fun h => ?_
  refine okay_ite (fun h => okay2) fun h => ?_
  refine okay_ite (fun h => okay_ite (fun h => okay7) fun h => okay_ite (fun h => okay2) fun h => okay_mk (by omega) (by omega) (by omega) (by omega) (by omega) (by omega)) fun h => ?_
  refine okay_ite (fun h => okay_ite (fun h => okay7) fun h => okay_ite (fun h => okay2) fun h => okay_ite (fun h => okay7) fun h => okay_ite (fun h => okay2) fun h => okay_mk (by omega) (by omega) (by omega) (by omega) (by omega) (by omega)) fun h => ?_
  refine okay_ite (fun h => okay_ite (fun h => okay7) fun h => okay_ite (fun h => okay2) fun h => okay_ite (fun h => okay7) fun h => okay_ite (fun h => okay2) fun h => okay_ite (fun h => okay7) fun h => okay_ite (fun h => okay2) fun h => okay_mk (by omega) (by omega) (by omega) (by omega) (by omega) (by omega)) fun h => ?_
  exact okay2
theorem runeF_okay (s : ByteArray) (a : Nat) (h : a < s.size) : Okay (s.size - a) (runeF s a) := by
  unfold runeF
  rw [if_neg (by omega)]
  simp only [Int.toNat_natCast]
  exact canon_okay _ _ (by omega) fun k => bt_lo s _
end Go.Proofs.Ytaoggciebkaakaa

/- Walks: what utf's small functions return (lead, span, follow, possible), whatever the world. -/
namespace Go.Proofs.Ytaoggciebkaakaa
open Go.RowKit

theorem i32_or0 (x : Int) (h0 : 0 ≤ x) (h1 : x < 2147483648) : bits .or .i32 x 0 = x := by
  have := bits_join .i32 31 (by decide) wraps_i32 0 x 0 h0 (by omega) h1 (by omega) (by omega) (by omega)
  simpa using this
theorem ret_two {k1 k2 : IntKind} {a b a1 b1 : Int} (h : a = a1) (h1 : b = b1) : Ending.returned (.tuple #[.int k1 a, .int k2 b]) = .returned (.tuple #[.int k1 a1, .int k2 b1]) := by rw [h, h1]
theorem ret_bool {a b : Bool} (h : a = b) : Ending.returned (.bool a) = .returned (.bool b) := by rw [h]

set_option maxHeartbeats 400000 in
theorem lead_any (b : Int) (w : World) (h0 : 0 ≤ b) (h1 : b < 256) : Calls Try.prog 61 #[.int .u8 b] w fun e w' => e = .returned (.tuple #[.int .i32 (leadR b), .int .i64 (leadN b)]) ∧ w = w' := by
  go_enter Try.func61, Try.ntmps61
  go_wp2
  all_goals
    go_ret2
    refine ⟨?_, rfl⟩
    simp only [beq_iff_eq, beq_eq_false_iff_ne] at *
    unfold leadR leadN
    refine ret_two ?_ ?_
    · repeat' split
      all_goals omega
    · repeat' split
      all_goals omega

set_option maxHeartbeats 4000000 in
theorem poss_any (r : Int) (k n : Nat) (w : World) (h0 : 0 ≤ r) (h1 : r * p64 (n - k) < 2097152) (hk : 1 ≤ k) (hn : k ≤ n) (h4 : n ≤ 4) :
    Calls Try.prog 62 #[.int .i32 r, .int .i64 k, .int .i64 n] w fun e w' => e = .returned (.bool (possB r k n)) ∧ w = w' := by
  have h : (k = 1 ∧ n = 1) ∨ (k = 1 ∧ n = 2) ∨ (k = 2 ∧ n = 2) ∨ (k = 1 ∧ n = 3) ∨ (k = 2 ∧ n = 3) ∨ (k = 3 ∧ n = 3) ∨ (k = 1 ∧ n = 4) ∨ (k = 2 ∧ n = 4) ∨ (k = 3 ∧ n = 4) ∨ (k = 4 ∧ n = 4) := by omega
  rcases h with ⟨rfl, rfl⟩ | ⟨rfl, rfl⟩ | ⟨rfl, rfl⟩ | ⟨rfl, rfl⟩ | ⟨rfl, rfl⟩ | ⟨rfl, rfl⟩ | ⟨rfl, rfl⟩ | ⟨rfl, rfl⟩ | ⟨rfl, rfl⟩ | ⟨rfl, rfl⟩
  all_goals
    simp only [Nat.reduceSub, p64_0, p64_1, p64_2, p64_3] at h1
    have h00 := i32_or0 r h0 (by omega)
    go_enter Try.func62, Try.ntmps62
    go_wp2
    all_goals
      go_ret
      refine ⟨ret_bool (possB_eq _ _ _ _ ?_).symm, rfl⟩
      simp only [Nat.reduceSub, p64_0, p64_1, p64_2, p64_3, least1, least2, least3, least4, most1, most2, most3, most4, decide_eq_true_eq, Bool.false_eq_true, iff_false]
      first
        | omega
        | (simp only [iff_true]; omega)
        | (simp; omega)

set_option maxHeartbeats 400000 in
theorem poss_zero (r : Int) (k : Int) (w : World) :
    Calls Try.prog 62 #[.int .i32 r, .int .i64 k, .int .i64 0] w fun e w' => e = .returned (.bool false) ∧ w = w' := by
  go_enter Try.func62, Try.ntmps62
  go_wp2
  go_ret
  exact ⟨rfl, rfl⟩
end Go.Proofs.Ytaoggciebkaakaa

/- A rune's bytes, as numbers. -/
set_option linter.unusedSimpArgs false
set_option linter.unusedVariables false
namespace Go.Proofs.Ytaoggciebkaakaa

def encB (r : Int) : List Int :=
  if r < 128 then [r] else if r < 2048 then [192 + r / 64, 128 + r % 64] else if r < 65536 then [224 + r / 4096, 128 + r / 64 % 64, 128 + r % 64]
  else [240 + r / 262144, 128 + r / 4096 % 64, 128 + r / 64 % 64, 128 + r % 64]
/-- It has no bytes. -/
def Bad (r : Int) : Prop := r < 0 ∨ 1114111 < r ∨ (55296 ≤ r ∧ r ≤ 57343)
instance (r : Int) : Decidable (Bad r) := by unfold Bad; infer_instance
theorem enc1 {r : Int} (h : r < 128) : encB r = [r] := by simp [encB, h]
theorem enc2 {r : Int} (h : 128 ≤ r) (h2 : r < 2048) : encB r = [192 + r / 64, 128 + r % 64] := by
  simp only [encB]; rw [if_neg (by omega), if_pos h2]
theorem enc3 {r : Int} (h : 2048 ≤ r) (h2 : r < 65536) : encB r = [224 + r / 4096, 128 + r / 64 % 64, 128 + r % 64] := by
  simp only [encB]; rw [if_neg (by omega), if_neg (by omega), if_pos h2]
theorem enc4 {r : Int} (h : 65536 ≤ r) : encB r = [240 + r / 262144, 128 + r / 4096 % 64, 128 + r / 64 % 64, 128 + r % 64] := by
  simp only [encB]; rw [if_neg (by omega), if_neg (by omega), if_neg (by omega)]
theorem encB_len (r : Int) : 1 ≤ (encB r).length ∧ (encB r).length ≤ 4 := by
  unfold encB
  repeat' split
  all_goals simp
end Go.Proofs.Ytaoggciebkaakaa

/- The walk of utf.add: a rune's bytes behind a slice of the call's own. -/
set_option linter.unusedSimpArgs false
set_option linter.unusedVariables false
namespace Go.Proofs.Ytaoggciebkaakaa
open Go.RowKit

theorem Try.info5 : (Try.prog.info? 5).map (fun i => (i.zero, i.size, i.bytes)) = some (some (.int .u8 0), 1, 1) := by kernel_rfl
/-- A slice of bytes of the call's own: from block B on. -/
def OwnB (w : World) (B : Nat) (v : Value) (l : List Int) : Prop := w.ownsRow B 5 1 v l.length (l.map (Value.int .u8))
def AddPost (w : World) (B : Nat) (l : List Int) (e : Ending) (w' : World) : Prop := ∃ v, e = .returned v ∧ OwnB w' B v l ∧ Below B w w'

theorem Blk0 (w : World) (t : TypeId) (cs : Array Value) (i : Nat) : (w.alloc (.cells cs t)).cell? ⟨w.heap.size, i, none⟩ = cs[i]? := cell_of_row _ _ i cs t (0, 0) (heap_alloc_new w _)
theorem lit_cells (w : World) (cs : Array Value) (e : TypeId) : ∀ (j : Nat) (u : Value), cs.toList[j]? = some u → (w.alloc (.cells cs e)).cell? ((⟨w.heap.size, 0, none⟩ : Addr).add j) = some u := by
  intro j u h
  have hc := (Blk0 w e cs) j
  unfold Addr.add
  by_cases h0 : j = 0
  · subst h0
    simpa [hc] using h
  · simpa [h0, hc] using h
end Go.Proofs.Ytaoggciebkaakaa
