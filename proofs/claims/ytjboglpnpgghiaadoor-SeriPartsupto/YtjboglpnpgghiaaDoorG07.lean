/-
  Merged by program out of the texts SrTr, WdMeas, WdRight, CLeaf, NzLeaf, NzConv of one seat.
-/
import Derived.Test.YtjboglpnpgghiaaDoorG06
import Derived.Test.YtjboglpnpgghiaaDoorG05
import Derived.Test.YtjboglpnpgghiaaDoorG01
import Derived.Test.YtjboglpnpgghiaaDoorG04
import Derived.Test.YtjboglpnpgghiaaDoorProg
import Derived.Test.YtjboglpnpgghiaaDoorG02
import Derived.Deep.RegionHeld3
import Derived.Deep.RegionLaw
import Derived.WalkKit
import Derived.WalkSpells
import Derived.WalkLawsBesides
import Derived.Laws.RangeAny
import Derived.Laws.Cover4
import Derived.Lib.Hide

/- printer.tree. -/
set_option linter.unusedVariables false
set_option linter.unusedSimpArgs false
namespace Go.Proofs.YtjboglpnpgghiaaDoor.Ev
open Go.RowKit

def PtC (N : Nat) : Prop := ∀ (t : Bool) (tx sp lo : ByteArray) (ats : List P3) (ks : Fo) (Aa : Option Addr) (na ca : Nat) (Ak : Option Addr) (nk ck : Nat) (d : ByteArray) (B b : Nat) (bs : List Int) (w : World), ks.siz < N → Tr1 (· < B) w tx sp lo ats ks Aa na ca Ak nk ck →
    (Fo.cons t tx sp lo ats ks .nil).szM → (Fo.cons t tx sp lo ats ks .nil).atN → d.size ≤ 1048576 → Prt B b bs w → B ≤ w.heap.size → TbB B w → bs.length + (txB (Fo.cons t tx sp lo ats ks .nil) d).length ≤ 17592186044416 →
    Calls Tryd.prog 16 #[.pointer (some ⟨b, 0, none⟩), .agg #[.bool t, .string tx, .string sp, .string lo, .slice Aa na ca, .slice Ak nk ck], .string d] w fun e w' => e = .returned (.tuple #[]) ∧ Prt B b (bs ++ txB (Fo.cons t tx sp lo ats ks .nil) d) w' ∧ FrP B b w w'
theorem szM_kid {r : Fo} {u : Bool} {ux us ul : ByteArray} {ua : List P3} {uk : Fo} : ∀ {k : Nat} {f : Fo}, f.szM → f.atN → f.drop k = .cons u ux us ul ua uk r → (Fo.cons u ux us ul ua uk .nil).szM ∧ (Fo.cons u ux us ul ua uk .nil).atN
  | 0, f, h, h2, e => by
    have e : f = .cons u ux us ul ua uk r := e
    subst e
    exact ⟨⟨h.1, h.2.1, trivial⟩, h2.1, trivial⟩
  | k + 1, .nil, h, h2, e => by cases e
  | k + 1, .cons _ _ _ _ _ _ nx, h, h2, e => szM_kid (k := k) h.2.2 h2.2 e
theorem tx_take {ks : Fo} {k : Nat} {u : Bool} {ux us ul : ByteArray} {ua : List P3} {uk : Fo} (hk : k < ks.len) (e : ks.drop k = .cons u ux us ul ua uk (ks.drop (k + 1))) (d : ByteArray) : txB (ks.take (k + 1)) d = txB (ks.take k) d ++ txB (.cons u ux us ul ua uk .nil) d ∧ (txB (ks.take (k + 1)) d).length ≤ (txB ks d).length := by
  obtain ⟨t', tx', sp', lo', ats', ks', e1, e2⟩ := drop_cons (f := ks) (k := k) hk
  rw [e] at e1
  injection e1 with e1 e4 e5 e6 e7 e8 e9
  subst e1 e4 e5 e6 e7 e8
  refine ⟨by rw [e2, txB_app], ?_⟩
  conv => rhs; rw [← take_drop_F (k + 1) ks]
  rw [txB_app, List.length_append]
  omega
theorem take_full {ks : Fo} : ks.take ks.len = ks := take_all ks
/-- Where the printing of a tree stands: its box, its printer. -/
structure TrI (B b xb : Nat) (cs : Array Value) (L : List Int) (w wr : World) : Prop where
  prt : Prt B b L wr
  box : wr.heap[xb]? = some (.cells cs 27 (0, 0))
  fr : FrP B b w wr
theorem TrI.keep {B b xb : Nat} {cs : Array Value} {L : List Int} {w wr w' : World} (h : TrI B b xb cs L w wr) (hB : B ≤ w.heap.size) (hb : Below wr.heap.size wr w') : TrI B b xb cs L w w' := ⟨h.prt.keep hb, (hb.block _ (Array.getElem?_eq_some_iff.1 h.box).1).trans h.box, h.fr.trans (FrP.of hb (Nat.le_trans hB h.fr.bel.size))⟩
theorem TrI.put {B b xb : Nat} {cs : Array Value} {L L' : List Int} {w wr w' : World} (h : TrI B b xb cs L w wr) (hne : xb ≠ b) (hp : Prt B b L' w') (hf : FrP B b wr w') : TrI B b xb cs L' w w' := ⟨hp, hf.blk h.box hne (by decide), h.fr.trans hf⟩
set_option maxHeartbeats 8000000 in
set_option maxRecDepth 100000 in
theorem pt_text (tx sp lo : ByteArray) (ats : List P3) (ks : Fo) (Aa : Option Addr) (na ca : Nat) (Ak : Option Addr) (nk ck : Nat) (d : ByteArray) (B b : Nat) (bs : List Int) (w : World) (hs : tx.size ≤ 1048576) (hP : Prt B b bs w) (hB : B ≤ w.heap.size) (hl : bs.length + (escF false (byts tx)).length ≤ 17592186044416) :
    Calls Tryd.prog 16 #[.pointer (some ⟨b, 0, none⟩), .agg #[.bool true, .string tx, .string sp, .string lo, .slice Aa na ca, .slice Ak nk ck], .string d] w fun e w' => e = .returned (.tuple #[]) ∧ Prt B b (bs ++ escF false (byts tx)) w' ∧ FrP B b w w' := by
  have hbw := hP.lt
  have CE : Hid (∀ W, Calls Tryd.prog 27 #[.string tx] W fun e w' => e = .returned (.string (strOfNums (escF false (byts tx)))) ∧ Below W.heap.size W w') := Lib.hid fun W => esc_any tx W hs
  have HE := Lib.hid (byts_esc false tx)
  have CW : Hid (∀ W, Prt B b bs W → B ≤ W.heap.size → Calls Tryd.prog 26 #[.pointer (some ⟨b, 0, none⟩), .string (strOfNums (escF false (byts tx)))] W fun e w' => (∃ m : Int, e = .returned (.tuple #[.int .i64 m, .nilIface])) ∧ Prt B b (bs ++ escF false (byts tx)) w' ∧ FrP B b W w') := Lib.hid fun W hP hB => by
    have := wpr_any B b bs (strOfNums (escF false (byts tx))) W hP hB (by rw [← byts_len, HE.out]; exact hl)
    rw [HE.out] at this
    exact this.mono fun e w' ⟨h1, h2, h3⟩ => ⟨⟨_, h1⟩, h2, h3⟩
  have X : Hid (TrI B b w.heap.size #[.bool true, .string tx, .string sp, .string lo, .slice Aa na ca, .slice Ak nk ck] bs w (w.alloc (.cells #[.bool true, .string tx, .string sp, .string lo, .slice Aa na ca, .slice Ak nk ck] 27)).drew) := Lib.hid ⟨hP.keep (Below.drew ((Below.refl _ w).alloc (Nat.le_refl _) _)), nblk w 27 _, FrP.of (Below.drew ((Below.refl _ w).alloc (Nat.le_refl _) _)) hB⟩
  have hxb : w.heap.size ≠ b := by omega
  clear hP hl HE hs
  generalize strOfNums (escF false (byts tx)) = O at *
  generalize bs ++ escF false (byts tx) = L at *
  go_enter Tryd.func16, Tryd.ntmps16
  go_wp2_with fail
  generalize w.alloc (.cells #[.bool true, .string tx, .string sp, .string lo, .slice Aa na ca, .slice Ak nk ck] 27) = V at *
  have hB2 := hB
  go_region_held3 (fun W => W.cell? ⟨w.heap.size, 0, none⟩ = some (.bool true) ∧ W.cell? ⟨w.heap.size, 1, none⟩ = some (.string tx) ∧ W.cell? ⟨w.heap.size, 2, none⟩ = some (.string sp) ∧ W.cell? ⟨w.heap.size, 3, none⟩ = some (.string lo) ∧ W.cell? ⟨w.heap.size, 4, none⟩ = some (.slice Aa na ca) ∧ W.cell? ⟨w.heap.size, 5, none⟩ = some (.slice Ak nk ck))
    (first | with_reducible exact cells6 X.out.box | fail)
    (first
      | (go_at_call 26; refine (CW.out _ X.out.prt (Nat.le_trans hB X.out.fr.bel.size)).mono ?_; rintro e w3 ⟨⟨m, rfl⟩, h3, f3⟩; replace X := Lib.hid (TrI.put X.out hxb h3 f3); clear h3 f3)
      | (go_at_call 27; refine (CE.out _).mono ?_; rintro e w2 ⟨rfl, b2⟩; replace X := Lib.hid (TrI.keep X.out hB b2); clear b2)
      | fail)
  all_goals
    go_wp2
    ((try simp only [Exit.inBlock, Exit.then]); refine bodyPost_ret (results_none rfl _ _ _) rfl ?_)
    exact ⟨rfl, X.out.prt, X.out.fr⟩

set_option maxHeartbeats 16000000 in
set_option maxRecDepth 100000 in
theorem pt_step (N : Nat) (hIH : Hid (PtC N)) : PtC (N + 1) := by
  intro t tx sp lo ats ks Aa na ca Ak nk ck d B b bs w hN T hM hA hd hP hB hT hl
  cases t with
  | true =>
    rw [txB_text] at hl ⊢
    exact pt_text tx sp lo ats ks Aa na ca Ak nk ck d B b bs w hM.1.1 hP hB hl
  | false =>
    have hbw := hP.lt
    have hxb : w.heap.size ≠ b := by omega
    have hnk := T.ks.2.1
    have hnl := T.ks.1
    have hlo := hM.1.2.2.1
    have hsp := hM.1.2.1
    have HMk := Lib.hid hM.2.1
    have HAk := Lib.hid (hA.1 rfl).2
    have HTb := Lib.hid hT
    have HT : Hid (∀ W, Below B w W → Tr1 (· < B) W tx sp lo ats ks Aa na ca Ak nk ck) := Lib.hid fun W hW => T.keepB hW
    obtain ⟨TX, hTX⟩ : ∃ x, x = txB (Fo.cons false tx sp lo ats ks .nil) d := ⟨_, rfl⟩
    rw [← hTX] at hl ⊢
    obtain ⟨TL, hTL⟩ : ∃ x, x = (if ks.len = 0 then [47, 62] else [62] ++ txB ks (dfS sp d) ++ [60, 47] ++ nmB sp lo ++ [62] : List Int) := ⟨_, rfl⟩
    obtain ⟨H1, hH1⟩ : ∃ x, x = ([60] ++ nmB sp lo ++ (if sp ≠ xmlB ∧ sp ≠ d then prB (byts xnsB) sp else []) : List Int) := ⟨_, rfl⟩
    have HTX : Hid (TX = H1 ++ (bdB 0 (spL ats) ++ asB (spL ats) ats) ++ TL) := Lib.hid (by
      rw [hTX, hTL, hH1, txB, if_neg (by decide), txB, List.append_nil]
      unfold hdB
      simp only [List.append_assoc])
    have HL : Hid (bs.length + H1.length + (bdB 0 (spL ats)).length + (asB (spL ats) ats).length + TL.length ≤ 17592186044416) := Lib.hid (by
      have := hl
      rw [HTX.out] at this
      simp only [List.length_append] at this
      omega)
    have CA : Hid (∀ W, TrI B b w.heap.size #[.bool false, .string tx, .string sp, .string lo, .slice Aa na ca, .slice Ak nk ck] (bs ++ H1) w W → Calls Tryd.prog 29 #[.pointer (some ⟨b, 0, none⟩), .slice Aa na ca] W fun e w' => e = .returned (.tuple #[]) ∧ TrI B b w.heap.size #[.bool false, .string tx, .string sp, .string lo, .slice Aa na ca, .slice Ak nk ck] (bs ++ H1 ++ (bdB 0 (spL ats) ++ asB (spL ats) ats)) w w') := Lib.hid fun W hW => by
      have := attr_any B b (bs ++ H1) Aa na ca ats W hW.prt (Nat.le_trans hB hW.fr.bel.size) (HT.out W hW.fr.bel).at_ (HT.out W hW.fr.bel).ap hM.1.2.2.2 (hA.1 rfl).1 (HTb.out.on hW.fr.bel) (by
        have := HL.out
        rw [List.length_append]
        omega)
      exact this.mono fun e w' ⟨h1, h2, h3⟩ => ⟨h1, by rw [List.append_assoc (bs ++ H1)] at h2; exact hW.put hxb h2 h3⟩
    have CW : Hid (∀ (s : ByteArray) (L : List Int) W, TrI B b w.heap.size #[.bool false, .string tx, .string sp, .string lo, .slice Aa na ca, .slice Ak nk ck] L w W → L.length + s.size ≤ 17592186044416 → Calls Tryd.prog 26 #[.pointer (some ⟨b, 0, none⟩), .string s] W fun e w' => (∃ m : Int, e = .returned (.tuple #[.int .i64 m, .nilIface])) ∧ TrI B b w.heap.size #[.bool false, .string tx, .string sp, .string lo, .slice Aa na ca, .slice Ak nk ck] (L ++ byts s) w w') := Lib.hid fun s L W hW hs =>
      (wpr_any B b L s W hW.prt (Nat.le_trans hB hW.fr.bel.size) hs).mono fun e w' ⟨h1, h2, h3⟩ => ⟨⟨_, h1⟩, hW.put hxb h2 h3⟩
    have HH1 : Hid (H1 = [60] ++ nmB sp lo ++ (if sp ≠ xmlB ∧ sp ≠ d then prB (byts xnsB) sp else [])) := Lib.hid hH1
    have HTL : Hid (TL = if ks.len = 0 then [47, 62] else [62] ++ txB ks (dfS sp d) ++ [60, 47] ++ nmB sp lo ++ [62]) := Lib.hid hTL
    have X0 : Hid (TrI B b w.heap.size #[.bool false, .string tx, .string sp, .string lo, .slice Aa na ca, .slice Ak nk ck] bs w (w.alloc (.cells #[.bool false, .string tx, .string sp, .string lo, .slice Aa na ca, .slice Ak nk ck] 27))) := Lib.hid ⟨hP.keep ((Below.refl _ w).alloc (Nat.le_refl _) _), nblk w 27 _, FrP.of ((Below.refl _ w).alloc (Nat.le_refl _) _) hB⟩
    have HCW : Hid (sp ≠ xmlB ∧ sp ≠ d → ∀ W, TrI B b w.heap.size #[.bool false, .string tx, .string sp, .string lo, .slice Aa na ca, .slice Ak nk ck] (bs ++ ([60] ++ nmB sp lo)) w W → Calls Tryd.prog 28 #[.pointer (some ⟨b, 0, none⟩), .string ⟨#[120, 109, 108, 110, 115]⟩, .string sp] W fun e w' => e = .returned (.tuple #[]) ∧ TrI B b w.heap.size #[.bool false, .string tx, .string sp, .string lo, .slice Aa na ca, .slice Ak nk ck] (bs ++ H1) w w') := Lib.hid fun hq W hW => by
      have e : byts (⟨#[120, 109, 108, 110, 115]⟩ : ByteArray) = byts xnsB := rfl
      have := pair_any B b (bs ++ ([60] ++ nmB sp lo)) ⟨#[120, 109, 108, 110, 115]⟩ sp W hW.prt (Nat.le_trans hB hW.fr.bel.size) (by decide) hsp (by
        have := HL.out
        rw [HH1.out, if_pos hq] at this
        rw [e]
        simp only [List.length_append] at this ⊢
        omega)
      rw [e] at this
      rw [HH1.out, if_pos hq]
      refine this.mono fun e w' ⟨h1, h2, h3⟩ => ⟨h1, ?_⟩
      rw [List.append_assoc bs] at h2
      exact hW.put hxb h2 h3
    have CS : Hid (∀ (D : ByteArray) (u : Bool) (ux us ul : ByteArray) (ua : List P3) (uk : Fo) (u1 : Option Addr) (u2 u3 : Nat) (u4 : Option Addr) (u5 u6 k : Nat) W, D = dfS sp d → k < nk → ks.drop k = .cons u ux us ul ua uk (ks.drop (k + 1)) → Tr1 (· < B) W ux us ul ua uk u1 u2 u3 u4 u5 u6 → TrI B b w.heap.size #[.bool false, .string tx, .string sp, .string lo, .slice Aa na ca, .slice Ak nk ck] (bs ++ H1 ++ (bdB 0 (spL ats) ++ asB (spL ats) ats) ++ [62] ++ txB (ks.take k) (dfS sp d)) w W →
        Calls Tryd.prog 16 #[.pointer (some ⟨b, 0, none⟩), .agg #[.bool u, .string ux, .string us, .string ul, .slice u1 u2 u3, .slice u4 u5 u6], .string D] W fun e w' => e = .returned (.tuple #[]) ∧ TrI B b w.heap.size #[.bool false, .string tx, .string sp, .string lo, .slice Aa na ca, .slice Ak nk ck] (bs ++ H1 ++ (bdB 0 (spL ats) ++ asB (spL ats) ats) ++ [62] ++ txB (ks.take (k + 1)) (dfS sp d)) w w') := Lib.hid fun D u ux us ul ua uk u1 u2 u3 u4 u5 u6 k W hD hk ed hX hW => by
      have hk2 : k < ks.len := by rw [← hnl]; exact hk
      have hsk := siz_kid ed
      obtain ⟨m1, m2⟩ := szM_kid HMk.out HAk.out ed
      obtain ⟨t1, t2⟩ := tx_take hk2 ed (dfS sp d)
      have hne0 : ¬ ks.len = 0 := by omega
      have hds : (dfS sp d).size ≤ 1048576 := by unfold dfS; split <;> assumption
      rw [hD]
      have := hIH.out u ux us ul ua uk u1 u2 u3 u4 u5 u6 (dfS sp d) B b (bs ++ H1 ++ (bdB 0 (spL ats) ++ asB (spL ats) ats) ++ [62] ++ txB (ks.take k) (dfS sp d)) W (by omega) hX m1 m2 hds hW.prt (Nat.le_trans hB hW.fr.bel.size) (HTb.out.on hW.fr.bel) (by
        have := HL.out
        rw [HTL.out, if_neg hne0] at this
        rw [t1] at t2
        simp only [List.length_append] at this t2 ⊢
        omega)
      refine this.mono fun e w' ⟨h1, h2, h3⟩ => ⟨h1, ?_⟩
      rw [t1, ← List.append_assoc]
      exact hW.put hxb h2 h3
    have hTlen : TL.length = (if ks.len = 0 then 2 else 1 + (txB ks (dfS sp d)).length + 2 + (nmB sp lo).length + 1) := by
      rw [hTL]
      split
      · rfl
      · simp only [List.length_append, List.length_cons, List.length_nil]
    have HTl := Lib.hid hTlen
    have HNL := Lib.hid hnl
    clear hTX hTL hH1 hl hM hA hT T hP hTlen hnl
    rcases Classical.em (sp = xmlB) with hx | hx
    · have K := spK sp
      rw [decide_eq_true hx, decide_eq_false (p := sp = emB) (by rw [hx]; decide)] at K
      have hQ : ¬ (sp ≠ xmlB ∧ sp ≠ d) := fun q => q.1 hx
      have HD : Hid (d = dfS sp d) := Lib.hid (by unfold dfS; rw [if_pos hx])
      have HN : Hid (byts ((⟨#[120, 109, 108, 58]⟩ ++ lo)) = nmB sp lo) := Lib.hid (by rw [byts_cat]; unfold nmB; rw [if_pos hx]; rfl)
      have z4 : (⟨#[120, 109, 108, 58]⟩ ++ lo : ByteArray).size = 4 + lo.size := size_cat _ _
      have hN1 : (nmB sp lo).length = ((⟨#[120, 109, 108, 58]⟩ ++ lo)).size := by rw [← byts_len, HN.out]
      have hz1 : bs.length + (⟨#[60]⟩ ++ (⟨#[120, 109, 108, 58]⟩ ++ lo) : ByteArray).size ≤ 17592186044416 := by
        have := HL.out
        rw [HH1.out] at this
        rw [size_cat]
        simp only [List.length_append] at this
        show _ + (1 + _) ≤ _
        have h1 : ([60] : List Int).length = 1 := rfl
        omega
      obtain ⟨ke, kx⟩ : ∃ q : Bool, SpK sp q true := ⟨_, K⟩
      have x1 := kx.x1
      have x2 := kx.x2
      simp only [Bool.not_true, Bool.not_false] at x2
      have HHq : Hid (H1 = [60] ++ nmB sp lo) := Lib.hid (by rw [HH1.out, if_neg hQ, List.append_nil])
      clear K kx hQ hx z4 hN1
      have X := X0
      clear X0 HCW
      go_enter Tryd.func16, Tryd.ntmps16
      go_wp2_with fail
      refine (CW.out _ _ _ X.out hz1).mono ?_
      rintro e w2 ⟨⟨m2, rfl⟩, h2⟩
      rw [byts_cat, HN.out, show byts (⟨#[60]⟩ : ByteArray) = [60] from rfl] at h2
      rw [← HHq.out] at h2
      replace X := Lib.hid h2
      clear h2
      obtain ⟨c0, c1, c2, c3, c4, c5⟩ := cells6 X.out.box
      go_wp2_with fail
      refine (CA.out _ X.out).mono ?_
      rintro e w5 ⟨rfl, h5⟩
      replace X := Lib.hid h5
      clear h5 c0 c1 c2 c3 c4 c5
      obtain ⟨c0, c1, c2, c3, c4, c5⟩ := cells6 X.out.box
      rcases Classical.em (nk = 0) with h0 | h0
      · have hnl := HNL.out
        have hTlen := HTl.out
        have hE : Hid (TX = H1 ++ (bdB 0 (spL ats) ++ asB (spL ats) ats) ++ [47, 62]) := Lib.hid (by rw [HTX.out, HTL.out, if_pos (by omega)])
        have hz2 : (bs ++ H1 ++ (bdB 0 (spL ats) ++ asB (spL ats) ats)).length + (⟨#[47, 62]⟩ : ByteArray).size ≤ 17592186044416 := by
          have := HL.out
          rw [hTlen, if_pos (by omega)] at this
          simp only [List.length_append]
          show _ + 2 ≤ _
          omega
        have g0 : ((nk : Int) == 0) = true := by simpa using h0
        have HE := Lib.hid hE.out
        clear h0 hTlen hnl
        go_wp2_with fail
        refine (CW.out _ _ _ X.out hz2).mono ?_
        rintro e w6 ⟨⟨m6, rfl⟩, h6⟩
        have X6 := Lib.hid h6
        clear h6
        go_wp2
        ((try simp only [Exit.inBlock, Exit.then]); refine bodyPost_ret (results_none rfl _ _ _) rfl ?_)
        refine ⟨rfl, ?_, X6.out.fr⟩
        have hp := X6.out.prt
        rw [show byts (⟨#[47, 62]⟩ : ByteArray) = [47, 62] from rfl] at hp
        rw [hE.out]
        simp only [List.append_assoc] at hp ⊢
        exact hp
      · have hnl := HNL.out
        have hTlen := HTl.out
        have hk0 : ¬ ks.len = 0 := by omega
        have hE : Hid (TX = H1 ++ (bdB 0 (spL ats) ++ asB (spL ats) ats) ++ [62] ++ txB (ks.take nk) (dfS sp d) ++ ([60, 47] ++ nmB sp lo ++ [62])) := Lib.hid (by
          rw [HTX.out, HTL.out, if_neg hk0, hnl, take_full]
          simp only [List.append_assoc])
        rw [if_neg hk0] at hTlen
        have hz2 : (bs ++ H1 ++ (bdB 0 (spL ats) ++ asB (spL ats) ats)).length + (⟨#[62]⟩ : ByteArray).size ≤ 17592186044416 := by
          have := HL.out
          rw [hTlen] at this
          simp only [List.length_append]
          show _ + 1 ≤ _
          omega
        have hz3 : ((bs ++ H1 ++ (bdB 0 (spL ats) ++ asB (spL ats) ats)) ++ [62] ++ txB (ks.take nk) (dfS sp d)).length + ((⟨#[60, 47]⟩ ++ (⟨#[120, 109, 108, 58]⟩ ++ lo)) ++ ⟨#[62]⟩ : ByteArray).size ≤ 17592186044416 := by
          have := HL.out
          rw [hTlen] at this
          rw [hnl, take_full, ← byts_len, byts_cat, byts_cat, HN.out]
          simp only [List.length_append]
          show _ + 1 + _ + (2 + _ + 1) ≤ _
          omega
        have g0 : ((nk : Int) == 0) = false := by simpa using h0
        have HZ3 := Lib.hid hz3
        clear h0 hTlen hk0 hz3 hnl
        go_wp2_with fail
        refine (CW.out _ _ _ X.out hz2).mono ?_
        rintro e w6 ⟨⟨m6, rfl⟩, h6⟩
        have X6 : Hid (TrI B b w.heap.size #[.bool false, .string tx, .string sp, .string lo, .slice Aa na ca, .slice Ak nk ck] ((bs ++ H1 ++ (bdB 0 (spL ats) ++ asB (spL ats) ats)) ++ [62] ++ txB (ks.take 0) (dfS sp d)) w w6) := Lib.hid (by
          rw [show (ks.take 0) = Fo.nil by cases ks <;> rfl]
          show TrI B b w.heap.size #[.bool false, .string tx, .string sp, .string lo, .slice Aa na ca, .slice Ak nk ck] ((bs ++ H1 ++ (bdB 0 (spL ats) ++ asB (spL ats) ats)) ++ [62] ++ []) w w6
          rw [List.append_nil]
          exact h6)
        clear h6 X hz2 c0 c1 c2 c3 c4 c5
        obtain ⟨c0, c1, c2, c3, c4, c5⟩ := cells6 X6.out.box
        go_wp2_with fail
        clear c0 c1 c2 c3 c4 c5
        go_loopw [69] (fun i wr => ∃ k : Nat, i = .int .i64 k ∧ k ≤ nk ∧ Hid (TrI B b w.heap.size #[.bool false, .string tx, .string sp, .string lo, .slice Aa na ca, .slice Ak nk ck] ((bs ++ H1 ++ (bdB 0 (spL ats) ++ asB (spL ats) ats)) ++ [62] ++ txB (ks.take k) (dfS sp d)) w wr)) (fun i _ => nk - (intOf i).toNat)
        case atStart => exact ⟨0, rfl, Nat.zero_le _, X6⟩
        case round =>
          clear X6
          obtain ⟨k, rfl, hk, X⟩ := hrel
          by_cases hlt : k < nk
          · have g1 : (k : Int) < (nk : Int) := by omega
            have g2 : (0 : Int) ≤ (k : Int) := by omega
            obtain ⟨u, ux, us, ul, ua, uk, b1, o1, u1, u2, u3, u4, u5, u6, ed, hAk, hb1, x6, Y⟩ := (HT.out wr X.out.fr.bel).ks.at_ (k := k) hlt
            subst hAk
            have hB9 : Below wr.heap.size wr (wr.alloc (.cells #[.bool u, .string ux, .string us, .string ul, .slice u1 u2 u3, .slice u4 u5 u6] 27)) := (Below.refl _ wr).alloc (Nat.le_refl _) _
            have C9 := Lib.hid (CS.out _ u ux us ul ua uk u1 u2 u3 u4 u5 u6 k (wr.alloc (.cells #[.bool u, .string ux, .string us, .string ul, .slice u1 u2 u3, .slice u4 u5 u6] 27)) HD.out hlt ed (Y.keep hB9) (X.out.keep hB hB9))
            obtain ⟨x1, x2, x3, x4, x5, x7⟩ := x6
            clear Y ed hb1 hB9
            go_wp2_with fail
            refine C9.out.mono ?_
            rintro e w8 ⟨rfl, h8⟩
            have X8 := Lib.hid h8
            clear h8 C9 X x1 x2 x3 x4 x5 x7
            go_wp2_with fail
            go_roundw
            case rel => exact ⟨k + 1, by go_num, by omega, X8⟩
            case measure => simp only [intOf]; omega
          · have hke : k = nk := by omega
            subst hke
            have g1 : ¬ (k : Int) < (k : Int) := by omega
            go_wp2_with fail
            refine (CW.out _ _ _ X.out HZ3.out).mono ?_
            rintro e w8 ⟨⟨m8, rfl⟩, h8⟩
            have X8 := Lib.hid h8
            clear h8 X
            go_wp2
            go_end0
            refine ⟨rfl, ?_, X8.out.fr⟩
            have hp := X8.out.prt
            rw [byts_cat, byts_cat, HN.out] at hp
            rw [hE.out]
            simp only [List.append_assoc] at hp ⊢
            exact hp
    · rcases Classical.em (sp = d) with hsd | hsd
      · have K := spK sp
        rw [decide_eq_false hx] at K
        have hQ : ¬ (sp ≠ xmlB ∧ sp ≠ d) := fun q => q.2 hsd
        have HD : Hid (d = dfS sp d) := Lib.hid (by unfold dfS; rw [if_neg hx, hsd])
        have f1 := eq_yes hsd
        have f2 := ne_no hsd
        have HN : Hid (byts (lo) = nmB sp lo) := Lib.hid (by unfold nmB; rw [if_neg hx])
        have hN1 : (nmB sp lo).length = (lo).size := by rw [← byts_len, HN.out]
        have hz1 : bs.length + (⟨#[60]⟩ ++ lo : ByteArray).size ≤ 17592186044416 := by
          have := HL.out
          rw [HH1.out] at this
          rw [size_cat]
          simp only [List.length_append] at this
          show _ + (1 + _) ≤ _
          have h1 : ([60] : List Int).length = 1 := rfl
          omega
        obtain ⟨ke, kx⟩ : ∃ q : Bool, SpK sp q false := ⟨_, K⟩
        have x1 := kx.x1
        have x2 := kx.x2
        simp only [Bool.not_true, Bool.not_false] at x2
        have HHq : Hid (H1 = [60] ++ nmB sp lo) := Lib.hid (by rw [HH1.out, if_neg hQ, List.append_nil])
        clear K kx hQ hx hsd hN1
        have X := X0
        clear X0 HCW
        go_enter Tryd.func16, Tryd.ntmps16
        go_wp2_with fail
        refine (CW.out _ _ _ X.out hz1).mono ?_
        rintro e w2 ⟨⟨m2, rfl⟩, h2⟩
        rw [byts_cat, HN.out, show byts (⟨#[60]⟩ : ByteArray) = [60] from rfl] at h2
        rw [← HHq.out] at h2
        replace X := Lib.hid h2
        clear h2
        obtain ⟨c0, c1, c2, c3, c4, c5⟩ := cells6 X.out.box
        go_wp2_with fail
        refine (CA.out _ X.out).mono ?_
        rintro e w5 ⟨rfl, h5⟩
        replace X := Lib.hid h5
        clear h5 c0 c1 c2 c3 c4 c5
        obtain ⟨c0, c1, c2, c3, c4, c5⟩ := cells6 X.out.box
        rcases Classical.em (nk = 0) with h0 | h0
        · have hnl := HNL.out
          have hTlen := HTl.out
          have hE : Hid (TX = H1 ++ (bdB 0 (spL ats) ++ asB (spL ats) ats) ++ [47, 62]) := Lib.hid (by rw [HTX.out, HTL.out, if_pos (by omega)])
          have hz2 : (bs ++ H1 ++ (bdB 0 (spL ats) ++ asB (spL ats) ats)).length + (⟨#[47, 62]⟩ : ByteArray).size ≤ 17592186044416 := by
            have := HL.out
            rw [hTlen, if_pos (by omega)] at this
            simp only [List.length_append]
            show _ + 2 ≤ _
            omega
          have g0 : ((nk : Int) == 0) = true := by simpa using h0
          have HE := Lib.hid hE.out
          clear h0 hTlen hnl
          go_wp2_with fail
          refine (CW.out _ _ _ X.out hz2).mono ?_
          rintro e w6 ⟨⟨m6, rfl⟩, h6⟩
          have X6 := Lib.hid h6
          clear h6
          go_wp2
          ((try simp only [Exit.inBlock, Exit.then]); refine bodyPost_ret (results_none rfl _ _ _) rfl ?_)
          refine ⟨rfl, ?_, X6.out.fr⟩
          have hp := X6.out.prt
          rw [show byts (⟨#[47, 62]⟩ : ByteArray) = [47, 62] from rfl] at hp
          rw [hE.out]
          simp only [List.append_assoc] at hp ⊢
          exact hp
        · have hnl := HNL.out
          have hTlen := HTl.out
          have hk0 : ¬ ks.len = 0 := by omega
          have hE : Hid (TX = H1 ++ (bdB 0 (spL ats) ++ asB (spL ats) ats) ++ [62] ++ txB (ks.take nk) (dfS sp d) ++ ([60, 47] ++ nmB sp lo ++ [62])) := Lib.hid (by
            rw [HTX.out, HTL.out, if_neg hk0, hnl, take_full]
            simp only [List.append_assoc])
          rw [if_neg hk0] at hTlen
          have hz2 : (bs ++ H1 ++ (bdB 0 (spL ats) ++ asB (spL ats) ats)).length + (⟨#[62]⟩ : ByteArray).size ≤ 17592186044416 := by
            have := HL.out
            rw [hTlen] at this
            simp only [List.length_append]
            show _ + 1 ≤ _
            omega
          have hz3 : ((bs ++ H1 ++ (bdB 0 (spL ats) ++ asB (spL ats) ats)) ++ [62] ++ txB (ks.take nk) (dfS sp d)).length + ((⟨#[60, 47]⟩ ++ lo) ++ ⟨#[62]⟩ : ByteArray).size ≤ 17592186044416 := by
            have := HL.out
            rw [hTlen] at this
            rw [hnl, take_full, ← byts_len, byts_cat, byts_cat, HN.out]
            simp only [List.length_append]
            show _ + 1 + _ + (2 + _ + 1) ≤ _
            omega
          have g0 : ((nk : Int) == 0) = false := by simpa using h0
          have HZ3 := Lib.hid hz3
          clear h0 hTlen hk0 hz3 hnl
          go_wp2_with fail
          refine (CW.out _ _ _ X.out hz2).mono ?_
          rintro e w6 ⟨⟨m6, rfl⟩, h6⟩
          have X6 : Hid (TrI B b w.heap.size #[.bool false, .string tx, .string sp, .string lo, .slice Aa na ca, .slice Ak nk ck] ((bs ++ H1 ++ (bdB 0 (spL ats) ++ asB (spL ats) ats)) ++ [62] ++ txB (ks.take 0) (dfS sp d)) w w6) := Lib.hid (by
            rw [show (ks.take 0) = Fo.nil by cases ks <;> rfl]
            show TrI B b w.heap.size #[.bool false, .string tx, .string sp, .string lo, .slice Aa na ca, .slice Ak nk ck] ((bs ++ H1 ++ (bdB 0 (spL ats) ++ asB (spL ats) ats)) ++ [62] ++ []) w w6
            rw [List.append_nil]
            exact h6)
          clear h6 X hz2 c0 c1 c2 c3 c4 c5
          obtain ⟨c0, c1, c2, c3, c4, c5⟩ := cells6 X6.out.box
          go_wp2_with fail
          clear c0 c1 c2 c3 c4 c5
          go_loopw [69] (fun i wr => ∃ k : Nat, i = .int .i64 k ∧ k ≤ nk ∧ Hid (TrI B b w.heap.size #[.bool false, .string tx, .string sp, .string lo, .slice Aa na ca, .slice Ak nk ck] ((bs ++ H1 ++ (bdB 0 (spL ats) ++ asB (spL ats) ats)) ++ [62] ++ txB (ks.take k) (dfS sp d)) w wr)) (fun i _ => nk - (intOf i).toNat)
          case atStart => exact ⟨0, rfl, Nat.zero_le _, X6⟩
          case round =>
            clear X6
            obtain ⟨k, rfl, hk, X⟩ := hrel
            by_cases hlt : k < nk
            · have g1 : (k : Int) < (nk : Int) := by omega
              have g2 : (0 : Int) ≤ (k : Int) := by omega
              obtain ⟨u, ux, us, ul, ua, uk, b1, o1, u1, u2, u3, u4, u5, u6, ed, hAk, hb1, x6, Y⟩ := (HT.out wr X.out.fr.bel).ks.at_ (k := k) hlt
              subst hAk
              have hB9 : Below wr.heap.size wr (wr.alloc (.cells #[.bool u, .string ux, .string us, .string ul, .slice u1 u2 u3, .slice u4 u5 u6] 27)) := (Below.refl _ wr).alloc (Nat.le_refl _) _
              have C9 := Lib.hid (CS.out _ u ux us ul ua uk u1 u2 u3 u4 u5 u6 k (wr.alloc (.cells #[.bool u, .string ux, .string us, .string ul, .slice u1 u2 u3, .slice u4 u5 u6] 27)) HD.out hlt ed (Y.keep hB9) (X.out.keep hB hB9))
              obtain ⟨x1, x2, x3, x4, x5, x7⟩ := x6
              clear Y ed hb1 hB9
              go_wp2_with fail
              refine C9.out.mono ?_
              rintro e w8 ⟨rfl, h8⟩
              have X8 := Lib.hid h8
              clear h8 C9 X x1 x2 x3 x4 x5 x7
              go_wp2_with fail
              go_roundw
              case rel => exact ⟨k + 1, by go_num, by omega, X8⟩
              case measure => simp only [intOf]; omega
            · have hke : k = nk := by omega
              subst hke
              have g1 : ¬ (k : Int) < (k : Int) := by omega
              go_wp2_with fail
              refine (CW.out _ _ _ X.out HZ3.out).mono ?_
              rintro e w8 ⟨⟨m8, rfl⟩, h8⟩
              have X8 := Lib.hid h8
              clear h8 X
              go_wp2
              go_end0
              refine ⟨rfl, ?_, X8.out.fr⟩
              have hp := X8.out.prt
              rw [byts_cat, byts_cat, HN.out] at hp
              rw [hE.out]
              simp only [List.append_assoc] at hp ⊢
              exact hp
      · have K := spK sp
        rw [decide_eq_false hx] at K
        have hQ : sp ≠ xmlB ∧ sp ≠ d := ⟨hx, hsd⟩
        have HD : Hid (sp = dfS sp d) := Lib.hid (by unfold dfS; rw [if_neg hx])
        have f1 := eq_no hsd
        have f2 := ne_yes hsd
        have HN : Hid (byts (lo) = nmB sp lo) := Lib.hid (by unfold nmB; rw [if_neg hx])
        have hN1 : (nmB sp lo).length = (lo).size := by rw [← byts_len, HN.out]
        have hz1 : bs.length + (⟨#[60]⟩ ++ lo : ByteArray).size ≤ 17592186044416 := by
          have := HL.out
          rw [HH1.out] at this
          rw [size_cat]
          simp only [List.length_append] at this
          show _ + (1 + _) ≤ _
          have h1 : ([60] : List Int).length = 1 := rfl
          omega
        obtain ⟨ke, kx⟩ : ∃ q : Bool, SpK sp q false := ⟨_, K⟩
        have x1 := kx.x1
        have x2 := kx.x2
        simp only [Bool.not_true, Bool.not_false] at x2
        have CQ := Lib.hid (HCW.out hQ)
        clear K kx hQ hx hsd hN1
        have X := X0
        clear X0 HCW
        go_enter Tryd.func16, Tryd.ntmps16
        go_wp2_with fail
        refine (CW.out _ _ _ X.out hz1).mono ?_
        rintro e w2 ⟨⟨m2, rfl⟩, h2⟩
        rw [byts_cat, HN.out, show byts (⟨#[60]⟩ : ByteArray) = [60] from rfl] at h2
        have X2 := Lib.hid h2
        clear h2 X
        obtain ⟨c0, c1, c2, c3, c4, c5⟩ := cells6 X2.out.box
        go_wp2_with fail
        refine (CQ.out _ X2.out).mono ?_
        rintro e w3 ⟨rfl, h3⟩
        have X := Lib.hid h3
        clear h3 X2 CQ c0 c1 c2 c3 c4 c5
        obtain ⟨c0, c1, c2, c3, c4, c5⟩ := cells6 X.out.box
        go_wp2_with fail
        refine (CA.out _ X.out).mono ?_
        rintro e w5 ⟨rfl, h5⟩
        replace X := Lib.hid h5
        clear h5 c0 c1 c2 c3 c4 c5
        obtain ⟨c0, c1, c2, c3, c4, c5⟩ := cells6 X.out.box
        rcases Classical.em (nk = 0) with h0 | h0
        · have hnl := HNL.out
          have hTlen := HTl.out
          have hE : Hid (TX = H1 ++ (bdB 0 (spL ats) ++ asB (spL ats) ats) ++ [47, 62]) := Lib.hid (by rw [HTX.out, HTL.out, if_pos (by omega)])
          have hz2 : (bs ++ H1 ++ (bdB 0 (spL ats) ++ asB (spL ats) ats)).length + (⟨#[47, 62]⟩ : ByteArray).size ≤ 17592186044416 := by
            have := HL.out
            rw [hTlen, if_pos (by omega)] at this
            simp only [List.length_append]
            show _ + 2 ≤ _
            omega
          have g0 : ((nk : Int) == 0) = true := by simpa using h0
          have HE := Lib.hid hE.out
          clear h0 hTlen hnl
          go_wp2_with fail
          refine (CW.out _ _ _ X.out hz2).mono ?_
          rintro e w6 ⟨⟨m6, rfl⟩, h6⟩
          have X6 := Lib.hid h6
          clear h6
          go_wp2
          ((try simp only [Exit.inBlock, Exit.then]); refine bodyPost_ret (results_none rfl _ _ _) rfl ?_)
          refine ⟨rfl, ?_, X6.out.fr⟩
          have hp := X6.out.prt
          rw [show byts (⟨#[47, 62]⟩ : ByteArray) = [47, 62] from rfl] at hp
          rw [hE.out]
          simp only [List.append_assoc] at hp ⊢
          exact hp
        · have hnl := HNL.out
          have hTlen := HTl.out
          have hk0 : ¬ ks.len = 0 := by omega
          have hE : Hid (TX = H1 ++ (bdB 0 (spL ats) ++ asB (spL ats) ats) ++ [62] ++ txB (ks.take nk) (dfS sp d) ++ ([60, 47] ++ nmB sp lo ++ [62])) := Lib.hid (by
            rw [HTX.out, HTL.out, if_neg hk0, hnl, take_full]
            simp only [List.append_assoc])
          rw [if_neg hk0] at hTlen
          have hz2 : (bs ++ H1 ++ (bdB 0 (spL ats) ++ asB (spL ats) ats)).length + (⟨#[62]⟩ : ByteArray).size ≤ 17592186044416 := by
            have := HL.out
            rw [hTlen] at this
            simp only [List.length_append]
            show _ + 1 ≤ _
            omega
          have hz3 : ((bs ++ H1 ++ (bdB 0 (spL ats) ++ asB (spL ats) ats)) ++ [62] ++ txB (ks.take nk) (dfS sp d)).length + ((⟨#[60, 47]⟩ ++ lo) ++ ⟨#[62]⟩ : ByteArray).size ≤ 17592186044416 := by
            have := HL.out
            rw [hTlen] at this
            rw [hnl, take_full, ← byts_len, byts_cat, byts_cat, HN.out]
            simp only [List.length_append]
            show _ + 1 + _ + (2 + _ + 1) ≤ _
            omega
          have g0 : ((nk : Int) == 0) = false := by simpa using h0
          have HZ3 := Lib.hid hz3
          clear h0 hTlen hk0 hz3 hnl
          go_wp2_with fail
          refine (CW.out _ _ _ X.out hz2).mono ?_
          rintro e w6 ⟨⟨m6, rfl⟩, h6⟩
          have X6 : Hid (TrI B b w.heap.size #[.bool false, .string tx, .string sp, .string lo, .slice Aa na ca, .slice Ak nk ck] ((bs ++ H1 ++ (bdB 0 (spL ats) ++ asB (spL ats) ats)) ++ [62] ++ txB (ks.take 0) (dfS sp d)) w w6) := Lib.hid (by
            rw [show (ks.take 0) = Fo.nil by cases ks <;> rfl]
            show TrI B b w.heap.size #[.bool false, .string tx, .string sp, .string lo, .slice Aa na ca, .slice Ak nk ck] ((bs ++ H1 ++ (bdB 0 (spL ats) ++ asB (spL ats) ats)) ++ [62] ++ []) w w6
            rw [List.append_nil]
            exact h6)
          clear h6 X hz2 c0 c1 c2 c3 c4 c5
          obtain ⟨c0, c1, c2, c3, c4, c5⟩ := cells6 X6.out.box
          go_wp2_with fail
          clear c0 c1 c2 c3 c4 c5
          go_loopw [69] (fun i wr => ∃ k : Nat, i = .int .i64 k ∧ k ≤ nk ∧ Hid (TrI B b w.heap.size #[.bool false, .string tx, .string sp, .string lo, .slice Aa na ca, .slice Ak nk ck] ((bs ++ H1 ++ (bdB 0 (spL ats) ++ asB (spL ats) ats)) ++ [62] ++ txB (ks.take k) (dfS sp d)) w wr)) (fun i _ => nk - (intOf i).toNat)
          case atStart => exact ⟨0, rfl, Nat.zero_le _, X6⟩
          case round =>
            clear X6
            obtain ⟨k, rfl, hk, X⟩ := hrel
            by_cases hlt : k < nk
            · have g1 : (k : Int) < (nk : Int) := by omega
              have g2 : (0 : Int) ≤ (k : Int) := by omega
              obtain ⟨u, ux, us, ul, ua, uk, b1, o1, u1, u2, u3, u4, u5, u6, ed, hAk, hb1, x6, Y⟩ := (HT.out wr X.out.fr.bel).ks.at_ (k := k) hlt
              subst hAk
              have hB9 : Below wr.heap.size wr (wr.alloc (.cells #[.bool u, .string ux, .string us, .string ul, .slice u1 u2 u3, .slice u4 u5 u6] 27)) := (Below.refl _ wr).alloc (Nat.le_refl _) _
              have C9 := Lib.hid (CS.out _ u ux us ul ua uk u1 u2 u3 u4 u5 u6 k (wr.alloc (.cells #[.bool u, .string ux, .string us, .string ul, .slice u1 u2 u3, .slice u4 u5 u6] 27)) HD.out hlt ed (Y.keep hB9) (X.out.keep hB hB9))
              obtain ⟨x1, x2, x3, x4, x5, x7⟩ := x6
              clear Y ed hb1 hB9
              go_wp2_with fail
              refine C9.out.mono ?_
              rintro e w8 ⟨rfl, h8⟩
              have X8 := Lib.hid h8
              clear h8 C9 X x1 x2 x3 x4 x5 x7
              go_wp2_with fail
              go_roundw
              case rel => exact ⟨k + 1, by go_num, by omega, X8⟩
              case measure => simp only [intOf]; omega
            · have hke : k = nk := by omega
              subst hke
              have g1 : ¬ (k : Int) < (k : Int) := by omega
              go_wp2_with fail
              refine (CW.out _ _ _ X.out HZ3.out).mono ?_
              rintro e w8 ⟨⟨m8, rfl⟩, h8⟩
              have X8 := Lib.hid h8
              clear h8 X
              go_wp2
              go_end0
              refine ⟨rfl, ?_, X8.out.fr⟩
              have hp := X8.out.prt
              rw [byts_cat, byts_cat, HN.out] at hp
              rw [hE.out]
              simp only [List.append_assoc] at hp ⊢
              exact hp
theorem pt_all : ∀ N, PtC N
  | 0 => fun t tx sp lo ats ks Aa na ca Ak nk ck d B b bs w h => by omega
  | N + 1 => pt_step N (Lib.hid (pt_all N))
/-- A tree that is not too great to be printed. -/
structure PrOk (f : Fo) (d : ByteArray) : Prop where
  szM : f.szM
  atN : f.atN
  ds : d.size ≤ 1048576
  lim : (txB f d).length ≤ 17592186044416
set_option maxHeartbeats 2000000 in
set_option maxRecDepth 100000 in
/-- seri.Within. -/
theorem within_any (t : Bool) (tx sp lo : ByteArray) (ats : List P3) (ks : Fo) (Aa : Option Addr) (na ca : Nat) (Ak : Option Addr) (nk ck : Nat) (d : ByteArray) (w : World) (T : Tr1 (· < w.heap.size) w tx sp lo ats ks Aa na ca Ak nk ck) (O : PrOk (Fo.cons t tx sp lo ats ks .nil) d) (hT : TbI w) :
    Calls Tryd.prog 8 #[.agg #[.bool t, .string tx, .string sp, .string lo, .slice Aa na ca, .slice Ak nk ck], .string d] w fun e w' => e = .returned (.string (strOfNums (txB (Fo.cons t tx sp lo ats ks .nil) d))) ∧ Below w.heap.size w w' := by
  have B0 : Below w.heap.size w (w.alloc (.cells #[.bool t, .string tx, .string sp, .string lo, .slice Aa na ca, .slice Ak nk ck] 27)) := (Below.refl _ w).alloc (Nat.le_refl _) _
  have B1 : Below w.heap.size w ((w.alloc (.cells #[.bool t, .string tx, .string sp, .string lo, .slice Aa na ca, .slice Ak nk ck] 27)).alloc (.cells #[.pointer none, .slice none 0 0] 43)) := B0.alloc B0.size _
  have hsz : (w.alloc (.cells #[.bool t, .string tx, .string sp, .string lo, .slice Aa na ca, .slice Ak nk ck] 27)).heap.size = w.heap.size + 1 := World.size_alloc _ _
  have HP := prt_new (w.alloc (.cells #[.bool t, .string tx, .string sp, .string lo, .slice Aa na ca, .slice Ak nk ck] 27)) w.heap.size B0.size
  rw [hsz] at HP
  have CP := Lib.hid (pt_all (ks.siz + 1) t tx sp lo ats ks Aa na ca Ak nk ck d w.heap.size (w.heap.size + 1) [] ((w.alloc (.cells #[.bool t, .string tx, .string sp, .string lo, .slice Aa na ca, .slice Ak nk ck] 27)).alloc (.cells #[.pointer none, .slice none 0 0] 43)) (Nat.lt_succ_self _) (T.keep B1) O.szM O.atN O.ds HP B1.size (hT.b.on B1) (by rw [List.length_nil, Nat.zero_add]; exact O.lim))
  have HK := Lib.hid (nblk w 27 #[.bool t, .string tx, .string sp, .string lo, .slice Aa na ca, .slice Ak nk ck])
  have HB1 := Lib.hid B1
  clear T O hT B0 B1 HP hsz
  generalize txB (Fo.cons t tx sp lo ats ks .nil) d = L at *
  go_enter Tryd.func8, Tryd.ntmps8
  go_wp2_with fail
  refine CP.out.mono ?_
  rintro e w1 ⟨rfl, h1, f1⟩
  rw [List.nil_append] at h1
  have CS := Lib.hid (strp_any w.heap.size (w.heap.size + 1) L w1 h1)
  have HB2 := Lib.hid (HB1.out.trans f1.bel)
  clear h1 f1 CP HB1
  go_wp2_with fail
  refine CS.out.mono ?_
  rintro e w2 ⟨rfl, b2⟩
  have HB3 := Lib.hid (HB2.out.trans b2)
  clear CS b2 HB2
  go_wp2
  go_ret
  exact ⟨rfl, HB3.out⟩
set_option maxHeartbeats 2000000 in
set_option maxRecDepth 100000 in
/-- seri.Print. -/
theorem print_any (t : Bool) (tx sp lo : ByteArray) (ats : List P3) (ks : Fo) (Aa : Option Addr) (na ca : Nat) (Ak : Option Addr) (nk ck : Nat) (w : World) (T : Tr1 (· < w.heap.size) w tx sp lo ats ks Aa na ca Ak nk ck) (O : PrOk (Fo.cons t tx sp lo ats ks .nil) emB) (hT : TbI w) :
    Calls Tryd.prog 10 #[.agg #[.bool t, .string tx, .string sp, .string lo, .slice Aa na ca, .slice Ak nk ck]] w fun e w' => e = .returned (.string (strOfNums (txB (Fo.cons t tx sp lo ats ks .nil) emB))) ∧ Below w.heap.size w w' := by
  have B0 : Below w.heap.size w (w.alloc (.cells #[.bool t, .string tx, .string sp, .string lo, .slice Aa na ca, .slice Ak nk ck] 27)) := (Below.refl _ w).alloc (Nat.le_refl _) _
  have CP : Hid (Calls Tryd.prog 8 #[.agg #[.bool t, .string tx, .string sp, .string lo, .slice Aa na ca, .slice Ak nk ck], .string ⟨#[]⟩] (w.alloc (.cells #[.bool t, .string tx, .string sp, .string lo, .slice Aa na ca, .slice Ak nk ck] 27)) fun e w' => e = .returned (.string (strOfNums (txB (Fo.cons t tx sp lo ats ks .nil) emB))) ∧ Below (w.alloc (.cells #[.bool t, .string tx, .string sp, .string lo, .slice Aa na ca, .slice Ak nk ck] 27)).heap.size (w.alloc (.cells #[.bool t, .string tx, .string sp, .string lo, .slice Aa na ca, .slice Ak nk ck] 27)) w') := Lib.hid (within_any t tx sp lo ats ks Aa na ca Ak nk ck emB _ ((T.keep B0).mono fun b hp => Nat.lt_of_lt_of_le hp B0.size) O (hT.keep B0))
  have HB := Lib.hid B0
  clear T O hT B0
  generalize strOfNums (txB (Fo.cons t tx sp lo ats ks .nil) emB) = L at *
  go_enter Tryd.func10, Tryd.ntmps10
  go_wp2_with fail
  refine CP.out.mono ?_
  rintro e w1 ⟨rfl, b1⟩
  have HB2 := Lib.hid (HB.out.trans (b1.mono HB.out.size))
  clear b1 CP HB
  go_wp2
  go_ret
  exact ⟨rfl, HB2.out⟩
end Go.Proofs.YtjboglpnpgghiaaDoor.Ev

/- word.measure: how many are open behind these events, and whether they are a beginning. -/
set_option linter.unusedSimpArgs false
set_option linter.unusedVariables false
namespace Go.Proofs.YtjboglpnpgghiaaDoor.Ev
open Go.RowKit

def EvP (pL tR : ByteArray → Bool) : Prop := ∀ (A : Option Addr) (n c : Nat) (x : RE) (W : World), AttsIn W A n c x.ats → RgB x → Calls Tryd.prog 22 #[.agg #[.int .i64 x.kind, .string x.sp, .string x.lo, .slice A n c, .string x.tx]] W fun e w' => e = .returned (.bool (rightF pL tR x)) ∧ Below W.heap.size W w'
/-- The element at hand in its box; what stands ahead of it; the attributes. -/
structure Mx (bx : Nat) (A Aa : Option Addr) (na ca k : Nat) (p : Int) (x : RE) (W0 W : World) : Prop where
  a : W.heap[bx]? = some (.cells #[.int .i64 x.kind, .string x.sp, .string x.lo, .slice Aa na ca, .string x.tx] 52 (0, 0))
  ta : AttsIn W Aa na ca x.ats
  pv : 0 < k → ∃ b off, A = some ⟨b, off, none⟩ ∧ b < W.heap.size ∧ W.cell? ⟨b, off + (k - 1) * 5, none⟩ = some (.int .i64 p)
  bel : Below W0.heap.size W0 W
section
variable {bx : Nat} {A Aa : Option Addr} {na ca k : Nat} {p : Int} {x : RE} {W0 W W' : World}
theorem Mx.keep (h : Mx bx A Aa na ca k p x W0 W) (hb : Below W.heap.size W W') : Mx bx A Aa na ca k p x W0 W' :=
  ⟨(hb.block _ (Array.getElem?_eq_some_iff.1 h.a).1).trans h.a, h.ta.keep hb, fun hk => by
    obtain ⟨b, off, e, hlt, hc⟩ := h.pv hk
    exact ⟨b, off, e, Nat.lt_of_lt_of_le hlt hb.size, (hb.cell (p := ⟨b, off + (k - 1) * 5, none⟩) hlt).trans hc⟩, h.bel.trans (hb.mono h.bel.size)⟩
end
end Go.Proofs.YtjboglpnpgghiaaDoor.Ev

/- word.Right. -/
set_option linter.unusedSimpArgs false
set_option linter.unusedVariables false
namespace Go.Proofs.YtjboglpnpgghiaaDoor.Ev
open Go.RowKit

def AtC (pL tR : ByteArray → Bool) : Prop := ∀ (A : Option Addr) (n c : Nat) (l : List P3) (w : World), AttsIn w A n c l → (l.length ≤ 32 → ∀ y ∈ l, y.1.1.size ≤ 10000 ∧ y.1.2.size ≤ 10000 ∧ y.2.size ≤ 10000) → Calls Tryd.prog 31 #[.slice A n c] w fun e w' => e = .returned (.bool (decide (n ≤ 32) && goA (nmF pL tR) tR [] l)) ∧ Below w.heap.size w w'
/-- The event in its box; its attributes. -/
structure Bx1 (bx : Nat) (A : Option Addr) (n c : Nat) (x : RE) (W0 W : World) : Prop where
  a : W.heap[bx]? = some (.cells #[.int .i64 x.kind, .string x.sp, .string x.lo, .slice A n c, .string x.tx] 52 (0, 0))
  ta : AttsIn W A n c x.ats
  bel : Below W0.heap.size W0 W
theorem Bx1.keep {bx : Nat} {A : Option Addr} {n c : Nat} {x : RE} {W0 W W' : World} (h : Bx1 bx A n c x W0 W) (hb : Below W.heap.size W W') : Bx1 bx A n c x W0 W' :=
  ⟨(hb.block _ (Array.getElem?_eq_some_iff.1 h.a).1).trans h.a, h.ta.keep hb, h.bel.trans (hb.mono h.bel.size)⟩
set_option maxHeartbeats 8000000 in
set_option maxRecDepth 100000 in
theorem pright_of (pL tR : ByteArray → Bool) (C1 : Hid (NmC pL tR)) (C2 : Hid (StrC 33 tR)) (C3 : Hid (AtC pL tR)) (A : Option Addr) (n c : Nat) (x : RE) (w : World) (T : AttsIn w A n c x.ats) (hB : RgB x) :
    Calls Tryd.prog 22 #[.agg #[.int .i64 x.kind, .string x.sp, .string x.lo, .slice A n c, .string x.tx]] w fun e w' => e = .returned (.bool (rightF pL tR x)) ∧ Below w.heap.size w w' := by
  obtain ⟨W0, hW0⟩ : ∃ W0, W0 = w.alloc (.cells #[.int .i64 x.kind, .string x.sp, .string x.lo, .slice A n c, .string x.tx] 52) := ⟨_, rfl⟩
  have HX : Hid (Bx1 w.heap.size A n c x w W0) := Lib.hid (by
    rw [hW0]
    exact ⟨nblk w 52 _, T.keep ((Below.refl _ w).alloc (Nat.le_refl _) _), (Below.refl w.heap.size w).alloc (Nat.le_refl _) _⟩)
  have HN := Lib.hid (show n = x.ats.length from T.len)
  have C20 : Hid (∀ W, Calls Tryd.prog 30 #[.agg #[.string x.sp, .string x.lo]] W fun e w' => e = .returned (.bool (nmF pL tR (x.sp, x.lo))) ∧ Below W.heap.size W w') := Lib.hid fun W => C1.out _ _ W hB.sp hB.lo
  have C21 : Hid (∀ W, Bx1 w.heap.size A n c x w W → Calls Tryd.prog 31 #[.slice A n c] W fun e w' => e = .returned (.bool (decide (n ≤ 32) && goA (nmF pL tR) tR [] x.ats)) ∧ Below W.heap.size W w') := Lib.hid fun W h => C3.out A n c x.ats W h.ta hB.at_
  have C22 : Hid (∀ W, Calls Tryd.prog 32 #[.agg #[.int .i64 x.kind, .string x.sp, .string x.lo, .slice A n c, .string x.tx]] W fun e w' => e = .returned (.bool (noneF x)) ∧ Below W.heap.size W w') := Lib.hid fun W => bare_any A n c x W HN.out
  have C23 : Hid (∀ W, Calls Tryd.prog 33 #[.string x.tx] W fun e w' => e = .returned (.bool (tR x.tx)) ∧ Below W.heap.size W w') := Lib.hid fun W => C2.out _ W hB.tx
  have HK : Hid (∀ W W', Bx1 w.heap.size A n c x w W → Below W.heap.size W W' → Bx1 w.heap.size A n c x w W') := Lib.hid fun W W' h hb => h.keep hb
  obtain ⟨F, hF⟩ : ∃ F, F = rightF pL tR x := ⟨_, rfl⟩
  rw [← hF]
  have HF := Lib.hid hF
  clear T hB hF C1 C2 C3
  by_cases h2 : x.kind = 2
  · have HE : Hid (F = (noneF x && !emp x.tx && tR x.tx)) := Lib.hid (by rw [HF.out]; unfold rightF; rw [if_pos h2])
    clear HF C20 C21
    unfold emp at HE
    generalize noneF x = nn at *
    generalize tR x.tx = tt at *
    obtain ⟨kind, sp, lo, ats, tx⟩ := x
    dsimp only at *
    subst h2
    go_enter Tryd.func22, Tryd.ntmps22
    go_wp2_with fail
    generalize hw : w.alloc _ = W1 at *
    clear hw
    subst hW0
    refine (C22.out _).mono ?_
    rintro e w1 ⟨rfl, b1⟩
    replace HX := Lib.hid (HK.out _ _ HX.out b1)
    clear b1 C22
    obtain ⟨c0, c1, c2, c3, c4⟩ := cells5 HX.out.a
    clear c0 c1 c2 c3
    cases nn with
    | false =>
      have HE2 : Hid (F = false) := Lib.hid (by rw [HE.out]; rfl)
      clear HE
      go_wp2
      go_ret
      exact ⟨by rw [HE2.out] <;> rfl, HX.out.bel⟩
    | true =>
      cases t1 : tx.toList.isEmpty with
      | true =>
        have HE2 : Hid (F = false) := Lib.hid (by rw [HE.out, t1]; rfl)
        clear HE
        go_wp2
        go_ret
        exact ⟨by rw [HE2.out] <;> rfl, HX.out.bel⟩
      | false =>
        have HE2 : Hid (F = tt) := Lib.hid (by rw [HE.out, t1]; rfl)
        clear HE
        go_wp2_with fail
        refine (C23.out _).mono ?_
        rintro e w2 ⟨rfl, b2⟩
        replace HX := Lib.hid (HK.out _ _ HX.out b2)
        clear b2 C23 c4
        go_wp2
        go_ret
        exact ⟨by rw [HE2.out] <;> rfl, HX.out.bel⟩
  by_cases h3 : x.kind = 3
  · have HE : Hid (F = (noneF x && emp x.tx)) := Lib.hid (by rw [HF.out]; unfold rightF; rw [if_neg h2, if_pos h3])
    clear HF C20 C21 C23 h2
    unfold emp at HE
    generalize noneF x = nn at *
    obtain ⟨kind, sp, lo, ats, tx⟩ := x
    dsimp only at *
    subst h3
    go_enter Tryd.func22, Tryd.ntmps22
    go_wp2_with fail
    generalize hw : w.alloc _ = W1 at *
    clear hw
    subst hW0
    refine (C22.out _).mono ?_
    rintro e w1 ⟨rfl, b1⟩
    replace HX := Lib.hid (HK.out _ _ HX.out b1)
    clear b1 C22
    obtain ⟨c0, c1, c2, c3, c4⟩ := cells5 HX.out.a
    clear c0 c1 c2 c3
    cases nn with
    | false =>
      have HE2 : Hid (F = false) := Lib.hid (by rw [HE.out]; rfl)
      clear HE
      go_wp2
      go_ret
      exact ⟨by rw [HE2.out] <;> rfl, HX.out.bel⟩
    | true =>
      have HE2 : Hid (F = tx.toList.isEmpty) := Lib.hid (by rw [HE.out]; rfl)
      clear HE
      go_wp2
      go_ret
      exact ⟨by rw [HE2.out] <;> rfl, HX.out.bel⟩
  have HE : Hid (F = if x.kind ≠ 1 ∨ emp x.tx = false ∨ nmF pL tR (x.sp, x.lo) = false ∨ 32 < x.ats.length then false else goA (nmF pL tR) tR [] x.ats) := Lib.hid (by rw [HF.out]; unfold rightF; rw [if_neg h2, if_neg h3])
  have e2 : (x.kind == 2) = false := by simpa using h2
  have e3 : (x.kind == 3) = false := by simpa using h3
  clear HF C22 C23 h2 h3
  by_cases h1 : x.kind = 1
  · have HE1 : Hid (F = (nmF pL tR (x.sp, x.lo) && (decide (n ≤ 32) && goA (nmF pL tR) tR [] x.ats) && x.tx.toList.isEmpty)) := Lib.hid (by
      rw [HE.out]
      unfold emp
      rw [HN.out]
      cases nmF pL tR (x.sp, x.lo)
      · rw [if_pos (.inr (.inr (.inl rfl)))]; rfl
      · cases x.tx.toList.isEmpty
        · rw [if_pos (.inr (.inl rfl))]; simp
        · by_cases h : 32 < x.ats.length
          · rw [if_pos (.inr (.inr (.inr h))), decide_eq_false (by omega)]; rfl
          · rw [if_neg (by rintro (g | g | g | g); exact g h1; cases g; cases g; exact h g), decide_eq_true (by omega)]; simp)
    clear HE e2 e3
    generalize (decide (n ≤ 32) && goA (nmF pL tR) tR [] x.ats) = aa at *
    generalize nmF pL tR (x.sp, x.lo) = nn at *
    obtain ⟨kind, sp, lo, ats, tx⟩ := x
    dsimp only at *
    subst h1
    go_enter Tryd.func22, Tryd.ntmps22
    go_wp2_with fail
    generalize hw : w.alloc _ = W1 at *
    clear hw
    subst hW0
    refine (C20.out _).mono ?_
    rintro e w1 ⟨rfl, b1⟩
    replace HX := Lib.hid (HK.out _ _ HX.out b1)
    clear b1 C20
    cases nn with
    | false =>
      have HE2 : Hid (F = false) := Lib.hid (by rw [HE1.out]; rfl)
      clear HE1
      go_wp2
      go_ret
      exact ⟨by rw [HE2.out] <;> rfl, HX.out.bel⟩
    | true =>
      obtain ⟨c0, c1, c2, c3, c4⟩ := cells5 HX.out.a
      clear c0 c1 c2 c4
      go_wp2_with fail
      refine (C21.out _ HX.out).mono ?_
      rintro e w2 ⟨rfl, b2⟩
      replace HX := Lib.hid (HK.out _ _ HX.out b2)
      clear b2 C21 c3
      obtain ⟨c0, c1, c2, c3, c4⟩ := cells5 HX.out.a
      clear c0 c1 c2 c3
      cases aa with
      | false =>
        have HE2 : Hid (F = false) := Lib.hid (by rw [HE1.out]; rfl)
        clear HE1
        go_wp2
        go_ret
        exact ⟨by rw [HE2.out] <;> rfl, HX.out.bel⟩
      | true =>
        have HE2 : Hid (F = tx.toList.isEmpty) := Lib.hid (by rw [HE1.out]; rfl)
        clear HE1
        go_wp2
        go_ret
        exact ⟨by rw [HE2.out] <;> rfl, HX.out.bel⟩
  · have HE2 : Hid (F = false) := Lib.hid (by rw [HE.out, if_pos (.inl h1)])
    have e1 : (x.kind == 1) = false := by simpa using h1
    clear HE C20 C21 h1
    obtain ⟨kind, sp, lo, ats, tx⟩ := x
    dsimp only at *
    go_enter Tryd.func22, Tryd.ntmps22
    go_wp2_with fail
    generalize hw : w.alloc _ = W1 at *
    clear hw
    subst hW0
    go_ret
    exact ⟨by rw [HE2.out] <;> rfl, HX.out.bel⟩
theorem pright_c (pL tR : ByteArray → Bool) (C1 : Hid (StrC 40 pL)) (C2 : Hid (StrC 33 tR)) : EvP pL tR := fun A n c x W T hB => by
  have CN : Hid (NmC pL tR) := Lib.hid fun sp lo W h1 h2 => pnamed_any pL tR C1 C2 sp lo W h1 h2
  have CA : Hid (AtC pL tR) := Lib.hid fun A n c l W T hB => attributed_any pL tR CN C2 A n c l W T hB
  exact pright_of pL tR CN C2 CA A n c x W T hB
end Go.Proofs.YtjboglpnpgghiaaDoor.Ev

/- Walks: what char's classes return (between, Blank, Char, Start, Part), whatever the world. -/
set_option linter.unusedSimpArgs false
set_option linter.unusedVariables false
namespace Go.Proofs.YtjboglpnpgghiaaDoor
open Go.RowKit

theorem cret_bool {a b : Bool} (h : a = b) : Ending.returned (.bool a) = .returned (.bool b) := by rw [h]
theorem cbt {p : Prop} [Decidable p] (h : p) : true = decide p := (decide_eq_true h).symm
theorem cbf {p : Prop} [Decidable p] (h : ¬ p) : false = decide p := (decide_eq_false h).symm

set_option maxHeartbeats 400000 in
theorem between_any (r a b : Int) (w : World) : Calls Tryd.prog 54 #[.int .i32 r, .int .i32 a, .int .i32 b] w fun e w' => e = .returned (.bool (decide (Btw r a b))) ∧ w = w' := by
  go_enter Tryd.func54, Tryd.ntmps54
  go_wp2
  all_goals
    go_ret
    refine ⟨cret_bool ?_, rfl⟩
    first
      | refine cbt ?_
      | refine cbf ?_
      | (refine Bool.eq_iff_iff.2 ?_; simp only [decide_eq_true_eq, Bool.or_eq_true, beq_iff_eq])
    simp only [Part, Start, Chr, Blank, Btw] at *
    first
      | omega
      | (constructor <;> intro hq <;> omega)

set_option maxHeartbeats 400000 in
set_option maxRecDepth 100000 in
theorem blank_any (r : Int) (w : World) : Calls Tryd.prog 53 #[.int .i32 r] w fun e w' => e = .returned (.bool (decide (Blank r))) ∧ w = w' := by
  go_enter Tryd.func53, Tryd.ntmps53
  go_wp2
  all_goals
    go_ret
    refine ⟨cret_bool ?_, rfl⟩
    first
      | refine cbt ?_
      | refine cbf ?_
      | (refine Bool.eq_iff_iff.2 ?_; simp only [decide_eq_true_eq, Bool.or_eq_true, beq_iff_eq])
    simp only [Part, Start, Chr, Blank, Btw] at *
    first
      | omega
      | (constructor <;> intro hq <;> omega)

set_option maxHeartbeats 1000000 in
set_option maxRecDepth 100000 in
theorem chr_any (r : Int) (w : World) : Calls Tryd.prog 42 #[.int .i32 r] w fun e w' => e = .returned (.bool (decide (Chr r))) ∧ w = w' := by
  go_enter Tryd.func42, Tryd.ntmps42
  go_wp2_with (first | (go_at_call 53; refine (blank_any _ _).mono ?_; rintro e w' ⟨rfl, rfl⟩) | (go_at_call 54; refine (between_any _ _ _ _).mono ?_; rintro e w' ⟨rfl, rfl⟩))
  all_goals
    go_ret
    refine ⟨cret_bool ?_, rfl⟩
    first
      | refine cbt ?_
      | refine cbf ?_
      | (refine Bool.eq_iff_iff.2 ?_; simp only [decide_eq_true_eq, Bool.or_eq_true, beq_iff_eq])
    simp only [Part, Start, Chr, Blank, Btw] at *
    first
      | omega
      | (constructor <;> intro hq <;> omega)

end Go.Proofs.YtjboglpnpgghiaaDoor

/- Walks: what char's classes return (between, Start, Part), whatever the world. -/
set_option linter.unusedSimpArgs false
set_option linter.unusedVariables false
namespace Go.Proofs.YtjboglpnpgghiaaDoor.Nz
open Go.RowKit

theorem ret_bool {a b : Bool} (h : a = b) : Ending.returned (.bool a) = .returned (.bool b) := by rw [h]
theorem bt {p : Prop} [Decidable p] (h : p) : true = decide p := (decide_eq_true h).symm
theorem bf {p : Prop} [Decidable p] (h : ¬ p) : false = decide p := (decide_eq_false h).symm

set_option maxHeartbeats 400000 in
theorem between_any (r a b : Int) (w : World) : Calls Tryd.prog 54 #[.int .i32 r, .int .i32 a, .int .i32 b] w fun e w' => e = .returned (.bool (decide (Btw r a b))) ∧ w = w' := by
  go_enter Tryd.func54, Tryd.ntmps54
  go_wp2
  all_goals
    go_ret
    refine ⟨ret_bool ?_, rfl⟩
    first
      | refine bt ?_
      | refine bf ?_
      | (refine Bool.eq_iff_iff.2 ?_; simp only [decide_eq_true_eq, Bool.or_eq_true, beq_iff_eq])
    simp only [Part, Start, Chr, Blank, Btw] at *
    first
      | omega
      | (constructor <;> intro hq <;> omega)

set_option maxHeartbeats 4000000 in
set_option maxRecDepth 100000 in
theorem start_any (r : Int) (w : World) : Calls Tryd.prog 49 #[.int .i32 r] w fun e w' => e = .returned (.bool (decide (Start r))) ∧ w = w' := by
  go_enter Tryd.func49, Tryd.ntmps49
  go_wp2_with (first | (go_at_call 54; refine (between_any _ _ _ _).mono ?_; rintro e w' ⟨rfl, rfl⟩))
  all_goals
    go_ret
    refine ⟨ret_bool ?_, rfl⟩
    first
      | refine bt ?_
      | refine bf ?_
      | (refine Bool.eq_iff_iff.2 ?_; simp only [decide_eq_true_eq, Bool.or_eq_true, beq_iff_eq])
    simp only [Part, Start, Chr, Blank, Btw] at *
    first
      | omega
      | (constructor <;> intro hq <;> omega)

set_option maxHeartbeats 4000000 in
set_option maxRecDepth 100000 in
theorem part_any (r : Int) (w : World) : Calls Tryd.prog 50 #[.int .i32 r] w fun e w' => e = .returned (.bool (decide (Part r))) ∧ w = w' := by
  go_enter Tryd.func50, Tryd.ntmps50
  go_wp2_with (first | (go_at_call 49; refine (start_any _ _).mono ?_; rintro e w' ⟨rfl, rfl⟩) | (go_at_call 54; refine (between_any _ _ _ _).mono ?_; rintro e w' ⟨rfl, rfl⟩))
  all_goals
    go_ret
    refine ⟨ret_bool ?_, rfl⟩
    first
      | refine bt ?_
      | refine bf ?_
      | (refine Bool.eq_iff_iff.2 ?_; simp only [decide_eq_true_eq, Bool.or_eq_true, beq_iff_eq])
    simp only [Part, Start, Chr, Blank, Btw] at *
    first
      | omega
      | (constructor <;> intro hq <;> omega)

end Go.Proofs.YtjboglpnpgghiaaDoor.Nz

/- []rune(s) in memory: a slice that reads as the text's runes. -/
set_option linter.unusedSimpArgs false
set_option linter.unusedVariables false
namespace Go.Proofs.YtjboglpnpgghiaaDoor.Nz
open Go.RowKit

/-- A text's runes from a place on. -/
def rgo (s : ByteArray) : Nat → Nat → List Int
  | 0, _ => []
  | f + 1, i => if i < s.size then ((Utf8.decode s i).1 : Int) :: rgo s f (i + (Utf8.decode s i).2) else []
def runes (s : ByteArray) : List Int := rgo s s.size 0

theorem width_pos (s : ByteArray) (pos : Nat) (h : pos < s.size) : 1 ≤ (Utf8.decode s pos).2 := by
  by_cases ha : (s[pos]'h).toNat < 128
  · rw [decode_ascii s pos h ha]
    exact Nat.le_refl _
  · exact (decode_high s pos h (by omega)).2
theorem Blk0 (w : World) (t : TypeId) (cs : Array Value) (i : Nat) : (w.alloc (.cells cs t)).cell? ⟨w.heap.size, i, none⟩ = cs[i]? := World.cell?_alloc_mark w cs t (0, 0) i
theorem runesFrom_eq (s : ByteArray) : ∀ (b i : Nat) (acc : Array Value), Conv.runesFrom s b i acc = acc ++ ((rgo s b i).map (Value.int .i32)).toArray
  | 0, i, acc => by simp [Conv.runesFrom, rgo]
  | b + 1, i, acc => by
    unfold Conv.runesFrom rgo
    by_cases h : i < s.size
    · simp only [h, if_true]
      rw [runesFrom_eq s b]
      simp
    · simp [h]
theorem runesFrom_runes (s : ByteArray) : Conv.runesFrom s s.size 0 #[] = ((runes s).map (Value.int .i32)).toArray := by
  rw [runesFrom_eq]
  simp [runes]
theorem rgo_len (s : ByteArray) : ∀ (b i : Nat), (rgo s b i).length ≤ b
  | 0, i => by simp [rgo]
  | b + 1, i => by
    unfold rgo
    split
    · have := rgo_len s b (i + (Utf8.decode s i).2)
      simp only [List.length_cons]
      omega
    · simp
theorem runes_len (s : ByteArray) : (runes s).length ≤ s.size := rgo_len s s.size 0

/-- What '[]rune(s)' leaves. -/
def ConvPost (w : World) (s : ByteArray) (c : Nat) (w1 : World) : Prop :=
  (convert 9 73 (.string s)).run Tryd.prog w = .ok (.slice (some ⟨w.heap.size, 0, none⟩) (runes s).length c) w1 ∧ Below w.heap.size w w1 ∧ w1.heap.size = w.heap.size + 1 ∧
    ∀ j, j < (runes s).length → w1.cell? ⟨w.heap.size, j, none⟩ = some (.int .i32 ((runes s).getD j 0))
theorem conv_runes (w : World) (s : ByteArray) (hs : s.size ≤ 10000) : ∃ c w1, ConvPost w s c w1 := by
  have hl := runes_len s
  have hrun := run_runes_of_string (P := Tryd.prog) w 9 73 21 s Tryd.underlying9 Tryd.underlying73 Tryd.underlying21 (by rw [runesFrom_runes]; simp; omega)
  rw [runesFrom_runes] at hrun
  have hz : ((runes s).map (Value.int .i32)).toArray.size = (runes s).length := by simp
  rw [hz] at hrun
  refine ⟨_, _, hrun, ((Below.refl _ w).drew).alloc (Nat.le_refl _) _, by simp, fun j hj => ?_⟩
  have hb := Blk0 w.drew 21 (((runes s).map (Value.int .i32)).toArray ++ Array.replicate (grownCap w (runes s).length 0 21 - (runes s).length) (.int .i32 0)) j
  refine hb.trans ?_
  rw [Array.getElem?_append_left (by simpa using hj)]
  simp [List.getElem?_eq_getElem hj]
end Go.Proofs.YtjboglpnpgghiaaDoor.Nz
