/-
  The walk of scope.Names.
-/
import Derived.Test.YtepmleieekpdiaaScBind
set_option linter.unusedSimpArgs false
set_option linter.unusedVariables false
namespace Go.Proofs.Ytepmleieekpdiaa
open Go.RowKit

def NmPost (w : World) (o : Option (List P2)) (e : Ending) (w' : World) : Prop :=
  (o = none → e = .returned (.tuple #[.slice none 0 0, .int .i64 9])) ∧ (∀ f, o = some f → ∃ v, e = .returned (.tuple #[v, .int .i64 0]) ∧ OwnP 29 w' w.heap.size v f) ∧ Below w.heap.size w w'
def NmRel (L : List P2) (ts : List ByteArray) (K : Nat) (w : World) (v i : Value) (wr : World) : Prop :=
  ∃ (k m : Nat) (f : List P2), i = .int .i64 k ∧ k ≤ K ∧ m ≤ k ∧ Hid (m = f.length) ∧ Hid (wr.ownsRow w.heap.size 29 2 v m (rwL f)) ∧ Hid (Below w.heap.size w wr) ∧ Hid (nmsF L [] ts = nmsF L f (ts.drop k))
theorem nms_stop {L f : List P2} {ts : List ByteArray} {k : Nat} {s : ByteArray} (h : ts[k]? = some s) (hn : namF L s = none) : nmsF L f (ts.drop k) = none := by
  rw [drop_cons h, nmsF, hn]
theorem nms_go {L f : List P2} {ts : List ByteArray} {k : Nat} {s : ByteArray} {n : P2} (h : ts[k]? = some s) (hn : namF L s = some n) : nmsF L f (ts.drop k) = nmsF L (f ++ [n]) (ts.drop (k + 1)) := by
  rw [drop_cons h, nmsF, hn]
def ResC (A : Option Addr) (N cap : Nat) (p l : ByteArray) (v : Value) (w : World) : Prop := ∀ W, Below w.heap.size w W → Calls Try.prog 28 #[.slice A N cap, .string p, .string l] W fun e w' => e = .returned v ∧ Below W.heap.size W w'
theorem nam_no {L : List P2} {s p l : ByteArray} {ok : Bool} (h : splitA s = (p, l, ok)) (ho : ok = false) : namF L s = none := by
  unfold namF
  rw [h, if_pos ho]
theorem nam_yes {L : List P2} {s p l : ByteArray} {ok : Bool} (h : splitA s = (p, l, ok)) (ho : ok = true) : namF L s = resF L p l := by
  unfold namF
  rw [h, if_neg (by simp [ho])]
set_option maxHeartbeats 4000000 in
set_option maxRecDepth 100000 in
theorem names_any (A AS : Option Addr) (N K cap capS : Nat) (L : List P2) (ts : List ByteArray) (w : World) (hN : N = L.length) (hK : K = ts.length) (hN1 : N ≤ 1000000) (hK1 : K ≤ 1000) (hlim : LimL L) (hsz : ∀ x ∈ ts, x.size ≤ 1000) (hR : RdR w A L) (hS : RdS w AS ts) :
    Calls Try.prog 16 #[.slice A N cap, .slice AS K capS] w (NmPost w (nmsF L [] ts)) := by
  obtain ⟨i0, hi, hz0, hz1, hz2⟩ := info_parts Try.info29
  have HR := Lib.hid (fun (p l : ByteArray) (hl : l.size ≤ Lim) (W : World) (hW : Below w.heap.size w W) => resolve_any A N cap p l L W hN hlim hN1 (hR.keep hW) hl)
  have HK := Lib.hid hK
  have HZ := Lib.hid hsz
  have HS := Lib.hid hS
  clear hN hK hlim hsz hR hS
  go_enter Try.func16, Try.ntmps16
  go_wp2_with fail
  go_loopw [6, 16] (fun v i wr => NmRel L ts K w v i wr) (fun _ i _ => K - (intOf i).toNat)
  case atStart => exact ⟨0, 0, [], rfl, Nat.zero_le _, Nat.le_refl _, Lib.hid rfl, Lib.hid ⟨by simp [rwL], .inl ⟨rfl, rfl⟩⟩, Lib.hid (Below.refl _ _), Lib.hid rfl⟩
  case round =>
    obtain ⟨k, m, f, rfl, hk, hm, HF, hO, hB, HI⟩ := hrel
    obtain ⟨A1, c1, rfl⟩ := own_slice hO.out
    by_cases hlt : k < K
    · have hkl : k < ts.length := by rw [← HK.out]; exact hlt
      have hx := List.getElem?_eq_getElem hkl
      obtain ⟨b1, o1, rfl, hb1, x0⟩ := (HS.out.keep hB.out) k _ hx
      have hs := HZ.out _ (List.getElem_mem hkl)
      have HX := Lib.hid hx
      have d1 : (k : Int) < (K : Int) := by omega
      have d0 : (0 : Int) ≤ (k : Int) := by omega
      clear hx
      generalize ts[k] = s at *
      have CS := Lib.hid (spl_any s hs)
      have hls : (splitA s).2.1.size ≤ Lim := Nat.le_trans (split_size s).2 (by unfold Lim; omega)
      obtain ⟨p, l, ok, hsp⟩ : ∃ p l ok, splitA s = (p, l, ok) := ⟨_, _, _, rfl⟩
      rw [hsp] at CS hls
      dsimp only at CS hls
      cases ok with
      | false =>
        have HE := Lib.hid (nms_stop (f := f) HX.out (nam_no (L := L) hsp rfl))
        clear hsp hls hs
        go_wp2_with (go_at_call 27; refine (CS.out _).mono ?_; rintro e w1 ⟨rfl, hb⟩)
        go_ret2
        refine ⟨fun _ => rfl, fun f' hf' => ?_, hB.out.trans (hb.mono hB.out.size)⟩
        rw [HI.out.trans HE.out] at hf'
        cases hf'
      | true =>
        have CR := HR.out p l hls
        have hny := nam_yes (L := L) hsp rfl
        cases hr : resF L p l with
        | none =>
          have CR' : Hid (ResC A N cap p l (.tuple #[.agg #[.string ⟨#[]⟩, .string ⟨#[]⟩], .int .i64 9]) w) := Lib.hid (fun W hW => (CR W hW).mono fun e w' ⟨h1, h2⟩ => ⟨by rw [h1, hr]; rfl, h2⟩)
          have HE := Lib.hid (nms_stop (f := f) HX.out (hny.trans hr))
          clear hsp hls hs CR hny hr
          go_wp2_with (first
            | (go_at_call 27; refine (CS.out _).mono ?_; rintro e w1 ⟨rfl, hb⟩; have hB1 := Lib.hid (hB.out.trans (hb.mono hB.out.size)))
            | (go_at_call 28; refine (CR'.out _ hB1.out).mono ?_; rintro e w2 ⟨rfl, hb2⟩; have hB2 := Lib.hid (hB1.out.trans (hb2.mono hB1.out.size))))
          go_ret2
          refine ⟨fun _ => rfl, fun f' hf' => ?_, hB2.out.alloc hB2.out.size _⟩
          rw [HI.out.trans HE.out] at hf'
          cases hf'
        | some x =>
          obtain ⟨xa, xb⟩ := x
          have CR' : Hid (ResC A N cap p l (.tuple #[.agg #[.string xa, .string xb], .int .i64 0]) w) := Lib.hid (fun W hW => (CR W hW).mono fun e w' ⟨h1, h2⟩ => ⟨by rw [h1, hr]; rfl, h2⟩)
          have HE := Lib.hid (nms_go (f := f) HX.out (hny.trans hr))
          clear hsp hls hs CR hny hr
          go_wp2_with (first
            | (go_at_call 27; refine (CS.out _).mono ?_; rintro e w1 ⟨rfl, hb⟩; have hB1 := Lib.hid (hB.out.trans (hb.mono hB.out.size)); have ho1 := Lib.hid (own_keep hO.out hb))
            | (go_at_call 28; refine (CR'.out _ hB1.out).mono ?_; rintro e w2 ⟨rfl, hb2⟩
               have hB2 := Lib.hid ((hB1.out.trans (hb2.mono hB1.out.size)).alloc (Nat.le_trans hB1.out.size hb2.size) (.cells #[.string xa, .string xb] 29))
               have hB3 := Lib.hid (hB2.out.alloc hB2.out.size (.cells #[.string xa, .string xb] 29))
               have ho2 := Lib.hid (((own_keep ho1.out hb2).alloc (.cells #[.string xa, .string xb] 29)).alloc (.cells #[.string xa, .string xb] 29))
               have hnew := Lib.hid (new_cells (w2.alloc (.cells #[.string xa, .string xb] 29)) #[.string xa, .string xb] 29)
               rw [World.size_alloc] at hnew)
            | (at_builtin
               refine wpList_append_own _ rfl _ _ 43 rfl w.heap.size 29 i0 (.agg #[.string ⟨#[]⟩, .string ⟨#[]⟩]) 2 32 Try.underlying43 hi hz0 hz1 hz2 rfl (by decide) _ m (rwL f) rfl ho2.out ⟨w2.heap.size + 1, 0, none⟩ 1 1 [.string xa, .string xb] rfl rfl hnew.out (pair_one xa xb) (by unfold maxLen; omega) (by omega) hB3.out.size ?_
               intro v' w4 hown' hgrow hnil
               obtain ⟨g', cap', rfl⟩ := own_shape hown'
               have hO2 := Lib.hid hown'
               have hB6 := Lib.hid (hB3.out.grown hgrow hB3.out.size (fun j hj => (World.ownsRow.lt ho2.out j hj).1))
               clear hown' hgrow hnil))
          go_roundw
          case rel => exact ⟨k + 1, m + 1, f ++ [(xa, xb)], by go_num, by omega, by omega, Lib.hid (by rw [List.length_append, ← HF.out]; rfl), Lib.hid (by rw [rwL_app]; exact hO2.out), hB6, Lib.hid (HI.out.trans HE.out)⟩
          case measure => simp only [intOf]; omega
    · have d1 : ¬ (k : Int) < (K : Int) := by omega
      have HD : Hid (ts.drop k = []) := Lib.hid (List.drop_of_length_le (by rw [← HK.out]; omega))
      go_wp2_with fail
      go_ret2
      have hf : nmsF L [] ts = some f := by
        rw [HI.out, HD.out]
        rfl
      refine ⟨fun h => ?_, fun f' hf' => ⟨_, rfl, ?_⟩, hB.out⟩
      · rw [hf] at h
        cases h
      · rw [hf] at hf'
        injection hf' with hf'
        subst hf'
        unfold OwnP
        rw [← HF.out]
        exact hO.out
end Go.Proofs.Ytepmleieekpdiaa
