/-
  Enter, whole; awake.
-/
import Derived.Test.YtepmleieekpdiaaScEnterOk
import Derived.Test.YtepmleieekpdiaaScLit
set_option linter.unusedSimpArgs false
set_option linter.unusedVariables false
namespace Go.Proofs.Ytepmleieekpdiaa
open Go.RowKit

theorem att_err (W : List P2) : ∀ (r : List P2) (f : List P3) {c : Int}, attF W f r = .error c → c = 8 ∨ c = 9
  | [], f, c, h => by cases h
  | a :: r, f, c, h => by
    unfold attF at h
    split at h
    · exact att_err W r f h
    · split at h
      · injection h with h
        exact .inr h.symm
      · split at h
        · injection h with h
          exact .inl h.symm
        · exact att_err W r _ h
/-- What is asked of a scope and a tag in memory. -/
structure Ent (w : World) (A A2 : Option Addr) (N M : Nat) (nm : ByteArray) (L R : List P2) : Prop where
  hN : N = L.length
  hM : M = R.length
  hN1 : N ≤ 1000
  hM1 : M ≤ 1000
  hm : nm.size ≤ 1000
  hlim : LimL L
  hlimR : LimL R
  hsz : ∀ x ∈ R, x.1.size ≤ 1000
  hR : RdR w A L
  hR2 : RdR w A2 R
theorem Ent.keep {w w' : World} {A A2 : Option Addr} {N M : Nat} {nm : ByteArray} {L R : List P2} (h : Ent w A A2 N M nm L R) (hb : Below w.heap.size w w') : Ent w' A A2 N M nm L R :=
  ⟨h.hN, h.hM, h.hN1, h.hM1, h.hm, h.hlim, h.hlimR, h.hsz, h.hR.keep hb, h.hR2.keep hb⟩
theorem enter_any {A A2 : Option Addr} {N M : Nat} {nm : ByteArray} {L R : List P2} {w : World} (cap cap2 : Nat) (h : Ent w A A2 N M nm L R) :
    Calls Try.prog 10 #[.slice A N cap, .agg #[.string nm, .slice A2 M cap2]] w (EnPost w (entF L nm R)) := by
  have CB : ∀ W, Below w.heap.size w W → Calls Try.prog 22 #[.slice A N cap, .slice A2 M cap2] W (BdPost W (bindF L R)) := fun W hW => bind_any A A2 N M cap cap2 L R W h.hN h.hM h.hN1 h.hM1 h.hlim h.hlimR h.hsz (h.hR.keep hW) (h.hR2.keep hW)
  cases hb : bindF L R with
  | none =>
    rw [hb] at CB
    exact enter_e1 A A2 N M cap cap2 nm w _ (by unfold entF; rw [hb]) (Lib.hid CB)
  | some Ws =>
    rw [hb] at CB
    have hl := bind_len R L hb
    have hWl : Ws.length ≤ 1000000 := by have := h.hN; have := h.hM; have := h.hN1; have := h.hM1; omega
    have hWm : LimL Ws := bind_lim R L h.hlim h.hlimR hb
    have CN : NmC Ws.length Ws nm (nmsF Ws [] [nm]) := fun A' c' AS cS W h1 h2 => names_any A' AS Ws.length 1 c' cS Ws [nm] W rfl rfl hWl (by omega) hWm (fun x hx => by rw [List.mem_singleton] at hx; rw [hx]; exact h.hm) h1 h2
    have CA : AttC Ws.length Ws A2 M cap2 w (attF Ws [] R) := fun A' c' W h1 h2 => attrs_any A' A2 Ws.length M c' cap2 Ws R W rfl h.hM hWl h.hM1 hWm h.hlimR h.hsz h1 (h.hR2.keep h2)
    cases hn : namF Ws nm with
    | none =>
      have e : nmsF Ws [] [nm] = none := by rw [nmsF, hn]
      rw [e] at CN
      exact enter_e2 A A2 N M cap cap2 Ws.length nm Ws w _ (by unfold entF; rw [hb]; dsimp only; rw [hn]) rfl (Lib.hid CB) (Lib.hid CN)
    | some n =>
      have e : nmsF Ws [] [nm] = some [n] := by rw [nmsF, hn]; rfl
      rw [e] at CN
      cases ha : attF Ws [] R with
      | error c =>
        rw [ha] at CA
        exact enter_e3 A A2 N M cap cap2 Ws.length nm Ws n c w _ (by unfold entF; rw [hb]; dsimp only; rw [hn]; dsimp only; rw [ha]) rfl (att_err Ws R [] ha) (Lib.hid CB) (Lib.hid CN) (Lib.hid CA)
      | ok f =>
        rw [ha] at CA
        obtain ⟨na, nb⟩ := n
        exact enter_ok A A2 N M cap cap2 Ws.length f.length nm na nb Ws f w _ (by unfold entF; rw [hb]; dsimp only; rw [hn]; dsimp only; rw [ha]) rfl rfl (Lib.hid CB) (Lib.hid CN) (Lib.hid CA)
theorem own_rdT' {w : World} {B n : Nat} {v : Value} {l : List P3} (h : OwnT w B v l) (hn : n = l.length) : ∃ A c, v = .slice A n c ∧ RdT w A l := by
  obtain ⟨A, c, h1, h2, _⟩ := own_rdT h
  exact ⟨A, c, by rw [h1, hn], h2⟩
theorem rdR_new (W : World) (T : TypeId) (a b : ByteArray) : RdR (W.alloc (.cells #[.string a, .string b] T)) (some ⟨W.heap.size, 0, none⟩) [(a, b)] := fun k x hk => by
  have hk0 : k = 0 := by
    have := (List.getElem?_eq_some_iff.1 hk).1
    simp at this
    exact this
  subst hk0
  have : (a, b) = x := by simpa using hk
  subst this
  exact ⟨_, _, rfl, by simp, by simp, by simp⟩
theorem rdR_new2 (W : World) (T : TypeId) (a b c d : ByteArray) : RdR (W.alloc (.cells #[.string a, .string b, .string c, .string d] T)) (some ⟨W.heap.size, 0, none⟩) [(a, b), (c, d)] := fun k x hk => by
  have hk0 : k = 0 ∨ k = 1 := by
    have := (List.getElem?_eq_some_iff.1 hk).1
    simp at this
    omega
  rcases hk0 with rfl | rfl
  · have : (a, b) = x := by simpa using hk
    subst this
    exact ⟨_, _, rfl, by simp, by simp, by simp⟩
  · have : (c, d) = x := by simpa using hk
    subst this
    exact ⟨_, _, rfl, by simp, by simp, by simp⟩
theorem ent_awk (w : World) : Ent ((w.alloc (.cells #[.string xm, .string XS] 50)).alloc (.cells #[.string ⟨#[120, 109, 108, 110, 115, 58, 112]⟩, .string ⟨#[117]⟩, .string ⟨#[112, 58, 98]⟩, .string ⟨#[49]⟩] 57)) (some ⟨w.heap.size, 0, none⟩) (some ⟨w.heap.size + 1, 0, none⟩) 1 2 ⟨#[112, 58, 97]⟩ aw0 awR := by
  refine ⟨rfl, rfl, by omega, by omega, by decide, ?_, ?_, ?_, ?_, ?_⟩
  · intro x hx
    unfold aw0 at hx
    rw [List.mem_singleton] at hx
    subst hx
    exact ⟨by decide, by decide⟩
  · intro x hx
    unfold awR at hx
    simp only [List.mem_cons, List.not_mem_nil, or_false] at hx
    rcases hx with rfl | rfl <;> exact ⟨by decide, by decide⟩
  · intro x hx
    unfold awR at hx
    simp only [List.mem_cons, List.not_mem_nil, or_false] at hx
    rcases hx with rfl | rfl <;> decide
  · exact (rdR_new w 50 xm XS).keep ((Below.refl _ _).alloc (Nat.le_refl _) _)
  · have := rdR_new2 (w.alloc (.cells #[.string xm, .string XS] 50)) 57 ⟨#[120, 109, 108, 110, 115, 58, 112]⟩ ⟨#[117]⟩ ⟨#[112, 58, 98]⟩ ⟨#[49]⟩
    rw [World.size_alloc] at this
    exact this
theorem awW_lim : LimL awW := by
  intro x hx
  unfold awW at hx
  simp only [List.mem_cons, List.not_mem_nil, or_false] at hx
  rcases hx with rfl | rfl <;> exact ⟨by decide, by decide⟩
set_option maxHeartbeats 4000000 in
set_option maxRecDepth 100000 in
theorem awake_any (w : World) : Calls Try.prog 8 #[] w fun e w' => e = .returned (.bool true) ∧ Below w.heap.size w w' := by
  have C0 := Lib.hid (fun W => new_any W)
  have C1 := Lib.hid (fun (W : World) => enter_any 1 2 (ent_awk W))
  rw [ent_aw] at C1
  have CP : Hid (∀ (A : Option Addr) (c : Nat) (W : World), RdR W A awW → Calls Try.prog 12 #[.slice A 2 c, .string ⟨#[112]⟩] W fun e w' => e = .returned (.tuple #[.string ⟨#[117]⟩, .bool true]) ∧ Below W.heap.size W w') :=
    Lib.hid (fun A c W hR => (find_any A 2 c ⟨#[112]⟩ awW W rfl awW_lim (by omega) hR).mono fun e w' ⟨h1, h2⟩ => ⟨by rw [h1, fnd_aw], h2⟩)
  have CQ : Hid (∀ (A : Option Addr) (c : Nat) (W : World), RdR W A awW → Calls Try.prog 12 #[.slice A 2 c, .string ⟨#[113]⟩] W fun e w' => e = .returned (.tuple #[.string ⟨#[]⟩, .bool false]) ∧ Below W.heap.size W w') :=
    Lib.hid (fun A c W hR => (find_any A 2 c ⟨#[113]⟩ awW W rfl awW_lim (by omega) hR).mono fun e w' ⟨h1, h2⟩ => ⟨by rw [h1, fnd_awq]; rfl, h2⟩)
  go_enter Try.func8, Try.ntmps8
  go_wp2_with (go_at_call 18; refine (C0.out _).mono ?_; rintro e w' ⟨rfl, rfl⟩)
  refine (C1.out _).mono ?_
  rintro e w1 ⟨-, h2, hb⟩
  obtain ⟨v, va, rfl, hv, hva⟩ := h2 _ _ _ rfl
  obtain ⟨A', c', rfl, hrd⟩ := own_rdR' (n := 2) hv rfl
  obtain ⟨A3, c3, rfl, hrt⟩ := own_rdT' (n := 1) hva rfl
  unfold evV
  dsimp only
  obtain ⟨b3, o3, rfl, hb3, x0, x1, x2⟩ := hrt 0 _ rfl
  have HR := Lib.hid hrd
  have HB := Lib.hid ((((Below.refl w.heap.size w).alloc (Nat.le_refl _) (.cells #[.string xm, .string XS] 50)).alloc (by simp) (.cells #[.string ⟨#[120, 109, 108, 110, 115, 58, 112]⟩, .string ⟨#[117]⟩, .string ⟨#[112, 58, 98]⟩, .string ⟨#[49]⟩] 57)).trans (hb.mono (by simp; omega)))
  rw [Nat.zero_mul, Nat.add_zero] at x0 x1 x2
  dsimp only at x0 x1 x2
  clear C0 C1 h2 hb hv hva hrd hrt
  go_wp2_with fail
  have BE := (Below.refl w1.heap.size w1).alloc (Nat.le_refl _) (.cells #[.int .i64 1, .string ⟨#[117]⟩, .string ⟨#[97]⟩, .slice (some ⟨b3, o3, none⟩) 1 c3, .string ⟨#[]⟩] 32)
  have HK1 := Lib.hid (nblk w1 32 #[.int .i64 1, .string ⟨#[117]⟩, .string ⟨#[97]⟩, .slice (some ⟨b3, o3, none⟩) 1 c3, .string ⟨#[]⟩])
  have X1 : Hid ((w1.alloc (.cells #[.int .i64 1, .string ⟨#[117]⟩, .string ⟨#[97]⟩, .slice (some ⟨b3, o3, none⟩) 1 c3, .string ⟨#[]⟩] 32)).cell? ⟨b3, o3, none⟩ = some (.string ⟨#[117]⟩)) := Lib.hid ((World.cell?_alloc_lt _ _ _ (by exact hb3)).trans x0)
  have HRE := Lib.hid (HR.out.keep BE)
  have HBE := Lib.hid (HB.out.trans (BE.mono HB.out.size))
  clear BE x0 x1 x2 HR HB
  refine (CP.out A' c' _ HRE.out).mono ?_
  rintro e w2 ⟨rfl, hb2⟩
  have HR2 := Lib.hid (HRE.out.keep hb2)
  have HK2 := Lib.hid ((hb2.block w1.heap.size (by simp)).trans HK1.out)
  have X2 := Lib.hid ((hb2.cell (p := ⟨b3, o3, none⟩) (show b3 < _ by simp; omega)).trans X1.out)
  have HB2 := Lib.hid (HBE.out.trans (hb2.mono HBE.out.size))
  have l2 : w1.heap.size < w2.heap.size := Nat.lt_of_lt_of_le (by simp) hb2.size
  clear hb2 HRE HK1 X1 HBE CP
  go_wp2_with fail
  refine (CQ.out A' c' _ HR2.out).mono ?_
  rintro e w3 ⟨rfl, hb4⟩
  have hk3 := (hb4.block w1.heap.size l2).trans HK2.out
  have x3 : w3.cell? ⟨b3, o3, none⟩ = some (.string ⟨#[117]⟩) := (hb4.cell (p := ⟨b3, o3, none⟩) (show b3 < _ by omega)).trans X2.out
  have e0 := cells_of hk3 0 (u := .int .i64 1) rfl
  have e1 := cells_of hk3 1 (u := .string ⟨#[117]⟩) rfl
  have e2 := cells_of hk3 2 (u := .string ⟨#[97]⟩) rfl
  have e3 := cells_of hk3 3 (u := .slice (some ⟨b3, o3, none⟩) 1 c3) rfl
  have e4 := cells_of hk3 4 (u := .string ⟨#[]⟩) rfl
  have HB3 := Lib.hid (HB2.out.trans (hb4.mono HB2.out.size))
  clear hk3 hb4 HR2 HK2 X2 HB2 CQ
  go_wp2_with fail
  go_ret
  exact ⟨rfl, HB3.out⟩
end Go.Proofs.Ytepmleieekpdiaa
