/-
  What Enter answers at awake's tag and at ScopeAttrs' tag.
-/
import Derived.Test.YtepmleieekpdiaaScMath
set_option linter.unusedSimpArgs false
set_option linter.unusedVariables false
namespace Go.Proofs.Ytepmleieekpdiaa

def Ba (l : List UInt8) : ByteArray := ⟨l.toArray⟩
theorem lit_pa : splitA ⟨#[112, 58, 97]⟩ = (⟨#[112]⟩, ⟨#[97]⟩, true) := by kernel_rfl
theorem lit_pb : splitA ⟨#[112, 58, 98]⟩ = (⟨#[112]⟩, ⟨#[98]⟩, true) := by kernel_rfl
theorem lit_xp : splitA ⟨#[120, 109, 108, 110, 115, 58, 112]⟩ = (xn, ⟨#[112]⟩, true) := by kernel_rfl
theorem lit_xn : splitA ⟨#[120, 109, 108, 110, 115]⟩ = (em, xn, true) := by kernel_rfl
theorem lit_a : splitA ⟨#[97]⟩ = (em, ⟨#[97]⟩, true) := by kernel_rfl
theorem lit_b : splitA ⟨#[98]⟩ = (em, ⟨#[98]⟩, true) := by kernel_rfl
theorem eqd (x y : ByteArray) : eqb x y = (x.data.toList == y.data.toList) := by unfold eqb; rw [Lib.toList_data, Lib.toList_data]
theorem bnd_xp : bndF ⟨#[120, 109, 108, 110, 115, 58, 112]⟩ = some ⟨#[112]⟩ := by
  unfold bndF
  rw [lit_xp, eqb_self, if_pos rfl]
theorem bnd_xn : bndF ⟨#[120, 109, 108, 110, 115]⟩ = some em := by
  unfold bndF
  rw [lit_xn]
  simp only [em_ne_xn, eqb_self, Bool.false_eq_true, if_false, and_self, if_true]
theorem bnd_no {s p l : ByteArray} {ok : Bool} (h : splitA s = (p, l, ok)) (h1 : (p.data.toList == xn.data.toList) = false) (h2 : (p.data.toList == em.data.toList && l.data.toList == xn.data.toList) = false) : bndF s = none := by
  unfold bndF
  rw [h]
  dsimp only
  rw [eqd, eqd, eqd, h1, if_neg (by simp), if_neg]
  rw [← Bool.and_eq_true, h2]
  simp
theorem bnd_pb : bndF ⟨#[112, 58, 98]⟩ = none := bnd_no lit_pb (by decide) (by decide)
theorem bnd_b : bndF ⟨#[98]⟩ = none := bnd_no lit_b (by decide) (by decide)
theorem ok_pu : okB ⟨#[112]⟩ ⟨#[117]⟩ = true := by
  unfold okB
  rw [eqd, eqd, eqd, eqd, eqd, eqd]
  decide
def aw0 : List P2 := [(xm, XS)]
def awR : List P2 := [(⟨#[120, 109, 108, 110, 115, 58, 112]⟩, ⟨#[117]⟩), (⟨#[112, 58, 98]⟩, ⟨#[49]⟩)]
def awW : List P2 := [(xm, XS), (⟨#[112]⟩, ⟨#[117]⟩)]
theorem fnd_aw : fndF awW ⟨#[112]⟩ = (⟨#[117]⟩, true) := fnd_last [(xm, XS)] (⟨#[112]⟩, ⟨#[117]⟩)
theorem fnd_awq : fndF awW ⟨#[113]⟩ = (em, false) := by
  unfold fndF awW
  simp only [List.foldl_cons, List.foldl_nil, eqd]
  rw [if_neg (by decide), if_neg (by decide)]
  rfl
theorem bind_aw : bindF aw0 awR = some awW := by
  unfold awR
  rw [bindF, bnd_xp]
  dsimp only
  rw [ok_pu, if_pos rfl, bindF, bnd_pb]
  rfl
theorem res_aw (n : ByteArray) : resF awW ⟨#[112]⟩ n = some (⟨#[117]⟩, n) := by
  unfold resF
  rw [fnd_aw, if_neg]
  rw [eqd]
  decide
theorem ent_aw : entF aw0 ⟨#[112, 58, 97]⟩ awR = .ok (awW, (⟨#[117]⟩, ⟨#[97]⟩), [((⟨#[117]⟩, ⟨#[98]⟩), ⟨#[49]⟩)]) := by
  have h1 : namF awW ⟨#[112, 58, 97]⟩ = some (⟨#[117]⟩, ⟨#[97]⟩) := by
    unfold namF
    rw [lit_pa, if_neg (by simp)]
    exact res_aw _
  have h2 : atnF awW ⟨#[112, 58, 98]⟩ = some (⟨#[117]⟩, ⟨#[98]⟩) := by
    unfold atnF
    rw [lit_pb, if_neg (by simp), if_neg (by rw [eqd]; decide)]
    exact res_aw _
  have h3 : attF awW [] awR = .ok [((⟨#[117]⟩, ⟨#[98]⟩), ⟨#[49]⟩)] := by
    unfold awR
    rw [attF, bnd_xp]
    dsimp only
    rw [attF, bnd_pb]
    dsimp only
    rw [h2]
    rfl
  unfold entF
  rw [bind_aw]
  dsimp only
  rw [h1]
  dsimp only
  rw [h3]
def atR (s : ByteArray) : List P2 := [(⟨#[120, 109, 108, 110, 115]⟩, s), (⟨#[98]⟩, ⟨#[49]⟩)]
theorem ent_at (L : List P2) (s : ByteArray) (h0 : eqb s em = false) (h1 : eqb s XS = false) (h2 : eqb s XN = false) : entF L ⟨#[97]⟩ (atR s) = .ok (L ++ [(em, s)], (s, ⟨#[97]⟩), [((em, ⟨#[98]⟩), ⟨#[49]⟩)]) := by
  have hok : okB em s = true := by
    unfold okB
    rw [em_ne_xn, h2, h1, eqb_self, eqd em xm, h0]
    decide
  have hb : bindF L (atR s) = some (L ++ [(em, s)]) := by
    unfold atR
    rw [bindF, bnd_xn]
    dsimp only
    rw [hok, if_pos rfl, bindF, bnd_b]
    rfl
  have hn : namF (L ++ [(em, s)]) ⟨#[97]⟩ = some (s, ⟨#[97]⟩) := by
    unfold namF
    rw [lit_a, if_neg (by simp)]
    dsimp only
    unfold resF
    rw [fnd_last L (em, s), em_ne_xn, if_neg (by simp)]
  have ha : atnF (L ++ [(em, s)]) ⟨#[98]⟩ = some (em, ⟨#[98]⟩) := by
    unfold atnF
    rw [lit_b, if_neg (by simp)]
    dsimp only
    rw [eqb_self, if_pos rfl]
  have hf : attF (L ++ [(em, s)]) [] (atR s) = .ok [((em, ⟨#[98]⟩), ⟨#[49]⟩)] := by
    unfold atR
    rw [attF, bnd_xn]
    dsimp only
    rw [attF, bnd_b]
    dsimp only
    rw [ha]
    rfl
  unfold entF
  rw [hb]
  dsimp only
  rw [hn]
  dsimp only
  rw [hf]
end Go.Proofs.Ytepmleieekpdiaa
