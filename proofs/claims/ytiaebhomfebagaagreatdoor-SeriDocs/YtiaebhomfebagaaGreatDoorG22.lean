/- Lemmas of the claim. -/
import Derived.Test.YtiaebhomfebagaaGreatDoorG21
import Derived.Deep.RegionHeld3
import Derived.RegionTactic
import Derived.BigRegion
set_option maxHeartbeats 2000000
set_option maxRecDepth 100000
set_option linter.unusedSimpArgs false
set_option linter.unusedVariables false
namespace Go.Proofs.YtiaebhomfebagaaGreatDoor
open Go.RowKit
def aav (x:Tk × Nat × Int)(w:World)(e:Ending)(w':World):Prop:=
 ∃ (t:Tk) (n:Int),e=.returned (.tuple #[tkV t,.int .i64 n,.int .i64 x.2.2])∧(x.2.2=0→t=x.1∧n=x.2.1)∧Below w.heap.size w w'
theorem acz (w:World)(a b c:Value):aje ((w.alloc (.cells #[a,b,c] 122)).alloc (.cells #[.int .i64 0,.string ⟨#[]⟩,.bool false,.bool false] 44)) (w.heap.size+1):=by
 have:=abR (w.alloc (.cells #[a,b,c] 122));rw[show (w.alloc (.cells #[a,b,c] 122)).heap.size=w.heap.size+1 by simp] at this;exact this
theorem abm (w:World)(a b c:Value):Below w.heap.size w ((w.alloc (.cells #[a,b,c] 122)).alloc (.cells #[.int .i64 0,.string ⟨#[]⟩,.bool false,.bool false] 44)):=
 ((Below.refl w.heap.size w).alloc (Nat.le_refl _) _).alloc (by simp) _
theorem acD (w:World)(a b c:Value):((w.alloc (.cells #[a,b,c] 122)).alloc (.cells #[.int .i64 0,.string ⟨#[]⟩,.bool false,.bool false] 44)).cell? ⟨w.heap.size,0,none⟩=some a∧
 ((w.alloc (.cells #[a,b,c] 122)).alloc (.cells #[.int .i64 0,.string ⟨#[]⟩,.bool false,.bool false] 44)).cell? ⟨w.heap.size,1,none⟩=some b∧((w.alloc (.cells #[a,b,c] 122)).alloc (.cells #[.int .i64 0,.string ⟨#[]⟩,.bool false,.bool false] 44)).cell? ⟨w.heap.size,2,none⟩=some c:=by
 refine⟨?_,?_,?_⟩;all_goals simp[go_sem]
theorem aje.drew {w:World}{B:Nat}(h:aje w B):aje w.drew B:=⟨h.c0,h.c1,h.c2,h.c3,h.f0,h.f1,h.f2,h.f3⟩
theorem afw {w3:World}{b o:Nat}{v:Value}(h:w3.cell? ⟨b,o,none⟩=some v)(x:Obj):(w3.alloc x).cell? ⟨b,o,none⟩=some v:=
 (((Below.refl w3.heap.size w3).alloc (Nat.le_refl _) x).cell (p:=⟨b,o,none⟩) (Lib.lt_of_cell h)).trans h
theorem abP {w3:World}{b o B:Nat}{v:Value}(h:w3.cell? ⟨b,o,none⟩=some v)(hB:b < B)(x0 x1 x2 x3:Value):
 ((((w3.setCell ⟨B,0,none⟩ x0).setCell ⟨B,1,none⟩ x1).setCell ⟨B,2,none⟩ x2).setCell ⟨B,3,none⟩ x3).cell? ⟨b,o,none⟩=some v:=
 ((aah (Below.refl B w3) (Nat.le_refl _) x0 x1 x2 x3).cell (p:=⟨b,o,none⟩) hB).trans h
def ajS (w:World)(f:Nat)(args:Array Value)(a b:Int)(ok:Bool):Prop:=∀ W,Below w.heap.size w W→Gl W→Calls Tryz.prog f args W (aku a b ok W)
def SoC (s:ByteArray)(er:Int):Prop:=∀ W,Calls Tryz.prog 70 #[.string s] W fun e w'=>e=.returned (.int .i64 er)∧Below W.heap.size W w'
def RdC (w:World)(f:Nat)(args:Array Value)(kd:Int)(tx:ByteArray)(em bk:Bool)(er:Int):Prop:=
 ∀ W,Below w.heap.size w W→Gl W→Calls Tryz.prog f args W fun e w'=>e=.returned (.tuple #[.agg #[.int .i64 kd,.string tx,.bool em,.bool bk],.int .i64 er])∧Below W.heap.size W w'
theorem arp (bg r:ByteArray)(b:Nat)(rd:Value)(at_ a c:Int)(w:World)(hG:Gl w)(C1:Hid (ajS w 109 #[.string r,.pointer (some ⟨b,0,none⟩)] a c false)):
 Calls Tryz.prog 67 #[.agg #[.string bg,.func (.func 109) #[] #[.pointer (some ⟨b,0,none⟩)],rd],.string r,.int .i64 at_] w (aav (T0,0,7) w):=by
 have HB:=aac (abm w (.string bg) (.func (.func 109) #[] #[.pointer (some ⟨b,0,none⟩)]) rd);have HG:=aac (hG.after HB.out);have HN:=aac (acz w (.string bg) (.func (.func 109) #[] #[.pointer (some ⟨b,0,none⟩)]) rd);clear hG;go_enter Tryz.func67,Tryz.ntmps67;go_wp2_with fail;refine(C1.out _ HB.out HG.out).mono ?_;rintro e w1 ⟨rfl,hb1⟩;have hz:w.heap.size+1 < w1.heap.size:=by have:=hb1.size;simp at this;omega
 have HB1:=aac (HB.out.trans (hb1.mono (by simp;omega)));obtain⟨c0,c1,c2,c3,f0,f1,f2,f3⟩:=HN.out.keep hb1 (by simp);clear hb1;go_wp2_with fail;exact bodyPost_ret (v:=.tuple #[tkV T0,.int .i64 0,.int .i64 7]) (by rw[tk0];simp[results,Tryz.results67,go_sem,c0,c1,c2,c3,hz]) rfl ⟨T0,0,rfl,fun _=>⟨rfl,rfl⟩,aah HB1.out (by omega) _ _ _ _⟩
theorem apb (bg r:ByteArray)(b:Nat)(rd:Value)(at_ a er:Int)(m:Nat)(w:World)(hr:r.size≤2000000000)(hm:m≤r.size)(her:er≠0)(hG:Gl w)(C1:Hid (ajS w 109 #[.string r,.pointer (some ⟨b,0,none⟩)] a m true))(C2:Hid (SoC (r.extract 0 m) er)):
 Calls Tryz.prog 67 #[.agg #[.string bg,.func (.func 109) #[] #[.pointer (some ⟨b,0,none⟩)],rd],.string r,.int .i64 at_] w (aav (T0,0,er) w):=by
 have HB:=aac (abm w (.string bg) (.func (.func 109) #[] #[.pointer (some ⟨b,0,none⟩)]) rd);have HG:=aac (hG.after HB.out);have HN:=aac (acz w (.string bg) (.func (.func 109) #[] #[.pointer (some ⟨b,0,none⟩)]) rd);have t1:(er != 0)=true:=by rw[bne_iff_ne];exact her
 clear hG her;go_enter Tryz.func67,Tryz.ntmps67;go_wp2_with fail;refine(C1.out _ HB.out HG.out).mono ?_;rintro e w1 ⟨rfl,hb1⟩;have hz:w.heap.size+1 < w1.heap.size:=by have:=hb1.size;simp at this;omega
 have HB1:=aac (HB.out.trans (hb1.mono (by simp;omega)));have HN1:=aac (HN.out.keep hb1 (by simp));clear hb1;go_wp2_with fail;refine(C2.out _).mono ?_;rintro e w2 ⟨rfl,hb2⟩;have hz2:w.heap.size+1 < w2.heap.size:=Nat.lt_of_lt_of_le hz hb2.size;have HB2:=aac (HB1.out.trans (hb2.mono HB1.out.size));obtain⟨c0,c1,c2,c3,f0,f1,f2,f3⟩:=HN1.out.keep hb2 hz;clear hb2;go_wp2_with fail;exact bodyPost_ret (v:=.tuple #[tkV T0,.int .i64 0,.int .i64 er]) (by rw[tk0];simp[results,Tryz.results67,go_sem,c0,c1,c2,c3,hz2]) rfl ⟨T0,0,rfl,fun _=>⟨rfl,rfl⟩,aah HB2.out (by omega) _ _ _ _⟩
theorem asT (bg r:ByteArray)(rd:Value)(at_ a c:Int)(w:World)(hG:Gl w)(C1:Hid (ajS w 89 #[.string r] a c false)):
 Calls Tryz.prog 67 #[.agg #[.string bg,.func (.func 89) #[] #[],rd],.string r,.int .i64 at_] w (aav (T0,0,7) w):=by
 have HB:=aac (abm w (.string bg) (.func (.func 89) #[] #[]) rd);have HG:=aac (hG.after HB.out);have HN:=aac (acz w (.string bg) (.func (.func 89) #[] #[]) rd);clear hG;go_enter Tryz.func67,Tryz.ntmps67;go_wp2_with fail;refine(C1.out _ HB.out HG.out).mono ?_;rintro e w1 ⟨rfl,hb1⟩;have hz:w.heap.size+1 < w1.heap.size:=by have:=hb1.size;simp at this;omega
 have HB1:=aac (HB.out.trans (hb1.mono (by simp;omega)));obtain⟨c0,c1,c2,c3,f0,f1,f2,f3⟩:=HN.out.keep hb1 (by simp);clear hb1;go_wp2_with fail;exact bodyPost_ret (v:=.tuple #[tkV T0,.int .i64 0,.int .i64 7]) (by rw[tk0];simp[results,Tryz.results67,go_sem,c0,c1,c2,c3,hz]) rfl ⟨T0,0,rfl,fun _=>⟨rfl,rfl⟩,aah HB1.out (by omega) _ _ _ _⟩
theorem asW (bg r:ByteArray)(rd:Value)(at_ a er:Int)(m:Nat)(w:World)(hr:r.size≤2000000000)(hm:m≤r.size)(her:er≠0)(hG:Gl w)(C1:Hid (ajS w 89 #[.string r] a m true))(C2:Hid (SoC (r.extract 0 m) er)):
 Calls Tryz.prog 67 #[.agg #[.string bg,.func (.func 89) #[] #[],rd],.string r,.int .i64 at_] w (aav (T0,0,er) w):=by
 have HB:=aac (abm w (.string bg) (.func (.func 89) #[] #[]) rd);have HG:=aac (hG.after HB.out);have HN:=aac (acz w (.string bg) (.func (.func 89) #[] #[]) rd);have t1:(er != 0)=true:=by rw[bne_iff_ne];exact her
 clear hG her;go_enter Tryz.func67,Tryz.ntmps67;go_wp2_with fail;refine(C1.out _ HB.out HG.out).mono ?_;rintro e w1 ⟨rfl,hb1⟩;have hz:w.heap.size+1 < w1.heap.size:=by have:=hb1.size;simp at this;omega
 have HB1:=aac (HB.out.trans (hb1.mono (by simp;omega)));have HN1:=aac (HN.out.keep hb1 (by simp));clear hb1;go_wp2_with fail;refine(C2.out _).mono ?_;rintro e w2 ⟨rfl,hb2⟩;have hz2:w.heap.size+1 < w2.heap.size:=Nat.lt_of_lt_of_le hz hb2.size;have HB2:=aac (HB1.out.trans (hb2.mono HB1.out.size));obtain⟨c0,c1,c2,c3,f0,f1,f2,f3⟩:=HN1.out.keep hb2 hz;clear hb2;go_wp2_with fail;exact bodyPost_ret (v:=.tuple #[tkV T0,.int .i64 0,.int .i64 er]) (by rw[tk0];simp[results,Tryz.results67,go_sem,c0,c1,c2,c3,hz2]) rfl ⟨T0,0,rfl,fun _=>⟨rfl,rfl⟩,aah HB2.out (by omega) _ _ _ _⟩
end Go.Proofs.YtiaebhomfebagaaGreatDoor
