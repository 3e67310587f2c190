/- Lemmas of the claim. -/
import Derived.Test.YtnomcldpbkinmaaGreatDoorG09
import Derived.Test.YtnomcldpbkinmaaGreatDoorG02
import Derived.Test.YtnomcldpbkinmaaGreatDoorG03
import Derived.Lib.Hide
set_option maxHeartbeats 4000000
set_option maxRecDepth 100000
set_option linter.unusedSimpArgs false
set_option linter.unusedVariables false
namespace Go.Proofs.YtnomcldpbkinmaaGreatDoor.Tg
open Go.RowKit
theorem a1r (nm:ByteArray)(l:List (ByteArray × ByteArray))(u:ByteArray)(c1:(sk u).size≠0)(c2:bk u≠0)(c3:atF l (aay (sk u))≠0):GoF nm l u=(atF l (aay (sk u)),Nz.em,[]):=by
 by_cases h1:(aay (sk u)).1=0
 · by_cases h2:acU (aay (sk u)).2.1 l=true
   · rw[anX nm l u c1 c2 h1 h2];unfold atF;rw[if_neg (Decidable.not_not.2 h1),if_pos h2]
   · have h2':acU (aay (sk u)).2.1 l=false:=(by simpa using h2);by_cases h3:32≤l.length
     · rw[anN nm l u c1 c2 h1 h2' h3];unfold atF;rw[if_neg (Decidable.not_not.2 h1),if_neg h2,if_pos h3]
     · exfalso;apply c3;unfold atF;rw[if_neg (Decidable.not_not.2 h1),if_neg h2,if_neg h3]
 · rw[awM nm l u c1 c2 h1];unfold atF;rw[if_pos h1]
theorem ayv (nm:ByteArray)(l:List (ByteArray × ByteArray))(u:ByteArray)(c1:(sk u).size≠0)(c2:bk u≠0)(c3:atF l (aay (sk u))=0):
 GoF nm l u=GoF nm (l++[((aay (sk u)).2.1,(aay (sk u)).2.2.1)]) (aay (sk u)).2.2.2∧l.length < 32∧(aay (sk u)).2.2.2.size < u.size:=by
 unfold atF at c3;by_cases h1:(aay (sk u)).1=0
 · rw[if_neg (Decidable.not_not.2 h1)] at c3;by_cases h2:acU (aay (sk u)).2.1 l=true
   · rw[if_pos h2] at c3;exact absurd c3 (by decide)
   rw[if_neg h2] at c3;by_cases h3:32≤l.length
   · rw[if_pos h3] at c3;exact absurd c3 (by decide)
   have:=aiK h1;have hs:=abJ u;exact⟨go_ok nm l u c1 c2 h1 (by simpa using h2) h3,by omega,by omega⟩
 · rw[if_pos h1] at c3;exact absurd c3 h1
def agN (x:Int × ByteArray × List (ByteArray × ByteArray))(w0:World)(g:Nat)(e:Ending)(w':World):Prop:=
 e=.returned (.int .i64 x.1)∧∃ u' nm' v' l',RS w0 g u' nm' v' l' w'∧(x.1=0→nm'=x.2.1∧l'=x.2.2)
theorem atx {x y:Int × ByteArray × List (ByteArray × ByteArray)}{w0 w':World}{g:Nat}{e:Ending}(h:x=y)(hp:agN y w0 g e w'):agN x w0 g e w':=by rw[h];exact hp
def aox (g:Nat)(w:World):Nat:=match w.cell? ⟨g,0,none⟩ with | some (.string u)=>u.size | _=>0
theorem RS.aox {w0 w:World}{g:Nat}{u nm:ByteArray}{v:Value}{l:List (ByteArray × ByteArray)}(h:RS w0 g u nm v l w):aox g w=u.size:=by unfold Go.Proofs.YtnomcldpbkinmaaGreatDoor.Tg.aox;rw[h.c0]
def a2H (s:ByteArray)(w0:World)(g:Nat)(wr:World):Prop:=
 ∃ u nm v l,Hid (RS w0 g u nm v l wr)∧l.length≤32∧u.size≤100000∧Hid (aar s=GoF nm l u)
theorem axF (w0:World)(g:Nat)(s nm:ByteArray)(v:Value)(w:World)(h:RS w0 g s nm v [] w)(hs:s.size≤100000)(h1:isN (Nz.sx s 0)=false):
 Calls Tryz.prog 77 #[.pointer (some ⟨g,0,none⟩)] w (agN (aar s) w0 g):=by
 have HP:Hid (aar s=(4,Nz.em,[])):=aac (by unfold aar;rw[if_pos h1]);have C:=aac (ape w0 g s nm v [] w h (by omega) h1);clear h h1;go_enter Tryz.func77,Tryz.ntmps77;go_wp2_with fail;refine C.out.mono ?_;rintro e w1 ⟨rfl,hr1,_⟩;have HR:=aac hr1;clear hr1 C;go_wp2;go_ret;exact atx HP.out ⟨rfl,_,_,_,_,HR.out,fun h=>absurd h (by decide)⟩
theorem atu (w0:World)(g:Nat)(s nm:ByteArray)(v:Value)(w:World)(h:RS w0 g s nm v [] w)(hs:s.size≤100000)(h1:isN (Nz.sx s 0)=true):
 Calls Tryz.prog 77 #[.pointer (some ⟨g,0,none⟩)] w (agN (aar s) w0 g):=by
 have HP:Hid (aar s=GoF (Nz.sx s 0) [] (Nz.fr s (Nz.sn s 0))):=aac (by unfold aar;rw[if_neg (by rw[h1];decide)]);have C:=aac (agb w0 g s nm v [] w h (by omega) h1);have hz:=Nz.aaN s (Nz.sn s 0);have hz':(Nz.fr s (Nz.sn s 0)).size≤100000:=(by omega);clear h h1 hz;generalize Nz.fr s (Nz.sn s 0)=u1 at *;generalize Nz.sx s 0=x at *;go_enter Tryz.func77,Tryz.ntmps77;go_wp2_with fail;refine C.out.mono ?_;rintro e w1 ⟨rfl,hr1,_⟩;have HR:=aac (hr1.name x);have c1:=hr1.c1;have f1:=hr1.fz 1;clear hr1 C;go_wp2_with fail;go_loopw [5,6] (fun _ _ wr=>a2H s w0 g wr) (fun _ _ wr=>aox g wr);case atStart=>exact⟨u1,x,v,[],HR,by simp,hz',HP⟩
 case round=>
  clear HR HP c1 f1 hz';obtain⟨u,nm',v',l,hR,hl,hu,hG⟩:=hrel;have hsz:=abJ u;by_cases d1:(sk u).size=0
  · have HG:=aac (hG.out.trans (arH nm' l u d1));have C1:=aac (acI w0 g u nm' v' l wr hR.out (by omega) _ rfl);have C2:=aac (fun w h=>aiM w0 g (sk u) nm' v' l w h true (decide_eq_true d1));clear hR hG d1 hsz;generalize sk u=u2 at *;generalize hb:decide (bk u≠0)=b at *;clear hb;go_wp2_with fail;refine C1.out.mono ?_;rintro e w2 ⟨rfl,hr2,_⟩;have HR2:=aac hr2;clear hr2 C1;go_wp2_with fail;refine(C2.out _ HR2.out).mono ?_;rintro e w3 ⟨rfl,hr3,_⟩;have HR3:=aac hr3;clear hr3 C2 HR2;go_wp2;go_ret;exact atx HG.out ⟨rfl,_,_,_,_,HR3.out,fun _=>⟨rfl,rfl⟩⟩
  · by_cases d2:bk u=0
    · have HG:=aac (hG.out.trans (apU nm' l u d1 d2));have C1:=aac (acI w0 g u nm' v' l wr hR.out (by omega) false (by rw[d2];decide));have C2:=aac (fun w h=>aiM w0 g (sk u) nm' v' l w h false (decide_eq_false d1));clear hR hG d1 d2 hsz;generalize sk u=u2 at *;go_wp2_with fail;refine C1.out.mono ?_;rintro e w2 ⟨rfl,hr2,_⟩;have HR2:=aac hr2;clear hr2 C1;go_wp2_with fail;refine(C2.out _ HR2.out).mono ?_;rintro e w3 ⟨rfl,hr3,_⟩;have HR3:=aac hr3;clear hr3 C2 HR2;go_wp2;go_ret;exact atx HG.out ⟨rfl,_,_,_,_,HR3.out,fun h=>absurd h (by decide)⟩
    · have C1:=aac (acI w0 g u nm' v' l wr hR.out (by omega) true (decide_eq_true d2));have C2:=aac (fun w h=>aiM w0 g (sk u) nm' v' l w h false (decide_eq_false d1));have C3:=aac (fun w h=>atv w0 g (sk u) nm' v' l w h (by omega) hl);have HL:=aac hR.out.aox;by_cases d3:atF l (aay (sk u))=0
      · obtain⟨q1,q2,q3⟩:=ayv nm' l u d1 d2 d3;have HG:=aac (hG.out.trans q1);clear hR hG d1 d2 hsz q1;generalize aay (sk u)=y at *;generalize sk u=u2 at *;obtain⟨yn,yv⟩:∃ z:Int,z=0:=⟨0,rfl⟩;go_wp2_with fail;refine C1.out.mono ?_;rintro e w2 ⟨rfl,hr2,_⟩;have HR2:=aac hr2;clear hr2 C1;go_wp2_with fail;refine(C2.out _ HR2.out).mono ?_;rintro e w3 ⟨rfl,hr3,_⟩;have HR3:=aac hr3;clear hr3 C2 HR2;go_wp2_with fail;refine(C3.out _ HR3.out).mono ?_;rintro e w4 ⟨rfl,hr4,_⟩;obtain⟨v4,hr4⟩:=hr4 d3;have HR4:=aac hr4;rw[d3];clear hr4 C3 HR3 d3;go_wp2;go_roundw;case rel=>exact⟨_,_,_,_,HR4,by rw[List.length_append,List.length_singleton];omega,by omega,HG⟩
        case measure=>rw[HR4.out.aox,HL.out];exact q3
      · have HG:=aac (hG.out.trans (a1r nm' l u d1 d2 d3));clear hR hG d1 d2 hsz;generalize aay (sk u)=y at *;generalize sk u=u2 at *;have t1:(atF l y != 0)=true:=by rw[bne_iff_ne];exact d3
        have HE:=aac d3;clear d3;go_wp2_with fail;refine C1.out.mono ?_;rintro e w2 ⟨rfl,hr2,_⟩;have HR2:=aac hr2;clear hr2 C1;go_wp2_with fail;refine(C2.out _ HR2.out).mono ?_;rintro e w3 ⟨rfl,hr3,_⟩;have HR3:=aac hr3;clear hr3 C2 HR2;go_wp2_with fail;refine(C3.out _ HR3.out).mono ?_;rintro e w4 ⟨rfl,_,u4,v4,l4,hr4⟩;have HR4:=aac hr4;clear hr4 C3 HR3;generalize atF l y=er at *;go_wp2;go_ret;exact atx HG.out ⟨rfl,_,_,_,_,HR4.out,fun h=>absurd h HE.out⟩
theorem asI (w0:World)(g:Nat)(s nm:ByteArray)(v:Value)(w:World)(h:RS w0 g s nm v [] w)(hs:s.size≤100000):
 Calls Tryz.prog 77 #[.pointer (some ⟨g,0,none⟩)] w (agN (aar s) w0 g):=by
 cases h1:isN (Nz.sx s 0)
 · exact axF w0 g s nm v w h hs h1
 · exact atu w0 g s nm v w h hs h1
def aco (x:Int × ByteArray × List (ByteArray × ByteArray))(w:World)(e:Ending)(w':World):Prop:=
 ∃ v,e=.returned (.tuple #[.agg #[.string x.2.1,v],.int .i64 x.1])∧aky w' w.heap.size v x.2.2∧Below w.heap.size w w'
theorem aed {x y:Int × ByteArray × List (ByteArray × ByteArray)}{w w':World}{e:Ending}(h:x=y)(hp:aco y w e w'):aco x w e w':=by rw[h];exact hp
theorem arV:∀ (f:Nat) (nm:ByteArray) (l:List (ByteArray × ByteArray)) (u:ByteArray),(goF f nm l u).1≠0→(goF f nm l u).2=(Nz.em,[])
 | 0,_,_,_,h=>absurd rfl h
 | f+1,nm,l,u,h=>by
   unfold goF at h ⊢;by_cases c1:(sk u).size=0
   · rw[if_pos c1] at h;exact absurd rfl h
   rw[if_neg c1] at h ⊢;by_cases c2:bk u=0
   · rw[if_pos c2]
   rw[if_neg c2] at h ⊢;by_cases c3:(aay (sk u)).1≠0
   · rw[if_pos c3]
   rw[if_neg c3] at h ⊢;by_cases c4:acU (aay (sk u)).2.1 l=true
   · rw[if_pos c4]
   rw[if_neg c4] at h ⊢;by_cases c5:32≤l.length
   · rw[if_pos c5]
   rw[if_neg c5] at h ⊢;exact arV f _ _ _ h
theorem awV {s:ByteArray}(h:(aar s).1≠0):(aar s).2=(Nz.em,[]):=by
 unfold aar at h ⊢;by_cases c:isN (Nz.sx s 0)=false
 · rw[if_pos c]
 · rw[if_neg c] at h ⊢;exact arV _ _ _ _ h
theorem aam {w:World}{B B':Nat}{v:Value}{l:List (ByteArray × ByteArray)}(h:aky w B v l)(hB:B'≤B):aky w B' v l:=by
 refine⟨h.1,?_⟩;rcases h.2 with hn | ⟨g,cap,cur,hv,hb,rest⟩
 · exact .inl hn
 · exact .inr ⟨g,cap,cur,hv,Nat.le_trans hB hb,rest⟩
theorem avV (w:World)(s:ByteArray)(hV:Vars w):RS (w.alloc (.cells #[.string ⟨#[]⟩,.slice none 0 0] 53)) (w.heap.size+1) s ⟨#[]⟩ (.slice none 0 0) [] ((w.alloc (.cells #[.string ⟨#[]⟩,.slice none 0 0] 53)).alloc (.cells #[.string s,.string ⟨#[]⟩,.slice none 0 0] 131)):=by
 have hz:(w.alloc (.cells #[.string ⟨#[]⟩,.slice none 0 0] 53)).heap.size=w.heap.size+1:=(by simp);refine⟨by omega,?_,World.ownsRow_nil _ _ _ _,(Below.refl _ _).alloc (Nat.le_refl _) _,hV.keep ((Below.refl _ w).alloc (Nat.le_refl _) _) hV.1⟩;rw[← hz];exact heap_alloc_new _ _
theorem asf (s:ByteArray)(x:Int × ByteArray × List (ByteArray × ByteArray))(w:World)(hV:Vars w)(he:x.1≠0)(hx:x.2=(Nz.em,[]))
 (C:Hid (∀ W0 g W,RS W0 g s ⟨#[]⟩ (.slice none 0 0) [] W→Calls Tryz.prog 77 #[.pointer (some ⟨g,0,none⟩)] W (agN x W0 g))):
 Calls Tryz.prog 59 #[.string s] w (aco x w):=by
 obtain⟨er,xn,xl⟩:=x;dsimp only at he hx;injection hx with hx1 hx2
 subst hx1 hx2;have HR:=aac (avV w s hV);have t1:(er != 0)=true:=by rw[bne_iff_ne];exact he
 clear hV he;go_enter Tryz.func59,Tryz.ntmps59;go_wp2_with fail;refine(C.out _ _ _ HR.out).mono ?_;rintro e w1 ⟨rfl,u',nm',v',l',hr,_⟩;have hB:=hr.bel;have hblk:w1.heap[w.heap.size]?=some (.cells #[.string ⟨#[]⟩,.slice none 0 0] 53 (0,0)):=(hB.block w.heap.size (by simp)).trans (heap_alloc_new w _);have c0:w1.cell? ⟨w.heap.size,0,none⟩=some (.string ⟨#[]⟩):=by rw[Lib.cell_of_heap hblk];rfl
 have c1:w1.cell? ⟨w.heap.size,1,none⟩=some (.slice none 0 0):=by rw[Lib.cell_of_heap hblk];rfl
 have f0:=Lib.frozen_of_heap hblk 0;have f1:=Lib.frozen_of_heap hblk 1;have HB:=aac (((Below.refl w.heap.size w).alloc (Nat.le_refl _) (.cells #[.string ⟨#[]⟩,.slice none 0 0] 53)).trans (hB.mono (by simp)));clear hblk hB hr C HR;dsimp only;generalize hr:w.heap.size=r at *;have HRZ:=aac hr;clear hr;go_wp2
 exact bodyPost_ret (v:=.tuple #[.agg #[.string ⟨#[]⟩,.slice none 0 0],.int .i64 er]) (by simp[results,Tryz.results59,go_sem,c0,c1]) rfl
  ⟨.slice none 0 0,rfl,World.ownsRow_nil _ _ _ _,by rw[HRZ.out];exact((HB.out.setCell (p:=⟨r,0,none⟩) (Nat.le_refl _) _).setCell (p:=⟨r,1,none⟩) (Nat.le_refl _) _)⟩
theorem auM (s:ByteArray)(x:Int × ByteArray × List (ByteArray × ByteArray))(w:World)(hV:Vars w)(he:x.1=0)
 (C:Hid (∀ W0 g W,RS W0 g s ⟨#[]⟩ (.slice none 0 0) [] W→Calls Tryz.prog 77 #[.pointer (some ⟨g,0,none⟩)] W (agN x W0 g))):
 Calls Tryz.prog 59 #[.string s] w (aco x w):=by
 obtain⟨er,xn,xl⟩:=x;dsimp only at he;subst he;have HR:=aac (avV w s hV);clear hV;go_enter Tryz.func59,Tryz.ntmps59;go_wp2_with fail;refine(C.out _ _ _ HR.out).mono ?_;rintro e w1 ⟨rfl,u',nm',v',l',hr,hx⟩;obtain⟨rfl,rfl⟩:=hx rfl;dsimp only at hr ⊢;have hB:=hr.bel;have hblk:w1.heap[w.heap.size]?=some (.cells #[.string ⟨#[]⟩,.slice none 0 0] 53 (0,0)):=(hB.block w.heap.size (by simp)).trans (heap_alloc_new w _);have c0:w1.cell? ⟨w.heap.size,0,none⟩=some (.string ⟨#[]⟩):=by rw[Lib.cell_of_heap hblk];rfl
 have c1:w1.cell? ⟨w.heap.size,1,none⟩=some (.slice none 0 0):=by rw[Lib.cell_of_heap hblk];rfl
 have f0:=Lib.frozen_of_heap hblk 0;have f1:=Lib.frozen_of_heap hblk 1;have HB:=aac (((Below.refl w.heap.size w).alloc (Nat.le_refl _) (.cells #[.string ⟨#[]⟩,.slice none 0 0] 53)).trans (hB.mono (by simp)));have HO:=aac (aam hr.own (B':=w.heap.size) (by simp));have HK:=aac (fun (x y:Value)=>aaD (aaD HO.out hblk (by decide) 0 x) (g:=w.heap.size) (by simp[World.setCell,Array.getElem?_modify,hblk];exact⟨rfl,rfl⟩) (T:=53) (by decide) 1 y);obtain⟨A,c,rfl,_⟩:=abr hr.own;have g1:=hr.c1;have g2:=hr.c2;clear hblk hB hr C HR hx;generalize hr:w.heap.size=r at *;have HRZ:=aac hr;clear hr;go_wp2
 exact bodyPost_ret (v:=.tuple #[.agg #[.string nm',.slice A l'.length c],.int .i64 0]) (by simp[results,Tryz.results59,go_sem,c0,c1]) rfl
  ⟨_,rfl,by rw[HRZ.out];exact HK.out _ _,by rw[HRZ.out];exact((HB.out.setCell (p:=⟨r,0,none⟩) (Nat.le_refl _) _).setCell (p:=⟨r,1,none⟩) (Nat.le_refl _) _)⟩
theorem aeb (s:ByteArray)(w:World)(hV:Vars w)(hs:s.size≤100000):Calls Tryz.prog 59 #[.string s] w (aco (aar s) w):=by
 have C:=aac (fun W0 g W h=>asI W0 g s ⟨#[]⟩ (.slice none 0 0) W h hs);by_cases h:(aar s).1=0
 · exact auM s _ w hV h C
 · exact asf s _ w hV h (awV h) C
end Go.Proofs.YtnomcldpbkinmaaGreatDoor.Tg
namespace Go.Proofs.YtnomcldpbkinmaaGreatDoor.Tg
open Go.RowKit
def azP (nm:ByteArray)(l:List (ByteArray × ByteArray)):Prop:=nm.size≤200∧l.length≤60∧∀ x∈l,x.1.size≤200∧x.2.size≤200
def aif (P:Prop)(w:World)(e:Ending)(w':World):Prop:=∃ b:Bool,e=.returned (.bool b)∧(b=true↔P)∧Below w.heap.size w w'
theorem a1R {P:Prop}{w w':World}(h:P)(hb:Below w.heap.size w w'):aif P w (.returned (.bool true)) w':=⟨true,rfl,⟨fun _=>h,fun _=>rfl⟩,hb⟩
theorem avr {P:Prop}{w w':World}(h:¬ P)(hb:Below w.heap.size w w'):aif P w (.returned (.bool false)) w':=⟨false,rfl,⟨(fun e=>by cases e),fun e=>absurd e h⟩,hb⟩
def ayk (n:Nat)(l:List (ByteArray × ByteArray))(i:Value):Prop:=∃ k:Nat,i=.int .i64 k∧k≤n∧Hid (∀ j x,j < k→l[j]?=some x→x.1.size≤200∧x.2.size≤200)
theorem arM (nm:ByteArray)(l:List (ByteArray × ByteArray))(n:Nat)(A:Option Addr)(c:Nat)(w:World)(hn:n=l.length)(hm:nm.size≤maxLen)(hl:n≤maxLen)(hx:∀ x∈l,x.1.size≤maxLen∧x.2.size≤maxLen)(h1:RdR w A l):
 Calls Tryz.prog 19 #[.agg #[.string nm,.slice A n c]] w (aif (azP nm l) w):=by
 unfold maxLen at *;have B1:=(Below.refl w.heap.size w).alloc (Nat.le_refl _) (.cells #[.string nm,.slice A n c] 53);have H1:=aac (h1.keep B1);have HB:=aac B1;have HN:=aac hn;have HX:=aac hx;have hsz:(w.alloc (.cells #[.string nm,.slice A n c] 53)).heap.size=w.heap.size+1:=(by simp);clear h1 hn B1 hx hsz;by_cases a1:200 < nm.size
 · have HF:Hid (¬ azP nm l):=aac (fun h=>by have:=h.1;omega);have i1:decide ((200:Int) < (nm.size:Int))=true:=by rw[decide_eq_true_eq];omega
   have j1:decide (200 < nm.size)=true:=by rw[decide_eq_true_eq];omega
   clear H1 HX a1;go_enter Tryz.func19,Tryz.ntmps19;go_wp2;go_ret;exact avr HF.out HB.out
 have i1:decide ((200:Int) < (nm.size:Int))=false:=by rw[decide_eq_false_iff_not];omega
 have j1:decide (200 < nm.size)=false:=by rw[decide_eq_false_iff_not];omega
 by_cases a2:60 < n
 · have HF:Hid (¬ azP nm l):=aac (fun h=>by have:=h.2.1;have:=HN.out;omega);have i2:decide ((60:Int) < (n:Int))=true:=by rw[decide_eq_true_eq];omega
   have j2:decide (60 < n)=true:=by rw[decide_eq_true_eq];omega
   clear H1 HX a1 a2;go_enter Tryz.func19,Tryz.ntmps19;go_wp2;go_ret;exact avr HF.out HB.out
 have i2:decide ((60:Int) < (n:Int))=false:=by rw[decide_eq_false_iff_not];omega
 have j2:decide (60 < n)=false:=by rw[decide_eq_false_iff_not];omega
 have HA:Hid (nm.size≤200∧l.length≤60):=aac (by have:=HN.out;omega);clear a1;go_enter Tryz.func19,Tryz.ntmps19;go_wp2_with fail;go_loop [3] (fun i=>ayk n l i) (fun i=>n - (intOf i).toNat);case atStart=>exact⟨0,rfl,Nat.zero_le _,aac (fun j x hj=>absurd hj (Nat.not_lt_zero _))⟩
 case round=>
  obtain⟨k,rfl,hk,hM⟩:=hrel;by_cases hlt:k < n
  · have hkl:k < l.length:=by rw[← HN.out];exact hlt
    obtain⟨b1,o1,rfl,hb1,x0,x1⟩:=H1.out k _ (List.getElem?_eq_getElem hkl);have hxx:=HX.out l[k] (List.getElem_mem _);have HK:=aac (List.getElem?_eq_getElem hkl);have d1:(k:Int) < (n:Int):=(by omega);have d0:(0:Int)≤(k:Int):=(by omega);generalize l[k]=t at *;obtain⟨tn,tv⟩:=t;dsimp only at x0 x1 hxx;by_cases q1:200 < tn.size
    · have HF:Hid (¬ azP nm l):=aac (fun h=>by have:tn.size≤200:=(h.2.2 _ (List.mem_of_getElem? HK.out)).1;omega);have i3:decide ((200:Int) < (tn.size:Int))=true:=by rw[decide_eq_true_eq];omega
      have j3:decide (200 < tn.size)=true:=by rw[decide_eq_true_eq];omega
      clear hM;go_wp2_with fail;go_ret;exact avr HF.out HB.out
    have i3:decide ((200:Int) < (tn.size:Int))=false:=by rw[decide_eq_false_iff_not];omega
    have j3:decide (200 < tn.size)=false:=by rw[decide_eq_false_iff_not];omega
    by_cases q2:200 < tv.size
    · have HF:Hid (¬ azP nm l):=aac (fun h=>by have:tv.size≤200:=(h.2.2 _ (List.mem_of_getElem? HK.out)).2;omega);have i4:decide ((200:Int) < (tv.size:Int))=true:=by rw[decide_eq_true_eq];omega
      have j4:decide (200 < tv.size)=true:=by rw[decide_eq_true_eq];omega
      clear hM;go_wp2_with fail;go_ret;exact avr HF.out HB.out
    have i4:decide ((200:Int) < (tv.size:Int))=false:=by rw[decide_eq_false_iff_not];omega
    have j4:decide (200 < tv.size)=false:=by rw[decide_eq_false_iff_not];omega
    have HM2:Hid (∀ j x,j < k+1→l[j]?=some x→x.1.size≤200∧x.2.size≤200):=aac fun j x hj hx=>by
     rcases Nat.lt_or_ge j k with g | g
     · exact hM.out j x g hx
     · obtain rfl:j=k:=(by omega);have:=HK.out;rw[hx] at this;injection this with this
       rw[this];exact⟨by show tn.size≤200;omega,by show tv.size≤200;omega⟩
    clear hM;go_wp2_with fail;go_round;case rel=>exact⟨k+1,by go_num,by omega,HM2⟩
    case measure=>simp only[intOf];omega
  · have d1:¬ (k:Int) < (n:Int):=(by omega);have hke:k=n:=by omega
    have HF:Hid (azP nm l):=aac ⟨HA.out.1,HA.out.2,fun x hx=>by
     obtain⟨j,hj⟩:=List.getElem?_of_mem hx;exact hM.out j x (by rw[hke,HN.out];exact(List.getElem?_eq_some_iff.1 hj).1) hj⟩
    clear hM hke;go_wp2_with fail;go_ret;exact a1R HF.out HB.out
end Go.Proofs.YtnomcldpbkinmaaGreatDoor.Tg
namespace Go.Proofs.YtnomcldpbkinmaaGreatDoor
open Go.RowKit
def aoX (n i:Nat):Int:=if i=0 then (if n=2 then 192 else if n=3 then 224 else if n=4 then 240 else 0) else 128
def akD (b:Nat→Int)(n:Nat):Nat→Int
 | 0=>0
 | i+1=>akD b n i * 64+(b i - aoX n i)
theorem aiS (n i:Nat):0≤aoX n i∧aoX n i≤240:=by unfold aoX;repeat' split <;> omega
def vb (i:Nat):Int:=if i=0 then 0 else if i=1 then 256 else if i=2 then 16640 else if i=3 then 1065216 else 68174080
theorem alx (b:Nat→Int)(n:Nat)(h0:∀ k,0≤b k)(h1:∀ k,b k < 256)(i:Nat)(hi:i≤4): -100000000≤akD b n i∧akD b n i≤100000000:=by
 have a0:=h0 0;have a1:=h1 0;have b0:=h0 1;have b1:=h1 1;have c0:=h0 2;have c1:=h1 2;have d0:=h0 3;have d1:=h1 3;have o0:=aiS n 0;have o1:=aiS n 1;have o2:=aiS n 2;have o3:=aiS n 3;have h:i=0∨i=1∨i=2∨i=3∨i=4:=(by omega);rcases h with rfl | rfl | rfl | rfl | rfl <;> simp only[akD] <;> omega
theorem akm (s:ByteArray)(a n:Nat)(w:World)(hs:s.size≤100000)(h:a+n≤s.size)(h2:2≤n)(h4:n≤4):
 Calls Tryz.prog 73 #[.string s,.int .i64 a,.int .i64 n] w fun e w'=>e=.returned (.int .i64 (akD (fun i=>bt s (a+i)) n n))∧w=w':=by
 have VB:=alx (fun i=>bt s (a+i)) n (fun k=>afI s _) (fun k=>ahA s _);have VS:∀ i,akD (fun i=>bt s (a+i)) n (i+1)=akD (fun i=>bt s (a+i)) n i * 64+(bt s (a+i) - aoX n i):=fun i=>rfl;have V0:akD (fun i=>bt s (a+i)) n 0=0:=rfl;generalize akD (fun i=>bt s (a+i)) n=f at *;have HB:=aac VB;have HS:=aac VS;have H0:=aac V0;clear VB VS V0;go_enter Tryz.func73,Tryz.ntmps73;go_wp2_with fail;go_loop [7,8] (fun v i=>∃ k:Nat,k≤n∧i=.int .i64 k∧v=.int .i64 (f k)) (fun _ i=>n - (intOf i).toNat);case atStart=>exact⟨0,Nat.zero_le _,rfl,by rw[H0.out]⟩
 case round=>
  obtain⟨k,hk,rfl,rfl⟩:=hrel;by_cases hlt:k < n
  · have vb:=HB.out k (by omega);have hb:=afv s (a+k) (by omega);have hby:(s[a+k].toNat:Int) < 256:=by have:=s[a+k].toNat_lt;omega
    have hst:=HS.out k;rw[← hb] at hst;have HST:=aac hst;clear hb hst;generalize f k=v at *;by_cases h0:k=0
    · have t0:((k:Int) == 0)=true:=by simp;omega
      have hk0:k≤0:=(by omega);have HO:=aac h0;clear h0;have hn:n=2∨n=3∨n=4:=(by omega);rcases hn with hn | hn | hn
      · have ho:aoX n k=192:=by rw[HO.out,hn];rfl
        rw[ho] at HST;have n2:((n:Int) == 2)=true:=by simp;omega
        have n3:((n:Int) == 3)=false:=by simp;omega
        have n4:((n:Int) == 4)=false:=by simp;omega
        clear ho hn;go_wp2;go_round;case rel=>exact⟨k+1,by omega,by go_num,by rw[HST.out]⟩
        case measure=>simp[intOf];omega
      · have ho:aoX n k=224:=by rw[HO.out,hn];rfl
        rw[ho] at HST;have n2:((n:Int) == 2)=false:=by simp;omega
        have n3:((n:Int) == 3)=true:=by simp;omega
        have n4:((n:Int) == 4)=false:=by simp;omega
        clear ho hn;go_wp2;go_round;case rel=>exact⟨k+1,by omega,by go_num,by rw[HST.out]⟩
        case measure=>simp[intOf];omega
      · have ho:aoX n k=240:=by rw[HO.out,hn];rfl
        rw[ho] at HST;have n2:((n:Int) == 2)=false:=by simp;omega
        have n3:((n:Int) == 3)=false:=by simp;omega
        have n4:((n:Int) == 4)=true:=by simp;omega
        clear ho hn;go_wp2;go_round;case rel=>exact⟨k+1,by omega,by go_num,by rw[HST.out]⟩
        case measure=>simp[intOf];omega
    · have t0:((k:Int) == 0)=false:=by simp;omega
      have ho:aoX n k=128:=by unfold aoX;rw[if_neg h0]
      rw[ho] at HST;have hk1:(0:Int) < (k:Int):=(by omega);clear h0 ho;go_wp2;go_round;case rel=>exact⟨k+1,by omega,by go_num,by rw[HST.out]⟩
      case measure=>simp[intOf];omega
  · have:k=n:=(by omega);subst this;go_wp2;go_ret;exact⟨rfl,rfl⟩
theorem ahS (s:ByteArray)(n:Nat)(w:World)(hs:s.size≤100000)(h:n≤s.size)(h2:2≤n)(h4:n≤4):
 Calls Tryz.prog 73 #[.string s,.int .i64 0,.int .i64 n] w fun e w'=>e=.returned (.int .i64 (akD (bt s) n n))∧w=w':=by
 have:=akm s 0 n w hs (by omega) h2 h4;simp only[Nat.zero_add] at this;exact this
end Go.Proofs.YtnomcldpbkinmaaGreatDoor
namespace Go.Proofs.YtnomcldpbkinmaaGreatDoor
def amf (L:List Int)(n:Nat):Int:=akD (fun k=>L.getD k 0) n n
theorem a2L (L:List Int):amf L 2=(L.getD 0 0 - 192) * 64+(L.getD 1 0 - 128):=by simp[amf,akD,aoX]
theorem a0P (L:List Int):amf L 3=((L.getD 0 0 - 224) * 64+(L.getD 1 0 - 128)) * 64+(L.getD 2 0 - 128):=by simp[amf,akD,aoX]
theorem ayc (L:List Int):amf L 4=(((L.getD 0 0 - 240) * 64+(L.getD 1 0 - 128)) * 64+(L.getD 2 0 - 128)) * 64+(L.getD 3 0 - 128):=by simp[amf,akD,aoX]
def vAt (L:List Int)(n:Nat):Int:=if n=1 then L.getD 0 0 else amf L n
theorem abA {r:Int}(h:¬ Bad r):aaL r=aaR r:=by rw[aaL,if_neg h]
theorem ahF {r:Int}(h:0 < (aaL r).length):¬ Bad r:=fun hb=>by
 rw[aaL,if_pos hb] at h;simp at h
def aoc (L:List Int)(n:Nat):Prop:=(aaL (vAt L n)).length=n∧L.take n=aaL (vAt L n)
theorem aqk (L:List Int)(n:Nat)(hn:1≤n)(h:aoc L n):aaO L=(vAt L n,(n:Int),0):=by
 obtain⟨h1,h2⟩:=h;have hb:¬ Bad (vAt L n):=ahF (by omega);rw[abA hb] at h1 h2;have hL:L=aaR (vAt L n)++L.drop n:=(by rw[← h2,List.take_append_drop]);generalize vAt L n=r at *;have:=akZ r (L.drop n) hb;rw[← hL,h1] at this;exact this
theorem aaV {L T:List Int}{n k:Nat}(h:L.take n=T)(hk:k < n):L.getD k 0=T.getD k 0:=by
 subst h;simp[List.getD_eq_getElem?_getD,List.getElem?_take,hk]
theorem axD (L:List Int)(hl:L≠[])(hn:NN L)(h:(aaO L).2.2=0):∃ n,1≤n∧n≤4∧n≤L.length∧aoc L n:=by
 obtain⟨hb,h1,h2,h3⟩:=agO L hl hn.getD h;generalize (aaO L).1=r at *;have h4:=abS r;refine⟨(aaR r).length,by omega,by omega,h3,?_⟩
 have key:vAt L (aaR r).length=r:=by
  have hb':=hb;unfold Bad at hb';by_cases q1:r < 128
  · rw[enc1 q1] at h2 ⊢;have g0:=aaV (k:=0) h2 (by simp);simp at g0;simp[vAt,g0]
  by_cases q2:r < 2048
  · rw[enc2 (by omega) q2] at h2 ⊢;have g0:=aaV (k:=0) h2 (by simp);have g1:=aaV (k:=1) h2 (by simp);simp only[List.getD_cons_zero,List.getD_cons_succ] at g0 g1;show vAt L 2=r;rw[vAt,if_neg (by omega),a2L,g0,g1];omega
  by_cases q3:r < 65536
  · rw[enc3 (by omega) q3] at h2 ⊢;have g0:=aaV (k:=0) h2 (by simp);have g1:=aaV (k:=1) h2 (by simp);have g2:=aaV (k:=2) h2 (by simp);simp only[List.getD_cons_zero,List.getD_cons_succ] at g0 g1 g2;show vAt L 3=r;rw[vAt,if_neg (by omega),a0P,g0,g1,g2];omega
  · rw[enc4 (by omega)] at h2 ⊢;have g0:=aaV (k:=0) h2 (by simp);have g1:=aaV (k:=1) h2 (by simp);have g2:=aaV (k:=2) h2 (by simp);have g3:=aaV (k:=3) h2 (by simp);simp only[List.getD_cons_zero,List.getD_cons_succ] at g0 g1 g2 g3;show vAt L 4=r;rw[vAt,if_neg (by omega),ayc,g0,g1,g2,g3];omega
 refine⟨?_,?_⟩
 · rw[key,abA hb]
 · rw[key,abA hb,h2]
def stp (j:Nat):Int:=if j=1 then 1 else if j=2 then 65 else 4161
def loV (F:List Int)(t:Nat):Int:=amf (F++List.replicate (t - F.length) 128) t
def hiV (F:List Int)(t:Nat):Int:=amf (F++List.replicate (t - F.length) 191) t
def rK (F:List Int)(t k:Nat):Int:=loV F t+stp (t - F.length) * k
def Tl (F:List Int):Prop:=∀ i,1≤i→i < F.length→128≤F.getD i 0∧F.getD i 0≤191
def Fst (F:List Int)(t:Nat):Prop:=(t=2∧192≤F.getD 0 0∧F.getD 0 0 < 224)∨(t=3∧224≤F.getD 0 0∧F.getD 0 0 < 240)∨(t=4∧240≤F.getD 0 0∧F.getD 0 0 < 248)
def Hit (F:List Int)(t k:Nat):Prop:=(aaL (rK F t k)).length=t∧(aaL (rK F t k)).take F.length=F
def awf (F:List Int)(t:Nat):Prop:=Tl F∧Fst F t∧∃ k,k < 64∧Hit F t k
theorem a2u (F:List Int)(t:Nat)(h1:1≤F.length)(h2:F.length < t)(h3:t≤4):hiV F t=loV F t+stp (t - F.length) * 63:=by
 match F,h1,h2 with
 | [a],_,h2=>
   have:t=2∨t=3∨t=4:=by simp only[List.length_cons,List.length_nil] at h2;omega
   rcases this with rfl | rfl | rfl
   · simp[hiV,loV,a2L,stp,List.replicate] <;> try omega
   · simp[hiV,loV,a0P,stp,List.replicate] <;> try omega
   · simp[hiV,loV,ayc,stp,List.replicate] <;> try omega
 | [a,b],_,h2=>
   have:t=3∨t=4:=by simp at h2;omega
   rcases this with rfl | rfl
   · simp[hiV,loV,a0P,stp,List.replicate] <;> try omega
   · simp[hiV,loV,ayc,stp,List.replicate] <;> try omega
 | [a,b,c],_,h2=>
   have:t=4:=by simp at h2;omega
   subst this;simp[hiV,loV,ayc,stp,List.replicate] <;> try omega
 | a :: b :: c :: d :: F,_,h2=>simp at h2;omega
theorem axW (F:List Int)(t k:Nat)(h1:1≤F.length)(h2:F.length < t)(h:Hit F t k):(aaO F).2.2=7:=by
 obtain⟨a,b⟩:=h;have hb:¬ Bad (rK F t k):=ahF (by omega);rw[abA hb] at a b;have:=aza (rK F t k) F.length hb h1 (by omega);rw[b] at this;rw[this]
theorem hit2 (F:List Int)(k:Nat)(hF:F.length=1)(h0:194≤F.getD 0 0)(h1:F.getD 0 0 < 224):Hit F 2 0:=by
 match F,hF with
 | [a],_=>
   simp at h0 h1;have hr:rK [a] 2 0=(a - 192) * 64:=(by simp[rK,loV,a2L,stp,List.replicate]);unfold Hit;rw[hr,abA (by unfold Bad;omega),enc2 (by omega) (by omega)];refine⟨rfl,?_⟩;exact abo (by omega) rfl
theorem hit3 (a:Int)(h0:224≤a)(h1:a < 240):∃ k,k < 64∧Hit [a] 3 k:=by
 by_cases e:a=224
 · subst e;refine⟨32,by omega,?_⟩;have hr:rK [224] 3 32=2080:=(by decide);unfold Hit;rw[hr];decide
 · refine⟨0,by omega,?_⟩;have hr:rK [a] 3 0=(a - 224) * 64 * 64:=(by simp[rK,loV,a0P,stp,List.replicate]);unfold Hit;rw[hr,abA (by unfold Bad;omega),enc3 (by omega) (by omega)];refine⟨rfl,?_⟩;exact abo (by omega) rfl
theorem a4n (a:Int)(h0:240≤a)(h1:a < 245):∃ k,k < 64∧Hit [a] 4 k:=by
 by_cases e:a=240
 · subst e;refine⟨16,by omega,?_⟩;have hr:rK [240] 4 16=66576:=(by decide);unfold Hit;rw[hr];decide
 · refine⟨0,by omega,?_⟩;have hr:rK [a] 4 0=(a - 240) * 64 * 64 * 64:=(by simp[rK,loV,ayc,stp,List.replicate]);unfold Hit;rw[hr,abA (by unfold Bad;omega),enc4 (by omega)];refine⟨rfl,?_⟩;exact abo (by omega) rfl
theorem a2F (a b:Int)(h0:224≤a)(h1:a < 240)(h2:128≤b)(h3:b≤191)(h4:a=224→160≤b)(h5:a=237→b≤159):Hit [a,b] 3 0:=by
 have hr:rK [a,b] 3 0=((a - 224) * 64+(b - 128)) * 64:=(by simp[rK,loV,a0P,stp,List.replicate]);unfold Hit;rw[hr,abA (by unfold Bad;omega),enc3 (by omega) (by omega)];refine⟨rfl,?_⟩;exact abo (by omega) (abo (by omega) rfl)
theorem a3Q (a b:Int)(h0:240≤a)(h1:a < 245)(h2:128≤b)(h3:b≤191)(h4:a=240→144≤b)(h5:a=244→b≤143):Hit [a,b] 4 0:=by
 have hr:rK [a,b] 4 0=((a - 240) * 64+(b - 128)) * 64 * 64:=(by simp[rK,loV,ayc,stp,List.replicate]);unfold Hit;rw[hr,abA (by unfold Bad;omega),enc4 (by omega)];refine⟨rfl,?_⟩;exact abo (by omega) (abo (by omega) rfl)
theorem a3r (a b c:Int)(h0:240≤a)(h1:a < 245)(h2:128≤b)(h3:b≤191)(h4:a=240→144≤b)(h5:a=244→b≤143)(h6:128≤c)(h7:c≤191):Hit [a,b,c] 4 0:=by
 have hr:rK [a,b,c] 4 0=(((a - 240) * 64+(b - 128)) * 64+(c - 128)) * 64:=(by simp[rK,loV,ayc,stp,List.replicate]);unfold Hit;rw[hr,abA (by unfold Bad;omega),enc4 (by omega)];refine⟨rfl,?_⟩;exact abo (by omega) (abo (by omega) (abo (by omega) rfl))
theorem a3y (a:Int)(h:(aaO [a]).2.2=7):194≤a∧a < 245:=by
 by_cases q:194≤a∧a < 245
 · exact q
 · exfalso;simp[aaO,canon] at h
   repeat' split at h
   all_goals first | omega | simp at h
def C7 (P:Prop)(x:Int × Int × Int):Prop:=x.2.2=7→P
theorem aav {P:Prop}{c:Prop} [Decidable c]{x y:Int × Int × Int}(h1:c→C7 P x)(h2:¬ c→C7 P y):C7 P (if c then x else y):=by
 by_cases h:c
 · rw[if_pos h];exact h1 h
 · rw[if_neg h];exact h2 h
theorem aij {P:Prop}:C7 P (0,0,2):=fun h=>by simp at h
theorem asP {P:Prop}{r n:Int}:C7 P (r,n,0):=fun h=>by simp at h
theorem a2K {P:Prop}(h:P):C7 P (0,0,7):=fun _=>h
theorem a3D (a b:Int)(h:(aaO [a,b]).2.2=7):(224≤a∧a < 240∧128≤b∧b≤191∧(a=224→160≤b)∧(a=237→b≤159))∨(240≤a∧a < 245∧128≤b∧b≤191∧(a=240→144≤b)∧(a=244→b≤143)):=by
 refine(?_:C7 _ (aaO [a,b])) h;unfold aaO canon;simp only[List.getD_cons_zero,List.getD_cons_succ,List.length_cons,List.length_nil];refine aav (fun _=>asP) fun n1=>aav (fun _=>aij) fun n2=> ?_;refine aav (fun q=>aav (fun q=>by omega) fun _=>aav (fun _=>aij) fun _=>asP) fun n3=> ?_;refine aav (fun q=>aav (fun q=>by omega) fun _=>aav (fun _=>aij) fun n4=>aav (fun _=>a2K (.inl ?_)) fun q=>by omega) fun n4=> ?_
 · refine⟨by omega,by omega,?_,?_,?_,?_⟩
   · by_cases e:a=224
     · rw[if_pos e] at n4;omega
     · rw[if_neg e] at n4;omega
   · by_cases e:a=237
     · rw[if_pos e] at n4;omega
     · rw[if_neg e] at n4;omega
   · intro e;rw[if_pos e] at n4;omega
   · intro e;rw[if_pos e] at n4;omega
 refine aav (fun q=>aav (fun q=>by omega) fun _=>aav (fun _=>aij) fun n5=>aav (fun _=>a2K (.inr ?_)) fun q=>by omega) fun _=>aij;refine⟨by omega,by omega,?_,?_,?_,?_⟩
 · by_cases e:a=240
   · rw[if_pos e] at n5;omega
   · rw[if_neg e] at n5;omega
 · by_cases e:a=244
   · rw[if_pos e] at n5;omega
   · rw[if_neg e] at n5;omega
 · intro e;rw[if_pos e] at n5;omega
 · intro e;rw[if_pos e] at n5;omega
theorem a3J (a b c:Int)(h:(aaO [a,b,c]).2.2=7):240≤a∧a < 245∧128≤b∧b≤191∧(a=240→144≤b)∧(a=244→b≤143)∧128≤c∧c≤191:=by
 refine(?_:C7 _ (aaO [a,b,c])) h;unfold aaO canon;simp only[List.getD_cons_zero,List.getD_cons_succ,List.length_cons,List.length_nil];refine aav (fun _=>asP) fun n1=>aav (fun _=>aij) fun n2=> ?_;refine aav (fun q=>aav (fun q=>by omega) fun _=>aav (fun _=>aij) fun _=>asP) fun n3=> ?_;refine aav (fun q=>aav (fun q=>by omega) fun _=>aav (fun _=>aij) fun n4=>aav (fun q=>by omega) fun q=>aav (fun _=>aij) fun _=>asP) fun n4=> ?_;refine aav (fun q=>aav (fun q=>by omega) fun _=>aav (fun _=>aij) fun n5=>aav (fun q=>by omega) fun q=>aav (fun _=>aij) fun n6=>aav (fun _=>a2K ?_) fun q=>by omega) fun _=>aij;refine⟨by omega,by omega,?_,?_,?_,?_,by omega,by omega⟩
 · by_cases e:a=240
   · rw[if_pos e] at n5;omega
   · rw[if_neg e] at n5;omega
 · by_cases e:a=244
   · rw[if_pos e] at n5;omega
   · rw[if_neg e] at n5;omega
 · intro e;rw[if_pos e] at n5;omega
 · intro e;rw[if_pos e] at n5;omega
theorem a3P (L:List Int)(h:4≤L.length):(aaO L).2.2≠7:=by
 intro h7;refine(?_:C7 False (aaO L)) h7;unfold aaO canon;refine aav (fun _=>asP) fun n1=>aav (fun _=>aij) fun n2=> ?_;refine aav (fun q=>aav (fun q=>by omega) fun _=>aav (fun _=>aij) fun _=>asP) fun n3=> ?_;refine aav (fun q=>aav (fun q=>by omega) fun _=>aav (fun _=>aij) fun n4=>aav (fun q=>by omega) fun q=>aav (fun _=>aij) fun _=>asP) fun n4=> ?_;exact aav (fun q=>aav (fun q=>by omega) fun _=>aav (fun _=>aij) fun n5=>aav (fun q=>by omega) fun q=>aav (fun _=>aij) fun n6=>aav (fun q=>by omega) fun _=>aav (fun _=>aij) fun _=>asP) fun _=>aij
theorem aiO (F:List Int)(h1:1≤F.length)(h3:F.length≤3):(∃ t,F.length < t∧t≤4∧awf F t)↔(aaO F).2.2=7:=by
 refine⟨fun ⟨t,a,b,_,_,k,_,hk⟩=>axW F t k h1 a hk,fun h=> ?_⟩
 match F,h1,h3,h with
 | [a],_,_,h=>
   obtain⟨q1,q2⟩:=a3y a h;have ht:Tl [a]:=fun i i1 i2=>by simp at i2;omega
   by_cases c1:a < 224
   · exact⟨2,by simp,by omega,ht,.inl ⟨rfl,by simp;omega,by simpa using c1⟩,0,by omega,hit2 [a] 0 rfl (by simpa using q1) (by simpa using c1)⟩
   by_cases c2:a < 240
   · exact⟨3,by simp,by omega,ht,.inr (.inl ⟨rfl,by simp;omega,by simpa using c2⟩),hit3 a (by omega) c2⟩
   · exact⟨4,by simp,by omega,ht,.inr (.inr ⟨rfl,by simp;omega,by simp;omega⟩),a4n a (by omega) q2⟩
 | [a,b],_,_,h=>
   have ht:128≤b→b≤191→Tl [a,b]:=fun b1 b2 i i1 i2=>by
    have:i=1:=by simp at i2;omega
    subst this;simp;omega
   rcases a3D a b h with ⟨q1,q2,q3,q4,q5,q6⟩ | ⟨q1,q2,q3,q4,q5,q6⟩
   · exact⟨3,by simp,by omega,ht q3 q4,.inr (.inl ⟨rfl,by simpa using q1,by simpa using q2⟩),0,by omega,a2F a b q1 q2 q3 q4 q5 q6⟩
   · exact⟨4,by simp,by omega,ht q3 q4,.inr (.inr ⟨rfl,by simpa using q1,by simp;omega⟩),0,by omega,a3Q a b q1 q2 q3 q4 q5 q6⟩
 | [a,b,c],_,_,h=>
   obtain⟨q1,q2,q3,q4,q5,q6,q7,q8⟩:=a3J a b c h
   have ht:Tl [a,b,c]:=fun i i1 i2=>by
    have:i=1∨i=2:=by simp at i2;omega
    rcases this with rfl | rfl
    · simp;omega
    · simp;omega
   exact⟨4,by simp,by omega,ht,.inr (.inr ⟨rfl,by simpa using q1,by simp;omega⟩),0,by omega,a3r a b c q1 q2 q3 q4 q5 q6 q7 q8⟩
end Go.Proofs.YtnomcldpbkinmaaGreatDoor
namespace Go.Proofs.YtnomcldpbkinmaaGreatDoor
open Go.RowKit
def aat (w:World)(l:List Int)(e:Ending)(w':World):Prop:=∃ v,e=.returned v∧afz w' w.heap.size v l∧Below w.heap.size w w'
theorem acF (w:World)(ys:List Int)(cs:Array Value)(h:cs.toList=ys.map (Value.int .u8))(hl:ys.length≤10000):
 aat w ys (.returned (.slice (some ⟨w.heap.size,0,none⟩) ys.length ys.length)) (w.alloc (.cells cs 5)):=by
 refine⟨_,rfl,?_,(Below.refl _ w).alloc (Nat.le_refl _) _⟩;unfold afz;have:=World.ownsRow_lit (base:=w.heap.size) (e:=5) (size:=1) w cs ys.length (Nat.le_refl _) (by unfold maxLen;omega) (by rw[← Array.length_toList,h];simp);rw[h] at this;exact this
theorem axN (r:Int)(w:World)(h0:0≤r)(h1:r < 128):Calls Tryz.prog 52 #[.int .i64 r] w (aat w [r]):=by
 go_enter Tryz.func52,Tryz.ntmps52;go_wp2;go_ret;exact acF w [r] #[.int .u8 (r)] rfl (by simp)
theorem azD (r:Int)(w:World)(h0:128≤r)(h1:r < 2048):Calls Tryz.prog 52 #[.int .i64 r] w (aat w [192+r / 64,128+r % 64]):=by
 go_enter Tryz.func52,Tryz.ntmps52;go_wp2;go_ret;exact acF w [192+r / 64,128+r % 64] #[.int .u8 (192+r / 64),.int .u8 (128+r % 64)] rfl (by simp)
theorem avL (r:Int)(w:World)(h0:2048≤r)(h1:r < 55296):Calls Tryz.prog 52 #[.int .i64 r] w (aat w [224+r / 4096,128+r / 64 % 64,128+r % 64]):=by
 go_enter Tryz.func52,Tryz.ntmps52;go_wp2;go_ret;exact acF w [224+r / 4096,128+r / 64 % 64,128+r % 64] #[.int .u8 (224+r / 4096),.int .u8 (128+r / 64 % 64),.int .u8 (128+r % 64)] rfl (by simp)
theorem asX (r:Int)(w:World)(h0:57343 < r)(h1:r < 65536):Calls Tryz.prog 52 #[.int .i64 r] w (aat w [224+r / 4096,128+r / 64 % 64,128+r % 64]):=by
 go_enter Tryz.func52,Tryz.ntmps52;go_wp2;go_ret;exact acF w [224+r / 4096,128+r / 64 % 64,128+r % 64] #[.int .u8 (224+r / 4096),.int .u8 (128+r / 64 % 64),.int .u8 (128+r % 64)] rfl (by simp)
theorem axr (r:Int)(w:World)(h0:65536≤r)(h1:r≤1114111):Calls Tryz.prog 52 #[.int .i64 r] w (aat w [240+r / 262144,128+r / 4096 % 64,128+r / 64 % 64,128+r % 64]):=by
 go_enter Tryz.func52,Tryz.ntmps52;go_wp2;go_ret;exact acF w [240+r / 262144,128+r / 4096 % 64,128+r / 64 % 64,128+r % 64] #[.int .u8 (240+r / 262144),.int .u8 (128+r / 4096 % 64),.int .u8 (128+r / 64 % 64),.int .u8 (128+r % 64)] rfl (by simp)
theorem aof (r:Int)(w:World)(h0:r < 0):Calls Tryz.prog 52 #[.int .i64 r] w (aat w []):=by
 go_enter Tryz.func52,Tryz.ntmps52;go_wp2;go_ret;exact⟨_,rfl,World.ownsRow_nil _ _ _ _,Below.refl _ _⟩
theorem aoi (r:Int)(w:World)(h0:1114111 < r):Calls Tryz.prog 52 #[.int .i64 r] w (aat w []):=by
 go_enter Tryz.func52,Tryz.ntmps52;go_wp2;go_ret;exact⟨_,rfl,World.ownsRow_nil _ _ _ _,Below.refl _ _⟩
theorem aoA (r:Int)(w:World)(h0:55296≤r)(h1:r≤57343):Calls Tryz.prog 52 #[.int .i64 r] w (aat w []):=by
 go_enter Tryz.func52,Tryz.ntmps52;go_wp2;go_ret;exact⟨_,rfl,World.ownsRow_nil _ _ _ _,Below.refl _ _⟩
theorem aaE (r:Int)(w:World):Calls Tryz.prog 52 #[.int .i64 r] w (aat w (aaL r)):=by
 by_cases hb:Bad r
 · rw[aaL,if_pos hb];rcases hb with h | h | ⟨h,h2⟩
   · exact aof r w h
   · exact aoi r w h
   · exact aoA r w h h2
 · rw[aaL,if_neg hb];unfold Bad at hb;by_cases h1:r < 128
   · rw[enc1 h1];exact axN r w (by omega) h1
   by_cases h2:r < 2048
   · rw[enc2 (by omega) h2];exact azD r w (by omega) h2
   by_cases h3:r < 55296
   · rw[enc3 (by omega) (by omega)];exact avL r w (by omega) h3
   by_cases h4:r < 65536
   · rw[enc3 (by omega) (by omega)];exact asX r w (by omega) h4
   · rw[enc4 (by omega)];exact axr r w (by omega) (by omega)
end Go.Proofs.YtnomcldpbkinmaaGreatDoor
