/- Lemmas of the claim. -/
import Derived.Test.YtnomcldpbkinmaaGreatDoorG42
import Derived.Test.YtnomcldpbkinmaaGreatDoorG34
import Derived.Test.YtnomcldpbkinmaaGreatDoorG22
import Derived.Test.YtnomcldpbkinmaaGreatDoorG41
import Derived.Deep.CutRange
set_option maxHeartbeats 8000000
set_option maxRecDepth 100000
set_option linter.unusedSimpArgs false
set_option linter.unusedVariables false
namespace Go.Proofs.YtnomcldpbkinmaaGreatDoor.Wl
open Go.RowKit
theorem arj (A:Option Addr)(n c:Nat)(l:List Tok)(w:World)(T:amD w A n c l)(hG:Gl w):Calls Tryz.prog 4 #[.slice A n c] w fun e w'=>e=.returned (.bool true)∧Below w.heap.size w w':=by
 have CA:=aac (acZ w hG);have HG:=aac hG;have HT:=aac T;have CF:Hid (∀ W,Below w.heap.size w W→Calls Tryz.prog 13 #[.slice A n c] W (aif l n W)):=aac fun W hb=>arM A n c l W ⟨T.len,T.lsz,T.xsz,T.rd.keep hb,T.nil⟩;clear T hG;go_enter Tryz.func4,Tryz.ntmps4;go_wp2_with fail;refine CA.out.mono ?_;rintro e M ⟨rfl,b1⟩;have B1:=aac b1;have GM:=aac (HG.out.after b1);clear CA b1;go_wp2_with fail;refine(CF.out _ B1.out).mono ?_;rintro e w1 ⟨bf,rfl,hf,rfl⟩
 cases bf with
 | false=>
   have CA2:=aac (acZ M GM.out);clear hf;go_wp2_with fail;refine CA2.out.mono ?_;rintro e w2 ⟨rfl,b2⟩;go_wp2;go_ret;exact⟨rfl,B1.out.trans (b2.mono B1.out.size)⟩
 | true=>
   have hn:=(hf rfl).1;have HF:=aac (hf rfl).2;have CN:=aac (aiW M);clear hf CF;go_wp2_with fail;refine CN.out.mono ?_;rintro e w2 ⟨rfl,h2,b2⟩;have bz:=(Below.refl w2.heap.size w2).alloc (Nat.le_refl _) (.cells #[.slice none 0 0,.slice none 0 0,.bool false,.string ⟨#[]⟩,.bool false,.int .i64 0] 38);have HI0:Hid (TkI M M.heap.size w2.heap.size (.slice none 0 0) (.slice none 0 0) [] st0 0 (w2.alloc (.cells #[.slice none 0 0,.slice none 0 0,.bool false,.string ⟨#[]⟩,.bool false,.int .i64 0] 38))):=aac ⟨⟨_,_,_,h2.after bz⟩,Nz.Sc.abM w2 38 _,b2.size,dw0 _ _,b2.trans (bz.mono b2.size),gd0,iv0,Nat.zero_le _⟩;clear h2 b2 bz CN;go_wp2_with fail;generalize w2.alloc (.cells #[.slice none 0 0,.slice none 0 0,.bool false,.string ⟨#[]⟩,.bool false,.int .i64 0] 38)=W0 at *;generalize w2.heap.size=sb at *;obtain⟨rb,hrb⟩:∃ rb,rb=M.heap.size:=⟨_,rfl⟩;rw[← hrb] at HI0 ⊢;clear hrb
   go_loopg [5] n (fun q i wr=>∃ (k:Nat) (vn vs:Value) (zs:List Value) (s:St),i=.int .i64 k∧k+q=n∧Hid (TkI M rb sb vn vs zs s k wr))
   case atStart=>exact⟨0,_,_,[],st0,rfl,Nat.zero_add _,HI0⟩
   case round=>
    clear HI0;obtain⟨k,vn,vs,zs,s,rfl,hkq,HI⟩:=hrel;by_cases hlt:k < n
    · have k1:(k:Int) < (n:Int):=(by omega);have k2:(0:Int)≤(k:Int):=(by omega);obtain⟨A1,c1,hv⟩:=HI.out.dw.sn;subst hv;obtain⟨A2,c2,hv⟩:=HI.out.dw.ss;subst hv;have hkl:k < l.length:=by rw[← HT.out.len];exact hlt
      have hx:=List.getElem?_eq_getElem hkl;have hsz:=HF.out k _ hx;have HK:Hid (∀ W,Below M.heap.size M W→∃ b off,A=some ⟨b,off,none⟩∧b < W.heap.size∧W.cell? ⟨b,off+k * 4,none⟩=some (.int .i64 l[k].kind)∧W.cell? ⟨b,off+k * 4+1,none⟩=some (.string l[k].text)∧W.cell? ⟨b,off+k * 4+2,none⟩=some (.bool l[k].empty)∧W.cell? ⟨b,off+k * 4+3,none⟩=some (.bool l[k].blank)):=aac fun W hb=>(HT.out.rd.keep (B1.out.trans (hb.mono B1.out.size))) k _ hx;generalize l[k]=t at *;clear hx hkl;obtain⟨kd,tx,em,bk⟩:=t;dsimp only at hsz HK;obtain⟨b,off,hA,_⟩:=HK.out M (Below.refl _ _);subst hA
      have HKb:Hid (∀ W,Below M.heap.size M W→b < W.heap.size∧W.cell? ⟨b,off+k * 4,none⟩=some (.int .i64 kd)∧W.cell? ⟨b,off+k * 4+1,none⟩=some (.string tx)∧W.cell? ⟨b,off+k * 4+2,none⟩=some (.bool em)∧W.cell? ⟨b,off+k * 4+3,none⟩=some (.bool bk)):=aac fun W hb=>by
       obtain⟨b',off',e,h⟩:=HK.out W hb;injection e with e
       injection e with e1 e2 _
       subst e1 e2;exact h
      have GR:=aac (GM.out.after HI.out.bel);have hwz:=HI.out.wt;have CT:=aac (amP HI.out.rs GR.out kd tx em bk (by omega) HI.out.gd (by omega));have CD:Hid (∀ W s2 v2 l2,TkX M rb sb (.slice A1 s.op.length c1) (.slice A2 s.op.length c2) zs s s2 v2 l2 b off k ⟨kd,tx,em,bk⟩ W→Calls Tryz.prog 16 #[.agg #[.slice A1 s.op.length c1,.slice A2 s.op.length c2,.bool s.root,.string s.wait,.bool s.over,.int .i64 s.err],.agg #[.int .i64 kd,.string tx,.bool em,.bool bk]] W (auH M.heap.size (aaP s ⟨kd,tx,em,bk⟩) W)):=aac fun W s2 v2 l2 h=>ajw h.dw h.bel.size kd tx em bk (by omega) HI.out.gd HI.out.iv.ov HI.out.iv.rt (by omega);have HGd:=aac (akI HI.out.gd ⟨kd,tx,em,bk⟩ (show tx.size≤10000 by omega));have HIv:=aac (axv HI.out.iv ⟨kd,tx,em,bk⟩);have hWt:=agJ (s:=s) ⟨kd,tx,em,bk⟩;have hLn:=take_len (s:=s) ⟨kd,tx,em,bk⟩;dsimp only at hWt;obtain⟨hb0,k0',k1',k2',k3'⟩:=HKb.out wr HI.out.bel;generalize aaP s ⟨kd,tx,em,bk⟩=y at *;obtain⟨s2,l2,e2⟩:=y;dsimp only at HGd HIv hWt hLn CD CT;clear HK hb0 GR;go_wp2_with fail;refine CT.out.mono ?_;rintro e w3 ⟨v3,rfl,x1,x2,x3,x4⟩;dsimp only;obtain⟨j0,j1,j2,j3,j4⟩:=HKb.out w3 (HI.out.bel.trans x4);obtain⟨A3,c3,hv⟩:=x1.slc;subst hv;have HX3:Hid (TkX M rb sb (.slice A1 s.op.length c1) (.slice A2 s.op.length c2) zs s s2 (.slice A3 l2.length c3) l2 b off k ⟨kd,tx,em,bk⟩ w3):=aac (HI.out.x x2 x3 x4 (x1.mono HI.out.bel.size) j0 j1 j2 j3 j4);have HLo:=aac HI.out.lo;have hbl:=HI.out.bel.size;clear x1 x2 x3 x4 CT HI k0' k1' k2' k3' j0 j1 j2 j3 j4 HKb;go_upto_region 9 with fail;have hwz2:s2.wait.size≤300 * (k+1):=(by omega);have HW2:=aac hwz2;have hsb:sb < w3.heap.size:=(Array.getElem?_eq_some_iff.1 HX3.out.box).1;have hm3:=HX3.out.bel.size;have hnz:w3.heap.size≠sb:=(by omega);have hbz:b≠w3.heap.size:=by have:=HX3.out.lt;omega
      go_cut [8,9,10] from 21 to 70 (fun v8 v9 v10 wx=>∃ (nb:Nat) (B1 B2 A9:Option Addr) (d1 d2 c9:Nat) (ys:List Value),v8=.pointer (some ⟨nb,0,none⟩)∧v9=.slice A9 l2.length c9∧v10=.int .i64 e2∧Hid (TkY M rb sb nb (stC (.slice A1 s.op.length c1) (.slice A2 s.op.length c2) s) (.slice B1 s2.op.length d1) (.slice B2 s2.op.length d2) ys s2 (.slice A3 l2.length c3) (.slice A9 l2.length c9) l2 wx))
      case first=>
       have Xd:=aac (HX3.out.keep (Below.refl _ w3).drew);have Xa:=aac (HX3.out.keep ((Below.refl _ w3).alloc (Nat.le_refl _) (.cells #[.slice none 0 0,.slice none 0 0,.bool false,.string ⟨#[]⟩,.bool false,.int .i64 0] 38)).drew);have Na:=aac (show (w3.alloc (.cells #[.slice none 0 0,.slice none 0 0,.bool false,.string ⟨#[]⟩,.bool false,.int .i64 0] 38)).drew.heap[w3.heap.size]?=some (.cells #[.slice none 0 0,.slice none 0 0,.bool false,.string ⟨#[]⟩,.bool false,.int .i64 0] 38 (0,0)) from Nz.Sc.abM w3 38 _)
       go_region_held3 (fun W=>(W.cell? ⟨sb,0,none⟩=some (.slice A1 s.op.length c1)∧W.cell? ⟨sb,1,none⟩=some (.slice A2 s.op.length c2)∧W.cell? ⟨sb,2,none⟩=some (.bool s.root)∧W.cell? ⟨sb,3,none⟩=some (.string s.wait)∧W.cell? ⟨sb,4,none⟩=some (.bool s.over)∧W.cell? ⟨sb,5,none⟩=some (.int .i64 s.err))∧W.cell? ⟨b,off+k * 4,none⟩=some (.int .i64 kd)∧W.cell? ⟨b,off+k * 4+1,none⟩=some (.string tx)∧W.cell? ⟨b,off+k * 4+2,none⟩=some (.bool em)∧W.cell? ⟨b,off+k * 4+3,none⟩=some (.bool bk))
        (first
          | with_reducible exact Xd.out.s10
          | with_reducible exact Xa.out.s10
          | with_reducible exact X4.out.s10
          | with_reducible exact(X4.out.keep ((Below.refl _ w4).alloc (Nat.le_refl _) _)).s10
          | with_reducible exact X4.out.a4t hnz hbz _ _ _ _ _ _
          | fail)
        (first
          | (go_at_call 16;refine(CD.out w3.drew _ _ _ Xd.out).mono ?_;rintro e w4 ⟨wn,ws,ys,v9,rfl,x2,x3,x4⟩;have X4:=aac (Xd.out.keep x4);obtain⟨B1,d1,hv⟩:=x3.sn;subst hv;obtain⟨B2,d2,hv⟩:=x3.ss;subst hv;obtain⟨A9,c9,hv⟩:=x2.slc;subst hv;have TY:=aac (X4.out.y1 x3 (x2.mono hm3));unfold stC;dsimp only;clear x2 x3 x4)
          | (go_at_call 16;refine(CD.out (w3.alloc (.cells #[.slice none 0 0,.slice none 0 0,.bool false,.string ⟨#[]⟩,.bool false,.int .i64 0] 38)).drew _ _ _ Xa.out).mono ?_;rintro e w4 ⟨wn,ws,ys,v9,rfl,x2,x3,x4⟩;have X4:=aac (Xa.out.keep x4);have N4:=aac ((x4.block _ (Array.getElem?_eq_some_iff.1 Na.out).1).trans Na.out);obtain⟨B1,d1,hv⟩:=x3.sn;subst hv;obtain⟨B2,d2,hv⟩:=x3.ss;subst hv;obtain⟨A9,c9,hv⟩:=x2.slc;subst hv;have TY:=aac (X4.out.y2 N4.out (by omega) (by omega) x3 (x2.mono Xa.out.bel.size));obtain⟨z0,z1,z2,z3,z4,z5⟩:=Nz.Sc.cells6 N4.out;obtain⟨y0,y1,y2,y3,y4,y5⟩:=Nz.Sc.adi N4.out;unfold stC;dsimp only;clear x2 x3 x4)
          | fail)
       all_goals
        rename_i hHeld;clear hHeld;go_wp2_with fail;go_meet;exact⟨_,B1,B2,A9,d1,d2,c9,ys,rfl,rfl,rfl,TY⟩
      case rest=>
       obtain⟨nb,B1,B2,A9,d1,d2,c9,ys,rfl,rfl,rfl,TY⟩:=hcut;clear HX3 CD hsb hm3 hbl hnz hbz;obtain⟨g0,g1,g2,g3,g4,g5⟩:=Nz.Sc.cells6 TY.out.box;obtain⟨f0,f1,f2,f3,f4,f5⟩:=Nz.Sc.adi TY.out.box;obtain⟨e0,e1,e2',e3,e4,e5⟩:=Nz.Sc.cells6 TY.out.nbx;go_upto_region 11 with fail;have TZ:Hid (TkZ M rb sb (.slice B1 s2.op.length d1) (.slice B2 s2.op.length d2) ys s2 (.slice A3 l2.length c3) (.slice A9 l2.length c9) l2 ((((((wc.setCell ⟨sb,0,none⟩ (.slice B1 s2.op.length d1)).setCell ⟨sb,1,none⟩ (.slice B2 s2.op.length d2)).setCell ⟨sb,2,none⟩ (.bool s2.root)).setCell ⟨sb,3,none⟩ (.string s2.wait)).setCell ⟨sb,4,none⟩ (.bool s2.over)).setCell ⟨sb,5,none⟩ (.int .i64 s2.err))):=aac (TY.out.z HLo.out);clear g0 g1 g2 g3 g4 g5 f0 f1 f2 f3 f4 f5 e0 e1 e2' e3 e4 e5 TY;generalize (((((wc.setCell ⟨sb,0,none⟩ (.slice B1 s2.op.length d1)).setCell ⟨sb,1,none⟩ (.slice B2 s2.op.length d2)).setCell ⟨sb,2,none⟩ (.bool s2.root)).setCell ⟨sb,3,none⟩ (.string s2.wait)).setCell ⟨sb,4,none⟩ (.bool s2.over)).setCell ⟨sb,5,none⟩ (.int .i64 s2.err)=V at *;obtain⟨m,hm⟩:∃ m,m=l2.length:=⟨_,rfl⟩;have hm3:m≤3:=by omega
       have r3:∀ W,TkZ M rb sb (.slice B1 s2.op.length d1) (.slice B2 s2.op.length d2) ys s2 (.slice A3 l2.length c3) (.slice A9 l2.length c9) l2 W→RdE W A3 l2∧RdE W A9 l2:=fun W h=>by
        constructor
        · obtain⟨A',c',q,r,_,_⟩:=h.ev.rde;injection q with q _ _
          rw[q];exact r
        · obtain⟨A',c',q,r,_,_⟩:=h.ev9.rde;injection q with q _ _
          rw[q];exact r
       have CS:Hid (∀ W,TkZ M rb sb (.slice B1 s2.op.length d1) (.slice B2 s2.op.length d2) ys s2 (.slice A3 l2.length c3) (.slice A9 l2.length c9) l2 W→Calls Tryz.prog 12 #[.slice A3 m c3,.slice A9 m c9] W fun e w'=>e=.returned (.bool true)∧Below W.heap.size W w'):=aac fun W h=>aiJ l2 m A3 A9 c3 c9 W hm (by unfold maxLen;omega) (r3 W h).1 (r3 W h).2;have CDp:Hid (∀ W,RS M.heap.size rb s2 W→Calls Tryz.prog 17 #[.pointer (some ⟨rb,0,none⟩)] W fun e w'=>e=.returned (.int .i64 (s2.op.length:Int))∧W=w'):=aac fun W h=>by obtain⟨_,_,_,h⟩:=h;exact abb h
       have COv:Hid (∀ W,RS M.heap.size rb s2 W→Calls Tryz.prog 18 #[.pointer (some ⟨rb,0,none⟩)] W fun e w'=>e=.returned (.bool s2.over)∧W=w'):=aac fun W h=>by obtain⟨_,_,_,h⟩:=h;exact ajh h
       rw[← hm];rw[← hm] at TZ CS;clear r3 hm hLn;have Zd:=aac (TZ.out.keep (Below.refl _ V).drew);have q1:((e2:Int) != e2)=false:=bne_self_eq_false _;have q2:((s2.op.length:Int) != (s2.op.length:Int))=false:=bne_self_eq_false _;have q3:(s2.over != s2.over)=false:=bne_self_eq_false _
       go_region_held3 (fun W=>W.cell? ⟨sb,0,none⟩=some (.slice B1 s2.op.length d1)∧W.cell? ⟨sb,4,none⟩=some (.bool s2.over))
        (first
          | with_reducible exact Zd.out.c04
          | with_reducible exact Z5.out.c04
          | fail)
        (first
          | (go_at_call 12;refine(CS.out _ Zd.out).mono ?_;rintro e w5 ⟨rfl,b5⟩;have Z5:=aac (Zd.out.keep b5))
          | (go_at_call 17;refine(CDp.out _ Z5.out.rs).mono ?_;rintro e w6 ⟨rfl,rfl⟩)
          | (go_at_call 18;refine(COv.out _ Z5.out.rs).mono ?_;rintro e w6 ⟨rfl,rfl⟩)
          | fail)
       all_goals
        go_wp2_with fail
        go_roundg (n - (k+1))
        case measure=>omega
        case rel=>exact⟨k+1,_,_,ys,s2,by go_num,by omega,aac (Z5.out.i HLo.out HGd.out HIv.out HW2.out)⟩
    · have k1:¬ (k:Int) < (n:Int):=(by omega);have HB:=aac (B1.out.trans (HI.out.bel.mono B1.out.size));clear HI;go_wp2;go_ret;exact⟨rfl,HB.out⟩
end Go.Proofs.YtnomcldpbkinmaaGreatDoor.Wl
namespace Go.Proofs.YtnomcldpbkinmaaGreatDoor.Wl
open Go.RowKit
def KpA (W:World)(B:Nat)(v:Value)(m:Nat):Prop:=
 ∃ A c,v=.slice A m c∧(0 < m→∃ ga cs,A=some ⟨ga,0,none⟩∧B≤ga∧W.heap[ga]?=some (.cells cs 59 (0,0))∧m * 3≤cs.size)
structure KpE (W:World)(B g n:Nat)(av:Nat→Value)(am:Nat→Nat):Prop where
 row:∃ cur,W.heap[g]?=some (.cells cur 50 (0,0))∧n * 5≤cur.size∧∀ k,k < n→cur[k * 5+3]?=some (av k)
 low:B≤g
 att:∀ k,k < n→KpA W B (av k) (am k)
 few:∀ k,k < n→am k≤maxLen
theorem a4x {W:World}{b j:Nat}{x:Value}{cs:Array Value}{T:TypeId}{fr:Nat × Nat}(h:W.heap[b]?=some (.cells cs T fr)):(W.setCell ⟨b,j,none⟩ x).heap[b]?=some (.cells (cs.set! j x) T fr):=by
 simp[World.setCell,Array.getElem?_modify,h]
theorem a4y {W:World}{b b' j:Nat}{x:Value}(h:b'≠b):(W.setCell ⟨b,j,none⟩ x).heap[b']?=W.heap[b']?:=aap h
theorem KpE.kind {W:World}{B g n:Nat}{av:Nat→Value}{am:Nat→Nat}(h:KpE W B g n av am)(k:Nat)(x:Value):KpE (W.setCell ⟨g,k * 5,none⟩ x) B g n av am:=by
 obtain⟨cur,h1,h2,h3⟩:=h.row;refine⟨⟨cur.set! (k * 5) x,a4x h1,by simpa using h2,fun j hj=> ?_⟩,h.low,fun j hj=> ?_,h.few⟩
 · have hne:k * 5≠j * 5+3:=(by omega);rw[Array.set!_eq_setIfInBounds,Array.getElem?_setIfInBounds_ne hne];exact h3 j hj
 · obtain⟨A,c,e,hA⟩:=h.att j hj;refine⟨A,c,e,fun hm=> ?_⟩;obtain⟨ga,cs,a1,a2,a3,a4⟩:=hA hm
   have hne:ga≠g:=by
    rintro rfl;rw[h1] at a3;injection a3 with a3
    injection a3 with _ q _
    exact absurd q (by decide)
   exact⟨ga,cs,a1,a2,(a4y hne).trans a3,a4⟩
theorem KpE.attr {W:World}{B g n:Nat}{av:Nat→Value}{am:Nat→Nat}(h:KpE W B g n av am)(ga:Nat){cs:Array Value}(hg:W.heap[ga]?=some (.cells cs 59 (0,0)))(j:Nat)(x:Value):KpE (W.setCell ⟨ga,j,none⟩ x) B g n av am:=by
 obtain⟨cur,h1,h2,h3⟩:=h.row
 have hne:g≠ga:=by
  rintro rfl;rw[h1] at hg;injection hg with hg
  injection hg with _ q _
  exact absurd q (by decide)
 refine⟨⟨cur,(a4y hne).trans h1,h2,h3⟩,h.low,fun i hi=> ?_,h.few⟩;obtain⟨A,c,e,hA⟩:=h.att i hi;refine⟨A,c,e,fun hm=> ?_⟩;obtain⟨gb,ds,a1,a2,a3,a4⟩:=hA hm;by_cases hb:gb=ga
 · subst hb;exact⟨gb,ds.set! j x,a1,a2,a4x a3,by simpa using a4⟩
 · exact⟨gb,ds,a1,a2,(a4y hb).trans a3,a4⟩
theorem KpE.c0 {W:World}{B g n:Nat}{av:Nat→Value}{am:Nat→Nat}(h:KpE W B g n av am){k:Nat}(hk:k < n):(∃ u,W.cell? ⟨g,k * 5,none⟩=some u)∧W.frozen? ⟨g,k * 5,none⟩=false∧W.cell? ⟨g,k * 5+3,none⟩=some (av k):=by
 obtain⟨cur,h1,h2,h3⟩:=h.row;have hlt:k * 5 < cur.size:=(by omega);exact⟨⟨cur[k * 5],Nz.Sc.aaf h1 _ (Array.getElem?_eq_getElem hlt)⟩,Nz.Sc.aaj h1 _,Nz.Sc.aaf h1 _ (h3 k hk)⟩
end Go.Proofs.YtnomcldpbkinmaaGreatDoor.Wl
namespace Go.Proofs.YtnomcldpbkinmaaGreatDoor.Wl
open Go.RowKit
theorem anQ {W:World}{B:Nat}{v:Value}{l:List Tr}(h:Nz.Sc.ajy W B v l):KpA W B v l.length∧l.length≤maxLen:=by
 have h':W.ownsRow B 59 3 v l.length (Nz.Sc.tL l):=h;rcases h'.2 with ⟨rfl,h0⟩ | ⟨g,cap,cur,rfl,hB,hh,h1,h2,h3,h4⟩
 · exact⟨⟨none,0,by rw[h0],fun hm=>by omega⟩,by omega⟩
 · exact⟨⟨_,cap,rfl,fun _=>⟨g,cur,rfl,hB,hh,by rw[h3];exact Nat.mul_le_mul_right 3 h1⟩⟩,by omega⟩
theorem aax.kp {W:World}{B:Nat}{v:Value}{l:List Ev}(h:aax W B v l):∃ A c g av am,v=.slice A l.length c∧(0 < l.length→A=some ⟨g,0,none⟩∧KpE W B g l.length av am):=by
 obtain⟨es,rfl,h2,h3⟩:=h;rw[List.length_map];rcases h2.2 with ⟨rfl,h0⟩ | ⟨g,cap,cur,rfl,hB,hh,h4,h5,h6,h7⟩
 · exact⟨none,0,0,fun _=>.slice none 0 0,fun _=>0,by rw[h0],fun hm=>by omega⟩
 · refine⟨_,cap,g,fun k=>(es[k]?.map (·.2)).getD (.slice none 0 0),fun k=>(es[k]?.map fun x=>(azB x.1).length).getD 0,rfl,fun hm=>⟨rfl,?_⟩⟩;have hk:∀ k,k < es.length→∃ x,es[k]?=some x∧x∈es:=fun k hk=>⟨es[k],List.getElem?_eq_getElem hk,List.getElem_mem hk⟩;refine⟨⟨cur,hh,by rw[h6];exact Nat.mul_le_mul_right 5 h4,fun k hlt=> ?_⟩,hB,fun k hlt=> ?_,fun k hlt=> ?_⟩
   · obtain⟨x,hx,_⟩:=hk k hlt;have h8:=akH es k 3 x hx (by decide);rw[hx,← Array.getElem?_toList];show _=some x.2;have h9:(evC x)[3]?=some x.2:=rfl;rw[h9,← h7,List.getElem?_take_of_lt (by omega)] at h8;exact h8
   · obtain⟨x,hx,hm⟩:=hk k hlt;rw[hx];exact(anQ (h3 x hm)).1
   · obtain⟨x,hx,hm⟩:=hk k hlt;rw[hx];exact(anQ (h3 x hm)).2
theorem KpE.c2 {W:World}{B g n:Nat}{av:Nat→Value}{am:Nat→Nat}(h:KpE W B g n av am){k j:Nat}(hk:k < n)(hj:j < am k):∃ ga c,av k=.slice (some ⟨ga,0,none⟩) (am k) c∧(∃ u,W.cell? ⟨ga,j * 3+2,none⟩=some u)∧W.frozen? ⟨ga,j * 3+2,none⟩=false∧B≤ga∧∀ x,KpE (W.setCell ⟨ga,j * 3+2,none⟩ x) B g n av am:=by
 obtain⟨A,c,e,hA⟩:=h.att k hk;obtain⟨ga,cs,rfl,h2,h3,h4⟩:=hA (by omega);have hlt:j * 3+2 < cs.size:=(by omega);exact⟨ga,c,e,⟨cs[j * 3+2],Nz.Sc.aaf h3 _ (Array.getElem?_eq_getElem hlt)⟩,Nz.Sc.aaj h3 _,h2,fun x=>h.attr ga h3 _ x⟩
theorem KpE.sl {W:World}{B g n:Nat}{av:Nat→Value}{am:Nat→Nat}(h:KpE W B g n av am){k:Nat}(hk:k < n):∃ A c,av k=.slice A (am k) c:=by
 obtain⟨A,c,e,_⟩:=h.att k hk;exact⟨A,c,e⟩
def a3L (n g:Nat)(av:Nat→Value)(am:Nat→Nat)(W2:World)(i:Value)(wr:World):Prop:=
 ∃ k:Nat,i=.int .i64 k∧k≤n∧Hid (Below W2.heap.size W2 wr)∧Hid (0 < n→KpE wr W2.heap.size g n av am)
def a3G (n g m:Nat)(av:Nat→Value)(am:Nat→Nat)(W2:World)(i:Value)(wr:World):Prop:=
 ∃ j:Nat,i=.int .i64 j∧j≤m∧Hid (Below W2.heap.size W2 wr)∧Hid (KpE wr W2.heap.size g n av am)
theorem apw (s:ByteArray)(w:World)(hG:Gl w)(hlen:s.size≤maxLen):Calls Tryz.prog 8 #[.string s] w fun e w'=>e=.returned (.bool true)∧Below w.heap.size w w':=by
 have CA:=aac (acZ w hG);have HG:=aac hG;by_cases h6:s.size≤600
 · have d6:¬ (600:Int) < (s.size:Int):=(by omega);have CE:Hid (∀ W,Gl W→Calls Tryz.prog 10 #[.string s] W (afb (evF (aad s)) W)):=aac fun W hW=>adX s W hW (by omega);have CR:Hid (∀ W,Calls Tryz.prog 11 #[.string s] W (afb (evF (aad s)) W)):=aac fun W=>ahn s W (by omega);generalize evF (aad s)=x at *;obtain⟨l,at_,er⟩:=x;clear hG;go_enter Tryz.func8,Tryz.ntmps8;go_wp2_with fail;refine CA.out.mono ?_;rintro e w1 ⟨rfl,b1⟩;have B1:=aac b1;have G1:=aac (HG.out.after b1);clear CA b1;go_wp2_with fail;refine(CR.out w1).mono ?_;rintro e w2 ⟨v2,rfl,e2,b2⟩;have B2:=aac (B1.out.trans (b2.mono B1.out.size));have G2:=aac (G1.out.after b2);obtain⟨A2,c2,hv⟩:=e2.slc;subst hv;have E2:=aac e2;clear CR e2 b2 G1 B1;go_wp2_with fail;refine(CE.out _ G2.out).mono ?_;rintro e w3 ⟨v3,rfl,e3,b3⟩;have e3:aax w3 w2.heap.size v3 l:=e3;obtain⟨n,hn⟩:∃ n,n=l.length:=⟨_,rfl⟩;have HM:Hid (n≤maxLen):=aac (by obtain⟨es,q1,q2,_⟩:=e3;rw[hn,← q1,List.length_map];exact afA q2);obtain⟨A3,c3,g,av,am,hv,hK⟩:=e3.kp;subst hv;rw[← hn] at hK ⊢;have HA:Hid (0 < n→A3=some ⟨g,0,none⟩):=aac fun h=>(hK h).1;have HE:Hid (0 < n→KpE w3 w2.heap.size g n av am):=aac fun h=>(hK h).2;have HL:=aac hn;have B3:=aac b3;clear e3 b3 hK hn hlen;go_wp2_with fail;go_loopw [9,10] (fun i _ wr=>a3L n g av am w2 i wr) (fun i _ _=>n - (intOf i).toNat);case atStart=>exact⟨0,rfl,Nat.zero_le _,B3,HE⟩
   case round=>
    clear HE B3;obtain⟨k,rfl,hk,HB,HE0⟩:=hrel;have hmx:=HM.out;unfold maxLen at hmx;by_cases hlt:k < n
    · have k1:(k:Int) < (n:Int):=(by omega);have k2:(0:Int)≤(k:Int):=(by omega);obtain rfl:=HA.out (by omega);have HE:=aac (HE0.out (by omega));obtain⟨⟨u0,c0⟩,f0,c3'⟩:=HE.out.c0 hlt;have HE1:=aac (HE.out.kind k (.int .i64 7));have HB1:=aac (HB.out.setCell (p:=⟨g,k * 5,none⟩) HE.out.low (.int .i64 7));have HLT:=aac hlt;clear HE0 HE HB c3' hlt;go_wp2_with fail;generalize wr.setCell ⟨g,k * 5,none⟩ (.int .i64 7)=V at *;clear c0 f0;have hf:=HE1.out.few k HLT.out;unfold maxLen at hf;obtain⟨m,hm⟩:∃ m,m=am k:=⟨_,rfl⟩;have hmm:m≤9223372036854775807:=(by omega);have HMK:=aac hm;clear hf hm;go_loopw [10] (fun i wr=>a3G n g m av am w2 i wr) (fun i _=>m - (intOf i).toNat);case atStart=>exact⟨0,rfl,Nat.zero_le _,HB1,HE1⟩
      case round=>
       clear HB1 HE1;obtain⟨j,rfl,hj,HB,HE⟩:=hrel;have c3:=(HE.out.c0 HLT.out).2.2;by_cases hjm:j < m
       · have j1:(j:Int) < (m:Int):=(by omega);have j2:(0:Int)≤(j:Int):=(by omega);obtain⟨ga,ck,e,⟨u,c5⟩,f5,hlo,hset⟩:=HE.out.c2 HLT.out (show j < am k by rw[← HMK.out];exact hjm);rw[e,← HMK.out] at c3;have HE2:=aac (hset (.string ⟨#[115,112,111,105,108,116]⟩));have HB2:=aac (HB.out.setCell (p:=⟨ga,j * 3+2,none⟩) hlo (.string ⟨#[115,112,111,105,108,116]⟩));clear e hlo hset HE HB;go_wp2;go_roundw;case rel=>exact⟨j+1,by go_num,by omega,HB2,HE2⟩
         case measure=>simp only[intOf];omega
       · have j1:¬ (j:Int) < (m:Int):=(by omega);obtain⟨Ak,ck,e⟩:=HE.out.sl HLT.out;rw[e,← HMK.out] at c3;clear e;go_wp2;go_roundw;case rel=>exact⟨k+1,by go_num,by omega,HB,aac fun _=>HE.out⟩
         case measure=>simp only[intOf];omega
    · have k1:¬ (k:Int) < (n:Int):=(by omega);have GR:=aac (G2.out.after HB.out);clear HE0 hmx;go_wp2_with fail;refine(CE.out _ GR.out).mono ?_;rintro e w5 ⟨v5,rfl,e5,b5⟩;obtain⟨A5,c5,hv⟩:=e5.slc;subst hv;rw[← HL.out]
      have r5:RdE w5 A5 l:=by
       obtain⟨A',c',q,r,_,_⟩:=e5.rde;injection q with q _ _
       rw[q];exact r
      have r2:RdE w5 A2 l:=by
       obtain⟨A',c',q,r,_,_⟩:=((E2.out.keep HB.out).keep b5).rde;injection q with q _ _
       rw[q];exact r
      have CS:=aac (aiJ l n A5 A2 c5 c2 w5 HL.out HM.out r5 r2);have B5:=aac (B2.out.trans ((HB.out.trans (b5.mono HB.out.size)).mono B2.out.size));clear CE e5 b5 r5 r2 E2 B2 G2 HG GR HB;go_wp2_with fail;refine CS.out.mono ?_;rintro e w6 ⟨rfl,b6⟩;have B6:=aac (B5.out.trans (b6.mono B5.out.size));clear CS b6 B5;go_wp2;go_ret;exact⟨rfl,B6.out⟩
 · have d6:(600:Int) < (s.size:Int):=(by omega);clear hG;go_enter Tryz.func8,Tryz.ntmps8;go_wp2_with fail;refine CA.out.mono ?_;rintro e w1 ⟨rfl,b1⟩;have CA2:=aac (acZ w1 (HG.out.after b1));go_wp2_with fail;refine CA2.out.mono ?_;rintro e w2 ⟨rfl,b2⟩;go_wp2;go_ret;exact⟨rfl,b1.trans (b2.mono b1.size)⟩
end Go.Proofs.YtnomcldpbkinmaaGreatDoor.Wl
