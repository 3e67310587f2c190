/- Lemmas of the claim. -/
import Derived.Test.YtnomcldpbkinmaaGreatDoorG21
import Derived.Test.YtnomcldpbkinmaaGreatDoorG33
import Derived.Test.YtnomcldpbkinmaaGreatDoorG24
import Derived.Test.YtnomcldpbkinmaaGreatDoorG26
import Derived.Deep.RegionHeld3
set_option maxHeartbeats 8000000
set_option maxRecDepth 100000
set_option linter.unusedSimpArgs false
set_option linter.unusedVariables false
namespace Go.Proofs.YtnomcldpbkinmaaGreatDoor.Wl
open Go.RowKit
def RdE (w:World)(A:Option Addr)(l:List Ev):Prop:=
 ∀ k x,l[k]?=some x→∃ b off Aa n c,A=some ⟨b,off,none⟩∧b < w.heap.size∧n=(azB x).length∧n≤maxLen∧Nz.Sc.RdT w Aa (azB x)∧w.cell? ⟨b,off+k * 5,none⟩=some (.int .i64 (kd x))∧w.cell? ⟨b,off+k * 5+1,none⟩=some (.string (sp x))∧w.cell? ⟨b,off+k * 5+2,none⟩=some (.string (lo x))∧w.cell? ⟨b,off+k * 5+3,none⟩=some (.slice Aa n c)∧w.cell? ⟨b,off+k * 5+4,none⟩=some (.string (tx x))
theorem RdE.keep {w w':World}{A:Option Addr}{l:List Ev}(h:RdE w A l)(hb:Below w.heap.size w w'):RdE w' A l:=fun k x hk=>by
 obtain⟨b,o,Aa,n,c,e,hlt,hn,hm,hr,c0,c1,c2,c3,c4⟩:=h k x hk;exact⟨b,o,Aa,n,c,e,Nat.lt_of_lt_of_le hlt hb.size,hn,hm,hr.keep hb,(hb.cell (p:=⟨b,o+k * 5,none⟩) hlt).trans c0,(hb.cell (p:=⟨b,o+k * 5+1,none⟩) hlt).trans c1,(hb.cell (p:=⟨b,o+k * 5+2,none⟩) hlt).trans c2,(hb.cell (p:=⟨b,o+k * 5+3,none⟩) hlt).trans c3,(hb.cell (p:=⟨b,o+k * 5+4,none⟩) hlt).trans c4⟩
theorem afA {W:World}{B:Nat}{e:TypeId}{z n:Nat}{v:Value}{xs:List Value}(h:W.ownsRow B e z v n xs):n≤maxLen:=by
 rcases h.2 with ⟨_,h0⟩ | ⟨g,cap,cur,q,hB,hh,h4,h5,_⟩
 · omega
 · omega
theorem ama {W:World}{B:Nat}{e:TypeId}{z n c:Nat}{A:Option Addr}{xs:List Value}(h:W.ownsRow B e z (.slice A n c) n xs):n≤c∧c≤maxLen:=by
 rcases h.2 with ⟨q,h0⟩ | ⟨g,cap,cur,q,hB,hh,h4,h5,_⟩
 · injection q with _ _ q3
   omega
 · injection q with _ _ q3
   omega
theorem aax.rde {W:World}{B:Nat}{v:Value}{l:List Ev}(h:aax W B v l):∃ A c,v=.slice A l.length c∧RdE W A l∧l.length≤c∧c≤maxLen:=by
 obtain⟨es,h1,h2,h3⟩:=h;have hl:es.length=l.length:=(by rw[← h1,List.length_map]);obtain⟨A,c,hv⟩:=Nz.Sc.aah h2;subst hv;refine⟨A,c,by rw[hl],fun k x hk=> ?_,by rw[← hl];exact ama h2⟩;rw[← h1,List.getElem?_map] at hk;obtain⟨y,hy,rfl⟩:=Option.map_eq_some_iff.1 hk;have hlt:=(List.getElem?_eq_some_iff.1 hy).1;have hO:=h3 y (List.mem_of_getElem? hy);obtain⟨Aa,ca,ea,ra,_⟩:=Nz.Sc.aqJ hO;rcases h2.2 with ⟨q,h0⟩ | ⟨g,cap,cur,q,hB,hh,hr⟩
 · omega
 injection q with q1 q2 q3
 subst q1;have cel:∀ i,i < 5→W.cell? ⟨g,k * 5+i,none⟩=(evC y)[i]?:=fun i hi=>(h2.cellAt (k * 5+i) (by omega)).trans (akH es k i y hy hi);refine⟨g,0,Aa,_,ca,rfl,(Array.getElem?_eq_some_iff.1 hh).1,rfl,afA hO,ra,?_,?_,?_,?_,?_⟩;all_goals rw[Nat.zero_add]
 · exact cel 0 (by omega)
 · exact cel 1 (by omega)
 · exact cel 2 (by omega)
 · refine(cel 3 (by omega)).trans ?_;show some y.2=_;rw[ea]
 · exact cel 4 (by omega)
structure Ev1 (W:World)(b o:Nat)(kx:Int)(na nb tx:ByteArray)(Aa:Option Addr)(n c:Nat):Prop where
 c0:W.cell? ⟨b,o,none⟩=some (.int .i64 kx)
 c1:W.cell? ⟨b,o+1,none⟩=some (.string na)
 c2:W.cell? ⟨b,o+2,none⟩=some (.string nb)
 c3:W.cell? ⟨b,o+3,none⟩=some (.slice Aa n c)
 c4:W.cell? ⟨b,o+4,none⟩=some (.string tx)
theorem Ev1.keep {W W':World}{b o:Nat}{kx:Int}{na nb tx:ByteArray}{Aa:Option Addr}{n c:Nat}(h:Ev1 W b o kx na nb tx Aa n c)(hb:Below W.heap.size W W')(hlt:b < W.heap.size):Ev1 W' b o kx na nb tx Aa n c:=
 ⟨(hb.cell (p:=⟨b,o,none⟩) hlt).trans h.c0,(hb.cell (p:=⟨b,o+1,none⟩) hlt).trans h.c1,(hb.cell (p:=⟨b,o+2,none⟩) hlt).trans h.c2,(hb.cell (p:=⟨b,o+3,none⟩) hlt).trans h.c3,(hb.cell (p:=⟨b,o+4,none⟩) hlt).trans h.c4⟩
def a1N (n:Nat)(w:World)(i:Value)(wr:World):Prop:=∃ k:Nat,i=.int .i64 k∧k≤n∧Hid (Below w.heap.size w wr)
theorem aiJ (l:List Ev)(n:Nat)(A1 A2:Option Addr)(k1 k2:Nat)(w:World)(hn:n=l.length)(hl:n≤maxLen)(h1:RdE w A1 l)(h2:RdE w A2 l):
 Calls Tryz.prog 12 #[.slice A1 n k1,.slice A2 n k2] w fun e w'=>e=.returned (.bool true)∧Below w.heap.size w w':=by
 have H1:=aac h1;have H2:=aac h2;have HN:=aac hn;unfold maxLen at hl;clear h1 h2 hn;go_enter Tryz.func12,Tryz.ntmps12;go_wp2_with fail;go_loopw [5] (fun i wr=>a1N n w i wr) (fun i _=>n - (intOf i).toNat);case atStart=>exact⟨0,rfl,Nat.zero_le _,aac (Below.refl _ _)⟩
 case round=>
  obtain⟨k,rfl,hk,hB⟩:=hrel;by_cases hlt:k < n
  · have hkl:k < l.length:=by rw[← HN.out];exact hlt
    obtain⟨b1,o1,Aa1,m1,d1,rfl,hb1,e1,hm1,r1,x0,x1,x2,x3,x4⟩:=(H1.out.keep hB.out) k _ (List.getElem?_eq_getElem hkl);obtain⟨b2,o2,Aa2,m2,d2,rfl,hb2,e2,hm2,r2,y0,y1,y2,y3,y4⟩:=(H2.out.keep hB.out) k _ (List.getElem?_eq_getElem hkl);have g1:(k:Int) < (n:Int):=(by omega);have g0:(0:Int)≤(k:Int):=(by omega);obtain rfl:m1=m2:=(by rw[e1,e2]);generalize l[k]=x at *;have CS:Hid (∀ W,Below wr.heap.size wr W→Calls Tryz.prog 24 #[.agg #[.int .i64 (kd x),.string (sp x),.string (lo x),.slice Aa1 m1 d1,.string (tx x)],.agg #[.int .i64 (kd x),.string (sp x),.string (lo x),.slice Aa2 m1 d2,.string (tx x)]] W fun e w'=>e=.returned (.bool true)∧Below W.heap.size W w'):=aac fun W hW=>Nz.Sc.ayI (kd x) (sp x) (lo x) (tx x) (azB x) m1 Aa1 Aa2 d1 d2 W e1 hm1 (r1.keep hW) (r2.keep hW);have HX:=aac (⟨x0,x1,x2,x3,x4⟩:Ev1 wr b1 (o1+k * 5) (kd x) (sp x) (lo x) (tx x) Aa1 m1 d1);have HY:=aac (⟨y0,y1,y2,y3,y4⟩:Ev1 wr b2 (o2+k * 5) (kd x) (sp x) (lo x) (tx x) Aa2 m1 d2);have HL1:=aac hb1;have HL2:=aac hb2;clear e1 e2 r1 r2 hm1 hm2 hkl hb1 hb2;generalize kd x=xk at *;generalize sp x=xs at *;generalize lo x=xl at *;generalize tx x=xt at *;clear x;have X1:=aac (HX.out.keep (Below.refl _ wr).drew HL1.out);have Y1:=aac (HY.out.keep (Below.refl _ wr).drew HL2.out);go_wp2_with fail
    go_region_held3 (fun W=>(W.cell? ⟨b1,o1+k * 5,none⟩=some (.int .i64 xk)∧W.cell? ⟨b1,o1+k * 5+1,none⟩=some (.string xs)∧W.cell? ⟨b1,o1+k * 5+2,none⟩=some (.string xl)∧W.cell? ⟨b1,o1+k * 5+3,none⟩=some (.slice Aa1 m1 d1)∧W.cell? ⟨b1,o1+k * 5+4,none⟩=some (.string xt))∧W.cell? ⟨b2,o2+k * 5,none⟩=some (.int .i64 xk)∧W.cell? ⟨b2,o2+k * 5+1,none⟩=some (.string xs)∧W.cell? ⟨b2,o2+k * 5+2,none⟩=some (.string xl)∧W.cell? ⟨b2,o2+k * 5+3,none⟩=some (.slice Aa2 m1 d2)∧W.cell? ⟨b2,o2+k * 5+4,none⟩=some (.string xt))
     (first | with_reducible exact⟨⟨X1.out.c0,X1.out.c1,X1.out.c2,X1.out.c3,X1.out.c4⟩,Y1.out.c0,Y1.out.c1,Y1.out.c2,Y1.out.c3,Y1.out.c4⟩ | with_reducible exact⟨⟨X2.out.c0,X2.out.c1,X2.out.c2,X2.out.c3,X2.out.c4⟩,Y2.out.c0,Y2.out.c1,Y2.out.c2,Y2.out.c3,Y2.out.c4⟩ | fail)
     (first | (go_at_call 24;refine(CS.out _ (Below.refl _ wr).drew).mono ?_;rintro e w2 ⟨rfl,hb⟩;have X2:=aac (HX.out.keep ((Below.refl _ wr).drew.trans hb) HL1.out);have Y2:=aac (HY.out.keep ((Below.refl _ wr).drew.trans hb) HL2.out);have B2:=aac (hB.out.trans (((Below.refl _ wr).drew.trans hb).mono hB.out.size));clear hb) | fail)
    go_wp2;go_roundw;case rel=>exact⟨k+1,by go_num,by omega,B2⟩
    case measure=>simp only[intOf];omega
  · have g1:¬ (k:Int) < (n:Int):=(by omega);go_wp2_with fail;go_ret;exact⟨rfl,hB.out⟩
end Go.Proofs.YtnomcldpbkinmaaGreatDoor.Wl
namespace Go.Proofs.YtnomcldpbkinmaaGreatDoor.Wl
open Go.RowKit
def auH (B:Nat)(x:St × List Ev × Int)(w:World)(e:Ending)(w':World):Prop:=
 ∃ vn vs zs v,e=.returned (.tuple #[.agg (stC vn vs x.1),v,.int .i64 x.2.2])∧aax w' w.heap.size v x.2.1∧DW B vn vs zs x.1 w'∧Below w.heap.size w w'
theorem aso {w:World}{B g c n:Nat}{e:TypeId}{xs:List Value}(h:w.ownsRow B e 1 (.slice (some ⟨g,0,none⟩) (n+1) c) (n+1) xs):w.ownsRow B e 1 (.slice (some ⟨g,0,none⟩) n c) n xs.dropLast:=by
 obtain⟨h1,h2⟩:=h;rcases h2 with ⟨h2,_⟩ | ⟨g',cap,cur,q,hB,hh,h3,h4,h5,h6⟩
 · cases h2
 injection q with q1 q2 q3
 injection q1 with q1
 injection q1 with q1
 subst q1 q3;refine⟨by rw[List.length_dropLast,h1];omega,.inr ⟨g,c,cur,rfl,hB,hh,by omega,h4,h5,?_⟩⟩;rw[← h6,List.dropLast_eq_take,List.length_take,List.take_take]
 congr 1
 rw[Array.length_toList];omega
theorem a1U {B gn gs c1 c2 k:Nat}{zs:List Value}{s t:St}{W:World}(h:DW B (.slice (some ⟨gn,0,none⟩) (k+1) c1) (.slice (some ⟨gs,0,none⟩) (k+1) c2) zs s W)(hn:s.op.length=k+1)(ht:t.op=s.op.dropLast):
 DW B (.slice (some ⟨gn,0,none⟩) k c1) (.slice (some ⟨gs,0,none⟩) k c2) zs.dropLast t W:=by
 have h1:=h.nm;have h2:=h.sc;rw[hn] at h1 h2;have hl:t.op.length=k:=by rw[ht,List.length_dropLast,hn];omega
 refine⟨?_,?_,fun j v x g1 g2=> ?_⟩
 · rw[hl,ht,List.map_dropLast];exact aso h1
 · rw[hl];exact aso h2
 · rw[ht] at g2;rw[List.getElem?_dropLast] at g1 g2;split at g1
   · split at g2
     · exact h.ow j v x g1 g2
     · cases g2
   · cases g1
theorem DB.grown {w W W':World}{sc tk:Array Value}(h:DB w sc tk W){B z n:Nat}{v:Value}{xs:List Value}(ho:W.ownsRow B 50 z v n xs)(hB:w.heap.size≤B)(hg:W.grownBy W' v.ownBlock):DB w sc tk W':=
 ⟨(hg.block _ (Array.getElem?_eq_some_iff.1 h.st).1 (fun e=>Nz.Sc.own_ne ho h.st (by decide) e.symm)).trans h.st,(hg.block _ (Array.getElem?_eq_some_iff.1 h.tk).1 (fun e=>Nz.Sc.own_ne ho h.tk (by decide) e.symm)).trans h.tk,(hg.block _ h.lt (fun e=>Nz.Sc.own_ne ho h.rs (by decide) e.symm)).trans h.rs,
   h.bel.grown hg h.bel.size (fun j hj=>Nat.le_trans hB (World.ownsRow.lt ho j hj).1)⟩
theorem DW.grown {B:Nat}{vn vs:Value}{zs:List Value}{s:St}{w w':World}(h:DW B vn vs zs s w){B' z n:Nat}{v:Value}{xs:List Value}(ho:w.ownsRow B' 50 z v n xs)(hg:w.grownBy w' v.ownBlock):DW B vn vs zs s w':=
 ⟨aaZ h.nm ho hg (by decide),aaZ h.sc ho hg (by decide),fun k v x h1 h2=>aaZ (h.ow k v x h1 h2) ho hg (by decide)⟩
theorem aax.only {W W':World}{B b:Nat}{v:Value}{l:List Ev}{cs:Array Value}{T:TypeId}{fr:Nat × Nat}(h:aax W B v l)(hg:W.grownBy W' (some b))(hb:W.heap[b]?=some (.cells cs T fr))(h1:T≠50)(h2:T≠59):aax W' B v l:=by
 obtain⟨es,a,b,c⟩:=h;exact⟨es,a,World.ownsRow.kept b hg (.inr (Nz.Sc.own_ne b hb h1)),fun x hx=>World.ownsRow.kept (c x hx) hg (.inr (Nz.Sc.own_ne (c x hx) hb h2))⟩
theorem avA {w W:World}{B:Nat}{sc tk:Array Value}{v:Value}{l:List Ev}{vn vs:Value}{zs:List Value}{s:St}(hD:DB w sc tk W)(hE:aax W w.heap.size v l)(hW:DW B vn vs zs s W)(j1 j2 j3:Nat)(u1 u2 u3 x0 x1 x2 x3 x4 x5:Value):
 (aeg (((W.setCell ⟨w.heap.size,j1,none⟩ u1).setCell ⟨w.heap.size,j2,none⟩ u2).setCell ⟨w.heap.size,j3,none⟩ u3) (w.heap.size+1+1) x0 x1 x2 x3 x4 x5).heap[w.heap.size+1+1]?=some (.cells #[x0,x1,x2,x3,x4,x5] 38 (0,0))∧
 aax (aeg (((W.setCell ⟨w.heap.size,j1,none⟩ u1).setCell ⟨w.heap.size,j2,none⟩ u2).setCell ⟨w.heap.size,j3,none⟩ u3) (w.heap.size+1+1) x0 x1 x2 x3 x4 x5) w.heap.size v l∧
 DW B vn vs zs s (aeg (((W.setCell ⟨w.heap.size,j1,none⟩ u1).setCell ⟨w.heap.size,j2,none⟩ u2).setCell ⟨w.heap.size,j3,none⟩ u3) (w.heap.size+1+1) x0 x1 x2 x3 x4 x5)∧
 Below w.heap.size w (aeg (((W.setCell ⟨w.heap.size,j1,none⟩ u1).setCell ⟨w.heap.size,j2,none⟩ u2).setCell ⟨w.heap.size,j3,none⟩ u3) (w.heap.size+1+1) x0 x1 x2 x3 x4 x5):=by
 have hne:w.heap.size+1+1≠w.heap.size:=(by omega);have g:=agH (agH (agk W w.heap.size j1 u1) (agk _ w.heap.size j2 u2)) (agk _ w.heap.size j3 u3);have hr:(((W.setCell ⟨w.heap.size,j1,none⟩ u1).setCell ⟨w.heap.size,j2,none⟩ u2).setCell ⟨w.heap.size,j3,none⟩ u3).heap[w.heap.size+1+1]?=_:=((aap hne).trans ((aap hne).trans (aap hne))).trans hD.rs;have hE2:=hE.only g hD.st (by decide) (by decide);have hW2:=hW.only (row:=none) g hD.st (by decide) (by decide) (by decide);have hb:Below w.heap.size w (((W.setCell ⟨w.heap.size,j1,none⟩ u1).setCell ⟨w.heap.size,j2,none⟩ u2).setCell ⟨w.heap.size,j3,none⟩ u3):=((hD.bel.setCell (p:=⟨w.heap.size,j1,none⟩) (Nat.le_refl _) _).setCell (p:=⟨w.heap.size,j2,none⟩) (Nat.le_refl _) _).setCell (p:=⟨w.heap.size,j3,none⟩) (Nat.le_refl _) _;generalize ((W.setCell ⟨w.heap.size,j1,none⟩ u1).setCell ⟨w.heap.size,j2,none⟩ u2).setCell ⟨w.heap.size,j3,none⟩ u3=V at *;have g6:=awE V (w.heap.size+1+1) x0 x1 x2 x3 x4 x5;exact⟨akG hr _ _ _ _ _ _,hE2.only g6 hr (by decide) (by decide),hW2.only (row:=none) g6 hr (by decide) (by decide) (by decide),akB hb (by omega) _ _ _ _ _ _⟩
section
variable {A1 A2:Option Addr} {n c1 c2:Nat} {rt ov:Bool} {u m:ByteArray} {er k:Int} {em bk:Bool} {w:World}
theorem a0N {B gn gs kn:Nat}{zs:List Value}{s:St}(hkn:kn≤100)(hW:DW B (.slice (some ⟨gn,0,none⟩) (kn+1) c1) (.slice (some ⟨gs,0,none⟩) (kn+1) c2) zs s w)(hn:s.op.length=kn+1)(hwt:s.wait=u)(hrt:s.root=rt)(hov:s.over=false)(her:s.err=0)(hlt:gn < w.heap.size)(hx:w.cell? ⟨gn,kn,none⟩=some (.string m))(hin:inner s=some m):
 Calls Tryz.prog 16 #[.agg #[.slice (some ⟨gn,0,none⟩) (kn+1) c1,.slice (some ⟨gs,0,none⟩) (kn+1) c2,.bool rt,.string u,.bool false,.int .i64 0],.agg #[.int .i64 2,.string m,.bool em,.bool bk]] w (auH B (adR s ⟨2,m,em,bk⟩) w):=by
 obtain⟨i0,hi,hz0,hz1,hz2⟩:=info_parts Tryz.info50;have hX:adR s ⟨2,m,em,bk⟩=({ s with wait:=Nz.em,op:=s.op.dropLast },aaX s.wait++[.cls],0):=by unfold adR;rw[if_pos hin]
 rw[hX];have hc1:=ama (by have:=hW.nm;rw[hn] at this;exact this);have hc2:=ama (by have:=hW.sc;rw[hn] at this;exact this);have HW:=aac hW;have HN:=aac hn;have HS:Hid (s.wait=u∧s.root=rt∧s.over=false∧s.err=0):=aac ⟨hwt,hrt,hov,her⟩;have H0:=aac (db0 w #[.slice (some ⟨gn,0,none⟩) (kn+1) c1,.slice (some ⟨gs,0,none⟩) (kn+1) c2,.bool rt,.string u,.bool false,.int .i64 0] #[.int .i64 2,.string m,.bool em,.bool bk]);have hb:=al3 w (.cells #[.slice (some ⟨gn,0,none⟩) (kn+1) c1,.slice (some ⟨gs,0,none⟩) (kn+1) c2,.bool rt,.string u,.bool false,.int .i64 0] 38) (.cells #[.int .i64 2,.string m,.bool em,.bool bk] 42) (.cells #[.slice none 0 0,.slice none 0 0,.bool false,.string ⟨#[]⟩,.bool false,.int .i64 0] 38);have x1:=(hb.cell (p:=⟨gn,kn,none⟩) hlt).trans hx;have HW0:=aac (hW.keep hb);have t2:(m.toList != m.toList)=false:=bne_self_eq_false _;have t3:(m.toList == m.toList)=true:=beq_self_eq_true _;have hk1:=hc1.1;have hk2:=hc2.1;have hk3:=hc1.2;have hk4:=hc2.2;unfold maxLen at hk3 hk4;clear hx hb hX hwt hrt hov her hin hW hn hc1 hc2;go_enter Tryz.func16,Tryz.ntmps16;go_wp2_with fail;have qa:((kn:Int)+1 == 0)=false:=by rw[beq_eq_false_iff_ne];omega
 have q7:IntKind.i64.wrap (kn:Int)=(kn:Int):=IntWalk.i64_in _ (by omega);have q3:(0:Int)≤(kn:Int):=(by omega);have q8:(kn:Int) < (kn:Int)+1:=(by omega);have q9:kn < kn+1:=(by omega);go_quiet (fail);clear q7;go_wp2_with fail;have HD0:=aac (H0.out.keep (below_drewN (Below.refl _ _) nq));have HW1:=aac (HW0.out.keep (below_drewN (Below.refl _ _) nq));refine(agP (some ⟨gn,0,none⟩) (some ⟨gs,0,none⟩) (kn+1) c1 (kn+1) c2 rt false u 0 _).mono ?_;rintro e wt ⟨vt,rfl,et,bt⟩;have HD1:=aac (HD0.out.keep bt);have HW2:=aac (HW1.out.keep bt);obtain⟨ts,t1,to2,to3⟩:=et;have hlt0:=HD0.out.lt;have tl:=acN u;rw[← t1,List.length_map] at tl;have hA:=(Below.refl wt.heap.size wt).alloc (Nat.le_refl _) (.cells #[.int .i64 3,.string ⟨#[]⟩,.string ⟨#[]⟩,.slice none 0 0,.string ⟨#[]⟩] 50);have HD2:=aac (HD1.out.keep hA);have HW3:=aac (HW2.out.keep hA);have ho5:=aam (Nz.Sc.aai to2 hA) (show w.heap.size≤_ by omega);have hO5:=aac ((to3.frm (Frm.of_below hA)).mono (show w.heap.size≤_ by omega));have hnew:=aac (Nz.Sc.aaM wt #[.int .i64 3,.string ⟨#[]⟩,.string ⟨#[]⟩,.slice none 0 0,.string ⟨#[]⟩] 50);have hz5:w.heap.size≤(wt.alloc (.cells #[.int .i64 3,.string ⟨#[]⟩,.string ⟨#[]⟩,.slice none 0 0,.string ⟨#[]⟩] 50)).heap.size:=HD2.out.bel.size;have HT:=aac t1;obtain⟨A3,c3,rfl⟩:=Nz.Sc.aah to2;obtain⟨nt,hnt⟩:∃ nt,nt=ts.length:=⟨_,rfl⟩;have HNT:=aac hnt;rw[← hnt] at tl ho5 ⊢;clear t1 to2 to3 hnt hA bt HD0 HD1 HW0 HW1 HW2 H0 hlt0 x1;go_wp2_with (at_builtin;refine wpList_append_own _ rfl _ _ 23 rfl w.heap.size 50 i0 (.agg #[.int .i64 0,.string ⟨#[]⟩,.string ⟨#[]⟩,.slice none 0 0,.string ⟨#[]⟩]) 5 80 Tryz.underlying23 hi hz0 hz1 hz2 rfl (by decide) _ nt (evL ts) rfl ho5 ⟨wt.heap.size,0,none⟩ 1 1 [.int .i64 3,.string ⟨#[]⟩,.string ⟨#[]⟩,.slice none 0 0,.string ⟨#[]⟩] rfl rfl hnew.out agW (by unfold maxLen;omega) (by omega) hz5 ?_);intro v' w5 hown' hgrow _;obtain⟨g',cap',rfl⟩:=Nz.Sc.aas hown';rw[HNT.out] at ho5 hown' hgrow;have he6:=ahl (x:=.cls) (va:=.slice none 0 0) HT.out ho5 hO5.out (ads _ _) hgrow hown';rw[← HNT.out] at he6;have HE:=aac he6;have HD:=aac (HD2.out.grown ho5 (Nat.le_refl _) hgrow);have HWf:=aac (HW3.out.grown ho5 hgrow);clear he6 ho5 hO5 hown' hgrow HD2 HW3 hnew;obtain⟨y0,y1,y2,y3,y4,y5⟩:=Nz.Sc.cells6 HD.out.st;have f0:=Nz.Sc.aaj HD.out.st 0;have f1:=Nz.Sc.aaj HD.out.st 1;have f3:=Nz.Sc.aaj HD.out.st 3;obtain⟨z0,z1,z2,z3,z4,z5⟩:=Nz.Sc.cells6 HD.out.rs;obtain⟨g0,g1,g2,g3,g4,g5⟩:=Nz.Sc.adi HD.out.rs;have d5:(kn:Int)≤(c1:Int):=(by omega);have d6:(kn:Int)≤(c2:Int):=(by omega);have d7:IntKind.i64.wrap ((kn:Int)+1 - 1)=(kn:Int):=by rw[IntWalk.i64_in _ (by omega)];omega
 go_wp2;obtain⟨hs,e7,w7,b7⟩:=avA HD.out HE.out (a1U HWf.out HN.out (t:={ s with wait:=Nz.em,op:=s.op.dropLast }) rfl) 3 0 1 (.string ⟨#[]⟩) (.slice (some ⟨gn,0,none⟩) kn c1) (.slice (some ⟨gs,0,none⟩) kn c2) (.slice (some ⟨gn,0,none⟩) kn c1) (.slice (some ⟨gs,0,none⟩) kn c2) (.bool rt) (.string ⟨#[]⟩) (.bool false) (.int .i64 0);have HSS:=aac hs;obtain⟨r0,r1,r2,r3,r4,r5⟩:=Nz.Sc.cells6 HSS.out;refine bodyPost_ret (v:=.tuple #[.agg #[.slice (some ⟨gn,0,none⟩) kn c1,.slice (some ⟨gs,0,none⟩) kn c2,.bool rt,.string ⟨#[]⟩,.bool false,.int .i64 0],.slice (some ⟨g',0,none⟩) (nt+1) cap',.int .i64 0]) (by simp[results,Tryz.results16,go_sem,r0,r1,r2,r3,r4,r5]) rfl ⟨_,_,zs.dropLast,.slice (some ⟨g',0,none⟩) (nt+1) cap',?_,?_,w7,b7⟩
 · unfold stC;dsimp only;rw[HS.out.2.1,HS.out.2.2.1,HS.out.2.2.2];rfl
 · dsimp only;rw[HS.out.1];exact e7
end
end Go.Proofs.YtnomcldpbkinmaaGreatDoor.Wl
