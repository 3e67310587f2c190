/- Lemmas of the claim. -/
import Derived.Test.YtiaebhomfebagaaGreatDoorG17
import Derived.Test.YtiaebhomfebagaaGreatDoorG16
set_option maxHeartbeats 8000000
set_option maxRecDepth 100000
set_option linter.unusedSimpArgs false
set_option linter.unusedVariables false
namespace Go.Proofs.YtiaebhomfebagaaGreatDoor.Wl
open Go.RowKit
section
variable {B rb:Nat} {vw vo:Value} {es:List OpP} {s:St} {w w':World}
structure BX (B:Nat)(w:World)(tk:Array Value)(tb:Nat)(tg:Array Value)(b:Nat)(ev:Array Value)(vW:Value)(Ws:List Pr)(vF:Value)(ff:List Tr)(W:World):Prop where
 frm:Frm w W
 bel:Below B w W
 tok:W.heap[w.heap.size]?=some (.cells tk 44 (0,0))
 tag:W.heap[tb]?=some (.cells tg 96 (0,0))
 ev:W.heap[b]?=some (.cells ev 54 (0,0))
 pb:Nz.Sc.agQ 164 W w.heap.size vW Ws
 at_:Nz.Sc.apz W w.heap.size vF ff
 siz:B≤w.heap.size
section
variable {tk tg ev:Array Value} {tb b:Nat} {vW vF:Value} {Ws:List Pr} {ff:List Tr} {W W':World}
theorem BX.size (h:BX B w tk tb tg b ev vW Ws vF ff W):w.heap.size≤W.heap.size:=Nat.le_of_lt (Array.getElem?_eq_some_iff.1 h.tok).1
theorem BX.a4B (h:BX B w tk tb tg b ev vW Ws vF ff W)(hf:Frm W W')(hb:Below B W W'):BX B w tk tb tg b ev vW Ws vF ff W':=
 ⟨h.frm.trans hf,h.bel.trans hb,hf _ _ _ _ h.tok (by decide) (by decide) (by decide),hf _ _ _ _ h.tag (by decide) (by decide) (by decide),hf _ _ _ _ h.ev (by decide) (by decide) (by decide),acP h.pb hf (by decide) (by decide) (by decide),acP h.at_ hf (by decide) (by decide) (by decide),h.siz⟩
theorem BX.keep (h:BX B w tk tb tg b ev vW Ws vF ff W)(hb:Below W.heap.size W W'):BX B w tk tb tg b ev vW Ws vF ff W':=h.a4B (Frm.of_below hb) (hb.mono (Nat.le_trans h.siz h.size))
theorem BX.app (h:BX B w tk tb tg b ev vW Ws vF ff W){S n:Nat}{v:Value}{xs:List Value}(ho:W.ownsRow S 54 5 v n xs)(hS:b < S)(hw:w.heap.size≤S)(hg:W.grownBy W' v.ownBlock):BX B w tk tb tg b ev vW Ws vF ff W':=
 ⟨h.frm.fresh h.size (aam ho hw) hg,h.bel.grown hg (Nat.le_trans h.siz h.size) (fun j hj=>Nat.le_trans (Nat.le_trans h.siz hw) (World.ownsRow.lt ho j hj).1),(hg.block _ (Array.getElem?_eq_some_iff.1 h.tok).1 (fun e=>Nz.Sc.own_ne ho h.tok (by decide) e.symm)).trans h.tok,
  (hg.block _ (Array.getElem?_eq_some_iff.1 h.tag).1 (fun e=>Nz.Sc.own_ne ho h.tag (by decide) e.symm)).trans h.tag,(hg.block _ (Array.getElem?_eq_some_iff.1 h.ev).1 (fun e=>by have:=(World.ownsRow.lt ho b e.symm).1;omega)).trans h.ev,abB h.pb ho hg (by decide),abB h.at_ ho hg (by decide),h.siz⟩
theorem SA.bx {nm:ByteArray}{A2:Option Addr}{M c2:Nat}{R:List Pr}(h:SA B rb vw vo es s w tk tb nm A2 M c2 R W)(he:W.heap[b]?=some (.cells ev 54 (0,0)))(hp:Nz.Sc.agQ 164 W w.heap.size vW Ws)(ht:Nz.Sc.apz W w.heap.size vF ff)(hB:B≤w.heap.size):BX B w tk tb #[.string nm,.slice A2 M c2] b ev vW Ws vF ff W:=
 ⟨h.frm,h.bel,h.tok,h.tag,he,hp,ht,hB⟩
theorem a4u {a0 a1 a2 a3 a4:Value}(h:BX B w tk tb tg b #[a0,a1,a2,a3,a4] vW Ws vF ff W):W.cell? ⟨b,0,none⟩=some a0∧W.cell? ⟨b,1,none⟩=some a1∧W.cell? ⟨b,2,none⟩=some a2∧W.cell? ⟨b,3,none⟩=some a3∧W.cell? ⟨b,4,none⟩=some a4:=
 ⟨Nz.Sc.aaf h.ev 0 rfl,Nz.Sc.aaf h.ev 1 rfl,Nz.Sc.aaf h.ev 2 rfl,Nz.Sc.aaf h.ev 3 rfl,Nz.Sc.aaf h.ev 4 rfl⟩
theorem a5V {na nb u:ByteArray}{AF:Option Addr}{nF cF S:Nat}{v v7:Value}{ts:List EvP}(h:BX B w tk tb tg b ev vW Ws (.slice AF nF cF) ff W)(h1:ts.map (·.1)=aaH u)(ho:W.ownsRow S 54 5 v ts.length (evL ts))(hS:w.heap.size≤S)(hO:EvO W w.heap.size ts)(hg:W.grownBy W' v.ownBlock)
 (hn:W'.ownsRow S 54 5 v7 (ts.length+1) (evL ts++[.int .i64 1,.string na,.string nb,.slice AF nF cF,.string ⟨#[]⟩])):abv W' w.heap.size v7 (aaH u++[.opn (na,nb) ff]):=
 aoP (x:=.opn (na,nb) ff) (va:=.slice AF nF cF) h1 (aam ho hS) hO h.at_ hg (aam hn hS)
end
theorem a1q {W:World}{e:TypeId}{z n m c S:Nat}{A:Option Addr}{xs:List Value}(h:W.ownsRow S e z (.slice A n c) m xs):n=m:=by
 obtain⟨A',c',q⟩:=Nz.Sc.aai h;injection q
theorem a2S {W:World}{a:Nat}{cs:Array Value}{T:TypeId}{fr:Nat × Nat}(h:W.heap[a]?=some (.cells cs T fr)):∀ j u,cs.toList[j]?=some u→W.cell? ((⟨a,0,none⟩:Addr).add j)=some u:=fun j u hu=>by
 rw[Addr.add_lit,Nat.zero_add,Lib.cell_of_heap h]
 simpa using hu
theorem arW (na nb:ByteArray)(A:Option Addr)(n c:Nat):∀ u∈([.int .i64 1,.string na,.string nb,.slice A n c,.string ⟨#[]⟩]:List Value),u.oneCell'=true:=aky (x:=(.opn (na,nb) [],.slice A n c)) ⟨_,_,_,rfl⟩
theorem RW.push {W w9:World}(h:RW B rb vw vo es s W){v' vW:Value}{nm:ByteArray}{Ws:List Pr}(hW:Nz.Sc.agQ 164 W B vW Ws)(ho:w9.ownsRow B 106 2 v' (es.length+1) (opL es++[.string nm,vW]))(hg:W.grownBy w9 vo.ownBlock):
 w9.heap[rb]?=some (.cells #[vw,vo,.bool s.root,.bool s.over,.int .i64 s.err] 62 (0,0))∧RW B rb vw v' (es++[((nm,Ws),vW)]) { s with op:=s.op++[(nm,Ws)] } (w9.setCell ⟨rb,1,none⟩ v')∧Frm W (w9.setCell ⟨rb,1,none⟩ v')∧Below B W (w9.setCell ⟨rb,1,none⟩ v'):=by
 have b2:=(hg.block rb h.lt (fun e=>Nz.Sc.own_ne h.op h.blk (by decide) e.symm)).trans h.blk;have hf:=Frm.grown hg h.op (.inr (.inr rfl));have hs:=Frm.set b2 (.inr (.inl rfl)) 1 v';have hb:Below B W w9:=(Below.refl B W).grown hg h.siz (fun k hk=>(World.ownsRow.lt h.op k hk).1);refine⟨b2,⟨h.lo,by rw[abF b2];rfl,Wl.aar (abB h.wt h.op hg (by decide)) b2 (by decide) 1 v',by rw[List.map_append,h.eq];rfl,?_,?_,by simpa [World.setCell] using Nat.le_trans h.siz hg.size⟩,hf.trans hs,hb.setCell (p:=⟨rb,1,none⟩) h.lo v'⟩
 · refine Wl.aar ?_ b2 (by decide) 1 v';rw[aqM,List.length_append];exact ho
 · intro x hx;rcases List.mem_append.1 hx with hx | hx
   · exact acP (acP (h.own x hx) hf (by decide) (by decide) (by decide)) hs (by decide) (by decide) (by decide)
   · rw[List.mem_singleton] at hx;subst hx;exact acP (acP hW hf (by decide) (by decide) (by decide)) hs (by decide) (by decide) (by decide)
theorem Tryz.info106:(Tryz.prog.info? 106).map (fun i=>(i.zero,i.size,i.bytes))=some (some (.agg #[.string ⟨#[]⟩,.slice none 0 0]),2,40):=by kernel_rfl
theorem a1F (nm:ByteArray)(A:Option Addr)(n c:Nat):∀ u∈([.string nm,.slice A n c]:List Value),u.oneCell'=true:=by
 intro u hu;simp only[List.mem_cons,List.not_mem_nil,or_false] at hu;rcases hu with rfl | rfl <;> rfl
theorem ang (h:RW B rb vw vo es s w)(hG:Gl w)(he:s.err=0)(k:Int)(m:ByteArray)(em bk:Bool)(hm:m.size≤2000000000)(hgd:Gd s)(hr:¬ (s.root=true∧s.op=[]))(hp:(Tg.aaE m).1=0)(Ws:List Pr)(na nb:ByteArray)(ff:List Tr)(ho:Nz.Sc.afq (acI s) (Tg.aaE m).2.1 (Tg.aaE m).2.2=.ok (Ws,(na,nb),ff))(h64:s.op.length < 64):
 Calls Tryz.prog 32 #[.pointer (some ⟨rb,0,none⟩),.agg #[.int .i64 k,.string m,.bool em,.bool bk]] w (TkP B rb (aan s ⟨k,m,em,bk⟩) (clr (aan s ⟨k,m,em,bk⟩).1) w):=by
 obtain⟨i0,hi,hz0,hz1,hz2⟩:=info_parts Tryz.info54;have HW:=aac h;have HR:=aac (h.box (.cells #[.int .i64 k,.string m,.bool em,.bool bk] 44));have CD:=aac (aaI HR.out);have HXt:Hid (em=true→aan s ⟨k,m,em,bk⟩=({ s with wait:=Nz.em,root:=true },aaH s.wait++[.opn (na,nb) ff,.cls],0)):=aac (fun e=>by subst e;unfold aan;rw[if_neg hr,if_neg (Decidable.not_not.2 hp),ho];show (if 64≤s.op.length then _ else _)=_;rw[if_neg (by omega)];rfl);have HXf:Hid (em=false→aan s ⟨k,m,em,bk⟩=({ s with wait:=Nz.em,root:=true,op:=s.op++[((Tg.aaE m).2.1,Ws)] },aaH s.wait++[.opn (na,nb) ff],0)):=aac (fun e=>by subst e;unfold aan;rw[if_neg hr,if_neg (Decidable.not_not.2 hp),ho];show (if 64≤s.op.length then _ else _)=_;rw[if_neg (by omega)];rfl);have CP:=aac (Tg.adN m (w.alloc (.cells #[.int .i64 k,.string m,.bool em,.bool bk] 44)) (hG.alloc _).vars (by omega));have c2:=HR.out.c2
 have hq:s.root=true→((s.op.length:Int) == 0)=false:=fun e=>by
  rw[beq_eq_false_iff_ne];intro e2;exact hr ⟨e,List.eq_nil_of_length_eq_zero (by omega)⟩
 obtain⟨pl1,pl2,pl3,pl4⟩:=aiH hp hm;obtain⟨sl1,sl2⟩:=hgd.scp;have hdp:=hgd.dep;have CB:Hid (∀ W,RW B rb vw vo es s W→Calls Tryz.prog 50 #[.pointer (some ⟨rb,0,none⟩)] W (fun e w'=>∃ v,e=.returned v∧Nz.Sc.agQ 164 w' B v (acI s)∧Below W.heap.size W w')):=aac fun W hW=>aeT hW hgd.dep
 have CE:Hid (∀ (W:World) (v:Value) (A2:Option Addr) (M c2:Nat),Nz.Sc.agQ 164 W B v (acI s)→Nz.Sc.RdR W A2 (Tg.aaE m).2.2→M=(Tg.aaE m).2.2.length→Calls Tryz.prog 49 #[v,.agg #[.string (Tg.aaE m).2.1,.slice A2 M c2]] W (Nz.Sc.aez W (Nz.Sc.afq (acI s) (Tg.aaE m).2.1 (Tg.aaE m).2.2))):=aac fun W v A2 M c2 hv hR hM=>by
  obtain⟨A,c,hv1,hv2,_⟩:=Nz.Sc.abI hv;rw[hv1];exact Nz.Sc.agM c c2 ⟨rfl,hM,by omega,by omega,pl1,sl2,pl3,pl4,hv2,hR⟩
 rw[ho] at CE;clear h hr hG pl1 pl3 pl4 sl1 sl2 hgd;generalize aan s ⟨k,m,em,bk⟩=y at *;generalize acI s=L at *;obtain⟨n,hn⟩:∃ n,n=s.op.length:=⟨_,rfl⟩;have HN:=aac hn;rw[← hn] at CD hq hdp h64;clear hn
 revert CP
 generalize Tg.aaE m=q at *;obtain⟨er,pn,R⟩:=q;dsimp only at ho HXt HXf CE pl2 hp ⊢;intro CP;subst hp;cases hroot:s.root
 all_goals
  rw[hroot] at c2;have hq1:=hq;rw[hroot] at hq1
  try have hq2:=hq1 rfl
  clear hq1 hq;go_enter Tryz.func32,Tryz.ntmps32;go_wp2_with fail
  try (refine CD.out.mono ?_;rintro e w1 ⟨rfl,rfl⟩;go_wp2_with fail)
  refine CP.out.mono ?_;rintro e w1 ⟨v1,rfl,ho1,hb1⟩;obtain⟨A2,c2',hv1,hR1⟩:=Tg.abI ho1;obtain⟨M,hM⟩:∃ M,M=R.length:=⟨_,rfl⟩;have hv2:v1=.slice A2 M c2':=(by rw[hv1,hM]);subst hv2;have ho2:w1.ownsRow (w.alloc (.cells #[.int .i64 k,.string m,.bool em,.bool bk] 44)).heap.size 167 2 (.slice A2 M c2') R.length (Nz.Sc.rwL R):=ho1;rw[← hM] at ho2;have hs1:w.heap.size < w1.heap.size:=by have:=hb1.size;simp at this;omega
  have HS:=aac (show SA B rb vw vo es s w #[.int .i64 k,.string m,.bool em,.bool bk] w1.heap.size pn A2 M c2' R (w1.alloc (.cells #[.string pn,.slice A2 M c2'] 96)) from
   ⟨(HR.out.after hb1).box _,aam (Nz.Sc.aaj ho2 ((Below.refl _ w1).alloc (Nat.le_refl _) _)) (by rw[World.size_alloc];omega),((aaz w _).trans (Frm.of_below hb1)).trans (aaz w1 _),((aaK HW.out _).trans (HR.out.call hb1)).trans (aaK (HR.out.after hb1) _),
     (Below.heap_alloc _ _ _ hs1).trans ((hb1.block w.heap.size (by simp)).trans (Nz.Sc.abJ w 44 _)),Nz.Sc.abJ w1 96 _,hs1⟩)
  have HM:=aac hM;clear hM hv1 hR1 ho1 ho2 hb1 CP CD c2 HR;dsimp only;go_wp2_with fail;generalize w1.heap.size=p at *;generalize w1.alloc (.cells #[.string pn,.slice A2 M c2'] 96)=V0 at *;have HBs:=HW.out.siz;have H0d:=aac (HS.out.keep (Below.refl _ V0).drew);have H0a:=aac (HS.out.keep ((Below.refl _ V0).alloc (Nat.le_refl _) (.cells #[.int .i64 0,.string ⟨#[]⟩,.string ⟨#[]⟩,.slice none 0 0,.string ⟨#[]⟩] 54)));have H0ad:=aac (HS.out.keep ((Below.refl _ V0).alloc (Nat.le_refl _) (.cells #[.int .i64 0,.string ⟨#[]⟩,.string ⟨#[]⟩,.slice none 0 0,.string ⟨#[]⟩] 54)).drew);have E0:=aac (Nz.Sc.abJ V0 54 #[.int .i64 0,.string ⟨#[]⟩,.string ⟨#[]⟩,.slice none 0 0,.string ⟨#[]⟩]);have lv:=HS.out.lt;have lt0:V0.heap.size < (V0.alloc (.cells #[.int .i64 0,.string ⟨#[]⟩,.string ⟨#[]⟩,.slice none 0 0,.string ⟨#[]⟩] 54)).drew.heap.size:=by show V0.heap.size < (V0.alloc _).heap.size;simp
  go_region_held3 (fun W=>W.cell? ⟨p,0,none⟩=some (.string pn)∧W.cell? ⟨p,1,none⟩=some (.slice A2 M c2')∧Hid (SA B rb vw vo es s w #[.int .i64 k,.string m,.bool em,.bool bk] p pn A2 M c2' R W))
   (first
     | with_reducible exact⟨HS.out.t0,HS.out.t1,HS⟩
     | with_reducible exact⟨H0d.out.t0,H0d.out.t1,H0d⟩
     | with_reducible exact⟨H0a.out.t0,H0a.out.t1,H0a⟩
     | with_reducible exact⟨H0ad.out.t0,H0ad.out.t1,H0ad⟩
     | (go_split_ands;with_reducible exact⟨by assumption,by assumption,by assumption⟩)
     | with_reducible exact⟨(H5.out.keep ((Below.refl _ w5).alloc (Nat.le_refl _) _)).t0,(H5.out.keep ((Below.refl _ w5).alloc (Nat.le_refl _) _)).t1,aac (H5.out.keep ((Below.refl _ w5).alloc (Nat.le_refl _) _))⟩
     | with_reducible exact⟨(H5.out.aiU E5.out (by omega) HBs _ _ _ _ _).t0,(H5.out.aiU E5.out (by omega) HBs _ _ _ _ _).t1,aac (H5.out.aiU E5.out (by omega) HBs _ _ _ _ _)⟩
     | with_reducible exact⟨(H4.out.keep ((Below.refl _ w4).alloc (Nat.le_refl _) _)).t0,(H4.out.keep ((Below.refl _ w4).alloc (Nat.le_refl _) _)).t1,aac (H4.out.keep ((Below.refl _ w4).alloc (Nat.le_refl _) _))⟩
     | fail)
   (first
     | (go_at_call 50;with_reducible refine(CB.out _ (H0d.out.rw)).mono ?_;rintro e w4 ⟨v4,rfl,ho4,hb4⟩;have H4:=aac (H0d.out.keep hb4);have q0:=H4.out.t0;have q1:=H4.out.t1;have O4:=aac ho4;have l4:=H4.out.lt;clear ho4 hb4)
     | (go_at_call 50;refine(CB.out _ (H0ad.out.rw)).mono ?_;rintro e w4 ⟨v4,rfl,ho4,hb4⟩;have H4:=aac (H0ad.out.keep hb4);have q0:=H4.out.t0;have q1:=H4.out.t1;have O4:=aac ho4;have l4:=H4.out.lt;have E4:=aac ((hb4.block V0.heap.size lt0).trans E0.out);clear ho4 hb4)
     | (go_at_call 49;refine(CE.out w4 v4 A2 M c2' O4.out (H4.out.rdr HM.out) HM.out).mono ?_;rintro e w5 ⟨g5,g5',hb5⟩;obtain⟨v5,va5,g6,P5,T5⟩:=g5' Ws (na,nb) ff rfl;unfold Nz.Sc.evV at g6;dsimp only at g6;obtain⟨AW,cW,rfl⟩:=Nz.Sc.aai P5;obtain⟨AF,cF,rfl⟩:=Nz.Sc.aai T5;subst g6;have P6:=aac P5;have T6:=aac T5;clear g5 g5' P5 T5;have H5:=aac (H4.out.keep hb5);have E5:=aac ((hb5.block V0.heap.size (Array.getElem?_eq_some_iff.1 E4.out).1).trans E4.out);have z0:=Nz.Sc.aaf E5.out 0 (u:=.int .i64 0) rfl;have z1:=Nz.Sc.aaf E5.out 1 (u:=.string ⟨#[]⟩) rfl;have z2:=Nz.Sc.aaf E5.out 2 (u:=.string ⟨#[]⟩) rfl;have z3:=Nz.Sc.aaf E5.out 3 (u:=.slice none 0 0) rfl;have z4:=Nz.Sc.aaf E5.out 4 (u:=.string ⟨#[]⟩) rfl;have f0:=Nz.Sc.aag E5.out 0;have f1:=Nz.Sc.aag E5.out 1;have f2:=Nz.Sc.aag E5.out 2;have f3:=Nz.Sc.aag E5.out 3;have f4:=Nz.Sc.aag E5.out 4;have r0:=H5.out.t0;have r1:=H5.out.t1;have l5:=H5.out.lt;clear hb5)
     | (go_at_call 49;refine(CE.out w4 v4 A2 M c2' O4.out (H4.out.rdr HM.out) HM.out).mono ?_;rintro e w5 ⟨g5,g5',hb5⟩;obtain⟨v5,va5,g6,P5,T5⟩:=g5' Ws (na,nb) ff rfl;unfold Nz.Sc.evV at g6;dsimp only at g6;obtain⟨AW,cW,rfl⟩:=Nz.Sc.aai P5;obtain⟨AF,cF,rfl⟩:=Nz.Sc.aai T5;subst g6;have P6:=aac P5;have T6:=aac T5;clear g5 g5' P5 T5;have H5:=aac (H4.out.keep hb5);have r0:=H5.out.t0;have r1:=H5.out.t1;have l5:=H5.out.lt;clear hb5)
     | (go_at_call 49;refine(CE.out (w4.alloc (.cells #[.int .i64 0,.string ⟨#[]⟩,.string ⟨#[]⟩,.slice none 0 0,.string ⟨#[]⟩] 54)) v4 A2 M c2' (Nz.Sc.aaj O4.out ((Below.refl _ w4).alloc (Nat.le_refl _) (.cells #[.int .i64 0,.string ⟨#[]⟩,.string ⟨#[]⟩,.slice none 0 0,.string ⟨#[]⟩] 54))) ((H4.out.keep ((Below.refl _ w4).alloc (Nat.le_refl _) (.cells #[.int .i64 0,.string ⟨#[]⟩,.string ⟨#[]⟩,.slice none 0 0,.string ⟨#[]⟩] 54))).rdr HM.out) HM.out).mono ?_;rintro e w5 ⟨g5,g5',hb5⟩;obtain⟨v5,va5,g6,P5,T5⟩:=g5' Ws (na,nb) ff rfl;unfold Nz.Sc.evV at g6;dsimp only at g6;obtain⟨AW,cW,rfl⟩:=Nz.Sc.aai P5;obtain⟨AF,cF,rfl⟩:=Nz.Sc.aai T5;subst g6;have P6:=aac P5;have T6:=aac T5;clear g5 g5' P5 T5;have H5:=aac ((H4.out.keep ((Below.refl _ w4).alloc (Nat.le_refl _) (.cells #[.int .i64 0,.string ⟨#[]⟩,.string ⟨#[]⟩,.slice none 0 0,.string ⟨#[]⟩] 54))).keep hb5);have E5:=aac ((hb5.block w4.heap.size (by simp)).trans (Nz.Sc.abJ w4 54 #[.int .i64 0,.string ⟨#[]⟩,.string ⟨#[]⟩,.slice none 0 0,.string ⟨#[]⟩]));have z0:=Nz.Sc.aaf E5.out 0 (u:=.int .i64 0) rfl;have z1:=Nz.Sc.aaf E5.out 1 (u:=.string ⟨#[]⟩) rfl;have z2:=Nz.Sc.aaf E5.out 2 (u:=.string ⟨#[]⟩) rfl;have z3:=Nz.Sc.aaf E5.out 3 (u:=.slice none 0 0) rfl;have z4:=Nz.Sc.aaf E5.out 4 (u:=.string ⟨#[]⟩) rfl;have f0:=Nz.Sc.aag E5.out 0;have f1:=Nz.Sc.aag E5.out 1;have f2:=Nz.Sc.aag E5.out 2;have f3:=Nz.Sc.aag E5.out 3;have f4:=Nz.Sc.aag E5.out 4;have r0:=H5.out.t0;have r1:=H5.out.t1;have l5:=H5.out.lt;clear hb5)
     | fail)
  all_goals
   rename_i hHeld;obtain⟨-,-,SX⟩:=hHeld;clear CB CE HS H0d H0a H0ad E0 lt0
   first
    | (have E6:w5.heap[w4.heap.size]?=some (.cells #[.int .i64 0,.string ⟨#[]⟩,.string ⟨#[]⟩,.slice none 0 0,.string ⟨#[]⟩] 54 (0,0)):=E5.out;have EB:=aac (Nz.Sc.aiU E6 (.int .i64 1) (.string na) (.string nb) (.slice AF ff.length cF) (.string ⟨#[]⟩));have gg:=Nz.Sc.a3G w5 w4.heap.size (.int .i64 1) (.string na) (.string nb) (.slice AF ff.length cF) (.string ⟨#[]⟩);have PB:=aac (aam (B':=w.heap.size) (World.ownsRow.kept P6.out gg (.inr (Nz.Sc.own_ne P6.out E6 (by decide)))) (by first | omega | (simp;omega)));have TB:=aac (aam (B':=w.heap.size) (World.ownsRow.kept T6.out gg (.inr (Nz.Sc.own_ne T6.out E6 (by decide)))) (by first | omega | (simp;omega)));have hbl:w.heap.size≤w4.heap.size:=(by omega);clear gg E6 E5 z0 z1 z2 z3 z4 f0 f1 f2 f3 f4 P6 T6 H5 r0 r1 H4 q0 q1 O4;generalize ((((w5.setCell ⟨w4.heap.size,0,none⟩ (.int .i64 1)).setCell ⟨w4.heap.size,1,none⟩ (.string na)).setCell ⟨w4.heap.size,2,none⟩ (.string nb)).setCell ⟨w4.heap.size,3,none⟩ (.slice AF ff.length cF)).setCell ⟨w4.heap.size,4,none⟩ (.string ⟨#[]⟩)=V at *;generalize w4.heap.size=b at *)
    | (have E6:w5.heap[V0.heap.size]?=some (.cells #[.int .i64 0,.string ⟨#[]⟩,.string ⟨#[]⟩,.slice none 0 0,.string ⟨#[]⟩] 54 (0,0)):=E5.out;have EB:=aac (Nz.Sc.aiU E6 (.int .i64 1) (.string na) (.string nb) (.slice AF ff.length cF) (.string ⟨#[]⟩));have gg:=Nz.Sc.a3G w5 V0.heap.size (.int .i64 1) (.string na) (.string nb) (.slice AF ff.length cF) (.string ⟨#[]⟩);have PB:=aac (aam (B':=w.heap.size) (World.ownsRow.kept P6.out gg (.inr (Nz.Sc.own_ne P6.out E6 (by decide)))) (by first | omega | (simp;omega)));have TB:=aac (aam (B':=w.heap.size) (World.ownsRow.kept T6.out gg (.inr (Nz.Sc.own_ne T6.out E6 (by decide)))) (by first | omega | (simp;omega)));have hbl:w.heap.size≤V0.heap.size:=(by omega);clear gg E6 E5 z0 z1 z2 z3 z4 f0 f1 f2 f3 f4 P6 T6 H5 r0 r1 H4 q0 q1 O4;generalize ((((w5.setCell ⟨V0.heap.size,0,none⟩ (.int .i64 1)).setCell ⟨V0.heap.size,1,none⟩ (.string na)).setCell ⟨V0.heap.size,2,none⟩ (.string nb)).setCell ⟨V0.heap.size,3,none⟩ (.slice AF ff.length cF)).setCell ⟨V0.heap.size,4,none⟩ (.string ⟨#[]⟩)=V at *;generalize V0.heap.size=b at *)
    | (fail_if_success (have E9:=E5.out)
       have EB:=aac (Nz.Sc.abJ w5 54 #[.int .i64 1,.string na,.string nb,.slice AF ff.length cF,.string ⟨#[]⟩]);have PB:=aac (aam (B':=w.heap.size) (Nz.Sc.aaj P6.out ((Below.refl _ w5).alloc (Nat.le_refl _) (.cells #[.int .i64 1,.string na,.string nb,.slice AF ff.length cF,.string ⟨#[]⟩] 54))) (by first | omega | (simp;omega)));have TB:=aac (aam (B':=w.heap.size) (Nz.Sc.aaj T6.out ((Below.refl _ w5).alloc (Nat.le_refl _) (.cells #[.int .i64 1,.string na,.string nb,.slice AF ff.length cF,.string ⟨#[]⟩] 54))) (by first | omega | (simp;omega)));have hbl:w.heap.size≤w5.heap.size:=(by omega);clear P6 T6 H5 r0 r1 H4 q0 q1 O4;generalize w5.alloc (.cells #[.int .i64 1,.string na,.string nb,.slice AF ff.length cF,.string ⟨#[]⟩] 54)=V at *;generalize w5.heap.size=b at *)
    | fail
   have CDV:=aac (aaI SX.out.rw);rw[← HN.out] at CDV;have t64:((n:Int) == 64)=false:=by rw[beq_eq_false_iff_ne];omega
   have c2V:=SX.out.rw.c2;have f2V:=SX.out.rw.fz 2;have R1:=aac (SX.out.rw.set2 true);have EB2:V.heap[b]?=some (.cells #[.int .i64 1,.string na,.string nb,.slice AF ff.length cF,.string ⟨#[]⟩] 54 (0,0)):=EB.out;have PB2:Nz.Sc.agQ 164 V w.heap.size (.slice AW Ws.length cW) Ws:=PB.out;have TB2:Nz.Sc.apz V w.heap.size (.slice AF ff.length cF) ff:=TB.out;have B0:BX B w #[.int .i64 k,.string m,.bool em,.bool bk] p #[.string pn,.slice A2 M c2'] b #[.int .i64 1,.string na,.string nb,.slice AF ff.length cF,.string ⟨#[]⟩] (.slice AW Ws.length cW) Ws (.slice AF ff.length cF) ff V:=SX.out.bx EB2 PB2 TB2 HBs;have fS:=SX.out.rw.a1h 2 (.bool true);have bS:=SX.out.rw.a4t 2 (.bool true);have B1:=aac (B0.a4B fS bS);clear EB2 PB2 TB2 B0 fS bS;have hbV:b < (V.setCell ⟨rb,2,none⟩ (.bool true)).heap.size:=(Array.getElem?_eq_some_iff.1 B1.out.ev).1;have hwV:=B1.out.size;go_wp2_with fail;refine CDV.out.mono ?_;rintro e w6 ⟨rfl,rfl⟩;go_wp2_with fail;clear CDV c2V f2V SX EB PB TB;generalize V.setCell ⟨rb,2,none⟩ (.bool true)=V1 at *;have Bd:=aac (B1.out.keep (Below.refl _ V1).drew);have Ba:=aac (B1.out.keep ((Below.refl _ V1).alloc (Nat.le_refl _) (.cells #[.int .i64 1,.string na,.string nb,.slice AF ff.length cF,.string ⟨#[]⟩] 54)).drew);have CT0:=aac (ahE R1.out.drew);have CT1:=aac (ahE (R1.out.after ((Below.refl _ V1).alloc (Nat.le_refl _) (.cells #[.int .i64 1,.string na,.string nb,.slice AF ff.length cF,.string ⟨#[]⟩] 54)).drew));have lw1:=aac (show V1.heap.size≤(V1.alloc (.cells #[.int .i64 1,.string na,.string nb,.slice AF ff.length cF,.string ⟨#[]⟩] 54)).drew.heap.size by show V1.heap.size≤(V1.alloc _).heap.size;simp)
   go_region_held3 (fun W=>W.cell? ⟨b,0,none⟩=some (.int .i64 1)∧W.cell? ⟨b,1,none⟩=some (.string na)∧W.cell? ⟨b,2,none⟩=some (.string nb)∧W.cell? ⟨b,3,none⟩=some (.slice AF ff.length cF)∧W.cell? ⟨b,4,none⟩=some (.string ⟨#[]⟩)∧Hid (BX B w #[.int .i64 k,.string m,.bool em,.bool bk] p #[.string pn,.slice A2 M c2'] b #[.int .i64 1,.string na,.string nb,.slice AF ff.length cF,.string ⟨#[]⟩] (.slice AW Ws.length cW) Ws (.slice AF ff.length cF) ff W))
    (first
      | with_reducible exact⟨Nz.Sc.aaf Bd.out.ev 0 rfl,Nz.Sc.aaf Bd.out.ev 1 rfl,Nz.Sc.aaf Bd.out.ev 2 rfl,Nz.Sc.aaf Bd.out.ev 3 rfl,Nz.Sc.aaf Bd.out.ev 4 rfl,Bd⟩
      | with_reducible exact⟨Nz.Sc.aaf Ba.out.ev 0 rfl,Nz.Sc.aaf Ba.out.ev 1 rfl,Nz.Sc.aaf Ba.out.ev 2 rfl,Nz.Sc.aaf Ba.out.ev 3 rfl,Nz.Sc.aaf Ba.out.ev 4 rfl,Ba⟩
      | (go_split_ands;with_reducible exact⟨by assumption,by assumption,by assumption,by assumption,by assumption,by assumption⟩)
      | with_reducible exact⟨Nz.Sc.aaf BA6.out.ev 0 rfl,Nz.Sc.aaf BA6.out.ev 1 rfl,Nz.Sc.aaf BA6.out.ev 2 rfl,Nz.Sc.aaf BA6.out.ev 3 rfl,Nz.Sc.aaf BA6.out.ev 4 rfl,BA6⟩
      | fail)
    (first
      | (go_at_call 51;refine CT0.out.mono ?_;rintro e w6 ⟨v6,vw6,rfl,⟨ts,t1,t2,t3⟩,r6,f6,l6⟩;have B6:=aac (Bd.out.a4B f6 l6);have R6:=aac r6;have hl6:=aiA s.wait;have T1:=aac (show ts.map (·.1)=aaH s.wait from t1);rw[← T1.out,List.length_map] at hl6;obtain⟨A6,c6,rfl⟩:=Nz.Sc.aai t2;have T2:=aac (show w6.ownsRow V1.heap.size 54 5 (.slice A6 ts.length c6) ts.length (evL ts) from t2);have T3:=aac (show EvO w6 w.heap.size ts from t3.mono hwV);have s6:V1.heap.size≤w6.heap.size:=l6.size;have BA6:=aac (B6.out.keep ((Below.refl _ w6).alloc (Nat.le_refl _) (.cells #[.int .i64 1,.string na,.string nb,.slice AF ff.length cF,.string ⟨#[]⟩] 54)));obtain⟨k0,k1,k2,k3,k4⟩:=a4u B6.out;clear t1 t2 t3 r6 f6 l6)
      | (go_at_call 51;refine CT1.out.mono ?_;rintro e w6 ⟨v6,vw6,rfl,⟨ts,t1,t2,t3⟩,r6,f6,l6⟩;have B6:=aac (Ba.out.a4B f6 l6);have R6:=aac r6;have hl6:=aiA s.wait;have T1:=aac (show ts.map (·.1)=aaH s.wait from t1);rw[← T1.out,List.length_map] at hl6;obtain⟨A6,c6,rfl⟩:=Nz.Sc.aai t2;have T2:=aac (aam (B':=V1.heap.size) t2 lw1.out);have T3:=aac (show EvO w6 w.heap.size ts from t3.mono (Nat.le_trans hwV lw1.out));have s6:V1.heap.size≤w6.heap.size:=Nat.le_trans lw1.out l6.size;have N6:=aac (a2S (f6 V1.heap.size #[.int .i64 1,.string na,.string nb,.slice AF ff.length cF,.string ⟨#[]⟩] 54 (0,0) (Nz.Sc.abJ V1 54 #[.int .i64 1,.string na,.string nb,.slice AF ff.length cF,.string ⟨#[]⟩]) (by decide) (by decide) (by decide)));obtain⟨k0,k1,k2,k3,k4⟩:=a4u B6.out;clear t1 t2 t3 r6 f6 l6)
      | (have N7:=N6.out;refine Nz.Sc.aaN (by rfl) (.tmp 49) (.tmp 51) 23 (by rfl) V1.heap.size 54 i0 (.agg #[.int .i64 0,.string ⟨#[]⟩,.string ⟨#[]⟩,.slice none 0 0,.string ⟨#[]⟩]) 5 80 Tryz.underlying23 hi hz0 hz1 hz2 rfl (by decide) (.slice A6 ts.length c6) ts.length (evL ts) (by rfl) T2.out ⟨V1.heap.size,0,none⟩ 1 1 [.int .i64 1,.string na,.string nb,.slice AF ff.length cF,.string ⟨#[]⟩] (by rfl) rfl N7 (arW _ _ _ _ _) (by unfold maxLen;omega) (by omega) s6 ?_;intro v7 w7 n1 n2;obtain⟨g7,c7,rfl⟩:=Nz.Sc.aaU n1;have B7:=aac (B6.out.app T2.out hbV hwV n2);have R7:=aac (R6.out.grown T2.out n2);have E7:=aac (a5V B6.out T1.out T2.out hwV T3.out n2 n1);obtain⟨m0,m1,m2,m3,m4⟩:=a4u B7.out;clear n1 n2 N7)
      | (refine Nz.Sc.aaN (by rfl) (.tmp 49) (.tmp 51) 23 (by rfl) V1.heap.size 54 i0 (.agg #[.int .i64 0,.string ⟨#[]⟩,.string ⟨#[]⟩,.slice none 0 0,.string ⟨#[]⟩]) 5 80 Tryz.underlying23 hi hz0 hz1 hz2 rfl (by decide) (.slice A6 ts.length c6) ts.length (evL ts) (by rfl) (T2.out.alloc (.cells #[.int .i64 1,.string na,.string nb,.slice AF ff.length cF,.string ⟨#[]⟩] 54)) ⟨w6.heap.size,0,none⟩ 1 1 [.int .i64 1,.string na,.string nb,.slice AF ff.length cF,.string ⟨#[]⟩] (by rfl) rfl (Nz.Sc.abN w6 #[.int .i64 1,.string na,.string nb,.slice AF ff.length cF,.string ⟨#[]⟩] 54) (arW _ _ _ _ _) (by unfold maxLen;omega) (by omega) (by rw[World.size_alloc];omega) ?_;intro v7 w7 n1 n2;obtain⟨g7,c7,rfl⟩:=Nz.Sc.aaU n1;have B7:=aac (BA6.out.app (T2.out.alloc (.cells #[.int .i64 1,.string na,.string nb,.slice AF ff.length cF,.string ⟨#[]⟩] 54)) hbV hwV n2);have R7:=aac ((R6.out.box (.cells #[.int .i64 1,.string na,.string nb,.slice AF ff.length cF,.string ⟨#[]⟩] 54)).grown (T2.out.alloc (.cells #[.int .i64 1,.string na,.string nb,.slice AF ff.length cF,.string ⟨#[]⟩] 54)) n2);have E7:=aac (a5V BA6.out T1.out (T2.out.alloc (.cells #[.int .i64 1,.string na,.string nb,.slice AF ff.length cF,.string ⟨#[]⟩] 54)) hwV (T3.out.frm (aaz w6 _)) n2 n1);obtain⟨m0,m1,m2,m3,m4⟩:=a4u B7.out;clear n1 n2)
      | fail)
   all_goals
    rename_i hHeld;clear hHeld;cases em
    · have HX:=aac (HXf.out rfl);obtain⟨j0,hj,jz0,jz1,jz2⟩:=info_parts Tryz.info106;have tk2:=Nz.Sc.aaf B7.out.tok 2 (u:=.bool false) rfl;have tg0:=Nz.Sc.aaf B7.out.tag 0 (u:=.string pn) rfl;obtain⟨Ao,co,rfl⟩:=R7.out.opn;have HO:Hid (n=es.length):=aac (by rw[R7.out.len];exact HN.out);have c17:=R7.out.c1;have hn2:(s.op.length:Nat)=n:=HN.out.symm;have hnn:({ s with root:=true,wait:=Nz.em }:St).op.length=n:=hn2;rw[hnn] at c17;have hrl:=R7.out.lt;have hpl:=(Array.getElem?_eq_some_iff.1 B7.out.tag).1;have R8:=aac ((R7.out.after (Below.refl _ w7).drew).box (.cells #[.string pn,.slice AW Ws.length cW] 106));have B8:=aac (B7.out.keep ((Below.refl _ w7).drew.alloc (Nat.le_refl _) (.cells #[.string pn,.slice AW Ws.length cW] 106)));have ho:=R8.out.op;rw[hnn,← HO.out] at ho;have hlc:=Nz.Sc.abN w7.drew #[.string pn,.slice AW Ws.length cW] 106
      have HK:Hid (∀ v' w',w'.ownsRow B 106 2 v' (n+1) (opL es++[.string pn,.slice AW Ws.length cW])→(w7.drew.alloc (.cells #[.string pn,.slice AW Ws.length cW] 106)).grownBy w' (Value.slice Ao n co).ownBlock→
       ∃ g' cap',v'=.slice (some ⟨g',0,none⟩) (n+1) cap'∧w'.cell? ⟨rb,1,none⟩=some (.slice Ao n co)∧w'.frozen? ⟨rb,1,none⟩=false∧RW B rb vw6 v' (es++[((pn,Ws),.slice AW Ws.length cW)]) { s with wait:=Nz.em,root:=true,op:=s.op++[(pn,Ws)] } (w'.setCell ⟨rb,1,none⟩ v')∧Frm (w7.drew.alloc (.cells #[.string pn,.slice AW Ws.length cW] 106)) (w'.setCell ⟨rb,1,none⟩ v')∧Below B (w7.drew.alloc (.cells #[.string pn,.slice AW Ws.length cW] 106)) (w'.setCell ⟨rb,1,none⟩ v')):=aac (by
       intro v' w' k1 k2;obtain⟨g',cap',hv⟩:=Nz.Sc.aaU k1;have hx:=R8.out;rw[hnn] at hx;rw[HO.out] at k1;obtain⟨q1,q2,q3,q4⟩:=RW.push (nm:=pn) (Ws:=Ws) hx (aam B8.out.pb B8.out.siz) k1 k2;exact⟨g',cap',hv,by rw[Lib.cell_of_heap q1];rfl,Lib.frozen_of_heap q1 1,q2,q3,q4⟩)
      have D2:w7.drew.cell? ⟨rb,1,none⟩=some (.slice Ao n co):=c17;have A0:w7.drew.cell? ⟨p,0,none⟩=some (.string pn):=tg0;have D3:(w7.drew.alloc (.cells #[.string pn,.slice AW Ws.length cW] 106)).cell? ⟨rb,1,none⟩=some (.slice Ao n co):=(((Below.refl _ w7.drew).alloc (Nat.le_refl _) _).cell (p:=⟨rb,1,none⟩) hrl).trans D2;have A3:(w7.drew.alloc (.cells #[.string pn,.slice AW Ws.length cW] 106)).cell? ⟨p,0,none⟩=some (.string pn):=(((Below.refl _ w7.drew).alloc (Nat.le_refl _) _).cell (p:=⟨p,0,none⟩) hpl).trans A0;have hbz:=R8.out.siz;have E8:=aac (E7.out.frm (aaz w7 (.cells #[.string pn,.slice AW Ws.length cW] 106)));have F8:=aac B8.out.frm;have L8:=aac B8.out.bel;clear T1 T2 T3 R6 B6 CT0 CT1 Bd Ba B1 R1 m0 m1 m2 m3 m4 k0 k1 k2 k3 k4 R7 R8 B7 B8 E7;go_wp2_with fail
      go_region_law (refine Nz.Sc.aaN rfl (.tmp 63) (.tmp 68) 60 rfl B 106 j0 (.agg #[.string ⟨#[]⟩,.slice none 0 0]) 2 40 Tryz.underlying60 hj jz0 jz1 jz2 rfl (by decide) (.slice Ao n co) n (opL es) (by simp[Act.eval,Act.put]) ho ⟨w7.heap.size,0,none⟩ 1 1 [.string pn,.slice AW Ws.length cW] (by simp[Act.eval,Act.put]) rfl hlc (a1F _ _ _ _) (by unfold maxLen;omega) (by omega) hbz ?_;intro v9 w9 n1 n2;obtain⟨g9,c9,rfl,e9,f9,r9,x9,y9⟩:=HK.out v9 w9 n1 n2;have HR9:=aac r9;have HF9:=aac x9;have HL9:=aac y9;clear n1 n2 r9 x9 y9)
      all_goals go_wp2
      all_goals go_ret2
      all_goals refine⟨_,by rw[HX.out];rfl,by rw[HX.out];exact E8.out.frm HF9.out,?_,F8.out.trans HF9.out,L8.out.trans HL9.out⟩
      all_goals rw[HX.out]
      all_goals exact⟨_,_,_,(acV { s with wait:=Nz.em,root:=true,op:=s.op++[(pn,Ws)] } he).symm ▸ HR9.out⟩
    · have HX:=aac (HXt.out rfl);have tk2:=Nz.Sc.aaf B7.out.tok 2 (u:=.bool true) rfl;obtain⟨us,u1,u2,u3⟩:=E7.out;have hul:=a1q u2;have hul2:us.length≤3:=(by omega);have U1:=aac u1;have CC:=aac (ahd w7);clear u1;obtain⟨nu,hnu⟩:∃ nu,nu=us.length:=⟨_,rfl⟩;have NU:=aac hnu;rw[← hnu] at u2 hul2 hul;rw[hul] at u2 ⊢;clear E7 T1 T2 T3 R6 B6 CT0 CT1 Bd Ba B1 R1 m0 m1 m2 m3 m4 k0 k1 k2 k3 k4 hnu hul;go_wp2_with fail;refine CC.out.mono ?_;rintro e w8 ⟨rfl,b8⟩;have hA:=(Below.refl w8.heap.size w8).alloc (Nat.le_refl _) (.cells #[.int .i64 3,.string ⟨#[]⟩,.string ⟨#[]⟩,.slice none 0 0,.string ⟨#[]⟩] 54);have b9:Below w7.heap.size w7 (w8.alloc (.cells #[.int .i64 3,.string ⟨#[]⟩,.string ⟨#[]⟩,.slice none 0 0,.string ⟨#[]⟩] 54)):=b8.trans (hA.mono b8.size);have ho9:=Nz.Sc.aaj u2 b9;have hO9:=aac (u3.frm (Frm.of_below b9));have B9:=aac (B7.out.keep b9);have R9:=aac (R7.out.after b9);have hnew:=aac (Nz.Sc.abN w8 #[.int .i64 3,.string ⟨#[]⟩,.string ⟨#[]⟩,.slice none 0 0,.string ⟨#[]⟩] 54);have hz9:=B9.out.size;clear b8 hA b9 u2 u3 B7 R7 CC;go_wp2_with (at_builtin;refine wpList_append_own _ rfl _ _ 23 rfl w.heap.size 54 i0 (.agg #[.int .i64 0,.string ⟨#[]⟩,.string ⟨#[]⟩,.slice none 0 0,.string ⟨#[]⟩]) 5 80 Tryz.underlying23 hi hz0 hz1 hz2 rfl (by decide) _ nu (evL us) rfl ho9 ⟨w8.heap.size,0,none⟩ 1 1 [.int .i64 3,.string ⟨#[]⟩,.string ⟨#[]⟩,.slice none 0 0,.string ⟨#[]⟩] rfl rfl hnew.out apg (by unfold maxLen;omega) (by omega) hz9 ?_);intro v9 w9 n1 n2 _;obtain⟨g9,c9,rfl⟩:=Nz.Sc.aaU n1;rw[NU.out] at ho9 n1 n2;have he9:=aoP (x:=.cls) (va:=.slice none 0 0) U1.out ho9 hO9.out (aiu _ _) n2 n1;have HR9:=aac (R9.out.grown ho9 n2);have HF9:=aac (B9.out.frm.fresh hz9 ho9 n2);have HL9:=aac (B9.out.bel.grown n2 (Nat.le_trans B9.out.siz hz9) (fun j hj=>Nat.le_trans B9.out.siz (World.ownsRow.lt ho9 j hj).1));rw[← NU.out,List.append_assoc] at he9;have HE:=aac he9;clear he9 ho9 hO9 n1 n2 R9 B9 hnew;go_wp2;go_ret2;refine⟨_,by rw[HX.out];rfl,by rw[HX.out];exact HE.out,?_,HF9.out,HL9.out⟩;rw[HX.out];exact⟨_,_,_,(acV { s with wait:=Nz.em,root:=true } he).symm ▸ HR9.out⟩
end
end Go.Proofs.YtiaebhomfebagaaGreatDoor.Wl
namespace Go.Proofs.YtiaebhomfebagaaGreatDoor.Wl
open Go.RowKit
section
variable {B rb:Nat} {vw vo:Value} {es:List OpP} {s:St} {w w':World}
theorem adG (h:RW B rb vw vo es s w)(hG:Gl w)(he:s.err=0)(k:Int)(m:ByteArray)(em bk:Bool)(hm:m.size≤2000000000)(hgd:Gd s):
 Calls Tryz.prog 32 #[.pointer (some ⟨rb,0,none⟩),.agg #[.int .i64 k,.string m,.bool em,.bool bk]] w (TkP B rb (aan s ⟨k,m,em,bk⟩) (clr (aan s ⟨k,m,em,bk⟩).1) w):=by
 by_cases c1:s.root=true∧s.op=[]
 · exact aum h he k m em bk c1.1 c1.2
 by_cases c2:(Tg.aaE m).1=0
 · cases ho:Nz.Sc.afq (acI s) (Tg.aaE m).2.1 (Tg.aaE m).2.2 with
   | error c=>exact aqJ h hG he k m em bk hm hgd c1 c2 c (by rcases amM ho with q | q <;> rw[q] <;> decide) ho
   | ok q=>
     obtain⟨Ws,⟨na,nb⟩,ff⟩:=q;by_cases c3:64≤s.op.length
     · exact akR h hG he k m em bk hm hgd c1 c2 Ws na nb ff ho c3
     · cases em
       · exact ang h hG he k m false bk hm hgd c1 c2 Ws na nb ff ho (by omega)
       · exact ang h hG he k m true bk hm hgd c1 c2 Ws na nb ff ho (by omega)
 · exact arE h hG he k m em bk hm hgd.dep c1 c2
theorem azl (h:RW B rb vw vo es s w)(he:s.err=0)(k:Int)(m:ByteArray)(em bk:Bool)(hgd:Gd s):
 Calls Tryz.prog 33 #[.pointer (some ⟨rb,0,none⟩),.agg #[.int .i64 k,.string m,.bool em,.bool bk]] w (TkP B rb (afr s ⟨k,m,em,bk⟩) (clr (afr s ⟨k,m,em,bk⟩).1) w):=by
 by_cases c1:s.op=[]
 · exact a1X h he k m em bk c1
 have hl:0 < s.op.length:=List.length_pos_iff.2 c1;have hd:=hgd.dep;by_cases c2:inner s=some m
 · exact ayK h he k m em bk (s.op.length - 1) (by omega) (by omega) c2
 · exact a4o h he k m em bk (s.op.length - 1) (by omega) (by omega) c2
theorem akZ {x:St × List Ev × Int}{st:St}{o:Obj}{e:Ending}(hB:B≤w.heap.size)(h:TkP B rb x st (w.alloc o) e w'):TkP B rb x st w e w':=by
 obtain⟨v,h1,h2,h3,h4,h5⟩:=h;exact⟨v,h1,h2.mono (by rw[World.size_alloc];omega),h3,(aaz w o).trans h4,((Below.refl B w).alloc hB o).trans h5⟩
theorem awR {x:St × List Ev × Int}{o:Obj}{e:Ending}(hB:B≤w.heap.size)(hx:x.2.1=[])(h:apU B rb vo es x (w.alloc o) e w'):e=.returned (.int .i64 x.2.2)∧TkP B rb x (clr x.1) w (.returned (.tuple #[.slice none 0 0,.int .i64 x.2.2])) w':=by
 obtain⟨h1,⟨vw,h2⟩,h4,h5⟩:=h;exact⟨h1,_,rfl,by rw[hx];exact abv.nil _ _,⟨_,_,_,h2⟩,(aaz w o).trans h4,((Below.refl B w).alloc hB o).trans h5⟩
theorem asY (t:Tok):(acr s t).2.1=[]:=by
 unfold acr;by_cases c:s.op≠[]
 · rw[if_pos c]
 · rw[if_neg c];by_cases d:t.blank=true
   · rw[if_pos d]
   · rw[if_neg d];rfl
theorem awo:(lastT s).2.1=[]:=by
 unfold lastT;by_cases c:s.op≠[]
 · rw[if_pos c];rfl
 · rw[if_neg c];by_cases d:s.root=false
   · rw[if_pos d];rfl
   · rw[if_neg d]
theorem afG (h:RW B rb vw vo es s w)(hG:Gl w)(he:s.err=0)(k:Int)(m:ByteArray)(em bk:Bool)(hm:m.size≤2000000000)(hgd:Gd s)(hz:s.wait.size≤100000000000):
 Calls Tryz.prog 20 #[.pointer (some ⟨rb,0,none⟩),.agg #[.int .i64 k,.string m,.bool em,.bool bk]] w (TkP B rb (adi s ⟨k,m,em,bk⟩) (clr (adi s ⟨k,m,em,bk⟩).1) w):=by
 have hR:=h.box (.cells #[.int .i64 k,.string m,.bool em,.bool bk] 44);have hsz:=h.siz;have C1:=aac (adG hR (hG.alloc _) he k m em bk hm hgd);have C2:=aac (azl hR he k m em bk hgd);have C3:=aac (aqy hR he k m em bk hz (by omega));have C4:=aac (avS hR he);have HR:=aac hR;have HW:=aac h;clear hR h hG;unfold adi;by_cases k1:k=1
 · rw[if_pos k1];have q1:(k == 1)=true:=beq_iff_eq.2 k1;generalize aan s ⟨k,m,em,bk⟩=x at *;clear C2 C3 C4 k1;go_enter Tryz.func20,Tryz.ntmps20;go_wp2_with fail;refine C1.out.mono ?_;rintro e w1 h1;have H1:=aac (akZ hsz h1);obtain⟨v,rfl,h2,_⟩:=h1;obtain⟨A,c,rfl⟩:=h2.slc;clear h2 C1;go_wp2;go_ret2;exact H1.out
 rw[if_neg k1];have q1:(k == 1)=false:=beq_eq_false_iff_ne.2 k1;by_cases k2:k=2
 · rw[if_pos k2];have q2:(k == 2)=true:=beq_iff_eq.2 k2;generalize afr s ⟨k,m,em,bk⟩=x at *;clear C1 C3 C4 k1 k2;go_enter Tryz.func20,Tryz.ntmps20;go_wp2_with fail;refine C2.out.mono ?_;rintro e w1 h1;have H1:=aac (akZ hsz h1);obtain⟨v,rfl,h2,_⟩:=h1;obtain⟨A,c,rfl⟩:=h2.slc;clear h2 C2;go_wp2;go_ret2;exact H1.out
 rw[if_neg k2];have q2:(k == 2)=false:=beq_eq_false_iff_ne.2 k2;by_cases k3:k=3
 · rw[if_pos k3];have q3:(k == 3)=true:=beq_iff_eq.2 k3;have hnil:=aac (asY (s:=s) ⟨k,m,em,bk⟩);generalize acr s ⟨k,m,em,bk⟩=x at *;clear C1 C2 C4 k1 k2 k3;go_enter Tryz.func20,Tryz.ntmps20;go_wp2_with fail;refine C3.out.mono ?_;rintro e w1 h1;obtain⟨rfl,h2⟩:=awR hsz hnil.out h1;have H1:=aac h2;clear h1 h2 C3;go_wp2;go_ret2;exact H1.out
 rw[if_neg k3];have q3:(k == 3)=false:=beq_eq_false_iff_ne.2 k3;by_cases k6:k=6
 · rw[if_pos k6];have q6:(k == 6)=true:=beq_iff_eq.2 k6;have hnil:=aac (awo (s:=s));generalize lastT s=x at *;clear C1 C2 C3 k1 k2 k3 k6;go_enter Tryz.func20,Tryz.ntmps20;go_wp2_with fail;refine C4.out.mono ?_;rintro e w1 h1;obtain⟨rfl,h2⟩:=awR hsz hnil.out h1;have H1:=aac h2;clear h1 h2 C4;go_wp2;go_ret2;exact H1.out
 rw[if_neg k6];have q6:(k == 6)=false:=beq_eq_false_iff_ne.2 k6;clear C1 C2 C3 C4 k1 k2 k3 k6;go_enter Tryz.func20,Tryz.ntmps20;go_wp2;go_ret2;exact⟨_,rfl,abv.nil _ _,⟨_,_,_,by rw[acV s he];exact HR.out⟩,aaz w _,aaK HW.out _⟩
theorem atG {t:Tok}(he:s.err=0):(adi s t).1.err=(adi s t).2.2:=by
 unfold adi aan afr acr lastT adE opened
 repeat' split
 all_goals first | rfl | exact he
theorem a0f (x:St)(e:Int)(h:x.err=e):({ clr x with err:=e }:St)=x:=by
 subst h;rfl
theorem auq (h:RS B rb s w)(hG:Gl w)(k:Int)(m:ByteArray)(em bk:Bool)(hm:m.size≤2000000000)(hgd:Gd s)(hz:s.wait.size≤100000000000):
 Calls Tryz.prog 12 #[.pointer (some ⟨rb,0,none⟩),.agg #[.int .i64 k,.string m,.bool em,.bool bk]] w (TkP B rb (aaF s ⟨k,m,em,bk⟩) (aaF s ⟨k,m,em,bk⟩).1 w):=by
 obtain⟨vw,vo,es,h⟩:=h;have hR:=h.box (.cells #[.int .i64 k,.string m,.bool em,.bool bk] 44);have hsz:=h.siz;have HR:=aac hR;have HW:=aac h;have c3:=hR.c3;have c4:=hR.c4;unfold aaF;cases hv:s.over
 · rw[if_neg (by decide)];rw[hv] at c3;by_cases he:s.err=0
   · rw[if_neg (Decidable.not_not.2 he)];have CR:=aac (afG hR (hG.alloc _) he k m em bk hm hgd hz);have HE:=aac (atG (t:=⟨k,m,em,bk⟩) he);rw[he] at c4;generalize adi s ⟨k,m,em,bk⟩=x at *;clear hR h hG;go_enter Tryz.func12,Tryz.ntmps12;go_wp2_with fail;refine CR.out.mono ?_;rintro e w1 h1;obtain⟨v,rfl,h2,⟨vw1,vo1,es1,r1⟩,h3,h4⟩:=akZ hsz h1;have R1:=aac r1;have E1:=aac h2;have F1:=aac h3;have L1:=aac h4;obtain⟨A,c,rfl⟩:=h2.slc;have d4:=r1.c4;have f4:=r1.fz 4;clear r1 h1 h2 h3 h4 CR HR c3 c4;go_wp2;go_ret2;refine⟨_,rfl,E1.out.frm (R1.out.a1h 4 _),⟨vw1,vo1,es1,?_⟩,F1.out.trans (R1.out.a1h 4 _),L1.out.trans (R1.out.a4t 4 _)⟩;have:=R1.out.a6h x.2.2;rw[a0f x.1 x.2.2 HE.out] at this;exact this
   · rw[if_pos he];have t1:(s.err != 0)=true:=bne_iff_ne.2 he;clear hR h hG;generalize s.err=er at *;go_enter Tryz.func12,Tryz.ntmps12;go_wp2_with fail;go_quiet (fail);go_wp2;go_ret2;exact⟨_,rfl,abv.nil _ _,⟨_,_,_,HR.out.heap rfl⟩,aaz w _,below_drewN (aaK HW.out _) _⟩
 · rw[if_pos rfl];rw[hv] at c3;clear hR h hG;go_enter Tryz.func12,Tryz.ntmps12;go_wp2;go_ret2;exact⟨_,rfl,abv.nil _ _,⟨_,_,_,HR.out⟩,aaz w _,aaK HW.out _⟩
end
end Go.Proofs.YtiaebhomfebagaaGreatDoor.Wl
namespace Go.Proofs.YtiaebhomfebagaaGreatDoor.Wl
open Go.RowKit
def Tl (rd:List Int→Tk × Int):Prop:=∀ l,(rd l).1.text.length≤l.length
theorem amx:∀ (l:List Int),(acU l).length≤l.length
 | []=>Nat.le_refl _
 | c :: l=>by
   have:=amx l;unfold acU;rw[List.length_append,List.length_cons]
   repeat' split
   all_goals simp
   all_goals omega
theorem apR:Tl afC:=fun l=>amx l
theorem arq:Tl adj:=fun l=>by
 unfold adj;split
 · exact Nat.zero_le _
 · exact Nat.le_refl _
theorem asP (z:Bool):Tl (afv z):=fun l=>by
 unfold afv;split
 · exact Nat.zero_le _
 · split
   · exact Nat.zero_le _
   · exact Nat.le_refl _
theorem axf:Tl akg:=fun l=>by
 unfold akg;split
 · exact Nat.zero_le _
 · show (aeW l).length≤_;unfold aeW;rw[List.length_reverse];have:=(List.dropWhile_suffix aaZ (l:=l.reverse)).length_le;rw[List.length_reverse] at this;exact this
theorem ane:Tl abk:=fun l=>by
 unfold abk;split
 · exact Nat.zero_le _
 · split
   · show l.dropLast.length≤_;rw[List.length_dropLast];omega
   · exact Nat.le_refl _
theorem amd {b n m:Nat}{rd:List Int→Tk × Int}{r:List Int}(h:Tl rd):(fin b n m rd r).1.text.length≤r.length:=by
 unfold fin;split
 · exact Nat.zero_le _
 · split
   · exact Nat.zero_le _
   · refine Nat.le_trans (h _) ?_;rw[List.length_take];omega
theorem aex {b:Nat}{stop:List Int}{rd:List Int→Tk × Int}{l:List Int}(h:Tl rd):(span b stop rd l).1.text.length≤l.length:=by
 unfold span;split
 · exact Nat.zero_le _
 · refine Nat.le_trans (amd h) ?_;rw[List.length_drop];omega
theorem asX (z:Bool)(l:List Int):(adU z l).1.text.length≤l.length:=by
 unfold adU;split
 · exact aex apR
 split
 · exact aex arq
 split
 · exact aex (asP z)
 split
 · exact aex axf
 split
 · split
   · exact Nat.zero_le _
   · split
     · exact Nat.zero_le _
     · exact Nat.zero_le _
 · unfold adW;split
   · exact Nat.zero_le _
   · refine Nat.le_trans (amd ane) ?_;rw[List.length_drop];omega
theorem aho (l:List Int)(n:Nat)(hn:NN l):(ach l n).1.text.length≤2 * l.length:=by
 unfold ach;split
 · exact Nat.zero_le _
 split
 · exact Nat.zero_le _
 split
 · exact Nat.zero_le _
 · rename_i h;show (acF false (l.take n)).1.length≤_;unfold acF at h ⊢;by_cases c:(aaY false (l.take n)).2.2=0
   · rw[if_pos c];have:=(Tg.agC false _ (l.take n) (Nat.le_refl _) (fun x hx=>hn x (List.mem_of_mem_take hx)) c).2.2.2;refine Nat.le_trans this ?_;rw[List.length_take];omega
   · rw[if_neg c];exact Nat.zero_le _
theorem ayh (L:List Int)(a:Nat)(hn:NN L):(nx L a).1.text.length≤2 * L.length:=by
 have hd:(L.drop a).length≤L.length:=by rw[List.length_drop];omega
 have hnd:NN (L.drop a):=fun x hx=>hn x (List.mem_of_mem_drop hx);unfold nx aaT;split
 · exact Nat.zero_le _
 split
 · have:=asX (decide (a=0)) (L.drop a);omega
 · unfold afx;split
   · rename_i n _;have:=aho (L.drop a) n hnd;omega
   · have:=aho (L.drop a) (L.drop a).length hnd;exact Nat.le_trans this (by omega)
theorem avG {l:List Pr}{nm:ByteArray}{r W:List Pr}{n:Pr}{f:List Tr}(h:Nz.Sc.afq l nm r=.ok (W,n,f)):Nz.Sc.aaM l r=some W:=by
 unfold Nz.Sc.afq at h;split at h
 · cases h
 · rename_i W' hW;split at h
   · cases h
   · split at h
     · cases h
     · injection h with h
       injection h with h _
       rw[hW,h]
theorem adn {s:St}(h:Gd s){x:St}(hx:x.op=s.op):Gd x:=⟨by rw[hx];exact h.dep,fun k y hk=>h.len k y (by rw[← hx];exact hk)⟩
theorem asN {s:St}{t:Tok}(c:(aan s t).2.2≠0):(aan s t).1.op=s.op:=by
 unfold aan at c ⊢;by_cases c1:s.root=true∧s.op=[]
 · rw[if_pos c1];rfl
 rw[if_neg c1] at c ⊢;by_cases c2:(Tg.aaE t.text).1≠0
 · rw[if_pos c2];rfl
 rw[if_neg c2] at c ⊢
 cases ho:Nz.Sc.afq (acI s) (Tg.aaE t.text).2.1 (Tg.aaE t.text).2.2 with
 | error e=>rfl
 | ok q=>
   obtain⟨W,n,f⟩:=q;rw[ho] at c;unfold adE at c ⊢;dsimp only at c ⊢;by_cases c3:64≤s.op.length
   · rw[if_pos c3];rfl
   · rw[if_neg c3] at c;exfalso;apply c;unfold opened;split <;> rfl
theorem a0A {s:St}(h:Gd s)(t:Tok)(ht:t.text.size≤2000000000):Gd (aaF s t).1:=by
 unfold aaF;split
 · exact h
 split
 · exact h
 unfold adi;split
 · by_cases c:(aan s t).2.2=0
   · obtain⟨a1,a2,W,n,f,a3,a4,a5⟩:=amD c;rw[a5];unfold opened;split
     · exact adn h rfl
     · obtain⟨p1,p2,p3,p4⟩:=aiH a2 ht;obtain⟨q1,q2⟩:=h.scp;have hb:=avG a3;have hl:=Nz.Sc.afF _ _ hb;have hm:=Nz.Sc.afM _ _ q2 p3 hb;refine⟨by show (s.op++[_]).length≤64;rw[List.length_append];show s.op.length+1≤64;omega,fun k x hk=> ?_⟩;have hk':(s.op++[((Tg.aaE t.text).2.1,W)])[k]?=some x:=hk;rcases Nat.lt_or_ge k s.op.length with g | g
       · rw[List.getElem?_append_left g] at hk';exact h.len k x hk'
       · rw[List.getElem?_append_right g] at hk'
         have hk0:k - s.op.length=0:=by
          have:=(List.getElem?_eq_some_iff.1 hk').1;simp at this;omega
         rw[hk0] at hk';have:((Tg.aaE t.text).2.1,W)=x:=(by simpa using hk');subst this;exact⟨by show W.length≤_;omega,hm⟩
   · exact adn h (asN c)
 split
 · unfold afr;split
   · refine⟨by show s.op.dropLast.length≤64;rw[List.length_dropLast];have:=h.dep;omega,fun k x hk=>h.len k x ?_⟩;have hk':s.op.dropLast[k]?=some x:=hk;have hlt:=(List.getElem?_eq_some_iff.1 hk').1;rw[List.getElem?_dropLast] at hk';split at hk'
     · exact hk'
     · cases hk'
   · exact adn h rfl
 split
 · unfold acr;split
   · exact adn h rfl
   · split
     · exact h
     · exact adn h rfl
 split
 · unfold lastT;split
   · exact adn h rfl
   · split
     · exact adn h rfl
     · exact adn h rfl
 · exact h
theorem arM {s:St}(t:Tok):(aaF s t).1.wait.size≤s.wait.size+t.text.size:=by
 unfold aaF adi aan afr acr lastT adE opened bad
 repeat' split
 all_goals first | (show s.wait.size≤_;omega) | (show Nz.em.size≤_;exact Nat.zero_le _) | (show (s.wait++t.text).size≤_;rw[abS];omega)
theorem a1m (u:ByteArray):(aaH u).length≤1:=by unfold aaH;split <;> simp
theorem take_len {s:St}(t:Tok):(aaF s t).2.1.length≤3:=by
 have h:=a1m s.wait;unfold aaF adi aan afr acr lastT adE opened bad
 repeat' split
 all_goals first | (show ([]:List Ev).length≤3;decide) | (show (aaH s.wait++_).length≤3;rw[List.length_append];simp;omega)
end Go.Proofs.YtiaebhomfebagaaGreatDoor.Wl
