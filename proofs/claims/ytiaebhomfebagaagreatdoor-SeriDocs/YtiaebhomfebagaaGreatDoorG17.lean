/- Lemmas of the claim. -/
import Derived.Test.YtiaebhomfebagaaGreatDoorG16
set_option maxHeartbeats 8000000
set_option maxRecDepth 100000
set_option linter.unusedSimpArgs false
set_option linter.unusedVariables false
namespace Go.Proofs.YtiaebhomfebagaaGreatDoor.Wl
open Go.RowKit
section
variable {B rb:Nat} {vw vo:Value} {es:List OpP} {s:St} {w w':World}
structure SA (B rb:Nat)(vw vo:Value)(es:List OpP)(s:St)(w:World)(tk:Array Value)(tb:Nat)(nm:ByteArray)(A2:Option Addr)(M c2:Nat)(R:List Pr)(W:World):Prop where
 rw:RW B rb vw vo es s W
 rd:W.ownsRow w.heap.size 167 2 (.slice A2 M c2) M (Nz.Sc.rwL R)
 frm:Frm w W
 bel:Below B w W
 tok:W.heap[w.heap.size]?=some (.cells tk 44 (0,0))
 tag:W.heap[tb]?=some (.cells #[.string nm,.slice A2 M c2] 96 (0,0))
 low:w.heap.size < tb
theorem SA.keep {tk:Array Value}{tb:Nat}{nm:ByteArray}{A2:Option Addr}{M c2:Nat}{R:List Pr}{W W':World}(h:SA B rb vw vo es s w tk tb nm A2 M c2 R W)(hb:Below W.heap.size W W'):SA B rb vw vo es s w tk tb nm A2 M c2 R W':=
 ⟨h.rw.after hb,Nz.Sc.aaj h.rd hb,h.frm.trans (Frm.of_below hb),h.bel.trans (h.rw.call hb),(hb.block _ (Array.getElem?_eq_some_iff.1 h.tok).1).trans h.tok,(hb.block _ (Array.getElem?_eq_some_iff.1 h.tag).1).trans h.tag,h.low⟩
theorem SA.lt {tk:Array Value}{tb:Nat}{nm:ByteArray}{A2:Option Addr}{M c2:Nat}{R:List Pr}{W:World}(h:SA B rb vw vo es s w tk tb nm A2 M c2 R W):w.heap.size≤W.heap.size:=Nat.le_of_lt (Array.getElem?_eq_some_iff.1 h.tok).1
theorem SA.t0 {tk:Array Value}{tb:Nat}{nm:ByteArray}{A2:Option Addr}{M c2:Nat}{R:List Pr}{W:World}(h:SA B rb vw vo es s w tk tb nm A2 M c2 R W):W.cell? ⟨tb,0,none⟩=some (.string nm):=Nz.Sc.aaf h.tag 0 rfl
theorem SA.t1 {tk:Array Value}{tb:Nat}{nm:ByteArray}{A2:Option Addr}{M c2:Nat}{R:List Pr}{W:World}(h:SA B rb vw vo es s w tk tb nm A2 M c2 R W):W.cell? ⟨tb,1,none⟩=some (.slice A2 M c2):=Nz.Sc.aaf h.tag 1 rfl
theorem SA.rdr {tk:Array Value}{tb:Nat}{nm:ByteArray}{A2:Option Addr}{M c2:Nat}{R:List Pr}{W:World}(h:SA B rb vw vo es s w tk tb nm A2 M c2 R W)(hM:M=R.length):Nz.Sc.RdR W A2 R:=by
 have h1:=h.rd;rw[hM] at h1;obtain⟨A,c,e,h2,_⟩:=Nz.Sc.abI (show Nz.Sc.agQ 167 W w.heap.size (.slice A2 R.length c2) R from h1);injection e with e1
 rw[e1];exact h2
theorem aqH {W:World}{a b:Nat}{cs ds:Array Value}{S T:TypeId}{fr fs:Nat × Nat}(h1:W.heap[a]?=some (.cells cs S fr))(h2:W.heap[b]?=some (.cells ds T fs))(hT:S≠T):a≠b:=by
 rintro rfl;rw[h1] at h2;injection h2 with h2
 injection h2 with _ q _
 exact hT q
theorem RW.a6t (h:RW B rb vw vo es s w){b:Nat}{cs:Array Value}{fr:Nat × Nat}(hb:w.heap[b]?=some (.cells cs 54 fr))(j:Nat)(x:Value):RW B rb vw vo es s (w.setCell ⟨b,j,none⟩ x):=
 ⟨h.lo,(abg (aqH h.blk hb (by decide))).trans h.blk,Wl.aar h.wt hb (by decide) j x,h.eq,Wl.aar h.op hb (by decide) j x,fun y hy=>Wl.aar (h.own y hy) hb (by decide) j x,by simpa [World.setCell] using h.siz⟩
theorem SA.set {tk:Array Value}{tb:Nat}{nm:ByteArray}{A2:Option Addr}{M c2:Nat}{R:List Pr}{W:World}(h:SA B rb vw vo es s w tk tb nm A2 M c2 R W){b:Nat}{cs:Array Value}{fr:Nat × Nat}(hb:W.heap[b]?=some (.cells cs 54 fr))(hlo:w.heap.size≤b)(hB:B≤w.heap.size)(j:Nat)(x:Value):SA B rb vw vo es s w tk tb nm A2 M c2 R (W.setCell ⟨b,j,none⟩ x):=
 ⟨h.rw.a6t hb j x,Wl.aar h.rd hb (by decide) j x,(fun k cs T fr hk h1 h2 h3=>(abg (by have:=(Array.getElem?_eq_some_iff.1 hk).1;omega)).trans (h.frm k cs T fr hk h1 h2 h3)),h.bel.setCell (p:=⟨b,j,none⟩) (Nat.le_trans hB hlo) x,
  (abg (aqH h.tok hb (by decide))).trans h.tok,(abg (aqH h.tag hb (by decide))).trans h.tag,h.low⟩
theorem SA.aiU {tk:Array Value}{tb:Nat}{nm:ByteArray}{A2:Option Addr}{M c2:Nat}{R:List Pr}{W:World}(h:SA B rb vw vo es s w tk tb nm A2 M c2 R W){b:Nat}{cs:Array Value}{fr:Nat × Nat}(hb:W.heap[b]?=some (.cells cs 54 fr))(hlo:w.heap.size≤b)(hB:B≤w.heap.size)(x0 x1 x2 x3 x4:Value):
 SA B rb vw vo es s w tk tb nm A2 M c2 R (((((W.setCell ⟨b,0,none⟩ x0).setCell ⟨b,1,none⟩ x1).setCell ⟨b,2,none⟩ x2).setCell ⟨b,3,none⟩ x3).setCell ⟨b,4,none⟩ x4):=by
 have b1:=abF (j:=0) (x:=x0) hb;have b2:=abF (j:=1) (x:=x1) b1;have b3:=abF (j:=2) (x:=x2) b2;have b4:=abF (j:=3) (x:=x3) b3;exact((((h.set hb hlo hB 0 x0).set b1 hlo hB 1 x1).set b2 hlo hB 2 x2).set b3 hlo hB 3 x3).set b4 hlo hB 4 x4
theorem aqJ (h:RW B rb vw vo es s w)(hG:Gl w)(he:s.err=0)(k:Int)(m:ByteArray)(em bk:Bool)(hm:m.size≤2000000000)(hgd:Gd s)(hr:¬ (s.root=true∧s.op=[]))(hp:(Tg.aaE m).1=0)(c:Int)(hc:c≠0)(ho:Nz.Sc.afq (acI s) (Tg.aaE m).2.1 (Tg.aaE m).2.2=.error c):
 Calls Tryz.prog 32 #[.pointer (some ⟨rb,0,none⟩),.agg #[.int .i64 k,.string m,.bool em,.bool bk]] w (TkP B rb (aan s ⟨k,m,em,bk⟩) (clr (aan s ⟨k,m,em,bk⟩).1) w):=by
 have HW:=aac h;have HR:=aac (h.box (.cells #[.int .i64 k,.string m,.bool em,.bool bk] 44));have CD:=aac (aaI HR.out);have HX:Hid (aan s ⟨k,m,em,bk⟩=bad s c):=aac (by unfold aan;rw[if_neg hr,if_neg (Decidable.not_not.2 hp),ho];rfl);have CP:=aac (Tg.adN m (w.alloc (.cells #[.int .i64 k,.string m,.bool em,.bool bk] 44)) (hG.alloc _).vars (by omega));have c2:=HR.out.c2
 have hq:s.root=true→((s.op.length:Int) == 0)=false:=fun e=>by
  rw[beq_eq_false_iff_ne];intro e2;exact hr ⟨e,List.eq_nil_of_length_eq_zero (by omega)⟩
 obtain⟨pl1,pl2,pl3,pl4⟩:=aiH hp hm;obtain⟨sl1,sl2⟩:=hgd.scp;have hdp:=hgd.dep;have CB:Hid (∀ W,RW B rb vw vo es s W→Calls Tryz.prog 50 #[.pointer (some ⟨rb,0,none⟩)] W (fun e w'=>∃ v,e=.returned v∧Nz.Sc.agQ 164 w' B v (acI s)∧Below W.heap.size W w')):=aac fun W hW=>aeT hW hgd.dep
 have CE:Hid (∀ (W:World) (v:Value) (A2:Option Addr) (M c2:Nat),Nz.Sc.agQ 164 W B v (acI s)→Nz.Sc.RdR W A2 (Tg.aaE m).2.2→M=(Tg.aaE m).2.2.length→Calls Tryz.prog 49 #[v,.agg #[.string (Tg.aaE m).2.1,.slice A2 M c2]] W (Nz.Sc.aez W (Nz.Sc.afq (acI s) (Tg.aaE m).2.1 (Tg.aaE m).2.2))):=aac fun W v A2 M c2 hv hR hM=>by
  obtain⟨A,c,hv1,hv2,_⟩:=Nz.Sc.abI hv;rw[hv1];exact Nz.Sc.agM c c2 ⟨rfl,hM,by omega,by omega,pl1,sl2,pl3,pl4,hv2,hR⟩
 rw[ho] at CE;clear h hr hG pl1 pl3 pl4 sl1 sl2 hgd;generalize aan s ⟨k,m,em,bk⟩=y at *;generalize acI s=L at *;obtain⟨n,hn⟩:∃ n,n=s.op.length:=⟨_,rfl⟩;have HN:=aac hn;rw[← hn] at CD hq hdp;clear hn
 revert CP
 generalize Tg.aaE m=q at *;obtain⟨er,pn,R⟩:=q;dsimp only at ho HX CE pl2 hp ⊢;intro CP;subst hp;cases hroot:s.root
 all_goals
  rw[hroot] at c2;have hq1:=hq;rw[hroot] at hq1
  try have hq2:=hq1 rfl
  clear hq1 hq;go_enter Tryz.func32,Tryz.ntmps32;go_wp2_with fail
  try (refine CD.out.mono ?_;rintro e w1 ⟨rfl,rfl⟩;go_wp2_with fail)
  refine CP.out.mono ?_;rintro e w1 ⟨v1,rfl,ho1,hb1⟩;obtain⟨A2,c2',hv1,hR1⟩:=Tg.abI ho1;obtain⟨M,hM⟩:∃ M,M=R.length:=⟨_,rfl⟩;have hv2:v1=.slice A2 M c2':=(by rw[hv1,hM]);subst hv2;have ho2:w1.ownsRow (w.alloc (.cells #[.int .i64 k,.string m,.bool em,.bool bk] 44)).heap.size 167 2 (.slice A2 M c2') R.length (Nz.Sc.rwL R):=ho1;rw[← hM] at ho2;have hs1:w.heap.size < w1.heap.size:=by have:=hb1.size;simp at this;omega
  have HS:=aac (show SA B rb vw vo es s w #[.int .i64 k,.string m,.bool em,.bool bk] w1.heap.size pn A2 M c2' R (w1.alloc (.cells #[.string pn,.slice A2 M c2'] 96)) from
   ⟨(HR.out.after hb1).box _,aam (Nz.Sc.aaj ho2 ((Below.refl _ w1).alloc (Nat.le_refl _) _)) (by rw[World.size_alloc];omega),((aaz w _).trans (Frm.of_below hb1)).trans (aaz w1 _),((aaK HW.out _).trans (HR.out.call hb1)).trans (aaK (HR.out.after hb1) _),
     (Below.heap_alloc _ _ _ hs1).trans ((hb1.block w.heap.size (by simp)).trans (Nz.Sc.abJ w 44 _)),Nz.Sc.abJ w1 96 _,hs1⟩)
  have HM:=aac hM;clear hM hv1 hR1 ho1 ho2 hb1 CP CD c2 HR;dsimp only;go_wp2_with fail;generalize w1.heap.size=p at *;generalize w1.alloc (.cells #[.string pn,.slice A2 M c2'] 96)=V0 at *;have HBs:=HW.out.siz;have H0d:=aac (HS.out.keep (Below.refl _ V0).drew);have H0a:=aac (HS.out.keep ((Below.refl _ V0).alloc (Nat.le_refl _) (.cells #[.int .i64 0,.string ⟨#[]⟩,.string ⟨#[]⟩,.slice none 0 0,.string ⟨#[]⟩] 54)));have H0ad:=aac (HS.out.keep ((Below.refl _ V0).alloc (Nat.le_refl _) (.cells #[.int .i64 0,.string ⟨#[]⟩,.string ⟨#[]⟩,.slice none 0 0,.string ⟨#[]⟩] 54)).drew);have E0:=aac (Nz.Sc.abJ V0 54 #[.int .i64 0,.string ⟨#[]⟩,.string ⟨#[]⟩,.slice none 0 0,.string ⟨#[]⟩]);have lv:=HS.out.lt;have lt0:V0.heap.size < (V0.alloc (.cells #[.int .i64 0,.string ⟨#[]⟩,.string ⟨#[]⟩,.slice none 0 0,.string ⟨#[]⟩] 54)).drew.heap.size:=by show V0.heap.size < (V0.alloc _).heap.size;simp
  go_region_held3 (fun W=>W.cell? ⟨p,0,none⟩=some (.string pn)∧W.cell? ⟨p,1,none⟩=some (.slice A2 M c2')∧Hid (SA B rb vw vo es s w #[.int .i64 k,.string m,.bool em,.bool bk] p pn A2 M c2' R W))
   (first
     | with_reducible exact⟨HS.out.t0,HS.out.t1,HS⟩
     | with_reducible exact⟨H0d.out.t0,H0d.out.t1,H0d⟩
     | with_reducible exact⟨H0a.out.t0,H0a.out.t1,H0a⟩
     | with_reducible exact⟨H0ad.out.t0,H0ad.out.t1,H0ad⟩
     | (go_split_ands;with_reducible exact⟨by assumption,by assumption,by assumption⟩)
     | with_reducible exact⟨(H5.out.keep ((Below.refl _ w5).alloc (Nat.le_refl _) _)).t0,(H5.out.keep ((Below.refl _ w5).alloc (Nat.le_refl _) _)).t1,aac (H5.out.keep ((Below.refl _ w5).alloc (Nat.le_refl _) _))⟩
     | with_reducible exact⟨(H5.out.aiU E5.out (by omega) HBs _ _ _ _ _).t0,(H5.out.aiU E5.out (by omega) HBs _ _ _ _ _).t1,aac (H5.out.aiU E5.out (by omega) HBs _ _ _ _ _)⟩
     | with_reducible exact⟨(H4.out.keep ((Below.refl _ w4).alloc (Nat.le_refl _) _)).t0,(H4.out.keep ((Below.refl _ w4).alloc (Nat.le_refl _) _)).t1,aac (H4.out.keep ((Below.refl _ w4).alloc (Nat.le_refl _) _))⟩
     | fail)
   (first
     | (go_at_call 50;with_reducible refine(CB.out _ (H0d.out.rw)).mono ?_;rintro e w4 ⟨v4,rfl,ho4,hb4⟩;have H4:=aac (H0d.out.keep hb4);have q0:=H4.out.t0;have q1:=H4.out.t1;have O4:=aac ho4;have l4:=H4.out.lt;clear ho4 hb4)
     | (go_at_call 50;refine(CB.out _ (H0ad.out.rw)).mono ?_;rintro e w4 ⟨v4,rfl,ho4,hb4⟩;have H4:=aac (H0ad.out.keep hb4);have q0:=H4.out.t0;have q1:=H4.out.t1;have O4:=aac ho4;have l4:=H4.out.lt;have E4:=aac ((hb4.block V0.heap.size lt0).trans E0.out);clear ho4 hb4)
     | (go_at_call 49;refine(CE.out w4 v4 A2 M c2' O4.out (H4.out.rdr HM.out) HM.out).mono ?_;rintro e w5 ⟨g5,g5',hb5⟩;have g6:=g5 c rfl;unfold Nz.Sc.evZ at g6;subst g6;clear g5 g5';have H5:=aac (H4.out.keep hb5);have E5:=aac ((hb5.block V0.heap.size (Array.getElem?_eq_some_iff.1 E4.out).1).trans E4.out);have z0:=Nz.Sc.aaf E5.out 0 (u:=.int .i64 0) rfl;have z1:=Nz.Sc.aaf E5.out 1 (u:=.string ⟨#[]⟩) rfl;have z2:=Nz.Sc.aaf E5.out 2 (u:=.string ⟨#[]⟩) rfl;have z3:=Nz.Sc.aaf E5.out 3 (u:=.slice none 0 0) rfl;have z4:=Nz.Sc.aaf E5.out 4 (u:=.string ⟨#[]⟩) rfl;have f0:=Nz.Sc.aag E5.out 0;have f1:=Nz.Sc.aag E5.out 1;have f2:=Nz.Sc.aag E5.out 2;have f3:=Nz.Sc.aag E5.out 3;have f4:=Nz.Sc.aag E5.out 4;have r0:=H5.out.t0;have r1:=H5.out.t1;have l5:=H5.out.lt;clear hb5)
     | (go_at_call 49;refine(CE.out w4 v4 A2 M c2' O4.out (H4.out.rdr HM.out) HM.out).mono ?_;rintro e w5 ⟨g5,g5',hb5⟩;have g6:=g5 c rfl;unfold Nz.Sc.evZ at g6;subst g6;clear g5 g5';have H5:=aac (H4.out.keep hb5);have r0:=H5.out.t0;have r1:=H5.out.t1;have l5:=H5.out.lt;clear hb5)
     | (go_at_call 49;refine(CE.out (w4.alloc (.cells #[.int .i64 0,.string ⟨#[]⟩,.string ⟨#[]⟩,.slice none 0 0,.string ⟨#[]⟩] 54)) v4 A2 M c2' (Nz.Sc.aaj O4.out ((Below.refl _ w4).alloc (Nat.le_refl _) (.cells #[.int .i64 0,.string ⟨#[]⟩,.string ⟨#[]⟩,.slice none 0 0,.string ⟨#[]⟩] 54))) ((H4.out.keep ((Below.refl _ w4).alloc (Nat.le_refl _) (.cells #[.int .i64 0,.string ⟨#[]⟩,.string ⟨#[]⟩,.slice none 0 0,.string ⟨#[]⟩] 54))).rdr HM.out) HM.out).mono ?_;rintro e w5 ⟨g5,g5',hb5⟩;have g6:=g5 c rfl;unfold Nz.Sc.evZ at g6;subst g6;clear g5 g5';have H5:=aac ((H4.out.keep ((Below.refl _ w4).alloc (Nat.le_refl _) (.cells #[.int .i64 0,.string ⟨#[]⟩,.string ⟨#[]⟩,.slice none 0 0,.string ⟨#[]⟩] 54))).keep hb5);have E5:=aac ((hb5.block w4.heap.size (by simp)).trans (Nz.Sc.abJ w4 54 #[.int .i64 0,.string ⟨#[]⟩,.string ⟨#[]⟩,.slice none 0 0,.string ⟨#[]⟩]));have z0:=Nz.Sc.aaf E5.out 0 (u:=.int .i64 0) rfl;have z1:=Nz.Sc.aaf E5.out 1 (u:=.string ⟨#[]⟩) rfl;have z2:=Nz.Sc.aaf E5.out 2 (u:=.string ⟨#[]⟩) rfl;have z3:=Nz.Sc.aaf E5.out 3 (u:=.slice none 0 0) rfl;have z4:=Nz.Sc.aaf E5.out 4 (u:=.string ⟨#[]⟩) rfl;have f0:=Nz.Sc.aag E5.out 0;have f1:=Nz.Sc.aag E5.out 1;have f2:=Nz.Sc.aag E5.out 2;have f3:=Nz.Sc.aag E5.out 3;have f4:=Nz.Sc.aag E5.out 4;have r0:=H5.out.t0;have r1:=H5.out.t1;have l5:=H5.out.lt;clear hb5)
     | fail)
  all_goals
   rename_i hHeld;obtain⟨-,-,SX⟩:=hHeld;have t1:(c != 0)=true:=bne_iff_ne.2 hc;go_wp2;go_ret2;exact aeg HX.out he SX.out.rw SX.out.frm SX.out.bel
theorem akR (h:RW B rb vw vo es s w)(hG:Gl w)(he:s.err=0)(k:Int)(m:ByteArray)(em bk:Bool)(hm:m.size≤2000000000)(hgd:Gd s)(hr:¬ (s.root=true∧s.op=[]))(hp:(Tg.aaE m).1=0)(Ws:List Pr)(na nb:ByteArray)(ff:List Tr)(ho:Nz.Sc.afq (acI s) (Tg.aaE m).2.1 (Tg.aaE m).2.2=.ok (Ws,(na,nb),ff))(h64:64≤s.op.length):
 Calls Tryz.prog 32 #[.pointer (some ⟨rb,0,none⟩),.agg #[.int .i64 k,.string m,.bool em,.bool bk]] w (TkP B rb (aan s ⟨k,m,em,bk⟩) (clr (aan s ⟨k,m,em,bk⟩).1) w):=by
 have HW:=aac h;have HR:=aac (h.box (.cells #[.int .i64 k,.string m,.bool em,.bool bk] 44));have CD:=aac (aaI HR.out);have HX:Hid (aan s ⟨k,m,em,bk⟩=bad s 13):=aac (by unfold aan;rw[if_neg hr,if_neg (Decidable.not_not.2 hp),ho];show (if 64≤s.op.length then _ else _)=_;rw[if_pos h64]);have CP:=aac (Tg.adN m (w.alloc (.cells #[.int .i64 k,.string m,.bool em,.bool bk] 44)) (hG.alloc _).vars (by omega));have c2:=HR.out.c2
 have hq:s.root=true→((s.op.length:Int) == 0)=false:=fun e=>by
  rw[beq_eq_false_iff_ne];intro e2;exact hr ⟨e,List.eq_nil_of_length_eq_zero (by omega)⟩
 obtain⟨pl1,pl2,pl3,pl4⟩:=aiH hp hm;obtain⟨sl1,sl2⟩:=hgd.scp;have hdp:=hgd.dep;have CB:Hid (∀ W,RW B rb vw vo es s W→Calls Tryz.prog 50 #[.pointer (some ⟨rb,0,none⟩)] W (fun e w'=>∃ v,e=.returned v∧Nz.Sc.agQ 164 w' B v (acI s)∧Below W.heap.size W w')):=aac fun W hW=>aeT hW hgd.dep
 have CE:Hid (∀ (W:World) (v:Value) (A2:Option Addr) (M c2:Nat),Nz.Sc.agQ 164 W B v (acI s)→Nz.Sc.RdR W A2 (Tg.aaE m).2.2→M=(Tg.aaE m).2.2.length→Calls Tryz.prog 49 #[v,.agg #[.string (Tg.aaE m).2.1,.slice A2 M c2]] W (Nz.Sc.aez W (Nz.Sc.afq (acI s) (Tg.aaE m).2.1 (Tg.aaE m).2.2))):=aac fun W v A2 M c2 hv hR hM=>by
  obtain⟨A,c,hv1,hv2,_⟩:=Nz.Sc.abI hv;rw[hv1];exact Nz.Sc.agM c c2 ⟨rfl,hM,by omega,by omega,pl1,sl2,pl3,pl4,hv2,hR⟩
 rw[ho] at CE;clear h hr hG pl1 pl3 pl4 sl1 sl2 hgd;generalize aan s ⟨k,m,em,bk⟩=y at *;generalize acI s=L at *;obtain⟨n,hn⟩:∃ n,n=s.op.length:=⟨_,rfl⟩;have HN:=aac hn;rw[← hn] at CD hq hdp h64;clear hn
 revert CP
 generalize Tg.aaE m=q at *;obtain⟨er,pn,R⟩:=q;dsimp only at ho HX CE pl2 hp ⊢;intro CP;subst hp;cases hroot:s.root
 all_goals
  rw[hroot] at c2;have hq1:=hq;rw[hroot] at hq1
  try have hq2:=hq1 rfl
  clear hq1 hq;go_enter Tryz.func32,Tryz.ntmps32;go_wp2_with fail
  try (refine CD.out.mono ?_;rintro e w1 ⟨rfl,rfl⟩;go_wp2_with fail)
  refine CP.out.mono ?_;rintro e w1 ⟨v1,rfl,ho1,hb1⟩;obtain⟨A2,c2',hv1,hR1⟩:=Tg.abI ho1;obtain⟨M,hM⟩:∃ M,M=R.length:=⟨_,rfl⟩;have hv2:v1=.slice A2 M c2':=(by rw[hv1,hM]);subst hv2;have ho2:w1.ownsRow (w.alloc (.cells #[.int .i64 k,.string m,.bool em,.bool bk] 44)).heap.size 167 2 (.slice A2 M c2') R.length (Nz.Sc.rwL R):=ho1;rw[← hM] at ho2;have hs1:w.heap.size < w1.heap.size:=by have:=hb1.size;simp at this;omega
  have HS:=aac (show SA B rb vw vo es s w #[.int .i64 k,.string m,.bool em,.bool bk] w1.heap.size pn A2 M c2' R (w1.alloc (.cells #[.string pn,.slice A2 M c2'] 96)) from
   ⟨(HR.out.after hb1).box _,aam (Nz.Sc.aaj ho2 ((Below.refl _ w1).alloc (Nat.le_refl _) _)) (by rw[World.size_alloc];omega),((aaz w _).trans (Frm.of_below hb1)).trans (aaz w1 _),((aaK HW.out _).trans (HR.out.call hb1)).trans (aaK (HR.out.after hb1) _),
     (Below.heap_alloc _ _ _ hs1).trans ((hb1.block w.heap.size (by simp)).trans (Nz.Sc.abJ w 44 _)),Nz.Sc.abJ w1 96 _,hs1⟩)
  have HM:=aac hM;clear hM hv1 hR1 ho1 ho2 hb1 CP CD c2 HR;dsimp only;go_wp2_with fail;generalize w1.heap.size=p at *;generalize w1.alloc (.cells #[.string pn,.slice A2 M c2'] 96)=V0 at *;have HBs:=HW.out.siz;have H0d:=aac (HS.out.keep (Below.refl _ V0).drew);have H0a:=aac (HS.out.keep ((Below.refl _ V0).alloc (Nat.le_refl _) (.cells #[.int .i64 0,.string ⟨#[]⟩,.string ⟨#[]⟩,.slice none 0 0,.string ⟨#[]⟩] 54)));have H0ad:=aac (HS.out.keep ((Below.refl _ V0).alloc (Nat.le_refl _) (.cells #[.int .i64 0,.string ⟨#[]⟩,.string ⟨#[]⟩,.slice none 0 0,.string ⟨#[]⟩] 54)).drew);have E0:=aac (Nz.Sc.abJ V0 54 #[.int .i64 0,.string ⟨#[]⟩,.string ⟨#[]⟩,.slice none 0 0,.string ⟨#[]⟩]);have lv:=HS.out.lt;have lt0:V0.heap.size < (V0.alloc (.cells #[.int .i64 0,.string ⟨#[]⟩,.string ⟨#[]⟩,.slice none 0 0,.string ⟨#[]⟩] 54)).drew.heap.size:=by show V0.heap.size < (V0.alloc _).heap.size;simp
  go_region_held3 (fun W=>W.cell? ⟨p,0,none⟩=some (.string pn)∧W.cell? ⟨p,1,none⟩=some (.slice A2 M c2')∧Hid (SA B rb vw vo es s w #[.int .i64 k,.string m,.bool em,.bool bk] p pn A2 M c2' R W))
   (first
     | with_reducible exact⟨HS.out.t0,HS.out.t1,HS⟩
     | with_reducible exact⟨H0d.out.t0,H0d.out.t1,H0d⟩
     | with_reducible exact⟨H0a.out.t0,H0a.out.t1,H0a⟩
     | with_reducible exact⟨H0ad.out.t0,H0ad.out.t1,H0ad⟩
     | (go_split_ands;with_reducible exact⟨by assumption,by assumption,by assumption⟩)
     | with_reducible exact⟨(H5.out.keep ((Below.refl _ w5).alloc (Nat.le_refl _) _)).t0,(H5.out.keep ((Below.refl _ w5).alloc (Nat.le_refl _) _)).t1,aac (H5.out.keep ((Below.refl _ w5).alloc (Nat.le_refl _) _))⟩
     | with_reducible exact⟨(H5.out.aiU E5.out (by omega) HBs _ _ _ _ _).t0,(H5.out.aiU E5.out (by omega) HBs _ _ _ _ _).t1,aac (H5.out.aiU E5.out (by omega) HBs _ _ _ _ _)⟩
     | with_reducible exact⟨(H4.out.keep ((Below.refl _ w4).alloc (Nat.le_refl _) _)).t0,(H4.out.keep ((Below.refl _ w4).alloc (Nat.le_refl _) _)).t1,aac (H4.out.keep ((Below.refl _ w4).alloc (Nat.le_refl _) _))⟩
     | fail)
   (first
     | (go_at_call 50;with_reducible refine(CB.out _ (H0d.out.rw)).mono ?_;rintro e w4 ⟨v4,rfl,ho4,hb4⟩;have H4:=aac (H0d.out.keep hb4);have q0:=H4.out.t0;have q1:=H4.out.t1;have O4:=aac ho4;have l4:=H4.out.lt;clear ho4 hb4)
     | (go_at_call 50;refine(CB.out _ (H0ad.out.rw)).mono ?_;rintro e w4 ⟨v4,rfl,ho4,hb4⟩;have H4:=aac (H0ad.out.keep hb4);have q0:=H4.out.t0;have q1:=H4.out.t1;have O4:=aac ho4;have l4:=H4.out.lt;have E4:=aac ((hb4.block V0.heap.size lt0).trans E0.out);clear ho4 hb4)
     | (go_at_call 49;refine(CE.out w4 v4 A2 M c2' O4.out (H4.out.rdr HM.out) HM.out).mono ?_;rintro e w5 ⟨g5,g5',hb5⟩;obtain⟨v5,va5,g6,P5,T5⟩:=g5' Ws (na,nb) ff rfl;unfold Nz.Sc.evV at g6;dsimp only at g6;obtain⟨AW,cW,rfl⟩:=Nz.Sc.aai P5;obtain⟨AF,cF,rfl⟩:=Nz.Sc.aai T5;subst g6;have P6:=aac P5;have T6:=aac T5;clear g5 g5' P5 T5;have H5:=aac (H4.out.keep hb5);have E5:=aac ((hb5.block V0.heap.size (Array.getElem?_eq_some_iff.1 E4.out).1).trans E4.out);have z0:=Nz.Sc.aaf E5.out 0 (u:=.int .i64 0) rfl;have z1:=Nz.Sc.aaf E5.out 1 (u:=.string ⟨#[]⟩) rfl;have z2:=Nz.Sc.aaf E5.out 2 (u:=.string ⟨#[]⟩) rfl;have z3:=Nz.Sc.aaf E5.out 3 (u:=.slice none 0 0) rfl;have z4:=Nz.Sc.aaf E5.out 4 (u:=.string ⟨#[]⟩) rfl;have f0:=Nz.Sc.aag E5.out 0;have f1:=Nz.Sc.aag E5.out 1;have f2:=Nz.Sc.aag E5.out 2;have f3:=Nz.Sc.aag E5.out 3;have f4:=Nz.Sc.aag E5.out 4;have r0:=H5.out.t0;have r1:=H5.out.t1;have l5:=H5.out.lt;clear hb5)
     | (go_at_call 49;refine(CE.out w4 v4 A2 M c2' O4.out (H4.out.rdr HM.out) HM.out).mono ?_;rintro e w5 ⟨g5,g5',hb5⟩;obtain⟨v5,va5,g6,P5,T5⟩:=g5' Ws (na,nb) ff rfl;unfold Nz.Sc.evV at g6;dsimp only at g6;obtain⟨AW,cW,rfl⟩:=Nz.Sc.aai P5;obtain⟨AF,cF,rfl⟩:=Nz.Sc.aai T5;subst g6;have P6:=aac P5;have T6:=aac T5;clear g5 g5' P5 T5;have H5:=aac (H4.out.keep hb5);have r0:=H5.out.t0;have r1:=H5.out.t1;have l5:=H5.out.lt;clear hb5)
     | (go_at_call 49;refine(CE.out (w4.alloc (.cells #[.int .i64 0,.string ⟨#[]⟩,.string ⟨#[]⟩,.slice none 0 0,.string ⟨#[]⟩] 54)) v4 A2 M c2' (Nz.Sc.aaj O4.out ((Below.refl _ w4).alloc (Nat.le_refl _) (.cells #[.int .i64 0,.string ⟨#[]⟩,.string ⟨#[]⟩,.slice none 0 0,.string ⟨#[]⟩] 54))) ((H4.out.keep ((Below.refl _ w4).alloc (Nat.le_refl _) (.cells #[.int .i64 0,.string ⟨#[]⟩,.string ⟨#[]⟩,.slice none 0 0,.string ⟨#[]⟩] 54))).rdr HM.out) HM.out).mono ?_;rintro e w5 ⟨g5,g5',hb5⟩;obtain⟨v5,va5,g6,P5,T5⟩:=g5' Ws (na,nb) ff rfl;unfold Nz.Sc.evV at g6;dsimp only at g6;obtain⟨AW,cW,rfl⟩:=Nz.Sc.aai P5;obtain⟨AF,cF,rfl⟩:=Nz.Sc.aai T5;subst g6;have P6:=aac P5;have T6:=aac T5;clear g5 g5' P5 T5;have H5:=aac ((H4.out.keep ((Below.refl _ w4).alloc (Nat.le_refl _) (.cells #[.int .i64 0,.string ⟨#[]⟩,.string ⟨#[]⟩,.slice none 0 0,.string ⟨#[]⟩] 54))).keep hb5);have E5:=aac ((hb5.block w4.heap.size (by simp)).trans (Nz.Sc.abJ w4 54 #[.int .i64 0,.string ⟨#[]⟩,.string ⟨#[]⟩,.slice none 0 0,.string ⟨#[]⟩]));have z0:=Nz.Sc.aaf E5.out 0 (u:=.int .i64 0) rfl;have z1:=Nz.Sc.aaf E5.out 1 (u:=.string ⟨#[]⟩) rfl;have z2:=Nz.Sc.aaf E5.out 2 (u:=.string ⟨#[]⟩) rfl;have z3:=Nz.Sc.aaf E5.out 3 (u:=.slice none 0 0) rfl;have z4:=Nz.Sc.aaf E5.out 4 (u:=.string ⟨#[]⟩) rfl;have f0:=Nz.Sc.aag E5.out 0;have f1:=Nz.Sc.aag E5.out 1;have f2:=Nz.Sc.aag E5.out 2;have f3:=Nz.Sc.aag E5.out 3;have f4:=Nz.Sc.aag E5.out 4;have r0:=H5.out.t0;have r1:=H5.out.t1;have l5:=H5.out.lt;clear hb5)
     | fail)
  all_goals
   rename_i hHeld;obtain⟨-,-,SX⟩:=hHeld;clear CB CE HS H0d H0a H0ad E0 lt0
   first
    | (have E6:w5.heap[w4.heap.size]?=some (.cells #[.int .i64 0,.string ⟨#[]⟩,.string ⟨#[]⟩,.slice none 0 0,.string ⟨#[]⟩] 54 (0,0)):=E5.out;have EB:=aac (Nz.Sc.aiU E6 (.int .i64 1) (.string na) (.string nb) (.slice AF ff.length cF) (.string ⟨#[]⟩));have gg:=Nz.Sc.a3G w5 w4.heap.size (.int .i64 1) (.string na) (.string nb) (.slice AF ff.length cF) (.string ⟨#[]⟩);have PB:=aac (aam (B':=w.heap.size) (World.ownsRow.kept P6.out gg (.inr (Nz.Sc.own_ne P6.out E6 (by decide)))) (by first | omega | (simp;omega)));have TB:=aac (aam (B':=w.heap.size) (World.ownsRow.kept T6.out gg (.inr (Nz.Sc.own_ne T6.out E6 (by decide)))) (by first | omega | (simp;omega)));have hbl:w.heap.size≤w4.heap.size:=(by omega);clear gg E6 E5 z0 z1 z2 z3 z4 f0 f1 f2 f3 f4 P6 T6 H5 r0 r1 H4 q0 q1 O4;generalize ((((w5.setCell ⟨w4.heap.size,0,none⟩ (.int .i64 1)).setCell ⟨w4.heap.size,1,none⟩ (.string na)).setCell ⟨w4.heap.size,2,none⟩ (.string nb)).setCell ⟨w4.heap.size,3,none⟩ (.slice AF ff.length cF)).setCell ⟨w4.heap.size,4,none⟩ (.string ⟨#[]⟩)=V at *;generalize w4.heap.size=b at *)
    | (have E6:w5.heap[V0.heap.size]?=some (.cells #[.int .i64 0,.string ⟨#[]⟩,.string ⟨#[]⟩,.slice none 0 0,.string ⟨#[]⟩] 54 (0,0)):=E5.out;have EB:=aac (Nz.Sc.aiU E6 (.int .i64 1) (.string na) (.string nb) (.slice AF ff.length cF) (.string ⟨#[]⟩));have gg:=Nz.Sc.a3G w5 V0.heap.size (.int .i64 1) (.string na) (.string nb) (.slice AF ff.length cF) (.string ⟨#[]⟩);have PB:=aac (aam (B':=w.heap.size) (World.ownsRow.kept P6.out gg (.inr (Nz.Sc.own_ne P6.out E6 (by decide)))) (by first | omega | (simp;omega)));have TB:=aac (aam (B':=w.heap.size) (World.ownsRow.kept T6.out gg (.inr (Nz.Sc.own_ne T6.out E6 (by decide)))) (by first | omega | (simp;omega)));have hbl:w.heap.size≤V0.heap.size:=(by omega);clear gg E6 E5 z0 z1 z2 z3 z4 f0 f1 f2 f3 f4 P6 T6 H5 r0 r1 H4 q0 q1 O4;generalize ((((w5.setCell ⟨V0.heap.size,0,none⟩ (.int .i64 1)).setCell ⟨V0.heap.size,1,none⟩ (.string na)).setCell ⟨V0.heap.size,2,none⟩ (.string nb)).setCell ⟨V0.heap.size,3,none⟩ (.slice AF ff.length cF)).setCell ⟨V0.heap.size,4,none⟩ (.string ⟨#[]⟩)=V at *;generalize V0.heap.size=b at *)
    | (fail_if_success (have E9:=E5.out)
       have EB:=aac (Nz.Sc.abJ w5 54 #[.int .i64 1,.string na,.string nb,.slice AF ff.length cF,.string ⟨#[]⟩]);have PB:=aac (aam (B':=w.heap.size) (Nz.Sc.aaj P6.out ((Below.refl _ w5).alloc (Nat.le_refl _) (.cells #[.int .i64 1,.string na,.string nb,.slice AF ff.length cF,.string ⟨#[]⟩] 54))) (by first | omega | (simp;omega)));have TB:=aac (aam (B':=w.heap.size) (Nz.Sc.aaj T6.out ((Below.refl _ w5).alloc (Nat.le_refl _) (.cells #[.int .i64 1,.string na,.string nb,.slice AF ff.length cF,.string ⟨#[]⟩] 54))) (by first | omega | (simp;omega)));have hbl:w.heap.size≤w5.heap.size:=(by omega);clear P6 T6 H5 r0 r1 H4 q0 q1 O4;generalize w5.alloc (.cells #[.int .i64 1,.string na,.string nb,.slice AF ff.length cF,.string ⟨#[]⟩] 54)=V at *;generalize w5.heap.size=b at *)
    | fail
   have CDV:=aac (aaI SX.out.rw);rw[← HN.out] at CDV;have t64:((n:Int) == 64)=true:=by rw[beq_iff_eq];omega
   go_wp2_with fail;refine CDV.out.mono ?_;rintro e w6 ⟨rfl,rfl⟩;go_wp2;go_ret2;exact aeg HX.out he SX.out.rw SX.out.frm SX.out.bel
end
end Go.Proofs.YtiaebhomfebagaaGreatDoor.Wl
