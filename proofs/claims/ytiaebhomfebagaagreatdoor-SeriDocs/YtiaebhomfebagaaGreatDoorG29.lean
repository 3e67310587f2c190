/- Lemmas of the claim. -/
import Derived.Test.YtiaebhomfebagaaGreatDoorG28
import Derived.Test.YtiaebhomfebagaaGreatDoorG26
import Derived.Test.YtiaebhomfebagaaGreatDoorG06
import Derived.Test.YtiaebhomfebagaaGreatDoorG10
import Derived.Deep.Cut
set_option maxHeartbeats 8000000
set_option maxRecDepth 100000
set_option linter.unusedSimpArgs false
set_option linter.unusedVariables false
namespace Go.Proofs.YtiaebhomfebagaaGreatDoor.Ev
open Go.RowKit
def FsC (w0:World)(N:Nat):Prop:=∀ (t:Bool) (tx sp lo:ByteArray) (ats:List P3) (ks:Fo) (post:List RE) (A:Option Addr) (n c:Nat) (W:World),ks.siz < N→n≤100000→(∀ x∈(Fo.cons t tx sp lo ats ks .nil).evs,a0a x)→Below w0.heap.size w0 W→abd w0 A n c ((Fo.cons t tx sp lo ats ks .nil).evs++post)→Calls Tryz.prog 15 #[.slice A n c] W (auF w0 W (Fo.cons t tx sp lo ats ks .nil) post)
def sliceLen:Value→Nat
 | .slice _ n _=>n
 | _=>0
theorem a3U (t:Bool)(tx sp lo:ByteArray)(ats:List P3)(ks:Fo)(r:List RE):∃ x l,(Fo.cons t tx sp lo ats ks .nil).evs++r=x :: l∧x.kind≠3:=by
 rw[Fo.evs];cases t
 · exact⟨⟨1,sp,lo,ats,emB⟩,_,by rw[if_neg (by decide)];rfl,show (1:Int)≠3 by decide⟩
 · exact⟨⟨2,emB,emB,[],tx⟩,_,by rw[if_pos rfl];rfl,show (2:Int)≠3 by decide⟩
theorem aql:∀ f:Fo,f.len≤f.evs.length
 | .nil=>Nat.le_refl _
 | .cons t tx sp lo ats ks nx=>by
   have h1:=aql nx;have h2:=afZ t tx sp lo ats ks;rw[Fo.len,ahL,List.length_append];omega
theorem atW (w0:World)(N:Nat)(hIH:Hid (FsC w0 N))(tx sp lo:ByteArray)(ats:List P3)(ks:Fo)(post:List RE)(A:Option Addr)(n c:Nat)(w:World)(hN:ks.siz < N+1)(hn:n≤100000)(hR:∀ x∈(Fo.cons false tx sp lo ats ks .nil).evs,a0a x)(hw:Below w0.heap.size w0 w)(T0:abd w0 A n c ((Fo.cons false tx sp lo ats ks .nil).evs++post)):
 Calls Tryz.prog 15 #[.slice A n c] w (auF w0 w (Fo.cons false tx sp lo ats ks .nil) post):=by
 have HW:=aac hw;obtain⟨i0,hi,hz0,hz1,hz2⟩:=info_parts Tryz.info32;have hE:(Fo.cons false tx sp lo ats ks .nil).evs++post=(⟨1,sp,lo,ats,emB⟩:RE) :: (ks.evs++clE :: post):=by rw[afz];simp
 rw[hE] at T0;have T:=T0.keep hw;have hR0:a0a ⟨1,sp,lo,ats,emB⟩:=hR _ (by rw[afz];simp);have HR0:=aac hR0;have HRk:Hid (∀ x∈ks.evs,a0a x):=aac fun x hx=>hR x (by rw[afz];simp[hx]);obtain⟨b,off,Aa,na,ca,rfl,hb,TA,c0,c1,c2,c3,c4⟩:=T.head;dsimp only at c0 c1 c2 c3 c4 TA;have hl:=T.len;rw[List.length_cons,List.length_append,List.length_cons] at hl;have hcap:=T.cap.1;have HT1:Hid (abd w0 (some ⟨b,off+5,none⟩) (n - 1) (c - 1) (ks.evs++clE :: post)):=aac T0.tail;have hlen:=aql ks;have HTn:=aac TA.len;have CN:Hid (∀ W,Calls Tryz.prog 23 #[.agg #[.string sp,.string lo]] W fun e w'=>e=.returned (.agg #[.string sp,.string lo])∧Below W.heap.size W w'):=aac fun W=>ahm sp lo W hR0.sp hR0.lo;have CA:Hid (∀ W,Below w.heap.size w W→Calls Tryz.prog 24 #[.slice Aa na ca] W fun e w'=>∃ v,e=.returned v∧w'.ownsRow W.heap.size 40 3 v na (atL ats)∧Below W.heap.size W w'):=aac fun W hW=>aop Aa na ca ats W (TA.keep hW) (by rw[TA.len];exact hR0.cnt) hR0.ats;have g1:(1:Int)≤(n:Int):=(by omega);have g0:(0:Int) < (n:Int):=(by omega);have hc1:¬ c=1:=(by omega);have hkl:ks.len≤100000:=by omega
 have HV:Hid (FE w sp lo Aa na ca ((w.alloc (.cells #[.bool false,.string ⟨#[]⟩,.string ⟨#[]⟩,.string ⟨#[]⟩,.slice none 0 0,.slice none 0 0] 32)).alloc (.cells #[.int .i64 1,.string sp,.string lo,.slice Aa na ca,.string emB] 54)).drew):=aac (by
  have h:=abJ (w.alloc (.cells #[.bool false,.string ⟨#[]⟩,.string ⟨#[]⟩,.string ⟨#[]⟩,.slice none 0 0,.slice none 0 0] 32)) 54 #[.int .i64 1,.string sp,.string lo,.slice Aa na ca,.string emB];rw[World.size_alloc] at h;exact⟨h,(Below.heap_alloc (w.alloc _) _ _ (by simp)).trans (abJ w 32 _),(((Below.refl _ w).alloc (Nat.le_refl _) _).alloc (by simp) _).drew⟩)
 clear T T0 hw hE hR hR0 TA hl;go_enter Tryz.func15,Tryz.ntmps15;go_wp2_with fail;go_region;go_upto_region 4 with fail;generalize ((w.alloc (.cells #[.bool false,.string ⟨#[]⟩,.string ⟨#[]⟩,.string ⟨#[]⟩,.slice none 0 0,.slice none 0 0] 32)).alloc (.cells #[.int .i64 1,.string sp,.string lo,.slice Aa na ca,.string emB] 54)).drew=V at *;clear c0 c1 c2 c3 c4
 go_cut [6] from 16 (fun v6 wx=>∃ (tb:Nat) (A6:Option Addr) (c6:Nat),v6=.pointer (some ⟨tb,0,none⟩)∧Hid (FY w tb sp lo ats A6 na c6 wx))
 case first=>
  have hVz:=HV.out.lt;have Fd:=aac (HV.out.keep (Below.refl _ V).drew);have Fa:=aac (HV.out.keep ((Below.refl _ V).alloc (Nat.le_refl _) (.cells #[.bool false,.string ⟨#[]⟩,.string ⟨#[]⟩,.string ⟨#[]⟩,.slice none 0 0,.slice none 0 0] 32)).drew);have Na:Hid ((V.alloc (.cells #[.bool false,.string ⟨#[]⟩,.string ⟨#[]⟩,.string ⟨#[]⟩,.slice none 0 0,.slice none 0 0] 32)).drew.heap[V.heap.size]?=some (.cells #[.bool false,.string ⟨#[]⟩,.string ⟨#[]⟩,.string ⟨#[]⟩,.slice none 0 0,.slice none 0 0] 32 (0,0))):=aac (abJ V 32 _)
  go_region_held3 (fun W=>W.cell? ⟨w.heap.size+1,1,none⟩=some (.string sp)∧W.cell? ⟨w.heap.size+1,2,none⟩=some (.string lo)∧W.cell? ⟨w.heap.size+1,3,none⟩=some (.slice Aa na ca))
   (first
     | with_reducible exact Fd.out.s3
     | with_reducible exact Fa.out.s3
     | with_reducible exact F5.out.s3
     | with_reducible exact(F5.out.keep ((Below.refl _ w5).alloc (Nat.le_refl _) _)).s3
     | with_reducible exact F6.out.s3
     | with_reducible exact(F6.out.keep ((Below.refl _ w6).alloc (Nat.le_refl _) _)).s3
     | exact F6.out.s3b N6.out hN6 _ _ _ _ _ _
     | fail)
   (first
     | (go_at_call 23;refine(CN.out V.drew).mono ?_;rintro e w5 ⟨rfl,b5⟩;have F5:=aac (Fd.out.keep b5);clear b5)
     | (go_at_call 23;refine(CN.out (V.alloc (.cells #[.bool false,.string ⟨#[]⟩,.string ⟨#[]⟩,.string ⟨#[]⟩,.slice none 0 0,.slice none 0 0] 32)).drew).mono ?_;rintro e w5 ⟨rfl,b5⟩;have F5:=aac (Fa.out.keep b5);have N5:=aac ((b5.block _ (Array.getElem?_eq_some_iff.1 Na.out).1).trans Na.out);clear b5)
     | (go_at_call 24;refine(CA.out w5 F5.out.bel).mono ?_;rintro e w6 ⟨v6,rfl,oa,b6⟩;have F6:=aac (F5.out.keep b6);have N6:=aac ((b6.block _ (Array.getElem?_eq_some_iff.1 N5.out).1).trans N5.out);have hN6:w.heap.size+2≤V.heap.size:=hVz;obtain⟨A6,c6,rfl⟩:=aai oa;have TY:=aac (F6.out.y2 (ahZ oa F5.out.lt) N6.out hN6);obtain⟨z0,z1,z2,z3,z4,z5⟩:=cells6 N6.out;have y0:=aag N6.out 0;have y1:=aag N6.out 1;have y2:=aag N6.out 2;have y3:=aag N6.out 3;have y4:=aag N6.out 4;have y5:=aag N6.out 5;clear b6 oa)
     | (go_at_call 24;refine(CA.out w5 F5.out.bel).mono ?_;rintro e w6 ⟨v6,rfl,oa,b6⟩;have F6:=aac (F5.out.keep b6);obtain⟨A6,c6,rfl⟩:=aai oa;have TY:=aac (F6.out.y1 (ahZ oa F5.out.lt));clear b6 oa)
     | (go_at_call 24;refine(CA.out (w5.alloc (.cells #[.bool false,.string ⟨#[]⟩,.string ⟨#[]⟩,.string ⟨#[]⟩,.slice none 0 0,.slice none 0 0] 32)) (F5.out.keep ((Below.refl _ w5).alloc (Nat.le_refl _) _)).bel).mono ?_;rintro e w6 ⟨v6,rfl,oa,b6⟩;have F6:=aac ((F5.out.keep ((Below.refl _ w5).alloc (Nat.le_refl _) _)).keep b6);have N6:=aac ((b6.block w5.heap.size (by simp)).trans (abJ w5 32 _));have hN6:w.heap.size+2≤w5.heap.size:=F5.out.lt;obtain⟨A6,c6,rfl⟩:=aai oa;have TY:=aac (F6.out.y2 (ahZ oa (Nat.le_trans hN6 (by simp))) N6.out hN6);obtain⟨z0,z1,z2,z3,z4,z5⟩:=cells6 N6.out;have y0:=aag N6.out 0;have y1:=aag N6.out 1;have y2:=aag N6.out 2;have y3:=aag N6.out 3;have y4:=aag N6.out 4;have y5:=aag N6.out 5;clear b6 oa)
     | fail)
  all_goals
   rename_i hHeld;clear hHeld;go_wp2_with fail;go_meet;exact⟨_,A6,c6,rfl,TY⟩
 case rest=>
  obtain⟨tb,A6,c6,rfl,HY⟩:=hcut;have HK0:Hid (abd w0 (some ⟨b,off+5,none⟩) (n - 1) (c - 1) ((ks.drop 0).evs++clE :: post)):=HT1
  have HL0:Hid (FL w tb sp lo ats A6 na c6 (ks.take 0).pln 0 (.slice none 0 0) wc):=aac (by
   rw[show (ks.take 0).pln=.nil by cases ks <;> rfl];exact HY.out.fl)
  clear CN CA HV HY HT1 g0 g1 hc1;go_wp2_with fail;go_loopw [5] (fun r wr=>∃ (k n1 c1:Nat) (A1:Option Addr) (v:Value),r=.slice A1 n1 c1∧k≤ks.len∧n1≤100000∧Hid (abd w0 A1 n1 c1 ((ks.drop k).evs++clE :: post))∧Hid (FL w tb sp lo ats A6 na c6 (ks.take k).pln k v wr)) (fun r _=>sliceLen r);case atStart=>exact⟨0,n - 1,c - 1,_,_,rfl,Nat.zero_le _,by omega,HK0,HL0⟩
  case round=>
   clear HK0 HL0;obtain⟨k,n1,c1,A1,v,rfl,hk,hn1,HT,HL⟩:=hrel;obtain⟨vs,ho,hkv⟩:=HL.out.own;obtain⟨A3,c3,rfl⟩:=aai ho;by_cases hlt:k < ks.len
   · obtain⟨u,ux,us,ul,ua,uk,ed,e2⟩:=drop_cons hlt;have hde:(ks.drop k).evs++clE :: post=(Fo.cons u ux us ul ua uk .nil).evs++((ks.drop (k+1)).evs++clE :: post):=(by rw[ed,ahL u ux us ul ua uk (ks.drop (k+1)),List.append_assoc]);have HBw:=aac (HW.out.trans (HL.out.bel.mono HW.out.size));have HTu:Hid (abd w0 A1 n1 c1 ((Fo.cons u ux us ul ua uk .nil).evs++((ks.drop (k+1)).evs++clE :: post))):=aac (by rw[← hde];exact HT.out);obtain⟨x,l',hx,hxk⟩:=a3U u ux us ul ua uk ((ks.drop (k+1)).evs++clE :: post);have hTx:=HTu.out.keep HBw.out;rw[hx] at hTx;obtain⟨b2,o2,_,_,_,rfl,_,_,d0,_,_,_,_⟩:=hTx.head;have hl2:=hTx.len;rw[List.length_cons] at hl2;have q0:(0:Int) < (n1:Int):=(by omega);have q1:(x.kind != 3)=true:=(by simpa using hxk);have hsk:=ahG ed
     have hRu:∀ y∈(Fo.cons u ux us ul ua uk .nil).evs,a0a y:=fun y hy=>HRk.out y (by
      rw[← aei k ks,arx,ed,ahL];simp[hy])
     have BA:Hid (Below wr.heap.size wr (wr.alloc (.cells #[.bool false,.string ⟨#[]⟩,.string ⟨#[]⟩,.string ⟨#[]⟩,.slice none 0 0,.slice none 0 0] 32))):=aac ((Below.refl _ wr).alloc (Nat.le_refl _) _);have NC:Hid ((wr.alloc (.cells #[.bool false,.string ⟨#[]⟩,.string ⟨#[]⟩,.string ⟨#[]⟩,.slice none 0 0,.slice none 0 0] 32)).heap[wr.heap.size]?=some (.cells #[.bool false,.string ⟨#[]⟩,.string ⟨#[]⟩,.string ⟨#[]⟩,.slice none 0 0,.slice none 0 0] 32 (0,0))):=aac (abJ wr 32 _);have CS:=aac (hIH.out u ux us ul ua uk ((ks.drop (k+1)).evs++clE :: post) _ n1 c1 (wr.alloc (.cells #[.bool false,.string ⟨#[]⟩,.string ⟨#[]⟩,.string ⟨#[]⟩,.slice none 0 0,.slice none 0 0] 32)) (by omega) hn1 hRu (HBw.out.trans (BA.out.mono HBw.out.size)) HTu.out);have HPl:Hid ((ks.take (k+1)).pln=(ks.take k).pln.app (Fo.cons u ux us ul ua uk .nil).pln):=aac (by rw[e2,aqo]);have hpos:1≤(Fo.cons u ux us ul ua uk .nil).evs.length:=afZ _ _ _ _ _ _;have hn1l:n1=(Fo.cons u ux us ul ua uk .nil).evs.length+((ks.drop (k+1)).evs++clE :: post).length:=(by rw[HTu.out.len,List.length_append]);have Hn1:=aac hn1l;have hwt:tb < wr.heap.size:=HL.out.lt.2;have hwt0:w.heap.size≤tb:=by have:=HL.out.lt.1;omega
     have Ho:=aac ho;have Hv:=aac hkv;clear hTx hx ho hkv hl2 hde hRu hn1l HTu;generalize hL2:(ks.drop (k+1)).evs++clE :: post=L2 at *;have HL2:=aac hL2;clear hL2;go_wp2_with fail;refine CS.out.mono ?_;rintro e' w2 ⟨t',tx',sp',lo',ats',ks',Aa',na',ca',Ak',nk',ck',A2,n2,c2,hp,rfl,tr,T2,b2⟩;have HC2:=aac ((b2.block wr.heap.size (by simp)).trans NC.out);obtain⟨h6,g6⟩:=axH (.bool t') (.string tx') (.string sp') (.string lo') (.slice Aa' na' ca') (.slice Ak' nk' ck') HC2.out;have B3:=aac ((BA.out.trans (b2.mono BA.out.size)).grown g6 (Nat.le_trans BA.out.size b2.size) (fun j hj=>by injection hj with hj;omega));have L3:=aac (HL.out.keep B3.out);have T3:=aac T2;have R3:Hid (Tr1 (Pq w.heap.size tb (.slice A3 k c3) (aco w2 wr.heap.size (.bool t') (.string tx') (.string sp') (.string lo') (.slice Aa' na' ca') (.slice Ak' nk' ck'))) (aco w2 wr.heap.size (.bool t') (.string tx') (.string sp') (.string lo') (.slice Aa' na' ca') (.slice Ak' nk' ck')) tx' sp' lo' ats' ks' Aa' na' ca' Ak' nk' ck'):=aac ((tr.grown g6 (fun j hj e=>by injection e with e;have h1:=hj.1;rw[World.size_alloc] at h1;omega)).mono fun j hj=>(FL.child Ho.out hwt hwt0 BA.out.size hj).mono g6.size);have H6:=aac h6;have Hp:=aac hp;obtain⟨z0,z1,z2,z3,z4,z5⟩:=cells6 HC2.out;have y0:=aag HC2.out 0;have y1:=aag HC2.out 1;have y2:=aag HC2.out 2;have y3:=aag HC2.out 3;have y4:=aag HC2.out 4;have y5:=aag HC2.out 5;have hm2:n2 < n1:=by have h1:=T2.len;have h2:=Hn1.out;omega
     clear h6 g6 hp tr T2 b2 CS d0 NC hpos;go_upto_region 8 with fail;change Code.wp _ _ _ _ (aco w2 wr.heap.size (.bool t') (.string tx') (.string sp') (.string lo') (.slice Aa' na' ca') (.slice Ak' nk' ck'));generalize aco w2 wr.heap.size (.bool t') (.string tx') (.string sp') (.string lo') (.slice Aa' na' ca') (.slice Ak' nk' ck')=W3 at *;clear z0 z1 z2 z3 z4 z5 y0 y1 y2 y3 y4 y5;obtain⟨z0,z1,z2,z3,z4,z5⟩:=cells6 H6.out;obtain⟨_,_,_,_,_,x5⟩:=cells6 L3.out.box;have B4:=aac ((Below.refl W3.heap.size W3).alloc (Nat.le_refl _) (.cells #[.bool t',.string tx',.string sp',.string lo',.slice Aa' na' ca',.slice Ak' nk' ck'] 32));have L4:=aac (L3.out.keep B4.out);have o4:=aac (aaj (aaj Ho.out B3.out) B4.out);have k4:=aac ((Hv.out.map fun t=>((t.keep B3.out).keep B4.out).mono fun b hp=>hp.mono (Nat.le_trans B3.out.size B4.out.size)));have R4:=aac ((R3.out.keep B4.out).mono fun b hp=>hp.mono B4.out.size);have N4:=aac (abE W3 #[.bool t',.string tx',.string sp',.string lo',.slice Aa' na' ca',.slice Ak' nk' ck'] 32);have hbz:tb+1≤(W3.alloc (.cells #[.bool t',.string tx',.string sp',.string lo',.slice Aa' na' ca',.slice Ak' nk' ck'] 32)).heap.size:=L4.out.lt.2;clear HC2 H6;go_wp2_with (at_builtin;refine wpList_append_lies (w:=W3.alloc (.cells #[.bool t',.string tx',.string sp',.string lo',.slice Aa' na' ca',.slice Ak' nk' ck'] 32)) rfl _ _ 30 rfl (tb+1) 32 i0 (.agg #[.bool false,.string ⟨#[]⟩,.string ⟨#[]⟩,.string ⟨#[]⟩,.slice none 0 0,.slice none 0 0]) 6 104 Tryz.underlying30 hi hz0 hz1 hz2 rfl (by decide) (.slice A3 k c3) k vs rfl o4.out ⟨W3.heap.size,0,none⟩ 1 1 [.bool t',.string tx',.string sp',.string lo',.slice Aa' na' ca',.slice Ak' nk' ck'] rfl rfl N4.out (auZ _ _ _ _ _ _ _ _ _ _) (by decide) (by unfold maxLen;omega) (by omega) hbz _ rfl ?_);intro g cap w5 m1 m2 m3 m4;have T5:=aac (L4.out.put o4.out k4.out R4.out m1 m2 (m3.imp id fun h=>h.trans (World.size_alloc _ _).symm) m4);have x7:=(m2.block tb (Nat.lt_of_succ_le hbz) (fun e=>by have:=(World.ownsRow.lt o4.out _ e.symm).1;omega)).trans L4.out.box;have e7:=(cells6 x7).2.2.2.2.2;have f7:=aag x7 5;clear m1 m2 m3 m4 x7 x5 z0 z1 z2 z3 z4 z5;go_wp2;go_roundw;case rel=>exact⟨k+1,n2,c2,A2,_,rfl,hlt,by omega,aac (by rw[HL2.out];exact T3.out),aac (by rw[HPl.out,Hp.out];exact T5.out)⟩
     case measure=>exact hm2
   · have hke:k=ks.len:=(by omega);subst hke;have hT:=HT.out;rw[amN] at hT;have hT1:abd w0 A1 n1 c1 (clE :: post):=hT;have HT2:=aac hT1;obtain⟨b2,o2,_,_,_,rfl,_,_,d0,_,_,_,_⟩:=(hT1.keep (HW.out.trans (HL.out.bel.mono HW.out.size))).head;have hl2:1≤n1:=by rw[hT1.len,List.length_cons];omega
     have q0:(0:Int) < (n1:Int):=(by omega);have q2:(1:Int)≤(n1:Int):=(by omega);rw[afI] at HL;have hl0:=HL.out.lt;obtain⟨A4,c4,hv,hin⟩:=a4f (P:=fun b=>w.heap.size≤b∧b < wr.heap.size∧b≠w.heap.size) ho (by rw[afI] at hkv;exact hkv.map fun t=>t.mono fun b hp=>⟨hp.1,hp.2.1,hp.2.2.1⟩) (ark ks).symm (by omega) (fun g hg=>by have:=World.ownsRow.lt ho g hg;omega);injection hv with hv1 hv2 hv3
     subst hv1 hv3;have hat:=a0j HL.out.ats HTn.out (by rw[HTn.out];exact HR0.out.cnt) HR0.out.ats
     have HR:Hid (Tr1 (fun b=>w.heap.size≤b∧b < wr.heap.size∧b≠w.heap.size) wr emB sp lo ats ks.pln A6 na c6 A3 ks.len c3):=aac ⟨⟨abf agd,abf HR0.out.sp,abf HR0.out.lo⟩,hat,fun h0 a e=>by
      have h1:(Value.slice A6 na c6).ownBlock=some a.block:=by
       rcases HL.out.ats.2 with ⟨q,h00⟩ | ⟨g,cap,cur,q,_⟩
       · omega
       · injection q with q1
         rw[q1] at e;injection e with e
         rw[q1,← e];rfl
      have:=World.ownsRow.lt HL.out.ats _ h1;exact⟨by omega,by omega,by omega⟩,hin⟩
     obtain⟨y0,y1,y2,y3,y4,y5⟩:=cells6 HL.out.box;obtain⟨r0,r1,r2,r3,r4,r5⟩:=cells6 HL.out.res;have f0:=aag HL.out.res 0;have f1:=aag HL.out.res 1;have f2:=aag HL.out.res 2;have f3:=aag HL.out.res 3;have f4:=aag HL.out.res 4;have f5:=aag HL.out.res 5;obtain⟨h6,g6⟩:=axH (.bool false) (.string ⟨#[]⟩) (.string sp) (.string lo) (.slice A6 na c6) (.slice A3 ks.len c3) HL.out.res;obtain⟨W6,hW6⟩:∃ W6,W6=(aco wr w.heap.size (.bool false) (.string ⟨#[]⟩) (.string sp) (.string lo) (.slice A6 na c6) (.slice A3 ks.len c3)).drew:=⟨_,rfl⟩;have H6:Hid (W6.heap[w.heap.size]?=some (.cells #[.bool false,.string ⟨#[]⟩,.string sp,.string lo,.slice A6 na c6,.slice A3 ks.len c3] 32 (0,0))):=aac (by rw[hW6];exact azW h6);have R6:Hid (Tr1 (Lo w.heap.size W6) W6 emB sp lo ats ks.pln A6 na c6 A3 ks.len c3):=aac (by rw[hW6];exact a1x HR.out g6);have B6:Hid (Below w.heap.size w W6):=aac (by rw[hW6];exact a0w HL.out.bel g6 (Nat.le_refl _));have E6:=aac hW6;clear hT hT1 ho hkv hin hat HT HRk hIH h6 g6 HR hW6;by_cases hc:c1=1
     · go_wp2_with fail;go_region;go_wp2;change bodyPost _ _ _ _ _ (aco wr w.heap.size (.bool false) (.string ⟨#[]⟩) (.string sp) (.string lo) (.slice A6 na c6) (.slice A3 ks.len c3)).drew;rw[← E6.out];obtain⟨e0,e1,e2,e3,e4,e5⟩:=cells6 H6.out;clear y0 y1 y2 y3 y4 y5 r0 r1 r2 r3 r4 r5 f0 f1 f2 f3 f4 f5;refine bodyPost_ret (v:=.tuple #[.agg #[.bool false,.string ⟨#[]⟩,.string sp,.string lo,.slice A6 na c6,.slice A3 ks.len c3],.slice (some ⟨b2,o2,none⟩) (n1 - 1) 0]) (by simp[results,Tryz.results15,go_sem,e0,e1,e2,e3,e4,e5]) rfl ?_;exact⟨false,emB,sp,lo,ats,ks.pln,A6,na,c6,A3,ks.len,c3,_,_,_,by rw[Fo.pln,if_neg (by decide)];rfl,rfl,R6.out,(by have h:=HT2.out.a2B hc;rw[hc] at h;exact h),B6.out⟩
     · go_wp2_with fail;go_region;go_wp2;change bodyPost _ _ _ _ _ (aco wr w.heap.size (.bool false) (.string ⟨#[]⟩) (.string sp) (.string lo) (.slice A6 na c6) (.slice A3 ks.len c3)).drew;rw[← E6.out];obtain⟨e0,e1,e2,e3,e4,e5⟩:=cells6 H6.out;clear y0 y1 y2 y3 y4 y5 r0 r1 r2 r3 r4 r5 f0 f1 f2 f3 f4 f5;refine bodyPost_ret (v:=.tuple #[.agg #[.bool false,.string ⟨#[]⟩,.string sp,.string lo,.slice A6 na c6,.slice A3 ks.len c3],.slice (some ⟨b2,o2+5,none⟩) (n1 - 1) (c1 - 1)]) (by simp[results,Tryz.results15,go_sem,e0,e1,e2,e3,e4,e5]) rfl ?_;exact⟨false,emB,sp,lo,ats,ks.pln,A6,na,c6,A3,ks.len,c3,_,_,_,by rw[Fo.pln,if_neg (by decide)];rfl,rfl,R6.out,HT2.out.tail,B6.out⟩
theorem ajf (w0:World):∀ N,FsC w0 N
 | 0=>fun t tx sp lo ats ks post A n c W h=>by omega
 | N+1=>fun t tx sp lo ats ks post A n c W hN hn hR hW T=>by
   cases t
   · exact atW w0 N (aac (ajf w0 N)) tx sp lo ats ks post A n c W hN hn hR hW T
   · have he:(Fo.cons true tx sp lo ats ks .nil).evs=[⟨2,emB,emB,[],tx⟩]:=by rw[Fo.evs,if_pos rfl];rfl
     rw[he] at hR T;exact aow A n c tx sp lo ats ks post w0 W hW T (hR _ (List.mem_singleton.2 rfl)).tx hn
end Go.Proofs.YtiaebhomfebagaaGreatDoor.Ev
namespace Go.Proofs.YtiaebhomfebagaaGreatDoor.Ev
open Go.RowKit
theorem aqW {R:RE→Bool}:∀ (l:List RE) {b:Bool} {p n:Int},0≤ady R b p n l→∀ x∈l,R x=true
 | [],_,_,_,_,x,hx=>by cases hx
 | y :: r,b,p,n,h,x,hx=>by
   rw[ady] at h;by_cases h1:R y=false∨(n == 0)≠b∨(b=true∧y.kind≠1)
   · rw[if_pos h1] at h;omega
   · rw[if_neg h1] at h;by_cases h2:y.kind=2∧p=2
     · rw[if_pos h2] at h;omega
     · rw[if_neg h2] at h;dsimp only at h;by_cases h3:(64:Int) < (if y.kind=1 then n+1 else if y.kind=3 then n - 1 else n)
       · rw[if_pos h3] at h;omega
       · rw[if_neg h3] at h;rcases List.mem_cons.1 hx with rfl | hx
         · cases hR:R x with
           | true=>rfl
           | false=>exact absurd (.inl hR) h1
         · exact aqW r h x hx
theorem arL {pL tR:ByteArray→Bool}{x:RE}(h:aao pL tR x=true)(hB:RgB x):a0a x:=by
 have ha:x.ats.length≤32:=by
  unfold aao at h;by_cases h2:x.kind=2
  · rw[if_pos h2] at h;simp only[Bool.and_eq_true] at h;rw[(aif h.1.1).2.2];simp
  by_cases h3:x.kind=3
  · rw[if_neg h2,if_pos h3] at h;simp only[Bool.and_eq_true] at h;rw[(aif h.1).2.2];simp
  rw[if_neg h2,if_neg h3] at h;by_cases h4:x.kind≠1∨emp x.tx=false∨nmF pL tR (x.sp,x.lo)=false∨32 < x.ats.length
  · rw[if_pos h4] at h;cases h
  · have:¬ 32 < x.ats.length:=fun e=>h4 (.inr (.inr (.inr e)));omega
 obtain⟨a,b,c,d⟩:=hB;refine⟨by unfold aiT;omega,by unfold aiT;omega,by unfold aiT;omega,by omega,fun y hy=> ?_⟩;obtain⟨q1,q2,q3⟩:=d ha y hy;unfold aiT;omega
theorem azT {l:List RE}(h:aha plF rtF l=0)(hB:∀ x∈l,RgB x):∀ x∈l,a0a x:=fun x hx=>arL (aqW l (by show 0≤aha plF rtF l;omega) x hx) (hB x hx)
def ake (l:List RE)(n:Nat)(W:World)(e:Ending)(w':World):Prop:=
 Below W.heap.size W w'∧(¬ (aha plF rtF l=0∧0 < n)→e=.returned (.tuple #[.agg #[.bool false,.string ⟨#[]⟩,.string ⟨#[]⟩,.string ⟨#[]⟩,.slice none 0 0,.slice none 0 0],.bool false]))∧
 (aha plF rtF l=0∧0 < n→∃ sp lo ats ks Aa na ca Ak nk ck,l=(Fo.cons false emB sp lo ats ks .nil).evs∧ks.pln=ks∧e=.returned (.tuple #[.agg #[.bool false,.string emB,.string sp,.string lo,.slice Aa na ca,.slice Ak nk ck],.bool true])∧Tr1 (Lo W.heap.size w') w' emB sp lo ats ks Aa na ca Ak nk ck)
theorem Tryz.results6:Tryz.f6.results= #[ResultVar.cell 2 32,ResultVar.tmp 3]:=by kernel_rfl
theorem a4b {w W W':World}{s:Nat}{tx sp lo:ByteArray}{ats:List P3}{ks:Fo}{Aa:Option Addr}{na ca:Nat}{Ak:Option Addr}{nk ck:Nat}(h:Tr1 (Lo (s+1) W) W tx sp lo ats ks Aa na ca Ak nk ck)(g:W.grownBy W' (some s)):Tr1 (Lo s W') W' tx sp lo ats ks Aa na ca Ak nk ck:=
 (h.grown g (fun b hp e=>by injection e with e;have:=hp.1;omega)).mono fun b hp=>⟨by have:=hp.1;omega,Nat.lt_of_lt_of_le hp.2 g.size⟩
theorem apq {w W W':World}{s:Nat}(h:Below s w W)(g:W.grownBy W' (some s))(hs:s≤w.heap.size):Below s w W':=h.grown g (Nat.le_trans hs h.size) (fun j hj=>by injection hj with hj;omega)
theorem a5b (A:Option Addr)(n c:Nat)(l:List RE)(w:World)(T:abd w A n c l)(hn:n≤100000)(hB:∀ x∈l,RgB x)(h:¬ (aha plF rtF l=0∧0 < n)):Calls Tryz.prog 6 #[.slice A n c] w (ake l n w):=by
 have HB0:Hid (Below w.heap.size w (w.alloc (.cells #[.bool false,.string ⟨#[]⟩,.string ⟨#[]⟩,.string ⟨#[]⟩,.slice none 0 0,.slice none 0 0] 32))):=aac ((Below.refl _ w).alloc (Nat.le_refl _) _);have CW:=aqU A n c l (w.alloc (.cells #[.bool false,.string ⟨#[]⟩,.string ⟨#[]⟩,.string ⟨#[]⟩,.slice none 0 0,.slice none 0 0] 32)) (T.keep HB0.out) hn hB;rw[decide_eq_false h] at CW;have C:=aac CW;have HN:Hid ((w.alloc (.cells #[.bool false,.string ⟨#[]⟩,.string ⟨#[]⟩,.string ⟨#[]⟩,.slice none 0 0,.slice none 0 0] 32)).heap[w.heap.size]?=some (.cells #[.bool false,.string ⟨#[]⟩,.string ⟨#[]⟩,.string ⟨#[]⟩,.slice none 0 0,.slice none 0 0] 32 (0,0))):=aac (abJ w 32 _);have Hh:=aac h;clear CW T hB h;go_enter Tryz.func6,Tryz.ntmps6;go_wp2_with fail;refine C.out.mono ?_;rintro e w1 ⟨rfl,b1⟩;have HB1:=aac (HB0.out.trans (b1.mono HB0.out.size));have HN1:=aac ((b1.block _ (Array.getElem?_eq_some_iff.1 HN.out).1).trans HN.out);clear b1 C HN HB0;obtain⟨W6,hW6⟩:∃ W6,W6=aco w1 w.heap.size (.bool false) (.string ⟨#[]⟩) (.string ⟨#[]⟩) (.string ⟨#[]⟩) (.slice none 0 0) (.slice none 0 0):=⟨_,rfl⟩;obtain⟨h6,g6⟩:=axH (.bool false) (.string ⟨#[]⟩) (.string ⟨#[]⟩) (.string ⟨#[]⟩) (.slice none 0 0) (.slice none 0 0) HN1.out;rw[← hW6] at h6 g6;have H6:=aac h6;have B6:=aac (apq HB1.out g6 (Nat.le_refl _));have E6:=aac hW6;obtain⟨r0,r1,r2,r3,r4,r5⟩:=cells6 HN1.out;have f0:=aag HN1.out 0;have f1:=aag HN1.out 1;have f2:=aag HN1.out 2;have f3:=aag HN1.out 3;have f4:=aag HN1.out 4;have f5:=aag HN1.out 5;clear hW6 h6 g6;go_wp2;change bodyPost _ _ _ _ _ (aco w1 w.heap.size (.bool false) (.string ⟨#[]⟩) (.string ⟨#[]⟩) (.string ⟨#[]⟩) (.slice none 0 0) (.slice none 0 0));rw[← E6.out];obtain⟨e0,e1,e2,e3,e4,e5⟩:=cells6 H6.out;clear r0 r1 r2 r3 r4 r5 f0 f1 f2 f3 f4 f5;refine bodyPost_ret (v:=.tuple #[.agg #[.bool false,.string ⟨#[]⟩,.string ⟨#[]⟩,.string ⟨#[]⟩,.slice none 0 0,.slice none 0 0],.bool false]) (by simp[results,Tryz.results6,go_sem,e0,e1,e2,e3,e4,e5]) rfl ?_;exact⟨B6.out,fun _=>rfl,fun h=>absurd h Hh.out⟩
theorem a3C (A:Option Addr)(n c:Nat)(l:List RE)(w:World)(T:abd w A n c l)(hn:n≤100000)(hB:∀ x∈l,RgB x)(h:aha plF rtF l=0∧0 < n):Calls Tryz.prog 6 #[.slice A n c] w (ake l n w):=by
 have hne:l≠[]:=fun e=>by have:=T.len;rw[e,List.length_nil] at this;omega
 obtain⟨sp,lo,ats,ks,hl,hp⟩:=anc h.1 hne;have hR:=azT h.1 hB;have HB0:Hid (Below w.heap.size w (w.alloc (.cells #[.bool false,.string ⟨#[]⟩,.string ⟨#[]⟩,.string ⟨#[]⟩,.slice none 0 0,.slice none 0 0] 32))):=aac ((Below.refl _ w).alloc (Nat.le_refl _) _);have CW:=aqU A n c l (w.alloc (.cells #[.bool false,.string ⟨#[]⟩,.string ⟨#[]⟩,.string ⟨#[]⟩,.slice none 0 0,.slice none 0 0] 32)) (T.keep HB0.out) hn hB;rw[decide_eq_true h] at CW;have C:=aac CW;have HN:Hid ((w.alloc (.cells #[.bool false,.string ⟨#[]⟩,.string ⟨#[]⟩,.string ⟨#[]⟩,.slice none 0 0,.slice none 0 0] 32)).heap[w.heap.size]?=some (.cells #[.bool false,.string ⟨#[]⟩,.string ⟨#[]⟩,.string ⟨#[]⟩,.slice none 0 0,.slice none 0 0] 32 (0,0))):=aac (abJ w 32 _);have CF:Hid (∀ W,Below w.heap.size w W→Calls Tryz.prog 15 #[.slice A n c] W (auF w W (Fo.cons false emB sp lo ats ks .nil) [])):=aac fun W hW=>ajf w (ks.siz+1) false emB sp lo ats ks [] A n c W (Nat.lt_succ_self _) hn (by rw[← hl];exact hR) hW (by rw[List.append_nil,← hl];exact T);have Hl:=aac hl;have Hp:=aac hp;have Hh:=aac h;clear CW T hB h hl hp hR hne;go_enter Tryz.func6,Tryz.ntmps6;go_wp2_with fail;refine C.out.mono ?_;rintro e w1 ⟨rfl,b1⟩;have HB1:=aac (HB0.out.trans (b1.mono HB0.out.size));have HN1:=aac ((b1.block _ (Array.getElem?_eq_some_iff.1 HN.out).1).trans HN.out);clear b1 C HN HB0;go_wp2_with fail;refine(CF.out w1 HB1.out).mono ?_;rintro e w2 ⟨t',tx',sp',lo',ats',ks',Aa,na,ca,Ak,nk,ck,A2,n2,c2,hq,rfl,tr,T2,b2⟩;rw[Fo.pln,if_neg (by decide),Hp.out] at hq;injection hq with q1 q2 q3 q4 q5 q6
 subst q1 q2 q3 q4 q5 q6;have hs1:w.heap.size+1≤w1.heap.size:=(Array.getElem?_eq_some_iff.1 HN1.out).1;have B3:=aac ((Below.refl w2.heap.size w2).alloc (Nat.le_refl _) (.cells #[.bool false,.string emB,.string sp,.string lo,.slice Aa na ca,.slice Ak nk ck] 32));have HB3:=aac ((HB1.out.trans (b2.mono HB1.out.size)).trans (B3.out.mono (Nat.le_trans HB1.out.size b2.size)));have HN3:=aac ((B3.out.block _ (Nat.lt_of_lt_of_le (Nat.lt_of_succ_le hs1) b2.size)).trans ((b2.block _ (Nat.lt_of_succ_le hs1)).trans HN1.out));have HR3:Hid (Tr1 (Lo (w.heap.size+1) (w2.alloc (.cells #[.bool false,.string emB,.string sp,.string lo,.slice Aa na ca,.slice Ak nk ck] 32))) (w2.alloc (.cells #[.bool false,.string emB,.string sp,.string lo,.slice Aa na ca,.slice Ak nk ck] 32)) emB sp lo ats ks Aa na ca Ak nk ck):=aac ((tr.keep B3.out).mono fun b hb=>⟨Nat.le_trans hs1 hb.1,Nat.lt_of_lt_of_le hb.2 B3.out.size⟩);clear tr T2 b2 CF HB1 B3 HN1;have NB:=aac (abJ w2 32 #[.bool false,.string emB,.string sp,.string lo,.slice Aa na ca,.slice Ak nk ck]);go_upto_region 4 with fail;generalize w2.alloc (.cells #[.bool false,.string emB,.string sp,.string lo,.slice Aa na ca,.slice Ak nk ck] 32)=W3 at *;generalize w2.heap.size=tb at *;obtain⟨W6,hW6⟩:∃ W6,W6=aco W3 w.heap.size (.bool false) (.string emB) (.string sp) (.string lo) (.slice Aa na ca) (.slice Ak nk ck):=⟨_,rfl⟩;obtain⟨h6,g6⟩:=axH (.bool false) (.string emB) (.string sp) (.string lo) (.slice Aa na ca) (.slice Ak nk ck) HN3.out;rw[← hW6] at h6 g6;have H6:=aac h6;have B6:=aac (apq HB3.out g6 (Nat.le_refl _));have R6:=aac (a4b (w:=w) HR3.out g6);have E6:=aac hW6;obtain⟨z0,z1,z2,z3,z4,z5⟩:=cells6 NB.out;obtain⟨r0,r1,r2,r3,r4,r5⟩:=cells6 HN3.out;have f0:=aag HN3.out 0;have f1:=aag HN3.out 1;have f2:=aag HN3.out 2;have f3:=aag HN3.out 3;have f4:=aag HN3.out 4;have f5:=aag HN3.out 5;clear hW6 h6 g6 HR3 HB3;go_wp2;change bodyPost _ _ _ _ _ (aco W3 w.heap.size (.bool false) (.string emB) (.string sp) (.string lo) (.slice Aa na ca) (.slice Ak nk ck));rw[← E6.out];obtain⟨e0,e1,e2,e3,e4,e5⟩:=cells6 H6.out;clear r0 r1 r2 r3 r4 r5 f0 f1 f2 f3 f4 f5;refine bodyPost_ret (v:=.tuple #[.agg #[.bool false,.string emB,.string sp,.string lo,.slice Aa na ca,.slice Ak nk ck],.bool true]) (by simp[results,Tryz.results6,go_sem,e0,e1,e2,e3,e4,e5]) rfl ?_;exact⟨B6.out,fun h=>absurd Hh.out h,fun _=>⟨sp,lo,ats,ks,Aa,na,ca,Ak,nk,ck,Hl.out,Hp.out,rfl,R6.out⟩⟩
theorem alb (A:Option Addr)(n c:Nat)(l:List RE)(w:World)(T:abd w A n c l)(hn:n≤100000)(hB:∀ x∈l,RgB x):Calls Tryz.prog 6 #[.slice A n c] w (ake l n w):=by
 by_cases h:aha plF rtF l=0∧0 < n
 · exact a3C A n c l w T hn hB h
 · exact a5b A n c l w T hn hB h
end Go.Proofs.YtiaebhomfebagaaGreatDoor.Ev
namespace Go.Proofs.YtiaebhomfebagaaGreatDoor.Ev
open Go.RowKit
theorem ain:∀ (f g:Fo) (r r':List RE),f.evs++clE :: r=g.evs++clE :: r'→f.pln=g.pln∧r=r'
 | .nil,.nil,r,r',h=>by
   simp only[Fo.evs,List.nil_append,List.cons.injEq] at h;exact⟨rfl,h.2⟩
 | .nil,.cons true tx sp lo ats ks nx,r,r',h=>by simp[Fo.evs,clE] at h
 | .nil,.cons false tx sp lo ats ks nx,r,r',h=>by simp[Fo.evs,clE] at h
 | .cons true tx sp lo ats ks nx,.nil,r,r',h=>by simp[Fo.evs,clE] at h
 | .cons false tx sp lo ats ks nx,.nil,r,r',h=>by simp[Fo.evs,clE] at h
 | .cons true tx sp lo ats ks nx,.cons true tx' sp' lo' ats' ks' nx',r,r',h=>by
   simp only[Fo.evs,if_true,List.cons_append,List.nil_append,List.cons.injEq,RE.mk.injEq] at h;obtain⟨e1,e2⟩:=ain nx nx' r r' h.2;refine⟨?_,e2⟩;rw[Fo.pln,Fo.pln,if_pos rfl,if_pos rfl,e1,h.1.2.2.2.2]
 | .cons true tx sp lo ats ks nx,.cons false tx' sp' lo' ats' ks' nx',r,r',h=>by simp[Fo.evs] at h
 | .cons false tx sp lo ats ks nx,.cons true tx' sp' lo' ats' ks' nx',r,r',h=>by simp[Fo.evs] at h
 | .cons false tx sp lo ats ks nx,.cons false tx' sp' lo' ats' ks' nx',r,r',h=>by
   simp only[Fo.evs,Bool.false_eq_true,if_false,List.cons_append,List.append_assoc,List.nil_append,List.cons.injEq,RE.mk.injEq] at h;obtain⟨e1,e2⟩:=ain ks ks' _ _ h.2;obtain⟨e3,e4⟩:=ain nx nx' r r' e2;refine⟨?_,e4⟩;rw[Fo.pln,Fo.pln,if_neg (by decide),if_neg (by decide),e1,e3,h.1.2.1,h.1.2.2.1,h.1.2.2.2.1]
theorem avl {f g:Fo}(h:f.evs=g.evs):f.pln=g.pln:=(ain f g [] [] (by rw[h])).1
end Go.Proofs.YtiaebhomfebagaaGreatDoor.Ev
namespace Go.Proofs.YtiaebhomfebagaaGreatDoor.Ev
open Go.RowKit
def ShE (x:RE):Prop:=x.sp.size≤2400∧x.lo.size≤2400∧x.tx.size≤2400∧∀ y∈x.ats,y.1.1.size≤2400∧y.1.2.size≤2400∧y.2.size≤2400
theorem ahV:emB.size≤2400:=by decide
theorem a1J {x:Wl.Ev}(h:Wl.EvZ 2400 x):ShE (Wl.toR x):=by
 cases x with
 | opn n f=>exact⟨h.1.1,h.1.2,ahV,fun y hy=>⟨(h.2 y hy).1.1,(h.2 y hy).1.2,(h.2 y hy).2⟩⟩
 | txt s=>exact⟨ahV,ahV,h,fun y hy=>by cases hy⟩
 | cls=>exact⟨ahV,ahV,ahV,fun y hy=>by cases hy⟩
theorem a6j {x:Wl.Ev}(h:ShE (Wl.toR x)):Wl.EvZ 10000 x:=by
 obtain⟨h1,h2,h3,h4⟩:=h
 cases x with
 | opn n f=>exact⟨⟨Nat.le_trans h1 (by decide),Nat.le_trans h2 (by decide)⟩,fun y hy=>⟨⟨Nat.le_trans (h4 y hy).1 (by decide),Nat.le_trans (h4 y hy).2.1 (by decide)⟩,Nat.le_trans (h4 y hy).2.2 (by decide)⟩⟩
 | txt s=>exact Nat.le_trans h3 (by decide)
 | cls=>trivial
def shA (l:List P3):Prop:=∀ x∈l,x.1.1.size≤2400∧x.1.2.size≤2400∧x.2.size≤2400
def Fo.shT:Fo→Prop
 | .nil=>True
 | .cons t tx sp lo ats ks nx=>(tx.size≤2400∧sp.size≤2400∧lo.size≤2400∧shA ats∧ats.length≤15)∧ks.shT∧nx.shT
theorem auu:∀ (f:Fo) (p:Bool),f.pln=f→liK plF rtF p f=true→(∀ x∈f.evs,ShE x)→f.shT∧f.siz≤f.evs.length
 | .nil,p,_,_,_=>⟨trivial,Nat.zero_le _⟩
 | .cons t tx sp lo ats ks nx,p,hp,hl,h=>by
   rw[liK,Bool.and_eq_true,Bool.and_eq_true] at hl;obtain⟨⟨_,g2⟩,g3⟩:=hl;rw[Fo.evs] at h;rw[Fo.pln] at hp
   cases t with
   | true=>
     rw[if_pos rfl] at hp h;injection hp with _ _ e1 e2 e3 e4 e5
     obtain⟨i1,i2⟩:=auu nx true e5 g3 fun x hx=>h x (List.mem_append.2 (.inr hx));have hx:=(h _ (List.mem_append.2 (.inl (List.mem_singleton.2 rfl)))).2.2.1;subst e1 e2 e3 e4;refine⟨⟨⟨hx,ahV,ahV,(fun y hy=>by cases hy),Nat.zero_le _⟩,trivial,i1⟩,?_⟩;rw[Fo.siz,Fo.evs,if_pos rfl,List.length_append,List.length_singleton,Fo.siz];omega
   | false=>
     rw[if_neg (by decide)] at hp h g2;rw[Bool.and_eq_true,Bool.and_eq_true,Bool.and_eq_true] at g2;injection hp with _ e0 _ _ _ e4 e5
     obtain⟨i1,i2⟩:=auu nx false e5 g3 fun x hx=>h x (List.mem_append.2 (.inr hx));obtain⟨j1,j2⟩:=auu ks false e4 g2.2 fun x hx=>h x (List.mem_append.2 (.inl (List.mem_cons_of_mem _ (List.mem_append.2 (.inl hx)))));obtain⟨k1,k2,_,k4⟩:=h _ (List.mem_append.2 (.inl List.mem_cons_self));subst e0;refine⟨⟨⟨ahV,k1,k2,k4,of_decide_eq_true g2.1.2.2⟩,j1,i1⟩,?_⟩;rw[Fo.siz,Fo.evs,if_neg (by decide),List.length_append,List.length_cons,List.length_append,List.length_singleton];omega
theorem azL {l:List P3}(h:shA l):atM l:=fun x hx=>by
 obtain⟨h1,h2,h3⟩:=h x hx;exact⟨by omega,by omega,by omega⟩
theorem aqb:∀ f:Fo,f.shT→f.szM∧f.atN
 | .nil,_=>⟨trivial,trivial⟩
 | .cons t tx sp lo ats ks nx,h=>by
   obtain⟨⟨h1,h2,h3,h4,h5⟩,h6,h7⟩:=h;obtain⟨a1,a2⟩:=aqb ks h6;obtain⟨b1,b2⟩:=aqb nx h7;exact⟨⟨⟨by omega,by omega,by omega,azL h4⟩,a1,b1⟩,fun _=>⟨by omega,a2⟩,b2⟩
theorem axP:∀ (l:List ByteArray) (j:Nat),j+l.length≤1000→(∀ s∈l,s.size≤2400)→(bdB j l).length≤l.length * 14414
 | [],j,_,_=>by simp[bdB]
 | a :: l,j,h,hs=>by
   rw[bdB,List.length_append,List.length_cons];rw[List.length_cons] at h;have h1:=axP l (j+1) (by omega) (fun s q=>hs s (List.mem_cons_of_mem _ q));have h2:=afu (xnB j) a;have h3:=akY (n:=j) (by omega);have h4:=hs a List.mem_cons_self;omega
theorem axr {sp:List ByteArray}(hp:sp.length < 1000):∀ (l:List P3),shA l→(asB sp l).length≤l.length * 16809
 | [],_=>by simp[asB]
 | a :: l,h=>by
   rw[asB,List.length_append,List.length_cons];have h1:=axr hp l (fun x hx=>h x (List.mem_cons_of_mem _ hx));have h2:=afu (aNm sp a) a.2;have h3:=arb (sp:=sp) (a:=a) (Nat.lt_of_le_of_lt (amO _ _) hp);obtain⟨h4,h5,h6⟩:=h a List.mem_cons_self;unfold aB;omega
theorem a2y {l:List P3}(h:shA l):∀ s∈spL l,s.size≤2400:=fun s hs=>by
 obtain⟨_,x,hx,e⟩:=adv.1 hs;rw[← e];exact(h x hx).1
theorem a1G {sp lo d:ByteArray}{ats:List P3}(h1:sp.size≤2400)(h2:lo.size≤2400)(h3:shA ats)(h4:ats.length≤15):(hdB sp lo d ats).length≤485200:=by
 have k6:=adt ats;have k1:=aiG sp lo;have k2:=axP (spL ats) 0 (by omega) (a2y h3);have k3:=axr (sp:=spL ats) (by omega) ats h3;have k4:=afu (aad ahP) sp;have k5:(aad ahP).length=5:=rfl;unfold hdB;simp only[List.length_append,List.length_cons,List.length_nil];split
 · omega
 · simp only[List.length_nil];omega
theorem aqR:∀ (f:Fo) (d:ByteArray),f.shT→(txB f d).length≤f.siz * 490000
 | .nil,d,_=>by simp[txB]
 | .cons t tx sp lo ats ks nx,d,hs=>by
   obtain⟨⟨h1,h2,h3,h4,h7⟩,h5,h6⟩:=hs;have k1:=aqR nx d h6;have k3:=adS false (aad tx);have k4:=aiG sp lo;rw[aae] at k3;rw[txB,List.length_append,Fo.siz]
   cases t with
   | true=>
     rw[if_pos rfl];omega
   | false=>
     have k2:=aqR ks (dfS sp d) h5;have k5:=a1G (sp:=sp) (lo:=lo) (d:=d) h2 h3 h4 h7;rw[if_neg (by decide)];split
     · simp only[List.length_append,List.length_cons,List.length_nil];omega
     · simp only[List.length_append,List.length_cons,List.length_nil];omega
def a5z (s:ByteArray)(l:List RE)(k:Int):Prop:=∀ W,Gl W→Calls Tryz.prog 5 #[.string s] W fun e w'=>∃ (A:Option Addr) (c:Nat) (pos:Int),e=.returned (.tuple #[.slice A l.length c,.int .i64 pos,.int .i64 k])∧abd w' A l.length c l∧Below W.heap.size W w'
theorem a3W {s:ByteArray}{l:List RE}(hs:s.size≤1000000000)(hl:(Wl.evF (aad s)).1.map Wl.toR=l)(hn:l.length≤100000)(hz:∀ x∈l,ShE x):a5z s l (Wl.evF (aad s)).2.2:=fun W hG=>by
 refine(Wl.aog s W hG hs).mono ?_;rintro e w' ⟨v,rfl,hO,hb⟩;have hlen:l.length=(Wl.evF (aad s)).1.length:=(by rw[← hl,List.length_map]);obtain⟨A,c,rfl,T,_⟩:=a2C hO (M:=10000) (Nat.le_refl _) (by omega) (fun x hx=>a6j (hz _ (by rw[← hl];exact List.mem_map_of_mem hx))) (Wl.a3y _ (alo s));rw[hl,← hlen] at T;rw[← hlen];exact⟨A,c,_,rfl,T,hb⟩
theorem rg_of {x:RE}(h:ShE x):RgB x:=by
 obtain⟨h1,h2,h3,h4⟩:=h
 exact⟨by omega,by omega,by omega,fun _ y hy=>by
  obtain⟨a,b,c⟩:=h4 y hy;exact⟨by omega,by omega,by omega⟩⟩
theorem aoh (s:ByteArray)(h:s.size≤600):∃ (l:List RE) (k:Int),a5z s l k∧(∀ x∈l,RgB x)∧l.length≤100000∧(k=0→aha plF rtF l=0∧0 < l.length∧∀ sp lo ats ks,l=(Fo.cons false emB sp lo ats ks .nil).evs→ks.pln=ks→liK plF rtF false (Fo.cons false emB sp lo ats ks .nil)=true→
 a3f (Fo.cons false emB sp lo ats ks .nil) emB∧a5z (strOfNums (txB (Fo.cons false emB sp lo ats ks .nil) emB)) l 0):=by
 obtain⟨z1,z2⟩:=Wl.a5l (M:=2400) (aad s) (alo s) (by decide) (by rw[aae];omega);rw[aae] at z2
 have hSh:∀ x∈(Wl.evF (aad s)).1.map Wl.toR,ShE x:=fun x hx=>by
  obtain⟨y,hy,rfl⟩:=List.mem_map.1 hx;exact a1J (z1 y hy)
 have hn:((Wl.evF (aad s)).1.map Wl.toR).length≤1803:=by rw[List.length_map];omega
 refine⟨_,_,a3W (by omega) rfl (by omega) hSh,fun x hx=>rg_of (hSh x hx),by omega,fun hk=> ?_⟩;obtain⟨d1,d2⟩:=Wl.azy (aad s) (alo s);obtain⟨d3,d4⟩:=d2 hk;refine⟨d3,?_,fun sp lo ats ks hl hp hli=> ?_⟩
 · rw[List.length_map];exact List.length_pos_iff.2 d4
 generalize (Wl.evF (aad s)).1.map Wl.toR=l at *;subst hl;have hpf:(Fo.cons false emB sp lo ats ks .nil).pln=Fo.cons false emB sp lo ats ks .nil:=by rw[Fo.pln,if_neg (by decide),hp];rfl
 obtain⟨hsh,hsz⟩:=auu _ false hpf hli hSh;obtain⟨m1,m2⟩:=aqb _ hsh;have hlen:=aqR _ emB hsh
 have hdp:1+Bk.dpF ks≤64:=by
  have:=(Bk.alX (Fo.cons false emB sp lo ats ks .nil) true 0 0 [] (by decide) (by rw[List.append_nil];exact(Int.le_of_eq d3.symm))).1;rw[Bk.dpF,if_neg (by decide)] at this;omega
 have hb:aad (strOfNums (txB (Fo.cons false emB sp lo ats ks .nil) emB))=txB (Fo.cons false emB sp lo ats ks .nil) emB:=abX (akA _ _);obtain⟨e1,e2⟩:=Bk.ayy emB sp lo ats ks hli hdp;refine⟨⟨m1,m2,by decide,by omega⟩,?_⟩;have hq:=a3W (s:=strOfNums (txB (Fo.cons false emB sp lo ats ks .nil) emB)) (l:=(Fo.cons false emB sp lo ats ks .nil).evs) (by rw[← aae,hb];omega) (by rw[hb];exact e1) (by omega) hSh;rw[hb,e2] at hq;exact hq
end Go.Proofs.YtiaebhomfebagaaGreatDoor.Ev
