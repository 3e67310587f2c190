/- Lemmas of the claim. -/
import Derived.Test.YtiaebhomfebagaaGreatDoorG08
import Derived.Test.YtiaebhomfebagaaGreatDoorG06
import Derived.Test.YtiaebhomfebagaaGreatDoorG07
import Derived.WideLaws
set_option maxHeartbeats 8000000
set_option maxRecDepth 100000
set_option linter.unusedSimpArgs false
set_option linter.unusedVariables false
namespace Go.Proofs.YtiaebhomfebagaaGreatDoor.Ev
open Go.RowKit
section
variable {W W':World} {B:Nat}
theorem RdT.abP {A:Option Addr}{l:List P3}(h:RdT W A l)(hb:Below B W W')(hl:0 < l.length→∀ a,A=some a→a.block < B):RdT W' A l:=fun k x hk=>by
 obtain⟨b,o,e,hlt,c0,c1,c2⟩:=h k x hk;have hn:b < B:=hl (Nat.lt_of_le_of_lt (Nat.zero_le k) (List.getElem?_eq_some_iff.1 hk).1) _ e;exact⟨b,o,e,Nat.lt_of_lt_of_le hlt hb.size,(hb.cell (p:=⟨b,o+k * 3,none⟩) hn).trans c0,(hb.cell (p:=⟨b,o+k * 3+1,none⟩) hn).trans c1,(hb.cell (p:=⟨b,o+k * 3+2,none⟩) hn).trans c2⟩
theorem aaC.abP {A:Option Addr}{n c:Nat}{l:List P3}(h:aaC W A n c l)(hb:Below B W W')(hl:AtP (· < B) A n):aaC W' A n c l:=⟨h.len,h.lsz,h.cnt,h.xsz,h.rd.abP hb (fun h0=>hl (by rw[h.len];exact h0)),h.nil⟩
theorem acJ.abP (hb:Below B W W'):∀ {f:Fo} {b off:Nat},b < B→acJ (· < B) W f b off→acJ (· < B) W' f b off
 | .nil,_,_,_,_=>trivial
 | .cons t tx sp lo ats ks nx,b,off,hlt,h=>by
   obtain⟨⟨Aa,na,ca,Ak,nk,ck,h1,h2,h3,h4,h5,h6,h7,h8,h9,h10⟩,h11⟩:=h;have hc:∀ {j:Nat} {u:Value},W.cell? ⟨b,j,none⟩=some u→W'.cell? ⟨b,j,none⟩=some u:=fun {j u} e=>(hb.cell (p:=⟨b,j,none⟩) hlt).trans e
   exact⟨⟨Aa,na,ca,Ak,nk,ck,⟨hc h1.1,hc h1.2.1,hc h1.2.2.1,hc h1.2.2.2.1,hc h1.2.2.2.2.1,hc h1.2.2.2.2.2⟩,h2,h3.abP hb h4,h4,h5,h6,h7,h8,h9,fun hn=>by
    obtain⟨b',off',e,hlt',hp,hk⟩:=h10 hn;exact⟨b',off',e,Nat.lt_of_lt_of_le hlt' hb.size,hp,acJ.abP hb hp hk⟩⟩,acJ.abP hb hlt h11⟩
theorem akb.abP {f:Fo}{A:Option Addr}{n c:Nat}(h:akb (· < B) W f A n c)(hb:Below B W W'):akb (· < B) W' f A n c:=
 ⟨h.1,h.2.1,h.2.2.1,h.2.2.2.1,h.2.2.2.2.1,fun hn=>by
  obtain⟨b',off',e,hlt,hp,hk⟩:=h.2.2.2.2.2 hn;exact⟨b',off',e,Nat.lt_of_lt_of_le hlt hb.size,hp,hk.abP hb hp⟩⟩
theorem Tr1.abP {tx sp lo:ByteArray}{ats:List P3}{ks:Fo}{Aa:Option Addr}{na ca:Nat}{Ak:Option Addr}{nk ck:Nat}(h:Tr1 (· < B) W tx sp lo ats ks Aa na ca Ak nk ck)(hb:Below B W W'):Tr1 (· < B) W' tx sp lo ats ks Aa na ca Ak nk ck:=⟨h.sz,h.at_.abP hb h.ap,h.ap,h.ks.abP hb⟩
theorem a0j {base:Nat}{A:Option Addr}{n c:Nat}{l:List P3}(h:W.ownsRow base 40 3 (.slice A n c) n (atL l))(hn:n=l.length)(hb:n≤100000)(hl:a4F l):aaC W A n c l:=by
 refine⟨hn,by unfold maxLen;omega,by omega,fun x hx=> ?_,fun k x hk=> ?_,fun e=> ?_⟩
 · obtain⟨a,b,c⟩:=hl x hx;unfold aiT at a b c;unfold maxLen;omega
 · have hc:∀ i,i < 3→∀ ad,A=some ad→W.cell? (ad.add (k * 3+i))=(atC x)[i]?:=fun i hi ad e=>by
    have g1:=azQ l k i x hk hi;have hlt:i < (atC x).length:=by rw[aoY];exact hi
    rw[List.getElem?_eq_getElem hlt] at g1 ⊢;exact(afi h).2 ad e _ _ g1
   have hk1:=(List.getElem?_eq_some_iff.1 hk).1;rcases h.2 with ⟨q,h0⟩ | ⟨g,cap,cur,q,hB,hg,_⟩
   · omega
   · injection q with q1 q2 q3
     have hlt:=(Array.getElem?_eq_some_iff.1 hg).1;have d0:=hc 0 (by omega) _ q1;have d1:=hc 1 (by omega) _ q1;have d2:=hc 2 (by omega) _ q1;rw[awP] at d0 d1 d2;exact⟨g,0,q1,hlt,by rw[Nat.zero_add];exact d0,by rw[Nat.zero_add];exact d1,by rw[Nat.zero_add];exact d2⟩
 · rcases h.2 with ⟨q,h0⟩ | ⟨g,cap,cur,q,_⟩
   · injection q with q1 q2 q3
     exact⟨h0,q3⟩
   · injection q with q1 q2 q3
     rw[e] at q1;cases q1
structure a0a (x:RE):Prop where
 tx:x.tx.size≤aiT
 sp:x.sp.size≤aiT
 lo:x.lo.size≤aiT
 cnt:x.ats.length≤100000
 ats:a4F x.ats
end
end Go.Proofs.YtiaebhomfebagaaGreatDoor.Ev
namespace Go.Proofs.YtiaebhomfebagaaGreatDoor.Ev
open Go.RowKit
def NmC (pL tR:ByteArray→Bool):Prop:=∀ (sp lo:ByteArray) (W:World),sp.size≤10000→lo.size≤10000→Calls Tryz.prog 25 #[.agg #[.string sp,.string lo]] W fun e w'=>e=.returned (.bool (nmF pL tR (sp,lo)))∧Below W.heap.size W w'
theorem anV (pL tR:ByteArray→Bool)(C1:Hid (axq 38 pL))(C2:Hid (axq 28 tR))(sp lo:ByteArray)(w:World)(h1:sp.size≤10000)(h2:lo.size≤10000):Calls Tryz.prog 25 #[.agg #[.string sp,.string lo]] w fun e w'=>e=.returned (.bool (nmF pL tR (sp,lo)))∧Below w.heap.size w w':=by
 have HK:=aac (abJ w 28 #[.string sp,.string lo]);have HB:=aac ((Below.refl w.heap.size w).alloc (Nat.le_refl _) (.cells #[.string sp,.string lo] 28));have HZ:=aac (show w.heap.size < (w.alloc (.cells #[.string sp,.string lo] 28)).heap.size by simp);go_enter Tryz.func25,Tryz.ntmps25;go_wp2_with fail;refine(C1.out lo _ h2).mono ?_;rintro e w1 ⟨rfl,b1⟩;have HK1:=aac ((b1.block _ HZ.out).trans HK.out);have HB1:=aac (HB.out.trans (b1.mono (Nat.le_of_lt HZ.out)));have HZ1:=aac (Nat.lt_of_lt_of_le HZ.out b1.size);obtain⟨c0,c1⟩:=cells2 HK1.out;clear b1 HK HB HZ
 cases g1:pL lo with
 | false=>
   have HA:Hid (nmF pL tR (sp,lo)=false):=aac (by unfold nmF;dsimp only;rw[g1];rfl);clear g1;go_wp2;go_ret;exact⟨by rw[HA.out];rfl,HB1.out⟩
 | true=>
   have HG1:=aac g1;clear g1;go_wp2_with fail;refine(C2.out lo _ h2).mono ?_;rintro e w2 ⟨rfl,b2⟩;have HK2:=aac ((b2.block _ HZ1.out).trans HK1.out);have HB2:=aac (HB1.out.trans (b2.mono (Nat.le_of_lt HZ1.out)));have HZ2:=aac (Nat.lt_of_lt_of_le HZ1.out b2.size);obtain⟨d0,d1⟩:=cells2 HK2.out;clear b2 HK1 HB1 HZ1 c0 c1
   cases g2:tR lo with
   | false=>
     have HA:Hid (nmF pL tR (sp,lo)=false):=aac (by unfold nmF;dsimp only;rw[HG1.out,g2];rfl);clear g2;go_wp2;go_ret;exact⟨by rw[HA.out];rfl,HB2.out⟩
   | true=>
     have HG2:=aac g2;clear g2;go_wp2_with fail;refine(C2.out sp _ h1).mono ?_;rintro e w3 ⟨rfl,b3⟩;have HK3:=aac ((b3.block _ HZ2.out).trans HK2.out);have HB3:=aac (HB2.out.trans (b3.mono (Nat.le_of_lt HZ2.out)));obtain⟨e0,e1⟩:=cells2 HK3.out;clear b3 HK2 HB2 HZ2 d0 d1
     cases g3:tR sp with
     | false=>
       have HA:Hid (nmF pL tR (sp,lo)=false):=aac (by unfold nmF;dsimp only;rw[HG1.out,HG2.out,g3];rfl);clear g3;go_wp2;go_ret;exact⟨by rw[HA.out];rfl,HB3.out⟩
     | true=>
       have HG3:=aac g3;clear g3;have HA:Hid (nmF pL tR (sp,lo)=(sp.toList != [104,116,116,112,58,47,47,119,119,119,46,119,51,46,111,114,103,47,50,48,48,48,47,120,109,108,110,115,47])):=aac (by unfold nmF;dsimp only;rw[HG1.out,HG2.out,HG3.out];rfl);go_wp2;go_ret;exact⟨by rw[HA.out];rfl,HB3.out⟩
theorem avX (A:Option Addr)(n c:Nat)(x:RE)(w:World)(hl:n=x.ats.length):
 Calls Tryz.prog 27 #[.agg #[.int .i64 x.kind,.string x.sp,.string x.lo,.slice A n c,.string x.tx]] w fun e w'=>e=.returned (.bool (acR x))∧Below w.heap.size w w':=by
 have HB0:=aac ((Below.refl w.heap.size w).alloc (Nat.le_refl _) (.cells #[.int .i64 x.kind,.string x.sp,.string x.lo,.slice A n c,.string x.tx] 54));rcases a6p x.sp x.lo with ⟨s1,s2⟩ | ⟨s1,s2⟩ | s1
 · by_cases h0:n=0
   · have HE:Hid (acR x=true):=aac (by unfold acR emp;rw[s1,s2,← hl,h0];rfl);generalize acR x=F at *;obtain⟨kind,sp,lo,ats,tx⟩:=x;dsimp only at *;subst h0;clear hl;go_enter Tryz.func27,Tryz.ntmps27;go_wp2;go_ret;exact⟨by rw[HE.out];rfl,HB0.out⟩
   · have z0:((n:Int) == 0)=false:=by rw[beq_eq_false_iff_ne];omega
     have HE:Hid (acR x=false):=aac (by unfold acR emp;rw[s1,s2,← hl];simp[h0]);generalize acR x=F at *;obtain⟨kind,sp,lo,ats,tx⟩:=x;dsimp only at *;clear hl h0;go_enter Tryz.func27,Tryz.ntmps27;go_wp2;go_ret;exact⟨by rw[HE.out];rfl,HB0.out⟩
 all_goals
  have HE:Hid (acR x=false):=aac (by unfold acR emp;(first | rw[s1,s2] | rw[s1]);rfl);generalize acR x=F at *;obtain⟨kind,sp,lo,ats,tx⟩:=x;dsimp only at *;clear hl;go_enter Tryz.func27,Tryz.ntmps27;go_wp2;go_ret;exact⟨by rw[HE.out];rfl,HB0.out⟩
end Go.Proofs.YtiaebhomfebagaaGreatDoor.Ev
namespace Go.Proofs.YtiaebhomfebagaaGreatDoor.Ev
open Go.RowKit
def AtRel (F:Bool)(nm:P2→Bool)(tR:ByteArray→Bool)(l:List P3)(n:Nat)(w:World)(i:Value)(wr:World):Prop:=
 ∃ k:Nat,i=.int .i64 k∧k≤n∧Hid (aaL wr w.heap.size ((l.take k).map (·.1)))∧Hid (Below w.heap.size w wr)∧Hid (F=goA nm tR ((l.take k).map (·.1)) (l.drop k))
theorem toList_inj {a b:ByteArray}(h:a.toList=b.toList):a=b:=by
 rw[Lib.toList_data,Lib.toList_data] at h;cases a;cases b;simp only[ByteArray.mk.injEq] at h ⊢;exact Array.toList_inj.1 h
theorem axU {x y:P2}:eqn x y=true↔x=y:=by
 unfold eqn;rw[Bool.and_eq_true,beq_iff_eq,beq_iff_eq];exact⟨fun ⟨h1,h2⟩=>Prod.ext (toList_inj h1) (toList_inj h2),fun h=>by rw[h];exact⟨rfl,rfl⟩⟩
theorem a2w {l:List P2}{x:P2}(h:x∈l):(l.any fun y=>eqn y x)=true:=List.any_eq_true.2 ⟨x,h,axU.2 rfl⟩
theorem a0J {l:List P2}{x:P2}(h:¬ x∈l):(l.any fun y=>eqn y x)=false:=List.any_eq_false.2 fun y hy e=>h (by rw[← axU.1 e];exact hy)
theorem aoI {l:List P3}{k:Nat}{x:P3}(h:l[k]?=some x):(l.take (k+1)).map (·.1)=(l.take k).map (·.1)++[x.1]:=by rw[List.take_add_one,h];simp
theorem cells3 {W:World}{b:Nat}{a0 a1 a2:Value}{T:TypeId}{fz:Nat × Nat}(h:W.heap[b]?=some (.cells #[a0,a1,a2] T fz)):W.cell? ⟨b,0,none⟩=some a0∧W.cell? ⟨b,1,none⟩=some a1∧W.cell? ⟨b,2,none⟩=some a2:=⟨aaf h 0 rfl,aaf h 1 rfl,aaf h 2 rfl⟩
theorem agT (pL tR:ByteArray→Bool)(C1:Hid (NmC pL tR))(C2:Hid (axq 28 tR))(A:Option Addr)(n c:Nat)(l:List P3)(w:World)(T:aaC w A n c l)(hB:l.length≤32→∀ y∈l,y.1.1.size≤10000∧y.1.2.size≤10000∧y.2.size≤10000):
 Calls Tryz.prog 26 #[.slice A n c] w fun e w'=>e=.returned (.bool (decide (n≤32) && goA (nmF pL tR) tR [] l))∧Below w.heap.size w w':=by
 by_cases h32:n≤32
 · rw[decide_eq_true h32,Bool.true_and];have k32:¬ (32:Int) < (n:Int):=(by omega);have HT:=aac T;have HX:=aac (hB (by rw[← T.len];exact h32));obtain⟨F,hF⟩:∃ F,F=goA (nmF pL tR) tR [] l:=⟨_,rfl⟩;rw[← hF];have HF:=aac hF;have hmm:= @run_makeMap Tryz.prog;clear T hB hF;go_enter Tryz.func26,Tryz.ntmps26;go_wp2_with fail;go_loopw [12] (fun i wr=>AtRel F (nmF pL tR) tR l n w i wr) (fun i _=>n - (intOf i).toNat);case atStart=>exact⟨0,rfl,Nat.zero_le _,aac (aia w),aac ((Below.refl _ w).alloc (Nat.le_refl _) _),HF⟩
   case round=>
    clear hmm HF;obtain⟨k,rfl,hk,HM,HR,HA⟩:=hrel;by_cases hlt:k < n
    · have k1:(k:Int) < (n:Int):=(by omega);have k2:(0:Int)≤(k:Int):=(by omega);have hkl:k < l.length:=by rw[← HT.out.len];exact hlt
      have hx:=List.getElem?_eq_getElem hkl;have hsz:=HX.out _ (List.getElem_mem hkl);obtain⟨b,off,hA,hbl,d0,d1,d2⟩:=(HT.out.rd.keep HR.out) k _ hx;have HS:=aac (go_step (nm:=nmF pL tR) (tR:=tR) hx);have HTk:=aac (aoI hx);generalize l[k]=y at *;subst hA;obtain⟨⟨ysp,ylo⟩,yv⟩:=y;dsimp only at d0 d1 d2 hsz HS HTk;have z1:ysp.size≤Lim:=by unfold Lim;omega
      have z2:ylo.size≤Lim:=by unfold Lim;omega
      have CN:Hid (∀ W,Calls Tryz.prog 25 #[.agg #[.string ysp,.string ylo]] W fun e w'=>e=.returned (.bool (nmF pL tR (ysp,ylo)))∧Below W.heap.size W w'):=aac fun W=>C1.out ysp ylo W hsz.1 hsz.2.1;have CV:Hid (∀ W,Calls Tryz.prog 28 #[.string yv] W fun e w'=>e=.returned (.bool (tR yv))∧Below W.heap.size W w'):=aac fun W=>C2.out yv W hsz.2.2;have HK0:=aac (abJ wr 40 #[.string ysp,.string ylo,.string yv]);have HB0:=aac (HR.out.alloc HR.out.size (.cells #[.string ysp,.string ylo,.string yv] 40));have HM0:=aac (HM.out.keep ((Below.refl _ wr).alloc (Nat.le_refl _) (.cells #[.string ysp,.string ylo,.string yv] 40)));have HZ:=aac (show wr.heap.size < (wr.alloc (.cells #[.string ysp,.string ylo,.string yv] 40)).heap.size by simp);have HL0:=aac HM.out.lt;clear hx hkl hsz hbl HM HR;generalize (l.take k).map (·.1)=sn at *
      cases g1:nmF pL tR (ysp,ylo) with
      | false=>
        have HE:Hid (F=false):=aac (by rw[HA.out,HS.out,g1];rfl);rw[g1] at CN;clear g1 HA HS z1 z2;go_wp2_with fail;refine(CN.out _).mono ?_;rintro e w1 ⟨rfl,b1⟩;have HB1:=aac (HB0.out.trans (b1.mono HB0.out.size));clear b1 CN;go_wp2;go_ret;exact⟨by rw[HE.out] <;> rfl,HB1.out⟩
      | true=>
        rw[g1] at CN HS;clear g1;by_cases hin:(ysp,ylo)∈sn
        · have HE:Hid (F=false):=aac (by rw[HA.out,HS.out,a2w hin];simp);have HY:Hid (∀ W,aaL W w.heap.size sn→(Instr.lookup 80 (.map (some w.heap.size)) (.agg #[.string ysp,.string ylo]) false).run Tryz.prog W=.ok (.int .i64 1) W):=aac (fun W hW=>aiD hW hin);clear HA HS z1 z2 hin;go_wp2_with fail;refine(CN.out _).mono ?_;rintro e w1 ⟨rfl,b1⟩;have HB1:=aac (HB0.out.trans (b1.mono HB0.out.size));have hlk:=HY.out w1 (HM0.out.keep b1);obtain⟨c0,c1,c2⟩:=cells3 ((b1.block _ HZ.out).trans HK0.out);clear b1 CN d0 d1 d2;go_wp2;go_ret;exact⟨by rw[HE.out] <;> rfl,HB1.out⟩
        · have HY:Hid (∀ W,aaL W w.heap.size sn→(Instr.lookup 80 (.map (some w.heap.size)) (.agg #[.string ysp,.string ylo]) false).run Tryz.prog W=.ok (.int .i64 0) W):=aac (fun W hW=>akx hW hin z1 z2);have HP:=aac (fun W (hW:aaL W w.heap.size sn)=>ahI hW hin z1 z2);have HS2:=aac (HS.out.trans (by rw[a0J hin]));clear HS z1 z2 hin
          cases g2:tR yv with
          | false=>
            have HE:Hid (F=false):=aac (by rw[HA.out,HS2.out,g2];rfl);rw[g2] at CV;clear g2 HA HS2 HP;go_wp2_with fail;refine(CN.out _).mono ?_;rintro e w1 ⟨rfl,b1⟩;have HB1:=aac (HB0.out.trans (b1.mono HB0.out.size));have hlk:=HY.out w1 (HM0.out.keep b1);obtain⟨c0,c1,c2⟩:=cells3 ((b1.block _ HZ.out).trans HK0.out);clear b1 CN d0 d1 d2;go_wp2_with fail;refine(CV.out _).mono ?_;rintro e w2 ⟨rfl,b2⟩;have HB2:=aac (HB1.out.trans (b2.mono HB1.out.size));clear b2 hlk c0 c1 c2 CV;go_wp2;go_ret;exact⟨by rw[HE.out] <;> rfl,HB2.out⟩
          | true=>
            have HA2:Hid (F=goA (nmF pL tR) tR (sn++[(ysp,ylo)]) (l.drop (k+1))):=aac (by rw[HA.out,HS2.out,g2,HTk.out];rfl);rw[g2] at CV;clear g2 HA HS2;go_wp2_with fail;refine(CN.out _).mono ?_;rintro e w1 ⟨rfl,b1⟩;have HB1:=aac (HB0.out.trans (b1.mono HB0.out.size));have HM1:=aac (HM0.out.keep b1);have hlk:=HY.out w1 HM1.out;have HK1:=aac ((b1.block _ HZ.out).trans HK0.out);have HZ1:=aac (Nat.lt_of_lt_of_le HZ.out b1.size);obtain⟨c0,c1,c2⟩:=cells3 HK1.out;clear b1 CN d0 d1 d2;go_wp2_with fail;refine(CV.out _).mono ?_;rintro e w2 ⟨rfl,b2⟩;have HB2:=aac (HB1.out.trans (b2.mono HB1.out.size));have HM2:=aac (HM1.out.keep b2);obtain⟨f0,f1,f2⟩:=cells3 ((b2.block _ HZ1.out).trans HK1.out);clear b2 CV hlk c0 c1 c2 HK1 HK0 HM0 HM1 HB0 HB1;go_wp2_with fail;obtain⟨st,V1,V2,e1,e2,e3,hS2,v1,v2⟩:=HP.out w2.drew HM2.out;have e0:=HY.out w2.drew HM2.out
            have hne:some wr.heap.size≠some w.heap.size:=fun e=>by
             injection e with e
             have:=HL0.out;omega
            have y0:V1.cell? ⟨wr.heap.size,0,none⟩=some (.string ysp):=v1.cell (show w2.drew.cell? ⟨wr.heap.size,0,none⟩=some (.string ysp) by rw[World.cell?_drew];exact f0) hne;have y1:V1.cell? ⟨wr.heap.size,1,none⟩=some (.string ylo):=v1.cell (show w2.drew.cell? ⟨wr.heap.size,1,none⟩=some (.string ylo) by rw[World.cell?_drew];exact f1) hne;have HB:Hid (Below w.heap.size w V2):=aac (Below.grown (Below.drew HB2.out) v2 HB2.out.size (fun j hj=>by injection hj with hj;omega));have HQ:Hid (aaL V2 w.heap.size ((l.take (k+1)).map (·.1))):=aac (by rw[HTk.out];exact hS2);rw[← HTk.out] at HA2;clear hS2 v1 v2 HM2 HP HY HB2;generalize wr.heap.size=ba at *;go_region
            all_goals
             clear e0 e1 e2 e3 y0 y1 f0 f1 f2;go_wp2;go_roundw;case rel=>exact⟨k+1,by go_num,by omega,HQ,HB,HA2⟩
             case measure=>simp only[intOf];omega
    · have k1:¬ (k:Int) < (n:Int):=(by omega);have HE:Hid (F=true):=aac (by rw[HA.out,List.drop_of_length_le (by rw[← HT.out.len];omega)];rfl);clear HA;go_wp2;go_ret;exact⟨by rw[HE.out] <;> rfl,HR.out⟩
 · rw[decide_eq_false h32,Bool.false_and];have k32:(32:Int) < (n:Int):=(by omega);clear T hB h32;go_enter Tryz.func26,Tryz.ntmps26;go_wp2;go_ret;exact⟨rfl,Below.refl _ _⟩
end Go.Proofs.YtiaebhomfebagaaGreatDoor.Ev
namespace Go.Proofs.YtiaebhomfebagaaGreatDoor.Ev
open Go.RowKit
open Go.ChangeMaps
theorem Prt.a5Q {B b mb:Nat}{bs:List Int}{W W':World}{es:Array MapEntry}{clock:Nat}(h:Prt B b bs W)(hm:W.heap[mb]?=some (.map es clock))(hg:W.grownBy W' (some mb)):Prt B b bs W':=by
 have key:∀ p,akf p B b bs W→akf p B b bs W':=fun p hp=>by
  have hlt:=hp.lt;obtain⟨h1,h2,x,h3,h4,h5⟩:=hp;refine⟨h1,h2,x,(hg.block b hlt (fun e=> ?_)).trans h3,World.ownsRow.kept h4 hg (Or.inr fun e=> ?_),h5⟩
  · injection e with e
    rw[e,hm] at h3;cases h3
  · obtain⟨c,fz,hc⟩:=alS h4 mb e;rw[hm] at hc;cases hc
 exact h.imp (key _) (key _)
theorem FrP.mapped {B b mb:Nat}{w W W':World}(h:FrP B b w W)(hmb:w.heap.size≤mb)(hB:B≤w.heap.size)(hg:W.grownBy W' (some mb)):FrP B b w W':=
 ⟨h.bel.grown hg (Nat.le_trans hB h.bel.size) (fun k e=>by injection e with e;omega),fun k o hk hkb ho=>by
  have h1:=h.oth k o hk hkb ho;have hlt:=(Array.getElem?_eq_some_iff.1 hk).1;exact(hg.block k (Array.getElem?_eq_some_iff.1 h1).1 (fun e=>by injection e with e;omega)).trans h1⟩
theorem FrP.alloc {B b:Nat}{w W:World}(h:FrP B b w W)(hB:B≤w.heap.size)(o:Obj):FrP B b w (W.alloc o):=h.trans (FrP.of ((Below.refl _ W).alloc (Nat.le_refl _) o) (Nat.le_trans hB h.bel.size))
theorem arS:∀ (l m:List ByteArray) (j:Nat),bdB j (l++m)=bdB j l++bdB (j+l.length) m
 | [],m,j=>rfl
 | a :: l,m,j=>by
   rw[List.cons_append,bdB,bdB,arS l,List.append_assoc,List.length_cons,show j+1+l.length=j+(l.length+1) by omega]
structure AtI (B b mb:Nat)(L:List Int)(sn:List ByteArray)(w wr:World):Prop where
 prt:Prt B b L wr
 see:adr wr mb sn
 fr:FrP B b w wr
theorem AtI.keep {B b mb:Nat}{L:List Int}{sn:List ByteArray}{w wr w':World}(h:AtI B b mb L sn w wr)(hB:B≤w.heap.size)(hb:Below wr.heap.size wr w'):AtI B b mb L sn w w':=⟨h.prt.keep hb,h.see.keep hb,h.fr.trans (FrP.of hb (Nat.le_trans hB h.fr.bel.size))⟩
theorem AtI.put {B b mb:Nat}{L L':List Int}{sn:List ByteArray}{w wr w':World}(h:AtI B b mb L sn w wr)(hne:mb≠b)(hp:Prt B b L' w')(hf:FrP B b wr w'):AtI B b mb L' sn w w':=⟨hp,h.see.a4O hf hne,h.fr.trans hf⟩
structure AtX (B b mb:Nat)(L:List Int)(sn:List ByteArray)(w:World)(xb:Nat)(u ylo yv:ByteArray)(W:World):Prop where
 hp:W.heap[xb]?=some (.cells #[.string u,.string ylo,.string yv] 40 (0,0))
 inv:AtI B b mb L sn w W
theorem AtX.keep {B b mb:Nat}{L:List Int}{sn:List ByteArray}{w:World}{xb:Nat}{u ylo yv:ByteArray}{W W':World}(h:AtX B b mb L sn w xb u ylo yv W)(hB:B≤w.heap.size)(hb:Below W.heap.size W W'):AtX B b mb L sn w xb u ylo yv W':=⟨(hb.block _ (Array.getElem?_eq_some_iff.1 h.hp).1).trans h.hp,h.inv.keep hB hb⟩
theorem AtX.put {B b mb:Nat}{L L':List Int}{sn:List ByteArray}{w:World}{xb:Nat}{u ylo yv:ByteArray}{W W':World}(h:AtX B b mb L sn w xb u ylo yv W)(hxb:xb≠b)(hi:AtI B b mb L' sn w W')(hf:FrP B b W W'):AtX B b mb L' sn w xb u ylo yv W':=⟨hf.blk h.hp hxb (by decide),hi⟩
theorem aiE (B b:Nat)(bs:List Int)(A:Option Addr)(n c:Nat)(l:List P3)(w:World)(h:Prt B b bs w)(hB:B≤w.heap.size)(T:aaC w A n c l)(hA:AtP (· < B) A n)(hM:atM l)(h4:l.length≤400)(hT:TbB B w)
 (hl:bs.length+(bdB 0 (spL l)).length+(asB (spL l) l).length≤17592186044416):
 Calls Tryz.prog 44 #[.pointer (some ⟨b,0,none⟩),.slice A n c] w fun e w'=>e=.returned (.tuple #[])∧Prt B b (bs++bdB 0 (spL l)++asB (spL l) l) w'∧FrP B b w w':=by
 have hn:=T.cnt;have hbw:=h.lt;have hne:w.heap.size≠b:=(by omega);have HT:Hid (∀ W,Below B w W→aaC W A n c l):=aac fun W hb=>T.abP hb hA;have HTb:=aac hT;have HM:=aac hM;have HL:Hid (bs.length+(bdB 0 (spL l)).length+(asB (spL l) l).length≤17592186044416):=aac hl;have hnl:=T.len
 have H0:Hid (AtI B b w.heap.size (bs++bdB 0 (spL (l.take 0))) (spL (l.take 0)) w (w.alloc (.map #[] 0))):=aac ⟨by
  show Prt B b (bs++[]) _;rw[List.append_nil];exact h.keep ((Below.refl _ w).alloc (Nat.le_refl _) _),auI w,FrP.of ((Below.refl _ w).alloc (Nat.le_refl _) _) hB⟩
 have hmm:= @run_makeMap Tryz.prog;clear T h hA hM hl hT;have HN:Hid (n=l.length):=aac hnl;have hn4:n≤400:=(by omega);clear hnl h4 hn;go_enter Tryz.func44,Tryz.ntmps44;go_wp2_with fail;go_loopw [16] (fun i wr=>∃ k:Nat,i=.int .i64 k∧k≤n∧Hid (AtI B b w.heap.size (bs++bdB 0 (spL (l.take k))) (spL (l.take k)) w wr)) (fun i _=>n - (intOf i).toNat);case atStart=>exact⟨0,rfl,Nat.zero_le _,H0⟩
 case round=>
  clear hmm H0;obtain⟨k,rfl,hk,HI⟩:=hrel;by_cases hlt:k < n
  · have k1:(k:Int) < (n:Int):=(by omega);have k2:(0:Int)≤(k:Int):=(by omega);have hkl:k < l.length:=by rw[← HN.out];exact hlt
    have hx:=List.getElem?_eq_getElem hkl;have hsz:=HM.out _ (List.getElem_mem hkl);obtain⟨b',off,hA,hbl,d0,d1,d2⟩:=(HT.out wr HI.out.fr.bel).rd k _ hx;have HX:=aac hx;generalize l[k]=y at *;subst hA;obtain⟨⟨u,ylo⟩,yv⟩:=y;dsimp only at d0 d1 d2 hsz;have HK0:=aac (abJ wr 40 #[.string u,.string ylo,.string yv]);have HI1:=aac (HI.out.keep hB ((Below.refl _ wr).alloc (Nat.le_refl _) (.cells #[.string u,.string ylo,.string yv] 40)));have HTk:=aac (amw HX.out);have HBk:=aac (atv HX.out)
    have HPre:Hid ((bdB 0 (spL (l.take (k+1)))).length≤(bdB 0 (spL l)).length):=aac (by
     obtain⟨t,ht⟩:=a0c l (k+1);rw[ht,arS,List.length_append];omega)
    have hu:=hsz.1;clear hx hkl hbl HI hsz;by_cases hin:u∈spL (l.take k)
    · have HI2:Hid (∀ W,AtI B b w.heap.size (bs++bdB 0 (spL (l.take k))) (spL (l.take k)) w W→AtI B b w.heap.size (bs++bdB 0 (spL (l.take (k+1)))) (spL (l.take (k+1))) w W):=aac fun W hW=>by
       rw[HBk.out,HTk.out,if_neg (fun q=>q.2 hin),if_neg (fun q=>q.2 hin),List.append_nil];exact hW
      have hlk:=amG HI1.out.see hin true;rw[if_pos rfl] at hlk;have HI3:=aac (HI2.out _ HI1.out);clear hin HI2 HI1 HTk HBk HPre;go_wp2_with fail;go_roundw;case rel=>exact⟨k+1,by go_num,by omega,HI3⟩
      case measure=>simp only[intOf];omega
    · have hlk:=azo HI1.out.see hin;rcases anp u with ⟨-,ho,K⟩ | ⟨-,ho,K⟩ | ⟨-,-,ho,K⟩
      all_goals
       obtain⟨e1,e2,e3,x1,x2⟩:=K;simp only[Bool.not_true,Bool.not_false] at e3 x2
      iterate 2
       · have HI2:Hid (∀ W,AtI B b w.heap.size (bs++bdB 0 (spL (l.take k))) (spL (l.take k)) w W→AtI B b w.heap.size (bs++bdB 0 (spL (l.take (k+1)))) (spL (l.take (k+1))) w W):=aac fun W hW=>by
          rw[HBk.out,HTk.out,if_neg (fun q=>by rw[ho] at q;exact Bool.false_ne_true q.1),if_neg (fun q=>by rw[ho] at q;exact Bool.false_ne_true q.1),List.append_nil];exact hW
         have HI3:=aac (HI2.out _ HI1.out);clear hin HI2 HI1 HTk HBk HPre ho;go_wp2_with fail;go_roundw;case rel=>exact⟨k+1,by go_num,by omega,HI3⟩
         case measure=>simp only[intOf];omega
      · have HTn:Hid (spL (l.take (k+1))=spL (l.take k)++[u]):=aac (by rw[HTk.out,if_pos ⟨ho,hin⟩]);have HBn:Hid (bdB 0 (spL (l.take (k+1)))=bdB 0 (spL (l.take k))++prB (xnB (spL (l.take k)).length) u):=aac (by rw[HBk.out,if_pos ⟨ho,hin⟩]);have hslen:(spL (l.take k)).length≤400:=Nat.le_trans (adt _) (by rw[List.length_take];omega);obtain⟨es,clock,hmb,hes⟩:=HI1.out.see.len;obtain⟨W1,hput,hse,hgr⟩:=ayq HI1.out.see hin;have HI2:Hid (AtI B b w.heap.size (bs++bdB 0 (spL (l.take k))) (spL (l.take (k+1))) w W1):=aac ⟨HI1.out.prt.a5Q hmb hgr,by rw[HTn.out];exact hse,HI1.out.fr.mapped (Nat.le_refl _) hB hgr⟩
        have hlen:(Builtin.len_ #[115] 3 #[.map (some w.heap.size)]).run Tryz.prog (wr.alloc (.cells #[.string u,.string ylo,.string yv] 40))=.ok (.int .i64 (spL (l.take k)).length) (wr.alloc (.cells #[.string u,.string ylo,.string yv] 40)):=by
         rw[run_len_map _ _ _ _ es clock (by kernel_rfl) hmb,hes];rfl
        have HLL:=aac (show bs.length+(bdB 0 (spL (l.take (k+1)))).length≤17592186044416 by have:=HL.out;have:=HPre.out;omega);have CP:=aac (ahv (spL (l.take k)).length (by omega) W1 (HTb.out.on HI2.out.fr.bel).here);clear hin hse hgr hmb hes HI1 HTk HBk HPre ho HTn;rw[HBn.out] at HLL;generalize bdB 0 (spL (l.take k))=L0 at *;obtain⟨m,hm⟩:∃ m,m=(spL (l.take k)).length:=⟨_,rfl⟩;rw[← hm] at hput hlen CP HBn HLL hslen;clear hm
        have CW:Hid (∀ (O:ByteArray) W,aad O=[110]++dgB m→AtI B b w.heap.size (bs++L0) (spL (l.take (k+1))) w W→Calls Tryz.prog 43 #[.pointer (some ⟨b,0,none⟩),.string (⟨#[120,109,108,110,115,58]⟩++O),.string u] W fun e w'=>e=.returned (.tuple #[])∧AtI B b w.heap.size (bs++(L0++prB (xnB m) u)) (spL (l.take (k+1))) w w'):=aac fun O W hO hW=>by
         have e:aad (⟨#[120,109,108,110,115,58]⟩++O)=xnB m:=by
          rw[aaq,hO];rfl
         have hz:=akY (n:=m) (by omega);have:=afb B b (bs++L0) (⟨#[120,109,108,110,115,58]⟩++O) u W hW.prt (Nat.le_trans hB hW.fr.bel.size) (by rw[← aae,e];omega) hu (by rw[e,List.length_append];have:=HLL.out;rw[List.length_append] at this;omega);rw[e,List.append_assoc] at this;exact this.mono fun e w' ⟨h1,h2,h3⟩=>⟨h1,hW.put hne h2 h3⟩
        clear HLL;go_wp2_with fail;refine CP.out.mono ?_;rintro e w2 ⟨⟨O,rfl,ho⟩,b2⟩
        have hO3:O.size≤4:=by
         have:=agJ (n:=m) (by omega);rw[← aae,ho,List.length_append];simp only[List.length_cons,List.length_nil];omega
        have C2:=aac (CW.out O w2 ho (HI2.out.keep hB b2));clear ho CP CW HI2 b2 hlk hput hlen;go_wp2_with fail;refine C2.out.mono ?_;rintro e w3 ⟨rfl,h3⟩;have HI4:Hid (AtI B b w.heap.size (bs++bdB 0 (spL (l.take (k+1)))) (spL (l.take (k+1))) w w3):=aac (by rw[HBn.out];exact h3);clear h3 C2;go_wp2_with fail;go_roundw;case rel=>exact⟨k+1,by go_num,by omega,HI4⟩
        case measure=>simp only[intOf];omega
  · have hke:k=n:=(by omega);subst hke;have k1:¬ (k:Int) < (k:Int):=by omega
    have H1:Hid (AtI B b w.heap.size (bs++bdB 0 (spL l)++asB (spL l) (l.take 0)) (spL l) w wr):=aac (by
     have:=HI.out;rw[List.take_of_length_le (by rw[HN.out];exact Nat.le_refl _)] at this;show AtI B b w.heap.size (bs++bdB 0 (spL l)++[]) (spL l) w wr;rw[List.append_nil];exact this)
    clear HI;have hsl:(spL l).length≤400:=Nat.le_trans (adt _) (by rw[← HN.out];omega);go_wp2_with fail;go_loopw [52] (fun i wr=>∃ j:Nat,i=.int .i64 j∧j≤k∧Hid (AtI B b w.heap.size (bs++bdB 0 (spL l)++asB (spL l) (l.take j)) (spL l) w wr)) (fun i _=>k - (intOf i).toNat);case atStart=>exact⟨0,rfl,Nat.zero_le _,H1⟩
    case round=>
     clear H1;obtain⟨j,rfl,hj,HI⟩:=hrel;have hrs:=HI.out.fr.bel.size;by_cases hjk:j < k
     · have k1:(j:Int) < (k:Int):=(by omega);have k2:(0:Int)≤(j:Int):=(by omega);have hkl:j < l.length:=by rw[← HN.out];exact hjk
       have hx:=List.getElem?_eq_getElem hkl;have hsz:=HM.out _ (List.getElem_mem hkl);have hmem:=List.getElem_mem hkl;obtain⟨b',off,hA,hbl,d0,d1,d2⟩:=(HT.out wr HI.out.fr.bel).rd j _ hx;have HX:=aac hx;generalize l[j]=y at *;subst hA;obtain⟨⟨u,ylo⟩,yv⟩:=y;dsimp only at d0 d1 d2 hsz;have HK0:=aac (abJ wr 40 #[.string u,.string ylo,.string yv]);have HI1:=aac (HI.out.keep hB ((Below.refl _ wr).alloc (Nat.le_refl _) (.cells #[.string u,.string ylo,.string yv] 40)));have HTk:=aac (avu (spL l) HX.out)
       have HPre:Hid ((asB (spL l) (l.take (j+1))).length≤(asB (spL l) l).length):=aac (by
        have h:=alC (spL l) (l.take (j+1)) (l.drop (j+1));rw[List.take_append_drop] at h;rw[h,List.length_append];omega)
       have HLL:=aac (show bs.length+(bdB 0 (spL l)).length+(asB (spL l) (l.take j)).length+(aB (spL l) ((u,ylo),yv)).length≤17592186044416 by
        have:=HL.out;have h2:=HPre.out;rw[HTk.out,List.length_append] at h2;omega)
       have hul:=hsz.2.1;have huv:=hsz.2.2
       have CW:Hid (∀ (nm:ByteArray) W,nm.size≤1073741824→aad nm=aNm (spL l) ((u,ylo),yv)→AtI B b w.heap.size (bs++bdB 0 (spL l)++asB (spL l) (l.take j)) (spL l) w W→Calls Tryz.prog 43 #[.pointer (some ⟨b,0,none⟩),.string nm,.string yv] W fun e w'=>e=.returned (.tuple #[])∧AtI B b w.heap.size (bs++bdB 0 (spL l)++asB (spL l) (l.take (j+1))) (spL l) w w'∧FrP B b W w'):=aac fun nm W hz hO hW=>by
        have:=afb B b (bs++bdB 0 (spL l)++asB (spL l) (l.take j)) nm yv W hW.prt (Nat.le_trans hB hW.fr.bel.size) hz huv (by
         have:=HLL.out;unfold aB at this;rw[hO];simp only[List.length_append] at this ⊢;omega)
        rw[hO] at this;rw[HTk.out,← List.append_assoc];exact this.mono fun e w' ⟨h1,h2,h3⟩=>⟨h1,hW.put hne h2 h3,h3⟩
       obtain⟨c0,c1,c2⟩:=cells3 HK0.out;clear hx hkl hbl HI hsz HTk HPre HLL;rcases anp u with ⟨q,-,K⟩ | ⟨q,-,K⟩ | ⟨q1,q2,ho,K⟩
       · have C2:=aac (CW.out ylo _ (by omega) (by unfold aNm;rw[if_pos q]) HI1.out);obtain⟨e1,e2,e3,x1,x2⟩:=K;simp only[Bool.not_true,Bool.not_false] at e3 x2;clear q CW;go_wp2_with fail;refine C2.out.mono ?_;rintro e w3 ⟨rfl,h3,f3⟩;have HI4:=aac h3;clear h3 C2 f3;go_wp2_with fail;go_roundw;case rel=>exact⟨j+1,by go_num,by omega,HI4⟩
         case measure=>simp only[intOf];omega
       · have C2:=aac (CW.out (⟨#[120,109,108,58]⟩++ylo) _ (by rw[abS];show 4+_≤_;omega) (by unfold aNm;rw[if_neg (by dsimp only;rw[q];decide),if_pos q,aaq];rfl) HI1.out);obtain⟨e1,e2,e3,x1,x2⟩:=K;simp only[Bool.not_true,Bool.not_false] at e3 x2;clear q CW;go_wp2_with fail;refine C2.out.mono ?_;rintro e w3 ⟨rfl,h3,f3⟩;have HI4:=aac h3;clear h3 C2 f3;go_wp2_with fail;go_roundw;case rel=>exact⟨j+1,by go_num,by omega,HI4⟩
         case measure=>simp only[intOf];omega
       · have hxb:wr.heap.size≠b:=by have:=HI1.out.fr.bel.size;have:=hrs;omega
         obtain⟨m,hm⟩:∃ m,m=ixS (spL l) u:=⟨_,rfl⟩;have hin:u∈spL l:=adv.2 ⟨ho,_,hmem,rfl⟩;have hm4:m < 1000:=by rw[hm];have:=awS hin;omega
         have hlk:=amG (w:=(wr.alloc (.cells #[.string u,.string ylo,.string yv] 40)).drew) (show adr (wr.alloc (.cells #[.string u,.string ylo,.string yv] 40)).drew w.heap.size (spL l) from HI1.out.see) hin false;rw[if_neg (by decide),← hm] at hlk;have HNm:Hid (aNm (spL l) ((u,ylo),yv)=[110]++dgB m++[58]++aad ylo):=aac (by unfold aNm;rw[if_neg (by exact q1),if_neg (by exact q2)];dsimp only;rw[← hm]);have CP:Hid (∀ W,TbI W→Calls Tryz.prog 64 #[.int .i64 m] W fun e w'=>(∃ O,e=.returned (.string O)∧aad O=[110]++dgB m)∧Below W.heap.size W w'):=aac fun W hW=>ahv m hm4 W hW;have X:Hid (AtX B b w.heap.size (bs++bdB 0 (spL l)++asB (spL l) (l.take j)) (spL l) w wr.heap.size u ylo yv (wr.alloc (.cells #[.string u,.string ylo,.string yv] 40)).drew):=aac ⟨HK0.out,HI1.out.keep hB (Below.drew (Below.refl _ _))⟩;have HTI:Hid (∀ W,AtX B b w.heap.size (bs++bdB 0 (spL l)++asB (spL l) (l.take j)) (spL l) w wr.heap.size u ylo yv W→TbI W):=aac fun W hW=>(HTb.out.on hW.inv.fr.bel).here;obtain⟨e1,e2,e3,x1,x2⟩:=K;simp only[Bool.not_true,Bool.not_false] at e3 x2;clear hm hin q1 q2 ho hmem HI1 HK0;go_wp2_with fail;clear c0 c1 c2 d0 d1 d2;generalize wr.alloc (.cells #[.string u,.string ylo,.string yv] 40)=V at *;generalize wr.heap.size=xb at *
         go_region_held3 (fun W=>W.cell? ⟨xb,0,none⟩=some (.string u)∧W.cell? ⟨xb,1,none⟩=some (.string ylo)∧W.cell? ⟨xb,2,none⟩=some (.string yv))
          (first | with_reducible exact cells3 X.out.hp | fail)
          (first
            | (go_at_call 43;refine(CW.out _ _ (by rw[abS,abS];show _+1+_≤_;omega) (by rw[aaq,aaq,HO.out,HNm.out];rfl) X.out.inv).mono ?_;rintro e w3 ⟨rfl,h3,f3⟩;replace X:=aac (AtX.put X.out hxb h3 f3);clear h3 f3)
            | (go_at_call 64;refine(CP.out _ (HTI.out _ X.out)).mono ?_;rintro e w2 ⟨⟨O,rfl,ho⟩,b2⟩;have hO3:O.size≤4:=(by rw[← aae,ho,List.length_append];exact Nat.add_le_add_left (agJ hm4) 1);have HO:=aac ho;have n1:¬ 9223372036854775807 < O.size+1:=(by omega);have n2:¬ 9223372036854775807 < O.size+1+ylo.size:=(by omega);replace X:=aac (AtX.keep X.out hB b2);clear ho b2)
            | fail)
         all_goals
          have HI4:=aac X.out.inv;clear X;go_wp2_with fail;go_roundw;case rel=>exact⟨j+1,by go_num,by omega,HI4⟩
          case measure=>simp only[intOf];omega
     · have hke:j=k:=(by omega);subst hke;have k1:¬ (j:Int) < (j:Int):=(by omega);have HE:Hid (asB (spL l) (l.take j)=asB (spL l) l):=aac (by rw[List.take_of_length_le (by rw[HN.out];exact Nat.le_refl _)]);go_wp2_with fail
       go_end0
       have hp:=HI.out.prt;rw[HE.out,List.append_assoc] at hp;exact⟨rfl,hp,HI.out.fr⟩
end Go.Proofs.YtiaebhomfebagaaGreatDoor.Ev
