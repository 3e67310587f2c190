/- Lemmas of the claim. -/
import Derived.Test.YtnomcldpbkinmaaGreatDoorG21
import Derived.Test.YtnomcldpbkinmaaGreatDoorG22
set_option maxHeartbeats 8000000
set_option maxRecDepth 100000
set_option linter.unusedSimpArgs false
set_option linter.unusedVariables false
namespace Go.Proofs.YtnomcldpbkinmaaGreatDoor.Nz.Sc
open Go.RowKit
theorem aaB {P:Program}{w:World}{ops:Array Oper}{rest:List Oper}{o:Oper}{a:Act}{Q:Exit→Act→World→Prop}(hgd:o.guard=none)(s x:Operand)(t:TypeId)
 (ho:o.op=.call { callee:=.builtin .append,args:= #[s,x],argTypes:= #[t,t] })
 (base:Nat) (e:TypeId) (i:TypeInfo) (z:Value) (size bytes:Nat) (ht:P.underlying t=some (.slice e)) (hi:P.info? e=some i) (hz:i.zero=some z) (hsize:i.size=size) (hby:i.bytes=bytes) (hzs:z.cells.size=size) (hsz:0 < size)
 (v:Value) (n:Nat) (xs:List Value) (hs:a.eval s=v) (hown:w.ownsRow base e size v n xs)
 (A:Option Addr) (m c:Nat) (news:List Value) (hx:a.eval x=.slice A m c) (hnil:A=none→m=0∧c=0) (hl:news.length=m * size) (hnews:∀ ad,A=some ad→∀ j u,news[j]?=some u→w.cell? (ad.add j)=some u) (h1:∀ u∈news,u.oneCell'=true)
 (h63:n+m≤maxLen) (hbytes:(n+m) * bytes≤140737488355328) (hbase:base≤w.heap.size)
 (h:∀ v' w',w'.ownsRow base e size v' (n+m) (xs++news)→w.grownBy w' v.ownBlock→wpList P ops Q rest (a.put o.dst v') w'):
 wpList P ops Q (o :: rest) a w:=by
 cases A with
 | some ad=>exact wpList_append_own w hgd s x t ho base e i z size bytes ht hi hz hsize hby hzs hsz v n xs hs hown ad m c news hx hl (hnews ad rfl) h1 h63 hbytes hbase (fun v' w' a1 a2 _=>h v' w' a1 a2)
 | none=>
   obtain⟨rfl,rfl⟩:=hnil rfl;have hnw:news=[]:=List.eq_nil_of_length_eq_zero (by rw[hl,Nat.zero_mul]);subst hnw;refine wpList_plain hgd fun K hK=> ?_;have hr:=run_append_owned_none (P:=P) (w:=w) base t o.type e i size ht hi v n xs hown;unfold Oper.wp execOp;simp only[ho,resolve,invoke,builtin,Sem.run_bind,Sem.run_pure,Result.andThen_ok,List.map_toArray,List.map_cons,List.map_nil,hs,hx,hr];exact hK _ _ (h v w (by rw[List.append_nil];exact hown) ⟨rfl,rfl,rfl,Nat.le_refl _,fun _ _ _=>rfl⟩)
theorem azf {W:World}{B h:Nat}{e:TypeId}(hb:W.heap[h]?=some (.cells #[] e (0,0)))(hB:B≤h):W.ownsRow B e 2 (.slice (some ⟨h,0,none⟩) 0 0) 0 []:=
 ⟨by simp,.inr ⟨h,0,#[],rfl,hB,hb,Nat.le_refl _,Nat.zero_le _,rfl,rfl⟩⟩
theorem eqd (x y:ByteArray):eqb x y=(x.data.toList == y.data.toList):=by unfold eqb;rw[Lib.toList_data,Lib.toList_data]
theorem Tryz.results28:Tryz.f28.results= #[ResultVar.tmp 4,ResultVar.cell 5 50,ResultVar.tmp 6]:=by kernel_rfl
def En0 (w:World)(nm:ByteArray)(A2:Option Addr)(M cap2:Nat):World:=(w.alloc (.cells #[.string nm,.slice A2 M cap2] 53)).alloc (.cells #[.int .i64 0,.string ⟨#[]⟩,.string ⟨#[]⟩,.slice none 0 0,.string ⟨#[]⟩] 50)
theorem aeY (w:World)(nm:ByteArray)(A2:Option Addr)(M cap2:Nat):(En0 w nm A2 M cap2).heap.size=w.heap.size+1+1:=by simp[En0]
theorem atr {w:World}{nm:ByteArray}{A2:Option Addr}{M cap2:Nat}{W:World}(h:Below (w.heap.size+1+1) (En0 w nm A2 M cap2) W):EnB w nm A2 M cap2 W:=by
 rw[← aeY w nm A2 M cap2] at h;exact(acC w nm A2 M cap2).keep h
theorem avX {w:World}{nm:ByteArray}{A2 A:Option Addr}{M cap2:Nat}{W:World}{l:List P2}(h:Below (w.heap.size+1+1) (En0 w nm A2 M cap2) W)(hR:RdR w A l):RdR W A l:=by
 rw[← aeY w nm A2 M cap2] at h;exact(hR.keep (acC w nm A2 M cap2).bel).keep h
theorem a2T {L R:List P2}{nm:ByteArray}(h:abQ L R=none):acM L nm R=.error 9:=by unfold acM;rw[h]
theorem a3v {L R Ws:List P2}{nm:ByteArray}(h:abQ L R=some Ws)(hn:alf Ws nm=none):acM L nm R=.error 9:=by unfold acM;rw[h];dsimp only;rw[hn]
theorem auB {L R Ws:List P2}{nm:ByteArray}{n:P2}{c:Int}(h:abQ L R=some Ws)(hn:alf Ws nm=some n)(ha:afh Ws [] R=.error c):acM L nm R=.error c:=by unfold acM;rw[h];dsimp only;rw[hn];dsimp only;rw[ha]
theorem a3C {L R Ws:List P2}{nm:ByteArray}{n:P2}{f:List P3}(h:abQ L R=some Ws)(hn:alf Ws nm=some n)(ha:afh Ws [] R=.ok f):acM L nm R=.ok (Ws,n,f):=by unfold acM;rw[h];dsimp only;rw[hn];dsimp only;rw[ha]
theorem ach {w w':World}{b j:Nat}{v:Value}(h:w.cell? ⟨b,j,none⟩=some v)(hl:b < w.heap.size)(hb:Below w.heap.size w w'):w'.cell? ⟨b,j,none⟩=some v:=(hb.cell (p:=⟨b,j,none⟩) hl).trans h
theorem ayj {e:TypeId}{z n B:Nat}{w:World}{v:Value}{xs:List Value}{g:Nat}{cs:Array Value}{T:TypeId}{fr:Nat × Nat}(h:w.ownsRow B e z v n xs)(hb:w.heap[g]?=some (.cells cs T fr))(hT:T≠e)(j:Nat)(x:Value):(w.setCell ⟨g,j,none⟩ x).ownsRow B e z v n xs:=
 World.ownsRow.kept (row:=some g) h ⟨rfl,rfl,rfl,by simp[World.setCell],fun k _ hk=>Below.heap_setCell _ _ _ _ (fun e=>hk (by simp[e]))⟩ (Or.inr (own_ne h hb hT))
theorem a0Z {b:Bool}{x y:List UInt8}(h:(x == y)=b):(x != y)= !b:=by rw[bne,h]
theorem not_eq {b c:Bool}(h:b=c):(!b)= !c:=by rw[h]
theorem a3S (p:ByteArray):(eqb p xn=true∧eqb p em=false∧eqb p xm=false)∨(eqb p xn=false∧eqb p em=true∧eqb p xm=false)∨(eqb p xn=false∧eqb p em=false∧eqb p xm=true)∨(eqb p xn=false∧eqb p em=false∧eqb p xm=false):=by
 cases h1:eqb p xn
 · cases h2:eqb p em
   · cases h3:eqb p xm
     · exact .inr (.inr (.inr ⟨rfl,rfl,rfl⟩))
     · exact .inr (.inr (.inl ⟨rfl,rfl,rfl⟩))
   · refine .inr (.inl ⟨rfl,rfl,?_⟩);rw[adu.1 h2,eqd];decide
 · refine .inl ⟨rfl,?_,?_⟩ <;>
   · rw[adu.1 h1,eqd];decide
theorem a3e (s:ByteArray):(eqb s XN=true∧eqb s em=false∧eqb s XS=false)∨(eqb s XN=false∧eqb s em=true∧eqb s XS=false)∨(eqb s XN=false∧eqb s em=false∧eqb s XS=true)∨(eqb s XN=false∧eqb s em=false∧eqb s XS=false):=by
 cases h1:eqb s XN
 · cases h2:eqb s em
   · cases h3:eqb s XS
     · exact .inr (.inr (.inr ⟨rfl,rfl,rfl⟩))
     · exact .inr (.inr (.inl ⟨rfl,rfl,rfl⟩))
   · refine .inr (.inl ⟨rfl,rfl,?_⟩);rw[adu.1 h2,eqd];decide
 · refine .inl ⟨rfl,?_,?_⟩ <;>
   · rw[adu.1 h1,eqd];decide
theorem amX {s v:ByteArray}(hs:s.size≤10000)(hr:(aao s).2.2=true)(h:agp s=none):a3V s v ⟨#[]⟩ false:=fun w=>(aki s v hs hr w).mono fun e w' ⟨h1,h2⟩=>⟨by rw[h1,h];rfl,h2⟩
theorem anh {s v p:ByteArray}(hs:s.size≤10000)(hr:(aao s).2.2=true)(h:agp s=some p):a3V s v p true:=fun w=>(aki s v hs hr w).mono fun e w' ⟨h1,h2⟩=>⟨by rw[h1,h];rfl,h2⟩
def a2x (Wl R:List P2)(M be:Nat)(W4:World)(na nb:ByteArray)(i:Value)(wr:World):Prop:=
 ∃ (k m2:Nat) (f:List P3) (va:Value),i=.int .i64 k∧k≤M∧m2≤k∧Hid (m2=f.length)∧Hid (wr.ownsRow (be+1) 59 3 va m2 (tL f))∧Hid (wr.heap[be]?=some (.cells #[.int .i64 1,.string na,.string nb,va,.string ⟨#[]⟩] 50 (0,0)))∧Hid (Below be W4 wr)∧Hid (be+1≤wr.heap.size)∧Hid (afh Wl [] R=afh Wl f (R.drop k))
def a2C (m2:Nat)(f:List P3)(xa xb:ByteArray)(W8:World)(i:Value)(wq:World):Prop:=
 ∃ j:Nat,i=.int .i64 j∧j≤m2∧Hid (Below W8.heap.size W8 wq)∧Hid (∀ (t:Nat) (y:P3),t < j→f[t]?=some y→(eqb y.1.1 xa && eqb y.1.2 xb)=false)
theorem aqx {f:List P3}{xa xb:ByteArray}(h:∀ (t:Nat) (y:P3),t < f.length→f[t]?=some y→(eqb y.1.1 xa && eqb y.1.2 xb)=false):acU (xa,xb) f=false:=by
 unfold acU;rw[List.any_eq_false];intro x hx;obtain⟨j,hj⟩:=List.getElem?_of_mem hx;have:=h j x (List.getElem?_eq_some_iff.1 hj).1 hj;simp only[this,Bool.false_eq_true,not_false_eq_true]
theorem alA {f:List P3}{xa xb:ByteArray}{j:Nat}{y:P3}(hj:f[j]?=some y)(h:(eqb y.1.1 xa && eqb y.1.2 xb)=true):acU (xa,xb) f=true:=by
 unfold acU;rw[List.any_eq_true];exact⟨y,List.mem_of_getElem? hj,h⟩
def a3n (L R:List P2)(N M:Nat)(w W0:World)(v i:Value)(wr:World):Prop:=
 ∃ (k m:Nat) (Wl:List P2),i=.int .i64 k∧k≤M∧m≤N+k∧Hid (m=Wl.length)∧Hid (wr.ownsRow (w.heap.size+1+1) 75 2 v m (rwL Wl))∧Hid (Below (w.heap.size+1+1) W0 wr)∧Hid (abQ L R=abQ Wl (R.drop k))
theorem aov (A A2:Option Addr)(N M cap cap2:Nat)(nm:ByteArray)(L R:List P2)(w:World)(hE:Ent w A A2 N M nm L R)(hnilA:A=none→N=0∧cap=0)(hRi:∀ x∈R,(aao x.1).2.2=true):
 Calls Tryz.prog 28 #[.slice A N cap,.agg #[.string nm,.slice A2 M cap2]] w (acs w (acM L nm R)):=by
 obtain⟨i50,ji,jy0,jy1,jy2⟩:=info_parts Tryz.info75;obtain⟨i53,hi,hy0,hy1,hy2⟩:=info_parts Tryz.info59;have HN:=aac hE.hN;have HM:=aac hE.hM;have hN1:=hE.hN1;have hM1:=hE.hM1;have HEn:=aac hE;have HRi:=aac hRi;have HNilA:=aac hnilA;have HRa:Hid (RdR (En0 w nm A2 M cap2) A L):=aac (hE.hR.keep (acC w nm A2 M cap2).bel);have HE0:Hid (((En0 w nm A2 M cap2).alloc (.cells #[] 75)).ownsRow (w.heap.size+1+1) 75 2 (.slice (some ⟨w.heap.size+1+1,0,none⟩) 0 0) 0 []):=aac (azf (by have:=abM (En0 w nm A2 M cap2) 75 #[];rw[aeY] at this;exact this) (Nat.le_refl _));have HBe:Hid (Below (w.heap.size+1+1) (En0 w nm A2 M cap2) ((En0 w nm A2 M cap2).alloc (.cells #[] 75))):=aac ((Below.refl _ _).alloc (by rw[aeY];exact Nat.le_refl _) _)
 have HCe:Hid (∀ ad,A=some ad→∀ j u,(rwL L)[j]?=some u→((En0 w nm A2 M cap2).alloc (.cells #[] 75)).cell? (ad.add j)=some u):=aac (fun ad ha=>by
  have:=HRa.out.keep ((Below.refl _ (En0 w nm A2 M cap2)).alloc (Nat.le_refl _) (.cells #[] 75));rw[ha] at this;exact this.cells)
 have HLLa:Hid ((rwL L).length=N * 2):=aac (by rw[apC,HN.out]);have HONEa:=aac (axl L);have HSz:Hid (w.heap.size+1+1≤((En0 w nm A2 M cap2).alloc (.cells #[] 75)).heap.size):=aac (by rw[World.size_alloc,aeY];omega);have tok1:True:=trivial;clear hE hRi hnilA;go_enter Tryz.func28,Tryz.ntmps28
 go_wp2_with (first
  | (at_builtin;have _t:=tok1;refine aaB (w:=(En0 w nm A2 M cap2).alloc (.cells #[] 75)) rfl _ _ 76 rfl (w.heap.size+1+1) 75 i50 (.agg #[.string ⟨#[]⟩,.string ⟨#[]⟩]) 2 32 Tryz.underlying76 ji jy0 jy1 jy2 rfl (by decide) _ 0 [] rfl HE0.out A N cap (rwL L) rfl HNilA.out HLLa.out HCe.out HONEa.out (by unfold maxLen;omega) (by omega) HSz.out ?_;intro vw w1 hown5 hgrow5;clear tok1;have HB5:=aac (HBe.out.grown hgrow5 HSz.out (fun j hj=>(World.ownsRow.lt HE0.out j hj).1));rw[List.nil_append,Nat.zero_add] at hown5;obtain⟨Aw,cw,rfl⟩:=aah hown5;have HO5:=aac hown5;clear hown5 hgrow5 HE0 HBe HCe HLLa HONEa HSz HRa)
  | fail)
 go_loopw [7,8] (fun v i wr=>a3n L R N M w (En0 w nm A2 M cap2) v i wr) (fun _ i _=>M - (intOf i).toNat);case atStart=>exact⟨0,N,L,rfl,Nat.zero_le _,by omega,HN,HO5,HB5,aac rfl⟩
 case round=>
  clear HO5 HB5 HNilA;obtain⟨k,m,Wl,rfl,hk,hm,HW,hO,hB,HI⟩:=hrel;obtain⟨A1,c1,rfl⟩:=aah hO.out;have HK:=aac (atr hB.out);have hS:Hid (w.heap.size+1+1≤wr.heap.size):=aac HK.out.lt;have t1:=aaf HK.out.tag 1 (u:=.slice A2 M cap2) rfl;by_cases hlt:k < M
  · have hkl:k < R.length:=by rw[← HM.out];exact hlt
    have hx:=List.getElem?_eq_getElem hkl;obtain⟨b1,o1,rfl,hb1,x0,x1⟩:=(avX hB.out HEn.out.hR2) k _ hx;have hs:=HEn.out.hsz _ (List.getElem_mem hkl);have hri:=HRi.out _ (List.getElem_mem hkl);have HX:=aac hx;have d1:(k:Int) < (M:Int):=(by omega);have d0:(0:Int)≤(k:Int):=(by omega);clear hx hlt;generalize R[k]=t at *;obtain⟨an,av⟩:=t;dsimp only at x0 x1 hs hri
    cases hbn:agp an with
    | none=>
      have CB:=aac (amX (v:=av) hs hri hbn);have HE:=aac (ajH (l:=Wl) HX.out hbn);clear hbn hs hri;go_wp2_with (go_at_call 45;refine(CB.out _).mono ?_;rintro e w3 ⟨rfl,hb⟩);go_roundw;case rel=>exact⟨k+1,m,Wl,by go_num,by omega,by omega,HW,aac (aai hO.out hb),aac (hB.out.trans (hb.mono hS.out)),aac (HI.out.trans HE.out)⟩
      case measure=>simp only[intOf];omega
    | some p=>
      have CB:=aac (anh (v:=av) hs hri hbn);clear hs hri;rcases a3S p with ⟨p1,p2,p3⟩ | ⟨p1,p2,p3⟩ | ⟨p1,p2,p3⟩ | ⟨p1,p2,p3⟩ <;> rcases a3e av with ⟨s1,s2,s3⟩ | ⟨s1,s2,s3⟩ | ⟨s1,s2,s3⟩ | ⟨s1,s2,s3⟩
      all_goals
       have u1:=agS p1;have u2:=aeC p2;have u3:=awh p3;have v1:=awt s1;have v2:=aeC s2;have v3:=awj s3;have v3':=a0Z v3;have u3':=a0Z u3;have u2':=not_eq u2;simp only[Bool.not_true,Bool.not_false] at v3' u3' u2'
       first
        | (have hok:okB p av=false:=by unfold okB;rw[p1,p2,p3,s1,s2,s3];rfl
           have HE:=aac (a2T (nm:=nm) (HI.out.trans (ajB (l:=Wl) HX.out hbn hok)));clear hbn hok p1 p2 p3 s1 s2 s3
           go_wp2_with (first
            | (go_at_call 45;refine(CB.out _).mono ?_;rintro e w3 ⟨rfl,hb⟩;have x1':w3.cell? ⟨b1,o1+k * 2+1,none⟩=some (.string av):=(hb.cell (p:=⟨b1,o1+k * 2+1,none⟩) hb1).trans x1;have HK3:=aac (HK.out.keep hb);have t1':=aaf HK3.out.tag 1 (u:=.slice (some ⟨b1,o1,none⟩) M cap2) rfl;have hB1:=aac (hB.out.trans (hb.mono hS.out));obtain⟨z0,z1,z2,z3,z4⟩:=cells5 HK3.out.ev;obtain⟨g0,g1,g2,g3,g4⟩:=aiL HK3.out.ev)
            | fail)
           have HSr:=aac (ahr HK3.out.ev (.int .i64 0) (.string ⟨#[]⟩) (.string ⟨#[]⟩) (.slice none 0 0) (.string ⟨#[]⟩));obtain⟨r0,r1,r2,r3,r4⟩:=cells5 HSr.out;exact bodyPost_ret (v:=.tuple #[.slice none 0 0,evZ,.int .i64 9]) (by simp[results,Tryz.results28,go_sem,r0,r1,r2,r3,r4,evZ]) rfl (aha HE.out rfl (atc HK3.out.bel (Nat.le_succ _) _ _ _ _ _)))
        | (have hok:okB p av=true:=by unfold okB;rw[p1,p2,p3,s1,s2,s3];rfl
           have HE:=aac (asn (l:=Wl) HX.out hbn hok);clear hbn hok p1 p2 p3 s1 s2 s3
           go_wp2_with (first
            | (go_at_call 45;refine(CB.out _).mono ?_;rintro e w3 ⟨rfl,hb⟩;have x1':w3.cell? ⟨b1,o1+k * 2+1,none⟩=some (.string av):=(hb.cell (p:=⟨b1,o1+k * 2+1,none⟩) hb1).trans x1;have HK3:=aac (HK.out.keep hb);have t1':=aaf HK3.out.tag 1 (u:=.slice (some ⟨b1,o1,none⟩) M cap2) rfl;have hB1:=aac (hB.out.trans (hb.mono hS.out));have hS3:Hid (w.heap.size+1+1≤w3.heap.size):=aac (Nat.le_trans hS.out hb.size);have ho3:=aac ((aai hO.out hb).alloc (.cells #[.string p,.string av] 75));have hB2:=aac (hB1.out.alloc hS3.out (.cells #[.string p,.string av] 75));have hnew:=aac (aaM w3 #[.string p,.string av] 75);have hS4:Hid (w.heap.size+1+1≤(w3.alloc (.cells #[.string p,.string av] 75)).heap.size):=aac (Nat.le_trans hS3.out (by simp)))
            | (at_builtin;refine wpList_append_own _ rfl _ _ 76 rfl (w.heap.size+1+1) 75 i50 (.agg #[.string ⟨#[]⟩,.string ⟨#[]⟩]) 2 32 Tryz.underlying76 ji jy0 jy1 jy2 rfl (by decide) _ m (rwL Wl) rfl ho3.out ⟨w3.heap.size,0,none⟩ 1 1 [.string p,.string av] rfl rfl hnew.out (afX p av) (by unfold maxLen;omega) (by omega) hS4.out ?_;intro v' w4 hown' hgrow hnil';obtain⟨g',cap',rfl⟩:=aas hown';have hO2:=aac hown';have hB6:=aac (hB2.out.grown hgrow hS4.out (fun j hj=>(World.ownsRow.lt ho3.out j hj).1));clear hown' hgrow hnil')
            | fail)
           go_roundw;case rel=>exact⟨k+1,m+1,Wl++[(p,av)],by go_num,by omega,by omega,aac (by rw[List.length_append,← HW.out];rfl),aac (by rw[aev];exact hO2.out),hB6,aac (HI.out.trans HE.out)⟩
           case measure=>simp only[intOf];omega)
        | fail
  · have d1:¬ (k:Int) < (M:Int):=(by omega);have HBd:Hid (abQ L R=some Wl):=aac (by rw[HI.out,List.drop_of_length_le (by rw[← HM.out];omega)];rfl);have HOW:Hid (adC 75 wr (w.heap.size+1+1) (.slice A1 m c1) Wl):=aac (by unfold adC;rw[← HW.out];exact hO.out);obtain⟨Ay,cy,ey,hrw⟩:=adV HOW.out HW.out;injection ey with ey1 ey2 ey3
    rw[← ey1] at hrw;have HRW:=aac hrw;have HRR:=aac (avX hB.out HEn.out.hR2);have hm2:m≤20000:=(by omega);have t0:=aaf HK.out.tag 0 (u:=.string nm) rfl;have HCR:=aac (fun (s:ByteArray) (el:Bool) (hs:s.size≤10000) (W:World) (hW:Below wr.heap.size wr W)=>akk A1 m c1 s el Wl W HW.out (by omega) (HRW.out.keep hW) hs);have hnms:=HEn.out.hm;have hSW:Hid (w.heap.size+1+1≤wr.heap.size):=hS;clear ey1 ey2 ey3 hrw hlt hk hm HI hO hB;have HNm:=aac (HCR.out nm true hnms);rw[axa] at HNm
    cases hn:alf Wl nm with
    | none=>
      rw[hn] at HNm;have HE:=aac (a3v HBd.out hn);clear hn hnms HCR
      go_wp2_with (first
       | (go_at_call 46;refine(HNm.out _ (Below.refl _ _)).mono ?_;rintro e w3 ⟨⟨xa,xb⟩,rfl,-,hb⟩;have HK4:=aac ((HK.out.keep hb).keep ((Below.refl _ w3).alloc (Nat.le_refl _) (.cells #[.string xa,.string xb] 47)));obtain⟨z0,z1,z2,z3,z4⟩:=cells5 HK4.out.ev;obtain⟨g0,g1,g2,g3,g4⟩:=aiL HK4.out.ev)
       | fail)
      have HSr:=aac (ahr HK4.out.ev (.int .i64 0) (.string ⟨#[]⟩) (.string ⟨#[]⟩) (.slice none 0 0) (.string ⟨#[]⟩));obtain⟨r0,r1,r2,r3,r4⟩:=cells5 HSr.out;exact bodyPost_ret (v:=.tuple #[.slice none 0 0,evZ,.int .i64 9]) (by simp[results,Tryz.results28,go_sem,r0,r1,r2,r3,r4,evZ]) rfl (aha HE.out rfl (atc HK4.out.bel (Nat.le_succ _) _ _ _ _ _))
    | some n=>
      obtain⟨na,nb⟩:=n;rw[hn] at HNm;have HNn:=aac hn;clear hn hnms
      go_wp2_with (first
       | (go_at_call 46;refine(HNm.out _ (Below.refl _ _)).mono ?_;rintro e w3 ⟨x,rfl,hx,hb⟩;obtain rfl:=hx _ rfl;clear hx;have HK4:=aac ((HK.out.keep hb).keep ((Below.refl _ w3).alloc (Nat.le_refl _) (.cells #[.string na,.string nb] 47)));have HBr:=aac (hb.alloc hb.size (.cells #[.string na,.string nb] 47));have HEb:=aac (abM (w3.alloc (.cells #[.string na,.string nb] 47)) 50 #[.int .i64 1,.string na,.string nb,.slice none 0 0,.string ⟨#[]⟩]);have HBb:=aac ((Below.refl (w3.alloc (.cells #[.string na,.string nb] 47)).heap.size (w3.alloc (.cells #[.string na,.string nb] 47))).alloc (Nat.le_refl _) (.cells #[.int .i64 1,.string na,.string nb,.slice none 0 0,.string ⟨#[]⟩] 50));have HSb:Hid (w3.heap.size+1+1≤((w3.alloc (.cells #[.string na,.string nb] 47)).alloc (.cells #[.int .i64 1,.string na,.string nb,.slice none 0 0,.string ⟨#[]⟩] 50)).heap.size):=aac (by simp);have HZ4:Hid ((w3.alloc (.cells #[.string na,.string nb] 47)).heap.size=w3.heap.size+1):=aac (by simp);rw[World.size_alloc] at HEb HBb;clear hb)
       | fail)
      clear HNm t0 t1;generalize w3.alloc (.cells #[.string na,.string nb] 47)=W4 at *;generalize w3.heap.size+1=be at *;have hwbe:w.heap.size+1 < be:=by have:=HK4.out.lt;rw[HZ4.out] at this;exact this
      go_loopw [16] (fun i wr=>a2x Wl R M be W4 na nb i wr) (fun i _=>M - (intOf i).toNat);case atStart=>exact⟨0,0,[],.slice none 0 0,rfl,Nat.zero_le _,Nat.le_refl _,aac rfl,aac ⟨by simp[tL],.inl ⟨rfl,rfl⟩⟩,HEb,HBb,HSb,aac rfl⟩
      case round=>
       clear HEb HBb HSb;have HWr:=aac (RdR.keep HRW.out HBr.out);have HOWr:=aac (aai HOW.out HBr.out);have HCR4:=aac (fun (s:ByteArray) (el:Bool) (hs:s.size≤10000) (W:World) (hW:Below W4.heap.size W4 W)=>HCR.out s el hs W (HBr.out.trans (hW.mono HBr.out.size)));have HRR4:=aac (HRR.out.keep HBr.out);clear HRW HOW HCR HRR HBr HK hS hSW;obtain⟨k2,m2,f,va,rfl,hk,hm,HF,hO,hEv,hB,hS,HI⟩:=hrel;obtain⟨Aa,ca,rfl⟩:=aah hO.out;have hB4:Hid (Below W4.heap.size W4 wr):=aac (by rw[HZ4.out];exact hB.out);have HK:=aac (HK4.out.keep hB4.out);have t1:=aaf HK.out.tag 1 (u:=.slice A2 M cap2) rfl;by_cases hlt:k2 < M
       · have hkl:k2 < R.length:=by rw[← HM.out];exact hlt
         have hx:=List.getElem?_eq_getElem hkl;obtain⟨b1,o1,rfl,hb1,x0,x1⟩:=HRR4.out k2 _ hx
         replace x0:=ach x0 hb1 hB4.out
         replace x1:=ach x1 hb1 hB4.out
         have hb1e:b1 < be:=by rw[HZ4.out] at hb1;exact hb1
         replace hb1:b1 < wr.heap.size:=Nat.lt_of_lt_of_le hb1 hB4.out.size
         have hs:=HEn.out.hsz _ (List.getElem_mem hkl);have hri:=HRi.out _ (List.getElem_mem hkl);have HX:=aac hx;have d1:(k2:Int) < (M:Int):=(by omega);have d0:(0:Int)≤(k2:Int):=(by omega);clear hx hlt;generalize R[k2]=t at *;obtain⟨an,av⟩:=t;dsimp only at x0 x1 hs hri
         cases hbn:agp an with
         | some p=>
           have CB:=aac (anh (v:=av) hs hri hbn);have HE:=aac (anr (L:=Wl) (f:=f) HX.out hbn);clear hbn hs hri;go_wp2_with (go_at_call 45;refine(CB.out _).mono ?_;rintro e w6 ⟨rfl,hb⟩);go_roundw;case rel=>exact⟨k2+1,m2,f,.slice Aa m2 ca,by go_num,by omega,by omega,HF,aac (aai hO.out hb),aac ((hb.block be hS.out).trans hEv.out),aac (hB.out.trans (hb.mono (Nat.le_of_succ_le hS.out))),aac (Nat.le_trans hS.out hb.size),aac (HI.out.trans HE.out)⟩
           case measure=>simp only[intOf];omega
         | none=>
           have CB:=aac (amX (v:=av) hs hri hbn);have CR:=aac (HCR4.out an false hs);rw[azy] at CR
           cases hat:apV Wl an with
           | none=>
             rw[hat] at CR;have HE:=aac (auB HBd.out HNn.out (HI.out.trans (anE (f:=f) HX.out hbn hat)));clear hbn hs hri hat
             go_wp2_with (first
              | (go_at_call 45;refine(CB.out _).mono ?_;rintro e w6 ⟨rfl,hb⟩;have x0':w6.cell? ⟨b1,o1+k2 * 2,none⟩=some (.string an):=(hb.cell (p:=⟨b1,o1+k2 * 2,none⟩) hb1).trans x0;have HK6:=aac (HK.out.keep hb);have HB6:=aac (hB4.out.trans (hb.mono hB4.out.size));have t1':=aaf HK6.out.tag 1 (u:=.slice (some ⟨b1,o1,none⟩) M cap2) rfl)
              | (go_at_call 46;refine(CR.out _ HB6.out).mono ?_;rintro e w7 ⟨⟨xa,xb⟩,rfl,-,hb7⟩;have HK7:=aac ((HK6.out.keep hb7).keep ((Below.refl _ w7).alloc (Nat.le_refl _) (.cells #[.string xa,.string xb] 47)));obtain⟨z0,z1,z2,z3,z4⟩:=cells5 HK7.out.ev;obtain⟨g0,g1,g2,g3,g4⟩:=aiL HK7.out.ev)
              | fail)
             have HSr:=aac (ahr HK7.out.ev (.int .i64 0) (.string ⟨#[]⟩) (.string ⟨#[]⟩) (.slice none 0 0) (.string ⟨#[]⟩));obtain⟨r0,r1,r2,r3,r4⟩:=cells5 HSr.out;exact bodyPost_ret (v:=.tuple #[.slice none 0 0,evZ,.int .i64 9]) (by simp[results,Tryz.results28,go_sem,r0,r1,r2,r3,r4,evZ]) rfl (aha HE.out rfl (atc HK7.out.bel (Nat.le_succ _) _ _ _ _ _))
           | some n=>
             obtain⟨xa,xb⟩:=n;rw[hat] at CR;have HAt:=aac hat;have HBn:=aac hbn;clear hbn hs hri hat
             go_wp2_with (first
              | (go_at_call 45;refine(CB.out _).mono ?_;rintro e w6 ⟨rfl,hb⟩;have x0':w6.cell? ⟨b1,o1+k2 * 2,none⟩=some (.string an):=(hb.cell (p:=⟨b1,o1+k2 * 2,none⟩) hb1).trans x0;have x1':w6.cell? ⟨b1,o1+k2 * 2+1,none⟩=some (.string av):=(hb.cell (p:=⟨b1,o1+k2 * 2+1,none⟩) hb1).trans x1;have hb16:b1 < w6.heap.size:=Nat.lt_of_lt_of_le hb1 hb.size;have HK6:=aac (HK.out.keep hb);have HB6:=aac (hB4.out.trans (hb.mono hB4.out.size));have HO6:=aac (aai hO.out hb);have HE6:=aac ((hb.block be hS.out).trans hEv.out);have hS6:Hid (be+1≤w6.heap.size):=aac (Nat.le_trans hS.out hb.size);have t1':=aaf HK6.out.tag 1 (u:=.slice (some ⟨b1,o1,none⟩) M cap2) rfl)
              | (go_at_call 46;refine(CR.out _ HB6.out).mono ?_;rintro e w7 ⟨x,rfl,hx7,hb7⟩;obtain rfl:=hx7 _ rfl;have Ba8:=(Below.refl w7.heap.size w7).alloc (Nat.le_refl _) (.cells #[.string xa,.string xb] 47);have HK8:=aac ((HK6.out.keep hb7).keep Ba8);have HB8:=aac ((HB6.out.trans (hb7.mono HB6.out.size)).alloc (Nat.le_trans HB6.out.size hb7.size) (.cells #[.string xa,.string xb] 47));have HO8:=aac (aai (aai HO6.out hb7) Ba8);have HE8:=aac ((Ba8.block be (Nat.lt_of_lt_of_le hS6.out hb7.size)).trans ((hb7.block be hS6.out).trans HE6.out));have hS8:Hid (be+1≤(w7.alloc (.cells #[.string xa,.string xb] 47)).heap.size):=aac (Nat.le_trans hS6.out (Nat.le_trans hb7.size (by simp)));have HA8:=aac (abM w7 47 #[.string xa,.string xb]);have hba8:w7.heap.size < (w7.alloc (.cells #[.string xa,.string xb] 47)).heap.size:=(by simp);have X8:Hid ((w7.alloc (.cells #[.string xa,.string xb] 47)).cell? ⟨b1,o1+k2 * 2+1,none⟩=some (.string av)):=aac (ach (ach x1' hb16 hb7) (Nat.lt_of_lt_of_le hb16 hb7.size) Ba8);have hb18:b1 < (w7.alloc (.cells #[.string xa,.string xb] 47)).heap.size:=Nat.lt_of_lt_of_le hb16 (Nat.le_trans hb7.size (by simp));have hbe7:be < w7.heap.size:=Nat.lt_of_lt_of_le hS6.out hb7.size;clear hx7 hb7 Ba8)
              | fail)
             clear t1 t1' x0 x0' x1 x1' CB CR HK6 HB6 HO6 HE6 hS6 hB hB4 hO hEv hS HK hb1 hb16;generalize w7.alloc (.cells #[.string xa,.string xb] 47)=W8 at *;generalize w7.heap.size=ba at *;have hl2:m2≤10000:=(by omega);obtain⟨Az,cz,ez,hrz⟩:=avx (n:=m2) (l:=f) (by unfold ajy;rw[← HF.out];exact HO8.out) HF.out;injection ez with ez1 ez2 ez3
             rw[← ez1] at hrz;have HRT:=aac hrz;clear ez1 ez2 ez3 hrz;go_loopw [21] (fun i wq=>a2C m2 f xa xb W8 i wq) (fun i _=>m2 - (intOf i).toNat)
             case atStart=>
              exact⟨0,rfl,Nat.zero_le _,aac (Below.refl _ _),aac (fun t y ht=>absurd ht (Nat.not_lt_zero _))⟩
             case round=>
              obtain⟨j,rfl,hj,hQ,hNo⟩:=hrel;have HKq:=aac (HK8.out.keep hQ.out);have HEq:=aac ((hQ.out.block be hS8.out).trans HE8.out);have HAq:=aac ((hQ.out.block ba hba8).trans HA8.out);have e3:=aaf HEq.out 3 (u:=.slice Aa m2 ca) rfl;have a0:=aaf HAq.out 0 (u:=.string xa) rfl;have a1:=aaf HAq.out 1 (u:=.string xb) rfl;by_cases hjl:j < m2
              · have hjf:j < f.length:=by rw[← HF.out];exact hjl
                have hy:=List.getElem?_eq_getElem hjf;obtain⟨b3,o3,rfl,hb3,y0,y1,y2⟩:=(HRT.out.keep hQ.out) j _ hy;have HY:=aac hy;have dj:(j:Int) < (m2:Int):=(by omega);have dj0:(0:Int)≤(j:Int):=(by omega);clear hy;generalize f[j]=y at *;obtain⟨⟨fa,fb⟩,fv⟩:=y;dsimp only at y0 y1 y2
                cases qa:eqb fa xa with
                | false=>
                  have qa':(fa.toList == xa.toList)=false:=qa
                  have HNo2:Hid (∀ (t:Nat) (y:P3),t < j+1→f[t]?=some y→(eqb y.1.1 xa && eqb y.1.2 xb)=false):=aac (fun t y ht hty=>by
                   rcases Nat.lt_or_ge t j with h | h
                   · exact hNo.out t y h hty
                   · obtain rfl:t=j:=(by omega);rw[HY.out] at hty;injection hty with hty
                     rw[← hty];show (eqb fa xa && eqb fb xb)=false;rw[qa];rfl)
                  clear qa hNo;go_wp2_with fail;go_quiet (fail);go_wp2;go_roundw;case rel=>exact⟨j+1,by go_num,by omega,aac (below_drewN hQ.out _),HNo2⟩
                  case measure=>simp only[intOf];omega
                | true=>
                  have qa':(fa.toList == xa.toList)=true:=qa
                  cases qb:eqb fb xb with
                  | false=>
                    have qb':(fb.toList == xb.toList)=false:=qb
                    have HNo2:Hid (∀ (t:Nat) (y:P3),t < j+1→f[t]?=some y→(eqb y.1.1 xa && eqb y.1.2 xb)=false):=aac (fun t y ht hty=>by
                     rcases Nat.lt_or_ge t j with h | h
                     · exact hNo.out t y h hty
                     · obtain rfl:t=j:=(by omega);rw[HY.out] at hty;injection hty with hty
                       rw[← hty];show (eqb fa xa && eqb fb xb)=false;rw[qa,qb];rfl)
                    clear qa qb hNo;go_wp2_with fail;go_quiet (fail);go_wp2;go_roundw;case rel=>exact⟨j+1,by go_num,by omega,aac (below_drewN hQ.out _),HNo2⟩
                    case measure=>simp only[intOf];omega
                  | true=>
                    have qb':(fb.toList == xb.toList)=true:=qb;have HE:=aac (auB HBd.out HNn.out (HI.out.trans (akc (f:=f) HX.out HBn.out HAt.out (alA HY.out (show (eqb fa xa && eqb fb xb)=true by rw[qa,qb];rfl)))));clear qa qb hNo;obtain⟨z0,z1,z2,z3,z4⟩:=cells5 HKq.out.ev;obtain⟨g0,g1,g2,g3,g4⟩:=aiL HKq.out.ev;go_wp2_with fail;go_quiet (fail);go_wp2;have HSr:=aac (ahr (W:=wr.drewN nq) HKq.out.ev (.int .i64 0) (.string ⟨#[]⟩) (.string ⟨#[]⟩) (.slice none 0 0) (.string ⟨#[]⟩));obtain⟨r0,r1,r2,r3,r4⟩:=cells5 HSr.out;exact bodyPost_ret (v:=.tuple #[.slice none 0 0,evZ,.int .i64 8]) (by simp[results,Tryz.results28,go_sem,r0,r1,r2,r3,r4,evZ]) rfl (aha HE.out rfl (atc (below_drewN HKq.out.bel nq) (Nat.le_succ _) _ _ _ _ _))
              · have dj:¬ (j:Int) < (m2:Int):=(by omega);have HHn:Hid (acU (xa,xb) f=false):=aac (aqx (fun t y ht=>hNo.out t y (by have:=HF.out;omega)));have HE:=aac (awi (f:=f) HX.out HBn.out HAt.out HHn.out);have x1q:wr.cell? ⟨b1,o1+k2 * 2+1,none⟩=some (.string av):=ach X8.out hb18 hQ.out;have t1q:=aaf HKq.out.tag 1 (u:=.slice (some ⟨b1,o1,none⟩) M cap2) rfl;have lq:be < wr.heap.size∧ba < wr.heap.size∧b1 < wr.heap.size∧w.heap.size < wr.heap.size:=⟨Nat.lt_of_lt_of_le hS8.out hQ.out.size,Nat.lt_of_lt_of_le hba8 hQ.out.size,Nat.lt_of_lt_of_le hb18 hQ.out.size,by have:=HKq.out.lt;omega⟩;have HOq:Hid (wr.drew.ownsRow (be+1) 59 3 (.slice Aa m2 ca) m2 (tL f)):=aac (aai (w':=wr) HO8.out hQ.out);have HOn:=aac (HOq.out.alloc (.cells #[.string xa,.string xb,.string av] 59));have hnew:=aac (aaM wr.drew #[.string xa,.string xb,.string av] 59);have Bal:=(Below.refl wr.drew.heap.size wr.drew).alloc (Nat.le_refl _) (.cells #[.string xa,.string xb,.string av] 59);have a0d:wr.drew.cell? ⟨ba,0,none⟩=some (.string xa):=a0;have a1d:wr.drew.cell? ⟨ba,1,none⟩=some (.string xb):=a1;have t1d:wr.drew.cell? ⟨w.heap.size,1,none⟩=some (.slice (some ⟨b1,o1,none⟩) M cap2):=t1q;have x1d:wr.drew.cell? ⟨b1,o1+k2 * 2+1,none⟩=some (.string av):=x1q;have e3d:wr.drew.cell? ⟨be,3,none⟩=some (.slice Aa m2 ca):=e3;have a0n:=ach a0d lq.2.1 Bal;have a1n:=ach a1d lq.2.1 Bal;have t1n:=ach t1d lq.2.2.2 Bal;have x1n:=ach x1d lq.2.2.1 Bal;have e3n:=ach e3d lq.1 Bal;have hzn:be+1≤(wr.drew.alloc (.cells #[.string xa,.string xb,.string av] 59)).heap.size:=by have:=lq.1;simp;omega
                have HBn9:Hid (Below be W4 (wr.drew.alloc (.cells #[.string xa,.string xb,.string av] 59))):=aac (((show Below be W4 wr.drew from by have:=HB8.out.trans (hQ.out.mono HB8.out.size);rw[HZ4.out] at this;exact this.drew)).alloc (Nat.le_of_lt lq.1) _);have HEn9:Hid ((wr.drew.alloc (.cells #[.string xa,.string xb,.string av] 59)).heap[be]?=some (.cells #[.int .i64 1,.string na,.string nb,.slice Aa m2 ca,.string ⟨#[]⟩] 50 (0,0))):=aac ((Bal.block be lq.1).trans HEq.out)
                have HGo:Hid (∀ (w9:World) (v':Value),(wr.drew.alloc (.cells #[.string xa,.string xb,.string av] 59)).grownBy w9 (Value.slice Aa m2 ca).ownBlock→w9.cell? ⟨ba,0,none⟩=some (.string xa)∧w9.cell? ⟨ba,1,none⟩=some (.string xb)∧w9.cell? ⟨w.heap.size,1,none⟩=some (.slice (some ⟨b1,o1,none⟩) M cap2)∧w9.cell? ⟨b1,o1+k2 * 2+1,none⟩=some (.string av)∧w9.cell? ⟨be,3,none⟩=some (.slice Aa m2 ca)∧w9.frozen? ⟨be,3,none⟩=false∧w9.heap[be]?=some (.cells #[.int .i64 1,.string na,.string nb,.slice Aa m2 ca,.string ⟨#[]⟩] 50 (0,0))∧Below be W4 w9∧be+1≤w9.heap.size):=aac (fun w9 v' hg=>by
                 have hna:some ba≠(Value.slice Aa m2 ca).ownBlock:=(own_ne HOn.out (b:=ba) ((Bal.block ba lq.2.1).trans HAq.out) (by decide)).symm;have hlow:∀ q,(Value.slice Aa m2 ca).ownBlock=some q→be+1≤q:=fun q hq=>(World.ownsRow.lt HOn.out q hq).1;have hne:∀ q,q≤be→some q≠(Value.slice Aa m2 ca).ownBlock:=fun q hq he=>by have:=hlow q he.symm;omega
                 have hk:=(hg.block be (Nat.lt_of_lt_of_le lq.1 (by simp)) (hne be (Nat.le_refl _))).trans HEn9.out;exact⟨hg.cell a0n hna,hg.cell a1n hna,hg.cell t1n (hne w.heap.size (by omega)),hg.cell x1n (hne b1 (by omega)),aaf hk 3 rfl,aaj hk 3,hk,HBn9.out.grown hg (by have:=lq.1;simp;omega) (fun q hq=>by have:=hlow q hq;omega),Nat.le_trans hzn hg.size⟩)
                have hd1:be≠ba:=(by omega);have hd2:be≠w.heap.size:=(by omega);have hd3:be≠b1:=(by omega);clear a0 a1 x1q t1q Bal hNo hQ;go_wp2_with fail
                go_region_law (refine aan (by rfl) (.tmp 145) (.tmp 154) 48 (by rfl) (be+1) 59 i53 (.agg #[.string ⟨#[]⟩,.string ⟨#[]⟩,.string ⟨#[]⟩]) 3 48 Tryz.underlying48 hi hy0 hy1 hy2 rfl (by decide) (.slice Aa m2 ca) m2 (tL f) (by simp[Act.eval,Act.put]) HOn.out ⟨wr.heap.size,0,none⟩ 1 1 [.string xa,.string xb,.string av] (by simp[Act.eval,Act.put]) rfl hnew.out (anK xa xb av) (by unfold maxLen;omega) (by omega) hzn ?_;intro v' w9 hown' hgrow;obtain⟨r0,r1,r2,r3,r4,r5,r6,r7,r8⟩:=HGo.out w9 v' hgrow;have HR6:=aac r6;have HR7:=aac r7;have HR8:=aac r8;have HO9:=aac hown';obtain⟨g9,cap9,rfl⟩:=aas hown';clear hown' hgrow r6 r7 r8)
                all_goals
                 go_wp2_with fail;go_roundw
                 case rel=>
                  exact⟨k2+1,m2+1,f++[((xa,xb),av)],_,by go_num,by omega,by omega,aac (by rw[List.length_append,← HF.out];rfl),aac (by rw[awJ];exact ayj HO9.out HR6.out (by decide) 3 _),aac (by simp[World.setCell,Array.getElem?_modify,HR6.out]),aac (HR7.out.setCell (p:=⟨be,3,none⟩) (Nat.le_refl _) _),aac (by simpa [World.setCell] using HR8.out),aac (HI.out.trans HE.out)⟩
                 case measure=>simp only[intOf];omega
       · have d1:¬ (k2:Int) < (M:Int):=(by omega);have HAo:Hid (afh Wl [] R=.ok f):=aac (by rw[HI.out,List.drop_of_length_le (by rw[← HM.out];omega)];rfl);have HEo:=aac (a3C HBd.out HNn.out HAo.out);have HOWz:=aac (aai HOWr.out hB4.out);obtain⟨y0,y1,y2,y3,y4⟩:=cells5 hEv.out;obtain⟨z0,z1,z2,z3,z4⟩:=cells5 HK.out.ev;obtain⟨g0,g1,g2,g3,g4⟩:=aiL HK.out.ev;clear HCR4 HRR4 HWr HOWr hB hB4 HI;go_wp2_with fail;go_region;go_wp2;have HSr:=aac (ahr HK.out.ev (.int .i64 1) (.string na) (.string nb) (.slice Aa m2 ca) (.string ⟨#[]⟩));obtain⟨r0,r1,r2,r3,r4⟩:=cells5 HSr.out;refine bodyPost_ret (v:=.tuple #[.slice A1 m c1,evV (na,nb) (.slice Aa m2 ca),.int .i64 0]) (by simp[results,Tryz.results28,go_sem,r0,r1,r2,r3,r4,evV]) rfl ⟨fun c hc=> ?_,fun W n f' hc=> ?_,(atc HK.out.bel (Nat.le_succ _) _ _ _ _ _).drew⟩
         · rw[HEo.out] at hc;cases hc
         · rw[HEo.out] at hc;cases hc;have gg:=azN wr (w.heap.size+1) (.int .i64 1) (.string na) (.string nb) (.slice Aa m2 ca) (.string ⟨#[]⟩);have hOt:ajy wr (be+1) (.slice Aa m2 ca) f:=by unfold ajy;rw[← HF.out];exact hO.out
           exact⟨_,_,rfl,World.ownsRow.drew (aam (World.ownsRow.kept HOWz.out gg (.inr (own_ne HOWz.out HK.out.ev (by decide)))) (by omega)),World.ownsRow.drew (aam (World.ownsRow.kept hOt gg (.inr (own_ne hOt HK.out.ev (by decide)))) (by omega))⟩
end Go.Proofs.YtnomcldpbkinmaaGreatDoor.Nz.Sc
