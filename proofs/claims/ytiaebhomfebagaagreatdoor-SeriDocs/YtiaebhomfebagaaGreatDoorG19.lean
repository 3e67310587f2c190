/- Lemmas of the claim. -/
import Derived.Test.YtiaebhomfebagaaGreatDoorG13
import Derived.Test.YtiaebhomfebagaaGreatDoorG11
import Derived.Test.YtiaebhomfebagaaGreatDoorG18
import Derived.Test.YtiaebhomfebagaaGreatDoorG05
set_option maxHeartbeats 1000000
set_option maxRecDepth 100000
set_option linter.unusedSimpArgs false
set_option linter.unusedVariables false
namespace Go.Proofs.YtiaebhomfebagaaGreatDoor.Wl
open Go.RowKit
theorem aox:∀ (rs:List Int),(∀ r∈rs,Chr r)→Rt (rs.flatMap aat)∧NN (rs.flatMap aat)
 | [],_=>⟨⟨rfl,fun r hr=>by simp[ade] at hr⟩,fun x hx=>by simp at hx⟩
 | r :: rs,h=>by
   obtain⟨h1,h2⟩:=aox rs (fun x hx=>h x (List.mem_cons_of_mem _ hx));have hc:=h r List.mem_cons_self;have hg:=acv hc;rw[List.flatMap_cons];refine⟨?_,fun x hx=>(List.mem_append.1 hx).elim ((aef r hg).1 x) (h2 x)⟩;unfold Rt at h1 ⊢;rw[anr r _ hg h2];exact⟨h1.1,fun x hx=>(List.mem_cons.1 hx).elim (fun e=>e ▸ hc) (h1.2 x)⟩
theorem awZ {a b:List Int}(ha:NN a)(hb:NN b)(h1:Rt a)(h2:Rt b):Rt (a++b):=by
 obtain⟨e1,c1⟩:=adO ha h1;obtain⟨e2,c2⟩:=adO hb h2;rw[e1,e2,← List.flatMap_append];exact(aox _ (fun r hr=>(List.mem_append.1 hr).elim (c1 r) (c2 r))).1
def Cont (b:List Int):Prop:=128≤b.getD 0 0∧b.getD 0 0 < 192
theorem amq:∀ (rs a b:List Int),(∀ r∈rs,Chr r)→rs.flatMap aat=a++b→¬ Cont b→∃ r1 r2,a=r1.flatMap aat∧b=r2.flatMap aat∧rs=r1++r2
 | [],a,b,_,e,_=>by
   rw[List.flatMap_nil] at e;obtain⟨rfl,rfl⟩:=List.append_eq_nil_iff.1 e.symm;exact⟨[],[],rfl,rfl,rfl⟩
 | r :: rs,a,b,h,e,hc=>by
   rcases Nat.eq_zero_or_pos a.length with ha | ha
   · obtain rfl:=List.eq_nil_of_length_eq_zero ha;exact⟨[],r :: rs,rfl,e.symm,rfl⟩
   rw[List.flatMap_cons] at e;by_cases hl:(aat r).length≤a.length
   · have e1:=congrArg (List.take (aat r).length) e;rw[List.take_left' rfl,List.take_append_of_le_length hl] at e1;have e2:=congrArg (List.drop (aat r).length) e;rw[List.drop_left' rfl,List.drop_append_of_le_length hl] at e2;obtain⟨r1,r2,q1,q2,q3⟩:=amq rs _ b (fun x hx=>h x (List.mem_cons_of_mem _ hx)) e2 hc;refine⟨r :: r1,r2,?_,q2,by rw[q3];rfl⟩;rw[List.flatMap_cons,← q1]
     calc a=a.take (aat r).length++a.drop (aat r).length:=(List.take_append_drop _ _).symm
      _=_:=by rw[← e1]
   · exfalso;have hf:=aoa r (rs.flatMap aat) a.length (acv (h r List.mem_cons_self)) ha (by omega);rw[e,List.drop_left' rfl] at hf;exact hc hf
theorem aqD {a b:List Int}(hn:NN (a++b))(h:Rt (a++b))(hc:¬ Cont b):Rt a∧Rt b:=by
 obtain⟨e,hr⟩:=adO hn h;obtain⟨r1,r2,q1,q2,q3⟩:=amq _ a b hr e.symm hc;rw[q3] at hr;rw[q1,q2];exact⟨(aox r1 (fun r h=>hr r (List.mem_append_left _ h))).1,(aox r2 (fun r h=>hr r (List.mem_append_right _ h))).1⟩
theorem a2x {c:Int}(b:List Int)(hc:c < 128):¬ Cont (c :: b):=fun h=>by
 have:128≤c:=h.1;omega
theorem alx {c:Int}{b:List Int}(h:NN (c :: b)):0≤c∧NN b:=⟨h c List.mem_cons_self,fun x hx=>h x (List.mem_cons_of_mem _ hx)⟩
theorem auj {a b:List Int}(h:NN (a++b)):NN b:=fun x hx=>h x (List.mem_append_right _ hx)
theorem aqF {c:Int}{b:List Int}(hn:NN (c :: b))(h:Rt (c :: b))(hc:c < 128):Rt b∧Chr c:=by
 unfold Rt at h;rw[amK c b (alx hn).1 hc (alx hn).2] at h;exact⟨⟨h.1,fun r hr=>h.2 r (List.mem_cons_of_mem _ hr)⟩,h.2 c List.mem_cons_self⟩
theorem axa {a b:List Int}{c:Int}(hn:NN (a++c :: b))(h:Rt (a++c :: b))(hc:c < 128):Rt a∧Rt b:=by
 obtain⟨h1,h2⟩:=aqD hn h (a2x b hc);exact⟨h1,(aqF (auj hn) h2 hc).1⟩
theorem axC:∀ (k:Nat) (l:List Int),NN l→(∀ x∈l.take k,x < 128)→Rt l→Rt (l.drop k)
 | 0,l,_,_,h=>h
 | k+1,[],_,_,h=>h
 | k+1,c :: l,hn,hl,h=>axC k l (alx hn).2 (fun x hx=>hl x (by rw[List.take_succ_cons];exact List.mem_cons_of_mem _ hx)) (aqF hn h (hl c (by rw[List.take_succ_cons];exact List.mem_cons_self))).1
def Rg (s:ByteArray):Prop:=Rt (aad s)
theorem apj:Rg Nz.em:=⟨rfl,fun r hr=>by cases hr⟩
theorem a5v {u:ByteArray}(k:Nat)(h:Rg u)(hc:¬ Cont ((aad u).drop k)):Rg (u.extract 0 k)∧Rg (Nz.fr u k):=by
 unfold Rg at h ⊢;rw[abV,Tg.abw];have hn:=abn u;rw[← List.take_append_drop k (aad u)] at h hn;exact aqD hn h hc
theorem a4c {u:ByteArray}{k:Nat}(h:Rg u)(hk:k < u.size)(hc:(aad u).getD k 0 < 128):Rg (u.extract 0 k)∧Rg (Nz.fr u (k+1)):=by
 unfold Rg at h ⊢;rw[abV,Tg.abw];have hn:=abn u;have hl:k < (aad u).length:=by rw[aae];exact hk
 have e:aad u=(aad u).take k++(aad u).getD k 0 :: (aad u).drop (k+1):=by
  rw[List.getD_eq_getElem?_getD,List.getElem?_eq_getElem hl,Option.getD_some,← List.drop_eq_getElem_cons hl,List.take_append_drop]
 rw[e] at h hn;exact axa hn h hc
theorem ata {u:ByteArray}(k:Nat)(h:Rg u)(hk:∀ x∈(aad u).take k,x < 128):Rg (Nz.fr u k):=by
 unfold Rg at h ⊢;rw[Tg.abw];exact axC k _ (abn u) hk h
theorem azA {u:ByteArray}(h:Rg u):Rg (Tg.sk u):=by
 refine ata _ h fun x hx=> ?_;have hp:=List.takeWhile_prefix Tg.aaZ (l:=aad u);rw[show (aad u).take (Tg.bk u)=(aad u).takeWhile Tg.aaZ from (List.prefix_iff_eq_take.1 hp).symm] at hx;have hb:=List.all_eq_true.1 List.all_takeWhile x hx;have:Blank x:=(by simpa [Tg.aaZ] using hb);unfold Blank at this;omega
theorem apw {u:ByteArray}(h:Rg u)(h1:Tg.hd u < 128):Rg (Nz.fr u 1):=by
 refine ata _ h fun x hx=> ?_;unfold Tg.hd at h1
 match hb:aad u with
 | []=>rw[hb] at hx;simp at hx
 | c :: l=>
   rw[hb] at hx h1;simp at hx h1;omega
theorem ayS (L:List Nat)(h:Nz.St L=0):¬ (128≤L.getD 0 0∧L.getD 0 0 < 192):=by
 rintro ⟨h1,h2⟩;have hl:L≠[]:=by rintro rfl;simp at h1
 rw[Nz.adI L hl] at h
 have hd:Nz.dN L=(65533,1):=by
  unfold Nz.dN Lib.decodeN;generalize L.getD 0 0=c at *;rw[if_neg (by omega),if_neg (by omega),if_neg (by omega),if_neg (by omega)]
 rw[hd] at h;have ho:Nz.Ok ((65533:Nat):Int):=by unfold Nz.Ok;right;decide
 rw[if_pos ho] at h;omega
theorem aiJ (s:ByteArray):aad s=(Nz.bl s).map Int.ofNat:=by
 unfold aad Nz.bl;rw[List.map_map];rfl
theorem aqi {u:ByteArray}(h:Rg u):Rg (Nz.sx u 0)∧Rg (Nz.fr u (Nz.sn u 0)):=by
 rw[Tg.aiy];refine a5v _ h fun hc=> ?_;have h0:=Nz.aqN _ (Nz.bl u) (Nat.le_refl _);have h1:=ayS _ h0;apply h1;have e:Nz.sn u 0=Nz.St (Nz.bl u):=by unfold Nz.sn;rw[List.drop_zero]
 unfold Cont at hc;rw[e,aiJ,← List.map_drop] at hc;generalize (Nz.bl u).drop (Nz.St (Nz.bl u))=M at *
 cases M with
 | nil=>simp at hc
 | cons c M=>
   simp at hc ⊢;omega
end Go.Proofs.YtiaebhomfebagaaGreatDoor.Wl
namespace Go.Proofs.YtiaebhomfebagaaGreatDoor.Wl
open Go.RowKit
def PrG (x:Int × ByteArray × ByteArray × ByteArray):Prop:=x.1=0→Rg x.2.1∧Rg x.2.2.1∧Rg x.2.2.2
theorem a1H (q:UInt8)(hq:q=34∨q=39)(nm u:ByteArray)(hn:Rg nm)(hu:Rg u):PrG (Tg.aki q nm u):=by
 unfold Tg.aki;split
 · intro h;exact absurd h (by decide)
 rename_i h1;split
 · rename_i h;intro h';exact absurd h' h
 · rename_i h;intro _;refine⟨hn,(Tg.axA _ (Decidable.not_not.1 h)).1,?_⟩;rcases Tg.aeB q u with ⟨h2,_⟩ | ⟨i,h2,h3,h4,_⟩
   · exact absurd h2 h1
   · rw[h2];refine(a4c (k:=i) hu h3 ?_).2;rw[h4];rcases hq with rfl | rfl <;> decide
theorem a2u (u:ByteArray)(hu:Rg u):PrG (Tg.aap u):=by
 unfold Tg.aap;obtain⟨g0,g1⟩:=aqi hu;have g2:=azA g1;by_cases c1:Tg.isN (Nz.sx u 0)=false
 · rw[if_pos c1];intro h;exact absurd h (by decide)
 rw[if_neg c1];by_cases c2:Tg.hd (Tg.sk (Nz.fr u (Nz.sn u 0)))≠61
 · rw[if_pos c2];intro h;exact absurd h (by decide)
 rw[if_neg c2];have g3:=azA (apw g2 (by rw[Decidable.not_not.1 c2];decide));by_cases c3:Tg.hd (Tg.sk (Nz.fr (Tg.sk (Nz.fr u (Nz.sn u 0))) 1))=34
 · rw[if_pos c3];exact a1H 34 (.inl rfl) _ _ g0 (apw g3 (by rw[c3];decide))
 rw[if_neg c3];by_cases c4:Tg.hd (Tg.sk (Nz.fr (Tg.sk (Nz.fr u (Nz.sn u 0))) 1))=39
 · rw[if_pos c4];exact a1H 39 (.inr rfl) _ _ g0 (apw g3 (by rw[c4];decide))
 rw[if_neg c4];intro h;exact absurd h (by decide)
def LsG (l:List Pr):Prop:=∀ x∈l,Rg x.1∧Rg x.2
theorem a3u:∀ (f:Nat) (nm:ByteArray) (l:List Pr) (u:ByteArray),Rg u→LsG l→(Tg.goF f nm l u).1=0→(Tg.goF f nm l u).2.1=nm∧LsG (Tg.goF f nm l u).2.2
 | 0,nm,l,u,_,hI,_=>⟨rfl,hI⟩
 | f+1,nm,l,u,hu,hI,h=>by
   have hpi:=a2u (Tg.sk u) (azA hu);unfold Tg.goF at h ⊢;generalize Tg.aap (Tg.sk u)=P at *;by_cases c1:(Tg.sk u).size=0
   · rw[if_pos c1];exact⟨rfl,hI⟩
   rw[if_neg c1] at h ⊢;by_cases c2:Tg.bk u=0
   · rw[if_pos c2] at h;exact absurd (show (6:Int)=0 from h) (by decide)
   rw[if_neg c2] at h ⊢;by_cases c3:P.1≠0
   · rw[if_pos c3] at h;exact absurd (show P.1=0 from h) c3
   rw[if_neg c3] at h ⊢;by_cases c4:Tg.adK P.2.1 l=true
   · rw[if_pos c4] at h;exact absurd (show (8:Int)=0 from h) (by decide)
   rw[if_neg c4] at h ⊢;by_cases c5:32≤l.length
   · rw[if_pos c5] at h;exact absurd (show (13:Int)=0 from h) (by decide)
   rw[if_neg c5] at h ⊢;obtain⟨p1,p2,p3⟩:=hpi (Decidable.not_not.1 c3);refine a3u f _ _ _ p3 (fun x hx=> ?_) h;rcases List.mem_append.1 hx with hx | hx
   · exact hI x hx
   · rw[List.mem_singleton] at hx;rw[hx];exact⟨p1,p2⟩
theorem a5H {nm u:ByteArray}(hn:Rg nm)(hu:Rg u)(h:(Tg.GoF nm [] u).1=0):Rg (Tg.GoF nm [] u).2.1∧LsG (Tg.GoF nm [] u).2.2:=by
 unfold Tg.GoF at h ⊢;generalize u.size+1=f at *;have g:=a3u f nm [] u hu (fun x hx=>by cases hx) h;exact⟨by rw[g.1];exact hn,g.2⟩
theorem a5S {u:ByteArray}(hu:Rg u)(h:(Tg.aaE u).1=0):Rg (Tg.aaE u).2.1∧LsG (Tg.aaE u).2.2:=by
 obtain⟨n1,n2⟩:=aqi hu;unfold Tg.aaE at h ⊢;by_cases c1:Tg.isN (Nz.sx u 0)=false
 · rw[if_pos c1] at h;exact absurd (show (4:Int)=0 from h) (by decide)
 rw[if_neg c1] at h ⊢;exact a5H n1 n2 h
theorem a5K {u:ByteArray}(h:(Tg.aaE u).1=0):(Tg.aaE u).2.2.length≤32:=by
 obtain⟨⟨_,h2,_⟩,_,_⟩:=Tg.ayx u h;exact h2
def Lcl (s:ByteArray):Prop:=Nz.pl (Nz.bl s)=true∧Rg s
def Spc (s:ByteArray):Prop:=Rg s∧s≠Nz.Sc.XN
def Nmd (n:Pr):Prop:=Spc n.1∧Lcl n.2
theorem axl:Spc Nz.em:=⟨apj,fun h=>by have:=congrArg ByteArray.size h;revert this;decide⟩
theorem ajZ {s:ByteArray}(h:(Nz.aak s).2.2=true)(hs:Rg s):Lcl (Nz.aak s).2.1:=by
 rcases Nz.Sc.asJ h with ⟨hp,he⟩ | ⟨i,hi,he⟩
 · rw[he];exact⟨hp,hs⟩
 · rw[he];refine⟨?_,(a4c hs hi.1 ?_).2⟩
   · show Nz.pl (Nz.bl (Nz.fr s (i+1)))=true;rw[Nz.aoF];exact hi.2.2.2
   · rw[aiJ];have h1:=hi.1;rw[← Nz.aau] at h1;have h2:=hi.2.1;rw[List.getD_eq_getElem?_getD,List.getElem?_eq_getElem h1,Option.getD_some] at h2;rw[List.getD_eq_getElem?_getD,List.getElem?_map,List.getElem?_eq_getElem h1,Option.map_some,Option.getD_some,h2];decide
def Scp (l:List Pr):Prop:=∀ x∈l,Spc x.2
theorem a0s {l:List Pr}(h:Scp l)(p:ByteArray):Spc (Nz.Sc.acn l p).1:=by
 have key:∀ k,Spc (Nz.Sc.acn (l.take k) p).1:=by
  intro k
  induction k with
  | zero=>exact axl
  | succ k ih=>
    by_cases hk:k < l.length
    · rw[Nz.Sc.aik l p k _ (List.getElem?_eq_getElem hk)];split
      · exact h _ (List.getElem_mem hk)
      · exact ih
    · rw[List.take_of_length_le (by omega)];rw[List.take_of_length_le (by omega)] at ih;exact ih
 have:=key l.length
 rwa [List.take_of_length_le (Nat.le_refl _)] at this
theorem atg {l:List Pr}(h:Scp l){p n:ByteArray}(hn:Lcl n){x:Pr}(hx:Nz.Sc.aoi l p n=some x):Nmd x:=by
 unfold Nz.Sc.aoi at hx;split at hx
 · cases hx
 · injection hx with hx
   rw[← hx];exact⟨a0s h p,hn⟩
theorem azU {l:List Pr}(h:Scp l){s:ByteArray}(hs:Rg s){x:Pr}(hx:Nz.Sc.alJ l s=some x):Nmd x:=by
 unfold Nz.Sc.alJ at hx;split at hx
 · cases hx
 · rename_i c;exact atg h (ajZ (by simpa using c) hs) hx
theorem azg {l:List Pr}(h:Scp l){s:ByteArray}(hs:Rg s){x:Pr}(hx:Nz.Sc.ano l s=some x):Nmd x:=by
 unfold Nz.Sc.ano at hx;split at hx
 · cases hx
 · rename_i c;have hl:=ajZ (by simpa using c) hs;split at hx
   · injection hx with hx
     rw[← hx];exact⟨axl,hl⟩
   · exact atg h hl hx
theorem ahK:∀ (r l:List Pr) {W:List Pr},Scp l→LsG r→Nz.Sc.aaM l r=some W→Scp W
 | [],l,W,hl,_,h=>by
   injection h with h
   rw[← h];exact hl
 | a :: r,l,W,hl,hr,h=>by
   unfold Nz.Sc.aaM at h;have hr':LsG r:=fun x hx=>hr x (List.mem_cons_of_mem _ hx);split at h
   · exact ahK r l hl hr' h
   · rename_i p hp;split at h
     · rename_i hok;refine ahK r _ (fun x hx=> ?_) hr' h;rcases List.mem_append.1 hx with hx | hx
       · exact hl x hx
       · rw[List.mem_singleton] at hx;rw[hx];refine⟨(hr a List.mem_cons_self).2,fun e=> ?_⟩;unfold Nz.Sc.okB at hok;rw[show Nz.Sc.eqb a.2 Nz.Sc.XN=true from Nz.Sc.ada.2 e,Bool.or_true] at hok;simp at hok
     · cases h
def Trg (f:List Tr):Prop:=(∀ x∈f,Nmd x.1∧Rg x.2)∧(f.map (·.1)).Nodup
theorem alm {W:List Pr}(hW:Scp W):∀ (r:List Pr) (f:List Tr) {g:List Tr},LsG r→Trg f→Nz.Sc.adl W f r=.ok g→Trg g
 | [],f,g,_,hf,h=>by
   injection h with h
   rw[← h];exact hf
 | a :: r,f,g,hr,hf,h=>by
   unfold Nz.Sc.adl at h;have hr':LsG r:=fun x hx=>hr x (List.mem_cons_of_mem _ hx);have ha:=hr a List.mem_cons_self;split at h
   · exact alm hW r f hr' hf h
   · split at h
     · cases h
     · rename_i n hn;split at h
       · cases h
       · rename_i hh;refine alm hW r _ hr' ⟨fun x hx=> ?_,?_⟩ h
         · rcases List.mem_append.1 hx with hx | hx
           · exact hf.1 x hx
           · rw[List.mem_singleton] at hx;rw[hx];exact⟨azg hW ha.1 hn,ha.2⟩
         · rw[List.map_append,List.nodup_append];refine⟨hf.2,by simp,fun x hx y hy e=> ?_⟩;have:y=n:=(by simpa using hy);rw[e,this] at hx;exact hh (Nz.Sc.afR.2 hx)
theorem a0g {l:List Pr}{nm:ByteArray}{r W:List Pr}{n:Pr}{f:List Tr}(hl:Scp l)(hn:Rg nm)(hr:LsG r)(h:Nz.Sc.afq l nm r=.ok (W,n,f)):Scp W∧Nmd n∧Trg f∧f.length≤r.length:=by
 unfold Nz.Sc.afq at h;split at h
 · cases h
 · rename_i W' hW;split at h
   · cases h
   · rename_i n' hn';split at h
     · cases h
     · rename_i f' hf;obtain⟨h1,h⟩:=Prod.mk.inj (Except.ok.inj h);obtain⟨h2,h3⟩:=Prod.mk.inj h;rw[← h1,← h2,← h3];have hs:=ahK r l hl hr hW;refine⟨hs,azU hs hn hn',alm hs r [] hr ⟨fun x hx=>by simp at hx,by simp⟩ hf,?_⟩;have:=Nz.Sc.alL _ r [] hf
       simpa using this
theorem a6H:Scp ajl:=fun x hx=>by
 have:x=(Nz.Sc.xm,Nz.Sc.XS):=(by simpa [ajl] using hx);rw[this];refine⟨?_,?_⟩
 · show Rt (aad Nz.Sc.XS);unfold Rt;refine⟨by decide,fun r hr=> ?_⟩;have e:(acX (aad Nz.Sc.XS)).1=aad Nz.Sc.XS:=(by decide);rw[e] at hr;have h2:∀ r∈aad Nz.Sc.XS,Chr r:=(by decide);exact h2 r hr
 · intro h;have:=congrArg ByteArray.size h
   revert this
   decide
end Go.Proofs.YtiaebhomfebagaaGreatDoor.Wl
namespace Go.Proofs.YtiaebhomfebagaaGreatDoor.Wl
open Go.RowKit
def By (l:List Int):Prop:=∀ x∈l,0≤x∧x≤255
theorem By.nn {l:List Int}(h:By l):NN l:=fun x hx=>(h x hx).1
theorem By.take {l:List Int}(h:By l)(k:Nat):By (l.take k):=fun x hx=>h x (List.mem_of_mem_take hx)
theorem By.drop {l:List Int}(h:By l)(k:Nat):By (l.drop k):=fun x hx=>h x (List.mem_of_mem_drop hx)
theorem awj {l:List Int}(h:¬ abh l≠0):Rt l:=by
 have h:=Decidable.not_not.1 h;unfold abh at h;split at h
 · exact absurd h (by decide)
 · rename_i c;split at h
   · rename_i c2;exact⟨Decidable.not_not.1 c,c2⟩
   · exact absurd h (by decide)
theorem ajX (T:List Int):∀ (a:List Int),(∀ x∈a,x≠13)→acU (a++T)=a++acU T
 | [],_=>rfl
 | c :: a,h=>by
   rw[List.cons_append,acU,if_neg (h c List.mem_cons_self),ajX T a (fun x hx=>h x (List.mem_cons_of_mem _ hx))];rfl
theorem ahg:∀ (rs:List Int),(∀ r∈rs,Chr r)→∃ us:List Int,acU (rs.flatMap aat)=us.flatMap aat∧∀ r∈us,Chr r
 | [],_=>⟨[],rfl,fun r h=>by cases h⟩
 | r :: rs,h=>by
   obtain⟨us,h1,h2⟩:=ahg rs (fun x hx=>h x (List.mem_cons_of_mem _ hx));have hc:=h r List.mem_cons_self;rw[List.flatMap_cons];by_cases h13:r=13
   · rw[h13,show aat 13=[13] from rfl,List.cons_append,List.nil_append,acU,if_pos rfl,h1];split
     · exact⟨us,rfl,h2⟩
     · refine⟨10 :: us,rfl,fun x hx=> ?_⟩;rcases List.mem_cons.1 hx with hx | hx
       · rw[hx];decide
       · exact h2 x hx
   · have hn:∀ x∈aat r,x≠13:=by
      intro x hx e;by_cases hl:r < 128
      · have e1:aat r=[r]:=by unfold aat;rw[if_pos hl]
        rw[e1,List.mem_singleton] at hx;exact h13 (by rw[← hx,e])
      · have:=(aeX r (acv hc) (by omega)).2 x hx;omega
     rw[ajX _ _ hn,h1];refine⟨r :: us,rfl,fun x hx=> ?_⟩;rcases List.mem_cons.1 hx with hx | hx
     · rw[hx];exact hc
     · exact h2 x hx
def Txg (l:List Int):Prop:=Rt l∧By l
theorem a2t {rs:List Int}(h:∀ r∈rs,Chr r):Txg (rs.flatMap aat):=by
 refine⟨(aox rs h).1,fun x hx=> ?_⟩;obtain⟨r,hr,hx⟩:=List.mem_flatMap.1 hx;have:=aef r (acv (h r hr));exact⟨this.1 x hx,this.2 x hx⟩
def RdG (rd:List Int→Tk × Int):Prop:=∀ l,Txg l→(rd l).2=0→(rd l).1.kind=1∨(rd l).1.kind=3→Txg (rd l).1.text
theorem auf:RdG afC:=fun l h _ _=>by
 obtain⟨e,hr⟩:=adO h.2.nn h.1;obtain⟨us,h1,h2⟩:=ahg _ hr;show Txg (acU l);rw[e,h1];exact a2t h2
theorem avj:RdG adj:=fun l _ h0 hk=>by
 unfold adj at h0 hk;split at h0
 · exact absurd h0 (by decide)
 · rename_i c;rw[if_neg c] at hk;exact absurd hk (by show ¬ ((4:Int)=1∨(4:Int)=3);decide)
theorem atQ (z:Bool):RdG (afv z):=fun l _ h0 hk=>by
 unfold afv at h0 hk;split at h0
 · exact absurd h0 (by decide)
 · rename_i c;rw[if_neg c] at hk;split at h0
   · exact absurd h0 (by decide)
   · rename_i c2;rw[if_neg c2] at hk;exact absurd hk (by show ¬ ((5:Int)=1∨(5:Int)=3);decide)
theorem a0P:RdG akg:=fun l _ h0 hk=>by
 unfold akg at h0 hk;split at h0
 · exact absurd h0 (by decide)
 · rename_i c;rw[if_neg c] at hk;exact absurd hk (by show ¬ ((2:Int)=1∨(2:Int)=3);decide)
theorem ard:RdG abk:=fun l h h0 _=>by
 unfold abk at h0 ⊢;split at h0
 · exact absurd h0 (by decide)
 · rename_i c;rw[if_neg c];split
   · rename_i c2;show Txg l.dropLast;have hl:l≠[]:=by rintro rfl;simp at c2
     have e:l=l.dropLast++[47]:=by
      rw[List.getLast?_eq_some_getLast hl] at c2;injection c2 with c2
      rw[← c2,List.dropLast_concat_getLast]
     have hn:=h.2.nn;have hr:=h.1;rw[e] at hr hn;exact⟨(axa hn hr (by decide)).1,fun x hx=>h.2 x (List.dropLast_subset l hx)⟩
   · exact h
def TkG (x:Tk × Nat × Int):Prop:=x.2.2=0→x.1.kind=1∨x.1.kind=3→Txg x.1.text
theorem a3c {b n m:Nat}{rd:List Int→Tk × Int}{r stop:List Int}(hr:RdG rd)(hb:By r)(hs:(r.drop n).take m=stop)(hc:¬ Cont stop):TkG (fin b n m rd r):=by
 unfold fin;split
 · rename_i c;intro h;exact absurd h c
 · rename_i c;split
   · rename_i c2;intro h;exact absurd h c2
   · rename_i c2;intro _ hk;have h1:=awj c;have hn:=(hb.take (n+m)).nn;rw[List.take_add,hs] at h1 hn;exact hr _ ⟨(aqD hn h1 hc).1,hb.take n⟩ (Decidable.not_not.1 c2) hk
theorem anF {b:Nat}{stop:List Int}{rd:List Int→Tk × Int}{l:List Int}(hr:RdG rd)(hb:By l)(hc:¬ Cont stop):TkG (span b stop rd l):=by
 unfold span;split
 · intro h;exact absurd h (by decide)
 · rename_i n hn;exact a3c hr (hb.drop b) (amY hn) hc
theorem atc:∀ (l:List Int) (q:Int) (n:Nat),unq q l=some n→(l.drop n).take 1=[62]
 | [],q,n,h=>by cases h
 | c :: l,q,n,h=>by
   have key:∀ q',(unq q' l).map (· +1)=some n→((c :: l).drop n).take 1=[62]:=fun q' hq=>by
    obtain⟨m,hm,rfl⟩:=Option.map_eq_some_iff.1 hq;exact atc l q' m hm
   unfold unq at h;split at h
   · exact key _ h
   · split at h
     · exact key _ h
     · split at h
       · rename_i c62;injection h with h
         rw[← h,c62];rfl
       · exact key _ h
theorem ajD {c:Int}{b:List Int}(hc:c < 128):¬ Cont (c :: b):=a2x b hc
theorem a3S (z:Bool)(l:List Int)(hb:By l):TkG (adU z l):=by
 unfold adU;split
 · exact anF auf hb (ajD (by decide))
 split
 · exact anF avj hb (ajD (by decide))
 split
 · exact anF (atQ z) hb (ajD (by decide))
 split
 · exact anF a0P hb (ajD (by decide))
 split
 · split
   · intro h;exact absurd h (by decide)
   · split
     · intro h;exact absurd h (by decide)
     · intro h;exact absurd h (by decide)
 · unfold adW;split
   · intro h;exact absurd h (by decide)
   · rename_i n hn;exact a3c ard (hb.drop 1) (atc _ _ _ hn) (ajD (by decide))
theorem apE (l:List Int)(n:Nat)(hb:By l):TkG (ach l n):=by
 unfold ach;split
 · rename_i c;intro h;exact absurd h c
 split
 · intro h;exact absurd h (by decide)
 split
 · rename_i c;intro h;exact absurd h c
 · rename_i c;intro _ _;show Txg (acF false (l.take n)).1;have h:=Decidable.not_not.1 c
   have h0:(aaY false (l.take n)).2.2=0:=by
    unfold acF at h;split at h
    · assumption
    · exact h
   have hz:(acF false (l.take n)).1=(aaY false (l.take n)).1:=by unfold acF;rw[if_pos h0]
   obtain⟨i1,i2,i3,_⟩:=Tg.agC false _ (l.take n) (Nat.le_refl _) (hb.take n).nn h0;rw[hz];exact⟨i1,fun x hx=>⟨i2 x hx,i3 x hx⟩⟩
theorem a6u (L:List Int)(a:Nat)(hb:By L):TkG (nx L a):=by
 have hd:=hb.drop a;unfold nx aaT;split
 · split
   · intro h;exact absurd h (by decide)
   · intro _ hk;exact absurd hk (by show ¬ ((6:Int)=1∨(6:Int)=3);decide)
 split
 · exact a3S _ _ hd
 · unfold afx;split
   · exact apE _ _ hd
   · split
     · intro h;exact absurd h (by decide)
     · exact apE _ _ hd
theorem a5D {k:Tk}(h:Txg k.text):Rg (afo k).text:=by
 show Rt (aad (strOfNums k.text));rw[aeo _ h.2.nn (fun x hx=>(h.2 x hx).2)];exact h.1
def EvG:Ev→Prop
 | .opn n f=>Nmd n∧Trg f∧f.length≤32
 | .txt s=>Rg s∧s.size≠0
 | .cls=>True
structure StG (s:St):Prop where
 op:∀ x∈s.op,Scp x.2
 wt:Rg s.wait
theorem awW {u:ByteArray}(h:Rg u):∀ e∈aaH u,EvG e:=fun e he=>by
 unfold aaH at he;split at he
 · cases he
 · rename_i c;rw[List.mem_singleton] at he;rw[he];exact⟨h,c⟩
theorem a5T {s:St}(h:StG s):Scp (acI s):=by
 unfold acI;split
 · rename_i x hx;exact h.op x (List.mem_of_getLast? hx)
 · exact a6H
theorem aiY {s:St}(h:StG s)(e:Int):StG (bad s e).1∧∀ x∈(bad s e).2.1,EvG x:=⟨⟨h.op,h.wt⟩,fun x hx=>by cases hx⟩
theorem azm {a b:ByteArray}(h1:Rg a)(h2:Rg b):Rg (a++b):=by
 show Rt (aad (a++b));rw[avy];exact awZ (abn a) (abn b) h1 h2
theorem avh {s:St}(h:StG s)(t:Tok)(nm:ByteArray){W:List Pr}{n:Pr}{f:List Tr}(hW:Scp W)(hn:Nmd n)(hf:Trg f)(hl:f.length≤32):StG (opened s t nm W n f).1∧∀ x∈(opened s t nm W n f).2.1,EvG x:=by
 unfold opened;have ht:=awW h.wt;split
 · refine⟨⟨h.op,apj⟩,fun x hx=> ?_⟩;rcases List.mem_append.1 hx with hx | hx
   · exact ht x hx
   · simp only[List.mem_cons,List.not_mem_nil,or_false] at hx;rcases hx with rfl | rfl
     · exact⟨hn,hf,hl⟩
     · exact True.intro
 · refine⟨⟨fun x hx=> ?_,apj⟩,fun x hx=> ?_⟩
   · rcases List.mem_append.1 hx with hx | hx
     · exact h.op x hx
     · rw[List.mem_singleton] at hx;rw[hx];exact hW
   · rcases List.mem_append.1 hx with hx | hx
     · exact ht x hx
     · rw[List.mem_singleton] at hx;rw[hx];exact⟨hn,hf,hl⟩
theorem ayZ {s:St}(h:StG s)(t:Tok)(ht:Rg t.text):StG (aan s t).1∧∀ x∈(aan s t).2.1,EvG x:=by
 unfold aan;split
 · exact aiY h _
 split
 · exact aiY h _
 · rename_i c;have h0:=Decidable.not_not.1 c;obtain⟨g1,g2⟩:=a5S ht h0;have g3:=a5K h0
   cases ho:Nz.Sc.afq (acI s) (Tg.aaE t.text).2.1 (Tg.aaE t.text).2.2 with
   | error e=>exact aiY h e
   | ok q=>
     obtain⟨W,n,f⟩:=q;obtain⟨k1,k2,k3,k4⟩:=a0g (a5T h) g1 g2 ho;unfold adE;dsimp only;split
     · exact aiY h _
     · exact avh h t _ k1 k2 k3 (by omega)
theorem a2O {s:St}(h:StG s)(t:Tok)(ht:t.kind=1∨t.kind=3→Rg t.text):StG (aaF s t).1∧∀ x∈(aaF s t).2.1,EvG x:=by
 have h0:StG s∧∀ x∈([]:List Ev),EvG x:=⟨h,fun x hx=>by cases hx⟩;unfold aaF;split
 · exact h0
 split
 · exact h0
 unfold adi;split
 · rename_i k;exact ayZ h t (ht (.inl k))
 split
 · unfold afr;split
   · refine⟨⟨fun x hx=>h.op x (List.dropLast_subset _ hx),apj⟩,fun x hx=> ?_⟩;rcases List.mem_append.1 hx with hx | hx
     · exact awW h.wt x hx
     · rw[List.mem_singleton] at hx;rw[hx];exact True.intro
   · exact aiY h _
 split
 · rename_i k;unfold acr;split
   · exact⟨⟨h.op,azm h.wt (ht (.inr k))⟩,fun x hx=>by cases hx⟩
   · split
     · exact h0
     · exact aiY h _
 split
 · unfold lastT;split
   · exact aiY h _
   · split
     · exact aiY h _
     · exact⟨⟨h.op,h.wt⟩,fun x hx=>by cases hx⟩
 · exact h0
theorem a1y (L:List Int)(hb:By L):∀ (f a:Nat) (s:St) (out:List Ev),StG s→(∀ x∈out,EvG x)→∀ x∈(evG L f a s out).1,EvG x
 | 0,a,s,out,_,ho=>ho
 | f+1,a,s,out,hs,ho=>by
   unfold evG;split
   · exact ho
   rename_i c1;split
   · exact ho
   have hk:=a6u L a hb (Decidable.not_not.1 c1);have ht:=a2O hs (afo (nx L a).1) (fun h=>a5D (hk h));have h2:∀ x∈out++(aaF s (afo (nx L a).1)).2.1,EvG x:=fun x hx=>(List.mem_append.1 hx).elim (ho x) (ht.2 x);split
   · exact h2
   · exact a1y L hb f _ _ _ ht.1 h2
theorem a3y (L:List Int)(hb:By L):∀ x∈(evF L).1,EvG x:=a1y L hb _ _ _ _ ⟨fun x hx=>(by cases hx),apj⟩ (fun x hx=>by cases hx)
end Go.Proofs.YtiaebhomfebagaaGreatDoor.Wl
namespace Go.Proofs.YtiaebhomfebagaaGreatDoor.Wl
open Go.RowKit
def TkZ (x:Tk × Nat × Int):Prop:=x.1.text.length≤2 * x.2.1
theorem abQ (e:Int):TkZ (T0,0,e):=Nat.zero_le _
theorem a1O {b n m:Nat}{rd:List Int→Tk × Int}{r:List Int}(h:Tl rd):TkZ (fin b n m rd r):=by
 unfold fin;split
 · exact abQ _
 · split
   · exact abQ _
   · have h1:=h (r.take n);rw[List.length_take] at h1;show (rd (r.take n)).1.text.length≤2 * (b+(n+m));omega
theorem alY {b:Nat}{stop:List Int}{rd:List Int→Tk × Int}{l:List Int}(h:Tl rd):TkZ (span b stop rd l):=by
 unfold span;split
 · exact abQ _
 · exact a1O h
theorem a2a (z:Bool)(l:List Int):TkZ (adU z l):=by
 unfold adU;split
 · exact alY apR
 split
 · exact alY arq
 split
 · exact alY (asP z)
 split
 · exact alY axf
 split
 · split
   · exact abQ _
   · split
     · exact abQ _
     · exact abQ _
 · unfold adW;split
   · exact abQ _
   · exact a1O ane
theorem arV (l:List Int)(n:Nat)(hb:By l):TkZ (ach l n):=by
 unfold ach;split
 · exact abQ _
 split
 · exact abQ _
 split
 · exact abQ _
 · rename_i c;show (acF false (l.take n)).1.length≤2 * n;have h:=Decidable.not_not.1 c
   have h0:(aaY false (l.take n)).2.2=0:=by
    unfold acF at h;split at h
    · assumption
    · exact h
   have hz:(acF false (l.take n)).1=(aaY false (l.take n)).1:=by unfold acF;rw[if_pos h0]
   have i4:=(Tg.agC false _ (l.take n) (Nat.le_refl _) (hb.take n).nn h0).2.2.2;rw[hz];rw[List.length_take] at i4;omega
theorem a6a (L:List Int)(a:Nat)(hb:By L):TkZ (nx L a):=by
 have hd:=hb.drop a;unfold nx aaT;split
 · split
   · exact abQ _
   · exact Nat.zero_le _
 split
 · exact a2a _ _
 · unfold afx;split
   · exact arV _ _ hd
   · split
     · exact abQ _
     · exact arV _ _ hd
theorem aqS (l:List Int):(strOfNums l).size=l.length:=by
 simp[strOfNums,ByteArray.size]
def ScZ (M:Nat)(l:List Pr):Prop:=∀ x∈l,x.2.size≤M
def NmZ (M:Nat)(n:Pr):Prop:=n.1.size≤M∧n.2.size≤M
def LsZ (M:Nat)(l:List Pr):Prop:=∀ x∈l,x.1.size≤M∧x.2.size≤M
def TrZ (M:Nat)(f:List Tr):Prop:=∀ x∈f,NmZ M x.1∧x.2.size≤M
theorem a4M {M:Nat}{l:List Pr}(h:ScZ M l)(p:ByteArray):(Nz.Sc.acn l p).1.size≤M:=by
 have key:∀ k,(Nz.Sc.acn (l.take k) p).1.size≤M:=by
  intro k
  induction k with
  | zero=>exact Nat.zero_le _
  | succ k ih=>
    by_cases hk:k < l.length
    · rw[Nz.Sc.aik l p k _ (List.getElem?_eq_getElem hk)];split
      · exact h _ (List.getElem_mem hk)
      · exact ih
    · rw[List.take_of_length_le (by omega)];rw[List.take_of_length_le (by omega)] at ih;exact ih
 have:=key l.length
 rwa [List.take_of_length_le (Nat.le_refl _)] at this
theorem a3K {M:Nat}{l:List Pr}(h:ScZ M l){p n:ByteArray}(hn:n.size≤M){x:Pr}(hx:Nz.Sc.aoi l p n=some x):NmZ M x:=by
 unfold Nz.Sc.aoi at hx;split at hx
 · cases hx
 · injection hx with hx
   rw[← hx];exact⟨a4M h p,hn⟩
theorem a4C {M:Nat}{l:List Pr}(h:ScZ M l){s:ByteArray}(hs:s.size≤M){x:Pr}(hx:Nz.Sc.alJ l s=some x):NmZ M x:=by
 have h2:=(Nz.Sc.abH s).2;unfold Nz.Sc.alJ at hx;split at hx
 · cases hx
 · exact a3K h (by omega) hx
theorem a5J {M:Nat}{l:List Pr}(h:ScZ M l){s:ByteArray}(hs:s.size≤M){x:Pr}(hx:Nz.Sc.ano l s=some x):NmZ M x:=by
 have h2:=(Nz.Sc.abH s).2;unfold Nz.Sc.ano at hx;split at hx
 · cases hx
 · split at hx
   · injection hx with hx
     rw[← hx];exact⟨Nat.zero_le _,by show (Nz.aak s).2.1.size≤M;omega⟩
   · exact a3K h (by omega) hx
theorem apr {M:Nat}:∀ (r l:List Pr) {W:List Pr},ScZ M l→LsZ M r→Nz.Sc.aaM l r=some W→ScZ M W
 | [],l,W,hl,_,h=>by
   injection h with h
   rw[← h];exact hl
 | a :: r,l,W,hl,hr,h=>by
   unfold Nz.Sc.aaM at h;have hr':LsZ M r:=fun x hx=>hr x (List.mem_cons_of_mem _ hx);split at h
   · exact apr r l hl hr' h
   · split at h
     · refine apr r _ (fun x hx=> ?_) hr' h;rcases List.mem_append.1 hx with hx | hx
       · exact hl x hx
       · rw[List.mem_singleton] at hx;rw[hx];exact(hr a List.mem_cons_self).2
     · cases h
theorem ayb {M:Nat}{W:List Pr}(hW:ScZ M W):∀ (r:List Pr) (f:List Tr) {g:List Tr},LsZ M r→TrZ M f→Nz.Sc.adl W f r=.ok g→TrZ M g
 | [],f,g,_,hf,h=>by
   injection h with h
   rw[← h];exact hf
 | a :: r,f,g,hr,hf,h=>by
   unfold Nz.Sc.adl at h;have hr':LsZ M r:=fun x hx=>hr x (List.mem_cons_of_mem _ hx);have ha:=hr a List.mem_cons_self;split at h
   · exact ayb hW r f hr' hf h
   · split at h
     · cases h
     · rename_i n hn;split at h
       · cases h
       · refine ayb hW r _ hr' (fun x hx=> ?_) h;rcases List.mem_append.1 hx with hx | hx
         · exact hf x hx
         · rw[List.mem_singleton] at hx;rw[hx];exact⟨a5J hW ha.1 hn,ha.2⟩
theorem a5A {M:Nat}{l:List Pr}{nm:ByteArray}{r W:List Pr}{n:Pr}{f:List Tr}(hl:ScZ M l)(hn:nm.size≤M)(hr:LsZ M r)(h:Nz.Sc.afq l nm r=.ok (W,n,f)):ScZ M W∧NmZ M n∧TrZ M f:=by
 unfold Nz.Sc.afq at h;split at h
 · cases h
 · rename_i W' hW;split at h
   · cases h
   · rename_i n' hn';split at h
     · cases h
     · rename_i f' hf;obtain⟨h1,h⟩:=Prod.mk.inj (Except.ok.inj h);obtain⟨h2,h3⟩:=Prod.mk.inj h;rw[← h1,← h2,← h3];have hs:=apr r l hl hr hW;exact⟨hs,a4C hs hn hn',ayb hs r [] hr (fun x hx=>by cases hx) hf⟩
theorem a5p {M m:Nat}{u:ByteArray}(hu:u.size≤m)(hm:2 * m≤M)(h:(Tg.aaE u).1=0):(Tg.aaE u).2.1.size≤M∧LsZ M (Tg.aaE u).2.2:=by
 obtain⟨_,h2,h3⟩:=Tg.ayx u h;refine⟨by omega,fun x hx=> ?_⟩;have:=h3 x hx;exact⟨by omega,by omega⟩
def EvZ (M:Nat):Ev→Prop
 | .opn n f=>NmZ M n∧TrZ M f
 | .txt s=>s.size≤M
 | .cls=>True
structure StZ (M a:Nat)(s:St):Prop where
 op:∀ x∈s.op,ScZ M x.2
 wt:s.wait.size≤2 * a
theorem axi {M:Nat}{u:ByteArray}(h:u.size≤M):∀ e∈aaH u,EvZ M e:=fun e he=>by
 unfold aaH at he;split at he
 · cases he
 · rw[List.mem_singleton] at he;rw[he];exact h
theorem a5F {M a:Nat}{s:St}(hM:36≤M)(h:StZ M a s):ScZ M (acI s):=by
 unfold acI;split
 · rename_i x hx;exact h.op x (List.mem_of_getLast? hx)
 · intro x hx;have:x=(Nz.Sc.xm,Nz.Sc.XS):=(by simpa [ajl] using hx);rw[this];exact hM
theorem StZ.more {M a b:Nat}{s:St}(h:StZ M a s)(hab:a≤b):StZ M b s:=⟨h.op,by have:=h.wt;omega⟩
theorem asR {M a:Nat}{s:St}(h:StZ M a s)(e:Int):StZ M a (bad s e).1∧∀ x∈(bad s e).2.1,EvZ M x:=⟨⟨h.op,h.wt⟩,fun x hx=>by cases hx⟩
theorem awi {M a:Nat}{s:St}(h:StZ M a s)(ha:2 * a≤M)(t:Tok)(nm:ByteArray){W:List Pr}{n:Pr}{f:List Tr}(hW:ScZ M W)(hn:NmZ M n)(hf:TrZ M f):StZ M a (opened s t nm W n f).1∧∀ x∈(opened s t nm W n f).2.1,EvZ M x:=by
 unfold opened;have ht:=axi (M:=M) (u:=s.wait) (by have:=h.wt;omega);split
 · refine⟨⟨h.op,Nat.zero_le _⟩,fun x hx=> ?_⟩;rcases List.mem_append.1 hx with hx | hx
   · exact ht x hx
   · simp only[List.mem_cons,List.not_mem_nil,or_false] at hx;rcases hx with rfl | rfl
     · exact⟨hn,hf⟩
     · exact True.intro
 · refine⟨⟨fun x hx=> ?_,Nat.zero_le _⟩,fun x hx=> ?_⟩
   · rcases List.mem_append.1 hx with hx | hx
     · exact h.op x hx
     · rw[List.mem_singleton] at hx;rw[hx];exact hW
   · rcases List.mem_append.1 hx with hx | hx
     · exact ht x hx
     · rw[List.mem_singleton] at hx;rw[hx];exact⟨hn,hf⟩
theorem azj {M a m:Nat}{s:St}(hM:36≤M)(h:StZ M a s)(ha:2 * a≤M)(t:Tok)(ht:t.text.size≤m)(hm:2 * m≤M):StZ M a (aan s t).1∧∀ x∈(aan s t).2.1,EvZ M x:=by
 unfold aan;split
 · exact asR h _
 split
 · exact asR h _
 · rename_i c;obtain⟨g1,g2⟩:=a5p ht hm (Decidable.not_not.1 c)
   cases ho:Nz.Sc.afq (acI s) (Tg.aaE t.text).2.1 (Tg.aaE t.text).2.2 with
   | error e=>exact asR h e
   | ok q=>
     obtain⟨W,n,f⟩:=q;obtain⟨k1,k2,k3⟩:=a5A (a5F hM h) g1 g2 ho;unfold adE;dsimp only;split
     · exact asR h _
     · exact awi h ha t _ k1 k2 k3
theorem a1M {M a k:Nat}{s:St}(hM:36≤M)(h:StZ M a s)(ha:2 * a≤M)(hk:4 * k≤M)(t:Tok)(ht:t.text.size≤2 * k):StZ M (a+k) (aaF s t).1∧∀ x∈(aaF s t).2.1,EvZ M x:=by
 have up:∀ {y:St × List Ev × Int},(StZ M a y.1∧∀ x∈y.2.1,EvZ M x)→StZ M (a+k) y.1∧∀ x∈y.2.1,EvZ M x:=fun hy=>⟨hy.1.more (Nat.le_add_right _ _),hy.2⟩;have h0:∀ e:Int,StZ M (a+k) (s,([]:List Ev),e).1∧∀ x∈(s,([]:List Ev),e).2.1,EvZ M x:=fun e=>up (y:=(s,[],e)) ⟨h,fun x hx=>by cases hx⟩;have b0:∀ e:Int,StZ M (a+k) (bad s e).1∧∀ x∈(bad s e).2.1,EvZ M x:=fun e=>up (asR h e);unfold aaF;split
 · exact h0 _
 split
 · exact h0 _
 unfold adi;split
 · exact up (azj hM h ha t ht (by omega))
 split
 · unfold afr;split
   · refine⟨⟨fun x hx=>h.op x (List.dropLast_subset _ hx),Nat.zero_le _⟩,fun x hx=> ?_⟩;rcases List.mem_append.1 hx with hx | hx
     · exact axi (by have:=h.wt;omega) x hx
     · rw[List.mem_singleton] at hx;rw[hx];exact True.intro
   · exact b0 _
 split
 · unfold acr;split
   · refine⟨⟨h.op,?_⟩,fun x hx=>by cases hx⟩;show (s.wait++t.text).size≤_;have:=h.wt;rw[abS];omega
   · split
     · exact h0 _
     · exact b0 _
 split
 · unfold lastT;split
   · exact b0 _
   · split
     · exact b0 _
     · exact⟨⟨h.op,by have:=h.wt;show s.wait.size≤_;omega⟩,fun x hx=>by cases hx⟩
 · exact h0 _
theorem a4m {M:Nat}(L:List Int)(hb:By L)(hM:36≤M)(hL:4 * L.length≤M):∀ (f a:Nat) (s:St) (out:List Ev),a≤L.length→StZ M a s→(∀ x∈out,EvZ M x)→out.length≤3 * a→
 (∀ x∈(evG L f a s out).1,EvZ M x)∧(evG L f a s out).1.length≤3 * L.length+3
 | 0,a,s,out,ha,_,ho,hl=>⟨ho,by show out.length≤_;omega⟩
 | f+1,a,s,out,ha,hs,ho,hl=>by
   have h00:(∀ x∈out,EvZ M x)∧out.length≤3 * L.length+3:=⟨ho,by omega⟩;unfold evG;split
   · exact h00
   rename_i c1;split
   · exact h00
   have hz:=a6a L a hb
   have hw:(nx L a).2.1≤L.length∧(a < L.length→1≤(nx L a).2.1∧a+(nx L a).2.1≤L.length):=by
    rcases Nat.lt_or_ge a L.length with g | g
    · have:=(ahh L a g).size (Decidable.not_not.1 c1);rw[List.length_drop] at this;exact⟨by omega,fun _=>⟨this.1,by omega⟩⟩
    · rw[alI L a g];exact⟨Nat.zero_le _,fun g2=>by omega⟩
   have ht:(afo (nx L a).1).text.size≤2 * (nx L a).2.1:=by
    show (strOfNums (nx L a).1.text).size≤_;rw[aqS];exact hz
   have hk:=a1M hM hs (by omega) (by omega) (afo (nx L a).1) ht;have h3:=take_len (s:=s) (afo (nx L a).1);have h2:∀ x∈out++(aaF s (afo (nx L a).1)).2.1,EvZ M x:=fun x hx=>(List.mem_append.1 hx).elim (ho x) (hk.2 x);split
   · refine⟨h2,?_⟩;show (out++_).length≤_;rw[List.length_append];omega
   · rename_i c3;have hw2:=hw.2 (by omega);refine a4m L hb hM hL f _ _ _ hw2.2 hk.1 h2 ?_;rw[List.length_append];omega
theorem a5l {M:Nat}(L:List Int)(hb:By L)(hM:36≤M)(hL:4 * L.length≤M):(∀ x∈(evF L).1,EvZ M x)∧(evF L).1.length≤3 * L.length+3:=
 a4m L hb hM hL _ _ _ _ (Nat.zero_le _) ⟨fun x hx=>(by cases hx),Nat.zero_le _⟩ (fun x hx=>by cases hx) (Nat.zero_le _)
end Go.Proofs.YtiaebhomfebagaaGreatDoor.Wl
namespace Go.Proofs.YtiaebhomfebagaaGreatDoor
open Go.RowKit Go.Lib
def RA (old new s:List UInt8):List UInt8:=replaceK old new (count s old) s
theorem azn (s old new:List UInt8)(h:old≠new):replaceAll s old new=RA old new s:=by
 unfold replaceAll replace replaceNum RA;rw[if_neg (by simpa using h),if_pos (.inl (by omega))]
theorem ajn (old new:List UInt8)(h:old≠[]):RA old new []=[]:=by
 have hi:index [] old= -1:=by
  unfold index
  cases old with
  | nil=>exact absurd rfl h
  | cons a b=>rfl
 unfold RA;rw[count_miss hi];rfl
theorem anu (old new:List UInt8)(c:UInt8)(l:List UInt8)(h:old≠[])(hp:old.isPrefixOf (c :: l)=true):RA old new (c :: l)=new++RA old new ((c :: l).drop old.length):=by
 have hi:index (c :: l) old=((0:Nat):Int):=by
  unfold index;rw[if_pos hp];rfl
 unfold RA;rw[count_hit h hi,Nat.add_comm 1,replaceK_hit old new _ _ 0 hi];simp
theorem aoX (old new:List UInt8)(c:UInt8)(l:List UInt8)(h:old≠[])(hp:¬ old.isPrefixOf (c :: l)=true):RA old new (c :: l)=c :: RA old new l:=by
 have hi:index (c :: l) old=if index l old == -1 then -1 else index l old+1:=by
  conv=>lhs;unfold index
  rw[if_neg hp]
 by_cases hm:index l old= -1
 · rw[hm] at hi;have hi':index (c :: l) old= -1:=by rw[hi];rfl
   unfold RA;rw[count_miss hm,count_miss hi'];rfl
 · have hg:=index_ge l old;obtain⟨i,hl⟩:∃ i:Nat,index l old=i:=⟨(index l old).toNat,by omega⟩
   have hi':index (c :: l) old=((i+1:Nat):Int):=by
    rw[hi,hl,if_neg (by simp)];rfl
   have hd:(c :: l).drop (i+1+old.length)=l.drop (i+old.length):=by
    rw[show i+1+old.length=(i+old.length)+1 by omega];rfl
   unfold RA;rw[count_hit h hl,count_hit h hi',hd,Nat.add_comm 1,replaceK_hit old new _ _ i hl,replaceK_hit old new _ _ (i+1) hi',hd];rfl
theorem agI:∀ (n:Nat) (s:List UInt8),s.length≤n→(RA [13] [10] (RA [13,10] [10] s)).map (fun b=>(b.toNat:Int))=acU (s.map fun b=>(b.toNat:Int))
 | n,[],_=>by
   rw[ajn _ _ (by simp),ajn _ _ (by simp)];rfl
 | n+1,c :: l,h=>by
   have key:∀ (x:UInt8) (t:List UInt8),RA [13] [10] (x :: t)=(if x=13 then 10 else x) :: RA [13] [10] t:=fun x t=>by
    by_cases hx:x=13
    · rw[if_pos hx,anu _ _ _ _ (by simp) (by rw[hx];rfl)];rfl
    · rw[if_neg hx,aoX _ _ _ _ (by simp) (by simp[List.isPrefixOf];exact fun e=>hx e.symm)]
   have hi:∀ x:UInt8,(x.toNat:Int)=13↔x=13:=fun x=>⟨fun e=>a4P (b:=13) (by rw[e];rfl),fun e=>by rw[e];rfl⟩;by_cases hc:c=13
   · subst hc
     match l,h with
     | 10 :: l,h=>
       rw[anu _ _ _ _ (by simp) rfl];show List.map _ (RA [13] [10] (10 :: RA [13,10] [10] l))=_;have ih:=agI n l (by simp at h;omega);rw[key 10 _];simp only[List.map_cons,ih];rw[if_neg (by decide),acU,acU];simp
     | [],h=>
       rw[aoX _ _ _ _ (by simp) (by decide),ajn _ _ (by simp),key,ajn _ _ (by simp)];rfl
     | d :: l,h=>
       by_cases hd:d=10
       · subst hd;rw[anu _ _ _ _ (by simp) rfl];show List.map _ (RA [13] [10] (10 :: RA [13,10] [10] l))=_;have ih:=agI n l (by simp at h;omega);rw[key 10 _];simp only[List.map_cons,ih];rw[if_neg (by decide),acU,acU];simp
       · have hd':¬ (d.toNat:Int)=10:=fun e=>hd (a4P (b:=10) (by rw[e];rfl));rw[aoX _ _ _ _ (by simp) (by simp[List.isPrefixOf];exact fun e=>hd e.symm),key];have ih:=agI n (d :: l) (by simpa using h);rw[List.map_cons,ih,if_pos rfl]
         conv=>rhs;rw[List.map_cons];unfold acU
         simp[hd']
   · have hc':¬ (c.toNat:Int)=13:=fun e=>hc ((hi c).1 e);rw[aoX _ _ _ _ (by simp) (by simp[List.isPrefixOf];exact fun e=>absurd e.symm hc),key,if_neg hc];have ih:=agI n l (by simpa using h);rw[List.map_cons,ih]
     conv=>rhs;rw[List.map_cons];unfold acU
     rw[if_neg hc'];rfl
theorem auk (s:ByteArray):(⟨(replaceAll (ByteArray.mk (replaceAll s.data.toList [13,10] [10]).toArray).data.toList [13] [10]).toArray⟩:ByteArray)=strOfNums (acU (aad s)):=by
 refine aas ?_;rw[afn,azn _ _ _ (by decide),azn _ _ _ (by decide)];exact agI _ _ (Nat.le_refl _)
theorem apA (old new:List UInt8)(h:new.length≤old.length)(h0:old≠[]):∀ (n:Nat) (s:List UInt8),s.length≤n→(RA old new s).length≤s.length
 | n,[],_=>by rw[ajn _ _ h0];simp
 | n+1,c :: l,hn=>by
   by_cases hp:old.isPrefixOf (c :: l)=true
   · have hl:=(List.isPrefixOf_iff_prefix.1 hp).length_le;have h1:1≤old.length:=List.length_pos_iff.2 h0;have hd:((c :: l).drop old.length).length=(c :: l).length - old.length:=List.length_drop ..;have ih:=apA old new h h0 n ((c :: l).drop old.length) (by simp only[List.length_cons] at hd hn ⊢;omega);rw[anu _ _ _ _ h0 hp,List.length_append];omega
   · have ih:=apA old new h h0 n l (by simpa using hn);rw[aoX _ _ _ _ h0 hp]
     simpa using ih
def tkV (t:Tk):Value:=.agg #[.int .i64 t.kind,.string (strOfNums t.text),.bool t.empty,.bool t.blank]
def abx (x:Tk × Int)(w:World)(e:Ending)(w':World):Prop:=e=.returned (.tuple #[tkV x.1,.int .i64 x.2])∧Below w.heap.size w w'
structure aje (w:World)(B:Nat):Prop where
 c0:w.cell? ⟨B,0,none⟩=some (.int .i64 0)
 c1:w.cell? ⟨B,1,none⟩=some (.string ⟨#[]⟩)
 c2:w.cell? ⟨B,2,none⟩=some (.bool false)
 c3:w.cell? ⟨B,3,none⟩=some (.bool false)
 f0:w.frozen? ⟨B,0,none⟩=false
 f1:w.frozen? ⟨B,1,none⟩=false
 f2:w.frozen? ⟨B,2,none⟩=false
 f3:w.frozen? ⟨B,3,none⟩=false
theorem abR (w:World):aje (w.alloc (.cells #[.int .i64 0,.string ⟨#[]⟩,.bool false,.bool false] 44)) w.heap.size:=by
 constructor;all_goals simp[go_sem]
theorem aje.keep {w w':World}{B n:Nat}(h:aje w B)(hb:Below n w w')(hB:B < n):aje w' B:=
 ⟨(hb.cell (p:=⟨B,0,none⟩) hB).trans h.c0,(hb.cell (p:=⟨B,1,none⟩) hB).trans h.c1,(hb.cell (p:=⟨B,2,none⟩) hB).trans h.c2,(hb.cell (p:=⟨B,3,none⟩) hB).trans h.c3,
  (hb.frozen (p:=⟨B,0,none⟩) hB).trans h.f0,(hb.frozen (p:=⟨B,1,none⟩) hB).trans h.f1,(hb.frozen (p:=⟨B,2,none⟩) hB).trans h.f2,(hb.frozen (p:=⟨B,3,none⟩) hB).trans h.f3⟩
theorem aah {w w2:World}{n B:Nat}(h:Below n w w2)(hB:n≤B)(a b c d:Value):
 Below n w ((((w2.setCell ⟨B,0,none⟩ a).setCell ⟨B,1,none⟩ b).setCell ⟨B,2,none⟩ c).setCell ⟨B,3,none⟩ d):=
 (((h.setCell (p:=⟨B,0,none⟩) hB a).setCell (p:=⟨B,1,none⟩) hB b).setCell (p:=⟨B,2,none⟩) hB c).setCell (p:=⟨B,3,none⟩) hB d
theorem avW (s:ByteArray)(at_:Int)(w:World)(hs:s.size≤2000000000)(hG:Gl w):Calls Tryz.prog 84 #[.string s,.int .i64 at_] w (abx (afC (aad s)) w):=by
 have HG:=aac hG;have HB:=aac ((Below.refl w.heap.size w).alloc (Nat.le_refl _) (.cells #[.int .i64 0,.string ⟨#[]⟩,.bool false,.bool false] 44));have c1:=countB_le ⟨#[13,10]⟩ (by decide) s.size s (Nat.le_refl _);obtain⟨s1,hs1⟩:∃ s1:ByteArray,s1=⟨(replaceAll s.data.toList [13,10] [10]).toArray⟩:=⟨_,rfl⟩
 have l1:s1.size≤s.size:=by
  rw[hs1,← aae,afn,List.length_map,azn _ _ _ (by decide)];have:=apA [13,10] [10] (by simp) (by simp) _ s.data.toList (Nat.le_refl _);rw[← size_eq] at this;exact this
 have c2:=countB_le ⟨#[13]⟩ (by decide) s1.size s1 (Nat.le_refl _);have HE:=aac (auk s);rw[← hs1] at HE;have C1:=aac (fun (W:World) (hW:Gl W)=>let ⟨m,hm⟩:=hW.max;Tryz.strings_ReplaceAll s ⟨#[13,10]⟩ ⟨#[10]⟩ m W (by omega) hm (by decide) (by have:(ByteArray.mk #[10]).size=1:=rfl;rw[this];omega));have C2:=aac (fun (W:World) (hW:Gl W)=>let ⟨m,hm⟩:=hW.max;Tryz.strings_ReplaceAll s1 ⟨#[13]⟩ ⟨#[10]⟩ m W (by omega) hm (by decide) (by have:(ByteArray.mk #[10]).size=1:=rfl;rw[this];omega));have e1:(ByteArray.mk (replaceAll s.data.toList (ByteArray.mk #[13,10]).data.toList (ByteArray.mk #[10]).data.toList).toArray)=s1:=hs1.symm;rw[e1] at C1;have e2:(ByteArray.mk (replaceAll s1.data.toList (ByteArray.mk #[13]).data.toList (ByteArray.mk #[10]).data.toList).toArray)=strOfNums (acU (aad s)):=HE.out;rw[e2] at C2;clear e1 e2 HE hs1 c1 c2 hG;go_enter Tryz.func84,Tryz.ntmps84;go_wp2_with fail;refine(C1.out _ (HG.out.alloc _)).mono ?_;rintro e w1 ⟨rfl,hb1⟩;have HG1:=aac ((HG.out.alloc _).after hb1);go_wp2_with fail;refine(C2.out _ HG1.out).mono ?_;rintro e w2 ⟨rfl,hb2⟩;have hb:=HB.out.trans (hb1.mono (by simp));have hb':=hb.trans (hb2.mono hb.size);have hz1:w.heap.size < w1.heap.size:=by have:=hb1.size;simp at this;omega
 have hz2:w.heap.size < w2.heap.size:=Nat.lt_of_lt_of_le hz1 hb2.size;obtain⟨c0,c1,c2,c3,f0,f1,f2,f3⟩:=((abR w).keep hb1 (by simp)).keep hb2 hz1;go_wp2_with fail;refine bodyPost_ret (v:=.tuple #[tkV (afC (aad s)).1,.int .i64 0]) (by simp[results,Tryz.results84,go_sem,c0,c1,c2,c3,hz2,tkV,afC]) rfl ⟨rfl,aah hb' (Nat.le_refl _) _ _ _ _⟩
end Go.Proofs.YtiaebhomfebagaaGreatDoor
