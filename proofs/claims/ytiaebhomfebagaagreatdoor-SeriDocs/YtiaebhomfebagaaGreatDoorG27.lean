/- Lemmas of the claim. -/
import Derived.Test.YtiaebhomfebagaaGreatDoorG26
import Derived.Test.YtiaebhomfebagaaGreatDoorG13
import Derived.Test.YtiaebhomfebagaaGreatDoorG19
import Derived.Test.YtiaebhomfebagaaGreatDoorG04
import Derived.Test.YtiaebhomfebagaaGreatDoorG07
import Derived.Test.YtiaebhomfebagaaGreatDoorG25
set_option linter.unusedSimpArgs false
set_option linter.unusedVariables false
namespace Go.Proofs.YtiaebhomfebagaaGreatDoor
theorem ahr {r:Int}(h:Blank r):¬ Part r:=by unfold Blank at h;unfold Part Start Btw;omega
namespace Nz
theorem a1C:pl []=false:=rfl
theorem akL:∀ (n:Nat) (A B:List Nat) (c:Nat),c < 128→¬ Ok (c:Int)→A.length≤n→(∀ x∈Rn A,Ok x)→St (A++c :: B)=A.length
 | n,A,B,c,hc,hok,hn,hA=>by
   by_cases h:A=[]
   · subst h;rw[List.nil_append,adI _ (by simp),agF B c hc,if_neg hok];rfl
   · have hl:1≤A.length:=List.length_pos_iff.2 h;have hw:=aaV A h
     match n with
     | 0=>omega
     | n+1=>
       have hR:=adq A h
       rw[adI (A++c :: B) (by simp),anx A B c hc h,if_pos (hA _ (by rw[hR];simp)),List.drop_append_of_le_length hw.2,
        akL n (A.drop (dN A).2) B c hc hok (by simp;omega) (fun x hx=>hA x (by rw[hR];simp[hx]))]
       simp;omega
theorem aro (n m b0 b1 b2 b3 c1 c2 c3:Nat)(e1:1 < n→c1=b1)(e2:2 < n→c2=b2)(e3:3 < n→c3=b3)(hn:1≤n)(hm:n≤m)(hw:(Lib.decodeN m b0 b1 b2 b3).2≤n):
 Lib.decodeN n b0 c1 c2 c3=Lib.decodeN m b0 b1 b2 b3:=by
 unfold Lib.decodeN at hw ⊢;by_cases h0:b0 < 128
 · rw[if_pos h0,if_pos h0]
 · rw[if_neg h0] at hw;rw[if_neg h0,if_neg h0];by_cases h1:b0 / 32=6∧(1 < m∧b1 / 64=2)
   · rw[if_pos h1] at hw;rw[if_pos h1];by_cases g1:1 < n
     · rw[e1 g1,if_pos ⟨h1.1,g1,h1.2.2⟩]
     · have hv:¬ b0 % 32 * 64+b1 % 64 ≥ 128:=by
        intro hv;rw[if_pos hv] at hw;exact g1 hw
       rw[if_neg hv,if_neg (fun h=>g1 h.2.1),if_neg (fun h=>g1 h.2.1.1),if_neg (fun h=>g1 h.2.1.1)]
   · rw[if_neg h1] at hw;have k1:¬ (b0 / 32=6∧(1 < n∧c1 / 64=2)):=fun h=>h1 ⟨h.1,by omega,by rw[← e1 h.2.1];exact h.2.2⟩;rw[if_neg h1,if_neg k1];by_cases h2:b0 / 16=14∧(1 < m∧b1 / 64=2)∧(2 < m∧b2 / 64=2)
     · rw[if_pos h2] at hw;rw[if_pos h2];by_cases g2:2 < n
       · rw[e1 (by omega),e2 g2,if_pos ⟨h2.1,⟨by omega,h2.2.1.2⟩,g2,h2.2.2.2⟩]
       · by_cases hv:b0 % 16 * 4096+b1 % 64 * 64+b2 % 64 ≥ 2048∧(b0 % 16 * 4096+b1 % 64 * 64+b2 % 64 < 55296∨(57344≤b0 % 16 * 4096+b1 % 64 * 64+b2 % 64∧b0 % 16 * 4096+b1 % 64 * 64+b2 % 64≤1114111))
         · rw[if_pos hv] at hw;exact absurd hw g2
         · rw[if_neg hv,if_neg (fun h=>g2 h.2.2.1),if_neg (fun h=>g2 h.2.2.1.1)]
     · rw[if_neg h2] at hw;have k2:¬ (b0 / 16=14∧(1 < n∧c1 / 64=2)∧(2 < n∧c2 / 64=2)):=fun h=>h2 ⟨h.1,⟨by omega,by rw[← e1 h.2.1.1];exact h.2.1.2⟩,by omega,by rw[← e2 h.2.2.1];exact h.2.2.2⟩;rw[if_neg h2,if_neg k2];by_cases h3:b0 / 8=30∧(1 < m∧b1 / 64=2)∧(2 < m∧b2 / 64=2)∧(3 < m∧b3 / 64=2)
       · rw[if_pos h3] at hw;rw[if_pos h3];by_cases g3:3 < n
         · rw[e1 (by omega),e2 (by omega),e3 g3,if_pos ⟨h3.1,⟨by omega,h3.2.1.2⟩,⟨by omega,h3.2.2.1.2⟩,g3,h3.2.2.2.2⟩]
         · by_cases hv:b0 % 8 * 262144+b1 % 64 * 4096+b2 % 64 * 64+b3 % 64 ≥ 65536∧(b0 % 8 * 262144+b1 % 64 * 4096+b2 % 64 * 64+b3 % 64 < 55296∨(57344≤b0 % 8 * 262144+b1 % 64 * 4096+b2 % 64 * 64+b3 % 64∧b0 % 8 * 262144+b1 % 64 * 4096+b2 % 64 * 64+b3 % 64≤1114111))
           · rw[if_pos hv] at hw;exact absurd hw g3
           · rw[if_neg hv,if_neg (fun h=>g3 h.2.2.2.1)]
       · have k3:¬ (b0 / 8=30∧(1 < n∧c1 / 64=2)∧(2 < n∧c2 / 64=2)∧(3 < n∧c3 / 64=2)):=fun h=>
          h3 ⟨h.1,⟨by omega,by rw[← e1 h.2.1.1];exact h.2.1.2⟩,⟨by omega,by rw[← e2 h.2.2.1.1];exact h.2.2.1.2⟩,by omega,by rw[← e3 h.2.2.2.1];exact h.2.2.2.2⟩
         rw[if_neg h3,if_neg k3]
theorem adQ (A T:List Nat)(i:Nat)(h:i < A.length):A.getD i 0=(A++T).getD i 0:=by
 rw[List.getD_eq_getElem?_getD,List.getD_eq_getElem?_getD,List.getElem?_append_left h]
theorem a2M (A T:List Nat)(h:A≠[])(hw:(dN (A++T)).2≤A.length):dN A=dN (A++T):=by
 have hl:1≤A.length:=List.length_pos_iff.2 h;unfold dN at *;rw[adQ A T 0 hl];exact aro _ _ _ _ _ _ _ _ _ (fun h=>adQ A T 1 h) (fun h=>adQ A T 2 h) (fun h=>adQ A T 3 h) hl (by simp) hw
theorem aoQ:∀ (n:Nat) (L:List Nat),L.length≤n→St (L.take (St L))=St L
 | n,L,hn=>by
   by_cases h:L=[]
   · subst h;rfl
   · have hl:1≤L.length:=List.length_pos_iff.2 h;have hw:=aaV L h
     match n with
     | 0=>omega
     | n+1=>
       have hc:=adI L h;by_cases hk:Ok ((dN L).1:Int)
       · rw[if_pos hk] at hc;have hle:=a0y L.length L (Nat.le_refl _)
         have hne:L.take (St L)≠[]:=by
          intro h2;have:=congrArg List.length h2;rw[List.length_take,List.length_nil] at this;omega
         have hd:dN (L.take (St L))=dN L:=by
          have h1:=a2M (L.take (St L)) (L.drop (St L)) hne (by rw[List.take_append_drop,List.length_take];omega);rw[List.take_append_drop] at h1;exact h1
         rw[adI _ hne,hd,if_pos hk,List.drop_take];have e:St L - (dN L).2=St (L.drop (dN L).2):=(by omega);rw[e,aoQ n (L.drop (dN L).2) (by simp;omega),hc]
       · rw[if_neg hk] at hc;rw[hc];rfl
end Nz
namespace Tg
open Go.RowKit
theorem acN (s:ByteArray):aad s=(Nz.bl s).map (fun n:Nat=>(n:Int)):=by simp[aad,Nz.bl]
theorem apN {A:ByteArray}(h:isN A=true):∀ x∈Nz.Rn (Nz.bl A),Nz.Ok x:=by
 unfold isN Nz.aak at h;rcases Nz.adT A with ⟨h1,h2⟩ | ⟨i,h1,h2,h3,h4⟩
 · rw[if_pos h1] at h
   have hp:Nz.pl (Nz.bl A)=true:=by
    cases hq:Nz.pl (Nz.bl A)
    · rw[hq,if_neg (by decide)] at h;exact h
    · rfl
   exact fun x hx=>.inr (Nz.aph hp x hx)
 · rw[if_neg (by rw[h1];omega),h1,Int.toNat_natCast] at h
   have hp:Nz.pl (Nz.bl (A.extract 0 i))=true∧Nz.pl (Nz.bl (A.extract (i+1) A.size))=true:=by
    by_cases hq:Nz.pl (Nz.bl (A.extract 0 i))=true∧Nz.pl (Nz.bl (A.extract (i+1) A.size))=true
    · exact hq
    · rw[if_neg hq] at h;cases h
   rw[Nz.aqP,Nz.akv] at hp;rw[h3,Nz.amf _ _ _ 58 (by omega) (Nat.le_refl _)];intro x hx;rcases List.mem_append.1 hx with hx | hx
   · exact .inr (Nz.aph hp.1 x hx)
   · rcases List.mem_cons.1 hx with hx | hx
     · exact .inl (by rw[hx];rfl)
     · exact .inr (Nz.aph hp.2 x hx)
theorem arv {c:Nat}(h:Blank (c:Int)∨(c:Int)=61):c < 128∧¬ Nz.Ok (c:Int):=by
 refine⟨?_,?_⟩
 · unfold Blank at h;omega
 · unfold Nz.Ok;rintro (e | e)
   · unfold Blank at h;omega
   · rcases h with h | h
     · exact ahr h e
     · rw[h] at e;exact absurd e (by decide)
theorem anM (u A:ByteArray)(rest:List Int)(h:aad u=aad A++rest)(hN:isN A=true)(hr:rest=[]∨∃ c r,rest=c :: r∧(Blank c∨c=61)):
 Nz.sn u 0=A.size∧Nz.sx u 0=A∧aad (Nz.fr u A.size)=rest:=by
 have hOk:=apN hN
 have hbl:Nz.bl u=Nz.bl A++(Nz.bl u).drop A.size:=by
  have hz:(Nz.bl A).length=A.size:=Nz.aau A
  have e:(Nz.bl u).take A.size=Nz.bl A:=by
   have h2:=congrArg (List.map Int.toNat) h;rw[acN u,acN A,List.map_append,List.map_map,List.map_map] at h2;have id1:(Int.toNat ∘ fun n:Nat=>(n:Int))=id:=by funext n;simp
   rw[id1,List.map_id,List.map_id] at h2;rw[h2,← hz,List.take_left]
  rw[← e,List.take_append_drop]
 have hd:(aad u).drop A.size=rest:=by rw[h,← aae A,List.drop_left]
 have hsn:Nz.sn u 0=A.size:=by
  unfold Nz.sn;rw[List.drop_zero,hbl]
  have hdr:((Nz.bl u).drop A.size).map (fun n:Nat=>(n:Int))=rest:=by
   rw[List.map_drop,← acN];exact hd
  rcases hr with hr | ⟨c,r,hr,hc⟩
  · rw[hr] at hdr;have:(Nz.bl u).drop A.size=[]:=(by simpa using hdr);rw[this,List.append_nil];have h32:=Nz.akL _ (Nz.bl A) [] 32 (by omega) (arv (c:=32) (.inl (by decide))).2 (Nat.le_refl _) hOk;have hs:=Nz.aoQ _ (Nz.bl A++[32]) (Nat.le_refl _);rw[h32,List.take_left] at hs;rw[hs];exact Nz.aau A
  · rw[hr] at hdr
    cases hq:(Nz.bl u).drop A.size with
    | nil=>rw[hq] at hdr;simp at hdr
    | cons c' r'=>
      rw[hq] at hdr;have hc':(c':Int)=c:=(by simpa using (List.cons.inj hdr).1);have:=arv (c:=c') (by rw[hc'];exact hc);rw[Nz.akL _ (Nz.bl A) r' c' this.1 this.2 (Nat.le_refl _) hOk];exact Nz.aau A
 refine⟨hsn,?_,?_⟩
 · rw[aiy,hsn];apply aaW;rw[abV,h,← aae A,List.take_left]
 · rw[abw];exact hd
def Bks (b:List Int):Prop:=∀ x∈b,aaZ x=true
theorem awO:∀ (b r:List Int),Bks b→(r=[]∨∃ c t,r=c :: t∧aaZ c=false)→(b++r).takeWhile aaZ=b
 | [],r,_,h=>by
   rcases h with rfl | ⟨c,t,rfl,h⟩
   · rfl
   · rw[List.nil_append,List.takeWhile_cons_of_neg (by rw[h];decide)]
 | x :: b,r,hb,h=>by
   rw[List.cons_append,List.takeWhile_cons_of_pos (hb x (List.mem_cons_self ..)),awO b r (fun y hy=>hb y (List.mem_cons_of_mem _ hy)) h]
theorem afT (u:ByteArray)(b r:List Int)(h:aad u=b++r)(hb:Bks b)(hr:r=[]∨∃ c t,r=c :: t∧aaZ c=false):bk u=b.length∧aad (sk u)=r:=by
 have e:bk u=b.length:=by unfold bk;rw[h,awO b r hb hr]
 refine⟨e,?_⟩;unfold sk;rw[abw,e,h,List.drop_left]
def atT (b1 b2 b3:List Int)(x:ByteArray × ByteArray):List Int:=b1++(aad x.1++(b2++(61 :: (b3++(34 :: (aaO true (aad x.2)++[34]))))))
def txF (b1 b2 b3 b4:List Int)(nm:ByteArray)(l:List (ByteArray × ByteArray)):List Int:=aad nm++(l.flatMap (atT b1 b2 b3)++b4)
theorem anv (l:List Int):(34:Int) ∉ aaO true l:=by
 intro h;unfold aaO at h;obtain⟨c,_,hc⟩:=List.mem_flatMap.1 h;unfold agZ at hc
 repeat' split at hc
 all_goals simp at hc
 all_goals first
  | omega
  | (rename_i h5 _ _;exact h5 ⟨rfl,by omega⟩)
  | (simp_all)
theorem azS {b r:List Int}{c:Int}(hb:Bks b)(hc:c=61∨Blank c):∃ d t,b++c :: r=d :: t∧(Blank d∨d=61):=by
 cases b with
 | nil=>exact⟨c,r,rfl,hc.symm⟩
 | cons x b=>
   refine⟨x,b++c :: r,rfl,.inl ?_⟩;have:=hb x (List.mem_cons_self ..);unfold aaZ at this;exact of_decide_eq_true this
theorem ajY (u:ByteArray)(c:Int)(t:List Int)(h:aad u=c :: t):hd u=c∧aad (Nz.fr u 1)=t:=by
 refine⟨by unfold hd;rw[h];rfl,?_⟩;rw[abw,h];rfl
theorem aqT (u:ByteArray)(b2 b3 T:List Int)(x:ByteArray × ByteArray)(h:aad u=aad x.1++(b2++(61 :: (b3++(34 :: (aaO true (aad x.2)++(34 :: T)))))))(h2:Bks b2)(h3:Bks b3)(hN:isN x.1=true)(hR:Rt (aad x.2)):
 (aap u).1=0∧(aap u).2.1=x.1∧(aap u).2.2.1=x.2∧aad (aap u).2.2.2=T:=by
 obtain⟨e1,e2,e3⟩:=anM u x.1 _ h hN (.inr (azS h2 (.inl rfl)));obtain⟨_,e4⟩:=afT (Nz.fr u x.1.size) b2 _ e3 h2 (.inr ⟨61,_,rfl,by decide⟩);obtain⟨e5,e6⟩:=ajY _ _ _ e4;obtain⟨_,e7⟩:=afT (Nz.fr (sk (Nz.fr u x.1.size)) 1) b3 _ e6 h3 (.inr ⟨34,_,rfl,by decide⟩);obtain⟨e8,e9⟩:=ajY _ _ _ e7;generalize hV:Nz.fr (sk (Nz.fr (sk (Nz.fr u x.1.size)) 1)) 1=V at *;have hlen:V.size=(aaO true (aad x.2)).length+(T.length+1):=by rw[← aae,e9,List.length_append,List.length_cons]
 have hq:qi 34 V=((aaO true (aad x.2)).length:Nat):=by
  apply asD
  · omega
  · rw[e9,List.getD_eq_getElem?_getD,List.getElem?_append_right (Nat.le_refl _),Nat.sub_self];rfl
  · intro j hj;rw[e9,List.getD_eq_getElem?_getD,List.getElem?_append_left hj,List.getElem?_eq_getElem hj];intro e;apply anv (aad x.2);have:(aaO true (aad x.2))[j]=34:=e;rw[← this];exact List.getElem_mem _
 have hin:aad (V.extract 0 (aaO true (aad x.2)).length)=aaO true (aad x.2):=by rw[abV,e9,List.take_left]
 have hans:acF true (aad (V.extract 0 (aaO true (aad x.2)).length))=(aad x.2,0,0):=by
  rw[hin];exact apH (axj true (aad x.2) (abn x.2) hR)
 have key:aap u=(0,x.1,strOfNums (aad x.2),Nz.fr V ((aaO true (aad x.2)).length+1)):=by
  unfold aap;rw[e2,e1,if_neg (by rw[hN];decide),if_neg (by rw[e5];decide),if_pos e8,hV];unfold aki;rw[hq,if_neg (by omega),Int.toNat_natCast,hans,if_neg (fun h=>h rfl)]
 rw[key];refine⟨rfl,rfl,(aas rfl).symm,?_⟩;show aad (Nz.fr V _)=T;rw[abw,e9,← List.drop_drop,List.drop_left];rfl
theorem apK (b1 b2 b3:List Int)(x:ByteArray × ByteArray)(T:List Int):atT b1 b2 b3 x++T=b1++(aad x.1++(b2++(61 :: (b3++(34 :: (aaO true (aad x.2)++(34 :: T))))))):=by
 unfold atT;simp only[List.append_assoc,List.cons_append,List.nil_append]
theorem ajH {A:ByteArray}(r:List Int)(h:isN A=true):∃ c t,aad A++r=c :: t∧aaZ c=false:=by
 cases hb:aad A with
 | nil=>
   exfalso;have hz:A.size=0:=by rw[← aae,hb];rfl
   have hA:Nz.bl A=[]:=List.eq_nil_of_length_eq_zero (by rw[Nz.aau];exact hz);unfold isN Nz.aak at h;rcases Nz.adT A with ⟨h1,h2⟩ | ⟨i,h1,h2,h3,h4⟩
   · rw[if_pos h1,hA,Nz.a1C,if_neg (by decide)] at h;cases h
   · omega
 | cons c t=>
   refine⟨c,t++r,rfl,?_⟩;cases hc:aaZ c
   · rfl
   · exfalso;have hbl:Blank c:=of_decide_eq_true hc
     cases hq:Nz.bl A with
     | nil=>
       have:=acN A;rw[hb,hq] at this;cases this
     | cons c' t'=>
       have e:=acN A;rw[hb,hq,List.map_cons] at e;have hc':c=(c':Int):=(List.cons.inj e).1;have hno:=arv (c:=c') (by rw[← hc'];exact .inl hbl);have hR:=Nz.adq (Nz.bl A) (by rw[hq];simp);have hd:=Nz.agF t' c' hno.1;rw[hq,hd] at hR;have:=apN h (c':Int) (by rw[hq,hR];exact List.mem_cons_self ..);exact hno.2 this
theorem go_back (nm:ByteArray)(b1 b2 b3 b4:List Int)(h1:Bks b1)(hne:b1≠[])(h2:Bks b2)(h3:Bks b3)(h4:Bks b4):
 ∀ (l2 l1:List (ByteArray × ByteArray)) (u:ByteArray),RgP nm (l1++l2)→aad u=l2.flatMap (atT b1 b2 b3)++b4→GoF nm l1 u=(0,nm,l1++l2)
 | [],l1,u,hR,hu=>by
   have hs:=afT u b4 [] (by rw[hu];simp) h4 (.inl rfl);rw[apB nm l1 u (by rw[← aae,hs.2];rfl),List.append_nil]
 | x :: l2,l1,u,hR,hu=>by
   rw[List.flatMap_cons,List.append_assoc,apK] at hu;have hx:(l1++x :: l2)[l1.length]?=some x:=by rw[List.getElem?_append_right (Nat.le_refl _),Nat.sub_self];rfl
   obtain⟨r1,r2,r3⟩:=hR.2.2 l1.length x hx;obtain⟨c,t,hc1,hc2⟩:=ajH (A:=x.1) (b2++(61 :: (b3++(34 :: (aaO true (aad x.2)++(34 :: (l2.flatMap (atT b1 b2 b3)++b4))))))) r1;have hs:=afT u b1 _ hu h1 (.inr ⟨c,t,hc1,hc2⟩);obtain⟨p1,p2,p3,p4⟩:=aqT (sk u) b2 b3 _ x hs.2 h2 h3 r1 r2
   have c1:(sk u).size≠0:=by
    rw[← aae,hs.2,hc1];simp
   have c2:bk u≠0:=by
    rw[hs.1];intro e;exact hne (List.eq_nil_of_length_eq_zero e)
   have hhas:adK (aap (sk u)).2.1 l1=false:=by
    rw[p2];exact aoW fun j y hj hy=>r3 j y hj (by rw[List.getElem?_append_left hj];exact hy)
   have hlen:¬ 32≤l1.length:=by
    have:=hR.2.1;rw[List.length_append,List.length_cons] at this;omega
   rw[go_ok nm l1 u c1 c2 p1 hhas hlen,p2,p3];have e:l1++x :: l2=(l1++[(x.1,x.2)])++l2:=(by simp);rw[e];exact go_back nm b1 b2 b3 b4 h1 hne h2 h3 h4 l2 (l1++[(x.1,x.2)]) _ (by rw[← e];exact hR) p4
theorem awf (nm:ByteArray)(l:List (ByteArray × ByteArray))(b1 b2 b3 b4:List Int)(h1:Bks b1)(hne:b1≠[])(h2:Bks b2)(h3:Bks b3)(h4:Bks b4)(hR:RgP nm l)(u:ByteArray)(hu:aad u=txF b1 b2 b3 b4 nm l):aaE u=(0,nm,l):=by
 unfold txF at hu
 have hh:l.flatMap (atT b1 b2 b3)++b4=[]∨∃ c r,l.flatMap (atT b1 b2 b3)++b4=c :: r∧(Blank c∨c=61):=by
  cases l with
  | nil=>
    cases b4 with
    | nil=>exact .inl rfl
    | cons c r=>exact .inr ⟨c,r,rfl,.inl (of_decide_eq_true (h4 c (List.mem_cons_self ..)))⟩
  | cons x l=>
    right;rw[List.flatMap_cons,List.append_assoc,apK]
    cases b1 with
    | nil=>exact absurd rfl hne
    | cons c r=>exact⟨c,_,rfl,.inl (of_decide_eq_true (h1 c (List.mem_cons_self ..)))⟩
 obtain⟨e1,e2,e3⟩:=anM u nm _ hu hR.1 hh;unfold aaE;rw[e2,e1,if_neg (by rw[hR.1];decide)];exact go_back nm b1 b2 b3 b4 h1 hne h2 h3 h4 l [] _ hR e3
theorem a5y:Bks [32]:=by
 intro x hx;have:x=32:=(by simpa using hx);subst this;rfl
theorem a5m:Bks []:=fun x hx=>by simp at hx
end Tg
end Go.Proofs.YtiaebhomfebagaaGreatDoor
namespace Go.Proofs.YtiaebhomfebagaaGreatDoor.Bk
open Go.RowKit
theorem a1P {A:ByteArray}(h:Tg.isN A=true){c:Int}(hc:c∈aad A)(h1:c < 128):Nz.Ok c:=by
 rw[Tg.acN] at hc;obtain⟨n,hn,rfl⟩:=List.mem_map.1 hc;obtain⟨p,r,e⟩:=List.append_of_mem hn;have:=Tg.apN h;rw[e,Nz.amf _ p r n (by omega) (Nat.le_refl _)] at this;exact this n (by simp)
theorem a5E {c:Int}(h:c≠58)(h2:¬ Part c):¬ Nz.Ok c:=fun e=>e.elim h h2
theorem agR {A:ByteArray}(h:Tg.isN A=true){c:Int}(h1:c < 128)(h2:c≠58)(h3:¬ Part c):c ∉ aad A:=fun hc=>a5E h2 h3 (a1P h hc h1)
theorem a4l {A:ByteArray}(h:Tg.isN A=true):aad A≠[]:=fun e=>by
 obtain⟨c,t,hc,_⟩:=Tg.ajH (A:=A) [] h;rw[e] at hc;cases hc
def Sk (l:List Int):Prop:=∀ T,unq 0 (l++T)=(unq 0 T).map (· +l.length)
theorem omap {o:Option Nat}{a b c:Nat}(h:a+b=c):(o.map (· +a)).map (· +b)=o.map (· +c):=by
 cases o with
 | none=>rfl
 | some x=>simp;omega
theorem a1A:Sk []:=fun T=>by cases h:unq 0 T <;> simp[h]
theorem arU {a b:List Int}(ha:Sk a)(hb:Sk b):Sk (a++b):=fun T=>by
 rw[List.append_assoc,ha,hb,List.length_append];exact omap (by omega)
theorem axF {c:Int}(h1:c≠34)(h2:c≠39)(h3:c≠62):Sk [c]:=fun T=>by
 show unq 0 (c :: T)=_;rw[unq,if_neg (by decide),if_neg (by omega),if_neg h3];rfl
theorem ahR:∀ l:List Int,(∀ c∈l,c≠34∧c≠39∧c≠62)→Sk l
 | [],_=>a1A
 | c :: l,h=>by
   obtain⟨h1,h2,h3⟩:=h c List.mem_cons_self;exact arU (axF h1 h2 h3) (ahR l fun x hx=>h x (List.mem_cons_of_mem _ hx))
theorem axQ:∀ (l T:List Int),(34:Int) ∉ l→unq 34 (l++34 :: T)=(unq 0 T).map (· +(l.length+1))
 | [],T,_=>by
   rw[List.nil_append,unq,if_pos (by decide),if_pos rfl];rfl
 | c :: l,T,h=>by
   have hc:c≠34:=fun e=>h (by rw[e];exact List.mem_cons_self);rw[List.cons_append,unq,if_pos (by decide),if_neg hc,axQ l T (fun e=>h (List.mem_cons_of_mem _ e)),List.length_cons];exact omap (by omega)
theorem a2n {l:List Int}(h:(34:Int) ∉ l):Sk (34 :: (l++[34])):=fun T=>by
 rw[List.cons_append,List.append_assoc,unq,if_neg (by decide),if_pos (.inl rfl),List.singleton_append,axQ l T h];rw[omap (c:=(34 :: (l++[34])).length) (by simp)]
theorem a0b {A:ByteArray}(h:Tg.isN A=true):Sk (aad A):=ahR _ fun c hc=>by
 refine⟨?_,?_,?_⟩ <;> rintro rfl
 · exact agR h (c:=34) (by decide) (by decide) (by decide) hc
 · exact agR h (c:=39) (by decide) (by decide) (by decide) hc
 · exact agR h (c:=62) (by decide) (by decide) (by decide) hc
def Rn (l:List Int):Prop:=NN l∧Rt l
theorem a1t {a b:List Int}(ha:NN a)(hb:NN b):NN (a++b):=fun x hx=>(List.mem_append.1 hx).elim (ha x) (hb x)
theorem afa {a b:List Int}(ha:Rn a)(hb:Rn b):Rn (a++b):=⟨a1t ha.1 hb.1,Wl.awZ ha.1 hb.1 ha.2 hb.2⟩
theorem axR:Rn []:=⟨fun x h=>absurd h List.not_mem_nil,rfl,fun r hr=>by simp[ade] at hr⟩
theorem abq:∀ l:List Int,(l.all fun c=>decide (32≤c∧c < 128))=true→Rn l
 | [],_=>axR
 | c :: l,h=>by
   rw[List.all_cons,Bool.and_eq_true] at h;obtain⟨h0,h1⟩:=of_decide_eq_true h.1;obtain⟨i1,i2⟩:=abq l h.2;refine⟨fun x hx=>(List.mem_cons.1 hx).elim (fun e=>by rw[e];omega) (i1 x),?_⟩;unfold Rt at *;rw[amK c l (by omega) h1 i1];refine⟨i2.1,fun r hr=>(List.mem_cons.1 hr).elim (fun e=> ?_) (i2.2 r)⟩;rw[e];unfold Chr Btw;omega
theorem agD {s:ByteArray}(h:Rt (aad s)):Rn (aad s):=⟨abn s,h⟩
theorem axd {r:Int}(h:Chr r):Rn (aat r):=by
 have:=Wl.aox [r] (fun x hx=>by rw[List.mem_singleton.1 hx];exact h);simp only[List.flatMap_cons,List.flatMap_nil,List.append_nil] at this;exact⟨this.2,this.1⟩
theorem a1c (v:Bool){r:Int}(h:Chr r):Rn (aaO v (aat r)):=by
 have hb:=acv h;by_cases h1:128≤r
 · rw[ahB v r hb h1];exact axd h
 · have h0:0≤r:=by unfold Chr Btw at h;omega
   have e1:aat r=[r]:=enc1 (by omega);have hx:=axd h;rw[e1] at hx ⊢;have:aaO v [r]=agZ v r:=(by simp[aaO]);rw[this];unfold agZ;split
   · exact abq _ (by decide)
   split
   · exact abq _ (by decide)
   split
   · exact abq _ (by decide)
   split
   · exact abq _ (by decide)
   split
   · exact abq _ (by decide)
   split
   · exact abq _ (by decide)
   split
   · exact abq _ (by decide)
   · exact hx
theorem ape (v:Bool):∀ rs:List Int,(∀ r∈rs,Chr r)→Rn (aaO v (rs.flatMap aat))
 | [],_=>axR
 | r :: rs,h=>by
   rw[List.flatMap_cons,aaO,List.flatMap_append];exact afa (a1c v (h r List.mem_cons_self)) (ape v rs fun x hx=>h x (List.mem_cons_of_mem _ hx))
theorem axt (v:Bool){s:ByteArray}(h:Rt (aad s)):Rn (aaO v (aad s)):=by
 obtain⟨e,hc⟩:=adO (abn s) h;rw[e];exact ape v _ hc
theorem aiI {l:List Int}(h:Rn l):abh l=0:=by
 unfold abh;rw[if_neg (by rw[h.2.1];decide),if_pos h.2.2]
theorem ayA (v:Bool)(c x:Int)(hx:x=60∨x=62):x ∉ agZ v c:=by
 unfold agZ;intro h
 repeat' split at h
 all_goals simp at h
 all_goals omega
theorem amP (v:Bool)(l:List Int){x:Int}(hx:x=60∨x=62):x ∉ aaO v l:=by
 intro h;unfold aaO at h;obtain⟨c,_,hc⟩:=List.mem_flatMap.1 h;exact ayA v c x hx hc
theorem ayd (v:Bool)(c:Int):agZ v c≠[]:=by
 unfold agZ
 repeat' split
 all_goals simp
theorem asQ (v:Bool){l:List Int}(h:l≠[]):aaO v l≠[]:=by
 cases l with
 | nil=>exact absurd rfl h
 | cons c l=>
   unfold aaO;rw[List.flatMap_cons];intro e;exact ayd v c (List.append_eq_nil_iff.1 e).1
theorem axc (c:Int)(a t:List Int)(h:c ∉ a):fnd [c] (a++c :: t)=some a.length:=by
 refine axV (by simp) ((occ_one c _ _ (by simp)).2 ?_) fun j hj hO=> ?_
 · rw[List.getD_eq_getElem?_getD,List.getElem?_append_right (Nat.le_refl _),Nat.sub_self];rfl
 · have:=(occ_one c _ _ (by simp;omega)).1 hO;rw[List.getD_eq_getElem?_getD,List.getElem?_append_left hj,List.getElem?_eq_getElem hj] at this;apply h;have this:a[j]=c:=this;rw[← this];exact List.getElem_mem _
theorem azP {m l:List Int}{c:Int}(hm:c∈m)(hc:c ∉ l):fnd m l=none:=by
 cases h:fnd m l with
 | none=>rfl
 | some n=>
   exfalso;have h1:=amY h;rw[← h1] at hm;exact hc (List.mem_of_mem_drop (List.mem_of_mem_take hm))
theorem aye {a t:List Int}(ha:a≠[]):(a++t).getD 0 0∈a:=by
 cases a with
 | nil=>exact absurd rfl ha
 | cons c r=>exact List.mem_cons_self
theorem avg (z:Bool)(s:ByteArray)(hs:aad s≠[])(hR:Rt (aad s))(t:List Int):∃ b,aaT z false (aaO false (aad s)++60 :: t)=(⟨3,aad s,false,b⟩,(aaO false (aad s)).length,0):=by
 have hne:=asQ false hs;refine⟨(aaO false (aad s)).all aaZ,?_⟩;unfold aaT;rw[if_neg (by simp),if_neg (fun e=>amP false (aad s) (x:=60) (.inl rfl) (by rw[← e];exact aye hne))];unfold afx;rw[axc 60 _ t (amP false (aad s) (.inl rfl))];show ach _ _=_;unfold ach;rw[List.take_left' rfl,aiI (axt false hR),if_neg (by decide),azP (c:=62) (by decide) (amP false (aad s) (.inr rfl)),if_neg (by decide),apH (axj false (aad s) (abn s) hR),if_neg (fun h=>h rfl)]
theorem adM (z:Bool)(l:List Int):aaT z false (60 :: l)=adU z (60 :: l):=by
 unfold aaT;rw[if_neg (List.cons_ne_nil _ _),if_pos (show (60 :: l).getD 0 0=60 from rfl)]
theorem adC {a c:Int}{m l:List Int}(h:a≠c):(60 :: a :: m:List Int).isPrefixOf (60 :: c :: l)=false:=by
 have:(a == c)=false:=by rw[beq_eq_false_iff_ne];exact h
 simp[List.isPrefixOf,this]
theorem a0K (z:Bool)(nm:ByteArray)(hN:Tg.isN nm=true)(hR:Rt (aad nm))(t:List Int):aaT z false ([60,47]++aad nm++[62]++t)=(⟨2,aad nm,false,false⟩,nm.size+3,0):=by
 have e:[60,47]++aad nm++[62]++t=60 :: 47 :: (aad nm++62 :: t):=(by simp);rw[e,adM];unfold adU
 rw[if_neg (by rw[show aaw=60 :: 33 :: [91,67,68,65,84,65,91] from rfl,adC (by decide)];decide),if_neg (by rw[show abe=60 :: 33 :: [45,45] from rfl,adC (by decide)];decide),
  if_neg (by rw[show acA=60 :: 63 :: [] from rfl,adC (by decide)];decide),if_pos (by simp[ajh,List.isPrefixOf])]
 unfold span;rw[show List.drop 2 (60 :: 47 :: (aad nm++62 :: t))=aad nm++62 :: t from rfl,show a2b=[62] from rfl,axc 62 _ t (agR hN (c:=62) (by decide) (by decide) (by decide))];show fin 2 _ 1 akg _=_;unfold fin
 have e1:(aad nm++62 :: t).take ((aad nm).length+1)=aad nm++[62]:=by
  rw[List.take_append,List.take_of_length_le (by omega)];simp
 rw[e1,aiI (afa (agD hR) (abq [62] (by decide))),if_neg (by decide),List.take_left' rfl]
 have e2:aeW (aad nm)=aad nm:=by
  unfold aeW
  cases hr:(aad nm).reverse with
  | nil=>exact absurd (List.reverse_eq_nil_iff.1 hr) (a4l hN)
  | cons c r=>
    have hc:c∈aad nm:=by
     have:c∈(aad nm).reverse:=by rw[hr];exact List.mem_cons_self
     exact List.mem_reverse.1 this
    have hb:aaZ c=false:=by
     cases hq:aaZ c with
     | false=>rfl
     | true=>
       exfalso;have hbl:Blank c:=of_decide_eq_true hq;have h128:c < 128:=by unfold Blank at hbl;omega
       have h58:c≠58:=by unfold Blank at hbl;omega
       exact agR hN h128 h58 (ahr hbl) hc
    rw[List.dropWhile_cons_of_neg (by rw[hb];decide),← hr,List.reverse_reverse]
 have e3:akg (aad nm)=(⟨2,aad nm,false,false⟩,0):=by
  unfold akg;rw[e2,show nmB (aad nm)=true by unfold nmB;rw[← aas rfl];exact hN,if_neg (by decide)]
 rw[e3,if_neg (fun h=>h rfl),aae];show (_,2+(nm.size+1),_)=_;rw[show 2+(nm.size+1)=nm.size+3 by omega]
theorem avB {a b:List Int}{c:Int}(ha:a.getLast?≠some c)(hb:b.getLast?≠some c):(a++b).getLast?≠some c:=by
 rw[List.getLast?_append]
 cases h:b.getLast? with
 | none=>simpa using ha
 | some x=>rw[h] at hb;simpa using hb
theorem amC {a:List Int}{c:Int}(h:c ∉ a):a.getLast?≠some c:=fun e=>h (List.mem_of_getLast? e)
structure ato (l:List Int):Prop where
 sk:Sk l
 rn:Rn l
 no:(60:Int) ∉ l
 la:l.getLast?≠some 47
theorem ato.app {a b:List Int}(ha:ato a)(hb:ato b):ato (a++b):=⟨arU ha.sk hb.sk,afa ha.rn hb.rn,fun h=>(List.mem_append.1 h).elim ha.no hb.no,avB ha.la hb.la⟩
theorem aqL (l:List Int)(h:(l.all fun c=>decide (32≤c∧c < 128) && decide (c≠34∧c≠39∧c≠62) && decide (c≠60∧c≠47))=true):ato l:=by
 have h':=List.all_eq_true.1 h
 have hh:∀ c∈l,(32≤c∧c < 128)∧(c≠34∧c≠39∧c≠62)∧(c≠60∧c≠47):=fun c hc=>by
  have:=h' c hc;rw[Bool.and_eq_true,Bool.and_eq_true] at this;exact⟨of_decide_eq_true this.1.1,of_decide_eq_true this.1.2,of_decide_eq_true this.2⟩
 exact⟨ahR l fun c hc=>(hh c hc).2.1,abq l (List.all_eq_true.2 fun c hc=>decide_eq_true (hh c hc).1),fun hc=>(hh 60 hc).2.2.1 rfl,amC fun hc=>(hh 47 hc).2.2.2 rfl⟩
theorem aqE {A:ByteArray}(h:Tg.isN A=true)(hR:Rt (aad A)):ato (aad A):=⟨a0b h,agD hR,agR h (by decide) (by decide) (by decide),amC (agR h (by decide) (by decide) (by decide))⟩
theorem a2d {s:ByteArray}(h:Rt (aad s)):ato (34 :: (aaO true (aad s)++[34])):=by
 refine⟨a2n (Tg.anv _),?_,?_,?_⟩
 · exact afa (a:=[34]) (abq _ (by decide)) (afa (axt true h) (abq [34] (by decide)))
 · intro hc;rcases List.mem_cons.1 hc with hc | hc
   · exact absurd hc (by decide)
   rcases List.mem_append.1 hc with hc | hc
   · exact amP true _ (.inl rfl) hc
   · exact absurd hc (by decide)
 · rw[show (34 :: (aaO true (aad s)++[34]):List Int)=(34 :: aaO true (aad s))++[34] by simp,List.getLast?_append];simp
theorem a5w {x:ByteArray × ByteArray}(h:Tg.isN x.1=true)(h1:Rt (aad x.1))(h2:Rt (aad x.2)):ato (Tg.atT [32] [] [] x):=by
 have e:Tg.atT [32] [] [] x=[32]++aad x.1++[61]++(34 :: (aaO true (aad x.2)++[34])):=(by simp[Tg.atT]);rw[e];exact(((aqL [32] (by decide)).app (aqE h h1)).app (aqL [61] (by decide))).app (a2d h2)
theorem axJ:∀ l:List (ByteArray × ByteArray),(∀ x∈l,Tg.isN x.1=true∧Rt (aad x.1)∧Rt (aad x.2))→ato (l.flatMap (Tg.atT [32] [] []))
 | [],_=>aqL [] rfl
 | x :: l,h=>by
   rw[List.flatMap_cons];obtain⟨h1,h2,h3⟩:=h x List.mem_cons_self;exact(a5w h1 h2 h3).app (axJ l fun y hy=>h y (List.mem_cons_of_mem _ hy))
theorem a4r {nm:ByteArray}{l:List (ByteArray × ByteArray)}(hN:Tg.isN nm=true)(hR:Rt (aad nm))(h:∀ x∈l,Tg.isN x.1=true∧Rt (aad x.1)∧Rt (aad x.2)):ato (Tg.txF [32] [] [] [] nm l):=by
 unfold Tg.txF;rw[List.append_nil];exact(aqE hN hR).app (axJ l h)
def agV (emp:Bool):List Int:=if emp=true then [47,62] else [62]
theorem arN (z emp:Bool){nm:ByteArray}{l:List (ByteArray × ByteArray)}(hN:Tg.isN nm=true)(hR:Rt (aad nm))(h:∀ x∈l,Tg.isN x.1=true∧Rt (aad x.1)∧Rt (aad x.2))(T:List Int):
 aaT z false (60 :: (Tg.txF [32] [] [] [] nm l++agV emp++T))=(⟨1,Tg.txF [32] [] [] [] nm l,emp,false⟩,(60 :: (Tg.txF [32] [] [] [] nm l++agV emp)).length,0):=by
 have hX:=a4r hN hR h
 have hh:∃ c r,Tg.txF [32] [] [] [] nm l=c :: r∧c∈aad nm:=by
  unfold Tg.txF
  cases hb:aad nm with
  | nil=>exact absurd hb (a4l hN)
  | cons c r=>exact⟨c,_,rfl,List.mem_cons_self⟩
 generalize Tg.txF [32] [] [] [] nm l=X at *;obtain⟨c,r,rfl,hc⟩:=hh;have n33:(33:Int)≠c:=fun e=>agR hN (c:=33) (by decide) (by decide) (by decide) (e ▸ hc);have n63:(63:Int)≠c:=fun e=>agR hN (c:=63) (by decide) (by decide) (by decide) (e ▸ hc);have n47:(47:Int)≠c:=fun e=>agR hN (c:=47) (by decide) (by decide) (by decide) (e ▸ hc);rw[adM]
 have hm:adU z (60 :: (c :: r++agV emp++T))=adW (60 :: (c :: r++agV emp++T)):=by
  unfold adU
  rw[List.cons_append,List.cons_append,if_neg (by rw[show aaw=60 :: 33 :: [91,67,68,65,84,65,91] from rfl,adC n33];decide),if_neg (by rw[show abe=60 :: 33 :: [45,45] from rfl,adC n33];decide),
   if_neg (by rw[show acA=60 :: 63 :: [] from rfl,adC n63];decide),if_neg (by rw[show ajh=60 :: 47 :: [] from rfl,adC n47];decide),if_neg (by rw[show aci=60 :: 33 :: [] from rfl,adC n33];decide)]
 rw[hm];generalize c :: r=X at *
 obtain⟨Y,hY,hYs,hYr,hYn,hYl⟩:∃ Y,X++agV emp=Y++[62]∧Sk Y∧Rn Y∧abk Y=(⟨1,X,emp,false⟩,0)∧True:=by
  cases emp with
  | false=>
    refine⟨X,rfl,hX.sk,hX.rn,?_,trivial⟩;unfold abk;rw[if_neg hX.no,if_neg hX.la]
  | true=>
    refine⟨X++[47],by simp[agV],arU hX.sk (axF (by decide) (by decide) (by decide)),afa hX.rn (abq [47] (by decide)),?_,trivial⟩;unfold abk;rw[if_neg (fun e=>(List.mem_append.1 e).elim hX.no (by decide)),if_pos (by simp),List.dropLast_concat]
 rw[hY];unfold adW;rw[show List.drop 1 (60 :: (Y++[62]++T))=Y++62 :: T by simp,hYs (62 :: T),show unq 0 (62 :: T)=some 0 by rw[unq,if_neg (by decide),if_neg (by decide),if_pos rfl],Option.map_some,Nat.zero_add];show fin 1 _ 1 abk _=_;unfold fin
 have e1:(Y++62 :: T).take (Y.length+1)=Y++[62]:=by
  rw[List.take_append,List.take_of_length_le (by omega)];simp
 rw[e1,aiI (afa hYr (abq [62] (by decide))),if_neg (by decide),List.take_left' rfl,hYn,if_neg (fun h=>h rfl)];show (_,1+(Y.length+1),_)=_;rw[show (60 :: (Y++[62])).length=1+(Y.length+1) by simp;omega]
end Go.Proofs.YtiaebhomfebagaaGreatDoor.Bk
namespace Go.Proofs.YtiaebhomfebagaaGreatDoor.Bk
open Go.RowKit
def plb (s:ByteArray):Bool:=Nz.pl (Nz.bl s)
theorem atS (s:ByteArray):Nz.bl s=(aad s).map Int.toNat:=by
 rw[Tg.acN,List.map_map];have:(Int.toNat ∘ fun n:Nat=>(n:Int))=id:=by funext n;simp
 rw[this,List.map_id]
theorem aem {p lo s:ByteArray}(hp:plb p=true)(hl:plb lo=true)(hs:aad s=aad p++58 :: aad lo):Nz.aak s=(p,lo,true):=by
 have hz:s.size=p.size+(lo.size+1):=by rw[← aae,hs,List.length_append,List.length_cons,aae,aae]
 have hb:Nz.bl s=Nz.bl p++58 :: Nz.bl lo:=by
  rw[atS,hs,List.map_append,List.map_cons,← atS,← atS];rfl
 have ht:(Nz.bl s).take p.size=Nz.bl p:=by rw[hb,List.take_left' (Nz.aau p)]
 have hd:(Nz.bl s).drop (p.size+1)=Nz.bl lo:=by
  rw[hb,← List.drop_drop,List.drop_left' (Nz.aau p)];rfl
 have hit:Nz.Hit s p.size:=by
  refine⟨by omega,?_,by rw[ht];exact hp,by rw[hd];exact hl⟩;rw[hb,List.getD_eq_getElem?_getD,List.getElem?_append_right (by rw[Nz.aau];exact Nat.le_refl _),Nz.aau,Nat.sub_self];rfl
 rw[Nz.aji hit];have e1:s.extract 0 p.size=p:=aaW (by rw[abV,hs,List.take_left' (aae p)])
 have e2:s.extract (p.size+1) s.size=lo:=aaW (by
  rw[abD,hs,← List.drop_drop,List.drop_left' (aae p)];rfl)
 rw[e1,e2]
theorem ado {lo:ByteArray}(hl:plb lo=true):Nz.aak lo=(Nz.em,lo,true):=Nz.agk hl
def nJ (j:Nat):ByteArray:=strOfNums (110 :: Ev.dgB j)
def nL (j:Nat):List Int:=if j < 10 then [110,48+(j:Int)] else [110,49,38+(j:Int)]
theorem ajm {j:Nat}(h:j < 16):110 :: Ev.dgB j=nL j:=by
 unfold nL;by_cases h1:j < 10
 · rw[if_pos h1,Ev.abl h1]
 · rw[if_neg h1,Ev.akG h1,Ev.abl (show j / 10 < 10 by omega),Ev.abl (show j % 10 < 10 by omega)];have e1:j / 10=1:=(by omega);have e2:j % 10=j - 10:=(by omega);rw[e1,e2];simp;omega
theorem aft (j:Nat):aad (nJ j)=110 :: Ev.dgB j:=Ev.abX (Byt.app (l:=[110]) (Ev.aiV (by decide)) (Ev.ajA j))
theorem a4q {j:Nat}(h:j < 16):plb (nJ j)=true:=by
 unfold plb;rw[atS,aft,ajm h];have:∀ i:Fin 16,Nz.pl ((nL i.val).map Int.toNat)=true:=(by decide+kernel);exact this ⟨j,h⟩
theorem a3E:∀ i j:Fin 16,nL i.val=nL j.val→i=j:=by decide+kernel
theorem aoV {i j:Nat}(hi:i < 16)(hj:j < 16)(h:nJ i=nJ j):i=j:=by
 have:=congrArg aad h;rw[aft,aft,ajm hi,ajm hj] at this;exact congrArg Fin.val (a3E ⟨i,hi⟩ ⟨j,hj⟩ this)
theorem akm (j:Nat):(aad (nJ j)).getD 0 0=110:=by rw[aft];rfl
theorem aiO (j:Nat):nJ j≠Nz.Sc.xn:=fun e=>by
 have:=akm j;rw[e] at this
 revert this
 decide+kernel
theorem afO (j:Nat):nJ j≠Nz.Sc.xm:=fun e=>by
 have:=akm j;rw[e] at this
 revert this
 decide+kernel
theorem amh (j:Nat):nJ j≠Nz.em:=fun e=>by
 have:=akm j;rw[e] at this
 revert this
 decide+kernel
theorem avF:plb Nz.Sc.xn=true:=by unfold plb;decide+kernel
theorem a2e:plb Nz.Sc.xm=true:=by unfold plb;decide+kernel
theorem asA:aad Nz.Sc.xn=[120,109,108,110,115]:=by decide+kernel
theorem apm:aad Nz.Sc.xm=[120,109,108]:=by decide+kernel
def xnJ (j:Nat):ByteArray:=strOfNums (Ev.xnB j)
theorem a1z (j:Nat):Byt (Ev.xnB j):=Byt.app (l:=[120,109,108,110,115,58,110]) (Ev.aiV (by decide)) (Ev.ajA j)
theorem air (j:Nat):aad (xnJ j)=Ev.xnB j:=Ev.abX (a1z j)
theorem adu {j:Nat}(h:j < 16):Nz.aak (xnJ j)=(Nz.Sc.xn,nJ j,true):=by
 refine aem avF (a4q h) ?_;rw[air,asA,aft];rfl
def elN (sp lo:ByteArray):ByteArray:=strOfNums (Ev.nmB sp lo)
theorem acO (sp lo:ByteArray):aad (elN sp lo)=Ev.nmB sp lo:=Ev.abX (Ev.arl sp lo)
theorem akc {sp lo:ByteArray}(h:plb lo=true):Nz.aak (elN sp lo)=(if sp=Ev.adk then Nz.Sc.xm else Nz.em,lo,true):=by
 by_cases e:sp=Ev.adk
 · rw[if_pos e];refine aem a2e h ?_;rw[acO,apm];unfold Ev.nmB Ev.xpB;rw[if_pos e];rfl
 · rw[if_neg e];have:elN sp lo=lo:=aaW (by rw[acO];unfold Ev.nmB;rw[if_neg e]);rw[this];exact ado h
def pfx (sp:List ByteArray)(s:ByteArray):ByteArray:=if s=Ev.emB then Nz.em else if s=Ev.adk then Nz.Sc.xm else nJ (Ev.ixS sp s)
def atN (sp:List ByteArray)(a:Ev.P3):ByteArray:=strOfNums (Ev.aNm sp a)
theorem a1L (sp:List ByteArray)(a:Ev.P3):Byt (Ev.aNm sp a):=by
 unfold Ev.aNm Ev.xpB;split
 · exact Byt.aad _
 split
 · exact Byt.app (Ev.aiV (by decide)) (Byt.aad _)
 · exact Byt.app (Byt.app (Byt.app (Ev.aiV (by decide)) (Ev.ajA _)) (Ev.aiV (by decide))) (Byt.aad _)
theorem aer (sp:List ByteArray)(a:Ev.P3):aad (atN sp a)=Ev.aNm sp a:=Ev.abX (a1L sp a)
theorem adw {sp:List ByteArray}{a:Ev.P3}(hl:plb a.1.2=true)(hs:Ev.ixS sp a.1.1 < 16):Nz.aak (atN sp a)=(pfx sp a.1.1,a.1.2,true):=by
 unfold pfx;by_cases e:a.1.1=Ev.emB
 · rw[if_pos e];have:atN sp a=a.1.2:=aaW (by rw[aer];unfold Ev.aNm;rw[if_pos e]);rw[this];exact ado hl
 rw[if_neg e];by_cases e2:a.1.1=Ev.adk
 · rw[if_pos e2];refine aem a2e hl ?_;rw[aer,apm];unfold Ev.aNm Ev.xpB;rw[if_neg e,if_pos e2];rfl
 · rw[if_neg e2];refine aem (a4q hs) hl ?_;rw[aer,aft];unfold Ev.aNm;rw[if_neg e,if_neg e2];simp
def b0 (sp d:ByteArray):List Nz.Sc.P2:=if sp≠Ev.adk∧sp≠d then [(Nz.Sc.xn,sp)] else []
def bL:Nat→List ByteArray→List Nz.Sc.P2
 | _,[]=>[]
 | j,s :: r=>(xnJ j,s) :: bL (j+1) r
def aL (sp:List ByteArray)(ats:List Ev.P3):List Nz.Sc.P2:=ats.map fun a=>(atN sp a,a.2)
def ahy (sp d:ByteArray)(ats:List Ev.P3):List Nz.Sc.P2:=b0 sp d++bL 0 (Ev.spL ats)++aL (Ev.spL ats) ats
theorem azR {n:List Int}{A v:ByteArray}(h:aad A=n):Ev.prB n v=Tg.atT [32] [] [] (A,v):=by
 unfold Ev.prB Tg.atT;rw[h];simp
theorem a3a:∀ (l:List ByteArray) (j:Nat),Ev.bdB j l=(bL j l).flatMap (Tg.atT [32] [] [])
 | [],j=>rfl
 | s :: l,j=>by rw[Ev.bdB,bL,List.flatMap_cons,a3a l (j+1),azR (air j)]
theorem a3Z (sp:List ByteArray):∀ ats:List Ev.P3,Ev.asB sp ats=(aL sp ats).flatMap (Tg.atT [32] [] [])
 | []=>rfl
 | a :: l=>by
   unfold aL;rw[Ev.asB,List.map_cons,List.flatMap_cons,a3Z sp l,Ev.aB,azR (aer sp a)];rfl
theorem azE (sp lo d:ByteArray)(ats:List Ev.P3):Ev.hdB sp lo d ats=60 :: Tg.txF [32] [] [] [] (elN sp lo) (ahy sp d ats):=by
 unfold Ev.hdB Tg.txF ahy b0;rw[acO,List.flatMap_append,List.flatMap_append,← a3a,← a3Z,List.append_nil];by_cases h:sp≠Ev.adk∧sp≠d
 · rw[if_pos h,if_pos h,azR (n:=aad Ev.ahP) (A:=Nz.Sc.xn) rfl];simp
 · rw[if_neg h,if_neg h];simp
end Go.Proofs.YtiaebhomfebagaaGreatDoor.Bk
namespace Go.Proofs.YtiaebhomfebagaaGreatDoor.Bk
open Go.RowKit
theorem ahX:Nz.Sc.xm≠Nz.Sc.xn:=fun h=>absurd (congrArg ByteArray.size h) (by decide)
theorem aeN:Nz.em≠Nz.Sc.xn:=fun h=>absurd (congrArg ByteArray.size h) (by decide)
theorem afN:Nz.em≠Nz.Sc.xm:=fun h=>absurd (congrArg ByteArray.size h) (by decide)
theorem aeu {x y:ByteArray}(h:x≠y):Nz.Sc.eqb x y=false:=by
 cases e:Nz.Sc.eqb x y with
 | false=>rfl
 | true=>exact absurd (Nz.Sc.ada.1 e) h
structure aeH (sp lo:ByteArray)(ats:List Ev.P3):Prop where
 pl:plb lo=true
 rl:Rt (aad lo)
 rs:Rt (aad sp)
 ns:sp≠Nz.Sc.XN
 at_:∀ x∈ats,plb x.1.2=true∧Rt (aad x.1.2)∧Rt (aad x.1.1)∧x.1.1≠Nz.Sc.XN∧Rt (aad x.2)
 nd:ats.Pairwise fun a b=>a.1≠b.1
 nx:∀ x∈ats,¬ (x.1.1=Ev.emB∧x.1.2=Ev.ahP)
 cnt:ats.length≤15
section
variable {sp lo d:ByteArray} {ats:List Ev.P3}
theorem aeH.ix (h:aeH sp lo ats)(s:ByteArray):Ev.ixS (Ev.spL ats) s < 16:=by
 have h1:=Ev.amO (Ev.spL ats) s;have h2:=Ev.adt ats;have h3:=h.cnt;omega
theorem asf:Nz.Sc.aeR Nz.Sc.xn=some Nz.em:=by
 unfold Nz.Sc.aeR;rw[ado avF,if_neg (by rw[aeu aeN];decide),if_pos ⟨Nz.Sc.abC _,Nz.Sc.abC _⟩]
theorem a0W {j:Nat}(h:j < 16):Nz.Sc.aeR (xnJ j)=some (nJ j):=by
 unfold Nz.Sc.aeR;rw[adu h,if_pos (Nz.Sc.abC _)]
theorem a3r (S:List ByteArray)(s:ByteArray):pfx S s≠Nz.Sc.xn:=by
 unfold pfx;split
 · exact aeN
 split
 · exact ahX
 · exact aiO _
theorem amr {S:List ByteArray}{s:ByteArray}(h:pfx S s=Nz.em):s=Ev.emB:=by
 unfold pfx at h;split at h
 · assumption
 split at h
 · exact absurd h.symm afN
 · exact absurd h (amh _)
theorem aqs (h:aeH sp lo ats){a:Ev.P3}(ha:a∈ats):Nz.Sc.aeR (atN (Ev.spL ats) a)=none:=by
 unfold Nz.Sc.aeR;rw[adw (h.at_ a ha).1 (h.ix _),if_neg (by rw[aeu (a3r _ _)];decide),if_neg];rintro ⟨h1,h2⟩;exact h.nx a ha ⟨amr (Nz.Sc.ada.1 h1),Nz.Sc.ada.1 h2⟩
def c0 (sp d:ByteArray):List Nz.Sc.P2:=if sp≠Ev.adk∧sp≠d then [(Nz.em,sp)] else []
def cL:Nat→List ByteArray→List Nz.Sc.P2
 | _,[]=>[]
 | j,s :: r=>(nJ j,s) :: cL (j+1) r
def scW (l:List Nz.Sc.P2)(sp d:ByteArray)(ats:List Ev.P3):List Nz.Sc.P2:=l++c0 sp d++cL 0 (Ev.spL ats)
theorem afU:∀ (r1 r2 l:List Nz.Sc.P2),Nz.Sc.aaM l (r1++r2)=(Nz.Sc.aaM l r1).bind fun W=>Nz.Sc.aaM W r2
 | [],r2,l=>rfl
 | a :: r,r2,l=>by
   rw[List.cons_append,Nz.Sc.aaM,Nz.Sc.aaM]
   cases Nz.Sc.aeR a.1 with
   | none=>exact afU r r2 l
   | some p=>
     dsimp only;by_cases c:Nz.Sc.okB p a.2=true
     · rw[if_pos c,if_pos c];exact afU r r2 _
     · rw[if_neg c,if_neg c];rfl
theorem bind_none:∀ (r l:List Nz.Sc.P2),(∀ a∈r,Nz.Sc.aeR a.1=none)→Nz.Sc.aaM l r=some l
 | [],l,_=>rfl
 | a :: r,l,h=>by
   rw[Nz.Sc.aaM,h a List.mem_cons_self];exact bind_none r l fun x hx=>h x (List.mem_cons_of_mem _ hx)
theorem amF {l:List Nz.Sc.P2}{n s p:ByteArray}(h:Nz.Sc.aeR n=some p)(h1:p≠Nz.Sc.xn)(h2:s≠Nz.Sc.XN)(h3:p≠Nz.Sc.xm)(h4:s≠Nz.Sc.XS)(h5:p=Nz.em∨s≠Nz.em)(r:List Nz.Sc.P2):Nz.Sc.aaM l ((n,s) :: r)=Nz.Sc.aaM (l++[(p,s)]) r:=by
 rw[Nz.Sc.aaM,h];dsimp only;rw[if_pos];unfold Nz.Sc.okB;rw[aeu h1,aeu h2,aeu h3,aeu h4];rcases h5 with h5 | h5
 · rw[h5,Nz.Sc.abC];rfl
 · rw[aeu h5];simp
theorem azq (h:aeH sp lo ats)(l:List Nz.Sc.P2):Nz.Sc.aaM l (b0 sp d)=some (l++c0 sp d):=by
 unfold b0 c0;by_cases c:sp≠Ev.adk∧sp≠d
 · rw[if_pos c,if_pos c,amF asf aeN h.ns afN c.1 (.inl rfl)];rfl
 · rw[if_neg c,if_neg c,List.append_nil];rfl
theorem aqt:∀ (L:List ByteArray) (j:Nat) (l:List Nz.Sc.P2),j+L.length≤16→(∀ s∈L,s≠Nz.em∧s≠Nz.Sc.XS∧s≠Nz.Sc.XN)→Nz.Sc.aaM l (bL j L)=some (l++cL j L)
 | [],j,l,_,_=>by rw[bL,cL,List.append_nil];rfl
 | s :: r,j,l,hj,h=>by
   rw[List.length_cons] at hj;obtain⟨h1,h2,h3⟩:=h s List.mem_cons_self;rw[bL,amF (a0W (by omega)) (aiO j) h3 (afO j) h2 (.inr h1),aqt r (j+1) _ (by omega) fun x hx=>h x (List.mem_cons_of_mem _ hx),cL,List.append_assoc];rfl
theorem a3O (h:aeH sp lo ats):∀ s∈Ev.spL ats,s≠Nz.em∧s≠Nz.Sc.XS∧s≠Nz.Sc.XN:=fun s hs=>by
 obtain⟨h1,x,hx,e⟩:=Ev.adv.1 hs;obtain⟨h2,h3⟩:=Ev.agN.1 h1;exact⟨h2,h3,by rw[← e];exact(h.at_ x hx).2.2.2.1⟩
theorem ahs (h:aeH sp lo ats):(Ev.spL ats).length≤15:=Nat.le_trans (Ev.adt ats) h.cnt
theorem atw (h:aeH sp lo ats)(l:List Nz.Sc.P2):Nz.Sc.aaM l (ahy sp d ats)=some (scW l sp d ats):=by
 have h15:=ahs h;unfold ahy scW;rw[afU,afU,azq h];show ((Nz.Sc.aaM _ (bL 0 _)).bind _)=_;rw[aqt _ 0 _ (by omega) (a3O h)];show Nz.Sc.aaM _ (aL _ _)=_;refine bind_none _ _ fun a ha=> ?_;obtain⟨x,hx,rfl⟩:=List.mem_map.1 ha;exact aqs h hx
theorem afH (l:List Nz.Sc.P2)(p:ByteArray):∀ (m:List Nz.Sc.P2),(∀ x∈m,x.1≠p)→Nz.Sc.acn (l++m) p=Nz.Sc.acn l p:=by
 intro m h;unfold Nz.Sc.acn;rw[List.foldl_append];generalize List.foldl _ _ l=z
 induction m generalizing z with
 | nil=>rfl
 | cons a m ih=>
   rw[List.foldl_cons,if_neg (by rw[aeu (h a List.mem_cons_self)];decide)];exact ih (fun x hx=>h x (List.mem_cons_of_mem _ hx)) z
theorem amH:∀ (L:List ByteArray) (j:Nat),∀ x∈cL j L,∃ i,j≤i∧i < j+L.length∧x.1=nJ i
 | [],j,x,hx=>by cases hx
 | s :: r,j,x,hx=>by
   rcases List.mem_cons.1 hx with rfl | hx
   · exact⟨j,Nat.le_refl _,by simp,rfl⟩
   · obtain⟨i,h1,h2,h3⟩:=amH r (j+1) x hx;exact⟨i,by omega,by simp;omega,h3⟩
theorem axG {s:ByteArray}:∀ (L:List ByteArray) (j:Nat) (l:List Nz.Sc.P2),s∈L→j+L.length≤16→Nz.Sc.acn (l++cL j L) (nJ (j+Ev.ixS L s))=(s,true)
 | [],j,l,h,_=>by cases h
 | a :: r,j,l,h,hj=>by
   rw[List.length_cons] at hj;have e:l++cL j (a :: r)=(l++[(nJ j,a)])++cL (j+1) r:=by rw[cL];simp
   rw[e,Ev.ixS];by_cases c:a=s
   · rw[if_pos c];show Nz.Sc.acn _ (nJ j)=_;rw[afH,Nz.Sc.adJ,if_pos (Nz.Sc.abC _),c];intro x hx hn;obtain⟨i,h1,h2,h3⟩:=amH r (j+1) x hx;rw[h3] at hn;have:=aoV (by omega) (by omega) hn;omega
   · rw[if_neg c,show j+(Ev.ixS r s+1)=j+1+Ev.ixS r s by omega];exact axG r (j+1) _ ((List.mem_cons.1 h).resolve_left fun q=>c q.symm) (by omega)
theorem awM (h:aeH sp lo ats){l:List Nz.Sc.P2}(hd:Nz.Sc.acn l Nz.em=(d,true)):Nz.Sc.acn (scW l sp d ats) Nz.em=(Ev.dfS sp d,true):=by
 unfold scW;rw[afH]
 · unfold c0 Ev.dfS;by_cases c:sp≠Ev.adk∧sp≠d
   · rw[if_pos c,Nz.Sc.adJ,if_pos (Nz.Sc.abC _),if_neg c.1]
   · rw[if_neg c,List.append_nil,hd];by_cases c1:sp=Ev.adk
     · rw[if_pos c1]
     · rw[if_neg c1,Classical.byContradiction (p:=sp=d) fun q=>c ⟨c1,q⟩]
 · intro x hx e;obtain⟨i,_,_,h3⟩:=amH _ _ x hx;exact amh i (h3 ▸ e)
theorem arD {l:List Nz.Sc.P2}(hx:Nz.Sc.acn l Nz.Sc.xm=(Nz.Sc.XS,true)):Nz.Sc.acn (scW l sp d ats) Nz.Sc.xm=(Nz.Sc.XS,true):=by
 unfold scW;rw[afH,afH,hx]
 · intro x hx e;unfold c0 at hx;split at hx
   · rw[List.mem_singleton.1 hx] at e;exact afN e
   · cases hx
 · intro x hx e;obtain⟨i,_,_,h3⟩:=amH _ _ x hx;exact afO i (h3 ▸ e)
theorem amU {W:List Nz.Sc.P2}{p n s:ByteArray}(h:Nz.Sc.acn W p=(s,true))(hp:p≠Nz.Sc.xn):Nz.Sc.aoi W p n=some (s,n):=by
 unfold Nz.Sc.aoi;rw[h,if_neg];rintro (e | e)
 · cases e
 · exact hp (Nz.Sc.ada.1 e)
theorem a1S (h:aeH sp lo ats){l:List Nz.Sc.P2}(hd:Nz.Sc.acn l Nz.em=(d,true))(hx:Nz.Sc.acn l Nz.Sc.xm=(Nz.Sc.XS,true)):Nz.Sc.alJ (scW l sp d ats) (elN sp lo)=some (sp,lo):=by
 unfold Nz.Sc.alJ;rw[akc h.pl,if_neg (fun q:true=false=>Bool.noConfusion q)];dsimp only;by_cases c:sp=Ev.adk
 · rw[if_pos c,amU (arD hx) ahX,c];rfl
 · have:=awM h hd;unfold Ev.dfS at this;rw[if_neg c] at this;rw[if_neg c,amU this aeN]
theorem amZ (W:List Nz.Sc.P2):∀ (r1 r2:List Nz.Sc.P2) (f:List Nz.Sc.P3),(∀ a∈r1,∃ p,Nz.Sc.aeR a.1=some p)→Nz.Sc.adl W f (r1++r2)=Nz.Sc.adl W f r2
 | [],r2,f,_=>rfl
 | a :: r,r2,f,h=>by
   obtain⟨p,hp⟩:=h a List.mem_cons_self;rw[List.cons_append,Nz.Sc.adl,hp];exact amZ W r r2 f fun x hx=>h x (List.mem_cons_of_mem _ hx)
theorem a1V (h:aeH sp lo ats){l:List Nz.Sc.P2}(hx:Nz.Sc.acn l Nz.Sc.xm=(Nz.Sc.XS,true)){a:Ev.P3}(ha:a∈ats):Nz.Sc.ano (scW l sp d ats) (atN (Ev.spL ats) a)=some a.1:=by
 unfold Nz.Sc.ano;rw[adw (h.at_ a ha).1 (h.ix _),if_neg (fun q:true=false=>Bool.noConfusion q)];dsimp only;by_cases c:a.1.1=Ev.emB
 · rw[if_pos (by unfold pfx;rw[if_pos c,Nz.Sc.abC])];exact congrArg some (Prod.ext c.symm rfl)
 · rw[if_neg (fun e=>c (amr (Nz.Sc.ada.1 e)))];by_cases c2:a.1.1=Ev.adk
   · have e:pfx (Ev.spL ats) a.1.1=Nz.Sc.xm:=by unfold pfx;rw[if_neg c,if_pos c2]
     rw[e,amU (arD hx) ahX];exact congrArg some (Prod.ext c2.symm rfl)
   · have e:pfx (Ev.spL ats) a.1.1=nJ (Ev.ixS (Ev.spL ats) a.1.1):=by unfold pfx;rw[if_neg c,if_neg c2]
     have hm:a.1.1∈Ev.spL ats:=Ev.adv.2 ⟨Ev.agN.2 ⟨c,c2⟩,a,ha,rfl⟩;have hf:=axG (s:=a.1.1) (Ev.spL ats) 0 (l++c0 sp d) hm (by have:=ahs h;omega);rw[Nat.zero_add] at hf;have hf:Nz.Sc.acn (scW l sp d ats) (nJ (Ev.ixS (Ev.spL ats) a.1.1))=(a.1.1,true):=hf;rw[e,amU hf (aiO _)]
theorem ana (h:aeH sp lo ats){l:List Nz.Sc.P2}(hx:Nz.Sc.acn l Nz.Sc.xm=(Nz.Sc.XS,true)):∀ (r f:List Ev.P3),f++r=ats→Nz.Sc.adl (scW l sp d ats) f (aL (Ev.spL ats) r)=.ok ats
 | [],f,e=>by rw[List.append_nil] at e;rw[e];rfl
 | a :: r,f,e=>by
   have ha:a∈ats:=by rw[← e];simp
   show Nz.Sc.adl _ f ((atN (Ev.spL ats) a,a.2) :: aL (Ev.spL ats) r)=_;rw[Nz.Sc.adl,aqs h ha];dsimp only;rw[a1V h hx ha];dsimp only;rw[if_neg]
   · exact ana h hx r (f++[a]) (by rw[← e];simp)
   · intro hh;obtain⟨x,hx1,hx2⟩:=List.mem_map.1 (Nz.Sc.afR.1 hh);have hn:=h.nd;rw[← e,List.pairwise_append] at hn;exact hn.2.2 x hx1 a List.mem_cons_self hx2
theorem a2j (h:aeH sp lo ats){l:List Nz.Sc.P2}(hd:Nz.Sc.acn l Nz.em=(d,true))(hx:Nz.Sc.acn l Nz.Sc.xm=(Nz.Sc.XS,true)):Nz.Sc.afq l (elN sp lo) (ahy sp d ats)=.ok (scW l sp d ats,(sp,lo),ats):=by
 have h15:=ahs h;unfold Nz.Sc.afq;rw[atw h];dsimp only;rw[a1S h hd hx];dsimp only
 have:Nz.Sc.adl (scW l sp d ats) [] (ahy sp d ats)=.ok ats:=by
  unfold ahy;rw[amZ]
  · exact ana h hx ats [] rfl
  · intro a ha;rcases List.mem_append.1 ha with ha | ha
    · unfold b0 at ha;split at ha
      · rw[List.mem_singleton.1 ha];exact⟨_,asf⟩
      · cases ha
    · have key:∀ (L:List ByteArray) (j:Nat),j+L.length≤16→∀ a∈bL j L,∃ p,Nz.Sc.aeR a.1=some p:=by
       intro L
       induction L with
       | nil=>intro j _ a ha;cases ha
       | cons s r ih=>
         intro j hj a ha;rw[List.length_cons] at hj;rcases List.mem_cons.1 ha with rfl | ha
         · exact⟨_,a0W (by omega)⟩
         · exact ih (j+1) (by omega) a ha
      exact key _ 0 (by omega) a ha
 rw[this]
end
end Go.Proofs.YtiaebhomfebagaaGreatDoor.Bk
