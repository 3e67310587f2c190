/- Lemmas of the claim. -/
import Derived.Test.YtnomcldpbkinmaaGreatDoorG10
import Derived.Test.YtnomcldpbkinmaaGreatDoorG12
import Derived.Test.YtnomcldpbkinmaaGreatDoorG16
import Derived.Test.YtnomcldpbkinmaaGreatDoorG07
set_option linter.unusedSimpArgs false
set_option linter.unusedVariables false
namespace Go.Proofs.YtnomcldpbkinmaaGreatDoor.Tg
open Go.RowKit
def Rg1 (l:List (ByteArray × ByteArray))(k:Nat)(x:ByteArray × ByteArray):Prop:=isN x.1=true∧Rt (aad x.2)∧∀ j y,j < k→l[j]?=some y→aad y.1≠aad x.1
def Fit (l:List (ByteArray × ByteArray)):Prop:=∀ x∈l,x.1.size≤10000∧x.2.size≤10000
def RgP (nm:ByteArray)(l:List (ByteArray × ByteArray)):Prop:=isN nm=true∧l.length≤32∧∀ k x,l[k]?=some x→Rg1 l k x
end Go.Proofs.YtnomcldpbkinmaaGreatDoor.Tg
namespace Go.Proofs.YtnomcldpbkinmaaGreatDoor.Tg
open Go.RowKit
theorem avy (v:Bool)(l:List Int)(hl:l≠[])(hn:NN l)(h:(aaA v l).1=0):∃ r,(aaA v l).2.1=aaR r∧Chr r∧(aaR r).length≤2 * (aaA v l).2.2:=by
 unfold aaA at h ⊢;by_cases c1:l.getD 0 0=38
 · rw[if_pos c1] at h ⊢;by_cases c2:59∈l.tail∧0≤ajm (abg l.tail)
   · rw[if_pos c2];refine⟨_,rfl,anf _ c2.2,?_⟩;have:=(abS (ajm (abg l.tail))).2;show _≤2 * ((abg l.tail).length+2);omega
   · rw[if_neg c2] at h;exact absurd h (by decide)
 rw[if_neg c1] at h ⊢;by_cases c2:l.getD 0 0=13
 · rw[if_pos c2];refine⟨blk v 10,?_,?_,?_⟩
   · cases v <;> rfl
   · cases v <;> decide
   · have:(aaR (blk v 10)).length=1:=(by cases v <;> rfl);show _≤2 * (if l.getD 1 0=10 then 2 else 1);split <;> omega
 rw[if_neg c2] at h ⊢;by_cases c3:l.getD 0 0=9∨l.getD 0 0=10
 · rw[if_pos c3];refine⟨blk v (l.getD 0 0),?_,?_,?_⟩
   · rcases c3 with c | c <;> rw[c] <;> cases v <;> rfl
   · rcases c3 with c | c <;> rw[c] <;> cases v <;> decide
   · have:(aaR (blk v (l.getD 0 0))).length=1:=by rcases c3 with c | c <;> rw[c] <;> cases v <;> rfl
     show _≤2 * 1;omega
 rw[if_neg c3] at h ⊢;by_cases c4:(aaO l).2.2≠0
 · rw[if_pos c4] at h;exact absurd h c4
 rw[if_neg c4] at h ⊢;by_cases c5:Chr (aaO l).1
 · rw[if_pos c5];have hi:=agO l hl (fun k=>hn.getD k) (Decidable.not_not.1 c4);refine⟨_,rfl,c5,?_⟩;have h2:=hi.2.1;show _≤2 * (aaO l).2.1.toNat;omega
 · rw[if_neg c5] at h;exact absurd h (by decide)
theorem als (v:Bool):∀ (n:Nat) (L:List Int),L.length≤n→NN L→(aaY v L).2.2=0→Rt (aaY v L).1∧NN (aaY v L).1∧(∀ x∈(aaY v L).1,x≤255)∧(aaY v L).1.length≤2 * L.length
 | n,L,h,hn,h0=>by
   by_cases hl:L=[]
   · subst hl;rw[ahi];exact⟨⟨rfl,fun r hr=>by simp[afN] at hr⟩,fun x hx=>by simp at hx,fun x hx=>by simp at hx,by simp⟩
   match n with
   | 0=>exact absurd (List.eq_nil_of_length_eq_zero (by omega)) hl
   | n+1=>
     by_cases he:(aaA v L).1=0
     · have hb:=ahw v L hl hn he;obtain⟨r,e1,e2,e3⟩:=avy v L hl hn he;rw[afT v L hl hn he] at h0 ⊢;obtain⟨i1,i2,i3,i4⟩:=als v n (L.drop (aaA v L).2.2) (by rw[List.length_drop];omega) (hn.drop _) h0;rw[List.length_drop] at i4;dsimp only;rw[e1];have hg:=aeE e2;have hq:=afu r hg;refine⟨?_,?_,?_,?_⟩
       · unfold Rt at i1 ⊢;rw[auG r _ hg i2];refine⟨i1.1,fun x hx=> ?_⟩;rcases List.mem_cons.1 hx with hx | hx
         · rw[hx];exact e2
         · exact i1.2 x hx
       · intro x hx;rcases List.mem_append.1 hx with hx | hx
         · exact hq.1 x hx
         · exact i2 x hx
       · intro x hx;rcases List.mem_append.1 hx with hx | hx
         · exact hq.2 x hx
         · exact i3 x hx
       · rw[List.length_append];omega
     · rw[agC v L hl he] at h0;exact absurd h0 he
theorem a2a (a:ByteArray)(h:(abH true (aad a)).2.2=0):Rt (aad (strOfNums (abH true (aad a)).1))∧(strOfNums (abH true (aad a)).1).size≤2 * a.size:=by
 have h0:(aaY true (aad a)).2.2=0:=by
  unfold abH at h;split at h
  · assumption
  · exact h
 have hz:(abH true (aad a)).1=(aaY true (aad a)).1:=by unfold abH;rw[if_pos h0]
 obtain⟨i1,i2,i3,i4⟩:=als true _ (aad a) (Nat.le_refl _) (acS a) h0;rw[hz];have e:=agr _ i2 i3;refine⟨by rw[e];exact i1,?_⟩;rw[← aae,e,← aae a];exact i4
def PrI (m:Nat)(x:Int × ByteArray × ByteArray × ByteArray):Prop:=x.1=0→isN x.2.1=true∧Rt (aad x.2.2.1)∧x.2.1.size≤m∧x.2.2.1.size≤2 * m
theorem a1I (q:UInt8)(nm u:ByteArray)(m:Nat)(hn:isN nm=true)(h1:nm.size≤m)(h2:u.size≤m):PrI m (apa q nm u):=by
 unfold apa;split
 · intro h;exact absurd h (by decide)
 split
 · rename_i h;intro h';exact absurd h' h
 · rename_i h;intro _;have:=a2a (u.extract 0 (qi q u).toNat) (Decidable.not_not.1 h)
   have hz:(u.extract 0 (qi q u).toNat).size≤u.size:=by
    rw[← aae,afs,List.length_take,aae];omega
   exact⟨hn,this.1,h1,Nat.le_trans this.2 (by omega)⟩
theorem a1M (u:ByteArray):PrI u.size (aay u):=by
 unfold aay;have z0:=apX u;have z1:=Nz.aaN u (Nz.sn u 0);have z2:=abJ (Nz.fr u (Nz.sn u 0));have z3:=Nz.aaN (sk (Nz.fr u (Nz.sn u 0))) 1;have z4:=abJ (Nz.fr (sk (Nz.fr u (Nz.sn u 0))) 1);have z5:=Nz.aaN (sk (Nz.fr (sk (Nz.fr u (Nz.sn u 0))) 1)) 1;by_cases c1:isN (Nz.sx u 0)=false
 · rw[if_pos c1];intro h;exact absurd h (by decide)
 rw[if_neg c1];have c1':isN (Nz.sx u 0)=true:=(by simpa using c1);by_cases c2:hd (sk (Nz.fr u (Nz.sn u 0)))≠61
 · rw[if_pos c2];intro h;exact absurd h (by decide)
 rw[if_neg c2];by_cases c3:hd (sk (Nz.fr (sk (Nz.fr u (Nz.sn u 0))) 1))=34
 · rw[if_pos c3];exact a1I _ _ _ _ c1' z0 (by omega)
 rw[if_neg c3];by_cases c4:hd (sk (Nz.fr (sk (Nz.fr u (Nz.sn u 0))) 1))=39
 · rw[if_pos c4];exact a1I _ _ _ _ c1' z0 (by omega)
 rw[if_neg c4];intro h;exact absurd h (by decide)
def LsI (m:Nat)(l:List (ByteArray × ByteArray)):Prop:=l.length≤32∧(∀ k x,l[k]?=some x→Rg1 l k x)∧∀ x∈l,x.1.size≤m∧x.2.size≤2 * m
theorem a1K {m:Nat}{l:List (ByteArray × ByteArray)}{x:ByteArray × ByteArray}(h:LsI m l)(hl:¬ 32≤l.length)(hn:isN x.1=true)(hr:Rt (aad x.2))(hh:acU x.1 l=false)(h1:x.1.size≤m)(h2:x.2.size≤2 * m):LsI m (l++[x]):=by
 refine⟨by rw[List.length_append,List.length_singleton];omega,fun k y hy=> ?_,fun y hy=> ?_⟩
 · have hk:k < l.length+1:=by
    have:=(List.getElem?_eq_some_iff.1 hy).1;rw[List.length_append,List.length_singleton] at this;exact this
   have key:∀ j z,j < l.length→(l++[x])[j]?=some z→l[j]?=some z:=fun j z hj hz=>by rw[List.getElem?_append_left hj] at hz;exact hz
   rcases Nat.lt_or_ge k l.length with g | g
   · have:=h.2.1 k y (key k y g hy);exact⟨this.1,this.2.1,fun j z hj hz=>this.2.2 j z hj (key j z (by omega) hz)⟩
   · obtain rfl:k=l.length:=by omega
     have:y=x:=by
      rw[List.getElem?_append_right (Nat.le_refl _)] at hy
      simpa using hy.symm
     subst this;refine⟨hn,hr,fun j z hj hz=> ?_⟩;have hz':=key j z hj hz;unfold acU at hh;rw[List.any_eq_false] at hh;have:=hh z (List.mem_of_getElem? hz')
     simpa using this
 · rcases List.mem_append.1 hy with hy | hy
   · exact h.2.2 y hy
   · have:y=x:=(by simpa using hy);subst this;exact⟨h1,h2⟩
theorem a1y (m:Nat):∀ (f:Nat) (nm:ByteArray) (l:List (ByteArray × ByteArray)) (u:ByteArray),u.size≤m→LsI m l→(goF f nm l u).1=0→(goF f nm l u).2.1=nm∧LsI m (goF f nm l u).2.2
 | 0,nm,l,u,_,hI,_=>⟨rfl,hI⟩
 | f+1,nm,l,u,hu,hI,h=>by
   have hpi:=a1M (sk u);have hpl:= @aiK (sk u);have hs:=abJ u;unfold goF at h ⊢;generalize aay (sk u)=P at *;by_cases c1:(sk u).size=0
   · rw[if_pos c1];exact⟨rfl,hI⟩
   rw[if_neg c1] at h ⊢;by_cases c2:bk u=0
   · rw[if_pos c2] at h;exact absurd (show (6:Int)=0 from h) (by decide)
   rw[if_neg c2] at h ⊢;by_cases c3:P.1≠0
   · rw[if_pos c3] at h;exact absurd (show P.1=0 from h) c3
   rw[if_neg c3] at h ⊢;by_cases c4:acU P.2.1 l=true
   · rw[if_pos c4] at h;exact absurd (show (8:Int)=0 from h) (by decide)
   rw[if_neg c4] at h ⊢;by_cases c5:32≤l.length
   · rw[if_pos c5] at h;exact absurd (show (13:Int)=0 from h) (by decide)
   rw[if_neg c5] at h ⊢;have c3':=Decidable.not_not.1 c3;obtain⟨p1,p2,p3,p4⟩:=hpi c3';have hlt:=hpl c3';exact a1y m f _ _ _ (by omega) (a1K hI c5 p1 p2 (by simpa using c4) (Nat.le_trans p3 (by omega)) (Nat.le_trans p4 (by omega))) h
theorem azU (s:ByteArray)(h:(aar s).1=0):RgP (aar s).2.1 (aar s).2.2∧(aar s).2.1.size≤s.size∧∀ x∈(aar s).2.2,x.1.size≤s.size∧x.2.size≤2 * s.size:=by
 unfold aar at h ⊢;by_cases c:isN (Nz.sx s 0)=false
 · rw[if_pos c] at h;exact absurd h (by decide)
 rw[if_neg c] at h ⊢;unfold GoF at h ⊢;have hz:=Nz.aaN s (Nz.sn s 0);obtain⟨g1,g2⟩:=a1y s.size _ _ [] _ (by omega) ⟨by simp,fun k x hx=>by simp at hx,fun x hx=>by simp at hx⟩ h;rw[g1];exact⟨⟨by simpa using c,g2.1,g2.2.1⟩,apX s,g2.2.2⟩
end Go.Proofs.YtnomcldpbkinmaaGreatDoor.Tg
namespace Go.Proofs.YtnomcldpbkinmaaGreatDoor.Nz.Sc
abbrev P2:=ByteArray × ByteArray
def xn:ByteArray:=⟨#[120,109,108,110,115]⟩
def xm:ByteArray:=⟨#[120,109,108]⟩
def XS:ByteArray:=⟨#[104,116,116,112,58,47,47,119,119,119,46,119,51,46,111,114,103,47,88,77,76,47,49,57,57,56,47,110,97,109,101,115,112,97,99,101]⟩
def XN:ByteArray:=⟨#[104,116,116,112,58,47,47,119,119,119,46,119,51,46,111,114,103,47,50,48,48,48,47,120,109,108,110,115,47]⟩
def eqb (x y:ByteArray):Bool:=x.toList == y.toList
theorem toList_inj {a b:ByteArray}(h:a.toList=b.toList):a=b:=by
 rw[Lib.toList_data,Lib.toList_data] at h;apply ByteArray.ext;exact Array.toList_inj.1 h
theorem adu {x y:ByteArray}:eqb x y=true↔x=y:=by
 unfold eqb;rw[beq_iff_eq];exact⟨toList_inj,fun h=>by rw[h]⟩
theorem arT {x y:ByteArray}:eqb x y=false↔x≠y:=by
 rw[← Bool.not_eq_true,adu]
theorem aiE (x:ByteArray):eqb x x=true:=adu.2 rfl
def aem (l:List P2)(p:ByteArray):ByteArray × Bool:=l.foldl (fun a b=>if eqb b.1 p=true then (b.2,true) else a) (em,eqb p em)
theorem aiH (l:List P2)(b:P2)(p:ByteArray):aem (l++[b]) p=if eqb b.1 p=true then (b.2,true) else aem l p:=by
 unfold aem;rw[List.foldl_append];rfl
theorem aeV {α:Type}(l:List α)(k:Nat)(x:α)(h:l[k]?=some x):l.take (k+1)=l.take k++[x]:=by
 rw[List.take_add_one,h];rfl
theorem anu (l:List P2)(p:ByteArray)(k:Nat)(h:∀ (j:Nat) (x:P2),k≤j→l[j]?=some x→eqb x.1 p=false):aem l p=aem (l.take k) p:=by
 have key:∀ d k,l.length - k=d→(∀ (j:Nat) (x:P2),k≤j→l[j]?=some x→eqb x.1 p=false)→aem l p=aem (l.take k) p:=by
  intro d
  induction d with
  | zero=>intro k hd _;rw[List.take_of_length_le (by omega)]
  | succ d ih=>
    intro k hd hk;have hlt:k < l.length:=(by omega);have hx:=List.getElem?_eq_getElem hlt;rw[ih (k+1) (by omega) (fun j x hj=>hk j x (by omega)),aeV l k _ hx,aiH,if_neg (by rw[hk k _ (Nat.le_refl _) hx];simp)]
 exact key _ k rfl h
theorem amJ (l:List P2)(p:ByteArray)(h:∀ (j:Nat) (x:P2),l[j]?=some x→eqb x.1 p=false):aem l p=(em,eqb p em):=by
 rw[anu l p 0 (fun j x _=>h j x)];rfl
theorem axb (l:List P2)(p:ByteArray)(k:Nat)(b:P2)(hk:l[k]?=some b)(he:eqb b.1 p=true)(h:∀ (j:Nat) (x:P2),k < j→l[j]?=some x→eqb x.1 p=false):aem l p=(b.2,true):=by
 rw[anu l p (k+1) (fun j x hj=>h j x (by omega)),aeV l k b hk,aiH,if_pos he]
theorem ana (l:List P2)(p:ByteArray)(k:Nat)(b:P2)(hk:l[k]?=some b):aem (l.take (k+1)) p=if eqb b.1 p=true then (b.2,true) else aem (l.take k) p:=by
 rw[aeV l k b hk,aiH]
def asU (l:List P2)(p n:ByteArray):Option P2:=if (aem l p).2=false∨eqb p xn=true then none else some ((aem l p).1,n)
def alf (l:List P2)(s:ByteArray):Option P2:=if (aao s).2.2=false then none else asU l (aao s).1 (aao s).2.1
def apV (l:List P2)(s:ByteArray):Option P2:=if (aao s).2.2=false then none else if eqb (aao s).1 em=true then some (em,(aao s).2.1) else asU l (aao s).1 (aao s).2.1
def agp (s:ByteArray):Option ByteArray:=if eqb (aao s).1 xn=true then some (aao s).2.1 else if eqb (aao s).1 em=true∧eqb (aao s).2.1 xn=true then some em else none
def okB (p s:ByteArray):Bool:= !(eqb p xn || eqb s XN) && (eqb p xm == eqb s XS) && (eqb p em || !eqb s em)
def abQ:List P2→List P2→Option (List P2)
 | l,[]=>some l
 | l,a :: r=>match agp a.1 with
   | none=>abQ l r
   | some p=>if okB p a.2=true then abQ (l++[(p,a.2)]) r else none
abbrev P3:=P2 × ByteArray
def acU (n:P2)(f:List P3):Bool:=f.any fun x=>eqb x.1.1 n.1 && eqb x.1.2 n.2
theorem anR {n:P2}{f:List P3}:acU n f=true↔n∈f.map (·.1):=by
 unfold acU;rw[List.any_eq_true,List.mem_map];constructor
 · rintro ⟨x,hx,h⟩;rw[Bool.and_eq_true,adu,adu] at h;exact⟨x,hx,Prod.ext h.1 h.2⟩
 · rintro ⟨x,hx,h⟩;refine⟨x,hx,?_⟩;rw[← h,aiE,aiE];rfl
def afh (W:List P2):List P3→List P2→Except Int (List P3)
 | f,[]=>.ok f
 | f,a :: r=>match agp a.1 with
   | some _=>afh W f r
   | none=>match apV W a.1 with
     | none=>.error 9
     | some n=>if acU n f=true then .error 8 else afh W (f++[(n,a.2)]) r
def acM (l:List P2)(nm:ByteArray)(r:List P2):Except Int (List P2 × P2 × List P3):=
 match abQ l r with
 | none=>.error 9
 | some W=>match alf W nm with
   | none=>.error 9
   | some n=>match afh W [] r with
     | .error c=>.error c
     | .ok f=>.ok (W,n,f)
def alD (l:List P2):List P2→List ByteArray→Option (List P2)
 | f,[]=>some f
 | f,s :: r=>match alf l s with
   | none=>none
   | some n=>alD l (f++[n]) r
def x6:ByteArray:=⟨#[120,109,108,110,115,58]⟩
def a3c (s:ByteArray):Option ByteArray:=if eqb s xn=true then some em else if 6 < s.size∧eqb (s.extract 0 6) x6=true then some (s.extract 6 s.size) else none
theorem arB {s:ByteArray}(h:(aao s).2.2=true):(pl (bl s)=true∧aao s=(em,s,true))∨∃ i,Hit s i∧aao s=(s.extract 0 i,s.extract (i+1) s.size,true):=by
 cases hp:pl (bl s) with
 | true=>exact .inl ⟨rfl,agt hp⟩
 | false=>
   by_cases hn:∃ i,Hit s i
   · obtain⟨i,hi⟩:=hn;exact .inr ⟨i,hi,ajv hi⟩
   · rw[agK hp (fun i _ hi=>hn ⟨i,hi⟩)] at h;cases h
theorem ayu:bl xn=[120,109,108,110,115]:=by decide
theorem axt:bl x6=[120,109,108,110,115,58]:=by decide
theorem ayH {s:ByteArray}{i:Nat}(h:Hit s i):bl s=(bl s).take i++58 :: (bl s).drop (i+1)∧58 ∉ (bl s).take i∧i < (bl s).length:=by
 obtain⟨h1,h2,h3,_⟩:=h;have hl:i < (bl s).length:=by rw[aaS];exact h1
 refine⟨?_,fun hm=> ?_,hl⟩
 · have:=(List.take_append_drop i (bl s)).symm;rw[List.drop_eq_getElem_cons hl] at this
   have e:(bl s)[i]=58:=by
    rw[List.getD_eq_getElem?_getD,List.getElem?_eq_getElem hl] at h2;exact h2
   rw[e] at this;exact this
 · rw[ash _ hm] at h3;cases h3
theorem aic {x y:ByteArray}:eqb x y=true↔bl x=bl y:=by
 rw[adu];exact⟨fun h=>by rw[h],aks⟩
theorem anx:eqb em xn=false:=by rw[arT];intro h;have:=congrArg ByteArray.size h;revert this;decide
theorem atz {s:ByteArray}(h:pl (bl s)=true):eqb s em=false:=by
 rw[arT];rintro rfl;have:pl (bl em)=false:=(by decide);rw[this] at h;cases h
theorem axf {s:ByteArray}(h:(aao s).2.2=true):a3c s=agp s:=by
 unfold a3c agp;rcases arB h with ⟨hp,he⟩ | ⟨i,hi,he⟩
 · rw[he];simp only[anx,aiE,Bool.false_eq_true,if_false,true_and];by_cases hx:eqb s xn=true
   · rw[if_pos hx,if_pos hx]
   · rw[if_neg hx,if_neg hx,if_neg];rintro ⟨_,h6⟩;rw[aic,aho,axt] at h6
     have:58∈bl s:=by
      have h58:(58:Nat)∈((bl s).drop 0).take (6 - 0):=by rw[h6];simp
      exact List.mem_of_mem_drop (List.mem_of_mem_take h58)
     rw[ash _ this] at hp;cases hp
 · obtain⟨g1,g2,g3⟩:=ayH hi
   have hsx:eqb s xn=false:=by
    rw[← Bool.not_eq_true,aic];intro e;have:(58:Nat)∈bl s:=by rw[g1];simp
    rw[e,ayu] at this
    revert this
    decide
   have hpe:eqb (s.extract 0 i) em=false:=atz (by rw[aeU];exact hi.2.2.1);rw[he];simp only[hsx,hpe,Bool.false_eq_true,if_false,false_and];by_cases hx:eqb (s.extract 0 i) xn=true
   · rw[if_pos hx];rw[aic,aeU,ayu] at hx
     have hi5:i=5:=by
      have:=congrArg List.length hx;rw[List.length_take,Nat.min_eq_left (by omega)] at this;exact this
     subst hi5
     have hdrop:(bl s).drop 6≠[]:=fun e=>by
      have:=hi.2.2.2;rw[e,azX] at this;cases this
     have hsz:6 < s.size:=by
      rw[← aaS];rcases Nat.lt_or_ge 6 (bl s).length with h | h
      · exact h
      · exact absurd (List.drop_of_length_le h) hdrop
     have h6:eqb (s.extract 0 6) x6=true:=by
      rw[aic,aeU,axt,g1,hx];rfl
     rw[if_pos ⟨hsz,h6⟩]
   · rw[if_neg hx,if_neg];rintro ⟨h6,e6⟩;apply hx;rw[aic,aeU,axt] at e6;rw[aic,aeU,ayu];have hlen:6≤(bl s).length:=by rw[aaS];omega
     have get6:∀ j,j < 6→(bl s)[j]?=([120,109,108,110,115,58]:List Nat)[j]?:=fun j hj=>by rw[← e6,List.getElem?_take_of_lt hj]
     have hgi:(bl s)[i]?=some 58:=by
      have:=hi.2.1;rw[List.getD_eq_getElem?_getD,List.getElem?_eq_getElem g3] at this;rw[List.getElem?_eq_getElem g3];exact congrArg some this
     have hi5:i=5:=by
      rcases Nat.lt_trichotomy i 5 with hlt | heq | hgt
      · rw[get6 i (by omega)] at hgi;exfalso;have:i=0∨i=1∨i=2∨i=3∨i=4:=(by omega);rcases this with rfl | rfl | rfl | rfl | rfl <;> simp at hgi
      · exact heq
      · refine absurd ?_ g2;have h5:(bl s)[5]?=some 58:=get6 5 (by omega);exact List.mem_of_getElem? (i:=5) (by rw[List.getElem?_take_of_lt hgt];exact h5)
     subst hi5;have:(bl s).take 5=((bl s).take 6).take 5:=by rw[List.take_take];rfl
     rw[this,e6];rfl
def a1k (l:List P2)(s:ByteArray)(el:Bool):Option P2:=
 if (aao s).2.2=false∨eqb (aao s).1 xn=true then none
 else if eqb (aao s).1 em=true∧el=false then some (em,(aao s).2.1)
 else if (aem l (aao s).1).2=true then some ((aem l (aao s).1).1,(aao s).2.1) else none
theorem axa (l:List P2)(s:ByteArray):a1k l s true=alf l s:=by
 unfold a1k alf asU;cases (aao s).2.2 <;> cases eqb (aao s).1 xn <;> cases (aem l (aao s).1).2 <;> simp
theorem azy (l:List P2)(s:ByteArray):a1k l s false=apV l s:=by
 unfold a1k apV asU;cases h1:(aao s).2.2
 · simp
 · cases h2:eqb (aao s).1 xn
   · cases eqb (aao s).1 em <;> cases (aem l (aao s).1).2 <;> simp
   · have:eqb (aao s).1 em=false:=by
      rw[arT];intro e;rw[e,anx] at h2;cases h2
     rw[this];simp
def Lim:Nat:=140737488351232
def adF (l:List P2):Prop:=∀ x∈l,x.1.size≤Lim∧x.2.size≤Lim
theorem aeu:em.size=0:=rfl
theorem adb (s:ByteArray):(aao s).1.size≤s.size∧(aao s).2.1.size≤s.size:=by
 unfold aao;split
 · split <;> simp[aeu]
 · split <;> simp[aeu] <;> omega
theorem ate {l:List P2}(h:adF l)(p:ByteArray):(aem l p).1.size≤Lim:=by
 have key:∀ k,(aem (l.take k) p).1.size≤Lim:=by
  intro k
  induction k with
  | zero=>simp[aem,aeu]
  | succ k ih=>
    by_cases hk:k < l.length
    · rw[ana l p k _ (List.getElem?_eq_getElem hk)];split
      · exact(h _ (List.getElem_mem hk)).2
      · exact ih
    · rw[List.take_of_length_le (by omega)];rw[List.take_of_length_le (by omega)] at ih;exact ih
 have:=key l.length
 rwa [List.take_of_length_le (Nat.le_refl _)] at this
theorem afZ:∀ (r l:List P2) {W:List P2},adF l→adF r→abQ l r=some W→adF W
 | [],l,W,hl,_,h=>by
   injection h with h
   rw[← h];exact hl
 | a :: r,l,W,hl,hr,h=>by
   unfold abQ at h;have hr':adF r:=fun x hx=>hr x (List.mem_cons_of_mem _ hx);have ha:=hr a List.mem_cons_self;split at h
   · exact afZ r l hl hr' h
   · rename_i p hp;split at h
     · refine afZ r _ (fun x hx=> ?_) hr' h;rcases List.mem_append.1 hx with hx | hx
       · exact hl x hx
       · rw[List.mem_singleton] at hx;subst hx;refine⟨?_,ha.2⟩;unfold agp at hp;split at hp
         · injection hp with hp
           rw[← hp];exact Nat.le_trans (adb a.1).2 ha.1
         · split at hp
           · injection hp with hp
             rw[← hp];simp[aeu]
           · cases hp
     · cases h
theorem agd:∀ (r l:List P2) {W:List P2},abQ l r=some W→l.length≤W.length∧W.length≤l.length+r.length∧W.take l.length=l
 | [],l,W,h=>by
   injection h with h
   subst h;simp
 | a :: r,l,W,h=>by
   unfold abQ at h;split at h
   · have:=agd r l h;rw[List.length_cons];exact⟨this.1,by omega,this.2.2⟩
   · split at h
     · obtain⟨h1,h2,h3⟩:=agd r _ h;rw[List.length_append,List.length_cons,List.length_nil] at h1 h2 h3;rw[List.length_cons];refine⟨by omega,by omega,?_⟩;have:=congrArg (List.take l.length) h3;rw[List.take_take,Nat.min_eq_left (by omega),List.take_left' rfl] at this;exact this
     · cases h
end Go.Proofs.YtnomcldpbkinmaaGreatDoor.Nz.Sc
namespace Go.Proofs.YtnomcldpbkinmaaGreatDoor.Wl
abbrev Pr:=ByteArray × ByteArray
abbrev Tr:=Pr × ByteArray
inductive Ev where
 | opn (n:Pr) (f:List Tr)
 | txt (s:ByteArray)
 | cls
structure Tok where
 kind:Int
 text:ByteArray
 empty:Bool
 blank:Bool
structure St where
 op:List (ByteArray × List Pr)
 wait:ByteArray
 root:Bool
 over:Bool
 err:Int
def st0:St:=⟨[],Nz.em,false,false,0⟩
def adB:List Pr:=[(Nz.Sc.xm,Nz.Sc.XS)]
def aeo (s:St):List Pr:=match s.op.getLast? with | some x=>x.2 | none=>adB
def aaX (u:ByteArray):List Ev:=if u.size=0 then [] else [.txt u]
def bad (s:St)(e:Int):St × List Ev × Int:=({ s with err:=e },[],e)
def opened (s:St)(t:Tok)(nm:ByteArray)(W:List Pr)(n:Pr)(f:List Tr):St × List Ev × Int:=
 if t.empty=true then ({ s with wait:=Nz.em,root:=true },aaX s.wait++[.opn n f,.cls],0)
 else ({ s with wait:=Nz.em,root:=true,op:=s.op++[(nm,W)] },aaX s.wait++[.opn n f],0)
def adx (s:St)(t:Tok)(nm:ByteArray):Except Int (List Pr × Pr × List Tr)→St × List Ev × Int
 | .error c=>bad s c
 | .ok (W,n,f)=>if 64≤s.op.length then bad s 13 else opened s t nm W n f
def aaw (s:St)(t:Tok):St × List Ev × Int:=
 if s.root=true∧s.op=[] then bad s 11
 else if (Tg.aar t.text).1≠0 then bad s (Tg.aar t.text).1
 else adx s t (Tg.aar t.text).2.1 (Nz.Sc.acM (aeo s) (Tg.aar t.text).2.1 (Tg.aar t.text).2.2)
def inner (s:St):Option ByteArray:=s.op.getLast?.map (·.1)
def adR (s:St)(t:Tok):St × List Ev × Int:=
 if inner s=some t.text then ({ s with wait:=Nz.em,op:=s.op.dropLast },aaX s.wait++[.cls],0) else bad s 10
def acK (s:St)(t:Tok):St × List Ev × Int:=
 if s.op≠[] then ({ s with wait:=s.wait++t.text },[],0) else if t.blank=true then (s,[],0) else bad s 11
def lastT (s:St):St × List Ev × Int:=
 if s.op≠[] then bad s 7 else if s.root=false then bad s 11 else ({ s with over:=true },[],0)
def adD (s:St)(t:Tok):St × List Ev × Int:=
 if t.kind=1 then aaw s t else if t.kind=2 then adR s t else if t.kind=3 then acK s t else if t.kind=6 then lastT s else (s,[],0)
def aaP (s:St)(t:Tok):St × List Ev × Int:=
 if s.over=true then (s,[],15) else if s.err≠0 then (s,[],s.err) else adD s t
def afo (k:Tk):Tok:=⟨k.kind,strOfNums k.text,k.empty,k.blank⟩
def evG (L:List Int):Nat→Nat→St→List Ev→List Ev × Nat × Int
 | 0,a,_,out=>(out,a,0)
 | f+1,a,s,out=>
   if (nx L a).2.2≠0 then (out,a,(nx L a).2.2)
   else if (aaP s (afo (nx L a).1)).2.2≠0 then (out,a,(aaP s (afo (nx L a).1)).2.2)
   else if L.length≤a then (out++(aaP s (afo (nx L a).1)).2.1,a,0)
   else evG L f (a+(nx L a).2.1) (aaP s (afo (nx L a).1)).1 (out++(aaP s (afo (nx L a).1)).2.1)
def evR (L:List Int)(a:Nat)(s:St)(out:List Ev):List Ev × Nat × Int:=evG L (L.length+1 - a) a s out
def evF (L:List Int):List Ev × Nat × Int:=evR L 0 st0 []
theorem amC (L:List Int):∀ (f g a:Nat) (s:St) (out:List Ev),L.length+1≤a+f→L.length+1≤a+g→a≤L.length→evG L f a s out=evG L g a s out
 | 0,g,a,s,out,h1,h2,h3=>by omega
 | f+1,0,a,s,out,h1,h2,h3=>by omega
 | f+1,g+1,a,s,out,h1,h2,h3=>by
   unfold evG;by_cases c1:(nx L a).2.2≠0
   · rw[if_pos c1,if_pos c1]
   rw[if_neg c1,if_neg c1];by_cases c2:(aaP s (afo (nx L a).1)).2.2≠0
   · rw[if_pos c2,if_pos c2]
   rw[if_neg c2,if_neg c2];by_cases c3:L.length≤a
   · rw[if_pos c3,if_pos c3]
   rw[if_neg c3,if_neg c3];have hs:=(ajE L a (by omega)).size (Decidable.not_not.1 c1);rw[List.length_drop] at hs;exact amC L f g _ _ _ (by omega) (by omega) (by omega)
theorem aeS (L:List Int)(a:Nat)(s:St)(out:List Ev)(ha:a≤L.length):evR L a s out=evG L ((L.length - a)+1) a s out:=by
 unfold evR;rw[show L.length+1 - a=(L.length - a)+1 by omega]
theorem awk {L:List Int}{a:Nat}(s:St)(out:List Ev)(ha:a≤L.length)(h:(nx L a).2.2≠0):evR L a s out=(out,a,(nx L a).2.2):=by
 rw[aeS L a s out ha,evG,if_pos h]
theorem arQ {L:List Int}{a:Nat}{s:St}(out:List Ev)(ha:a≤L.length)(h:(nx L a).2.2=0)(h2:(aaP s (afo (nx L a).1)).2.2≠0):evR L a s out=(out,a,(aaP s (afo (nx L a).1)).2.2):=by
 rw[aeS L a s out ha,evG,if_neg (by omega),if_pos h2]
theorem alq {L:List Int}{a:Nat}{s:St}(out:List Ev)(ha:a=L.length)(h:(nx L a).2.2=0)(h2:(aaP s (afo (nx L a).1)).2.2=0):evR L a s out=(out++(aaP s (afo (nx L a).1)).2.1,a,0):=by
 rw[aeS L a s out (by omega),evG,if_neg (by omega),if_neg (by omega),if_pos (by omega)]
theorem ayG {L:List Int}{a:Nat}{s:St}(out:List Ev)(ha:a < L.length)(h:(nx L a).2.2=0)(h2:(aaP s (afo (nx L a).1)).2.2=0):
 evR L a s out=evR L (a+(nx L a).2.1) (aaP s (afo (nx L a).1)).1 (out++(aaP s (afo (nx L a).1)).2.1):=by
 have hs:=(ajE L a ha).size h;rw[List.length_drop] at hs;rw[aeS L a s out (by omega),evG,if_neg (by omega),if_neg (by omega),if_neg (by omega)];unfold evR;exact amC L _ _ _ _ _ (by omega) (by omega) (by omega)
theorem aoq (s:St)(e:Int):(bad s e).2.2=e:=rfl
theorem ayl {s:St}{t:Tok}{nm:ByteArray}{o:Except Int (List Pr × Pr × List Tr)}(hc:∀ c,o=.error c→c≠0)(h:(adx s t nm o).2.2=0):∃ W n f,o=.ok (W,n,f)∧s.op.length < 64∧adx s t nm o=opened s t nm W n f:=by
 match o,hc,h with
 | .error c,hc,h=>exact absurd h (hc c rfl)
 | .ok (W,n,f),_,h=>
   unfold adx at h ⊢;dsimp only at h ⊢;by_cases c:64≤s.op.length
   · rw[if_pos c] at h;exact absurd h (by rw[aoq];decide)
   · rw[if_neg c];exact⟨W,n,f,rfl,by omega,rfl⟩
theorem aer (W:List Pr):∀ (r:List Pr) (f:List Tr) {c:Int},Nz.Sc.afh W f r=.error c→c=8∨c=9
 | [],f,c,h=>by cases h
 | a :: r,f,c,h=>by
   unfold Nz.Sc.afh at h;split at h
   · exact aer W r f h
   · split at h
     · injection h with h
       exact .inr h.symm
     · split at h
       · injection h with h
         exact .inl h.symm
       · exact aer W r _ h
theorem agj {l:List Pr}{nm:ByteArray}{r:List Pr}{c:Int}(h:Nz.Sc.acM l nm r=.error c):c=8∨c=9:=by
 unfold Nz.Sc.acM at h;split at h
 · injection h with h;exact .inr h.symm
 · split at h
   · injection h with h;exact .inr h.symm
   · split at h
     · rename_i h2;injection h with h
       exact h ▸ aer _ _ _ h2
     · cases h
theorem anF {s:St}{t:Tok}(h:(aaw s t).2.2=0):¬ (s.root=true∧s.op=[])∧(Tg.aar t.text).1=0∧∃ W n f,Nz.Sc.acM (aeo s) (Tg.aar t.text).2.1 (Tg.aar t.text).2.2=.ok (W,n,f)∧s.op.length < 64∧aaw s t=opened s t (Tg.aar t.text).2.1 W n f:=by
 unfold aaw at h ⊢;by_cases c1:s.root=true∧s.op=[]
 · rw[if_pos c1] at h;exact absurd h (by rw[aoq];decide)
 rw[if_neg c1] at h ⊢;by_cases c2:(Tg.aar t.text).1≠0
 · rw[if_pos c2] at h;exact absurd h c2
 rw[if_neg c2] at h ⊢;obtain⟨W,n,f,h1,h2,h3⟩:=ayl (fun c hc=>by rcases agj hc with h | h <;> rw[h] <;> decide) h;exact⟨c1,Decidable.not_not.1 c2,W,n,f,h1,h2,h3⟩
def stepW:Option (Nat × Bool × Bool)→Ev→Option (Nat × Bool × Bool)
 | none,_=>none
 | some (d,z,p),.opn _ _=>if d=0∧z=false then none else if 64≤d then none else some (d+1,false,false)
 | some (d,z,p),.txt s=>if d=0 then none else if s.size=0∨p=true then none else some (d,false,true)
 | some (d,z,p),.cls=>if d=0 then none else some (d - 1,false,false)
def avl (l:List Ev):Option (Nat × Bool × Bool):=l.foldl stepW (some (0,true,false))
theorem afS (l m:List Ev):avl (l++m)=m.foldl stepW (avl l):=List.foldl_append ..
structure Jn (s:St)(out:List Ev):Prop where
 run:avl out=some (s.op.length,!s.root,false)
 nil:s.root= !out.isEmpty
 dep:s.op.length≤64
 wt:s.op=[]→s.wait.size=0
 rt:s.op≠[]→s.root=true
 ov:s.over=true→s.op=[]∧s.root=true
theorem jn0:Jn st0 []:=⟨rfl,rfl,by decide,fun _=>rfl,fun h=>absurd rfl h,fun h=>by cases h⟩
theorem aeu:Nz.em.size=0:=rfl
theorem ang {s:St}{out:List Ev}(h:Jn s out):∃ p,avl (out++aaX s.wait)=some (s.op.length,!s.root,p):=by
 unfold aaX;by_cases c:s.wait.size=0
 · rw[if_pos c,List.append_nil];exact⟨_,h.run⟩
 · rw[if_neg c,afS,h.run];have hop:s.op≠[]:=fun e=>c (h.wt e);have hl:s.op.length≠0:=fun e=>hop (List.eq_nil_of_length_eq_zero e);refine⟨true,?_⟩;rw[h.rt hop];simp[stepW,hl,c]
theorem ayg {s:St}{out:List Ev}{t:Tok}{nm:ByteArray}{W:List Pr}{n:Pr}{f:List Tr}(h:Jn s out)(hr:¬ (s.root=true∧s.op=[]))(hl:s.op.length < 64):Jn (opened s t nm W n f).1 (out++(opened s t nm W n f).2.1):=by
 obtain⟨p,hp⟩:=ang h
 have h1:avl (out++aaX s.wait++[.opn n f])=some (s.op.length+1,false,false):=by
  rw[afS,hp];simp only[List.foldl_cons,List.foldl_nil,stepW];rw[if_neg,if_neg (by omega)];rintro ⟨e1,e2⟩;exact hr ⟨by simpa using e2,List.eq_nil_of_length_eq_zero e1⟩
 have hov:s.over=true→False:=fun hov=>hr ⟨(h.ov hov).2,(h.ov hov).1⟩;unfold opened;by_cases c:t.empty=true
 · rw[if_pos c];refine⟨?_,by simp,h.dep,fun _=>rfl,fun _=>rfl,fun e=>(hov e).elim⟩;show avl (out++(aaX s.wait++[.opn n f,.cls]))=_;rw[show out++(aaX s.wait++[.opn n f,.cls])=(out++aaX s.wait++[.opn n f])++[.cls] by simp,afS,h1];simp[stepW]
 · rw[if_neg c];refine⟨?_,by simp,by simp;omega,fun _=>rfl,fun _=>rfl,fun e=>(hov e).elim⟩;show avl (out++(aaX s.wait++[.opn n f]))=_;rw[← List.append_assoc,h1];simp
theorem getLast_map {α β:Type}{l:List α}{g:α→β}{y:β}(h:l.getLast?.map g=some y):l≠[]:=by
 rintro rfl;simp at h
theorem arJ {s:St}{out:List Ev}{t:Tok}(h:Jn s out)(h0:(aaP s t).2.2=0):Jn (aaP s t).1 (out++(aaP s t).2.1)∧(aaP s t).1.over=decide (t.kind=6)∧(aaP s t).1.err=0∧s.over=false:=by
 unfold aaP at h0 ⊢;by_cases c1:s.over=true
 · rw[if_pos c1] at h0;exact absurd h0 (show ¬ ((15:Int)=0) by decide)
 rw[if_neg c1] at h0 ⊢;by_cases c2:s.err≠0
 · rw[if_pos c2] at h0;exact absurd h0 c2
 rw[if_neg c2] at h0 ⊢;have he:s.err=0:=Decidable.not_not.1 c2;have hv:s.over=false:=(by simpa using c1);unfold adD at h0 ⊢;by_cases k1:t.kind=1
 · rw[if_pos k1] at h0 ⊢;obtain⟨a1,a2,W,n,f,a3,a4,a5⟩:=anF h0;rw[a5];refine⟨ayg h a1 a4,?_,?_,hv⟩
   · unfold opened;split <;> simp[hv,k1]
   · unfold opened;split <;> exact he
 rw[if_neg k1] at h0 ⊢;by_cases k2:t.kind=2
 · rw[if_pos k2] at h0 ⊢;unfold adR at h0 ⊢;by_cases c3:inner s=some t.text
   · rw[if_pos c3];have hop:s.op≠[]:=getLast_map c3;obtain⟨p,hp⟩:=ang h;have hl:s.op.length≠0:=fun e=>hop (List.eq_nil_of_length_eq_zero e);refine⟨⟨?_,by simp[h.rt hop],by simp;have:=h.dep;omega,fun _=>rfl,fun _=>h.rt hop,fun e=>by rw[show s.over=true from e] at hv;cases hv⟩,?_,he,hv⟩
     · show avl (out++(aaX s.wait++[.cls]))=_;rw[← List.append_assoc,afS,hp];simp[stepW,hl,h.rt hop]
     · simp[hv,k2]
   · rw[if_neg c3] at h0;exact absurd h0 (by rw[aoq];decide)
 rw[if_neg k2] at h0 ⊢;by_cases k3:t.kind=3
 · rw[if_pos k3] at h0 ⊢;unfold acK at h0 ⊢;by_cases c3:s.op≠[]
   · rw[if_pos c3];refine⟨⟨by simpa using h.run,by simpa using h.nil,h.dep,fun e=>absurd e c3,h.rt,h.ov⟩,by simp[hv,k3],he,hv⟩
   · rw[if_neg c3] at h0 ⊢;by_cases c4:t.blank=true
     · rw[if_pos c4];exact⟨by simpa using h,by simp[hv,k3],he,hv⟩
     · rw[if_neg c4] at h0;exact absurd h0 (by rw[aoq];decide)
 rw[if_neg k3] at h0 ⊢;by_cases k6:t.kind=6
 · rw[if_pos k6] at h0 ⊢;unfold lastT at h0 ⊢;by_cases c3:s.op≠[]
   · rw[if_pos c3] at h0;exact absurd h0 (by rw[aoq];decide)
   rw[if_neg c3] at h0 ⊢;by_cases c4:s.root=false
   · rw[if_pos c4] at h0;exact absurd h0 (by rw[aoq];decide)
   rw[if_neg c4];refine⟨⟨by simpa using h.run,by simpa using h.nil,h.dep,h.wt,h.rt,fun _=>⟨Decidable.not_not.1 c3,by simpa using c4⟩⟩,by simp[k6],he,hv⟩
 · rw[if_neg k6];exact⟨by simpa using h,by simp[hv,k6],he,hv⟩
end Go.Proofs.YtnomcldpbkinmaaGreatDoor.Wl
