/- Lemmas of the claim. -/
import Derived.Test.YtiaebhomfebagaaGreatDoorG12
import Derived.Test.YtiaebhomfebagaaGreatDoorG05
import Derived.Laws.OwnMore
import Derived.Deep.RegionLaw
import Derived.OwnWalk
import Derived.Deep.RegionHeld3
import Derived.Lib.Hide
import Derived.Lib.UnsafeStr
import Derived.Lib.AppendStr
import Derived.Lib.BufferWrite
import Derived.Deep.RegionWith
set_option maxHeartbeats 4000000
set_option maxRecDepth 100000
set_option linter.unusedSimpArgs false
set_option linter.unusedVariables false
namespace Go.Proofs.YtiaebhomfebagaaGreatDoor.Tg
open Go.RowKit
theorem avc (v:Bool)(l:List Int)(hl:l≠[])(hn:NN l)(h:(aaR v l).1=0):∃ r,(aaR v l).2.1=aat r∧Chr r∧(aat r).length≤2 * (aaR v l).2.2:=by
 unfold aaR at h ⊢;by_cases c1:l.getD 0 0=38
 · rw[if_pos c1] at h ⊢;by_cases c2:59∈l.tail∧0≤agX (abj l.tail)
   · rw[if_pos c2];refine⟨_,rfl,atB _ c2.2,?_⟩;have:=(abT (agX (abj l.tail))).2;show _≤2 * ((abj l.tail).length+2);omega
   · rw[if_neg c2] at h;exact absurd h (by decide)
 rw[if_neg c1] at h ⊢;by_cases c2:l.getD 0 0=13
 · rw[if_pos c2];refine⟨blk v 10,?_,?_,?_⟩
   · cases v <;> rfl
   · cases v <;> decide
   · have:(aat (blk v 10)).length=1:=(by cases v <;> rfl);show _≤2 * (if l.getD 1 0=10 then 2 else 1);split <;> omega
 rw[if_neg c2] at h ⊢;by_cases c3:l.getD 0 0=9∨l.getD 0 0=10
 · rw[if_pos c3];refine⟨blk v (l.getD 0 0),?_,?_,?_⟩
   · rcases c3 with c | c <;> rw[c] <;> cases v <;> rfl
   · rcases c3 with c | c <;> rw[c] <;> cases v <;> decide
   · have:(aat (blk v (l.getD 0 0))).length=1:=by rcases c3 with c | c <;> rw[c] <;> cases v <;> rfl
     show _≤2 * 1;omega
 rw[if_neg c3] at h ⊢;by_cases c4:(aaX l).2.2≠0
 · rw[if_pos c4] at h;exact absurd h c4
 rw[if_neg c4] at h ⊢;by_cases c5:Chr (aaX l).1
 · rw[if_pos c5];have hi:=aiK l hl (fun k=>hn.getD k) (Decidable.not_not.1 c4);refine⟨_,rfl,c5,?_⟩;have h2:=hi.2.1;show _≤2 * (aaX l).2.1.toNat;omega
 · rw[if_neg c5] at h;exact absurd h (by decide)
theorem agC (v:Bool):∀ (n:Nat) (L:List Int),L.length≤n→NN L→(aaY v L).2.2=0→Rt (aaY v L).1∧NN (aaY v L).1∧(∀ x∈(aaY v L).1,x≤255)∧(aaY v L).1.length≤2 * L.length
 | n,L,h,hn,h0=>by
   by_cases hl:L=[]
   · subst hl;rw[ajI];exact⟨⟨rfl,fun r hr=>by simp[ade] at hr⟩,fun x hx=>by simp at hx,fun x hx=>by simp at hx,by simp⟩
   match n with
   | 0=>exact absurd (List.eq_nil_of_length_eq_zero (by omega)) hl
   | n+1=>
     by_cases he:(aaR v L).1=0
     · have hb:=ahT v L hl hn he;obtain⟨r,e1,e2,e3⟩:=avc v L hl hn he;rw[aix v L hl hn he] at h0 ⊢;obtain⟨i1,i2,i3,i4⟩:=agC v n (L.drop (aaR v L).2.2) (by rw[List.length_drop];omega) (hn.drop _) h0;rw[List.length_drop] at i4;dsimp only;rw[e1];have hg:=aiR e2;have hq:=aef r hg;refine⟨?_,?_,?_,?_⟩
       · unfold Rt at i1 ⊢;rw[anr r _ hg i2];refine⟨i1.1,fun x hx=> ?_⟩;rcases List.mem_cons.1 hx with hx | hx
         · rw[hx];exact e2
         · exact i1.2 x hx
       · intro x hx;rcases List.mem_append.1 hx with hx | hx
         · exact hq.1 x hx
         · exact i2 x hx
       · intro x hx;rcases List.mem_append.1 hx with hx | hx
         · exact hq.2 x hx
         · exact i3 x hx
       · rw[List.length_append];omega
     · rw[ajk v L hl he] at h0;exact absurd h0 he
theorem axA (a:ByteArray)(h:(acF true (aad a)).2.2=0):Rt (aad (strOfNums (acF true (aad a)).1))∧(strOfNums (acF true (aad a)).1).size≤2 * a.size:=by
 have h0:(aaY true (aad a)).2.2=0:=by
  unfold acF at h;split at h
  · assumption
  · exact h
 have hz:(acF true (aad a)).1=(aaY true (aad a)).1:=by unfold acF;rw[if_pos h0]
 obtain⟨i1,i2,i3,i4⟩:=agC true _ (aad a) (Nat.le_refl _) (abn a) h0;rw[hz];have e:=aeo _ i2 i3;refine⟨by rw[e];exact i1,?_⟩;rw[← aae,e,← aae a];exact i4
def PrI (m:Nat)(x:Int × ByteArray × ByteArray × ByteArray):Prop:=x.1=0→isN x.2.1=true∧Rt (aad x.2.2.1)∧x.2.1.size≤m∧x.2.2.1.size≤2 * m
theorem a3F (q:UInt8)(nm u:ByteArray)(m:Nat)(hn:isN nm=true)(h1:nm.size≤m)(h2:u.size≤m):PrI m (aki q nm u):=by
 unfold aki;split
 · intro h;exact absurd h (by decide)
 split
 · rename_i h;intro h';exact absurd h' h
 · rename_i h;intro _;have:=axA (u.extract 0 (qi q u).toNat) (Decidable.not_not.1 h)
   have hz:(u.extract 0 (qi q u).toNat).size≤u.size:=by
    rw[← aae,abV,List.length_take,aae];omega
   exact⟨hn,this.1,h1,Nat.le_trans this.2 (by omega)⟩
theorem a4i (u:ByteArray):PrI u.size (aap u):=by
 unfold aap;have z0:=auD u;have z1:=Nz.aaD u (Nz.sn u 0);have z2:=abo (Nz.fr u (Nz.sn u 0));have z3:=Nz.aaD (sk (Nz.fr u (Nz.sn u 0))) 1;have z4:=abo (Nz.fr (sk (Nz.fr u (Nz.sn u 0))) 1);have z5:=Nz.aaD (sk (Nz.fr (sk (Nz.fr u (Nz.sn u 0))) 1)) 1;by_cases c1:isN (Nz.sx u 0)=false
 · rw[if_pos c1];intro h;exact absurd h (by decide)
 rw[if_neg c1];have c1':isN (Nz.sx u 0)=true:=(by simpa using c1);by_cases c2:hd (sk (Nz.fr u (Nz.sn u 0)))≠61
 · rw[if_pos c2];intro h;exact absurd h (by decide)
 rw[if_neg c2];by_cases c3:hd (sk (Nz.fr (sk (Nz.fr u (Nz.sn u 0))) 1))=34
 · rw[if_pos c3];exact a3F _ _ _ _ c1' z0 (by omega)
 rw[if_neg c3];by_cases c4:hd (sk (Nz.fr (sk (Nz.fr u (Nz.sn u 0))) 1))=39
 · rw[if_pos c4];exact a3F _ _ _ _ c1' z0 (by omega)
 rw[if_neg c4];intro h;exact absurd h (by decide)
def LsI (m:Nat)(l:List (ByteArray × ByteArray)):Prop:=l.length≤32∧(∀ k x,l[k]?=some x→Rg1 l k x)∧∀ x∈l,x.1.size≤m∧x.2.size≤2 * m
theorem a1K {m:Nat}{l:List (ByteArray × ByteArray)}{x:ByteArray × ByteArray}(h:LsI m l)(hl:¬ 32≤l.length)(hn:isN x.1=true)(hr:Rt (aad x.2))(hh:adK x.1 l=false)(h1:x.1.size≤m)(h2:x.2.size≤2 * m):LsI m (l++[x]):=by
 refine⟨by rw[List.length_append,List.length_singleton];omega,fun k y hy=> ?_,fun y hy=> ?_⟩
 · have hk:k < l.length+1:=by
    have:=(List.getElem?_eq_some_iff.1 hy).1;rw[List.length_append,List.length_singleton] at this;exact this
   have key:∀ j z,j < l.length→(l++[x])[j]?=some z→l[j]?=some z:=fun j z hj hz=>by rw[List.getElem?_append_left hj] at hz;exact hz
   rcases Nat.lt_or_ge k l.length with g | g
   · have:=h.2.1 k y (key k y g hy);exact⟨this.1,this.2.1,fun j z hj hz=>this.2.2 j z hj (key j z (by omega) hz)⟩
   · obtain rfl:k=l.length:=by omega
     have:y=x:=by
      rw[List.getElem?_append_right (Nat.le_refl _)] at hy
      simpa using hy.symm
     subst this;refine⟨hn,hr,fun j z hj hz=> ?_⟩;have hz':=key j z hj hz;unfold adK at hh;rw[List.any_eq_false] at hh;have:=hh z (List.mem_of_getElem? hz')
     simpa using this
 · rcases List.mem_append.1 hy with hy | hy
   · exact h.2.2 y hy
   · have:y=x:=(by simpa using hy);subst this;exact⟨h1,h2⟩
theorem a2L (m:Nat):∀ (f:Nat) (nm:ByteArray) (l:List (ByteArray × ByteArray)) (u:ByteArray),u.size≤m→LsI m l→(goF f nm l u).1=0→(goF f nm l u).2.1=nm∧LsI m (goF f nm l u).2.2
 | 0,nm,l,u,_,hI,_=>⟨rfl,hI⟩
 | f+1,nm,l,u,hu,hI,h=>by
   have hpi:=a4i (sk u);have hpl:= @aic (sk u);have hs:=abo u;unfold goF at h ⊢;generalize aap (sk u)=P at *;by_cases c1:(sk u).size=0
   · rw[if_pos c1];exact⟨rfl,hI⟩
   rw[if_neg c1] at h ⊢;by_cases c2:bk u=0
   · rw[if_pos c2] at h;exact absurd (show (6:Int)=0 from h) (by decide)
   rw[if_neg c2] at h ⊢;by_cases c3:P.1≠0
   · rw[if_pos c3] at h;exact absurd (show P.1=0 from h) c3
   rw[if_neg c3] at h ⊢;by_cases c4:adK P.2.1 l=true
   · rw[if_pos c4] at h;exact absurd (show (8:Int)=0 from h) (by decide)
   rw[if_neg c4] at h ⊢;by_cases c5:32≤l.length
   · rw[if_pos c5] at h;exact absurd (show (13:Int)=0 from h) (by decide)
   rw[if_neg c5] at h ⊢;have c3':=Decidable.not_not.1 c3;obtain⟨p1,p2,p3,p4⟩:=hpi c3';have hlt:=hpl c3';exact a2L m f _ _ _ (by omega) (a1K hI c5 p1 p2 (by simpa using c4) (Nat.le_trans p3 (by omega)) (Nat.le_trans p4 (by omega))) h
theorem ayx (s:ByteArray)(h:(aaE s).1=0):RgP (aaE s).2.1 (aaE s).2.2∧(aaE s).2.1.size≤s.size∧∀ x∈(aaE s).2.2,x.1.size≤s.size∧x.2.size≤2 * s.size:=by
 unfold aaE at h ⊢;by_cases c:isN (Nz.sx s 0)=false
 · rw[if_pos c] at h;exact absurd h (by decide)
 rw[if_neg c] at h ⊢;unfold GoF at h ⊢;have hz:=Nz.aaD s (Nz.sn s 0);obtain⟨g1,g2⟩:=a2L s.size _ _ [] _ (by omega) ⟨by simp,fun k x hx=>by simp at hx,fun x hx=>by simp at hx⟩ h;rw[g1];exact⟨⟨by simpa using c,g2.1,g2.2.1⟩,auD s,g2.2.2⟩
end Go.Proofs.YtiaebhomfebagaaGreatDoor.Tg
namespace Go.Proofs.YtiaebhomfebagaaGreatDoor.Nz.Sc
abbrev P2:=ByteArray × ByteArray
def xn:ByteArray:=⟨#[120,109,108,110,115]⟩
def xm:ByteArray:=⟨#[120,109,108]⟩
def XS:ByteArray:=⟨#[104,116,116,112,58,47,47,119,119,119,46,119,51,46,111,114,103,47,88,77,76,47,49,57,57,56,47,110,97,109,101,115,112,97,99,101]⟩
def XN:ByteArray:=⟨#[104,116,116,112,58,47,47,119,119,119,46,119,51,46,111,114,103,47,50,48,48,48,47,120,109,108,110,115,47]⟩
def eqb (x y:ByteArray):Bool:=x.toList == y.toList
theorem toList_inj {a b:ByteArray}(h:a.toList=b.toList):a=b:=by
 rw[Lib.toList_data,Lib.toList_data] at h;apply ByteArray.ext;exact Array.toList_inj.1 h
theorem ada {x y:ByteArray}:eqb x y=true↔x=y:=by
 unfold eqb;rw[beq_iff_eq];exact⟨toList_inj,fun h=>by rw[h]⟩
theorem abC (x:ByteArray):eqb x x=true:=ada.2 rfl
def acn (l:List P2)(p:ByteArray):ByteArray × Bool:=l.foldl (fun a b=>if eqb b.1 p=true then (b.2,true) else a) (em,eqb p em)
theorem adJ (l:List P2)(b:P2)(p:ByteArray):acn (l++[b]) p=if eqb b.1 p=true then (b.2,true) else acn l p:=by
 unfold acn;rw[List.foldl_append];rfl
theorem aey {α:Type}(l:List α)(k:Nat)(x:α)(h:l[k]?=some x):l.take (k+1)=l.take k++[x]:=by
 rw[List.take_add_one,h];rfl
theorem amm (l:List P2)(p:ByteArray)(k:Nat)(h:∀ (j:Nat) (x:P2),k≤j→l[j]?=some x→eqb x.1 p=false):acn l p=acn (l.take k) p:=by
 have key:∀ d k,l.length - k=d→(∀ (j:Nat) (x:P2),k≤j→l[j]?=some x→eqb x.1 p=false)→acn l p=acn (l.take k) p:=by
  intro d
  induction d with
  | zero=>intro k hd _;rw[List.take_of_length_le (by omega)]
  | succ d ih=>
    intro k hd hk;have hlt:k < l.length:=(by omega);have hx:=List.getElem?_eq_getElem hlt;rw[ih (k+1) (by omega) (fun j x hj=>hk j x (by omega)),aey l k _ hx,adJ,if_neg (by rw[hk k _ (Nat.le_refl _) hx];simp)]
 exact key _ k rfl h
theorem ame (l:List P2)(p:ByteArray)(h:∀ (j:Nat) (x:P2),l[j]?=some x→eqb x.1 p=false):acn l p=(em,eqb p em):=by
 rw[amm l p 0 (fun j x _=>h j x)];rfl
theorem axY (l:List P2)(p:ByteArray)(k:Nat)(b:P2)(hk:l[k]?=some b)(he:eqb b.1 p=true)(h:∀ (j:Nat) (x:P2),k < j→l[j]?=some x→eqb x.1 p=false):acn l p=(b.2,true):=by
 rw[amm l p (k+1) (fun j x hj=>h j x (by omega)),aey l k b hk,adJ,if_pos he]
theorem aik (l:List P2)(p:ByteArray)(k:Nat)(b:P2)(hk:l[k]?=some b):acn (l.take (k+1)) p=if eqb b.1 p=true then (b.2,true) else acn (l.take k) p:=by
 rw[aey l k b hk,adJ]
def aoi (l:List P2)(p n:ByteArray):Option P2:=if (acn l p).2=false∨eqb p xn=true then none else some ((acn l p).1,n)
def alJ (l:List P2)(s:ByteArray):Option P2:=if (aak s).2.2=false then none else aoi l (aak s).1 (aak s).2.1
def ano (l:List P2)(s:ByteArray):Option P2:=if (aak s).2.2=false then none else if eqb (aak s).1 em=true then some (em,(aak s).2.1) else aoi l (aak s).1 (aak s).2.1
def aeR (s:ByteArray):Option ByteArray:=if eqb (aak s).1 xn=true then some (aak s).2.1 else if eqb (aak s).1 em=true∧eqb (aak s).2.1 xn=true then some em else none
def okB (p s:ByteArray):Bool:= !(eqb p xn || eqb s XN) && (eqb p xm == eqb s XS) && (eqb p em || !eqb s em)
def aaM:List P2→List P2→Option (List P2)
 | l,[]=>some l
 | l,a :: r=>match aeR a.1 with
   | none=>aaM l r
   | some p=>if okB p a.2=true then aaM (l++[(p,a.2)]) r else none
abbrev P3:=P2 × ByteArray
def adK (n:P2)(f:List P3):Bool:=f.any fun x=>eqb x.1.1 n.1 && eqb x.1.2 n.2
theorem afR {n:P2}{f:List P3}:adK n f=true↔n∈f.map (·.1):=by
 unfold adK;rw[List.any_eq_true,List.mem_map];constructor
 · rintro ⟨x,hx,h⟩;rw[Bool.and_eq_true,ada,ada] at h;exact⟨x,hx,Prod.ext h.1 h.2⟩
 · rintro ⟨x,hx,h⟩;refine⟨x,hx,?_⟩;rw[← h,abC,abC];rfl
def adl (W:List P2):List P3→List P2→Except Int (List P3)
 | f,[]=>.ok f
 | f,a :: r=>match aeR a.1 with
   | some _=>adl W f r
   | none=>match ano W a.1 with
     | none=>.error 9
     | some n=>if adK n f=true then .error 8 else adl W (f++[(n,a.2)]) r
def afq (l:List P2)(nm:ByteArray)(r:List P2):Except Int (List P2 × P2 × List P3):=
 match aaM l r with
 | none=>.error 9
 | some W=>match alJ W nm with
   | none=>.error 9
   | some n=>match adl W [] r with
     | .error c=>.error c
     | .ok f=>.ok (W,n,f)
def akI (l:List P2):List P2→List ByteArray→Option (List P2)
 | f,[]=>some f
 | f,s :: r=>match alJ l s with
   | none=>none
   | some n=>akI l (f++[n]) r
theorem asJ {s:ByteArray}(h:(aak s).2.2=true):(pl (bl s)=true∧aak s=(em,s,true))∨∃ i,Hit s i∧aak s=(s.extract 0 i,s.extract (i+1) s.size,true):=by
 cases hp:pl (bl s) with
 | true=>exact .inl ⟨rfl,agk hp⟩
 | false=>
   by_cases hn:∃ i,Hit s i
   · obtain⟨i,hi⟩:=hn;exact .inr ⟨i,hi,aji hi⟩
   · rw[alK hp (fun i _ hi=>hn ⟨i,hi⟩)] at h;cases h
def Lim:Nat:=140737488351232
def aeA (l:List P2):Prop:=∀ x∈l,x.1.size≤Lim∧x.2.size≤Lim
theorem aeh:em.size=0:=rfl
theorem abH (s:ByteArray):(aak s).1.size≤s.size∧(aak s).2.1.size≤s.size:=by
 unfold aak;split
 · split <;> simp[aeh]
 · split <;> simp[aeh] <;> omega
theorem atH {l:List P2}(h:aeA l)(p:ByteArray):(acn l p).1.size≤Lim:=by
 have key:∀ k,(acn (l.take k) p).1.size≤Lim:=by
  intro k
  induction k with
  | zero=>simp[acn,aeh]
  | succ k ih=>
    by_cases hk:k < l.length
    · rw[aik l p k _ (List.getElem?_eq_getElem hk)];split
      · exact(h _ (List.getElem_mem hk)).2
      · exact ih
    · rw[List.take_of_length_le (by omega)];rw[List.take_of_length_le (by omega)] at ih;exact ih
 have:=key l.length
 rwa [List.take_of_length_le (Nat.le_refl _)] at this
theorem afM:∀ (r l:List P2) {W:List P2},aeA l→aeA r→aaM l r=some W→aeA W
 | [],l,W,hl,_,h=>by
   injection h with h
   rw[← h];exact hl
 | a :: r,l,W,hl,hr,h=>by
   unfold aaM at h;have hr':aeA r:=fun x hx=>hr x (List.mem_cons_of_mem _ hx);have ha:=hr a List.mem_cons_self;split at h
   · exact afM r l hl hr' h
   · rename_i p hp;split at h
     · refine afM r _ (fun x hx=> ?_) hr' h;rcases List.mem_append.1 hx with hx | hx
       · exact hl x hx
       · rw[List.mem_singleton] at hx;subst hx;refine⟨?_,ha.2⟩;unfold aeR at hp;split at hp
         · injection hp with hp
           rw[← hp];exact Nat.le_trans (abH a.1).2 ha.1
         · split at hp
           · injection hp with hp
             rw[← hp];simp[aeh]
           · cases hp
     · cases h
theorem afF:∀ (r l:List P2) {W:List P2},aaM l r=some W→l.length≤W.length∧W.length≤l.length+r.length∧W.take l.length=l
 | [],l,W,h=>by
   injection h with h
   subst h;simp
 | a :: r,l,W,h=>by
   unfold aaM at h;split at h
   · have:=afF r l h;rw[List.length_cons];exact⟨this.1,by omega,this.2.2⟩
   · split at h
     · obtain⟨h1,h2,h3⟩:=afF r _ h;rw[List.length_append,List.length_cons,List.length_nil] at h1 h2 h3;rw[List.length_cons];refine⟨by omega,by omega,?_⟩;have:=congrArg (List.take l.length) h3;rw[List.take_take,Nat.min_eq_left (by omega),List.take_left' rfl] at this;exact this
     · cases h
theorem alL (W:List P2):∀ (r:List P2) (f:List P3) {g:List P3},adl W f r=.ok g→g.length≤f.length+r.length
 | [],f,g,h=>by
   injection h with h
   subst h;simp
 | a :: r,f,g,h=>by
   unfold adl at h;rw[List.length_cons];split at h
   · have:=alL W r f h;omega
   · split at h
     · cases h
     · split at h
       · cases h
       · have:=alL W r _ h;rw[List.length_append,List.length_cons,List.length_nil] at this;omega
end Go.Proofs.YtiaebhomfebagaaGreatDoor.Nz.Sc
namespace Go.Proofs.YtiaebhomfebagaaGreatDoor.Wl
abbrev Pr:=ByteArray × ByteArray
abbrev Tr:=Pr × ByteArray
inductive Ev where
 | opn (n:Pr) (f:List Tr)
 | txt (s:ByteArray)
 | cls
structure Tok where
 kind:Int
 text:ByteArray
 empty:Bool
 blank:Bool
structure St where
 op:List (ByteArray × List Pr)
 wait:ByteArray
 root:Bool
 over:Bool
 err:Int
def st0:St:=⟨[],Nz.em,false,false,0⟩
def ajl:List Pr:=[(Nz.Sc.xm,Nz.Sc.XS)]
def acI (s:St):List Pr:=match s.op.getLast? with | some x=>x.2 | none=>ajl
def aaH (u:ByteArray):List Ev:=if u.size=0 then [] else [.txt u]
def bad (s:St)(e:Int):St × List Ev × Int:=({ s with err:=e },[],e)
def opened (s:St)(t:Tok)(nm:ByteArray)(W:List Pr)(n:Pr)(f:List Tr):St × List Ev × Int:=
 if t.empty=true then ({ s with wait:=Nz.em,root:=true },aaH s.wait++[.opn n f,.cls],0)
 else ({ s with wait:=Nz.em,root:=true,op:=s.op++[(nm,W)] },aaH s.wait++[.opn n f],0)
def adE (s:St)(t:Tok)(nm:ByteArray):Except Int (List Pr × Pr × List Tr)→St × List Ev × Int
 | .error c=>bad s c
 | .ok (W,n,f)=>if 64≤s.op.length then bad s 13 else opened s t nm W n f
def aan (s:St)(t:Tok):St × List Ev × Int:=
 if s.root=true∧s.op=[] then bad s 11
 else if (Tg.aaE t.text).1≠0 then bad s (Tg.aaE t.text).1
 else adE s t (Tg.aaE t.text).2.1 (Nz.Sc.afq (acI s) (Tg.aaE t.text).2.1 (Tg.aaE t.text).2.2)
def inner (s:St):Option ByteArray:=s.op.getLast?.map (·.1)
def afr (s:St)(t:Tok):St × List Ev × Int:=
 if inner s=some t.text then ({ s with wait:=Nz.em,op:=s.op.dropLast },aaH s.wait++[.cls],0) else bad s 10
def acr (s:St)(t:Tok):St × List Ev × Int:=
 if s.op≠[] then ({ s with wait:=s.wait++t.text },[],0) else if t.blank=true then (s,[],0) else bad s 11
def lastT (s:St):St × List Ev × Int:=
 if s.op≠[] then bad s 7 else if s.root=false then bad s 11 else ({ s with over:=true },[],0)
def adi (s:St)(t:Tok):St × List Ev × Int:=
 if t.kind=1 then aan s t else if t.kind=2 then afr s t else if t.kind=3 then acr s t else if t.kind=6 then lastT s else (s,[],0)
def aaF (s:St)(t:Tok):St × List Ev × Int:=
 if s.over=true then (s,[],15) else if s.err≠0 then (s,[],s.err) else adi s t
def afo (k:Tk):Tok:=⟨k.kind,strOfNums k.text,k.empty,k.blank⟩
def evG (L:List Int):Nat→Nat→St→List Ev→List Ev × Nat × Int
 | 0,a,_,out=>(out,a,0)
 | f+1,a,s,out=>
   if (nx L a).2.2≠0 then (out,a,(nx L a).2.2)
   else if (aaF s (afo (nx L a).1)).2.2≠0 then (out,a,(aaF s (afo (nx L a).1)).2.2)
   else if L.length≤a then (out++(aaF s (afo (nx L a).1)).2.1,a,0)
   else evG L f (a+(nx L a).2.1) (aaF s (afo (nx L a).1)).1 (out++(aaF s (afo (nx L a).1)).2.1)
def evR (L:List Int)(a:Nat)(s:St)(out:List Ev):List Ev × Nat × Int:=evG L (L.length+1 - a) a s out
def evF (L:List Int):List Ev × Nat × Int:=evR L 0 st0 []
theorem anG (L:List Int):∀ (f g a:Nat) (s:St) (out:List Ev),L.length+1≤a+f→L.length+1≤a+g→a≤L.length→evG L f a s out=evG L g a s out
 | 0,g,a,s,out,h1,h2,h3=>by omega
 | f+1,0,a,s,out,h1,h2,h3=>by omega
 | f+1,g+1,a,s,out,h1,h2,h3=>by
   unfold evG;by_cases c1:(nx L a).2.2≠0
   · rw[if_pos c1,if_pos c1]
   rw[if_neg c1,if_neg c1];by_cases c2:(aaF s (afo (nx L a).1)).2.2≠0
   · rw[if_pos c2,if_pos c2]
   rw[if_neg c2,if_neg c2];by_cases c3:L.length≤a
   · rw[if_pos c3,if_pos c3]
   rw[if_neg c3,if_neg c3];have hs:=(ahh L a (by omega)).size (Decidable.not_not.1 c1);rw[List.length_drop] at hs;exact anG L f g _ _ _ (by omega) (by omega) (by omega)
theorem afe (L:List Int)(a:Nat)(s:St)(out:List Ev)(ha:a≤L.length):evR L a s out=evG L ((L.length - a)+1) a s out:=by
 unfold evR;rw[show L.length+1 - a=(L.length - a)+1 by omega]
theorem axL {L:List Int}{a:Nat}(s:St)(out:List Ev)(ha:a≤L.length)(h:(nx L a).2.2≠0):evR L a s out=(out,a,(nx L a).2.2):=by
 rw[afe L a s out ha,evG,if_pos h]
theorem awX {L:List Int}{a:Nat}{s:St}(out:List Ev)(ha:a≤L.length)(h:(nx L a).2.2=0)(h2:(aaF s (afo (nx L a).1)).2.2≠0):evR L a s out=(out,a,(aaF s (afo (nx L a).1)).2.2):=by
 rw[afe L a s out ha,evG,if_neg (by omega),if_pos h2]
theorem akD {L:List Int}{a:Nat}{s:St}(out:List Ev)(ha:a=L.length)(h:(nx L a).2.2=0)(h2:(aaF s (afo (nx L a).1)).2.2=0):evR L a s out=(out++(aaF s (afo (nx L a).1)).2.1,a,0):=by
 rw[afe L a s out (by omega),evG,if_neg (by omega),if_neg (by omega),if_pos (by omega)]
theorem ayG {L:List Int}{a:Nat}{s:St}(out:List Ev)(ha:a < L.length)(h:(nx L a).2.2=0)(h2:(aaF s (afo (nx L a).1)).2.2=0):
 evR L a s out=evR L (a+(nx L a).2.1) (aaF s (afo (nx L a).1)).1 (out++(aaF s (afo (nx L a).1)).2.1):=by
 have hs:=(ahh L a ha).size h;rw[List.length_drop] at hs;rw[afe L a s out (by omega),evG,if_neg (by omega),if_neg (by omega),if_neg (by omega)];unfold evR;exact anG L _ _ _ _ _ (by omega) (by omega) (by omega)
theorem aom (s:St)(e:Int):(bad s e).2.2=e:=rfl
theorem azu {s:St}{t:Tok}{nm:ByteArray}{o:Except Int (List Pr × Pr × List Tr)}(hc:∀ c,o=.error c→c≠0)(h:(adE s t nm o).2.2=0):∃ W n f,o=.ok (W,n,f)∧s.op.length < 64∧adE s t nm o=opened s t nm W n f:=by
 match o,hc,h with
 | .error c,hc,h=>exact absurd h (hc c rfl)
 | .ok (W,n,f),_,h=>
   unfold adE at h ⊢;dsimp only at h ⊢;by_cases c:64≤s.op.length
   · rw[if_pos c] at h;exact absurd h (by rw[aom];decide)
   · rw[if_neg c];exact⟨W,n,f,rfl,by omega,rfl⟩
theorem aec (W:List Pr):∀ (r:List Pr) (f:List Tr) {c:Int},Nz.Sc.adl W f r=.error c→c=8∨c=9
 | [],f,c,h=>by cases h
 | a :: r,f,c,h=>by
   unfold Nz.Sc.adl at h;split at h
   · exact aec W r f h
   · split at h
     · injection h with h
       exact .inr h.symm
     · split at h
       · injection h with h
         exact .inl h.symm
       · exact aec W r _ h
theorem amM {l:List Pr}{nm:ByteArray}{r:List Pr}{c:Int}(h:Nz.Sc.afq l nm r=.error c):c=8∨c=9:=by
 unfold Nz.Sc.afq at h;split at h
 · injection h with h;exact .inr h.symm
 · split at h
   · injection h with h;exact .inr h.symm
   · split at h
     · rename_i h2;injection h with h
       exact h ▸ aec _ _ _ h2
     · cases h
theorem amD {s:St}{t:Tok}(h:(aan s t).2.2=0):¬ (s.root=true∧s.op=[])∧(Tg.aaE t.text).1=0∧∃ W n f,Nz.Sc.afq (acI s) (Tg.aaE t.text).2.1 (Tg.aaE t.text).2.2=.ok (W,n,f)∧s.op.length < 64∧aan s t=opened s t (Tg.aaE t.text).2.1 W n f:=by
 unfold aan at h ⊢;by_cases c1:s.root=true∧s.op=[]
 · rw[if_pos c1] at h;exact absurd h (by rw[aom];decide)
 rw[if_neg c1] at h ⊢;by_cases c2:(Tg.aaE t.text).1≠0
 · rw[if_pos c2] at h;exact absurd h c2
 rw[if_neg c2] at h ⊢;obtain⟨W,n,f,h1,h2,h3⟩:=azu (fun c hc=>by rcases amM hc with h | h <;> rw[h] <;> decide) h;exact⟨c1,Decidable.not_not.1 c2,W,n,f,h1,h2,h3⟩
def stepW:Option (Nat × Bool × Bool)→Ev→Option (Nat × Bool × Bool)
 | none,_=>none
 | some (d,z,p),.opn _ _=>if d=0∧z=false then none else if 64≤d then none else some (d+1,false,false)
 | some (d,z,p),.txt s=>if d=0 then none else if s.size=0∨p=true then none else some (d,false,true)
 | some (d,z,p),.cls=>if d=0 then none else some (d - 1,false,false)
def atp (l:List Ev):Option (Nat × Bool × Bool):=l.foldl stepW (some (0,true,false))
theorem afS (l m:List Ev):atp (l++m)=m.foldl stepW (atp l):=List.foldl_append ..
structure Jn (s:St)(out:List Ev):Prop where
 run:atp out=some (s.op.length,!s.root,false)
 nil:s.root= !out.isEmpty
 dep:s.op.length≤64
 wt:s.op=[]→s.wait.size=0
 rt:s.op≠[]→s.root=true
 ov:s.over=true→s.op=[]∧s.root=true
theorem jn0:Jn st0 []:=⟨rfl,rfl,by decide,fun _=>rfl,fun h=>absurd rfl h,fun h=>by cases h⟩
theorem aeh:Nz.em.size=0:=rfl
theorem amk {s:St}{out:List Ev}(h:Jn s out):∃ p,atp (out++aaH s.wait)=some (s.op.length,!s.root,p):=by
 unfold aaH;by_cases c:s.wait.size=0
 · rw[if_pos c,List.append_nil];exact⟨_,h.run⟩
 · rw[if_neg c,afS,h.run];have hop:s.op≠[]:=fun e=>c (h.wt e);have hl:s.op.length≠0:=fun e=>hop (List.eq_nil_of_length_eq_zero e);refine⟨true,?_⟩;rw[h.rt hop];simp[stepW,hl,c]
theorem a0G {s:St}{out:List Ev}{t:Tok}{nm:ByteArray}{W:List Pr}{n:Pr}{f:List Tr}(h:Jn s out)(hr:¬ (s.root=true∧s.op=[]))(hl:s.op.length < 64):Jn (opened s t nm W n f).1 (out++(opened s t nm W n f).2.1):=by
 obtain⟨p,hp⟩:=amk h
 have h1:atp (out++aaH s.wait++[.opn n f])=some (s.op.length+1,false,false):=by
  rw[afS,hp];simp only[List.foldl_cons,List.foldl_nil,stepW];rw[if_neg,if_neg (by omega)];rintro ⟨e1,e2⟩;exact hr ⟨by simpa using e2,List.eq_nil_of_length_eq_zero e1⟩
 have hov:s.over=true→False:=fun hov=>hr ⟨(h.ov hov).2,(h.ov hov).1⟩;unfold opened;by_cases c:t.empty=true
 · rw[if_pos c];refine⟨?_,by simp,h.dep,fun _=>rfl,fun _=>rfl,fun e=>(hov e).elim⟩;show atp (out++(aaH s.wait++[.opn n f,.cls]))=_;rw[show out++(aaH s.wait++[.opn n f,.cls])=(out++aaH s.wait++[.opn n f])++[.cls] by simp,afS,h1];simp[stepW]
 · rw[if_neg c];refine⟨?_,by simp,by simp;omega,fun _=>rfl,fun _=>rfl,fun e=>(hov e).elim⟩;show atp (out++(aaH s.wait++[.opn n f]))=_;rw[← List.append_assoc,h1];simp
theorem getLast_map {α β:Type}{l:List α}{g:α→β}{y:β}(h:l.getLast?.map g=some y):l≠[]:=by
 rintro rfl;simp at h
theorem ari {s:St}{out:List Ev}{t:Tok}(h:Jn s out)(h0:(aaF s t).2.2=0):Jn (aaF s t).1 (out++(aaF s t).2.1)∧(aaF s t).1.over=decide (t.kind=6)∧(aaF s t).1.err=0∧s.over=false:=by
 unfold aaF at h0 ⊢;by_cases c1:s.over=true
 · rw[if_pos c1] at h0;exact absurd h0 (show ¬ ((15:Int)=0) by decide)
 rw[if_neg c1] at h0 ⊢;by_cases c2:s.err≠0
 · rw[if_pos c2] at h0;exact absurd h0 c2
 rw[if_neg c2] at h0 ⊢;have he:s.err=0:=Decidable.not_not.1 c2;have hv:s.over=false:=(by simpa using c1);unfold adi at h0 ⊢;by_cases k1:t.kind=1
 · rw[if_pos k1] at h0 ⊢;obtain⟨a1,a2,W,n,f,a3,a4,a5⟩:=amD h0;rw[a5];refine⟨a0G h a1 a4,?_,?_,hv⟩
   · unfold opened;split <;> simp[hv,k1]
   · unfold opened;split <;> exact he
 rw[if_neg k1] at h0 ⊢;by_cases k2:t.kind=2
 · rw[if_pos k2] at h0 ⊢;unfold afr at h0 ⊢;by_cases c3:inner s=some t.text
   · rw[if_pos c3];have hop:s.op≠[]:=getLast_map c3;obtain⟨p,hp⟩:=amk h;have hl:s.op.length≠0:=fun e=>hop (List.eq_nil_of_length_eq_zero e);refine⟨⟨?_,by simp[h.rt hop],by simp;have:=h.dep;omega,fun _=>rfl,fun _=>h.rt hop,fun e=>by rw[show s.over=true from e] at hv;cases hv⟩,?_,he,hv⟩
     · show atp (out++(aaH s.wait++[.cls]))=_;rw[← List.append_assoc,afS,hp];simp[stepW,hl,h.rt hop]
     · simp[hv,k2]
   · rw[if_neg c3] at h0;exact absurd h0 (by rw[aom];decide)
 rw[if_neg k2] at h0 ⊢;by_cases k3:t.kind=3
 · rw[if_pos k3] at h0 ⊢;unfold acr at h0 ⊢;by_cases c3:s.op≠[]
   · rw[if_pos c3];refine⟨⟨by simpa using h.run,by simpa using h.nil,h.dep,fun e=>absurd e c3,h.rt,h.ov⟩,by simp[hv,k3],he,hv⟩
   · rw[if_neg c3] at h0 ⊢;by_cases c4:t.blank=true
     · rw[if_pos c4];exact⟨by simpa using h,by simp[hv,k3],he,hv⟩
     · rw[if_neg c4] at h0;exact absurd h0 (by rw[aom];decide)
 rw[if_neg k3] at h0 ⊢;by_cases k6:t.kind=6
 · rw[if_pos k6] at h0 ⊢;unfold lastT at h0 ⊢;by_cases c3:s.op≠[]
   · rw[if_pos c3] at h0;exact absurd h0 (by rw[aom];decide)
   rw[if_neg c3] at h0 ⊢;by_cases c4:s.root=false
   · rw[if_pos c4] at h0;exact absurd h0 (by rw[aom];decide)
   rw[if_neg c4];refine⟨⟨by simpa using h.run,by simpa using h.nil,h.dep,h.wt,h.rt,fun _=>⟨Decidable.not_not.1 c3,by simpa using c4⟩⟩,by simp[k6],he,hv⟩
 · rw[if_neg k6];exact⟨by simpa using h,by simp[hv,k6],he,hv⟩
theorem asc (L:List Int):∀ (d a:Nat) (s:St) (out:List Ev),L.length - a≤d→a≤L.length→Jn s out→∃ n z p,atp (evR L a s out).1=some (n,z,p)∧((evR L a s out).2.2=0→n=0∧z=false)
 | d,a,s,out,hd,ha,h=>by
   by_cases c1:(nx L a).2.2=0
   · by_cases c2:(aaF s (afo (nx L a).1)).2.2=0
     · have hj:=ari h c2;by_cases c3:L.length≤a
       · rw[akD out (by omega) c1 c2];refine⟨_,_,_,hj.1.run,fun _=> ?_⟩;have hk:(nx L a).1.kind=6:=(asj L a c1).2 c3;have ho:=hj.2.1;have:=hj.1.ov (by rw[ho];exact decide_eq_true hk);rw[this.1,this.2];exact⟨rfl,rfl⟩
       · have hs:=(ahh L a (by omega)).size c1;rw[List.length_drop] at hs;rw[ayG out (by omega) c1 c2]
         cases d with
         | zero=>omega
         | succ d=>exact asc L d _ _ _ (by omega) (by omega) hj.1
     · rw[awX out ha c1 c2];exact⟨_,_,_,h.run,fun e=>absurd e c2⟩
   · rw[axL s out ha c1];exact⟨_,_,_,h.run,fun e=>absurd e c1⟩
theorem atu (L:List Int):∃ n z p,atp (evF L).1=some (n,z,p)∧((evF L).2.2=0→n=0∧z=false):=asc L _ 0 st0 [] (Nat.le_refl _) (Nat.zero_le _) jn0
theorem afd (m:List Ev):m.foldl stepW none=none:=by
 induction m with
 | nil=>rfl
 | cons a m ih=>exact ih
end Go.Proofs.YtiaebhomfebagaaGreatDoor.Wl
namespace Go.Proofs.YtiaebhomfebagaaGreatDoor.Nz.Sc
open Go.RowKit
section
variable {α:Type} {f:α→List Value} {z:Nat}
theorem ait (hz:∀ x,(f x).length=z)(l:List α):(l.flatMap f).length=l.length * z:=by
 induction l with
 | nil=>simp
 | cons x l ih=>rw[List.flatMap_cons,List.length_append,hz,ih,List.length_cons,Nat.add_mul,Nat.one_mul,Nat.add_comm]
theorem adF (hz:∀ x,(f x).length=z):∀ (l:List α) (k i:Nat) (t:α),l[k]?=some t→i < z→(l.flatMap f)[k * z+i]?=(f t)[i]?
 | [],k,i,t,h,_=>by simp at h
 | x :: l,0,i,t,h,hi=>by
   have:x=t:=(by simpa using h);subst this;rw[List.flatMap_cons,Nat.zero_mul,Nat.zero_add,List.getElem?_append_left (by rw[hz];exact hi)]
 | x :: l,k+1,i,t,h,hi=>by
   have h':l[k]?=some t:=(by simpa using h);have e:(k+1) * z+i - z=k * z+i:=by rw[Nat.add_mul,Nat.one_mul];omega
   rw[List.flatMap_cons,List.getElem?_append_right (by rw[hz,Nat.add_mul,Nat.one_mul];omega),hz,e];exact adF hz l k i t h' hi
end
def rwC (x:P2):List Value:=[.string x.1,.string x.2]
def rwL (l:List P2):List Value:=l.flatMap rwC
theorem apY (x:P2):(rwC x).length=2:=rfl
theorem ayl (l:List P2):(rwL l).length=l.length * 2:=ait apY l
theorem adz (l:List P2)(k i:Nat)(t:P2)(h:l[k]?=some t)(hi:i < 2):(rwL l)[k * 2+i]?=(rwC t)[i]?:=adF apY l k i t h hi
theorem afk (l:List P2)(t:P2):rwL (l++[t])=rwL l++rwC t:=by unfold rwL;simp
theorem axT (x:P2):∀ u∈rwC x,u.oneCell'=true:=by
 intro u hu;unfold rwC at hu;simp only[List.mem_cons,List.not_mem_nil,or_false] at hu;rcases hu with rfl | rfl <;> rfl
def RdR (w:World)(A:Option Addr)(l:List P2):Prop:=
 ∀ k x,l[k]?=some x→∃ b off,A=some ⟨b,off,none⟩∧b < w.heap.size∧w.cell? ⟨b,off+k * 2,none⟩=some (.string x.1)∧w.cell? ⟨b,off+k * 2+1,none⟩=some (.string x.2)
def agQ (e:TypeId)(w:World)(B:Nat)(v:Value)(l:List P2):Prop:=w.ownsRow B e 2 v l.length (rwL l)
theorem abI {e:TypeId}{w:World}{B:Nat}{v:Value}{l:List P2}(h:agQ e w B v l):∃ A c,v=.slice A l.length c∧RdR w A l∧(A=none→l.length=0∧c=0)∧∀ b off,A=some ⟨b,off,none⟩→B≤b:=by
 have h':w.ownsRow B e 2 v l.length (rwL l):=h;rcases h'.2 with ⟨rfl,h0⟩ | ⟨g,cap,cur,rfl,hB,_⟩
 · refine⟨none,0,by rw[h0],fun k x hk=> ?_,fun _=>⟨h0,rfl⟩,fun b off hh=>by cases hh⟩;rw[List.eq_nil_of_length_eq_zero h0] at hk;simp at hk
 · refine⟨_,cap,rfl,fun k x hk=>⟨g,0,rfl,(h'.lt g rfl).2,?_⟩,(fun hh=>by cases hh),(fun b off hh=>by cases hh;exact hB)⟩;have hlt:k < l.length:=(List.getElem?_eq_some_iff.1 hk).1;exact⟨by rw[Nat.zero_add];exact(h'.cellAt (k * 2) (by omega)).trans (adz l k 0 x hk (by omega)),by rw[Nat.zero_add];exact(h'.cellAt (k * 2+1) (by omega)).trans (adz l k 1 x hk (by omega))⟩
theorem RdR.keep {w w':World}{A:Option Addr}{l:List P2}(h:RdR w A l)(hb:Below w.heap.size w w'):RdR w' A l:=fun k t hk=>by
 obtain⟨b,o,e,hlt,c0,c1⟩:=h k t hk;exact⟨b,o,e,Nat.lt_of_lt_of_le hlt hb.size,(hb.cell (p:=⟨b,o+k * 2,none⟩) hlt).trans c0,(hb.cell (p:=⟨b,o+k * 2+1,none⟩) hlt).trans c1⟩
theorem RdR.ajL {w w':World}{A:Option Addr}{l:List P2}{row:Option Nat}(h:RdR w A l)(hg:w.grownBy w' row)(hne:∀ b off,A=some ⟨b,off,none⟩→some b≠row):RdR w' A l:=fun k x hk=>by
 obtain⟨b,o,e,hlt,c0,c1⟩:=h k x hk;have hn:=hne b o e;exact⟨b,o,e,Nat.lt_of_lt_of_le hlt hg.size,hg.cell c0 hn,hg.cell c1 hn⟩
theorem RdR.cells {w:World}{ad:Addr}{l:List P2}(h:RdR w (some ad) l):∀ j u,(rwL l)[j]?=some u→w.cell? (ad.add j)=some u:=by
 intro j u hu;have hj:=(List.getElem?_eq_some_iff.1 hu).1;rw[ayl] at hj;have hk:j / 2 < l.length:=(by omega);obtain⟨b,off,e,_,c0,c1⟩:=h (j / 2) _ (List.getElem?_eq_getElem hk);injection e with e
 subst e;rw[Addr.add_lit];rcases Nat.mod_two_eq_zero_or_one j with hm | hm
 · have g:=adz l (j / 2) 0 _ (List.getElem?_eq_getElem hk) (by omega);rw[show j / 2 * 2+0=j by omega,hu] at g;rw[g,show off+j=off+j / 2 * 2 by omega,c0];rfl
 · have g:=adz l (j / 2) 1 _ (List.getElem?_eq_getElem hk) (by omega);rw[show j / 2 * 2+1=j by omega,hu] at g;rw[g,show off+j=off+j / 2 * 2+1 by omega,c1];rfl
def tC (x:P3):List Value:=[.string x.1.1,.string x.1.2,.string x.2]
def tL (l:List P3):List Value:=l.flatMap tC
theorem a1U (x:P3):(tC x).length=3:=rfl
theorem apd (l:List P3)(k i:Nat)(t:P3)(h:l[k]?=some t)(hi:i < 3):(tL l)[k * 3+i]?=(tC t)[i]?:=adF a1U l k i t h hi
theorem a3N (l:List P3)(t:P3):tL (l++[t])=tL l++tC t:=by unfold tL;simp
theorem a5q (x:P3):∀ u∈tC x,u.oneCell'=true:=by
 intro u hu;unfold tC at hu;simp only[List.mem_cons,List.not_mem_nil,or_false] at hu;rcases hu with rfl | rfl | rfl <;> rfl
def RdT (w:World)(A:Option Addr)(l:List P3):Prop:=
 ∀ k x,l[k]?=some x→∃ b off,A=some ⟨b,off,none⟩∧b < w.heap.size∧w.cell? ⟨b,off+k * 3,none⟩=some (.string x.1.1)∧w.cell? ⟨b,off+k * 3+1,none⟩=some (.string x.1.2)∧w.cell? ⟨b,off+k * 3+2,none⟩=some (.string x.2)
def apz (w:World)(B:Nat)(v:Value)(l:List P3):Prop:=w.ownsRow B 40 3 v l.length (tL l)
theorem a0D {w:World}{B:Nat}{v:Value}{l:List P3}(h:apz w B v l):∃ A c,v=.slice A l.length c∧RdT w A l∧(A=none→l.length=0∧c=0)∧∀ b off,A=some ⟨b,off,none⟩→B≤b:=by
 have h':w.ownsRow B 40 3 v l.length (tL l):=h;rcases h'.2 with ⟨rfl,h0⟩ | ⟨g,cap,cur,rfl,hB,_⟩
 · refine⟨none,0,by rw[h0],fun k x hk=> ?_,fun _=>⟨h0,rfl⟩,fun b off hh=>by cases hh⟩;rw[List.eq_nil_of_length_eq_zero h0] at hk;simp at hk
 · refine⟨_,cap,rfl,fun k x hk=>⟨g,0,rfl,(h'.lt g rfl).2,?_⟩,(fun hh=>by cases hh),(fun b off hh=>by cases hh;exact hB)⟩;have hlt:k < l.length:=(List.getElem?_eq_some_iff.1 hk).1;exact⟨by rw[Nat.zero_add];exact(h'.cellAt (k * 3) (by omega)).trans (apd l k 0 x hk (by omega)),by rw[Nat.zero_add];exact(h'.cellAt (k * 3+1) (by omega)).trans (apd l k 1 x hk (by omega)),by rw[Nat.zero_add];exact(h'.cellAt (k * 3+2) (by omega)).trans (apd l k 2 x hk (by omega))⟩
theorem RdT.keep {w w':World}{A:Option Addr}{l:List P3}(h:RdT w A l)(hb:Below w.heap.size w w'):RdT w' A l:=fun k t hk=>by
 obtain⟨b,o,e,hlt,c0,c1,c2⟩:=h k t hk;exact⟨b,o,e,Nat.lt_of_lt_of_le hlt hb.size,(hb.cell (p:=⟨b,o+k * 3,none⟩) hlt).trans c0,(hb.cell (p:=⟨b,o+k * 3+1,none⟩) hlt).trans c1,(hb.cell (p:=⟨b,o+k * 3+2,none⟩) hlt).trans c2⟩
def RdS (w:World)(A:Option Addr)(l:List ByteArray):Prop:=
 ∀ k x,l[k]?=some x→∃ b off,A=some ⟨b,off,none⟩∧b < w.heap.size∧w.cell? ⟨b,off+k,none⟩=some (.string x)
theorem RdS.keep {w w':World}{A:Option Addr}{l:List ByteArray}(h:RdS w A l)(hb:Below w.heap.size w w'):RdS w' A l:=fun k t hk=>by
 obtain⟨b,o,e,hlt,c0⟩:=h k t hk;exact⟨b,o,e,Nat.lt_of_lt_of_le hlt hb.size,(hb.cell (p:=⟨b,o+k,none⟩) hlt).trans c0⟩
theorem aaj {e:TypeId}{z n:Nat}{w w':World}{B:Nat}{v:Value}{xs:List Value}(h:w.ownsRow B e z v n xs)(hb:Below w.heap.size w w'):w'.ownsRow B e z v n xs:=
 h.kept (row:=none) ⟨hb.os,hb.tape,hb.output,hb.size,fun k hk _=>hb.block k hk⟩ (by
  rcases h.2 with ⟨rfl,_⟩ | ⟨g,cap,cur,rfl,_⟩
  · exact .inl rfl
  · exact .inr (by simp[Value.ownBlock]))
theorem own_ne {w:World}{B:Nat}{e T:TypeId}{z:Nat}{v:Value}{n:Nat}{xs:List Value}{b:Nat}{cs:Array Value}{fr:Nat × Nat}(hown:w.ownsRow B e z v n xs)(hb:w.heap[b]?=some (.cells cs T fr))(hTe:T≠e):v.ownBlock≠some b:=by
 rcases hown.2 with ⟨rfl,_⟩ | ⟨g,cap,cur,rfl,_,hg,_⟩
 · simp[Value.ownBlock]
 · intro h;simp only[Value.ownBlock,Option.some.injEq] at h;subst h;rw[hg] at hb;injection hb with hb
   injection hb with _ h2 _
   exact hTe h2.symm
theorem aaU {w:World}{B:Nat}{e:TypeId}{z n:Nat}{v:Value}{xs:List Value}(h:w.ownsRow B e z v (n+1) xs):∃ g cap,v=.slice (some ⟨g,0,none⟩) (n+1) cap:=by
 rcases h.2 with ⟨_,h0⟩ | ⟨g,cap,cur,rfl,_⟩
 · omega
 · exact⟨g,cap,rfl⟩
theorem aai {w:World}{B:Nat}{e:TypeId}{z n:Nat}{v:Value}{xs:List Value}(h:w.ownsRow B e z v n xs):∃ A cap,v=.slice A n cap:=by
 rcases h.2 with ⟨rfl,h0⟩ | ⟨g,cap,cur,rfl,_⟩
 · exact⟨none,0,by rw[h0]⟩
 · exact⟨_,cap,rfl⟩
theorem aaN {P:Program}{ops:Array Oper}{o:Oper}{a:Act}{w:World}{K:Act→World→Prop}{Q:Exit→Act→World→Prop}{E:Prop}
 (hg:o.guard=none) (s x:Operand) (t:TypeId) (hop:o.op=Op.call { callee:=Callee.builtin Builtin.append,args:= #[s,x],argTypes:= #[t,t] })
 (base:Nat) (e:TypeId) (i:TypeInfo) (z:Value) (size bytes:Nat) (h1:P.underlying t=some (.slice e)) (h2:P.info? e=some i) (h3:i.zero=some z) (h4:i.size=size) (h5:i.bytes=bytes) (h6:z.cells.size=size) (h7:0 < size)
 (v:Value) (n:Nat) (xs:List Value) (hs:a.eval s=v) (hown:w.ownsRow base e size v n xs)
 (ad:Addr) (m c:Nat) (news:List Value) (hx:a.eval x=.slice (some ad) m c) (hn:news.length=m * size) (hc:∀ j u,news[j]?=some u→w.cell? (ad.add j)=some u) (h1c:∀ u∈news,u.oneCell'=true)
 (b1:n+m≤maxLen) (b2:(n+m) * bytes≤140737488355328) (hb:base≤w.heap.size)
 (hK:∀ v' w',w'.ownsRow base e size v' (n+m) (xs++news)→w.grownBy w' v.ownBlock→K (a.put o.dst v') w'):
 if Region.wanted o (yielded ops a.tmps)=true then Oper.wp P o a w K Q else E:=by
 have hw:Region.wanted o (yielded ops a.tmps)=true:=(by simp[Region.wanted,hg]);rw[if_pos hw];obtain⟨v',w',hrun,r1,r2,_⟩:=run_append_own (P:=P) w base t o.type e i z size bytes h1 h2 h3 h4 h5 h6 h7 v n xs hown ad m c news hn hc h1c b1 b2 hb;unfold Oper.wp;simp[execOp,hop,resolve,invoke,builtin,hs,hx,hrun,Result.andThen];exact hK v' w' r1 r2
theorem Tryz.info164:(Tryz.prog.info? 164).map (fun i=>(i.zero,i.size,i.bytes))=some (some (.agg #[.string ⟨#[]⟩,.string ⟨#[]⟩]),2,32):=by kernel_rfl
theorem Tryz.info28:(Tryz.prog.info? 28).map (fun i=>(i.zero,i.size,i.bytes))=some (some (.agg #[.string ⟨#[]⟩,.string ⟨#[]⟩]),2,32):=by kernel_rfl
theorem Tryz.info167:(Tryz.prog.info? 167).map (fun i=>(i.zero,i.size,i.bytes))=some (some (.agg #[.string ⟨#[]⟩,.string ⟨#[]⟩]),2,32):=by kernel_rfl
theorem Tryz.info40:(Tryz.prog.info? 40).map (fun i=>(i.zero,i.size,i.bytes))=some (some (.agg #[.string ⟨#[]⟩,.string ⟨#[]⟩,.string ⟨#[]⟩]),3,48):=by kernel_rfl
theorem aaf {W:World}{b:Nat}{cs:Array Value}{T:TypeId}{fz:Nat × Nat}(h:W.heap[b]?=some (.cells cs T fz))(j:Nat){u:Value}(hu:cs[j]?=some u):W.cell? ⟨b,j,none⟩=some u:=(Lib.cell_of_heap h j).trans hu
theorem aag {W:World}{b:Nat}{cs:Array Value}{T:TypeId}(h:W.heap[b]?=some (.cells cs T (0,0)))(j:Nat):W.frozen? ⟨b,j,none⟩=false:=by
 unfold World.frozen?;rw[h];simp
theorem cells5 {W:World}{b:Nat}{a0 a1 a2 a3 a4:Value}{T:TypeId}{fz:Nat × Nat}(h:W.heap[b]?=some (.cells #[a0,a1,a2,a3,a4] T fz)):W.cell? ⟨b,0,none⟩=some a0∧W.cell? ⟨b,1,none⟩=some a1∧W.cell? ⟨b,2,none⟩=some a2∧W.cell? ⟨b,3,none⟩=some a3∧W.cell? ⟨b,4,none⟩=some a4:=⟨aaf h 0 rfl,aaf h 1 rfl,aaf h 2 rfl,aaf h 3 rfl,aaf h 4 rfl⟩
theorem auR {W:World}{b:Nat}{cs:Array Value}{T:TypeId}(h:W.heap[b]?=some (.cells cs T (0,0))):W.frozen? ⟨b,0,none⟩=false∧W.frozen? ⟨b,1,none⟩=false∧W.frozen? ⟨b,2,none⟩=false∧W.frozen? ⟨b,3,none⟩=false∧W.frozen? ⟨b,4,none⟩=false:=⟨aag h 0,aag h 1,aag h 2,aag h 3,aag h 4⟩
theorem adY {W:World}{b:Nat}{u:Value}(x y:Value)(h0:W.cell? ⟨b,0,none⟩=some u):((W.setCell ⟨b,0,none⟩ x).setCell ⟨b,1,none⟩ y).cell? ⟨b,0,none⟩=some x:=by
 have h1:(⟨b,1,none⟩:Addr)≠⟨b,0,none⟩:=(by simp);have h2:=World.cell?_setCell_same' W ⟨b,0,none⟩ x (by rw[h0];rfl);rw[← h2];exact World.cell?_setCell_other (h:=h1) ..
theorem adX {W:World}{b:Nat}{v:Value}(x y:Value)(h1:W.cell? ⟨b,1,none⟩=some v):((W.setCell ⟨b,0,none⟩ x).setCell ⟨b,1,none⟩ y).cell? ⟨b,1,none⟩=some y:=by
 have h0:(⟨b,0,none⟩:Addr)≠⟨b,1,none⟩:=(by simp);refine World.cell?_setCell_same' _ _ _ ?_;have h2:(W.setCell ⟨b,0,none⟩ x).cell? ⟨b,1,none⟩=W.cell? ⟨b,1,none⟩:=World.cell?_setCell_other (h:=h0) ..;rw[h2,h1];rfl
theorem abN (W:World)(cs:Array Value)(T:TypeId):∀ j u,cs.toList[j]?=some u→(W.alloc (.cells cs T)).cell? ((⟨W.heap.size,0,none⟩:Addr).add j)=some u:=fun j u hu=>by
 rw[Addr.add_lit,Nat.zero_add,Lib.cell_of_heap (heap_alloc_new W (.cells cs T))]
 simpa using hu
end Go.Proofs.YtiaebhomfebagaaGreatDoor.Nz.Sc
namespace Go.Proofs.YtiaebhomfebagaaGreatDoor.Nz.Sc
open Go.RowKit
theorem info5:(Tryz.prog.info? 5).map (fun i=>(i.zero,i.size,i.bytes))=some (some (.int .u8 0),1,1):=by kernel_rfl
theorem afm (s:ByteArray)(w:World)(hlim:s.size≤140737488351232):
 Calls Tryz.prog 37 #[.string s] w fun e w'=>e=.returned (.string s)∧Below w.heap.size w w':=by
 by_cases h0:s.size=0
 · have hs:s=⟨#[]⟩:=by
    apply ByteArray.ext;exact Array.eq_empty_of_size_eq_zero h0
   subst hs;go_enter Tryz.func37,Tryz.ntmps37;go_wp2;go_ret;exact⟨rfl,Below.refl _ _⟩
 · obtain⟨i0,hi,hz0,hz1,hz2⟩:=info_parts info5;have hinfo:(Tryz.prog.info? 5).map (·.size)=some 1:=by rw[hi];simp[hz1]
   have hco:Tryz.prog.cellsOf 5=1:=(by kernel_rfl);obtain⟨M,hM⟩:∃ M,M=madeCells (Value.int .u8 0).cells (((s.size:Nat):Int).toNat * i0.size):=⟨_,rfl⟩;have hMs:M.size=s.size:=by rw[hM,size_madeCells,hz1];simp
   have hmk:∀ W:World,(Instr.makeSlice 57 (.int .i64 (s.size:Int)) (.int .i64 (s.size:Int))).run Tryz.prog W=.ok (.slice (some ⟨W.heap.size,0,none⟩) s.size s.size) (W.alloc (.cells M 5)):=fun W=>by
    have h:=run_make (P:=Tryz.prog) W 57 5 i0 (.int .u8 0) Tryz.underlying57 hi hz0 .i64 .i64 (s.size:Int) (s.size:Int) (by omega) (by omega) (by rw[hz2];omega) (by omega);rw[← hM] at h
    simpa using h
   clear hM;have hcp:=Lib.run_copy_row_string (P:=Tryz.prog) (w.alloc (.cells M 5)) 57 9 3 5 w.heap.size 0 s.size s.size s M 5 Tryz.underlying57 hinfo (heap_alloc_new w _) (Nat.le_refl _) (by omega);obtain⟨Y,hY⟩:∃ Y,Y=(M.toList.take 0++Lib.byteCells s.data.toList++M.toList.drop (0+s.size)).toArray:=⟨_,rfl⟩;rw[← hY] at hcp
   have hYl:Y.toList=Lib.byteCells s.data.toList:=by
    rw[hY,List.toList_toArray,List.take_zero,List.nil_append,List.drop_of_length_le (by rw[Array.length_toList];omega),List.append_nil]
   have hYs:Y.size=s.size:=(by rw[← Array.length_toList,hYl,Lib.byteCells_length,← Lib.size_eq]);have hgY:((w.alloc (.cells M 5)).setRow w.heap.size Y).heap[w.heap.size]?=some (.cells Y 5 (0,0)):=setRow_heap _ _ M _ 5 (0,0) (heap_alloc_new w _);have hne:s.data.toList≠[]:=fun e=>h0 (by rw[Lib.size_eq,e];rfl)
   have hUS:=Lib.run_unsafeString_row (P:=Tryz.prog) ((w.alloc (.cells M 5)).setRow w.heap.size Y) 91 3 9 5 Tryz.underlying91 hco w.heap.size Y.size (by unfold World.shape?;rw[hgY]) s.data.toList hne (by rw[← Lib.size_eq];omega) (by rw[← Lib.size_eq];omega)
    (fun j x hx=>Lib.cells_of_row hgY Y.size j _ (by rw[List.take_of_length_le (by rw[Array.length_toList];exact Nat.le_refl _),hYl];simp[Lib.byteCells,hx]))
   rw[← Lib.size_eq] at hUS;clear hY;go_enter Tryz.func37,Tryz.ntmps37;go_wp2;go_ret;have hb1:Below w.heap.size w (w.alloc (.cells M 5)):=(Below.refl _ w).alloc (Nat.le_refl _) _;have hb2:Below w.heap.size (w.alloc (.cells M 5)) ((w.alloc (.cells M 5)).setRow w.heap.size Y):=⟨rfl,rfl,rfl,by simp,fun k hk=>setRow_other _ _ _ _ (by omega)⟩;exact⟨rfl,Lib.below_freeze (hb1.trans hb2) (p:=⟨w.heap.size,0,none⟩) (Nat.le_refl _) _⟩
theorem aaB (s:ByteArray)(w:World)(hlim:s.size≤Lim):
 Calls Tryz.prog 22 #[.string s] w fun e w'=>e=.returned (.string s)∧Below w.heap.size w w':=by
 have C:=aac (afm s w hlim);clear hlim;go_enter Tryz.func22,Tryz.ntmps22;go_wp2_with (go_at_call 37;refine C.out.mono ?_;rintro e w' ⟨rfl,hb⟩);go_ret;exact⟨rfl,hb⟩
theorem Tryz.results101:Tryz.f101.results= #[ResultVar.cell 2 164]:=by kernel_rfl
def CpS (w:World)(W:World):Prop:=(∃ a b,W.heap[w.heap.size+1]?=some (.cells #[a,b] 164 (0,0)))∧Below w.heap.size w W
theorem CpS.lt {w W:World}(h:CpS w W):w.heap.size+1 < W.heap.size:=by
 obtain⟨⟨a,b,h⟩,_⟩:=h;exact(Array.getElem?_eq_some_iff.1 h).1
theorem CpS.keep {w W W':World}(h:CpS w W)(hb:Below W.heap.size W W'):CpS w W':=by
 have hl:=h.lt;obtain⟨⟨a,b,h⟩,h2⟩:=h;exact⟨⟨a,b,(hb.block _ hl).trans h⟩,h2.trans (hb.mono h2.size)⟩
theorem agt (w:World)(p s:ByteArray):CpS w ((w.alloc (.cells #[.string p,.string s] 164)).alloc (.cells #[.string ⟨#[]⟩,.string ⟨#[]⟩] 164)).drew:=by
 refine⟨⟨.string ⟨#[]⟩,.string ⟨#[]⟩,?_⟩,(((Below.refl _ w).alloc (Nat.le_refl _) _).alloc (by simp) _).drew⟩;have:=heap_alloc_new (w.alloc (.cells #[.string p,.string s] 164)) (.cells #[.string ⟨#[]⟩,.string ⟨#[]⟩] 164);rw[World.size_alloc] at this;exact this
def CpA (w:World)(p s:Value)(W:World):Prop:=W.cell? ⟨w.heap.size,0,none⟩=some p∧W.cell? ⟨w.heap.size,1,none⟩=some s∧Hid (CpS w W)
theorem aeQ {w W w2:World}{p s:Value}(hb:Below W.heap.size W w2)(h:CpA w p s W):CpA w p s w2:=by
 have hl:=h.2.2.out.lt;exact⟨(hb.cell (p:=⟨w.heap.size,0,none⟩) (show w.heap.size < _ by omega)).trans h.1,(hb.cell (p:=⟨w.heap.size,1,none⟩) (show w.heap.size < _ by omega)).trans h.2.1,aac (h.2.2.out.keep hb)⟩
theorem akP {w W:World}{p s:Value}(h:CpA w p s W)(x y:Value):CpA w p s ((W.setCell ⟨w.heap.size+1,0,none⟩ x).setCell ⟨w.heap.size+1,1,none⟩ y):=by
 obtain⟨h1,h2,h3⟩:=h;obtain⟨⟨a,b,h4⟩,h5⟩:=h3.out;refine⟨by rw[World.cell?_setCell_far _ _ _ _ (by simp),World.cell?_setCell_far _ _ _ _ (by simp)];exact h1,by rw[World.cell?_setCell_far _ _ _ _ (by simp),World.cell?_setCell_far _ _ _ _ (by simp)];exact h2,aac ⟨⟨x,y,by simp[World.setCell,Array.getElem?_modify,h4]⟩,(h5.setCell (p:=⟨w.heap.size+1,0,none⟩) (by simp) _).setCell (p:=⟨w.heap.size+1,1,none⟩) (by simp) _⟩⟩
theorem ahk (p s:ByteArray)(w:World)(hp:p.size≤Lim)(hs:s.size≤Lim):
 Calls Tryz.prog 101 #[.agg #[.string p,.string s]] w fun e w'=>e=.returned (.agg #[.string p,.string s])∧Below w.heap.size w w':=by
 have CP:=aac (fun W=>aaB p W hp);have CS:=aac (fun W=>aaB s W hs);have H0:=aac (agt w p s);clear hp hs;go_enter Tryz.func101,Tryz.ntmps101;go_wp2_with fail
 go_region_held3 (fun W=>W.cell? ⟨w.heap.size,0,none⟩=some (.string p)∧W.cell? ⟨w.heap.size,1,none⟩=some (.string s)∧Hid (CpS w W))
  (first
    | exact⟨by simp,by simp,H0⟩
    | (go_split_ands;exact⟨by assumption,by assumption,by assumption⟩)
    | exact akP ⟨by assumption,by assumption,by assumption⟩ _ _)
  (first
    | (go_at_call_of 22 (Value.string p);refine(CP.out _).mono ?_;rintro e w2 ⟨rfl,hb⟩;obtain⟨q0,q1,q2⟩:CpA w (.string p) (.string s) w2:=aeQ hb ⟨by first | assumption | simp,by first | assumption | simp,by assumption⟩;obtain⟨⟨ya,yb,yh⟩,yB⟩:=q2.out;have z0:w2.cell? ⟨w.heap.size+1,0,none⟩=some ya:=aaf yh 0 rfl;have z1:w2.cell? ⟨w.heap.size+1,1,none⟩=some yb:=aaf yh 1 rfl;have f0:=aag yh 0;have f1:=aag yh 1;have HY:=aac yB;clear yh yB)
    | (go_at_call_of 22 (Value.string s);refine(CS.out _).mono ?_;rintro e w2 ⟨rfl,hb⟩;obtain⟨q0,q1,q2⟩:CpA w (.string p) (.string s) w2:=aeQ hb ⟨by first | assumption | simp,by first | assumption | simp,by assumption⟩;obtain⟨⟨ya,yb,yh⟩,yB⟩:=q2.out;have z0:w2.cell? ⟨w.heap.size+1,0,none⟩=some ya:=aaf yh 0 rfl;have z1:w2.cell? ⟨w.heap.size+1,1,none⟩=some yb:=aaf yh 1 rfl;have f0:=aag yh 0;have f1:=aag yh 1;have HY:=aac yB;clear yh yB))
 all_goals
  go_wp2;have c0:((w2.setCell ⟨w.heap.size+1,0,none⟩ (.string p)).setCell ⟨w.heap.size+1,1,none⟩ (.string s)).cell? ⟨w.heap.size+1,0,none⟩=some (.string p):=adY _ _ z0;have c1:((w2.setCell ⟨w.heap.size+1,0,none⟩ (.string p)).setCell ⟨w.heap.size+1,1,none⟩ (.string s)).cell? ⟨w.heap.size+1,1,none⟩=some (.string s):=adX _ _ z1;exact bodyPost_ret (v:=.agg #[.string p,.string s]) (by simp[results,Tryz.results101,go_sem,c0,c1]) rfl ⟨rfl,(HY.out.setCell (p:=⟨w.heap.size+1,0,none⟩) (by simp) _).setCell (p:=⟨w.heap.size+1,1,none⟩) (by simp) _⟩
theorem akl (w:World):
 Calls Tryz.prog 78 #[] w fun e w'=>e=.returned (.slice (some ⟨w.heap.size,0,none⟩) 1 1)∧w'=w.alloc (.cells #[.string xm,.string XS] 164):=by
 go_enter Tryz.func78,Tryz.ntmps78;go_wp2;go_ret;exact⟨rfl,rfl⟩
end Go.Proofs.YtiaebhomfebagaaGreatDoor.Nz.Sc
