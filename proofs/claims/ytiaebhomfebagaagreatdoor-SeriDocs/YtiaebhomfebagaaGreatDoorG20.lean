/- Lemmas of the claim. -/
import Derived.Test.YtiaebhomfebagaaGreatDoorG05
import Derived.Test.YtiaebhomfebagaaGreatDoorG03
import Derived.Test.YtiaebhomfebagaaGreatDoorG02
import Derived.Test.YtiaebhomfebagaaGreatDoorG19
import Derived.Test.YtiaebhomfebagaaGreatDoorProg
import Derived.Test.YtiaebhomfebagaaGreatDoorG04
import Derived.Lib.Hide
import Derived.Below
import Derived.Laws.RangeAny
import Derived.Deep.QuietTactic
import Derived.BigQuiet
import Derived.Shelf.Small.Wraps
import Derived.Shelf.Strings.Prefix
import Derived.ScopeJumps
import Derived.WalkMore
set_option maxHeartbeats 4000000
set_option maxRecDepth 100000
set_option linter.unusedSimpArgs false
set_option linter.unusedVariables false
namespace Go.Proofs.YtiaebhomfebagaaGreatDoor
open Go.RowKit Go.Lib
open Nz (bl dN adh aau)
def bn (n:Nat):Bool:=decide (Blank (n:Int))
theorem aiJ (s:ByteArray):aad s=(bl s).map (fun n:Nat=>(n:Int)):=by simp[aad,bl]
theorem azC (s:ByteArray)(k:Nat):(aad s).getD k 0=((bl s).getD k 0:Int):=by
 rw[aiJ,List.getD_eq_getElem?_getD,List.getD_eq_getElem?_getD,List.getElem?_map];cases (bl s)[k]? <;> simp
theorem amc (l:List Nat)(n:Nat)(h:n < l.length):l.drop n=l.getD n 0 :: l.drop (n+1):=by
 rw[List.drop_eq_getElem_cons h,List.getD_eq_getElem?_getD,List.getElem?_eq_getElem h];rfl
theorem aul (p:Int→Bool):∀ (l:List Int) (k:Nat),(∀ j,j < k→p (l.getD j 0)=true)→k < l.length→p (l.getD k 0)=false→l.takeWhile p=l.take k∧l.dropWhile p=l.drop k
 | [],k,_,h,_=>by simp at h
 | c :: l,0,_,_,h=>by
   have h':p c=false:=h;simp[List.takeWhile,List.dropWhile,h']
 | c :: l,k+1,h1,h2,h3=>by
   have h0:p c=true:=h1 0 (by omega);have ih:=aul p l k (fun j hj=>h1 (j+1) (by omega)) (by simpa using h2) h3;simp[List.takeWhile,List.dropWhile,h0,ih.1,ih.2]
theorem ant (p:Int→Bool):∀ (l:List Int),(∀ x∈l,p x=true)→l.takeWhile p=l∧l.dropWhile p=[]
 | [],_=>⟨rfl,rfl⟩
 | c :: l,h=>by
   have h0:p c=true:=h c (by simp);have ih:=ant p l fun x hx=>h x (List.mem_cons_of_mem _ hx);simp[List.takeWhile,List.dropWhile,h0,ih.1,ih.2]
theorem alN {l:List Int}{x:Int}(h:x∈l):∃ j,j < l.length∧l.getD j 0=x:=by
 obtain⟨j,hj,e⟩:=List.getElem_of_mem h;exact⟨j,hj,by simp[List.getElem?_eq_getElem hj,e]⟩
theorem ase (s:ByteArray)(pos:Nat)(h:pos < s.size)(ha:(bl s).getD pos 0 < 128):Utf8.decode s pos=((bl s).getD pos 0,1):=by
 have e:(s[pos]'h).toNat=(bl s).getD pos 0:=by
  unfold bl;rw[List.getD_eq_getElem?_getD,List.getElem?_map];have:s.data.toList[pos]?=some (s[pos]'h):=by rw[Array.getElem?_toList];exact Array.getElem?_eq_getElem h
  rw[this];rfl
 rw[decode_ascii s pos h (by omega),e]
theorem aie (s:ByteArray)(pos:Nat)(h:pos < s.size)(ha:128≤(bl s).getD pos 0):128≤(Utf8.decode s pos).1∧1≤(Utf8.decode s pos).2:=by
 have e:(s[pos]'h).toNat=(bl s).getD pos 0:=by
  unfold bl;rw[List.getD_eq_getElem?_getD,List.getElem?_map];have:s.data.toList[pos]?=some (s[pos]'h):=by rw[Array.getElem?_toList];exact Array.getElem?_eq_getElem h
  rw[this];rfl
 exact decode_high s pos h (by omega)
theorem ayo (s:ByteArray)(pos j:Nat)(h:pos < s.size)(h1:1≤j)(h2:j < (Utf8.decode s pos).2)(h3:pos+j < s.size):128≤(bl s).getD (pos+j) 0:=by
 rcases Nat.lt_or_ge ((bl s).getD (pos+j) 0) 128 with g | g
 · exfalso;rw[adh] at h2;have hl:=aau s
   have hsplit:(bl s).drop pos=((bl s).drop pos).take j++(bl s).getD (pos+j) 0 :: (bl s).drop (pos+j+1):=by
    conv=>lhs;rw[← List.take_append_drop j ((bl s).drop pos)]
    rw[List.drop_drop,amc (bl s) (pos+j) (by omega)]
   have hne:((bl s).drop pos).take j≠[]:=by
    intro e;have:=congrArg List.length e;rw[List.length_take,List.length_drop,List.length_nil] at this;omega
   rw[hsplit,Nz.anx _ _ _ g hne] at h2;have:=(Nz.aaV _ hne).2;rw[List.length_take,List.length_drop] at this;omega
 · exact g
theorem abZ {n:Nat}(h:128≤n):bn n=false:=by
 unfold bn;exact decide_eq_false (by unfold Blank;omega)
theorem aea (s:ByteArray)(k:Nat):bn ((bl s).getD k 0)=aaZ ((aad s).getD k 0):=by
 rw[azC];rfl
theorem aiP (s:ByteArray):∀ (f pos:Nat),s.size≤pos+f→pos≤s.size→(∀ j,j < pos→aaZ ((aad s).getD j 0)=false)→
 (idxFuncFrom bn true s f pos= -1∧∀ j,j < s.size→aaZ ((aad s).getD j 0)=false)∨
 ∃ k:Nat,idxFuncFrom bn true s f pos=k∧k < s.size∧aaZ ((aad s).getD k 0)=true∧∀ j,j < k→aaZ ((aad s).getD j 0)=false
 | 0,pos,hf,hp,h=>.inl ⟨rfl,fun j hj=>h j (by omega)⟩
 | f+1,pos,hf,hp,h=>by
   by_cases hlt:pos < s.size
   · unfold idxFuncFrom;rw[if_pos hlt];rcases Nat.lt_or_ge ((bl s).getD pos 0) 128 with g | g
     · rw[ase s pos hlt g]
       cases hb:bn ((bl s).getD pos 0) with
       | true=>
         simp only[hb,if_true];exact .inr ⟨pos,rfl,hlt,by rw[← aea,hb],h⟩
       | false=>
         simp only[hb,Bool.false_eq_true,if_false];refine aiP s f (pos+1) (by omega) (by omega) fun j hj=> ?_;rcases Nat.lt_or_eq_of_le (Nat.le_of_lt_succ hj) with e | e
         · exact h j e
         · rw[e,← aea,hb]
     · have hh:=aie s pos hlt g;have hw:=(Nz.aaV _ (Nz.adx s pos hlt)).2;rw[← adh,List.length_drop,aau] at hw;rw[if_neg (by rw[abZ hh.1];simp)];refine aiP s f (pos+(Utf8.decode s pos).2) (by omega) (by omega) fun j hj=> ?_;rcases Nat.lt_or_ge j pos with e | e
       · exact h j e
       · rw[← aea];apply abZ;rcases Nat.eq_or_lt_of_le e with e2 | e2
         · rw[← e2];exact g
         · have:=ayo s pos (j - pos) hlt (by omega) (by omega) (by omega)
           rwa [show pos+(j - pos)=j by omega] at this
   · rw[idxFuncFrom_end _ _ _ _ _ hlt];exact .inl ⟨rfl,fun j hj=>h j (by omega)⟩
theorem arf (s:ByteArray):(idxFunc bn true s= -1∧tgt (aad s)=aad s)∨∃ k:Nat,idxFunc bn true s=k∧k < s.size∧tgt (aad s)=(aad s).take k:=by
 have hl:=aae s;rcases aiP s s.size 0 (by omega) (by omega) (fun j hj=>by omega) with ⟨h1,h2⟩ | ⟨k,h1,h2,h3,h4⟩
 · refine .inl ⟨h1,(ant _ _ fun x hx=> ?_).1⟩;obtain⟨j,hj,rfl⟩:=alN hx;rw[h2 j (by omega)];rfl
 · refine .inr ⟨k,h1,h2,(aul _ _ k (fun j hj=> ?_) (by omega) ?_).1⟩
   · rw[h4 j hj];rfl
   · rw[h3];rfl
theorem ajd (s:ByteArray):∀ (f pos:Nat),s.size≤pos+f→pos≤s.size→(∀ j,j < pos→aaZ ((aad s).getD j 0)=true)→
 (idxFuncFrom bn false s f pos= -1∧∀ j,j < s.size→aaZ ((aad s).getD j 0)=true)∨
 ∃ k:Nat,idxFuncFrom bn false s f pos=k∧k < s.size∧aaZ ((aad s).getD k 0)=false∧∀ j,j < k→aaZ ((aad s).getD j 0)=true
 | 0,pos,hf,hp,h=>.inl ⟨rfl,fun j hj=>h j (by omega)⟩
 | f+1,pos,hf,hp,h=>by
   by_cases hlt:pos < s.size
   · unfold idxFuncFrom;rw[if_pos hlt];rcases Nat.lt_or_ge ((bl s).getD pos 0) 128 with g | g
     · rw[ase s pos hlt g]
       cases hb:bn ((bl s).getD pos 0) with
       | false=>
         simp only[hb,if_true];exact .inr ⟨pos,rfl,hlt,by rw[← aea,hb],h⟩
       | true=>
         simp only[hb,Bool.true_eq_false,if_false];refine ajd s f (pos+1) (by omega) (by omega) fun j hj=> ?_;rcases Nat.lt_or_eq_of_le (Nat.le_of_lt_succ hj) with e | e
         · exact h j e
         · rw[e,← aea,hb]
     · have hh:=aie s pos hlt g;rw[if_pos (abZ hh.1)];exact .inr ⟨pos,rfl,hlt,by rw[← aea];exact abZ g,h⟩
   · rw[idxFuncFrom_end _ _ _ _ _ hlt];exact .inl ⟨rfl,fun j hj=>h j (by omega)⟩
theorem anS (s:ByteArray):aad (trimLeftF bn s)=(aad s).dropWhile aaZ:=by
 have hl:=aae s;unfold trimLeftF idxFunc;rcases ajd s s.size 0 (by omega) (by omega) (fun j hj=>by omega) with ⟨h1,h2⟩ | ⟨k,h1,h2,h3,h4⟩
 · rw[h1,if_pos rfl,(ant _ _ fun x hx=> ?_).2]
   · rfl
   · obtain⟨j,hj,rfl⟩:=alN hx;exact h2 j (by omega)
 · rw[h1,if_neg (by omega),(aul _ _ k h4 (by omega) h3).2,Int.toNat_natCast,aal,List.take_of_length_le (by omega)]
def a4H (l:List Int)(n:Nat):Prop:=n≤l.length∧(∀ j,n≤j→j < l.length→aaZ (l.getD j 0)=true)∧(n=0∨aaZ (l.getD (n - 1) 0)=false)
theorem ajb {l:List Int}{n:Nat}(h:a4H l n):aeW l=l.take n:=by
 obtain⟨h1,h2,h3⟩:=h;unfold aeW
 have hr:l.reverse.dropWhile aaZ=l.reverse.drop (l.length - n):=by
  have hg:∀ j,j < l.length→l.reverse.getD j 0=l.getD (l.length - 1 - j) 0:=fun j hj=>by
   rw[List.getD_eq_getElem?_getD,List.getD_eq_getElem?_getD,List.getElem?_reverse hj]
  by_cases h0:n=0
  · subst h0;rw[(ant _ _ fun x hx=> ?_).2,List.drop_of_length_le (by simp)];obtain⟨j,hj,rfl⟩:=alN (List.mem_reverse.1 hx);exact h2 j (Nat.zero_le _) hj
  · refine(aul _ _ (l.length - n) (fun j hj=> ?_) (by simp;omega) ?_).2
    · rw[hg j (by omega)];exact h2 _ (by omega) (by omega)
    · rw[hg _ (by omega)];rcases h3 with h3 | h3
      · exact absurd h3 h0
      · rw[← h3]
        congr 2
        omega
 rw[hr,List.drop_reverse,List.reverse_reverse]
 congr 1
 omega
theorem axk (l:List UInt8):Utf8.decode ⟨l.toArray⟩ 0=dN (l.map UInt8.toNat):=by
 rw[adh];simp[bl]
theorem ahx (s:ByteArray):∀ (f i:Nat),i≤f→i≤s.size→(∀ j,i≤j→j < s.size→aaZ ((aad s).getD j 0)=true)→
 (lastIdxFuncFrom bn false s f i= -1∧a4H (aad s) 0)∨∃ r:Nat,lastIdxFuncFrom bn false s f i=r∧r < s.size∧a4H (aad s) (r+(Utf8.decode s r).2)
 | f,0,hf,hi,h=>by
   rw[lastIdxFuncFrom_zero];exact .inl ⟨rfl,Nat.zero_le _,fun j _ hj=>h j (Nat.zero_le _) (by rwa [aae] at hj),.inl rfl⟩
 | f+1,i+1,hf,hi,h=>by
   unfold lastIdxFuncFrom;rw[if_pos (by omega)]
   have hl:(s.data.toList.take (i+1)).length=i+1:=by
    rw[List.length_take,Array.length_toList];have:s.data.size=s.size:=rfl;omega
   have hbl:(s.data.toList.take (i+1)).map UInt8.toNat=(bl s).take (i+1):=by rw[List.map_take];rfl
   have hne:s.data.toList.take (i+1)≠[]:=fun e=>by rw[e] at hl;simp at hl
   have hlast:((s.data.toList.take (i+1)).getD ((s.data.toList.take (i+1)).length - 1) 0).toNat=(bl s).getD i 0:=by
    rw[hl,Nat.add_sub_cancel,List.getD_eq_getElem?_getD,List.getElem?_take,if_pos (by omega)];unfold bl;rw[List.getD_eq_getElem?_getD,List.getElem?_map];cases s.data.toList[i]? <;> simp
   have hbd:∀ j,i+1≤j→j < (aad s).length→aaZ ((aad s).getD j 0)=true:=fun j a b=>h j a (by rwa [aae] at b);have hlen:=aae s;rcases Nat.lt_or_ge ((bl s).getD i 0) 128 with g | g
   · have hd:decodeLastL (s.data.toList.take (i+1))=((bl s).getD i 0,1):=by
      unfold decodeLastL;rw[if_neg hne,if_pos (by rw[hlast];exact g),hlast]
     rw[hd]
     cases hb:bn ((bl s).getD i 0) with
     | true=>
       simp only[hb,Bool.true_eq_false,if_false,Nat.add_sub_cancel];refine ahx s f i (by omega) (by omega) fun j a b=> ?_;rcases Nat.eq_or_lt_of_le a with e | e
       · rw[← e,← aea,hb]
       · exact h j (by omega) b
     | false=>
       simp only[hb,if_true,Nat.add_sub_cancel];refine .inr ⟨i,rfl,by omega,?_⟩;rw[ase s i (by omega) g];exact⟨by omega,hbd,.inr (by rw[Nat.add_sub_cancel,← aea,hb])⟩
   · have key:∃ x k,decodeLastL (s.data.toList.take (i+1))=(x,k)∧128≤x∧1≤k∧k≤i+1∧(dN (((bl s).take (i+1)).drop (i+1 - k))).2=k:=by
      unfold decodeLastL;rw[if_neg hne,if_neg (by rw[hlast];omega)];simp only[hl];by_cases hc:lastStart (s.data.toList.take (i+1))+(decodeL ((s.data.toList.take (i+1)).drop (lastStart (s.data.toList.take (i+1))))).2=i+1
      · rw[if_pos hc];generalize lastStart (s.data.toList.take (i+1))=a at hc;have hw:=decodeL_width ((s.data.toList.take (i+1)).drop a)
        have hdl:decodeL ((s.data.toList.take (i+1)).drop a)=dN (((bl s).take (i+1)).drop a):=by
         unfold decodeL;rw[axk,List.map_drop,hbl]
        rw[hdl] at hc hw ⊢;obtain⟨x,k,hxk⟩:∃ x k,dN (((bl s).take (i+1)).drop a)=(x,k):=⟨_,_,rfl⟩;rw[hxk] at hc hw ⊢;simp only at hc hw;refine⟨x,k,rfl,?_,hw,by omega,by rw[show i+1 - k=a by omega,hxk]⟩;rcases Nat.lt_or_ge (((bl s).take (i+1)).drop a |>.getD 0 0) 128 with q | q
        · exfalso
          have hA:((bl s).take (i+1)).drop a≠[]:=fun e=>by
           have:=congrArg List.length e;rw[List.length_drop,List.length_take,aau,List.length_nil] at this;omega
          obtain⟨c,B,hcb⟩:∃ c B,((bl s).take (i+1)).drop a=c :: B:=by
           cases hq:((bl s).take (i+1)).drop a with
           | nil=>exact absurd hq hA
           | cons c B=>exact⟨c,B,rfl⟩
          rw[hcb] at q hxk;have q':c < 128:=q;rw[Nz.agF B c q'] at hxk;have hk1:k=1:=(congrArg Prod.snd hxk).symm;have ha:a=i:=(by omega);subst ha
          have:(((bl s).take (a+1)).drop a).getD 0 0=(bl s).getD a 0:=by
           simp[List.getElem?_drop,List.getElem?_take]
          rw[hcb] at this;have:c=(bl s).getD a 0:=this;omega
        · have e:=axk ((s.data.toList.take (i+1)).drop a);rw[List.map_drop,hbl,hxk] at e;rw[show x=(Utf8.decode ⟨((s.data.toList.take (i+1)).drop a).toArray⟩ 0).1 by rw[e]]
          have hsz:0 < (ByteArray.mk ((s.data.toList.take (i+1)).drop a).toArray).size:=by
           show 0 < ((s.data.toList.take (i+1)).drop a).toArray.size;rw[List.size_toArray,List.length_drop,hl];omega
          refine(aie _ 0 hsz ?_).1
          rw[show bl (ByteArray.mk ((s.data.toList.take (i+1)).drop a).toArray)=((bl s).take (i+1)).drop a by
           unfold bl;simp[List.map_drop,List.map_take]]
          exact q
      · rw[if_neg hc];refine⟨_,_,rfl,by decide,Nat.le_refl _,by omega,?_⟩
        have hA:((bl s).take (i+1)).drop (i+1 - 1)≠[]:=fun e=>by
         have:=congrArg List.length e;rw[List.length_drop,List.length_take,aau,List.length_nil] at this;omega
        have:=Nz.aaV _ hA;rw[List.length_drop,List.length_take,aau] at this;omega
     obtain⟨x,k,hd,hx,hk1,hk2,hw⟩:=key;rw[hd];simp only;rw[if_pos (abZ hx)];refine .inr ⟨i+1 - k,rfl,by omega,?_⟩
     have hW:(Utf8.decode s (i+1 - k)).2=k:=by
      rw[adh];rcases Nat.eq_or_lt_of_le hi with e | e
      · have:(bl s).take (i+1)=bl s:=List.take_of_length_le (by rw[aau];omega);rw[this] at hw;exact hw
      · have hb:aaZ ((aad s).getD (i+1) 0)=true:=h (i+1) (Nat.le_refl _) e
        have hc:(bl s).getD (i+1) 0 < 128:=by
         rcases Nat.lt_or_ge ((bl s).getD (i+1) 0) 128 with q | q
         · exact q
         · rw[← aea,abZ q] at hb;cases hb
        have hsplit:(bl s).drop (i+1 - k)=((bl s).take (i+1)).drop (i+1 - k)++(bl s).getD (i+1) 0 :: (bl s).drop (i+1+1):=by
         conv=>lhs;rw[← List.take_append_drop (i+1) (bl s)]
         rw[List.drop_append_of_le_length (by rw[List.length_take,aau];omega)]
         congr 1
         exact amc (bl s) (i+1) (by rw[aau];omega)
        have hA:((bl s).take (i+1)).drop (i+1 - k)≠[]:=fun e=>by
         have:=congrArg List.length e;rw[List.length_drop,List.length_take,aau,List.length_nil] at this;omega
        rw[hsplit,Nz.anx _ _ _ hc hA];exact hw
     rw[hW,show i+1 - k+k=i+1 by omega];exact⟨by omega,hbd,.inr (by rw[Nat.add_sub_cancel,← aea];exact abZ g)⟩
theorem alF (s:ByteArray):aad (trimRightF bn s)=aeW (aad s):=by
 unfold trimRightF rightEndF lastIdxFunc;rcases ahx s s.size s.size (Nat.le_refl _) (Nat.le_refl _) (fun j a b=>by omega) with ⟨h1,h2⟩ | ⟨r,h1,h2,h3⟩
 · rw[h1,if_neg (by omega),ajb h2,aal];simp
 · rw[h1,if_pos (by omega),Int.toNat_natCast,ajb h3,aal,List.drop_zero];have hsz:(s.extract r s.size).size=s.size - r:=by rw[← aae,aal,List.length_drop,List.length_take,aae];omega
   have:(decodeGoB (s.extract r s.size)).2=(Utf8.decode s r).2:=by
    unfold decodeGoB;rw[if_neg (by omega),adh,adh,List.drop_zero]
    congr 2
    exact Nz.aoF s r
   rw[this]
theorem aej (w:World):PredGrows Tryz.prog 59 #[] bn w:=fun W x hx hb=>(agr (x:Int) W).mono fun e w' ⟨h1,h2⟩=>⟨h1,by subst h2;exact Below.refl _ _⟩
theorem ahU:∀ args w,(callFunc 59 args).run Tryz.prog w=.ok (.enter 59 args) w:=enters_of Tryz.func59 (by kernel_rfl) rfl
theorem afJ (s:ByteArray)(w:World):Calls Tryz.prog 113 #[.string s,.func (.func 59) #[] #[]] w fun e w'=>e=.returned (.int .i64 (idxFunc bn true s))∧Below w.heap.size w w':=
 Tryz.strings_IndexFunc_grows 59 #[] ahU bn s w (aej w)
theorem atm (s:ByteArray)(w:World):Calls Tryz.prog 167 #[.string s,.func (.func 59) #[] #[]] w fun e w'=>e=.returned (.string (strOfNums ((aad s).dropWhile aaZ)))∧Below w.heap.size w w':=
 (Tryz.strings_TrimLeftFunc_grows 59 #[] ahU bn s w (aej w)).mono fun e w' ⟨h1,h2⟩=>⟨by rw[h1,← anS,← aas rfl],h2⟩
theorem arj (s:ByteArray)(w:World)(hs:s.size≤1000000000000)(hG:Gl w):Calls Tryz.prog 116 #[.string s,.func (.func 59) #[] #[]] w fun e w'=>e=.returned (.string (strOfNums (aeW (aad s))))∧Below w.heap.size w w':=
 (Tryz.strings_TrimRightFunc_grows 59 #[] ahU bn s w (by omega) hG.tabs (aej w)).mono fun e w' ⟨h1,h2⟩=>⟨by rw[h1,← alF,← aas rfl],h2⟩
end Go.Proofs.YtiaebhomfebagaaGreatDoor
namespace Go.Proofs.YtiaebhomfebagaaGreatDoor.Uz
open Go.RowKit
theorem Tryz.info21:(Tryz.prog.info? 21).map (fun i=>(i.zero,i.size,i.bytes))=some (some (.int .i32 0),1,4):=by kernel_rfl
theorem Tryz.info5:(Tryz.prog.info? 5).map (fun i=>(i.zero,i.size,i.bytes))=some (some (.int .u8 0),1,1):=by kernel_rfl
def Own (w:World)(B:Nat)(v:Value)(l:List Int):Prop:=w.ownsRow B 21 1 v l.length (l.map (Value.int .i32))
def aqj (s:ByteArray)(w:World)(x:List Int × Int × Int)(e:Ending)(w':World):Prop:=
 ∃ v,e=.returned (.tuple #[v,.int .i64 x.2.1,.int .i64 x.2.2])∧Own w' w.heap.size v x.1∧Below w.heap.size w w'
def ams (s:ByteArray)(w:World)(v i:Value)(wr:World):Prop:=
 ∃ (a:Nat) (pre:List Int),a≤s.size∧i=.int .i64 a∧Own wr w.heap.size v pre∧Below w.heap.size w wr∧pre.length≤a∧aoJ s=(pre++(aff s a).1,(aff s a).2)
theorem alB (s:ByteArray)(w:World)(hs:s.size≤2000000000):
 Calls Tryz.prog 94 #[.string s] w (aqj s w (aoJ s)):=by
 obtain⟨i0,hi,hz0,hz1,hz2⟩:=info_parts Tryz.info21;have hm:s.size≤maxLen:=by unfold maxLen;omega
 go_enter Tryz.func94,Tryz.ntmps94;go_wp2_with fail;go_loopw [5,6] (fun v i wr=>ams s w v i wr) (fun _ i _=>s.size - (intOf i).toNat);case atStart=>exact⟨0,[],Nat.zero_le _,rfl,World.ownsRow_nil _ _ _ _,Below.refl _ _,Nat.le_refl _,by simp[azs]⟩
 case round=>
  obtain⟨a,pre,ha,rfl,hown,hbel,hpre,hall⟩:=hrel;by_cases hlt:a < s.size
  · have hk:=acC s a hlt;obtain⟨r,n,er,hx⟩:∃ r n er,aaS s a=(r,n,er):=⟨_,_,_,rfl⟩;have hc:=akT s a wr hm;have H0:=asK s a hlt;have H1:=auN s a hlt;rw[hx] at hk hc H0 H1;clear hx;unfold atq at hk;dsimp only at hk hc H0 H1;have HC:=aac hc;clear hc;by_cases he:er=0
    · subst he;have hn:1≤n∧n≤(s.size - a:Nat):=by omega
      have HF:Hid (aoJ s=((pre++[r])++(aff s (a+n.toNat)).1,(aff s (a+n.toNat)).2)):=by
       rw[H1 rfl] at hall;show aoJ s=_;rw[hall];simp
      obtain⟨n,rfl⟩:=Int.eq_ofNat_of_zero_le (show 0≤n by omega);rw[Int.toNat_natCast] at HF;have hown':=hown.alloc (.cells #[.int .i32 r] 21);have hl2:=hbel.size;clear H0 H1 hall hk;go_wp2_with fail;refine HC.out.mono ?_;rintro e w1 ⟨rfl,rfl⟩;go_wp2_with (at_builtin;refine wpList_append_own _ rfl _ _ 154 rfl w.heap.size 21 i0 (.int .i32 0) 1 4 Tryz.underlying154 hi hz0 hz1 hz2 rfl (by decide) _ _ _ rfl hown' ⟨wr.heap.size,0,none⟩ 1 1 [.int .i32 r] rfl rfl ?c1 ?c2 ?c3 ?c4 ?c5 ?_);case c1=>exact cell_one_new _ _ _
      case c2=>intro u hu;simp at hu;subst hu;rfl
      case c3=>unfold maxLen;omega
      case c4=>omega
      case c5=>simp;omega
      intro v' w1 hown2 hgrow _;go_wp2;go_roundw
      case rel=>
       refine⟨a+n,pre++[r],by omega,by go_num,?_,?_,by simp;omega,HF.out⟩
       · unfold Own;rw[List.map_append,List.length_append];exact hown2
       · exact(hbel.alloc hl2 _).grown hgrow (by simp;omega) (fun g hg=>(hown.lt g hg).1)
      case measure=>simp[intOf];omega
    · have HF:Hid (aoJ s=(pre,(a:Int),er)):=by
       rw[H0 he] at hall;show aoJ s=_;rw[hall];simp
      have te:(er != 0)=true:=(by simpa using he);clear H0 H1 hall hk he;go_wp2_with fail;refine HC.out.mono ?_;rintro e w1 ⟨rfl,rfl⟩;go_wp2;go_ret3;rw[HF.out];exact⟨_,rfl,hown,hbel⟩
  · have HF:Hid (aoJ s=(pre,(a:Int),0)):=by
     rw[anY s a (by omega)] at hall;show aoJ s=_;rw[hall];simp
    clear hall;go_wp2;go_ret3;rw[HF.out];exact⟨_,rfl,hown,hbel⟩
end Go.Proofs.YtiaebhomfebagaaGreatDoor.Uz
namespace Go.Proofs.YtiaebhomfebagaaGreatDoor.Cz
open Go.RowKit
def atn (k:Nat)(r:Int):Bool:=if k=40 then decide (Chr r) else decide (Blank r)
def Known (k:Nat):Prop:=k=40∨k=59
def axw (ks:List Nat)(r:Int):Bool:=ks.any (atn · r)
theorem awk (ks:List Nat)(r:Int)(i:Nat)(h:i < ks.length):(ks.take (i+1)).any (atn · r)=((ks.take i).any (atn · r) || atn (ks.getD i 0) r):=by
 rw[List.take_succ_eq_append_getElem h,List.any_append,List.any_cons,List.any_nil,Bool.or_false,List.getD_eq_getElem?_getD,List.getElem?_eq_getElem h];rfl
theorem a1b (ks:List Nat)(r:Int)(i:Nat)(h:i < ks.length)(hc:atn (ks.getD i 0) r=true):axw ks r=true:=by
 refine List.any_eq_true.2 ⟨ks.getD i 0,?_,hc⟩;rw[List.getD_eq_getElem?_getD,List.getElem?_eq_getElem h];exact List.getElem_mem _
def RdF (w:World)(A:Option Addr)(ks:List Nat):Prop:=
 (∀ k∈ks,Known k)∧(ks=[]∨∃ b off,A=some ⟨b,off,none⟩∧b < w.heap.size∧∀ j,j < ks.length→w.cell? ⟨b,off+j,none⟩=some (.func (.func (ks.getD j 0)) #[] #[]))
theorem RdF.at_ {w:World}{A:Option Addr}{ks:List Nat}(h:RdF w A ks){j:Nat}(hj:j < ks.length):
 Known (ks.getD j 0)∧∃ b off,A=some ⟨b,off,none⟩∧b < w.heap.size∧w.cell? ⟨b,off+j,none⟩=some (.func (.func (ks.getD j 0)) #[] #[]):=by
 refine⟨h.1 _ (by rw[List.getD_eq_getElem?_getD,List.getElem?_eq_getElem hj];exact List.getElem_mem _),?_⟩;rcases h.2 with h | ⟨b,off,rfl,hlt,hc⟩
 · subst h;simp at hj
 · exact⟨b,off,rfl,hlt,hc j hj⟩
def a0N (ks:List Nat)(r:Int)(i:Value):Prop:=∃ k:Nat,k≤ks.length∧i=.int .i64 k∧(ks.take k).any (atn · r)=false
theorem auh (r:Int)(A:Option Addr)(c:Nat)(ks:List Nat)(w:World)(h:RdF w A ks)(hl:ks.length≤100):
 Calls Tryz.prog 96 #[.int .i32 r,.slice A ks.length c] w fun e w'=>e=.returned (.bool (axw ks r))∧w=w':=by
 obtain⟨n,hn⟩:∃ n,n=ks.length:=⟨_,rfl⟩;rw[← hn];have hn1:n≤ks.length:=(by omega);have hn2:ks.length≤n:=(by omega);clear hn;go_enter Tryz.func96,Tryz.ntmps96;go_wp2_with fail;go_loop [9] (fun i=>a0N ks r i) (fun i=>ks.length - (intOf i).toNat);case atStart=>exact⟨0,Nat.zero_le _,rfl,by simp⟩
 case round=>
  obtain⟨k,hk,rfl,ha⟩:=hrel;have HA:=aac ha;clear ha;by_cases hlt:k < n
  · obtain⟨hkn,b,off,rfl,hb,hc⟩:=h.at_ (j:=k) (by omega);have HS:=aac (awk ks r k (by omega));have HT:=aac (a1b ks r k (by omega));generalize ks.getD k 0=f at hkn hc HS HT;have hne:∀ fn,Sem.run Tryz.prog (binOp BinOp.neq 83 (Value.func fn #[] #[]) Value.nilFunc) w=.ok (.bool true) w:=fun fn=>by kernel_rfl
    rcases hkn with rfl | rfl
    all_goals
     go_wp2_with (first | (go_at_call 40;refine(adB _ _).mono ?_;rintro e w' ⟨rfl,rfl⟩) | (go_at_call 59;refine(agr _ _).mono ?_;rintro e w' ⟨rfl,rfl⟩))
     · go_ret;refine⟨abU (HT.out ?_).symm,rfl⟩;simp_all [atn]
     · go_round
       case rel=>
        refine⟨k+1,by omega,by go_num,?_⟩;rw[HS.out,HA.out];simp_all [atn]
       case measure=>simp[intOf];omega
  · go_wp2;go_ret;have hkn:k=ks.length:=(by omega);subst hkn;have:=HA.out;rw[List.take_length] at this;exact⟨abU this.symm,rfl⟩
end Go.Proofs.YtiaebhomfebagaaGreatDoor.Cz
namespace Go.Proofs.YtiaebhomfebagaaGreatDoor.Cz
open Go.RowKit
def rgo (s:ByteArray):Nat→Nat→List Int
 | 0,_=>[]
 | f+1,i=>if i < s.size then ((Utf8.decode s i).1:Int) :: rgo s f (i+(Utf8.decode s i).2) else []
def runes (s:ByteArray):List Int:=rgo s s.size 0
def axn (ks:List Nat)(s:ByteArray):Bool:=(runes s).all (axw ks)
theorem width_pos (s:ByteArray)(pos:Nat)(h:pos < s.size):1≤(Utf8.decode s pos).2:=by
 by_cases ha:(s[pos]'h).toNat < 128
 · rw[decode_ascii s pos h ha];exact Nat.le_refl _
 · exact(decode_high s pos h (by omega)).2
theorem aso (s:ByteArray)(b pos:Nat)(h:¬ pos < s.size):rgo s b pos=[]:=by
 cases b with
 | zero=>rfl
 | succ b=>simp[rgo,h]
theorem RdF.iter {w:World}{A:Option Addr}{ks:List Nat}(h:RdF w A ks)(s:ByteArray)(pos:Nat):RdF (w.iter s pos) A ks:=by
 refine⟨h.1,?_⟩;rcases h.2 with h2 | ⟨b,off,rfl,hlt,hc⟩
 · exact .inl h2
 · refine .inr ⟨b,off,rfl,by simp[World.iter];omega,fun j hj=> ?_⟩;rw[← hc j hj];exact((Below.refl w.heap.size w).alloc (Nat.le_refl _) _).cell (p:=⟨b,off+j,none⟩) hlt
def ams (s:ByteArray)(ks:List Nat)(w:World)(wr:World):Prop:=
 ∃ pos b:Nat,wr=w.iter s pos∧s.size≤pos+b∧(rgo s b pos).all (axw ks)=axn ks s
theorem alB (s:ByteArray)(A:Option Addr)(c n:Nat)(ks:List Nat)(w:World)(h:RdF w A ks)(hn:n=ks.length)(hl:ks.length≤100):
 Calls Tryz.prog 73 #[.string s,.slice A n c] w fun e w'=>e=.returned (.bool (axn ks s))∧Below w.heap.size w w':=by
 have HB:=aac (fun pos=>(Below.refl w.heap.size w).alloc (Nat.le_refl _) (.stringIter s pos));have HSM:=aac (fun r pos=>auh r A c ks (w.iter s pos) (h.iter s pos) hl);rw[← hn] at HSM;clear hn h;go_enter Tryz.func73,Tryz.ntmps73;go_wp2_with fail;go_loopw [6] (fun _ wr=>ams s ks w wr) (fun _ wr=>s.size - wr.iterPos w.heap.size);case atStart=>exact⟨0,s.size,rfl,by omega,rfl⟩
 case round=>
  obtain⟨pos,b,rfl,hb,ha⟩:=hrel;have HA:=aac ha;clear ha;by_cases hp:pos < s.size
  · have hnx:∀ ty,(Instr.next (.pointer (some ⟨w.heap.size,0,none⟩)) true ty).run Tryz.prog (w.iter s pos)=_:=fun ty=>run_next_any w s pos ty hp;have hwd:=width_pos s pos hp;obtain⟨b,rfl⟩:∃ b',b=b'+1:=⟨b - 1,by omega⟩;have HR:Hid (rgo s (b+1) pos=((Utf8.decode s pos).1:Int) :: rgo s b (pos+(Utf8.decode s pos).2)):=aac (by simp[rgo,hp]);generalize (Utf8.decode s pos).1=r at *;generalize (Utf8.decode s pos).2=d at *;go_wp2_with (go_at_call 96;refine(HSM.out _ _).mono ?_;rintro e w' ⟨rfl,rfl⟩)
    · go_ret;rename_i hq;have hz:axw ks (r:Int)=false:=(by simpa using hq);refine⟨abU ?_,HB.out _⟩;rw[← HA.out,HR.out,List.all_cons,hz,Bool.false_and]
    · rename_i hq;have hz:axw ks (r:Int)=true:=(by simpa using hq);refine⟨⟨pos+d,b,rfl,by omega,?_⟩,?_⟩
      · rw[← HA.out,HR.out,List.all_cons,hz,Bool.true_and]
      · simp;omega
  · have hnx:∀ ty,(Instr.next (.pointer (some ⟨w.heap.size,0,none⟩)) true ty).run Tryz.prog (w.iter s pos)=_:=fun ty=>run_next_end w s pos ty hp;have HE:=aac (aso s b pos hp);go_wp2;go_ret;have:=HA.out;rw[HE.out] at this;exact⟨abU (by rw[← this];rfl),HB.out pos⟩
theorem apn (w:World)(t:TypeId)(cs:Array Value)(i:Nat):(w.alloc (.cells cs t)).cell? ⟨w.heap.size,i,none⟩=cs[i]?:=World.cell?_alloc_mark w cs t (0,0) i
theorem auW (w:World)(k:Nat)(hk:Known k):RdF (w.alloc (.cells #[.func (.func k) #[] #[]] 83)) (some ⟨w.heap.size,0,none⟩) [k]:=by
 refine⟨fun x hx=>by simp at hx;rw[hx];exact hk,.inr ⟨w.heap.size,0,rfl,by simp,fun j hj=> ?_⟩⟩;rw[Nat.zero_add,apn]
 match j,hj with
 | 0,_=>rfl
theorem all1 (s:ByteArray)(k:Nat)(hk:Known k)(w:World):Calls Tryz.prog 73 #[.string s,.slice (some ⟨w.heap.size,0,none⟩) 1 1] (w.alloc (.cells #[.func (.func k) #[] #[]] 83)) fun e w'=>e=.returned (.bool (axn [k] s))∧Below w.heap.size w w':=
 (alB s (some ⟨w.heap.size,0,none⟩) 1 1 [k] _ (auW w k hk) rfl (by simp)).mono fun e w' ⟨h1,h2⟩=>⟨h1,((Below.refl _ w).alloc (Nat.le_refl _) _).trans (h2.mono (by simp))⟩
end Go.Proofs.YtiaebhomfebagaaGreatDoor.Cz
namespace Go.Proofs.YtiaebhomfebagaaGreatDoor
open Go.RowKit
theorem tk0:tkV T0=.agg #[.int .i64 0,.string ⟨#[]⟩,.bool false,.bool false]:=by unfold tkV T0;rw[aib]
theorem abM (s:ByteArray):strOfNums (aad s)=s:=(aas rfl).symm
theorem akj (s:ByteArray)(at_:Int)(w:World)(hs:s.size≤2000000000)(hG:Gl w):Calls Tryz.prog 85 #[.string s,.int .i64 at_] w (abx (adj (aad s)) w):=by
 have HG:=aac hG;clear hG;have hBel:=(Below.refl w.heap.size w).alloc (Nat.le_refl _) (.cells #[.int .i64 0,.string ⟨#[]⟩,.bool false,.bool false] 44);have HB:=aac hBel;clear hBel;by_cases h1:(fnd [45,45] (aad s)).isSome=true
 · have C1:=aac (fun W (hW:Gl W)=>aen s ⟨#[45,45]⟩ W (by omega) hW true h1);have HR:Hid (adj (aad s)=(T0,6)):=aac (by unfold adj;rw[if_pos (.inl h1)]);clear h1;go_enter Tryz.func85,Tryz.ntmps85;go_wp2_with fail;refine(C1.out _ (HG.out.alloc _)).mono ?_;rintro e w1 ⟨rfl,rfl⟩;go_wp2_with fail;refine bodyPost_ret (v:=.tuple #[.agg #[.int .i64 0,.string ⟨#[]⟩,.bool false,.bool false],.int .i64 6]) (by simp[results,Tryz.results85,go_sem]) rfl ?_;rw[HR.out];exact⟨by rw[tk0],HB.out⟩
 · have h1':(fnd [45,45] (aad s)).isSome=false:=(by simpa using h1);have C1:=aac (fun W (hW:Gl W)=>aen s ⟨#[45,45]⟩ W (by omega) hW false h1');by_cases h2:(aad s).getLast?=some 45
   · have C2:=aac (fun W=>ahl s 45 W (by omega) true (decide_eq_true h2));have HR:Hid (adj (aad s)=(T0,6)):=aac (by unfold adj;rw[if_pos (.inr h2)]);clear h1 h1' h2;go_enter Tryz.func85,Tryz.ntmps85;go_wp2_with fail;refine(C1.out _ (HG.out.alloc _)).mono ?_;rintro e w1 ⟨rfl,rfl⟩;go_wp2_with fail;refine(C2.out _).mono ?_;rintro e w1 ⟨rfl,rfl⟩;go_wp2_with fail;refine bodyPost_ret (v:=.tuple #[.agg #[.int .i64 0,.string ⟨#[]⟩,.bool false,.bool false],.int .i64 6]) (by simp[results,Tryz.results85,go_sem]) rfl ?_;rw[HR.out];exact⟨by rw[tk0],HB.out⟩
   · have C2:=aac (fun W=>ahl s 45 W (by omega) false (decide_eq_false h2));have HR:Hid (adj (aad s)=(⟨4,aad s,false,false⟩,0)):=aac (by unfold adj;rw[if_neg (by rintro (h | h);exact h1 h;exact h2 h)]);clear h1 h1' h2;go_enter Tryz.func85,Tryz.ntmps85;go_wp2_with fail;refine(C1.out _ (HG.out.alloc _)).mono ?_;rintro e w1 ⟨rfl,rfl⟩;go_wp2_with fail;refine(C2.out _).mono ?_;rintro e w1 ⟨rfl,rfl⟩;go_wp2_with fail;refine bodyPost_ret (v:=.tuple #[.agg #[.int .i64 4,.string s,.bool false,.bool false],.int .i64 0]) (by simp[results,Tryz.results85,go_sem]) rfl ?_;rw[HR.out];exact⟨by unfold tkV;rw[abM],(Below.refl w.heap.size w).alloc (Nat.le_refl _) _⟩
theorem ajy (s:ByteArray)(at_:Int)(w:World)(hs:s.size≤2000000000)(hG:Gl w):Calls Tryz.prog 90 #[.string s,.int .i64 at_] w (abx (abk (aad s)) w):=by
 have HG:=aac hG;clear hG;have HB:=aac ((Below.refl w.heap.size w).alloc (Nat.le_refl _) (.cells #[.int .i64 0,.string ⟨#[]⟩,.bool false,.bool false] 44));by_cases h1:(60:Int)∈aad s
 · have C1:=aac (fun W (hW:Gl W)=>aen s ⟨#[60]⟩ W (by omega) hW true ((aqI 60 _).2 h1));have HR:Hid (abk (aad s)=(T0,6)):=aac (by unfold abk;rw[if_pos h1]);clear h1;go_enter Tryz.func90,Tryz.ntmps90;go_wp2_with fail;refine(C1.out _ (HG.out.alloc _)).mono ?_;rintro e w1 ⟨rfl,rfl⟩;go_wp2_with fail;refine bodyPost_ret (v:=.tuple #[.agg #[.int .i64 0,.string ⟨#[]⟩,.bool false,.bool false],.int .i64 6]) (by simp[results,Tryz.results90,go_sem]) rfl ?_;rw[HR.out];exact⟨by rw[tk0],HB.out⟩
 · have h1':(fnd (aad ⟨#[60]⟩) (aad s)).isSome=false:=by
    cases hf:(fnd (aad ⟨#[60]⟩) (aad s)).isSome with
    | false=>rfl
    | true=>exact absurd ((aqI 60 _).1 hf) h1
   have C1:=aac (fun W (hW:Gl W)=>aen s ⟨#[60]⟩ W (by omega) hW false h1');by_cases h2:(aad s).getLast?=some 47
   · have C2:=aac (fun W=>ahn s 47 W (by omega) true (decide_eq_true h2));simp only[if_true] at C2;have HR:Hid (abk (aad s)=(⟨1,(aad s).dropLast,true,false⟩,0)):=aac (by unfold abk;rw[if_neg h1,if_pos h2]);clear h1 h1' h2;generalize hr:strOfNums (aad s).dropLast=r at C2;have HRr:=aac hr;clear hr;go_enter Tryz.func90,Tryz.ntmps90;go_wp2_with fail;refine(C1.out _ (HG.out.alloc _)).mono ?_;rintro e w1 ⟨rfl,rfl⟩;go_wp2_with fail;refine(C2.out _).mono ?_;rintro e w1 ⟨rfl,rfl⟩;go_wp2_with fail;refine bodyPost_ret (v:=.tuple #[.agg #[.int .i64 1,.string r,.bool true,.bool false],.int .i64 0]) (by simp[results,Tryz.results90,go_sem]) rfl ?_;rw[HR.out];exact⟨by unfold tkV;rw[HRr.out],(Below.refl w.heap.size w).alloc (Nat.le_refl _) _⟩
   · have C2:=aac (fun W=>ahn s 47 W (by omega) false (decide_eq_false h2));simp only[Bool.false_eq_true,if_false] at C2;have HR:Hid (abk (aad s)=(⟨1,aad s,false,false⟩,0)):=aac (by unfold abk;rw[if_neg h1,if_neg h2]);clear h1 h1' h2;go_enter Tryz.func90,Tryz.ntmps90;go_wp2_with fail;refine(C1.out _ (HG.out.alloc _)).mono ?_;rintro e w1 ⟨rfl,rfl⟩;go_wp2_with fail;refine(C2.out _).mono ?_;rintro e w1 ⟨rfl,rfl⟩;go_wp2_with fail;refine bodyPost_ret (v:=.tuple #[.agg #[.int .i64 1,.string s,.bool false,.bool false],.int .i64 0]) (by simp[results,Tryz.results90,go_sem]) rfl ?_;rw[HR.out];exact⟨by unfold tkV;rw[abM],(Below.refl w.heap.size w).alloc (Nat.le_refl _) _⟩
theorem abL (l:List Int):(strOfNums l).size=l.length:=by
 have:(strOfNums l).size=(strOfNums l).data.toList.length:=(by simp);rw[this,strOfNums_data,List.length_map]
theorem aqK (l:List Int):(aeW l).length≤l.length:=by
 unfold aeW;rw[List.length_reverse];have:=(List.dropWhile_suffix (l:=l.reverse) aaZ).length_le
 rwa [List.length_reverse] at this
theorem asS (s f:ByteArray)(at_:Int)(a b:ByteArray)(ok:Bool)(w:World)(hG:Gl w)
 (C1:Hid (∀ W,Gl W→Calls Tryz.prog 116 #[.string s,.func (.func 59) #[] #[]] W fun e w'=>e=.returned (.string f)∧Below W.heap.size W w'))
 (C2:Hid (∀ W,Calls Tryz.prog 104 #[.string f] W fun e w'=>e=.returned (.tuple #[.string a,.string b,.bool ok])∧Below W.heap.size W w')):
 Calls Tryz.prog 88 #[.string s,.int .i64 at_] w fun e w'=>e=.returned (.tuple #[if ok=true then .agg #[.int .i64 2,.string f,.bool false,.bool false] else .agg #[.int .i64 0,.string ⟨#[]⟩,.bool false,.bool false],.int .i64 (if ok=true then 0 else 4)])∧Below w.heap.size w w':=by
 have HG:=aac hG;clear hG;have HB:=aac ((Below.refl w.heap.size w).alloc (Nat.le_refl _) (.cells #[.int .i64 0,.string ⟨#[]⟩,.bool false,.bool false] 44));have HN:=aac (abR w);cases ok
 all_goals
  simp only[Bool.false_eq_true,if_false,if_true];go_enter Tryz.func88,Tryz.ntmps88;go_wp2_with fail;refine(C1.out _ (HG.out.alloc _)).mono ?_;rintro e w1 ⟨rfl,hb1⟩;go_wp2_with fail;refine(C2.out _).mono ?_;rintro e w2 ⟨rfl,hb2⟩;have hz1:w.heap.size < w1.heap.size:=by have:=hb1.size;simp at this;omega
  have hz2:w.heap.size < w2.heap.size:=Nat.lt_of_lt_of_le hz1 hb2.size;have hb:=HB.out.trans (hb1.mono (by simp));have HB2:=aac (hb.trans (hb2.mono hb.size));obtain⟨c0,c1,c2,c3,f0,f1,f2,f3⟩:=(HN.out.keep hb1 (by simp)).keep hb2 hz1;clear hb1 hb2 hb;go_wp2_with fail
 · exact bodyPost_ret (v:=.tuple #[.agg #[.int .i64 0,.string ⟨#[]⟩,.bool false,.bool false],.int .i64 4]) (by simp[results,Tryz.results88,go_sem,c0,c1,c2,c3,hz2]) rfl ⟨rfl,aah HB2.out (Nat.le_refl _) _ _ _ _⟩
 · exact bodyPost_ret (v:=.tuple #[.agg #[.int .i64 2,.string f,.bool false,.bool false],.int .i64 0]) (by simp[results,Tryz.results88,go_sem,c0,c1,c2,c3,hz2]) rfl ⟨rfl,aah HB2.out (Nat.le_refl _) _ _ _ _⟩
theorem aot (s:ByteArray)(at_:Int)(w:World)(hs:s.size≤2000000000)(hG:Gl w):Calls Tryz.prog 88 #[.string s,.int .i64 at_] w (abx (akg (aad s)) w):=by
 have hl:=aqK (aad s);rw[aae] at hl;refine(asS s _ at_ _ _ _ w hG (aac fun W hW=>arj s W (by omega) hW) (aac fun W=>Nz.afc (strOfNums (aeW (aad s))) (by rw[abL];omega) W)).mono ?_;rintro e w' ⟨rfl,hb⟩;refine⟨?_,hb⟩;unfold akg nmB
 cases (Nz.aak (strOfNums (aeW (aad s)))).2.2 with
 | true=>rfl
 | false=>
   simp only[Bool.false_eq_true,if_false,if_true];rw[tk0]
theorem alA (s:ByteArray)(at_ er:Int)(b:Nat)(w:World)(hc:w.cell? ⟨b,0,none⟩=some (.int .i64 er)):Calls Tryz.prog 112 #[.string s,.int .i64 at_,.pointer (some ⟨b,0,none⟩)] w (abx (T0,er) w):=by
 have hlt:b < w.heap.size:=Lib.lt_of_cell hc;have hne:¬ b=w.heap.size:=(by omega);have hc2:∀ o,(w.alloc o).cell? ⟨b,0,none⟩=some (.int .i64 er):=fun o=>(((Below.refl w.heap.size w).alloc (Nat.le_refl _) o).cell (p:=⟨b,0,none⟩) hlt).trans hc;have HB:=aac ((Below.refl w.heap.size w).alloc (Nat.le_refl _) (.cells #[.int .i64 0,.string ⟨#[]⟩,.bool false,.bool false] 44));go_enter Tryz.func112,Tryz.ntmps112;go_wp2;go_region
 all_goals
  go_wp2;exact bodyPost_ret (v:=.tuple #[tkV T0,.int .i64 er]) (by rw[tk0];simp[results,Tryz.results112,go_sem]) rfl ⟨rfl,HB.out.drew⟩
end Go.Proofs.YtiaebhomfebagaaGreatDoor
namespace Go.Proofs.YtiaebhomfebagaaGreatDoor
open Go.Shelf
def Tryz.alc:Go.Shelf.Ren:=⟨fun | 103=>66 | 210=>91 | 206=>92 | n=>n,fun | 9=>9 | 4=>4 | 24=>123 | 3=>3 | n=>n,fun | n=>n⟩
theorem Tryz.lays103:Go.Proofs.Lays.n103 Tryz.prog Tryz.alc:={
 mixed:=by kernel_rfl
 f103:=Tryz.func66.trans (congrArg some (by kernel_rfl))
 f206:=Tryz.func92.trans (congrArg some (by kernel_rfl))
 f210:=Tryz.func91.trans (congrArg some (by kernel_rfl))
 t3:=Tryz.underlying3
 a3:=Tryz.isAgg3
 z3:=Tryz.sizeOf3
 v3:=Tryz.zeroValue3
 t4:=Tryz.underlying4
 a4:=Tryz.isAgg4
 z4:=Tryz.sizeOf4
 v4:=Tryz.zeroValue4
 t9:=Tryz.underlying9
 a9:=Tryz.isAgg9
 z9:=Tryz.sizeOf9
 v9:=Tryz.zeroValue9
 t24:=Tryz.underlying123
 a24:=Tryz.isAgg123
 z24:=Tryz.sizeOf123
 v24:=Tryz.zeroValue123 }
open Go.RowKit in
theorem Tryz.strings_CutPrefix (s p:ByteArray)(w:World):
 Calls Tryz.prog 66 #[.string s,.string p] w fun e w'=>e=.returned (.tuple #[.string ⟨(Lib.trimPrefix s.data.toList p.data.toList).toArray⟩,.bool (Lib.hasPrefix s.data.toList p.data.toList)])∧w'=w:=Any.strings_CutPrefix Tryz.lays103 s p w
def Tryz.aoo:Go.Shelf.Ren:=⟨fun | 99=>68 | 206=>92 | n=>n,fun | 9=>9 | 4=>4 | 3=>3 | n=>n,fun | n=>n⟩
theorem Tryz.lays99:Go.Proofs.Lays.n99 Tryz.prog Tryz.aoo:={
 mixed:=by kernel_rfl
 f99:=Tryz.func68.trans (congrArg some (by kernel_rfl))
 f206:=Tryz.func92.trans (congrArg some (by kernel_rfl))
 t3:=Tryz.underlying3
 a3:=Tryz.isAgg3
 z3:=Tryz.sizeOf3
 v3:=Tryz.zeroValue3
 t4:=Tryz.underlying4
 a4:=Tryz.isAgg4
 z4:=Tryz.sizeOf4
 v4:=Tryz.zeroValue4
 t9:=Tryz.underlying9
 a9:=Tryz.isAgg9
 z9:=Tryz.sizeOf9
 v9:=Tryz.zeroValue9 }
open Go.RowKit Go.Lib in
theorem Tryz.strings_HasPrefix (s p:ByteArray)(w:World):
 Calls Tryz.prog 68 #[.string s,.string p] w fun e w'=>e=.returned (.bool (Lib.hasPrefix s.data.toList p.data.toList))∧w'=w:=Any.strings_HasPrefix Tryz.lays99 s p w
end Go.Proofs.YtiaebhomfebagaaGreatDoor
namespace Go.Proofs.YtiaebhomfebagaaGreatDoor
open Go.RowKit
theorem ahN {P:Program}{a:Act}{w:World}{Q:Exit→Act→World→Prop}{c rest:Code}(l:Nat)(hf:findLabel c l=some rest)
 (first:c.wp P (Exit.jump l (fun a w=>rest.wp P (Exit.noGoto Q) a w) Q) a w):(Code.scope c).wp P Q a w:=
 wp_scope_jumps l (fun a w=>rest.wp P (Exit.noGoto Q) a w) (fun _ _=>0) hf first fun a w h=>wp_mono h fun e a w he=>by
  cases e with
  | goto l'=>exact he.elim
  | _=>exact he
theorem ahO {l:Nat}{J:Act→World→Prop}{Q:Exit→Act→World→Prop}{a:Act}{w:World}:Exit.jump l J Q .ret a w=Q .ret a w:=rfl
theorem amR (c:Nat)(h:c < 128):0≤afD c∧afD c≤8490:=by
 unfold afD
 repeat' split
 all_goals omega
theorem a1i (c:Nat)(w:World)(h:c < 128)(hG:Gl w):Calls Tryz.prog 136 #[.int .i32 c] w fun e w'=>e=.returned (.int .i32 (afD c))∧w=w':=by
 have hc:=hG.fold c h;have hb:=amR c h;generalize afD c=f at *;clear hG;go_enter Tryz.func136,Tryz.ntmps136;go_wp2;go_ret;exact⟨rfl,rfl⟩
theorem a1r (t:ByteArray)(w:World)(h0:0 < t.size)(ht:t.size≤1000000000000)(h:bt t 0 < 128):Calls Tryz.prog 135 #[.string t] w fun e w'=>e=.returned (.tuple #[.int .i32 (bt t 0),.int .i64 1])∧w=w':=by
 have hb:=ajc t 0 h0;have h1:=akz t 0;generalize bt t 0=x at *;have hne:t.toList.isEmpty=false:=by rw[Nz.isE];exact decide_eq_false (by omega)
 go_enter Tryz.func135,Tryz.ntmps135;go_wp2;go_ret2;exact⟨rfl,rfl⟩
def FO (c:Int):Prop:=0≤c∧c < 128∧afD c.toNat < 128∧afD (afD c.toNat).toNat=c
theorem aqx {c:Int}(h:128≤c):aaQ c=c:=by unfold aaQ;rw[if_neg (by omega)]
theorem aoM {c:Int}(h:c < 128):aaQ c < 128:=by
 unfold aaQ;split;all_goals omega
theorem aev (s:ByteArray)(k:Nat)(h:k < s.size):(abz (aad s))[k]?=some (aaQ (bt s k)):=by
 unfold abz;rw[List.getElem?_map,acT,List.getD_eq_getElem?_getD,List.getElem?_eq_getElem (by rw[aae];exact h)];rfl
theorem amg {s t:ByteArray}{k:Nat}(hs:k < s.size)(ht:k < t.size)(h:aaQ (bt s k)≠aaQ (bt t k)):decide (abz (aad s)=abz (aad t))=false:=by
 refine decide_eq_false fun e=>h ?_;have:=congrArg (·[k]?) e;simp only[aev s k hs,aev t k ht,Option.some.injEq] at this;exact this
theorem aoU {s t:ByteArray}(h:s.size≠t.size):decide (abz (aad s)=abz (aad t))=false:=by
 refine decide_eq_false fun e=>h ?_;have:=congrArg List.length e;unfold abz at this
 simpa [aae] using this
theorem aoy {s t:ByteArray}(h:s.size=t.size)(ha:∀ j,j < s.size→aaQ (bt s j)=aaQ (bt t j)):decide (abz (aad s)=abz (aad t))=true:=by
 refine decide_eq_true ?_;apply List.ext_getElem?;intro i;rcases Nat.lt_or_ge i s.size with g | g
 · rw[aev s i g,aev t i (by omega),ha i g]
 · rw[List.getElem?_eq_none (by unfold abz;rw[List.length_map,aae];omega),List.getElem?_eq_none (by unfold abz;rw[List.length_map,aae];omega)]
theorem aoS (t:ByteArray)(k:Nat):bt (t.extract k t.size) 0=bt t k:=by
 rw[acT,acT,aal,List.take_of_length_le (by rw[aae];omega),List.getD_eq_getElem?_getD,List.getElem?_drop,Nat.add_zero,← List.getD_eq_getElem?_getD]
theorem ext_size (t:ByteArray)(k:Nat):(t.extract k t.size).size=t.size - k:=by rw[← aae,aal,List.length_drop,List.length_take,aae];omega
theorem aeM {a b:Bool}(h:b=a):Ending.returned (.bool a)=.returned (.bool b):=by rw[h]
theorem atD {x y:Nat}(h:x=y∨(65≤x∧x≤90∧y=x+32)∨(65≤y∧y≤90∧x=y+32)):aaQ (x:Int)=aaQ (y:Int):=by
 unfold aaQ
 repeat' split
 all_goals omega
theorem azh {x y:Nat}(h0:x < 128)(h1:y < 128)(h:¬ (x=y∨(65≤x∧x≤90∧y=x+32)∨(65≤y∧y≤90∧x=y+32))):aaQ (x:Int)≠aaQ (y:Int):=by
 unfold aaQ
 repeat' split
 all_goals omega
theorem anT {s t:ByteArray}{k x y:Nat}(ha:∀ j,j < k→aaQ (bt s j)=aaQ (bt t j))(hx:bt s k=x∧bt t k=y)(h:aaQ (x:Int)=aaQ (y:Int)):∀ j,j < k+1→aaQ (bt s j)=aaQ (bt t j):=fun j hj=>by
 rcases Nat.lt_or_eq_of_le (Nat.le_of_lt_succ hj) with e | e
 · exact ha j e
 · rw[e,hx.1,hx.2,h]
def a3Y (s t:ByteArray)(i:Value):Prop:=∃ k:Nat,k≤s.size∧k≤t.size∧i=.int .i64 k∧∀ j,j < k→aaQ (bt s j)=aaQ (bt t j)
theorem anL (s t:ByteArray)(w:World)(hs:s.size≤1000000000000)(ht:t.size≤100)(hF:∀ j,j < t.size→FO (bt t j))(hG:Gl w):
 Calls Tryz.prog 114 #[.string s,.string t] w fun e w'=>e=.returned (.bool (decide (abz (aad s)=abz (aad t))))∧Below w.heap.size w w':=by
 obtain⟨M,hM⟩:∃ M:Nat,min (s.size:Int) (t.size:Int)=(M:Int):=⟨min s.size t.size,by omega⟩;have hMs:M≤s.size:=(by omega);have hMt:M≤t.size:=(by omega);have hMe:M=s.size∨M=t.size:=(by omega);have HG:=aac hG;have HF:=aac hF;clear hG hF;go_enter Tryz.func114,Tryz.ntmps114;go_wp2_with fail;refine ahN 0 rfl ?_;go_wp2_with fail;go_loop [5] (fun i=>a3Y s t i) (fun i=>M - (intOf i).toNat);case atStart=>exact⟨0,Nat.zero_le _,Nat.zero_le _,rfl,fun j hj=>by omega⟩
 case round=>
  obtain⟨k,hks,hkt,rfl,hall⟩:=hrel;have HA:=aac hall;clear hall hM;by_cases hlt:k < M
  · obtain⟨x,hx⟩:∃ x:UInt8,s[k]'(by omega)=x:=⟨_,rfl⟩;obtain⟨y,hy⟩:∃ y:UInt8,t[k]'(by omega)=y:=⟨_,rfl⟩;have HX:Hid (bt s k=(x.toNat:Int)∧bt t k=(y.toNat:Int)):=aac ⟨by rw[← ajc s k (by omega),hx],by rw[← ajc t k (by omega),hy]⟩;have hfo:=HF.out k (by omega);rw[HX.out.2] at hfo;have hy128:y.toNat < 128:=by have:=hfo.2.1;omega
    have hor:bits .or .u8 (x.toNat:Int) (y.toNat:Int)=((x.toNat ||| y.toNat:Nat):Int):=u8_or_nat _ _ (by have:=x.toNat_lt;omega) (by omega);have hkM:(k:Int) < (M:Int):=(by omega);have hk1:(k:Int) < (s.size:Int):=(by omega);have hk2:(k:Int) < (t.size:Int):=(by omega);have HFO:=aac hfo;clear hfo;by_cases hx128:x.toNat < 128
    · have hor128:¬ ((128:Int)≤((x.toNat ||| y.toNat:Nat):Int)):=by have:=Nat.or_lt_two_pow (n:=7) hx128 hy128;omega
      go_wp2_with fail;all_goals (try simp only[beq_iff_eq,beq_eq_false_iff_ne,ne_eq] at *)
      all_goals first
       | (go_round;case rel=>exact⟨k+1,by omega,by omega,by go_num,anT HA.out HX.out (atD (by omega))⟩
          case measure=>simp only[intOf];omega)
       | (rw[ahO];go_ret;exact⟨aeM (amg (k:=k) (by omega) (by omega) (by rw[HX.out.1,HX.out.2];exact azh (by omega) (by omega) (by omega))),Below.refl _ _⟩)
    · have hor128:(128:Int)≤((x.toNat ||| y.toNat:Nat):Int):=by have:=Nat.left_le_or (n:=x.toNat) (m:=y.toNat);omega
      have hS0:0 < (s.extract k s.size).size:=by rw[← aae,aal,List.length_drop,List.length_take,aae];omega
      have hT0:0 < (t.extract k t.size).size:=by rw[← aae,aal,List.length_drop,List.length_take,aae];omega
      have hnx:∀ ty,(Instr.next (.pointer (some ⟨w.heap.size,0,none⟩)) true ty).run Tryz.prog (w.iter (s.extract k s.size) 0)=_:=fun ty=>run_next_any w (s.extract k s.size) 0 ty hS0
      have hR:128≤(Utf8.decode (s.extract k s.size) 0).1:=by
       refine(decode_high _ 0 hS0 ?_).1;have:=aoS s k;rw[← ajc _ 0 hS0,HX.out.1] at this;omega
      have hR2:(Utf8.decode (s.extract k s.size) 0).1≤1114111:=Lib.rune_le _ _;generalize (Utf8.decode (s.extract k s.size) 0).1=r at *;generalize (Utf8.decode (s.extract k s.size) 0).2=d at *;go_wp2_with fail
      go_step3
      refine⟨rfl,?_⟩;go_wp2_with fail;go_loopw [1] (fun v wr=>wr=w.iter (s.extract k s.size) 0∧v=.string (t.extract k t.size)) (fun _ _=>0);case atStart=>exact⟨rfl,rfl⟩
      case round=>
       obtain⟨rfl,rfl⟩:=hrel;have HD:=aac (fun W=>a1r (t.extract k t.size) W hT0 (by rw[ext_size];omega) (by rw[aoS,HX.out.2];omega));rw[aoS,HX.out.2] at HD
       have HN:Hid (aaQ (bt s k)≠aaQ (bt t k)):=aac (by
        rw[HX.out.1,HX.out.2,aqx (by omega)];have:=aoM (c:=(y.toNat:Int)) (by omega);omega)
       have HSF:=aac (fun c (hc:c < 128) p=>a1i c (w.iter (s.extract k s.size) p) hc (HG.out.alloc _));obtain⟨f,hf⟩:∃ f:Nat,afD y.toNat=f:=⟨(afD y.toNat).toNat,by have:=amR y.toNat hy128;omega⟩;have hfo:=HFO.out;unfold FO at hfo;rw[Int.toNat_natCast,hf,Int.toNat_natCast] at hfo;have hf1:f < 128:=(by omega);have HS1:=aac (HSF.out y.toNat hy128);have HS2:=aac (HSF.out f hf1);rw[hf] at HS1;rw[hfo.2.2.2] at HS2;clear hf hfo HSF;have hT1:(1:Int)≤((t.extract k t.size).size:Int):=(by omega);have t1:((y.toNat:Int) == (r:Int))=false:=by rw[beq_eq_false_iff_ne];omega
       go_wp2_with fail;refine(HD.out _).mono ?_;rintro e w1 ⟨rfl,rfl⟩;go_wp2_with fail;refine(HS1.out _).mono ?_;rintro e w1 ⟨rfl,rfl⟩;go_wp2_with fail;go_loop [13] (fun z=>z=.int .i32 (y.toNat:Int)∨(z=.int .i32 (f:Int)∧f≠y.toNat)) (fun z=>if intOf z=(y.toNat:Int) then 0 else 1)
       case atStart=>
        by_cases e:f=y.toNat
        · exact .inl (by rw[e])
        · exact .inr ⟨rfl,e⟩
       case round=>
        rcases hrel with rfl | ⟨rfl,hne⟩
        · go_wp2_with fail;go_ret;exact⟨aeM (amg (k:=k) (by omega) (by omega) HN.out),(Below.refl _ w).alloc (Nat.le_refl _) _⟩
        · have t2:((f:Int) == (y.toNat:Int))=false:=by rw[beq_eq_false_iff_ne];omega
          have t3:((f:Int) != (y.toNat:Int))=true:=by rw[bne_iff_ne];omega
          have t4:(f:Int) < (r:Int):=(by omega);go_wp2_with fail;refine(HS2.out _).mono ?_;rintro e w1 ⟨rfl,rfl⟩;go_wp2_with fail;go_round;case rel=>exact .inl rfl
          case measure=>
           have hn2:¬ ((f:Int)=(y.toNat:Int)):=(by omega);simp[intOf,hne,hn2]
  · have hkM:¬ (k:Int) < (M:Int):=(by omega);obtain rfl:k=M:=(by omega);by_cases hst:s.size=t.size
    · have hb:((s.size:Int) == (t.size:Int))=true:=beq_iff_eq.2 (by omega);go_wp2_with fail;rw[ahO];go_ret;exact⟨aeM (aoy hst fun j hj=>HA.out j (by omega)),Below.refl _ _⟩
    · have hb:((s.size:Int) == (t.size:Int))=false:=beq_eq_false_iff_ne.2 (by omega);go_wp2_with fail;rw[ahO];go_ret;exact⟨aeM (aoU hst),Below.refl _ _⟩
end Go.Proofs.YtiaebhomfebagaaGreatDoor
