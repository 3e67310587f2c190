/- Lemmas of the claim. -/
import Derived.Test.YtnomcldpbkinmaaGreatDoorG07
import Derived.Test.YtnomcldpbkinmaaGreatDoorG04
import Derived.Test.YtnomcldpbkinmaaGreatDoorG02
import Derived.Test.YtnomcldpbkinmaaGreatDoorG27
import Derived.Test.YtnomcldpbkinmaaGreatDoorProg
import Derived.Lib.Hide
import Derived.Below
import Derived.Laws.RangeAny
import Derived.Deep.QuietTactic
import Derived.BigQuiet
import Derived.Shelf.Small.Wraps
import Derived.Shelf.Strings.Prefix
set_option maxHeartbeats 1000000
set_option maxRecDepth 100000
set_option linter.unusedSimpArgs false
set_option linter.unusedVariables false
namespace Go.Proofs.YtnomcldpbkinmaaGreatDoor
open Go.RowKit Go.Lib
open Nz (bl dN acL aaS)
def bn (n:Nat):Bool:=decide (Blank (n:Int))
theorem axA (s:ByteArray):aad s=(bl s).map (fun n:Nat=>(n:Int)):=by simp[aad,bl]
theorem axI (s:ByteArray)(k:Nat):(aad s).getD k 0=((bl s).getD k 0:Int):=by
 rw[axA,List.getD_eq_getElem?_getD,List.getD_eq_getElem?_getD,List.getElem?_map];cases (bl s)[k]? <;> simp
theorem amS (l:List Nat)(n:Nat)(h:n < l.length):l.drop n=l.getD n 0 :: l.drop (n+1):=by
 rw[List.drop_eq_getElem_cons h,List.getD_eq_getElem?_getD,List.getElem?_eq_getElem h];rfl
theorem auS (p:Int→Bool):∀ (l:List Int) (k:Nat),(∀ j,j < k→p (l.getD j 0)=true)→k < l.length→p (l.getD k 0)=false→l.takeWhile p=l.take k∧l.dropWhile p=l.drop k
 | [],k,_,h,_=>by simp at h
 | c :: l,0,_,_,h=>by
   have h':p c=false:=h;simp[List.takeWhile,List.dropWhile,h']
 | c :: l,k+1,h1,h2,h3=>by
   have h0:p c=true:=h1 0 (by omega);have ih:=auS p l k (fun j hj=>h1 (j+1) (by omega)) (by simpa using h2) h3;simp[List.takeWhile,List.dropWhile,h0,ih.1,ih.2]
theorem aml (p:Int→Bool):∀ (l:List Int),(∀ x∈l,p x=true)→l.takeWhile p=l∧l.dropWhile p=[]
 | [],_=>⟨rfl,rfl⟩
 | c :: l,h=>by
   have h0:p c=true:=h c (by simp);have ih:=aml p l fun x hx=>h x (List.mem_cons_of_mem _ hx);simp[List.takeWhile,List.dropWhile,h0,ih.1,ih.2]
theorem akX {l:List Int}{x:Int}(h:x∈l):∃ j,j < l.length∧l.getD j 0=x:=by
 obtain⟨j,hj,e⟩:=List.getElem_of_mem h;exact⟨j,hj,by simp[List.getElem?_eq_getElem hj,e]⟩
theorem apS (s:ByteArray)(pos:Nat)(h:pos < s.size)(ha:(bl s).getD pos 0 < 128):Utf8.decode s pos=((bl s).getD pos 0,1):=by
 have e:(s[pos]'h).toNat=(bl s).getD pos 0:=by
  unfold bl;rw[List.getD_eq_getElem?_getD,List.getElem?_map];have:s.data.toList[pos]?=some (s[pos]'h):=by rw[Array.getElem?_toList];exact Array.getElem?_eq_getElem h
  rw[this];rfl
 rw[decode_ascii s pos h (by omega),e]
theorem aix (s:ByteArray)(pos:Nat)(h:pos < s.size)(ha:128≤(bl s).getD pos 0):128≤(Utf8.decode s pos).1∧1≤(Utf8.decode s pos).2:=by
 have e:(s[pos]'h).toNat=(bl s).getD pos 0:=by
  unfold bl;rw[List.getD_eq_getElem?_getD,List.getElem?_map];have:s.data.toList[pos]?=some (s[pos]'h):=by rw[Array.getElem?_toList];exact Array.getElem?_eq_getElem h
  rw[this];rfl
 exact decode_high s pos h (by omega)
theorem axQ (s:ByteArray)(pos j:Nat)(h:pos < s.size)(h1:1≤j)(h2:j < (Utf8.decode s pos).2)(h3:pos+j < s.size):128≤(bl s).getD (pos+j) 0:=by
 rcases Nat.lt_or_ge ((bl s).getD (pos+j) 0) 128 with g | g
 · exfalso;rw[acL] at h2;have hl:=aaS s
   have hsplit:(bl s).drop pos=((bl s).drop pos).take j++(bl s).getD (pos+j) 0 :: (bl s).drop (pos+j+1):=by
    conv=>lhs;rw[← List.take_append_drop j ((bl s).drop pos)]
    rw[List.drop_drop,amS (bl s) (pos+j) (by omega)]
   have hne:((bl s).drop pos).take j≠[]:=by
    intro e;have:=congrArg List.length e;rw[List.length_take,List.length_drop,List.length_nil] at this;omega
   rw[hsplit,Nz.anO _ _ _ g hne] at h2;have:=(Nz.abD _ hne).2;rw[List.length_take,List.length_drop] at this;omega
 · exact g
theorem acA {n:Nat}(h:128≤n):bn n=false:=by
 unfold bn;exact decide_eq_false (by unfold Blank;omega)
theorem ael (s:ByteArray)(k:Nat):bn ((bl s).getD k 0)=abf ((aad s).getD k 0):=by
 rw[axI];rfl
theorem aja (s:ByteArray):∀ (f pos:Nat),s.size≤pos+f→pos≤s.size→(∀ j,j < pos→abf ((aad s).getD j 0)=false)→
 (idxFuncFrom bn true s f pos= -1∧∀ j,j < s.size→abf ((aad s).getD j 0)=false)∨
 ∃ k:Nat,idxFuncFrom bn true s f pos=k∧k < s.size∧abf ((aad s).getD k 0)=true∧∀ j,j < k→abf ((aad s).getD j 0)=false
 | 0,pos,hf,hp,h=>.inl ⟨rfl,fun j hj=>h j (by omega)⟩
 | f+1,pos,hf,hp,h=>by
   by_cases hlt:pos < s.size
   · unfold idxFuncFrom;rw[if_pos hlt];rcases Nat.lt_or_ge ((bl s).getD pos 0) 128 with g | g
     · rw[apS s pos hlt g]
       cases hb:bn ((bl s).getD pos 0) with
       | true=>
         simp only[hb,if_true];exact .inr ⟨pos,rfl,hlt,by rw[← ael,hb],h⟩
       | false=>
         simp only[hb,Bool.false_eq_true,if_false];refine aja s f (pos+1) (by omega) (by omega) fun j hj=> ?_;rcases Nat.lt_or_eq_of_le (Nat.le_of_lt_succ hj) with e | e
         · exact h j e
         · rw[e,← ael,hb]
     · have hh:=aix s pos hlt g;have hw:=(Nz.abD _ (Nz.acE s pos hlt)).2;rw[← acL,List.length_drop,aaS] at hw;rw[if_neg (by rw[acA hh.1];simp)];refine aja s f (pos+(Utf8.decode s pos).2) (by omega) (by omega) fun j hj=> ?_;rcases Nat.lt_or_ge j pos with e | e
       · exact h j e
       · rw[← ael];apply acA;rcases Nat.eq_or_lt_of_le e with e2 | e2
         · rw[← e2];exact g
         · have:=axQ s pos (j - pos) hlt (by omega) (by omega) (by omega)
           rwa [show pos+(j - pos)=j by omega] at this
   · rw[idxFuncFrom_end _ _ _ _ _ hlt];exact .inl ⟨rfl,fun j hj=>h j (by omega)⟩
theorem apb (s:ByteArray):(idxFunc bn true s= -1∧tgt (aad s)=aad s)∨∃ k:Nat,idxFunc bn true s=k∧k < s.size∧tgt (aad s)=(aad s).take k:=by
 have hl:=aae s;rcases aja s s.size 0 (by omega) (by omega) (fun j hj=>by omega) with ⟨h1,h2⟩ | ⟨k,h1,h2,h3,h4⟩
 · refine .inl ⟨h1,(aml _ _ fun x hx=> ?_).1⟩;obtain⟨j,hj,rfl⟩:=akX hx;rw[h2 j (by omega)];rfl
 · refine .inr ⟨k,h1,h2,(auS _ _ k (fun j hj=> ?_) (by omega) ?_).1⟩
   · rw[h4 j hj];rfl
   · rw[h3];rfl
theorem ajR (s:ByteArray):∀ (f pos:Nat),s.size≤pos+f→pos≤s.size→(∀ j,j < pos→abf ((aad s).getD j 0)=true)→
 (idxFuncFrom bn false s f pos= -1∧∀ j,j < s.size→abf ((aad s).getD j 0)=true)∨
 ∃ k:Nat,idxFuncFrom bn false s f pos=k∧k < s.size∧abf ((aad s).getD k 0)=false∧∀ j,j < k→abf ((aad s).getD j 0)=true
 | 0,pos,hf,hp,h=>.inl ⟨rfl,fun j hj=>h j (by omega)⟩
 | f+1,pos,hf,hp,h=>by
   by_cases hlt:pos < s.size
   · unfold idxFuncFrom;rw[if_pos hlt];rcases Nat.lt_or_ge ((bl s).getD pos 0) 128 with g | g
     · rw[apS s pos hlt g]
       cases hb:bn ((bl s).getD pos 0) with
       | false=>
         simp only[hb,if_true];exact .inr ⟨pos,rfl,hlt,by rw[← ael,hb],h⟩
       | true=>
         simp only[hb,Bool.true_eq_false,if_false];refine ajR s f (pos+1) (by omega) (by omega) fun j hj=> ?_;rcases Nat.lt_or_eq_of_le (Nat.le_of_lt_succ hj) with e | e
         · exact h j e
         · rw[e,← ael,hb]
     · have hh:=aix s pos hlt g;rw[if_pos (acA hh.1)];exact .inr ⟨pos,rfl,hlt,by rw[← ael];exact acA g,h⟩
   · rw[idxFuncFrom_end _ _ _ _ _ hlt];exact .inl ⟨rfl,fun j hj=>h j (by omega)⟩
theorem aoe (s:ByteArray):aad (trimLeftF bn s)=(aad s).dropWhile abf:=by
 have hl:=aae s;unfold trimLeftF idxFunc;rcases ajR s s.size 0 (by omega) (by omega) (fun j hj=>by omega) with ⟨h1,h2⟩ | ⟨k,h1,h2,h3,h4⟩
 · rw[h1,if_pos rfl,(aml _ _ fun x hx=> ?_).2]
   · rfl
   · obtain⟨j,hj,rfl⟩:=akX hx;exact h2 j (by omega)
 · rw[h1,if_neg (by omega),(auS _ _ k h4 (by omega) h3).2,Int.toNat_natCast,aal,List.take_of_length_le (by omega)]
def a2m (l:List Int)(n:Nat):Prop:=n≤l.length∧(∀ j,n≤j→j < l.length→abf (l.getD j 0)=true)∧(n=0∨abf (l.getD (n - 1) 0)=false)
theorem ahq {l:List Int}{n:Nat}(h:a2m l n):adE l=l.take n:=by
 obtain⟨h1,h2,h3⟩:=h;unfold adE
 have hr:l.reverse.dropWhile abf=l.reverse.drop (l.length - n):=by
  have hg:∀ j,j < l.length→l.reverse.getD j 0=l.getD (l.length - 1 - j) 0:=fun j hj=>by
   rw[List.getD_eq_getElem?_getD,List.getD_eq_getElem?_getD,List.getElem?_reverse hj]
  by_cases h0:n=0
  · subst h0;rw[(aml _ _ fun x hx=> ?_).2,List.drop_of_length_le (by simp)];obtain⟨j,hj,rfl⟩:=akX (List.mem_reverse.1 hx);exact h2 j (Nat.zero_le _) hj
  · refine(auS _ _ (l.length - n) (fun j hj=> ?_) (by simp;omega) ?_).2
    · rw[hg j (by omega)];exact h2 _ (by omega) (by omega)
    · rw[hg _ (by omega)];rcases h3 with h3 | h3
      · exact absurd h3 h0
      · rw[← h3]
        congr 2
        omega
 rw[hr,List.drop_reverse,List.reverse_reverse]
 congr 1
 omega
theorem awm (l:List UInt8):Utf8.decode ⟨l.toArray⟩ 0=dN (l.map UInt8.toNat):=by
 rw[acL];simp[bl]
theorem ahN (s:ByteArray):∀ (f i:Nat),i≤f→i≤s.size→(∀ j,i≤j→j < s.size→abf ((aad s).getD j 0)=true)→
 (lastIdxFuncFrom bn false s f i= -1∧a2m (aad s) 0)∨∃ r:Nat,lastIdxFuncFrom bn false s f i=r∧r < s.size∧a2m (aad s) (r+(Utf8.decode s r).2)
 | f,0,hf,hi,h=>by
   rw[lastIdxFuncFrom_zero];exact .inl ⟨rfl,Nat.zero_le _,fun j _ hj=>h j (Nat.zero_le _) (by rwa [aae] at hj),.inl rfl⟩
 | f+1,i+1,hf,hi,h=>by
   unfold lastIdxFuncFrom;rw[if_pos (by omega)]
   have hl:(s.data.toList.take (i+1)).length=i+1:=by
    rw[List.length_take,Array.length_toList];have:s.data.size=s.size:=rfl;omega
   have hbl:(s.data.toList.take (i+1)).map UInt8.toNat=(bl s).take (i+1):=by rw[List.map_take];rfl
   have hne:s.data.toList.take (i+1)≠[]:=fun e=>by rw[e] at hl;simp at hl
   have hlast:((s.data.toList.take (i+1)).getD ((s.data.toList.take (i+1)).length - 1) 0).toNat=(bl s).getD i 0:=by
    rw[hl,Nat.add_sub_cancel,List.getD_eq_getElem?_getD,List.getElem?_take,if_pos (by omega)];unfold bl;rw[List.getD_eq_getElem?_getD,List.getElem?_map];cases s.data.toList[i]? <;> simp
   have hbd:∀ j,i+1≤j→j < (aad s).length→abf ((aad s).getD j 0)=true:=fun j a b=>h j a (by rwa [aae] at b);have hlen:=aae s;rcases Nat.lt_or_ge ((bl s).getD i 0) 128 with g | g
   · have hd:decodeLastL (s.data.toList.take (i+1))=((bl s).getD i 0,1):=by
      unfold decodeLastL;rw[if_neg hne,if_pos (by rw[hlast];exact g),hlast]
     rw[hd]
     cases hb:bn ((bl s).getD i 0) with
     | true=>
       simp only[hb,Bool.true_eq_false,if_false,Nat.add_sub_cancel];refine ahN s f i (by omega) (by omega) fun j a b=> ?_;rcases Nat.eq_or_lt_of_le a with e | e
       · rw[← e,← ael,hb]
       · exact h j (by omega) b
     | false=>
       simp only[hb,if_true,Nat.add_sub_cancel];refine .inr ⟨i,rfl,by omega,?_⟩;rw[apS s i (by omega) g];exact⟨by omega,hbd,.inr (by rw[Nat.add_sub_cancel,← ael,hb])⟩
   · have key:∃ x k,decodeLastL (s.data.toList.take (i+1))=(x,k)∧128≤x∧1≤k∧k≤i+1∧(dN (((bl s).take (i+1)).drop (i+1 - k))).2=k:=by
      unfold decodeLastL;rw[if_neg hne,if_neg (by rw[hlast];omega)];simp only[hl];by_cases hc:lastStart (s.data.toList.take (i+1))+(decodeL ((s.data.toList.take (i+1)).drop (lastStart (s.data.toList.take (i+1))))).2=i+1
      · rw[if_pos hc];generalize lastStart (s.data.toList.take (i+1))=a at hc;have hw:=decodeL_width ((s.data.toList.take (i+1)).drop a)
        have hdl:decodeL ((s.data.toList.take (i+1)).drop a)=dN (((bl s).take (i+1)).drop a):=by
         unfold decodeL;rw[awm,List.map_drop,hbl]
        rw[hdl] at hc hw ⊢;obtain⟨x,k,hxk⟩:∃ x k,dN (((bl s).take (i+1)).drop a)=(x,k):=⟨_,_,rfl⟩;rw[hxk] at hc hw ⊢;simp only at hc hw;refine⟨x,k,rfl,?_,hw,by omega,by rw[show i+1 - k=a by omega,hxk]⟩;rcases Nat.lt_or_ge (((bl s).take (i+1)).drop a |>.getD 0 0) 128 with q | q
        · exfalso
          have hA:((bl s).take (i+1)).drop a≠[]:=fun e=>by
           have:=congrArg List.length e;rw[List.length_drop,List.length_take,aaS,List.length_nil] at this;omega
          obtain⟨c,B,hcb⟩:∃ c B,((bl s).take (i+1)).drop a=c :: B:=by
           cases hq:((bl s).take (i+1)).drop a with
           | nil=>exact absurd hq hA
           | cons c B=>exact⟨c,B,rfl⟩
          rw[hcb] at q hxk;have q':c < 128:=q;rw[Nz.aiZ B c q'] at hxk;have hk1:k=1:=(congrArg Prod.snd hxk).symm;have ha:a=i:=(by omega);subst ha
          have:(((bl s).take (a+1)).drop a).getD 0 0=(bl s).getD a 0:=by
           simp[List.getElem?_drop,List.getElem?_take]
          rw[hcb] at this;have:c=(bl s).getD a 0:=this;omega
        · have e:=awm ((s.data.toList.take (i+1)).drop a);rw[List.map_drop,hbl,hxk] at e;rw[show x=(Utf8.decode ⟨((s.data.toList.take (i+1)).drop a).toArray⟩ 0).1 by rw[e]]
          have hsz:0 < (ByteArray.mk ((s.data.toList.take (i+1)).drop a).toArray).size:=by
           show 0 < ((s.data.toList.take (i+1)).drop a).toArray.size;rw[List.size_toArray,List.length_drop,hl];omega
          refine(aix _ 0 hsz ?_).1
          rw[show bl (ByteArray.mk ((s.data.toList.take (i+1)).drop a).toArray)=((bl s).take (i+1)).drop a by
           unfold bl;simp[List.map_drop,List.map_take]]
          exact q
      · rw[if_neg hc];refine⟨_,_,rfl,by decide,Nat.le_refl _,by omega,?_⟩
        have hA:((bl s).take (i+1)).drop (i+1 - 1)≠[]:=fun e=>by
         have:=congrArg List.length e;rw[List.length_drop,List.length_take,aaS,List.length_nil] at this;omega
        have:=Nz.abD _ hA;rw[List.length_drop,List.length_take,aaS] at this;omega
     obtain⟨x,k,hd,hx,hk1,hk2,hw⟩:=key;rw[hd];simp only;rw[if_pos (acA hx)];refine .inr ⟨i+1 - k,rfl,by omega,?_⟩
     have hW:(Utf8.decode s (i+1 - k)).2=k:=by
      rw[acL];rcases Nat.eq_or_lt_of_le hi with e | e
      · have:(bl s).take (i+1)=bl s:=List.take_of_length_le (by rw[aaS];omega);rw[this] at hw;exact hw
      · have hb:abf ((aad s).getD (i+1) 0)=true:=h (i+1) (Nat.le_refl _) e
        have hc:(bl s).getD (i+1) 0 < 128:=by
         rcases Nat.lt_or_ge ((bl s).getD (i+1) 0) 128 with q | q
         · exact q
         · rw[← ael,acA q] at hb;cases hb
        have hsplit:(bl s).drop (i+1 - k)=((bl s).take (i+1)).drop (i+1 - k)++(bl s).getD (i+1) 0 :: (bl s).drop (i+1+1):=by
         conv=>lhs;rw[← List.take_append_drop (i+1) (bl s)]
         rw[List.drop_append_of_le_length (by rw[List.length_take,aaS];omega)]
         congr 1
         exact amS (bl s) (i+1) (by rw[aaS];omega)
        have hA:((bl s).take (i+1)).drop (i+1 - k)≠[]:=fun e=>by
         have:=congrArg List.length e;rw[List.length_drop,List.length_take,aaS,List.length_nil] at this;omega
        rw[hsplit,Nz.anO _ _ _ hc hA];exact hw
     rw[hW,show i+1 - k+k=i+1 by omega];exact⟨by omega,hbd,.inr (by rw[Nat.add_sub_cancel,← ael];exact acA g)⟩
theorem alv (s:ByteArray):aad (trimRightF bn s)=adE (aad s):=by
 unfold trimRightF rightEndF lastIdxFunc;rcases ahN s s.size s.size (Nat.le_refl _) (Nat.le_refl _) (fun j a b=>by omega) with ⟨h1,h2⟩ | ⟨r,h1,h2,h3⟩
 · rw[h1,if_neg (by omega),ahq h2,aal];simp
 · rw[h1,if_pos (by omega),Int.toNat_natCast,ahq h3,aal,List.drop_zero];have hsz:(s.extract r s.size).size=s.size - r:=by rw[← aae,aal,List.length_drop,List.length_take,aae];omega
   have:(decodeGoB (s.extract r s.size)).2=(Utf8.decode s r).2:=by
    unfold decodeGoB;rw[if_neg (by omega),acL,acL,List.drop_zero]
    congr 2
    exact Nz.ajI s r
   rw[this]
theorem aex (w:World):PredGrows Tryz.prog 91 #[] bn w:=fun W x hx hb=>(agF (x:Int) W).mono fun e w' ⟨h1,h2⟩=>⟨h1,by subst h2;exact Below.refl _ _⟩
theorem aiR:∀ args w,(callFunc 91 args).run Tryz.prog w=.ok (.enter 91 args) w:=enters_of Tryz.func91 (by kernel_rfl) rfl
theorem agf (s:ByteArray)(w:World):Calls Tryz.prog 132 #[.string s,.func (.func 91) #[] #[]] w fun e w'=>e=.returned (.int .i64 (idxFunc bn true s))∧Below w.heap.size w w':=
 Tryz.strings_IndexFunc_grows 91 #[] aiR bn s w (aex w)
theorem apA (s:ByteArray)(w:World):Calls Tryz.prog 184 #[.string s,.func (.func 91) #[] #[]] w fun e w'=>e=.returned (.string (strOfNums ((aad s).dropWhile abf)))∧Below w.heap.size w w':=
 (Tryz.strings_TrimLeftFunc_grows 91 #[] aiR bn s w (aex w)).mono fun e w' ⟨h1,h2⟩=>⟨by rw[h1,← aoe,← aaJ rfl],h2⟩
theorem aqm (s:ByteArray)(w:World)(hs:s.size≤1000000)(hG:Gl w):Calls Tryz.prog 135 #[.string s,.func (.func 91) #[] #[]] w fun e w'=>e=.returned (.string (strOfNums (adE (aad s))))∧Below w.heap.size w w':=
 (Tryz.strings_TrimRightFunc_grows 91 #[] aiR bn s w (by omega) hG.tabs (aex w)).mono fun e w' ⟨h1,h2⟩=>⟨by rw[h1,← alv,← aaJ rfl],h2⟩
end Go.Proofs.YtnomcldpbkinmaaGreatDoor
namespace Go.Proofs.YtnomcldpbkinmaaGreatDoor.Uz
open Go.RowKit
theorem Tryz.info21:(Tryz.prog.info? 21).map (fun i=>(i.zero,i.size,i.bytes))=some (some (.int .i32 0),1,4):=by kernel_rfl
theorem Tryz.info5:(Tryz.prog.info? 5).map (fun i=>(i.zero,i.size,i.bytes))=some (some (.int .u8 0),1,1):=by kernel_rfl
def Own (w:World)(B:Nat)(v:Value)(l:List Int):Prop:=w.ownsRow B 21 1 v l.length (l.map (Value.int .i32))
def ahm (s:ByteArray)(w:World)(x:List Int × Int × Int)(e:Ending)(w':World):Prop:=
 ∃ v,e=.returned (.tuple #[v,.int .i64 x.2.1,.int .i64 x.2.2])∧Own w' w.heap.size v x.1∧Below w.heap.size w w'
def akg (s:ByteArray)(w:World)(v i:Value)(wr:World):Prop:=
 ∃ (a:Nat) (pre:List Int),a≤s.size∧i=.int .i64 a∧Own wr w.heap.size v pre∧Below w.heap.size w wr∧pre.length≤a∧aiV s=(pre++(aef s a).1,(aef s a).2)
theorem alM (s:ByteArray)(w:World)(hs:s.size≤10000):
 Calls Tryz.prog 114 #[.string s] w (ahm s w (aiV s)):=by
 obtain⟨i0,hi,hz0,hz1,hz2⟩:=info_parts Tryz.info21;have hm:s.size≤maxLen:=by unfold maxLen;omega
 go_enter Tryz.func114,Tryz.ntmps114;go_wp2_with fail;go_loopw [5,6] (fun v i wr=>akg s w v i wr) (fun _ i _=>s.size - (intOf i).toNat);case atStart=>exact⟨0,[],Nat.zero_le _,rfl,World.ownsRow_nil _ _ _ _,Below.refl _ _,Nat.le_refl _,by simp[aqQ]⟩
 case round=>
  obtain⟨a,pre,ha,rfl,hown,hbel,hpre,hall⟩:=hrel;by_cases hlt:a < s.size
  · have hk:=acv s a hlt;obtain⟨r,n,er,hx⟩:∃ r n er,abd s a=(r,n,er):=⟨_,_,_,rfl⟩;have hc:=arb s a wr hm;have H0:=ake s a hlt;have H1:=amt s a hlt;rw[hx] at hk hc H0 H1;clear hx;unfold aoY at hk;dsimp only at hk hc H0 H1;have HC:=aac hc;clear hc;by_cases he:er=0
    · subst he;have hn:1≤n∧n≤(s.size - a:Nat):=by omega
      have HF:Hid (aiV s=((pre++[r])++(aef s (a+n.toNat)).1,(aef s (a+n.toNat)).2)):=by
       rw[H1 rfl] at hall;show aiV s=_;rw[hall];simp
      obtain⟨n,rfl⟩:=Int.eq_ofNat_of_zero_le (show 0≤n by omega);rw[Int.toNat_natCast] at HF;have hown':=hown.alloc (.cells #[.int .i32 r] 21);have hl2:=hbel.size;clear H0 H1 hall hk;go_wp2_with fail;refine HC.out.mono ?_;rintro e w1 ⟨rfl,rfl⟩;go_wp2_with (at_builtin;refine wpList_append_own _ rfl _ _ 101 rfl w.heap.size 21 i0 (.int .i32 0) 1 4 Tryz.underlying101 hi hz0 hz1 hz2 rfl (by decide) _ _ _ rfl hown' ⟨wr.heap.size,0,none⟩ 1 1 [.int .i32 r] rfl rfl ?c1 ?c2 ?c3 ?c4 ?c5 ?_);case c1=>exact cell_one_new _ _ _
      case c2=>intro u hu;simp at hu;subst hu;rfl
      case c3=>unfold maxLen;omega
      case c4=>omega
      case c5=>simp;omega
      intro v' w1 hown2 hgrow _;go_wp2;go_roundw
      case rel=>
       refine⟨a+n,pre++[r],by omega,by go_num,?_,?_,by simp;omega,HF.out⟩
       · unfold Own;rw[List.map_append,List.length_append];exact hown2
       · exact(hbel.alloc hl2 _).grown hgrow (by simp;omega) (fun g hg=>(hown.lt g hg).1)
      case measure=>simp[intOf];omega
    · have HF:Hid (aiV s=(pre,(a:Int),er)):=by
       rw[H0 he] at hall;show aiV s=_;rw[hall];simp
      have te:(er != 0)=true:=(by simpa using he);clear H0 H1 hall hk he;go_wp2_with fail;refine HC.out.mono ?_;rintro e w1 ⟨rfl,rfl⟩;go_wp2;go_ret3;rw[HF.out];exact⟨_,rfl,hown,hbel⟩
  · have HF:Hid (aiV s=(pre,(a:Int),0)):=by
     rw[ahK s a (by omega)] at hall;show aiV s=_;rw[hall];simp
    clear hall;go_wp2;go_ret3;rw[HF.out];exact⟨_,rfl,hown,hbel⟩
end Go.Proofs.YtnomcldpbkinmaaGreatDoor.Uz
namespace Go.Proofs.YtnomcldpbkinmaaGreatDoor.Cz
open Go.RowKit
def asJ (k:Nat)(r:Int):Bool:=if k=115 then decide (Chr r) else decide (Blank r)
def Known (k:Nat):Prop:=k=115∨k=91
def avU (ks:List Nat)(r:Int):Bool:=ks.any (asJ · r)
theorem aua (ks:List Nat)(r:Int)(i:Nat)(h:i < ks.length):(ks.take (i+1)).any (asJ · r)=((ks.take i).any (asJ · r) || asJ (ks.getD i 0) r):=by
 rw[List.take_succ_eq_append_getElem h,List.any_append,List.any_cons,List.any_nil,Bool.or_false,List.getD_eq_getElem?_getD,List.getElem?_eq_getElem h];rfl
theorem axY (ks:List Nat)(r:Int)(i:Nat)(h:i < ks.length)(hc:asJ (ks.getD i 0) r=true):avU ks r=true:=by
 refine List.any_eq_true.2 ⟨ks.getD i 0,?_,hc⟩;rw[List.getD_eq_getElem?_getD,List.getElem?_eq_getElem h];exact List.getElem_mem _
def RdF (w:World)(A:Option Addr)(ks:List Nat):Prop:=
 (∀ k∈ks,Known k)∧(ks=[]∨∃ b off,A=some ⟨b,off,none⟩∧b < w.heap.size∧∀ j,j < ks.length→w.cell? ⟨b,off+j,none⟩=some (.func (.func (ks.getD j 0)) #[] #[]))
theorem RdF.at_ {w:World}{A:Option Addr}{ks:List Nat}(h:RdF w A ks){j:Nat}(hj:j < ks.length):
 Known (ks.getD j 0)∧∃ b off,A=some ⟨b,off,none⟩∧b < w.heap.size∧w.cell? ⟨b,off+j,none⟩=some (.func (.func (ks.getD j 0)) #[] #[]):=by
 refine⟨h.1 _ (by rw[List.getD_eq_getElem?_getD,List.getElem?_eq_getElem hj];exact List.getElem_mem _),?_⟩;rcases h.2 with h | ⟨b,off,rfl,hlt,hc⟩
 · subst h;simp at hj
 · exact⟨b,off,rfl,hlt,hc j hj⟩
def aye (ks:List Nat)(r:Int)(i:Value):Prop:=∃ k:Nat,k≤ks.length∧i=.int .i64 k∧(ks.take k).any (asJ · r)=false
theorem atL (r:Int)(A:Option Addr)(c:Nat)(ks:List Nat)(w:World)(h:RdF w A ks)(hl:ks.length≤100):
 Calls Tryz.prog 117 #[.int .i32 r,.slice A ks.length c] w fun e w'=>e=.returned (.bool (avU ks r))∧w=w':=by
 obtain⟨n,hn⟩:∃ n,n=ks.length:=⟨_,rfl⟩;rw[← hn];have hn1:n≤ks.length:=(by omega);have hn2:ks.length≤n:=(by omega);clear hn;go_enter Tryz.func117,Tryz.ntmps117;go_wp2_with fail;go_loop [9] (fun i=>aye ks r i) (fun i=>ks.length - (intOf i).toNat);case atStart=>exact⟨0,Nat.zero_le _,rfl,by simp⟩
 case round=>
  obtain⟨k,hk,rfl,ha⟩:=hrel;have HA:=aac ha;clear ha;by_cases hlt:k < n
  · obtain⟨hkn,b,off,rfl,hb,hc⟩:=h.at_ (j:=k) (by omega);have HS:=aac (aua ks r k (by omega));have HT:=aac (axY ks r k (by omega));generalize ks.getD k 0=f at hkn hc HS HT;have hne:∀ fn,Sem.run Tryz.prog (binOp BinOp.neq 153 (Value.func fn #[] #[]) Value.nilFunc) w=.ok (.bool true) w:=fun fn=>by kernel_rfl
    rcases hkn with rfl | rfl
    all_goals
     go_wp2_with (first | (go_at_call 115;refine(aes _ _).mono ?_;rintro e w' ⟨rfl,rfl⟩) | (go_at_call 91;refine(agF _ _).mono ?_;rintro e w' ⟨rfl,rfl⟩))
     · go_ret;refine⟨abT (HT.out ?_).symm,rfl⟩;simp_all [asJ]
     · go_round
       case rel=>
        refine⟨k+1,by omega,by go_num,?_⟩;rw[HS.out,HA.out];simp_all [asJ]
       case measure=>simp[intOf];omega
  · go_wp2;go_ret;have hkn:k=ks.length:=(by omega);subst hkn;have:=HA.out;rw[List.take_length] at this;exact⟨abT this.symm,rfl⟩
end Go.Proofs.YtnomcldpbkinmaaGreatDoor.Cz
namespace Go.Proofs.YtnomcldpbkinmaaGreatDoor.Cz
open Go.RowKit
def rgo (s:ByteArray):Nat→Nat→List Int
 | 0,_=>[]
 | f+1,i=>if i < s.size then ((Utf8.decode s i).1:Int) :: rgo s f (i+(Utf8.decode s i).2) else []
def runes (s:ByteArray):List Int:=rgo s s.size 0
def avP (ks:List Nat)(s:ByteArray):Bool:=(runes s).all (avU ks)
theorem width_pos (s:ByteArray)(pos:Nat)(h:pos < s.size):1≤(Utf8.decode s pos).2:=by
 by_cases ha:(s[pos]'h).toNat < 128
 · rw[decode_ascii s pos h ha];exact Nat.le_refl _
 · exact(decode_high s pos h (by omega)).2
theorem apW (s:ByteArray)(b pos:Nat)(h:¬ pos < s.size):rgo s b pos=[]:=by
 cases b with
 | zero=>rfl
 | succ b=>simp[rgo,h]
theorem RdF.iter {w:World}{A:Option Addr}{ks:List Nat}(h:RdF w A ks)(s:ByteArray)(pos:Nat):RdF (w.iter s pos) A ks:=by
 refine⟨h.1,?_⟩;rcases h.2 with h2 | ⟨b,off,rfl,hlt,hc⟩
 · exact .inl h2
 · refine .inr ⟨b,off,rfl,by simp[World.iter];omega,fun j hj=> ?_⟩;rw[← hc j hj];exact((Below.refl w.heap.size w).alloc (Nat.le_refl _) _).cell (p:=⟨b,off+j,none⟩) hlt
def akg (s:ByteArray)(ks:List Nat)(w:World)(wr:World):Prop:=
 ∃ pos b:Nat,wr=w.iter s pos∧s.size≤pos+b∧(rgo s b pos).all (avU ks)=avP ks s
theorem alM (s:ByteArray)(A:Option Addr)(c n:Nat)(ks:List Nat)(w:World)(h:RdF w A ks)(hn:n=ks.length)(hl:ks.length≤100):
 Calls Tryz.prog 90 #[.string s,.slice A n c] w fun e w'=>e=.returned (.bool (avP ks s))∧Below w.heap.size w w':=by
 have HB:=aac (fun pos=>(Below.refl w.heap.size w).alloc (Nat.le_refl _) (.stringIter s pos));have HSM:=aac (fun r pos=>atL r A c ks (w.iter s pos) (h.iter s pos) hl);rw[← hn] at HSM;clear hn h;go_enter Tryz.func90,Tryz.ntmps90;go_wp2_with fail;go_loopw [6] (fun _ wr=>akg s ks w wr) (fun _ wr=>s.size - wr.iterPos w.heap.size);case atStart=>exact⟨0,s.size,rfl,by omega,rfl⟩
 case round=>
  obtain⟨pos,b,rfl,hb,ha⟩:=hrel;have HA:=aac ha;clear ha;by_cases hp:pos < s.size
  · have hnx:∀ ty,(Instr.next (.pointer (some ⟨w.heap.size,0,none⟩)) true ty).run Tryz.prog (w.iter s pos)=_:=fun ty=>run_next_any w s pos ty hp;have hwd:=width_pos s pos hp;obtain⟨b,rfl⟩:∃ b',b=b'+1:=⟨b - 1,by omega⟩;have HR:Hid (rgo s (b+1) pos=((Utf8.decode s pos).1:Int) :: rgo s b (pos+(Utf8.decode s pos).2)):=aac (by simp[rgo,hp]);generalize (Utf8.decode s pos).1=r at *;generalize (Utf8.decode s pos).2=d at *;go_wp2_with (go_at_call 117;refine(HSM.out _ _).mono ?_;rintro e w' ⟨rfl,rfl⟩)
    · go_ret;rename_i hq;have hz:avU ks (r:Int)=false:=(by simpa using hq);refine⟨abT ?_,HB.out _⟩;rw[← HA.out,HR.out,List.all_cons,hz,Bool.false_and]
    · rename_i hq;have hz:avU ks (r:Int)=true:=(by simpa using hq);refine⟨⟨pos+d,b,rfl,by omega,?_⟩,?_⟩
      · rw[← HA.out,HR.out,List.all_cons,hz,Bool.true_and]
      · simp;omega
  · have hnx:∀ ty,(Instr.next (.pointer (some ⟨w.heap.size,0,none⟩)) true ty).run Tryz.prog (w.iter s pos)=_:=fun ty=>run_next_end w s pos ty hp;have HE:=aac (apW s b pos hp);go_wp2;go_ret;have:=HA.out;rw[HE.out] at this;exact⟨abT (by rw[← this];rfl),HB.out pos⟩
theorem amo (w:World)(t:TypeId)(cs:Array Value)(i:Nat):(w.alloc (.cells cs t)).cell? ⟨w.heap.size,i,none⟩=cs[i]?:=World.cell?_alloc_mark w cs t (0,0) i
theorem auW (w:World)(k:Nat)(hk:Known k):RdF (w.alloc (.cells #[.func (.func k) #[] #[]] 153)) (some ⟨w.heap.size,0,none⟩) [k]:=by
 refine⟨fun x hx=>by simp at hx;rw[hx];exact hk,.inr ⟨w.heap.size,0,rfl,by simp,fun j hj=> ?_⟩⟩;rw[Nat.zero_add,amo]
 match j,hj with
 | 0,_=>rfl
theorem all1 (s:ByteArray)(k:Nat)(hk:Known k)(w:World):Calls Tryz.prog 90 #[.string s,.slice (some ⟨w.heap.size,0,none⟩) 1 1] (w.alloc (.cells #[.func (.func k) #[] #[]] 153)) fun e w'=>e=.returned (.bool (avP [k] s))∧Below w.heap.size w w':=
 (alM s (some ⟨w.heap.size,0,none⟩) 1 1 [k] _ (auW w k hk) rfl (by simp)).mono fun e w' ⟨h1,h2⟩=>⟨h1,((Below.refl _ w).alloc (Nat.le_refl _) _).trans (h2.mono (by simp))⟩
end Go.Proofs.YtnomcldpbkinmaaGreatDoor.Cz
namespace Go.Proofs.YtnomcldpbkinmaaGreatDoor
open Go.RowKit
theorem tk0:tkV T0=.agg #[.int .i64 0,.string ⟨#[]⟩,.bool false,.bool false]:=by unfold tkV T0;rw[acj]
theorem abe (s:ByteArray):strOfNums (aad s)=s:=(aaJ rfl).symm
theorem akP (s:ByteArray)(at_:Int)(w:World)(hs:s.size≤10000)(hG:Gl w):Calls Tryz.prog 105 #[.string s,.int .i64 at_] w (aaQ (acg (aad s)) w):=by
 have HG:=aac hG;clear hG;have hBel:=(Below.refl w.heap.size w).alloc (Nat.le_refl _) (.cells #[.int .i64 0,.string ⟨#[]⟩,.bool false,.bool false] 42);have HB:=aac hBel;clear hBel;by_cases h1:(fnd [45,45] (aad s)).isSome=true
 · have C1:=aac (fun W (hW:Gl W)=>aff s ⟨#[45,45]⟩ W (by omega) hW true h1);have HR:Hid (acg (aad s)=(T0,6)):=aac (by unfold acg;rw[if_pos (.inl h1)]);clear h1;go_enter Tryz.func105,Tryz.ntmps105;go_wp2_with fail;refine(C1.out _ (HG.out.alloc _)).mono ?_;rintro e w1 ⟨rfl,rfl⟩;go_wp2_with fail;refine bodyPost_ret (v:=.tuple #[.agg #[.int .i64 0,.string ⟨#[]⟩,.bool false,.bool false],.int .i64 6]) (by simp[results,Tryz.results105,go_sem]) rfl ?_;rw[HR.out];exact⟨by rw[tk0],HB.out⟩
 · have h1':(fnd [45,45] (aad s)).isSome=false:=(by simpa using h1);have C1:=aac (fun W (hW:Gl W)=>aff s ⟨#[45,45]⟩ W (by omega) hW false h1');by_cases h2:(aad s).getLast?=some 45
   · have C2:=aac (fun W=>ahG s 45 W (by omega) true (decide_eq_true h2));have HR:Hid (acg (aad s)=(T0,6)):=aac (by unfold acg;rw[if_pos (.inr h2)]);clear h1 h1' h2;go_enter Tryz.func105,Tryz.ntmps105;go_wp2_with fail;refine(C1.out _ (HG.out.alloc _)).mono ?_;rintro e w1 ⟨rfl,rfl⟩;go_wp2_with fail;refine(C2.out _).mono ?_;rintro e w1 ⟨rfl,rfl⟩;go_wp2_with fail;refine bodyPost_ret (v:=.tuple #[.agg #[.int .i64 0,.string ⟨#[]⟩,.bool false,.bool false],.int .i64 6]) (by simp[results,Tryz.results105,go_sem]) rfl ?_;rw[HR.out];exact⟨by rw[tk0],HB.out⟩
   · have C2:=aac (fun W=>ahG s 45 W (by omega) false (decide_eq_false h2));have HR:Hid (acg (aad s)=(⟨4,aad s,false,false⟩,0)):=aac (by unfold acg;rw[if_neg (by rintro (h | h);exact h1 h;exact h2 h)]);clear h1 h1' h2;go_enter Tryz.func105,Tryz.ntmps105;go_wp2_with fail;refine(C1.out _ (HG.out.alloc _)).mono ?_;rintro e w1 ⟨rfl,rfl⟩;go_wp2_with fail;refine(C2.out _).mono ?_;rintro e w1 ⟨rfl,rfl⟩;go_wp2_with fail;refine bodyPost_ret (v:=.tuple #[.agg #[.int .i64 4,.string s,.bool false,.bool false],.int .i64 0]) (by simp[results,Tryz.results105,go_sem]) rfl ?_;rw[HR.out];exact⟨by unfold tkV;rw[abe],(Below.refl w.heap.size w).alloc (Nat.le_refl _) _⟩
theorem ajA (s:ByteArray)(at_:Int)(w:World)(hs:s.size≤10000)(hG:Gl w):Calls Tryz.prog 110 #[.string s,.int .i64 at_] w (aaQ (abZ (aad s)) w):=by
 have HG:=aac hG;clear hG;have HB:=aac ((Below.refl w.heap.size w).alloc (Nat.le_refl _) (.cells #[.int .i64 0,.string ⟨#[]⟩,.bool false,.bool false] 42));by_cases h1:(60:Int)∈aad s
 · have C1:=aac (fun W (hW:Gl W)=>aff s ⟨#[60]⟩ W (by omega) hW true ((akK 60 _).2 h1));have HR:Hid (abZ (aad s)=(T0,6)):=aac (by unfold abZ;rw[if_pos h1]);clear h1;go_enter Tryz.func110,Tryz.ntmps110;go_wp2_with fail;refine(C1.out _ (HG.out.alloc _)).mono ?_;rintro e w1 ⟨rfl,rfl⟩;go_wp2_with fail;refine bodyPost_ret (v:=.tuple #[.agg #[.int .i64 0,.string ⟨#[]⟩,.bool false,.bool false],.int .i64 6]) (by simp[results,Tryz.results110,go_sem]) rfl ?_;rw[HR.out];exact⟨by rw[tk0],HB.out⟩
 · have h1':(fnd (aad ⟨#[60]⟩) (aad s)).isSome=false:=by
    cases hf:(fnd (aad ⟨#[60]⟩) (aad s)).isSome with
    | false=>rfl
    | true=>exact absurd ((akK 60 _).1 hf) h1
   have C1:=aac (fun W (hW:Gl W)=>aff s ⟨#[60]⟩ W (by omega) hW false h1');by_cases h2:(aad s).getLast?=some 47
   · have C2:=aac (fun W=>aib s 47 W (by omega) true (decide_eq_true h2));simp only[if_true] at C2;have HR:Hid (abZ (aad s)=(⟨1,(aad s).dropLast,true,false⟩,0)):=aac (by unfold abZ;rw[if_neg h1,if_pos h2]);clear h1 h1' h2;generalize hr:strOfNums (aad s).dropLast=r at C2;have HRr:=aac hr;clear hr;go_enter Tryz.func110,Tryz.ntmps110;go_wp2_with fail;refine(C1.out _ (HG.out.alloc _)).mono ?_;rintro e w1 ⟨rfl,rfl⟩;go_wp2_with fail;refine(C2.out _).mono ?_;rintro e w1 ⟨rfl,rfl⟩;go_wp2_with fail;refine bodyPost_ret (v:=.tuple #[.agg #[.int .i64 1,.string r,.bool true,.bool false],.int .i64 0]) (by simp[results,Tryz.results110,go_sem]) rfl ?_;rw[HR.out];exact⟨by unfold tkV;rw[HRr.out],(Below.refl w.heap.size w).alloc (Nat.le_refl _) _⟩
   · have C2:=aac (fun W=>aib s 47 W (by omega) false (decide_eq_false h2));simp only[Bool.false_eq_true,if_false] at C2;have HR:Hid (abZ (aad s)=(⟨1,aad s,false,false⟩,0)):=aac (by unfold abZ;rw[if_neg h1,if_neg h2]);clear h1 h1' h2;go_enter Tryz.func110,Tryz.ntmps110;go_wp2_with fail;refine(C1.out _ (HG.out.alloc _)).mono ?_;rintro e w1 ⟨rfl,rfl⟩;go_wp2_with fail;refine(C2.out _).mono ?_;rintro e w1 ⟨rfl,rfl⟩;go_wp2_with fail;refine bodyPost_ret (v:=.tuple #[.agg #[.int .i64 1,.string s,.bool false,.bool false],.int .i64 0]) (by simp[results,Tryz.results110,go_sem]) rfl ?_;rw[HR.out];exact⟨by unfold tkV;rw[abe],(Below.refl w.heap.size w).alloc (Nat.le_refl _) _⟩
theorem aci (l:List Int):(strOfNums l).size=l.length:=by
 have:(strOfNums l).size=(strOfNums l).data.toList.length:=(by simp);rw[this,strOfNums_data,List.length_map]
theorem aqY (l:List Int):(adE l).length≤l.length:=by
 unfold adE;rw[List.length_reverse];have:=(List.dropWhile_suffix (l:=l.reverse) abf).length_le
 rwa [List.length_reverse] at this
theorem arC (s f:ByteArray)(at_:Int)(a b:ByteArray)(ok:Bool)(w:World)(hG:Gl w)
 (C1:Hid (∀ W,Gl W→Calls Tryz.prog 135 #[.string s,.func (.func 91) #[] #[]] W fun e w'=>e=.returned (.string f)∧Below W.heap.size W w'))
 (C2:Hid (∀ W,Calls Tryz.prog 99 #[.string f] W fun e w'=>e=.returned (.tuple #[.string a,.string b,.bool ok])∧Below W.heap.size W w')):
 Calls Tryz.prog 108 #[.string s,.int .i64 at_] w fun e w'=>e=.returned (.tuple #[if ok=true then .agg #[.int .i64 2,.string f,.bool false,.bool false] else .agg #[.int .i64 0,.string ⟨#[]⟩,.bool false,.bool false],.int .i64 (if ok=true then 0 else 4)])∧Below w.heap.size w w':=by
 have HG:=aac hG;clear hG;have HB:=aac ((Below.refl w.heap.size w).alloc (Nat.le_refl _) (.cells #[.int .i64 0,.string ⟨#[]⟩,.bool false,.bool false] 42));have HN:=aac (acd w);cases ok
 all_goals
  simp only[Bool.false_eq_true,if_false,if_true];go_enter Tryz.func108,Tryz.ntmps108;go_wp2_with fail;refine(C1.out _ (HG.out.alloc _)).mono ?_;rintro e w1 ⟨rfl,hb1⟩;go_wp2_with fail;refine(C2.out _).mono ?_;rintro e w2 ⟨rfl,hb2⟩;have hz1:w.heap.size < w1.heap.size:=by have:=hb1.size;simp at this;omega
  have hz2:w.heap.size < w2.heap.size:=Nat.lt_of_lt_of_le hz1 hb2.size;have hb:=HB.out.trans (hb1.mono (by simp));have HB2:=aac (hb.trans (hb2.mono hb.size));obtain⟨c0,c1,c2,c3,f0,f1,f2,f3⟩:=(HN.out.keep hb1 (by simp)).keep hb2 hz1;clear hb1 hb2 hb;go_wp2_with fail
 · exact bodyPost_ret (v:=.tuple #[.agg #[.int .i64 0,.string ⟨#[]⟩,.bool false,.bool false],.int .i64 4]) (by simp[results,Tryz.results108,go_sem,c0,c1,c2,c3,hz2]) rfl ⟨rfl,aag HB2.out (Nat.le_refl _) _ _ _ _⟩
 · exact bodyPost_ret (v:=.tuple #[.agg #[.int .i64 2,.string f,.bool false,.bool false],.int .i64 0]) (by simp[results,Tryz.results108,go_sem,c0,c1,c2,c3,hz2]) rfl ⟨rfl,aag HB2.out (Nat.le_refl _) _ _ _ _⟩
theorem aou (s:ByteArray)(at_:Int)(w:World)(hs:s.size≤10000)(hG:Gl w):Calls Tryz.prog 108 #[.string s,.int .i64 at_] w (aaQ (akE (aad s)) w):=by
 have hl:=aqY (aad s);rw[aae] at hl;refine(arC s _ at_ _ _ _ w hG (aac fun W hW=>aqm s W (by omega) hW) (aac fun W=>Nz.aeF (strOfNums (adE (aad s))) (by rw[aci];omega) W)).mono ?_;rintro e w' ⟨rfl,hb⟩;refine⟨?_,hb⟩;unfold akE nmB
 cases (Nz.aao (strOfNums (adE (aad s)))).2.2 with
 | true=>rfl
 | false=>
   simp only[Bool.false_eq_true,if_false,if_true];rw[tk0]
theorem akT (s:ByteArray)(at_ er:Int)(b:Nat)(w:World)(hc:w.cell? ⟨b,0,none⟩=some (.int .i64 er)):Calls Tryz.prog 131 #[.string s,.int .i64 at_,.pointer (some ⟨b,0,none⟩)] w (aaQ (T0,er) w):=by
 have hlt:b < w.heap.size:=Lib.lt_of_cell hc;have hne:¬ b=w.heap.size:=(by omega);have hc2:∀ o,(w.alloc o).cell? ⟨b,0,none⟩=some (.int .i64 er):=fun o=>(((Below.refl w.heap.size w).alloc (Nat.le_refl _) o).cell (p:=⟨b,0,none⟩) hlt).trans hc;have HB:=aac ((Below.refl w.heap.size w).alloc (Nat.le_refl _) (.cells #[.int .i64 0,.string ⟨#[]⟩,.bool false,.bool false] 42));go_enter Tryz.func131,Tryz.ntmps131;go_wp2;go_region
 all_goals
  go_wp2;exact bodyPost_ret (v:=.tuple #[tkV T0,.int .i64 er]) (by rw[tk0];simp[results,Tryz.results131,go_sem]) rfl ⟨rfl,HB.out.drew⟩
end Go.Proofs.YtnomcldpbkinmaaGreatDoor
namespace Go.Proofs.YtnomcldpbkinmaaGreatDoor
open Go.Shelf
def Tryz.alm:Go.Shelf.Ren:=⟨fun | 103=>83 | 210=>111 | 206=>112 | n=>n,fun | 9=>9 | 4=>4 | 24=>97 | 3=>3 | n=>n,fun | n=>n⟩
theorem Tryz.lays103:Go.Proofs.Lays.n103 Tryz.prog Tryz.alm:={
 mixed:=by kernel_rfl
 f103:=Tryz.func83.trans (congrArg some (by kernel_rfl))
 f206:=Tryz.func112.trans (congrArg some (by kernel_rfl))
 f210:=Tryz.func111.trans (congrArg some (by kernel_rfl))
 t3:=Tryz.underlying3
 a3:=Tryz.isAgg3
 z3:=Tryz.sizeOf3
 v3:=Tryz.zeroValue3
 t4:=Tryz.underlying4
 a4:=Tryz.isAgg4
 z4:=Tryz.sizeOf4
 v4:=Tryz.zeroValue4
 t9:=Tryz.underlying9
 a9:=Tryz.isAgg9
 z9:=Tryz.sizeOf9
 v9:=Tryz.zeroValue9
 t24:=Tryz.underlying97
 a24:=Tryz.isAgg97
 z24:=Tryz.sizeOf97
 v24:=Tryz.zeroValue97 }
open Go.RowKit in
theorem Tryz.strings_CutPrefix (s p:ByteArray)(w:World):
 Calls Tryz.prog 83 #[.string s,.string p] w fun e w'=>e=.returned (.tuple #[.string ⟨(Lib.trimPrefix s.data.toList p.data.toList).toArray⟩,.bool (Lib.hasPrefix s.data.toList p.data.toList)])∧w'=w:=Any.strings_CutPrefix Tryz.lays103 s p w
def Tryz.aoL:Go.Shelf.Ren:=⟨fun | 99=>85 | 206=>112 | n=>n,fun | 9=>9 | 4=>4 | 3=>3 | n=>n,fun | n=>n⟩
theorem Tryz.lays99:Go.Proofs.Lays.n99 Tryz.prog Tryz.aoL:={
 mixed:=by kernel_rfl
 f99:=Tryz.func85.trans (congrArg some (by kernel_rfl))
 f206:=Tryz.func112.trans (congrArg some (by kernel_rfl))
 t3:=Tryz.underlying3
 a3:=Tryz.isAgg3
 z3:=Tryz.sizeOf3
 v3:=Tryz.zeroValue3
 t4:=Tryz.underlying4
 a4:=Tryz.isAgg4
 z4:=Tryz.sizeOf4
 v4:=Tryz.zeroValue4
 t9:=Tryz.underlying9
 a9:=Tryz.isAgg9
 z9:=Tryz.sizeOf9
 v9:=Tryz.zeroValue9 }
open Go.RowKit Go.Lib in
theorem Tryz.strings_HasPrefix (s p:ByteArray)(w:World):
 Calls Tryz.prog 85 #[.string s,.string p] w fun e w'=>e=.returned (.bool (Lib.hasPrefix s.data.toList p.data.toList))∧w'=w:=Any.strings_HasPrefix Tryz.lays99 s p w
end Go.Proofs.YtnomcldpbkinmaaGreatDoor
