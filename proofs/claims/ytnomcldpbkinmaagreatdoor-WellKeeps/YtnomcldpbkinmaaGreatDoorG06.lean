/- Lemmas of the claim. -/
import Derived.Test.YtnomcldpbkinmaaGreatDoorG05
import Derived.Test.YtnomcldpbkinmaaGreatDoorProg
import Derived.Test.YtnomcldpbkinmaaGreatDoorG02
import Derived.WalkKit
import Derived.WalkSpells
import Derived.WalkLawsBesides
import Derived.Laws.RangeAny
import Derived.Laws.Cover4
import Derived.Lib.Hide
import Derived.Lib.DecodeN
import Derived.Lib.Bytealg
set_option maxHeartbeats 4000000
set_option maxRecDepth 100000
set_option linter.unusedSimpArgs false
set_option linter.unusedVariables false
namespace Go.Proofs.YtnomcldpbkinmaaGreatDoor
def fnd (m:List Int):List Int→Option Nat
 | []=>if m=[] then some 0 else none
 | c :: l=>if m.isPrefixOf (c :: l)=true then some 0 else (fnd m l).map (· +1)
def Occ (m l:List Int)(j:Nat):Prop:=m <+:l.drop j
theorem auf {m l:List Int}{j:Nat}(h:Occ m l j)(hj:j≤l.length):j+m.length≤l.length:=by
 have:=h.length_le;rw[List.length_drop] at this;omega
theorem adY (m:List Int):∀ (l:List Int),(fnd m l=none∧∀ j,j≤l.length→¬ Occ m l j)∨∃ n,fnd m l=some n∧n+m.length≤l.length∧Occ m l n∧∀ j,j < n→¬ Occ m l j
 | []=>by
   by_cases h:m=[]
   · subst h;exact .inr ⟨0,rfl,by simp,by simp[Occ],fun j hj=>by omega⟩
   · refine .inl ⟨by simp[fnd,h],fun j hj ho=> ?_⟩;have:=auf ho hj
     cases m with
     | nil=>exact h rfl
     | cons a b=>simp at this
 | c :: l=>by
   by_cases h:m.isPrefixOf (c :: l)=true
   · have hp:=List.isPrefixOf_iff_prefix.1 h;refine .inr ⟨0,by simp[fnd,h],by simpa using hp.length_le,by simpa [Occ] using hp,fun j hj=>by omega⟩
   · have h0:¬ Occ m (c :: l) 0:=fun ho=>h (List.isPrefixOf_iff_prefix.2 (by simpa [Occ] using ho));rcases adY m l with ⟨h1,h2⟩ | ⟨n,h1,h2,h3,h4⟩
     · refine .inl ⟨by simp[fnd,h,h1],fun j hj=> ?_⟩
       cases j with
       | zero=>exact h0
       | succ j=>exact fun ho=>h2 j (by simpa using hj) (by simpa [Occ] using ho)
     · refine .inr ⟨n+1,by simp[fnd,h,h1],by simp;omega,by simpa [Occ] using h3,fun j hj=> ?_⟩
       cases j with
       | zero=>exact h0
       | succ j=>exact fun ho=>h4 j (by omega) (by simpa [Occ] using ho)
theorem abG {m l:List Int}{n:Nat}(h:fnd m l=some n):n+m.length≤l.length∧Occ m l n∧∀ j,j < n→¬ Occ m l j:=by
 rcases adY m l with ⟨h1,h2⟩ | ⟨k,h1,h2,h3,h4⟩
 · rw[h1] at h;cases h
 · rw[h1] at h;cases h;exact⟨h2,h3,h4⟩
theorem amJ {m l:List Int}(h:fnd m l=none):∀ j,j≤l.length→¬ Occ m l j:=by
 rcases adY m l with ⟨h1,h2⟩ | ⟨k,h1,h2,h3,h4⟩
 · exact h2
 · rw[h1] at h;cases h
theorem ara {m l:List Int}{n:Nat}(hn:n≤l.length)(h:Occ m l n)(h2:∀ j,j < n→¬ Occ m l j):fnd m l=some n:=by
 rcases adY m l with ⟨h1,h3⟩ | ⟨k,h1,h3,h4,h5⟩
 · exact absurd h (h3 n hn)
 · rw[h1];rcases Nat.lt_trichotomy k n with g | g | g
   · exact absurd h4 (h2 k g)
   · rw[g]
   · exact absurd h (h5 n g)
theorem ars {m l:List Int}(h2:∀ j,j≤l.length→¬ Occ m l j):fnd m l=none:=by
 rcases adY m l with ⟨h1,h3⟩ | ⟨k,h1,h3,h4,h5⟩
 · exact h1
 · exact absurd h4 (h2 k (by omega))
theorem axV {m l:List Int}{j:Nat}(t:List Int)(hj:j≤l.length)(h:Occ m l j):Occ m (l++t) j:=by
 unfold Occ at *;rw[List.drop_append_of_le_length hj];exact h.trans (List.prefix_append _ _)
theorem atI {m l t:List Int}{j:Nat}(hj:j+m.length≤l.length)(h:Occ m (l++t) j):Occ m l j:=by
 unfold Occ at *;rw[List.drop_append_of_le_length (by omega)] at h;have:(l.drop j).length=l.length - j:=List.length_drop ..;exact List.prefix_of_prefix_length_le h (List.prefix_append _ _) (by omega)
theorem aiH {m l:List Int}{n:Nat}(t:List Int)(h:fnd m l=some n):fnd m (l++t)=some n:=by
 obtain⟨h1,h2,h3⟩:=abG h;refine ara (by simp;omega) (axV t (by omega) h2) fun j hj ho=>h3 j hj (atI (by omega) ho)
theorem occ_one (c:Int)(l:List Int)(j:Nat)(hj:j < l.length):Occ [c] l j↔l.getD j 0=c:=by
 unfold Occ;rw[List.drop_eq_getElem_cons hj,List.getD_eq_getElem?_getD,List.getElem?_eq_getElem hj,Option.getD_some,List.cons_prefix_cons];simp only[List.nil_prefix,and_true];exact eq_comm
theorem akK (c:Int)(l:List Int):(fnd [c] l).isSome=true↔c∈l:=by
 rcases adY [c] l with ⟨h1,h2⟩ | ⟨k,h1,h3,h4,h5⟩
 · rw[h1];simp only[Option.isSome_none,Bool.false_eq_true,false_iff];intro hm;obtain⟨j,hj,he⟩:=List.getElem_of_mem hm;exact h2 j (by omega) ((occ_one c l j hj).2 (by simp[List.getElem?_eq_getElem hj,he]))
 · rw[h1];simp only[Option.isSome_some,true_iff];simp only[List.length_singleton] at h3;have:=(occ_one c l k (by omega)).1 h4;rw[← this,List.getD_eq_getElem?_getD,List.getElem?_eq_getElem (by omega)];exact List.getElem_mem _
def aiQ (m l:List Int):Int:=match fnd m l with | some n=>(n:Int) | none=> -1
theorem acy {m l:List Int}{n:Nat}(h:fnd m l=some n):aiQ m l=n:=by unfold aiQ;rw[h]
theorem acW {m l:List Int}(h:fnd m l=none):aiQ m l= -1:=by unfold aiQ;rw[h]
def aaz (l:List Int):Int:=if (acV l).2.2≠0 then 2 else if ∀ r∈(acV l).1,Chr r then 0 else 3
theorem ahT:aaz []=0:=by simp[aaz,afN]
theorem anV (c:Int)(l:List Int)(hc:c < 128):aaO (c :: l)=(c,1,0):=by
 unfold aaO canon;simp[hc]
theorem aur (c:Int)(l:List Int)(h0:0≤c)(hc:c < 128)(hl:NN l):acV (c :: l)=(c :: (acV l).1,1+(acV l).2.1,(acV l).2.2):=by
 have h:=ajf (c :: l) (by simp) (fun x hx=>(List.mem_cons.1 hx).elim (fun e=>e ▸ h0) (hl x)) (by rw[anV c l hc]);rw[anV c l hc] at h
 simpa using h
theorem aon (c:Int)(l:List Int)(h0:Chr c)(hc:c < 128)(hl:NN l):aaz (c :: l)=aaz l:=by
 have h1:0≤c:=by unfold Chr Btw at h0;omega
 unfold aaz;rw[aur c l h1 hc hl];simp only[List.mem_cons,forall_eq_or_imp,h0,true_and]
theorem aew:∀ (b l:List Int),(∀ c∈b,Chr c∧c < 128)→NN l→aaz (b++l)=aaz l
 | [],l,_,_=>rfl
 | c :: b,l,h,hl=>by
   have h1:=h c (by simp);have h2:∀ x∈b,Chr x∧x < 128:=fun x hx=>h x (List.mem_cons_of_mem _ hx);rw[List.cons_append,aon c _ h1.1 h1.2,aew b l h2 hl];intro x hx;rcases List.mem_append.1 hx with hx | hx
   · have:=(h2 x hx).1;unfold Chr Btw at this;omega
   · exact hl x hx
def unq:Int→List Int→Option Nat
 | _,[]=>none
 | q,c :: l=>if q≠0 then (unq (if c=q then 0 else q) l).map (· +1) else if c=34∨c=39 then (unq c l).map (· +1) else if c=62 then some 0 else (unq 0 l).map (· +1)
theorem akJ:∀ (l:List Int) (q:Int) (n:Nat) (t:List Int),unq q l=some n→unq q (l++t)=some n∧n < l.length
 | [],q,n,t,h=>by simp[unq] at h
 | c :: l,q,n,t,h=>by
   have key:∀ q',(unq q' l).map (· +1)=some n→(unq q' (l++t)).map (· +1)=some n∧n < (c :: l).length:=fun q' hq=>by
    obtain⟨m,hm,rfl⟩:=Option.map_eq_some_iff.1 hq;obtain⟨h1,h2⟩:=akJ l q' m t hm;exact⟨by rw[h1];rfl,by simp;omega⟩
   rw[List.cons_append];unfold unq at h ⊢;split at h
   · rename_i hq;rw[if_pos hq];exact key _ h
   · rename_i hq;rw[if_neg hq];split at h
     · rename_i hc;rw[if_pos hc];exact key _ h
     · rename_i hc;rw[if_neg hc];split at h
       · rename_i h6;rw[if_pos h6];cases h;exact⟨rfl,by simp⟩
       · rename_i h6;rw[if_neg h6];exact key _ h
def acB:List Int→List Int
 | []=>[]
 | c :: l=>(if c=13 then (if l.head?=some 10 then [] else [10]) else [c])++acB l
def abf (c:Int):Bool:=decide (Blank c)
def adE (l:List Int):List Int:=(l.reverse.dropWhile abf).reverse
def aaU (c:Int):Int:=if 65≤c∧c≤90 then c+32 else c
def aau (l:List Int):List Int:=l.map aaU
end Go.Proofs.YtnomcldpbkinmaaGreatDoor
namespace Go.Proofs.YtnomcldpbkinmaaGreatDoor.Nz
open Go.RowKit
theorem abv {a b:Bool}(h:a=b):Ending.returned (.bool a)=.returned (.bool b):=by rw[h]
theorem bt {p:Prop} [Decidable p](h:p):true=decide p:=(decide_eq_true h).symm
theorem bf {p:Prop} [Decidable p](h:¬ p):false=decide p:=(decide_eq_false h).symm
theorem adw (r a b:Int)(w:World):Calls Tryz.prog 142 #[.int .i32 r,.int .i32 a,.int .i32 b] w fun e w'=>e=.returned (.bool (decide (Btw r a b)))∧w=w':=by
 go_enter Tryz.func142,Tryz.ntmps142;go_wp2
 all_goals
  go_ret;refine⟨abv ?_,rfl⟩
  first
   | refine bt ?_
   | refine bf ?_
   | (refine Bool.eq_iff_iff.2 ?_;simp only[decide_eq_true_eq,Bool.or_eq_true,beq_iff_eq])
  simp only[Part,Start,Chr,Blank,Btw] at *
  first
   | omega
   | (constructor <;> intro hq <;> omega)
theorem adN (r:Int)(w:World):Calls Tryz.prog 155 #[.int .i32 r] w fun e w'=>e=.returned (.bool (decide (Start r)))∧w=w':=by
 go_enter Tryz.func155,Tryz.ntmps155;go_wp2_with (first | (go_at_call 142;refine(adw _ _ _ _).mono ?_;rintro e w' ⟨rfl,rfl⟩))
 all_goals
  go_ret;refine⟨abv ?_,rfl⟩
  first
   | refine bt ?_
   | refine bf ?_
   | (refine Bool.eq_iff_iff.2 ?_;simp only[decide_eq_true_eq,Bool.or_eq_true,beq_iff_eq])
  simp only[Part,Start,Chr,Blank,Btw] at *
  first
   | omega
   | (constructor <;> intro hq <;> omega)
theorem afO (r:Int)(w:World):Calls Tryz.prog 145 #[.int .i32 r] w fun e w'=>e=.returned (.bool (decide (Part r)))∧w=w':=by
 go_enter Tryz.func145,Tryz.ntmps145;go_wp2_with (first | (go_at_call 155;refine(adN _ _).mono ?_;rintro e w' ⟨rfl,rfl⟩) | (go_at_call 142;refine(adw _ _ _ _).mono ?_;rintro e w' ⟨rfl,rfl⟩))
 all_goals
  go_ret;refine⟨abv ?_,rfl⟩
  first
   | refine bt ?_
   | refine bf ?_
   | (refine Bool.eq_iff_iff.2 ?_;simp only[decide_eq_true_eq,Bool.or_eq_true,beq_iff_eq])
  simp only[Part,Start,Chr,Blank,Btw] at *
  first
   | omega
   | (constructor <;> intro hq <;> omega)
end Go.Proofs.YtnomcldpbkinmaaGreatDoor.Nz
namespace Go.Proofs.YtnomcldpbkinmaaGreatDoor.Nz
open Go.RowKit
def rgo (s:ByteArray):Nat→Nat→List Int
 | 0,_=>[]
 | f+1,i=>if i < s.size then ((Utf8.decode s i).1:Int) :: rgo s f (i+(Utf8.decode s i).2) else []
def runes (s:ByteArray):List Int:=rgo s s.size 0
theorem width_pos (s:ByteArray)(pos:Nat)(h:pos < s.size):1≤(Utf8.decode s pos).2:=by
 by_cases ha:(s[pos]'h).toNat < 128
 · rw[decode_ascii s pos h ha];exact Nat.le_refl _
 · exact(decode_high s pos h (by omega)).2
theorem apW (s:ByteArray)(b pos:Nat)(h:¬ pos < s.size):rgo s b pos=[]:=by
 cases b with
 | zero=>rfl
 | succ b=>simp[rgo,h]
theorem amo (w:World)(t:TypeId)(cs:Array Value)(i:Nat):(w.alloc (.cells cs t)).cell? ⟨w.heap.size,i,none⟩=cs[i]?:=World.cell?_alloc_mark w cs t (0,0) i
theorem afB (s:ByteArray):∀ (b i:Nat) (acc:Array Value),Conv.runesFrom s b i acc=acc++((rgo s b i).map (Value.int .i32)).toArray
 | 0,i,acc=>by simp[Conv.runesFrom,rgo]
 | b+1,i,acc=>by
   unfold Conv.runesFrom rgo;by_cases h:i < s.size
   · simp only[h,if_true];rw[afB s b];simp
   · simp[h]
theorem abU (s:ByteArray):Conv.runesFrom s s.size 0 #[]=((runes s).map (Value.int .i32)).toArray:=by
 rw[afB];simp[runes]
theorem arF (s:ByteArray):∀ (b i:Nat),(rgo s b i).length≤b
 | 0,i=>by simp[rgo]
 | b+1,i=>by
   unfold rgo;split
   · have:=arF s b (i+(Utf8.decode s i).2);simp only[List.length_cons];omega
   · simp
theorem aeK (s:ByteArray):(runes s).length≤s.size:=arF s s.size 0
def anb (w:World)(s:ByteArray)(c:Nat)(w1:World):Prop:=
 (convert 9 101 (.string s)).run Tryz.prog w=.ok (.slice (some ⟨w.heap.size,0,none⟩) (runes s).length c) w1∧Below w.heap.size w w1∧w1.heap.size=w.heap.size+1∧
   ∀ j,j < (runes s).length→w1.cell? ⟨w.heap.size,j,none⟩=some (.int .i32 ((runes s).getD j 0))
theorem aii (w:World)(s:ByteArray)(hs:s.size≤10000):∃ c w1,anb w s c w1:=by
 have hl:=aeK s;have hrun:=run_runes_of_string (P:=Tryz.prog) w 9 101 21 s Tryz.underlying9 Tryz.underlying101 Tryz.underlying21 (by rw[abU];simp;omega);rw[abU] at hrun;have hz:((runes s).map (Value.int .i32)).toArray.size=(runes s).length:=(by simp);rw[hz] at hrun;refine⟨_,_,hrun,((Below.refl _ w).drew).alloc (Nat.le_refl _) _,by simp,fun j hj=> ?_⟩;have hb:=amo w.drew 21 (((runes s).map (Value.int .i32)).toArray++Array.replicate (grownCap w (runes s).length 0 21 - (runes s).length) (.int .i32 0)) j;refine hb.trans ?_;rw[Array.getElem?_append_left (by simpa using hj)];simp[List.getElem?_eq_getElem hj]
end Go.Proofs.YtnomcldpbkinmaaGreatDoor.Nz
namespace Go.Proofs.YtnomcldpbkinmaaGreatDoor.Nz
open Go.RowKit
def bl (s:ByteArray):List Nat:=s.data.toList.map UInt8.toNat
def dN (L:List Nat):Nat × Nat:=Lib.decodeN L.length (L.getD 0 0) (L.getD 1 0) (L.getD 2 0) (L.getD 3 0)
def rl:Nat→List Nat→List Int
 | 0,_=>[]
 | f+1,L=>if L=[] then [] else ((dN L).1:Int) :: rl f (L.drop (dN L).2)
def Rn (L:List Nat):List Int:=rl L.length L
theorem aaS (s:ByteArray):(bl s).length=s.size:=by simp[bl]
theorem a0U (a b:ByteArray):bl (a++b)=bl a++bl b:=by
 simp[bl,ByteArray.data_append]
theorem akw (s:ByteArray)(i k:Nat):(s.get! (i+k)).toNat=((bl s).drop i).getD k 0:=by
 rw[List.getD_eq_getElem?_getD,List.getElem?_drop];unfold bl;rw[List.getElem?_map];show (s.data[i+k]!).toNat=_;by_cases h:i+k < s.data.size
 · rw[getElem!_pos s.data (i+k) h];rw[Array.getElem?_toList,Array.getElem?_eq_getElem h];rfl
 · rw[getElem!_neg s.data (i+k) h,Array.getElem?_toList,Array.getElem?_eq_none (by omega)];rfl
theorem acL (s:ByteArray)(i:Nat):Utf8.decode s i=dN ((bl s).drop i):=by
 rw[Lib.decode_at];unfold dN;rw[List.length_drop,aaS,← akw s i 0,← akw s i 1,← akw s i 2,← akw s i 3];rfl
theorem abD (L:List Nat)(h:L≠[]):1≤(dN L).2∧(dN L).2≤L.length:=by
 have hl:1≤L.length:=List.length_pos_iff.2 h;unfold dN Lib.decodeN
 repeat' split
 all_goals refine⟨?_,?_⟩ <;> simp <;> omega
theorem atA (L:List Nat):((dN L).1 < 55296∨(57344≤(dN L).1∧(dN L).1≤1114111)):=by
 unfold dN;generalize L.getD 0 0=a;generalize L.getD 1 0=b;generalize L.getD 2 0=c;generalize L.getD 3 0=d;unfold Lib.decodeN
 repeat' split
 all_goals dsimp only <;> omega
theorem ahX (f:Nat):rl f []=[]:=by cases f <;> simp[rl]
theorem asb:∀ (f g:Nat) (L:List Nat),L.length≤f→L.length≤g→rl f L=rl g L
 | 0,g,L,h1,h2=>by
   have:L=[]:=List.eq_nil_of_length_eq_zero (by omega);subst this;rw[ahX,ahX]
 | f+1,0,L,h1,h2=>by
   have:L=[]:=List.eq_nil_of_length_eq_zero (by omega);subst this;rw[ahX,ahX]
 | f+1,g+1,L,h1,h2=>by
   by_cases h:L=[]
   · subst h;rw[ahX,ahX]
   · have hw:=abD L h;simp only[rl,h,if_false];rw[asb f g (L.drop (dN L).2) (by simp;omega) (by simp;omega)]
theorem a1f:Rn []=[]:=rfl
theorem adM (L:List Nat)(h:L≠[]):Rn L=((dN L).1:Int) :: Rn (L.drop (dN L).2):=by
 have hl:1≤L.length:=List.length_pos_iff.2 h;have hw:=abD L h;unfold Rn;obtain⟨f,hf⟩:∃ f,L.length=f+1:=⟨L.length - 1,by omega⟩;rw[hf];simp only[rl,h,if_false];rw[asb f (L.drop (dN L).2).length (L.drop (dN L).2) (by simp;omega) (Nat.le_refl _)]
theorem awv (s:ByteArray):∀ (b i:Nat),rgo s b i=rl b ((bl s).drop i)
 | 0,i=>rfl
 | b+1,i=>by
   unfold rgo rl;by_cases h:i < s.size
   · have hne:(bl s).drop i≠[]:=by
      intro h2;have:=congrArg List.length h2;simp[aaS] at this;omega
     rw[if_pos h,if_neg hne,awv s b,acL,List.drop_drop]
   · have he:(bl s).drop i=[]:=by
      rw[List.drop_eq_nil_iff,aaS];omega
     rw[if_neg h,if_pos he]
theorem afQ (s:ByteArray):runes s=Rn (bl s):=by
 unfold runes Rn;rw[awv,List.drop_zero,aaS]
def Val (x:Int):Prop:=(0≤x∧x < 55296)∨(57344≤x∧x≤1114111)
theorem ayA {x:Int}(h:Val x):Utf8.valid x=true:=by
 rw[validRune_eq];unfold Val at h;unfold validRune;refine decide_eq_true ?_;omega
theorem awY (l:List Int):∀ s:ByteArray,bl (l.foldl (fun r n=>r++Utf8.encode n) s)=bl s++l.flatMap (fun x=>bl (Utf8.encode x)):=by
 induction l with
 | nil=>intro s;simp
 | cons x l ih=>
   intro s;rw[List.foldl_cons,ih,a0U,List.flatMap_cons,List.append_assoc]
theorem aiT (l:List Int):bl (runesBytes l)=l.flatMap (fun x=>bl (Utf8.encode x)):=by
 unfold runesBytes;rw[awY];rfl
end Go.Proofs.YtnomcldpbkinmaaGreatDoor.Nz
namespace Go.Proofs.YtnomcldpbkinmaaGreatDoor.Nz
open Go.RowKit
def Ok (r:Int):Prop:=r=58∨Part r
instance (r:Int):Decidable (Ok r):=inferInstanceAs (Decidable (r=58∨Part r))
def plR:List Int→Bool
 | []=>false
 | x :: l=>decide (Start x) && (x :: l).all (fun r=>decide (Part r))
def pl (L:List Nat):Bool:=plR (Rn L)
def sp:Nat→List Nat→Nat
 | 0,_=>0
 | f+1,L=>if L=[] then 0 else if Ok ((dN L).1:Int) then (dN L).2+sp f (L.drop (dN L).2) else 0
def St (L:List Nat):Nat:=sp L.length L
theorem ahJ (f:Nat):sp f []=0:=by cases f <;> simp[sp]
theorem apg:∀ (f g:Nat) (L:List Nat),L.length≤f→L.length≤g→sp f L=sp g L
 | 0,g,L,h1,h2=>by
   have:L=[]:=List.eq_nil_of_length_eq_zero (by omega);subst this;rw[ahJ,ahJ]
 | f+1,0,L,h1,h2=>by
   have:L=[]:=List.eq_nil_of_length_eq_zero (by omega);subst this;rw[ahJ,ahJ]
 | f+1,g+1,L,h1,h2=>by
   by_cases h:L=[]
   · subst h;rw[ahJ,ahJ]
   · have hw:=abD L h;simp only[sp,h,if_false];rw[apg f g (L.drop (dN L).2) (by simp;omega) (by simp;omega)]
theorem a1s:St []=0:=rfl
theorem agT (L:List Nat)(h:L≠[]):St L=if Ok ((dN L).1:Int) then (dN L).2+St (L.drop (dN L).2) else 0:=by
 have hl:1≤L.length:=List.length_pos_iff.2 h;have hw:=abD L h;unfold St;obtain⟨f,hf⟩:∃ f,L.length=f+1:=⟨L.length - 1,by omega⟩;rw[hf];simp only[sp,h,if_false];rw[apg f (L.drop (dN L).2).length (L.drop (dN L).2) (by simp;omega) (Nat.le_refl _)]
theorem axU:∀ (n:Nat) (L:List Nat),L.length≤n→St L≤L.length
 | n,L,hn=>by
   by_cases h:L=[]
   · subst h;rw[a1s];exact Nat.zero_le _
   · have hl:1≤L.length:=List.length_pos_iff.2 h;have hw:=abD L h
     match n with
     | 0=>omega
     | n+1=>
       rw[agT L h];split
       · have:=axU n (L.drop (dN L).2) (by simp;omega);simp at this;omega
       · omega
theorem anO (A B:List Nat)(c:Nat)(hc:c < 128)(h:A≠[]):dN (A++c :: B)=dN A:=by
 match A,h with
 | [a],_=>
   simp only[dN,Lib.decodeN,List.cons_append,List.nil_append,List.getD_cons_zero,List.getD_cons_succ,List.length_cons,List.length_nil,List.getD_nil]
   repeat' split
   all_goals first | (exfalso;omega) | rfl
 | [a,b],_=>
   simp only[dN,Lib.decodeN,List.cons_append,List.nil_append,List.getD_cons_zero,List.getD_cons_succ,List.length_cons,List.length_nil,List.getD_nil]
   repeat' split
   all_goals first | (exfalso;omega) | rfl
 | [a,b,d],_=>
   simp only[dN,Lib.decodeN,List.cons_append,List.nil_append,List.getD_cons_zero,List.getD_cons_succ,List.length_cons,List.length_nil,List.getD_nil]
   repeat' split
   all_goals first | (exfalso;omega) | rfl
 | a :: b :: d :: e :: A',_=>
   simp only[dN,Lib.decodeN,List.cons_append,List.nil_append,List.getD_cons_zero,List.getD_cons_succ,List.length_cons,List.length_append]
   repeat' split
   all_goals first | (exfalso;omega) | rfl
theorem aiZ (B:List Nat)(c:Nat)(hc:c < 128):dN (c :: B)=(c,1):=by simp[dN,Lib.decodeN,hc]
theorem apv:∀ (n:Nat) (A B:List Nat) (c:Nat),c < 128→A.length≤n→Rn (A++c :: B)=Rn A++(c:Int) :: Rn B
 | n,A,B,c,hc,hn=>by
   by_cases h:A=[]
   · subst h;rw[List.nil_append,a1f,List.nil_append,adM _ (by simp),aiZ B c hc];rfl
   · have hl:1≤A.length:=List.length_pos_iff.2 h;have hw:=abD A h
     match n with
     | 0=>omega
     | n+1=>
       rw[adM (A++c :: B) (by simp),anO A B c hc h,adM A h,List.drop_append_of_le_length hw.2,apv n (A.drop (dN A).2) B c hc (by simp;omega)];rfl
theorem a1V:¬ Part 58:=by decide
theorem amE (A B:List Nat):pl (A++58 :: B)=false:=by
 unfold pl;rw[apv _ A B 58 (by omega) (Nat.le_refl _)]
 have key:(Rn A++(58:Int) :: Rn B).all (fun r=>decide (Part r))=false:=by
  rw[List.all_append,List.all_cons,decide_eq_false a1V];simp
 have h58:((58:Nat):Int)=58:=rfl;rw[h58]
 cases hR:Rn A++(58:Int) :: Rn B with
 | nil=>rfl
 | cons x l=>
   rw[hR] at key;simp only[plR,key,Bool.and_false]
theorem ash (L:List Nat)(h:58∈L):pl L=false:=by
 obtain⟨A,B,rfl⟩:=List.append_of_mem h;exact amE A B
theorem azX:pl []=false:=rfl
theorem auy {L:List Nat}(h:pl L=true):∀ x∈Rn L,Part x:=by
 unfold pl at h;intro x hx
 cases hR:Rn L with
 | nil=>rw[hR] at hx;simp at hx
 | cons y l=>
   rw[hR] at h hx;simp only[plR,Bool.and_eq_true,List.all_eq_true,decide_eq_true_eq] at h;exact h.2 x hx
theorem aqB:∀ (n:Nat) (A B:List Nat) (c:Nat),c < 128→¬ Ok (c:Int)→A.length≤n→(∀ x∈Rn A,Ok x)→St (A++c :: B)=A.length
 | n,A,B,c,hc,hok,hn,hA=>by
   by_cases h:A=[]
   · subst h;rw[List.nil_append,agT _ (by simp),aiZ B c hc,if_neg hok];rfl
   · have hl:1≤A.length:=List.length_pos_iff.2 h;have hw:=abD A h
     match n with
     | 0=>omega
     | n+1=>
       have hR:=adM A h
       rw[agT (A++c :: B) (by simp),anO A B c hc h,if_pos (hA _ (by rw[hR];simp)),List.drop_append_of_le_length hw.2,
        aqB n (A.drop (dN A).2) B c hc hok (by simp;omega) (fun x hx=>hA x (by rw[hR];simp[hx]))]
       simp;omega
theorem aiD (A T:List Nat)(i:Nat)(h:i < A.length):A.getD i 0=(A++T).getD i 0:=by
 rw[List.getD_eq_getElem?_getD,List.getD_eq_getElem?_getD,List.getElem?_append_left h]
end Go.Proofs.YtnomcldpbkinmaaGreatDoor.Nz
namespace Go.Proofs.YtnomcldpbkinmaaGreatDoor.Nz
open Go.RowKit
theorem adh (r:Int)(w:World):Calls Tryz.prog 68 #[.int .i64 r] w fun e w'=>e=.returned (.bool (decide (Start r)))∧w=w':=by
 go_enter Tryz.func68,Tryz.ntmps68;go_wp2
 all_goals
  go_ret;refine⟨abv ?_,rfl⟩
  first
   | refine bt ?_
   | refine bf ?_
   | (refine Bool.eq_iff_iff.2 ?_;simp only[decide_eq_true_eq,Bool.or_eq_true,beq_iff_eq])
  try simp only[beq_iff_eq,Bool.or_eq_true,Bool.and_eq_true,decide_eq_true_eq,decide_eq_false_iff_not,beq_eq_false_iff_ne] at *
  simp only[Part,Start,Chr,Blank,Btw] at *
  first
   | omega
   | (constructor <;> intro hq <;> omega)
theorem agR (r:Int)(w:World):Calls Tryz.prog 66 #[.int .i64 r] w fun e w'=>e=.returned (.bool (decide (Part r)))∧w=w':=by
 go_enter Tryz.func66,Tryz.ntmps66;go_wp2_with (first | (go_at_call 68;refine(adh _ _).mono ?_;rintro e w' ⟨rfl,rfl⟩))
 all_goals
  go_ret;refine⟨abv ?_,rfl⟩
  first
   | refine bt ?_
   | refine bf ?_
   | (refine Bool.eq_iff_iff.2 ?_;simp only[decide_eq_true_eq,Bool.or_eq_true,beq_iff_eq])
  try simp only[beq_iff_eq,Bool.or_eq_true,Bool.and_eq_true,decide_eq_true_eq,decide_eq_false_iff_not,beq_eq_false_iff_ne] at *
  simp only[Part,Start,Chr,Blank,Btw] at *
  first
   | omega
   | (constructor <;> intro hq <;> omega)
end Go.Proofs.YtnomcldpbkinmaaGreatDoor.Nz
namespace Go.Proofs.YtnomcldpbkinmaaGreatDoor.Nz
open Go.RowKit
def aP (l:List Int):Bool:=l.all (fun r=>decide (Part r))
theorem acE (s:ByteArray)(pos:Nat)(h:pos < s.size):(bl s).drop pos≠[]:=by
 intro h2;have:=congrArg List.length h2;simp[aaS] at this;omega
theorem asM (s:ByteArray)(pos:Nat)(h:pos < s.size):Rn ((bl s).drop pos)=((Utf8.decode s pos).1:Int) :: Rn ((bl s).drop (pos+(Utf8.decode s pos).2)):=by
 rw[adM _ (acE s pos h),← acL,List.drop_drop]
theorem awD (s:ByteArray)(pos:Nat)(h:¬ pos < s.size):Rn ((bl s).drop pos)=[]:=by
 rw[List.drop_of_length_le (by rw[aaS];omega)];rfl
theorem atw (s:ByteArray)(h:0 < s.size):pl (bl s)=(decide (Start ((Utf8.decode s 0).1:Int)) && (decide (Part ((Utf8.decode s 0).1:Int)) && aP (Rn ((bl s).drop (0+(Utf8.decode s 0).2))))):=by
 have:=asM s 0 h;rw[List.drop_zero] at this;unfold pl aP;rw[this];simp only[plR,List.all_cons]
theorem isE (s:ByteArray):s.toList.isEmpty=decide (s.size=0):=by
 rw[Lib.toList_data,Lib.size_eq];cases s.data.toList <;> simp
def a3z (s:ByteArray)(w:World)(wr:World):Prop:=
 ∃ pos:Nat,wr=w.iter s pos∧(pos=0∨(pos≠0∧s.size≠0∧pl (bl s)=aP (Rn ((bl s).drop pos))))
theorem adg (s:ByteArray)(w:World):
 Calls Tryz.prog 125 #[.string s] w fun e w'=>e=.returned (.bool (pl (bl s)))∧Below w.heap.size w w':=by
 have HB:=aac (fun pos=>(Below.refl w.heap.size w).alloc (Nat.le_refl _) (.stringIter s pos));have HF:=aac (atw s);have HA:=aac (asM s);have HE:=aac (awD s)
 have HZ:Hid (s.size=0→pl (bl s)=false):=aac (fun h=>by
  have:bl s=[]:=List.eq_nil_of_length_eq_zero (by rw[aaS];exact h);rw[this];rfl)
 obtain⟨res,hres⟩:∃ res,res=pl (bl s):=⟨_,rfl⟩;have HRES:=aac hres;rw[← hres];clear hres;go_enter Tryz.func125,Tryz.ntmps125;go_wp2_with fail;go_loopw [3,4] (fun _ _ wr=>a3z s w wr) (fun _ _ wr=>s.size - wr.iterPos w.heap.size);case atStart=>exact⟨0,rfl,.inl rfl⟩
 case round=>
  obtain⟨pos,rfl,hq⟩:=hrel;have HQ:=aac hq;clear hq;by_cases hp:pos < s.size
  · have hnx:∀ ty,(Instr.next (.pointer (some ⟨w.heap.size,0,none⟩)) true ty).run Tryz.prog (w.iter s pos)=_:=fun ty=>run_next_any w s pos ty hp;have hwd:=width_pos s pos hp;have HR:=aac (HA.out pos hp);by_cases h0:pos=0
    · have F0:=aac (HF.out (by omega));have c0:((pos:Int) == 0)=true:=(by simp[h0]);have H0:=aac h0;rw[← h0] at F0;clear h0 HA HQ;generalize (Utf8.decode s pos).1=r at *;generalize (Utf8.decode s pos).2=d at *;go_wp2_with (first | (go_at_call 155;refine(adN _ _).mono ?_;rintro e w' ⟨rfl,rfl⟩) | (go_at_call 145;refine(afO _ _).mono ?_;rintro e w' ⟨rfl,rfl⟩))
      all_goals first
       | (go_ret;refine⟨abv ?_,HB.out _⟩;have f0:=F0.out
          try rw[HR.out] at f0
          rw[HRES.out,f0];simp_all [aP])
       | (refine⟨⟨pos+d,rfl,.inr ⟨by omega,by omega,?_⟩⟩,by simp;omega⟩;have f0:=F0.out
          try rw[HR.out] at f0
          rw[f0];simp_all [aP])
    · have Q:=HQ.out;have c0:((pos:Int) == 0)=false:=by simp;omega
      have F0:Hid (pl (bl s)=aP (Rn ((bl s).drop pos))):=aac (by rcases Q with h | h;exact absurd h h0;exact h.2.2);clear Q HA HQ;generalize (Utf8.decode s pos).1=r at *;generalize (Utf8.decode s pos).2=d at *;go_wp2_with (first | (go_at_call 155;refine(adN _ _).mono ?_;rintro e w' ⟨rfl,rfl⟩) | (go_at_call 145;refine(afO _ _).mono ?_;rintro e w' ⟨rfl,rfl⟩))
      all_goals first
       | (go_ret;refine⟨abv ?_,HB.out _⟩;have f0:=F0.out
          try rw[HR.out] at f0
          rw[HRES.out,f0];simp_all [aP])
       | (refine⟨⟨pos+d,rfl,.inr ⟨by omega,by omega,?_⟩⟩,by simp;omega⟩;have f0:=F0.out
          try rw[HR.out] at f0
          rw[f0];simp_all [aP])
  · have hnx:∀ ty,(Instr.next (.pointer (some ⟨w.heap.size,0,none⟩)) true ty).run Tryz.prog (w.iter s pos)=_:=fun ty=>run_next_end w s pos ty hp;go_wp2;go_ret;refine⟨abv ?_,HB.out pos⟩;rw[HRES.out,isE];by_cases hz:s.size=0
    · rw[HZ.out hz];simp[hz]
    · rcases HQ.out with h | h
      · omega
      · rw[h.2.2,HE.out pos hp];simp[hz,aP]
def a2O (l:List Int)(i:Value):Prop:=∃ k:Nat,k≤l.length∧i=.int .i64 k∧aP l=aP (l.drop k)
theorem azj (l:List Int)(k:Nat)(h:k < l.length):aP (l.drop k)=(decide (Part (l.getD k 0)) && aP (l.drop (k+1))):=by
 rw[List.drop_eq_getElem_cons h,List.getD_eq_getElem?_getD,List.getElem?_eq_getElem h];unfold aP;rw[List.all_cons];rfl
theorem ahd (s:ByteArray):∀ (b i:Nat) (x:Int),x∈rgo s b i→0≤x∧x≤2147483647
 | 0,i,x,h=>by simp[rgo] at h
 | b+1,i,x,h=>by
   unfold rgo at h;split at h
   · rcases List.mem_cons.1 h with rfl | h
     · have:=decode_le s i;omega
     · exact ahd s b _ x h
   · simp at h
theorem a0M (l:List Int)(h:0 < l.length):plR l=(decide (Start (l.getD 0 0)) && aP l):=by
 cases l with
 | nil=>simp at h
 | cons x l=>simp[plR,aP]
theorem a3g {r:Int}(h:Start r)(w:World):Calls Tryz.prog 68 #[.int .i64 r] w fun e w'=>e=.returned (.bool true)∧w=w':=(adh r w).mono fun e w' ⟨h1,h2⟩=>⟨by rw[h1,decide_eq_true h],h2⟩
theorem a3T {r:Int}(h:¬ Start r)(w:World):Calls Tryz.prog 68 #[.int .i64 r] w fun e w'=>e=.returned (.bool false)∧w=w':=(adh r w).mono fun e w' ⟨h1,h2⟩=>⟨by rw[h1,decide_eq_false h],h2⟩
theorem adU (s:ByteArray)(hs:s.size≤10000)(w:World):
 Calls Tryz.prog 47 #[.string s] w fun e w'=>e=.returned (.bool (pl (bl s)))∧Below w.heap.size w w':=by
 obtain⟨c,w1,hcv,hb1,hzz,hcell⟩:=aii w s hs;have hln:=aeK s;have HRG:=aac (fun x (hx:x∈runes s)=>ahd s s.size 0 x hx);have HP:Hid (pl (bl s)=plR (runes s)):=aac (by unfold pl;rw[afQ]);have HB:=aac hb1;have hsz:=hb1.size;clear hzz hb1;generalize pl (bl s)=res at *;generalize runes s=l at *;obtain⟨n,hn⟩:∃ n,n=l.length:=⟨_,rfl⟩;rw[← hn] at hcv;have hn1:n≤l.length:=(by omega);have hn2:l.length≤n:=(by omega);have hn3:n≤10000:=(by omega);clear hn;by_cases hz:n=0
 · have q0:((n:Int) == 0)=true:=(by simp[hz]);have HL:Hid (l=[]):=aac (List.eq_nil_of_length_eq_zero (by omega));clear hcell;go_enter Tryz.func47,Tryz.ntmps47;go_wp2_with fail;go_ret;refine⟨abv ?_,HB.out⟩;rw[HP.out,HL.out];rfl
 · have q0:((n:Int) == 0)=false:=by simp;omega
   have hc0:=hcell 0 (by omega);have HX:=aac (a0M l (by omega));obtain⟨hx0,hx1⟩:=HRG.out (l.getD 0 0) (by rw[List.getD_eq_getElem?_getD,List.getElem?_eq_getElem (by omega)];exact List.getElem_mem _);have HCELL:=aac hcell;clear hcell;generalize l.getD 0 0=x0 at *;have i0:(0:Int) < (n:Int):=(by omega);by_cases hS:Start x0
   · have CS:=aac (fun W=>a3g hS W);have HST:Hid (decide (Start x0)=true):=aac (decide_eq_true hS);clear hS;go_enter Tryz.func47,Tryz.ntmps47;go_wp2_with (first | (go_at_call 68;refine(CS.out _).mono ?_;rintro e w' ⟨rfl,rfl⟩));go_loop [4] (fun i=>a2O l i) (fun i=>l.length - (intOf i).toNat);case atStart=>exact⟨0,Nat.zero_le _,rfl,by simp⟩
     case round=>
      obtain⟨k,hk,rfl,ho⟩:=hrel;have HO:=aac ho;clear ho hc0;by_cases hlt:k < n
      · have hc:=HCELL.out k (by omega);have HT:=aac (azj l k (by omega));obtain⟨hy0,hy1⟩:=HRG.out (l.getD k 0) (by rw[List.getD_eq_getElem?_getD,List.getElem?_eq_getElem (by omega)];exact List.getElem_mem _);generalize l.getD k 0=y at hc HT hy0 hy1;clear hcv;go_wp2_with (first | (go_at_call 66;refine(agR _ _).mono ?_;rintro e w' ⟨rfl,rfl⟩))
        · go_ret;refine⟨abv ?_,HB.out⟩;rw[HP.out,HX.out,HO.out,HT.out];simp_all
        · refine⟨⟨k+1,by omega,by go_num,?_⟩,by simp[intOf];omega⟩;rw[HO.out,HT.out];simp_all
      · clear hcv;go_wp2_with fail;go_ret;refine⟨abv ?_,HB.out⟩;have hkn:k=l.length:=(by omega);rw[HP.out,HX.out,HST.out,HO.out,hkn,List.drop_length];rfl
   · have CS:=aac (fun W=>a3T hS W);have HST:Hid (decide (Start x0)=false):=aac (decide_eq_false hS);clear hS;go_enter Tryz.func47,Tryz.ntmps47;go_wp2_with (first | (go_at_call 68;refine(CS.out _).mono ?_;rintro e w' ⟨rfl,rfl⟩));go_ret;refine⟨abv ?_,HB.out⟩;rw[HP.out,HX.out,HST.out];rfl
end Go.Proofs.YtnomcldpbkinmaaGreatDoor.Nz
namespace Go.Proofs.YtnomcldpbkinmaaGreatDoor.Nz
open Go.RowKit
def fr (s:ByteArray)(k:Nat):ByteArray:=s.extract k s.size
def sn (s:ByteArray)(k:Nat):Nat:=St ((bl s).drop k)
def sx (s:ByteArray)(k:Nat):ByteArray:=(fr s k).extract 0 (sn s k)
theorem aho (s:ByteArray)(i j:Nat):bl (s.extract i j)=((bl s).drop i).take (j - i):=by
 simp[bl,ByteArray.data_extract,List.map_take,List.map_drop,List.extract_eq_take_drop]
theorem ajI (s:ByteArray)(k:Nat):bl (fr s k)=(bl s).drop k:=by
 rw[fr,aho,List.take_of_length_le];simp[aaS]
theorem aks {a b:ByteArray}(h:bl a=bl b):a=b:=by
 have h1:a.data.toList=b.data.toList:=by
  unfold bl at h;exact(List.map_inj_right (fun x y hxy=>UInt8.toNat_inj.1 hxy)).1 h
 have h2:a.data=b.data:=by
  rw[← Array.toArray_toList (xs:=a.data),h1,Array.toArray_toList]
 cases a;cases b;simp at h2;rw[h2]
theorem aht (u:ByteArray)(n:Nat)(h:u.size≤n):u.extract 0 n=u:=by
 apply aks;rw[aho,List.drop_zero,List.take_of_length_le (by rw[aaS];omega)]
theorem aaN (s:ByteArray)(k:Nat):(fr s k).size=s.size - k:=by
 rw[← aaS,ajI,List.length_drop,aaS]
theorem atb (s:ByteArray)(k:Nat):sn s k≤s.size - k:=by
 have:=axU _ ((bl s).drop k) (Nat.le_refl _);rw[List.length_drop,aaS] at this;exact this
theorem a0X (u:ByteArray)(pos:Nat)(h:pos < u.size):St ((bl u).drop pos)=if Ok ((Utf8.decode u pos).1:Int) then (Utf8.decode u pos).2+St ((bl u).drop (pos+(Utf8.decode u pos).2)) else 0:=by
 rw[agT _ (acE u pos h),← acL,List.drop_drop]
theorem avY (u:ByteArray)(pos:Nat)(h:¬ pos < u.size):St ((bl u).drop pos)=0:=by
 rw[List.drop_of_length_le (by rw[aaS];omega)];rfl
def asr (u:ByteArray)(m:Nat)(w:World)(wr:World):Prop:=∃ pos:Nat,wr=w.iter u pos∧pos+St ((bl u).drop pos)=m∧pos≤u.size
theorem awF (u:ByteArray)(pos:Nat)(h:pos < u.size):pos+(Utf8.decode u pos).2≤u.size:=by
 rw[acL];have:=(abD _ (acE u pos h)).2;rw[List.length_drop,aaS] at this;omega
theorem a4l {r:Int}(h:Part r)(w:World):Calls Tryz.prog 145 #[.int .i32 r] w fun e w'=>e=.returned (.bool true)∧w=w':=(afO r w).mono fun e w' ⟨h1,h2⟩=>⟨by rw[h1,decide_eq_true h],h2⟩
theorem a4i {r:Int}(h:¬ Part r)(w:World):Calls Tryz.prog 145 #[.int .i32 r] w fun e w'=>e=.returned (.bool false)∧w=w':=(afO r w).mono fun e w' ⟨h1,h2⟩=>⟨by rw[h1,decide_eq_false h],h2⟩
theorem adI {a b:ByteArray}{x y:Int}(h:a=b)(h2:x=y):Ending.returned (.tuple #[.string a,.int .i64 x])=.returned (.tuple #[.string b,.int .i64 y]):=by rw[h,h2]
theorem aiu (s:ByteArray)(k:Nat)(hs:s.size≤1000000)(hk:k≤s.size)(w:World):
 Calls Tryz.prog 118 #[.string s,.int .i64 k] w fun e w'=>e=.returned (.tuple #[.string (sx s k),.int .i64 ((k:Int)+(sn s k:Int))])∧Below w.heap.size w w':=by
 have b1:decide ((k:Int) < 0)=false:=(by simp);have b2:decide ((s.size:Int) < (k:Int))=false:=by simp;omega
 have b3:decide (s.size < k)=false:=by simp;omega
 have i1:(0:Int)≤(k:Int):=(by omega);have i2:(k:Int)≤(s.size:Int):=(by omega);have hu:fr s k=s.extract k s.size:=rfl;have hz:=aaN s k;have HM:Hid (sn s k=St (bl (fr s k))):=aac (by rw[sn,ajI]);have HX:Hid (sx s k=(fr s k).extract 0 (sn s k)):=aac rfl;generalize sx s k=res at *;generalize sn s k=m at *;go_enter Tryz.func118,Tryz.ntmps118;go_wp2_with fail;rw[← hu];clear hu;generalize fr s k=u at *;have HB:=aac (fun pos=>(Below.refl w.heap.size w).alloc (Nat.le_refl _) (.stringIter u pos));have HA:=aac (a0X u);have HE:=aac (avY u);have HD:=aac (awF u);go_loopw [7,8] (fun _ _ wr=>asr u m w wr) (fun _ _ wr=>u.size - wr.iterPos w.heap.size);case atStart=>exact⟨0,rfl,by rw[HM.out,List.drop_zero];omega,by omega⟩
 case round=>
  obtain⟨pos,rfl,hq,hpl⟩:=hrel;have HQ:=aac hq;clear hq;by_cases hp:pos < u.size
  · have hnx:∀ ty,(Instr.next (.pointer (some ⟨w.heap.size,0,none⟩)) true ty).run Tryz.prog (w.iter u pos)=_:=fun ty=>run_next_any w u pos ty hp;have hwd:=width_pos u pos hp;have HR:=aac (HA.out pos hp);have hd:=HD.out pos hp;have i3:(0:Int)≤(pos:Int):=(by omega);have i4:(pos:Int)≤(u.size:Int):=(by omega);clear HA HD;generalize (Utf8.decode u pos).1=r at *;generalize (Utf8.decode u pos).2=d at *;by_cases h58:(r:Int)=58
    · have c1:((r:Int) != 58)=false:=(by simp[h58]);have HO:Hid (Ok (r:Int)):=aac (.inl h58);clear h58;go_wp2_with fail;go_roundw
      case rel=>
       refine⟨pos+d,rfl,?_,hd⟩;have q:=HQ.out;rw[HR.out,if_pos HO.out] at q;omega
      case measure=>simp;omega
    · have c1:((r:Int) != 58)=true:=(by simp[h58]);by_cases hP:Part (r:Int)
      · have HO:Hid (Ok (r:Int)):=aac (.inr hP);have CP:=aac (fun W=>a4l hP W);clear h58 hP;go_wp2_with (first | (go_at_call 145;refine(CP.out _).mono ?_;rintro e w' ⟨rfl,rfl⟩));go_roundw
        case rel=>
         refine⟨pos+d,rfl,?_,hd⟩;have q:=HQ.out;rw[HR.out,if_pos HO.out] at q;omega
        case measure=>simp;omega
      · have HO:Hid (¬ Ok (r:Int)):=aac (by rintro (h | h);exact h58 h;exact hP h);have CP:=aac (fun W=>a4i hP W);clear h58 hP;go_wp2_with (first | (go_at_call 145;refine(CP.out _).mono ?_;rintro e w' ⟨rfl,rfl⟩));go_ret2;have q:=HQ.out;rw[HR.out,if_neg HO.out] at q;refine⟨adI ?_ ?_,HB.out _⟩
        · rw[HX.out,← q];rfl
        · omega
  · have hnx:∀ ty,(Instr.next (.pointer (some ⟨w.heap.size,0,none⟩)) true ty).run Tryz.prog (w.iter u pos)=_:=fun ty=>run_next_end w u pos ty hp;go_wp2;go_ret2;have q:=HQ.out;rw[HE.out pos hp] at q;have hm:m=u.size:=(by omega);refine⟨adI ?_ ?_,HB.out pos⟩
    · rw[HX.out,aht _ _ (by omega)]
    · omega
end Go.Proofs.YtnomcldpbkinmaaGreatDoor.Nz
