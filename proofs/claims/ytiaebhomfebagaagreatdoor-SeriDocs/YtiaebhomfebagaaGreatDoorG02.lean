/- Lemmas of the claim. -/
import Derived.Test.YtiaebhomfebagaaGreatDoorG01
import Derived.Test.YtiaebhomfebagaaGreatDoorProg
import Derived.WalkKit
import Derived.WalkSpells
import Derived.WalkLawsBesides
import Derived.Deep.QuietTactic
import Derived.BigQuiet
import Derived.Laws.Externs
import Derived.Lib.Bytealg
import Derived.Lib.ConvBytes
import Derived.Lib.BufferWrite
import Derived.Lib.UnsafeStr
import Derived.Lib.AtoiErrMem
import Derived.Lib.IfaceEq
import Derived.Laws.MakeOwn
import Derived.RegionTactic
import Derived.Deep.RegionWith
import Derived.Deep.RegionHeld3
import Derived.BigCall
import Derived.Lib.Hide
set_option maxHeartbeats 8000000
set_option maxRecDepth 100000
set_option linter.unusedSimpArgs false
set_option linter.unusedVariables false
namespace Go.Proofs.YtiaebhomfebagaaGreatDoor
def dig (c:Int):Int:=if 48≤c∧c≤57 then c - 48 else if 97≤c∧c≤102 then c - 87 else if 65≤c∧c≤70 then c - 55 else 99
theorem axM (c:Int):0≤dig c:=by unfold dig;repeat' split
                                all_goals omega
def anZ (base:Int):List Int→Int→Int
 | [],n=>n
 | c :: l,n=>if dig c < base then anZ base l (n * base+dig c) else -1
def ajp (base:Int):List Int→Int→Int
 | [],n=>n
 | c :: l,n=>if dig c < base then (if 2147483647 < n * base+dig c then -1 else ajp base l (n * base+dig c)) else -1
def acj (n:Int):Int:=if Chr n then n else -1
def asH (base:Int)(l:List Int):Int:=if l=[]∨8 < l.length then -1 else acj (anZ base l 0)
def agX (l:List Int):Int:=
 if l=[108,116] then 60 else if l=[103,116] then 62 else if l=[97,109,112] then 38 else if l=[97,112,111,115] then 39 else if l=[113,117,111,116] then 34
 else if l.getD 0 0≠35 then -1 else if l.getD 1 0=120 then asH 16 (l.drop 2) else asH 10 (l.drop 1)
theorem aqr {n:Int}(h:2147483647 < n):acj n= -1:=by
 unfold acj;rw[if_neg];unfold Chr Btw;omega
theorem adp:acj (-1)= -1:=by
 unfold acj;rw[if_neg];unfold Chr Btw;omega
theorem apO {n:Int}(h:acj n≠ -1):Chr n∧acj n=n:=by
 unfold acj at *;by_cases hc:Chr n
 · exact⟨hc,if_pos hc⟩
 · rw[if_neg hc] at h;exact absurd rfl h
theorem ajg (base:Int)(hb:1≤base):∀ (l:List Int) (n:Int),2147483647 < n→acj (anZ base l n)= -1
 | [],n,h=>aqr h
 | c :: l,n,h=>by
   unfold anZ;by_cases hd:dig c < base
   · rw[if_pos hd];refine ajg base hb l _ ?_;have:=axM c;have:n * 1≤n * base:=Int.mul_le_mul_of_nonneg_left hb (by omega);omega
   · rw[if_neg hd];exact adp
theorem awN (base:Int)(hb:1≤base):∀ (l:List Int) (n:Int),acj (ajp base l n)=acj (anZ base l n)
 | [],n=>rfl
 | c :: l,n=>by
   unfold ajp anZ;by_cases hd:dig c < base
   · rw[if_pos hd,if_pos hd];by_cases hg:2147483647 < n * base+dig c
     · rw[if_pos hg,ajg base hb l _ hg,adp]
     · rw[if_neg hg];exact awN base hb l _
   · rw[if_neg hd,if_neg hd]
theorem asb (base:Int)(hb:1≤base):∀ (l:List Int) (n:Int),0≤n→n≤2147483647→ajp base l n= -1∨(0≤ajp base l n∧ajp base l n≤2147483647)
 | [],n,h0,h1=>.inr ⟨h0,h1⟩
 | c :: l,n,h0,h1=>by
   unfold ajp;by_cases hd:dig c < base
   · rw[if_pos hd];by_cases hg:2147483647 < n * base+dig c
     · rw[if_pos hg];exact .inl rfl
     · rw[if_neg hg];have:=axM c;have:0≤n * base:=Int.mul_nonneg h0 (by omega);exact asb base hb l _ (by omega) (by omega)
   · rw[if_neg hd];exact .inl rfl
def abj (t:List Int):List Int:=t.takeWhile fun x=>decide (x≠59)
def blk (v:Bool)(b:Int):Int:=if v=true then 32 else b
def aaR (v:Bool)(l:List Int):Int × List Int × Nat:=
 if l.getD 0 0=38 then
  if 59∈l.tail∧0≤agX (abj l.tail) then (0,aat (agX (abj l.tail)),(abj l.tail).length+2) else (5,[],0)
 else if l.getD 0 0=13 then (0,[blk v 10],if l.getD 1 0=10 then 2 else 1)
 else if l.getD 0 0=9∨l.getD 0 0=10 then (0,[blk v (l.getD 0 0)],1)
 else if (aaX l).2.2≠0 then ((aaX l).2.2,[],0)
 else if Chr (aaX l).1 then (0,aat (aaX l).1,(aaX l).2.1.toNat) else (3,[],0)
def ael (v:Bool):Nat→List Int→List Int × Nat × Int
 | 0,_=>([],0,0)
 | f+1,l=>if l=[] then ([],0,0) else if (aaR v l).1≠0 then ([],0,(aaR v l).1)
   else ((aaR v l).2.1++(ael v f (l.drop (aaR v l).2.2)).1,(aaR v l).2.2+(ael v f (l.drop (aaR v l).2.2)).2.1,(ael v f (l.drop (aaR v l).2.2)).2.2)
def aaY (v:Bool)(l:List Int):List Int × Nat × Int:=ael v l.length l
theorem awC (t:List Int)(h:59∈t):(abj t).length < t.length:=by
 induction t with
 | nil=>simp at h
 | cons x t ih=>
   unfold abj;rw[List.takeWhile_cons];by_cases hx:x=59
   · subst hx;simp
   · rw[if_pos (by simpa using hx)];rw[List.mem_cons] at h;rcases h with h | h
     · exact absurd h.symm hx
     · simp only[List.length_cons];have:=ih h;unfold abj at this;omega
theorem ahT (v:Bool)(l:List Int)(hl:l≠[])(hn:NN l)(h:(aaR v l).1=0):1≤(aaR v l).2.2∧(aaR v l).2.2≤l.length:=by
 have hl1:1≤l.length:=by
  cases l with
  | nil=>exact absurd rfl hl
  | cons x y=>simp
 unfold aaR at h ⊢;by_cases h1:l.getD 0 0=38
 · rw[if_pos h1] at h ⊢;by_cases h2:59∈l.tail∧0≤agX (abj l.tail)
   · rw[if_pos h2];have:=awC l.tail h2.1;rw[List.length_tail] at this;refine⟨by simp,?_⟩;show (abj l.tail).length+2≤l.length;omega
   · rw[if_neg h2] at h;simp at h
 rw[if_neg h1] at h ⊢;by_cases h2:l.getD 0 0=13
 · rw[if_pos h2];by_cases h3:l.getD 1 0=10
   · rw[if_pos h3];refine⟨by simp,?_⟩
     match l,h3 with
     | _ :: _ :: _,_=>simp
     | [_],h3=>simp at h3
     | [],h3=>simp at h3
   · rw[if_neg h3];exact⟨by simp,hl1⟩
 rw[if_neg h2] at h ⊢;by_cases h3:l.getD 0 0=9∨l.getD 0 0=10
 · rw[if_pos h3];exact⟨by simp,hl1⟩
 rw[if_neg h3] at h ⊢;by_cases h4:(aaX l).2.2≠0
 · rw[if_pos h4] at h;exact absurd h h4
 rw[if_neg h4] at h ⊢;by_cases h5:Chr (aaX l).1
 · rw[if_pos h5];exact alO hl hn (by simpa using h4)
 · rw[if_neg h5] at h;simp at h
theorem ahu (v:Bool):∀ (f g:Nat) (L:List Int),NN L→L.length≤f→L.length≤g→ael v f L=ael v g L
 | 0,g,L,_,hf,_=>by
   have:L=[]:=List.eq_nil_of_length_eq_zero (by omega);subst this;cases g <;> simp[ael]
 | f+1,0,L,_,_,hg=>by
   have:L=[]:=List.eq_nil_of_length_eq_zero (by omega);subst this;simp[ael]
 | f+1,g+1,L,hn,hf,hg=>by
   by_cases hl:L=[]
   · subst hl;simp[ael]
   by_cases he:(aaR v L).1≠0
   · rw[ael,ael,if_neg hl,if_neg hl,if_pos he,if_pos he]
   · have:=ahT v L hl hn (by simpa using he);rw[ael,ael,if_neg hl,if_neg hl,if_neg he,if_neg he];rw[ahu v f g _ (hn.drop _) (by rw[List.length_drop];omega) (by rw[List.length_drop];omega)]
theorem ajI (v:Bool):aaY v []=([],0,0):=rfl
theorem ajk (v:Bool)(L:List Int)(hl:L≠[])(h:(aaR v L).1≠0):aaY v L=([],0,(aaR v L).1):=by
 unfold aaY
 cases hL:L.length with
 | zero=>exact absurd (List.eq_nil_of_length_eq_zero hL) hl
 | succ f=>rw[ael,if_neg hl,if_pos h]
theorem aix (v:Bool)(L:List Int)(hl:L≠[])(hn:NN L)(h:(aaR v L).1=0):
 aaY v L=((aaR v L).2.1++(aaY v (L.drop (aaR v L).2.2)).1,(aaR v L).2.2+(aaY v (L.drop (aaR v L).2.2)).2.1,(aaY v (L.drop (aaR v L).2.2)).2.2):=by
 have hb:=ahT v L hl hn h;unfold aaY
 cases hL:L.length with
 | zero=>exact absurd (List.eq_nil_of_length_eq_zero hL) hl
 | succ f=>
   rw[ael,if_neg hl,if_neg (by simpa using h)];rw[ahu v f (L.drop (aaR v L).2.2).length _ (hn.drop _) (by rw[List.length_drop];omega) (Nat.le_refl _)]
def acF (v:Bool)(l:List Int):List Int × Int × Int:=if (aaY v l).2.2=0 then ((aaY v l).1,0,0) else ([],((aaY v l).2.1:Int),(aaY v l).2.2)
end Go.Proofs.YtiaebhomfebagaaGreatDoor
namespace Go.Proofs.YtiaebhomfebagaaGreatDoor
open Go.RowKit
theorem ayC (x:Int)(h0:0≤x)(h1:x < 2147483648):bits .or .i32 x 0=x:=by
 have:=bits_join .i32 31 (by decide) wraps_i32 0 x 0 h0 (by omega) h1 (by omega) (by omega) (by omega)
 simpa using this
theorem afh {k1 k2:IntKind}{a b a1 b1:Int}(h:a=a1)(h1:b=b1):Ending.returned (.tuple #[.int k1 a,.int k2 b])=.returned (.tuple #[.int k1 a1,.int k2 b1]):=by rw[h,h1]
theorem acs {a b:Bool}(h:a=b):Ending.returned (.bool a)=.returned (.bool b):=by rw[h]
theorem amI (b:Int)(w:World)(h0:0≤b)(h1:b < 256):Calls Tryz.prog 57 #[.int .u8 b] w fun e w'=>e=.returned (.tuple #[.int .i32 (agK b),.int .i64 (aeL b)])∧w=w':=by
 go_enter Tryz.func57,Tryz.ntmps57;go_wp2
 all_goals
  go_ret2;refine⟨?_,rfl⟩;simp only[beq_iff_eq,beq_eq_false_iff_ne] at *;unfold agK aeL;refine afh ?_ ?_
  · repeat' split
    all_goals omega
  · repeat' split
    all_goals omega
theorem anm (r:Int)(k n:Nat)(w:World)(h0:0≤r)(h1:r * p64 (n - k) < 2097152)(hk:1≤k)(hn:k≤n)(h4:n≤4):
 Calls Tryz.prog 58 #[.int .i32 r,.int .i64 k,.int .i64 n] w fun e w'=>e=.returned (.bool (afB r k n))∧w=w':=by
 have h:(k=1∧n=1)∨(k=1∧n=2)∨(k=2∧n=2)∨(k=1∧n=3)∨(k=2∧n=3)∨(k=3∧n=3)∨(k=1∧n=4)∨(k=2∧n=4)∨(k=3∧n=4)∨(k=4∧n=4):=(by omega);rcases h with ⟨rfl,rfl⟩ | ⟨rfl,rfl⟩ | ⟨rfl,rfl⟩ | ⟨rfl,rfl⟩ | ⟨rfl,rfl⟩ | ⟨rfl,rfl⟩ | ⟨rfl,rfl⟩ | ⟨rfl,rfl⟩ | ⟨rfl,rfl⟩ | ⟨rfl,rfl⟩
 all_goals
  simp only[Nat.reduceSub,alv,ajP,ajw,aiZ] at h1;have h00:=ayC r h0 (by omega);go_enter Tryz.func58,Tryz.ntmps58;go_wp2
  all_goals
   go_ret;refine⟨acs (auY _ _ _ _ ?_).symm,rfl⟩;simp only[Nat.reduceSub,alv,ajP,ajw,aiZ,a4d,anf,ami,alR,a5a,awc,auP,awu,decide_eq_true_eq,Bool.false_eq_true,iff_false]
   first
    | omega
    | (simp only[iff_true];omega)
    | (simp;omega)
theorem aoL (r:Int)(k:Int)(w:World):
 Calls Tryz.prog 58 #[.int .i32 r,.int .i64 k,.int .i64 0] w fun e w'=>e=.returned (.bool false)∧w=w':=by
 go_enter Tryz.func58,Tryz.ntmps58;go_wp2;go_ret;exact⟨rfl,rfl⟩
end Go.Proofs.YtiaebhomfebagaaGreatDoor
namespace Go.Proofs.YtiaebhomfebagaaGreatDoor
open Go.RowKit
theorem below_drewN {B:Nat}{w w':World}(h:Below B w w')(n:Nat):Below B w (w'.drewN n):=⟨h.os,h.tape,h.output,h.size,h.block⟩
end Go.Proofs.YtiaebhomfebagaaGreatDoor
namespace Go.Proofs.YtiaebhomfebagaaGreatDoor
open Go.RowKit
def si (s:ByteArray):Int:=Lib.indexByte s.data.toList 59
theorem aeJ:∀ (l:List UInt8),(Lib.indexByte l 59= -1∧(59:Int) ∉ l.map fun b=>(b.toNat:Int))∨
 ∃ i:Nat,Lib.indexByte l 59=i∧i < l.length∧(59:Int)∈(l.map fun b=>(b.toNat:Int))∧abj (l.map fun b=>(b.toNat:Int))=(l.map fun b=>(b.toNat:Int)).take i
 | []=>.inl ⟨rfl,by simp⟩
 | b :: l=>by
   unfold Lib.indexByte;by_cases hb:b=59
   · subst hb;exact .inr ⟨0,by simp,by simp,by simp,by simp[abj]⟩
   · have hb1:(b == 59)=false:=by simpa using hb
     have hb2:(b.toNat:Int)≠59:=fun h=>hb (UInt8.toNat_inj.1 (by
      have h9:b.toNat=59:=(by omega);rw[h9];rfl))
     rw[hb1];rcases aeJ l with ⟨h1,h2⟩ | ⟨i,h1,h2,h3,h4⟩
     · refine .inl ⟨by rw[h1];rfl,?_⟩;rw[List.map_cons,List.mem_cons];rintro (h | h)
       · exact hb2 h.symm
       · exact h2 h
     · refine .inr ⟨i+1,?_,by simp;omega,?_,?_⟩
       · rw[h1];have:(((i:Int)) == -1)=false:=by rw[beq_eq_false_iff_ne];omega
         simp[this]
       · rw[List.map_cons,List.mem_cons];exact .inr h3
       · rw[List.map_cons,List.take_succ_cons,← h4];unfold abj;rw[List.takeWhile_cons,if_pos (by simpa using hb2)]
theorem avE (s:ByteArray):(si s= -1∧(59:Int) ∉ aad s)∨∃ i:Nat,si s=i∧i < s.size∧(59:Int)∈aad s∧abj (aad s)=(aad s).take i:=by
 have:=aeJ s.data.toList;rw[← Lib.size_eq] at this;exact this
theorem aes (s:ByteArray)(c:Int)(w:World):
 Calls Tryz.prog 118 #[.string s,.int .u8 c] w fun e w'=>e=.returned (.int .i64 (Lib.indexByte s.data.toList c.toNat.toUInt8))∧w=w':=by
 go_enter Tryz.func118,Tryz.ntmps118;go_wp2;rw[run_callFunc_extern Tryz.func143 (by kernel_rfl) (by kernel_rfl) (by kernel_rfl) (e:=Extern.BytealgIndexByte.indexByte) (by kernel_rfl),Lib.run_indexByteString];simp only[Result.andThen];rw[Oper.upon_value];go_wp2;go_ret;exact⟨rfl,rfl⟩
theorem agc (s:ByteArray)(w:World):
 Calls Tryz.prog 93 #[.string s,.string ⟨#[59]⟩] w fun e w'=>e=.returned (.int .i64 (si s))∧w=w':=by
 go_enter Tryz.func93,Tryz.ntmps93;go_wp2_with (go_at_call 118;refine(aes _ _ _).mono ?_;rintro e w' ⟨rfl,rfl⟩)
 · have h:([59] == s.toList)=true:=(by assumption);go_ret;refine⟨?_,rfl⟩;have e:s.data.toList=[59]:=by rw[← Lib.toList_data];exact(beq_iff_eq.1 h).symm
   unfold si;rw[e];rfl
 · go_ret;exact⟨rfl,rfl⟩
theorem ahS (s:ByteArray)(i:Nat)(h:si s=i)(hi:i < s.size)(hs:s.size≤1000000000000)(w:World):
 Calls Tryz.prog 156 #[.string s,.string ⟨#[59]⟩] w fun e w'=>e=.returned (.tuple #[.string (s.extract 0 i),.string (s.extract (i+1) s.size),.bool true])∧Below w.heap.size w w':=by
 have CI:=aac (agc s);rw[h] at CI;clear h;have c1:(0:Int)≤(i:Int):=(by omega);have c2:(i:Int)≤(s.size:Int):=(by omega);have c3:(0:Int)≤(i:Int)+1:=(by omega);have c4:(i:Int)+1≤(s.size:Int):=(by omega);have c5:decide ((0:Int)≤(i:Int))=true:=(by simp);have q3:((i:Int)+1).toNat=i+1:=(by omega);have q2:IntKind.i64.wrap ((i:Int)+1)=(i:Int)+1:=IntWalk.i64_in _ (by omega);go_enter Tryz.func156,Tryz.ntmps156;go_wp2_with (go_at_call 93;refine(CI.out _).mono ?_;rintro e w' ⟨rfl,rfl⟩);go_quiet (fail);go_wp2;go_ret3;exact⟨rfl,below_drewN (Below.refl _ _) _⟩
theorem agH (s:ByteArray)(h:si s= -1)(w:World):
 Calls Tryz.prog 156 #[.string s,.string ⟨#[59]⟩] w fun e w'=>e=.returned (.tuple #[.string s,.string ⟨#[]⟩,.bool false])∧Below w.heap.size w w':=by
 have CI:=aac (agc s);rw[h] at CI;clear h;go_enter Tryz.func156,Tryz.ntmps156;go_wp2_with (go_at_call 93;refine(CI.out _).mono ?_;rintro e w' ⟨rfl,rfl⟩);go_ret3;exact⟨rfl,Below.refl _ _⟩
theorem afV (s:ByteArray)(i:Nat)(h:si s=i)(hi:i < s.size)(hs:s.size≤1000000000000)(w:World):
 Calls Tryz.prog 128 #[.string s,.string ⟨#[59]⟩] w fun e w'=>e=.returned (.tuple #[.string (s.extract 0 i),.string (s.extract (i+1) s.size),.bool true])∧Below w.heap.size w w':=by
 have CL:=aac (ahS s i h hi hs);clear h hi hs;go_enter Tryz.func128,Tryz.ntmps128;go_wp2_with (go_at_call 156;refine(CL.out _).mono ?_;rintro e w' ⟨rfl,hb⟩);go_ret3;exact⟨rfl,hb⟩
theorem agj (s:ByteArray)(h:si s= -1)(w:World):
 Calls Tryz.prog 128 #[.string s,.string ⟨#[59]⟩] w fun e w'=>e=.returned (.tuple #[.string s,.string ⟨#[]⟩,.bool false])∧Below w.heap.size w w':=by
 have CL:=aac (agH s h);clear h;go_enter Tryz.func128,Tryz.ntmps128;go_wp2_with (go_at_call 156;refine(CL.out _).mono ?_;rintro e w' ⟨rfl,hb⟩);go_ret3;exact⟨rfl,hb⟩
theorem a0E (t:ByteArray)(c:UInt8)(w:World)(h:t.size=0):
 Calls Tryz.prog 92 #[.string t,.string ⟨#[c]⟩] w fun e w'=>e=.returned (.bool false)∧w=w':=by
 have e1:decide ((1:Int)≤(t.size:Int))=false:=by rw[decide_eq_false_iff_not];omega
 have e2:decide (1≤t.size)=false:=by rw[decide_eq_false_iff_not];omega
 clear h;go_enter Tryz.func92,Tryz.ntmps92;go_wp2;go_ret;exact⟨rfl,rfl⟩
theorem eqB (t:ByteArray)(l:List UInt8)(m:List Int)(hm:(l.map fun b=>(b.toNat:Int))=m):(t.toList == l)=decide (aad t=m):=by
 subst hm;rw[Lib.toList_data,Bool.eq_iff_iff,beq_iff_eq,decide_eq_true_eq];unfold aad;constructor
 · intro h;rw[h]
 · intro h;have hl:=congrArg List.length h;simp only[List.length_map] at hl;refine List.ext_getElem hl fun i h1 h2=> ?_;have:=congrArg (fun l=>l[i]?) h;simp only[List.getElem?_map,List.getElem?_eq_getElem h1,List.getElem?_eq_getElem h2,Option.map_some,Option.some.injEq] at this;exact UInt8.toNat_inj.1 (by omega)
theorem asu (l:List Int)(c:Int)(h:1≤l.length):(l.take 1=[c])↔l.getD 0 0=c:=by
 cases l with
 | nil=>simp at h
 | cons x y=>simp
theorem afl (t:ByteArray)(c:UInt8)(h:1≤t.size):((t.extract 0 1).toList == [c])=decide ((aad t).getD 0 0=(c.toNat:Int)):=by
 rw[eqB _ [c] [(c.toNat:Int)] rfl,aal,List.drop_zero];have:=asu (aad t) (c.toNat:Int) (by rw[aae];exact h);simp only[this]
theorem anj (t:ByteArray)(c:UInt8)(w:World)(h:1≤t.size)(b:Bool)(hb:b=((t.extract 0 1).toList == [c])):
 Calls Tryz.prog 92 #[.string t,.string ⟨#[c]⟩] w fun e w'=>e=.returned (.bool b)∧w=w':=by
 have e1:decide ((1:Int)≤(t.size:Int))=true:=by rw[decide_eq_true_eq];omega
 have e2:decide (1≤t.size)=true:=by rw[decide_eq_true_eq];omega
 have e3:(1:Int)≤(t.size:Int):=(by omega);subst hb;go_enter Tryz.func92,Tryz.ntmps92;go_wp2;go_ret;exact⟨rfl,rfl⟩
theorem a6b {t:ByteArray}(h:¬ 1≤t.size):aad t=[]:=List.eq_nil_of_length_eq_zero (by rw[aae];omega)
theorem apc (t:ByteArray)(c:UInt8)(w:World)(hc:c.toNat≠0)(h:(aad t).getD 0 0=(c.toNat:Int)):
 Calls Tryz.prog 92 #[.string t,.string ⟨#[c]⟩] w fun e w'=>e=.returned (.bool true)∧w=w':=by
 by_cases h1:1≤t.size
 · exact anj t c w h1 true (by rw[afl t c h1,decide_eq_true h])
 · rw[a6b h1] at h;simp at h;omega
theorem adC (t:ByteArray)(c:UInt8)(w:World)(h:(aad t).getD 0 0≠(c.toNat:Int)):
 Calls Tryz.prog 92 #[.string t,.string ⟨#[c]⟩] w fun e w'=>e=.returned (.bool false)∧w=w':=by
 by_cases h1:1≤t.size
 · exact anj t c w h1 false (by rw[afl t c h1,decide_eq_false h])
 · exact a0E t c w (by omega)
theorem amT (t:ByteArray)(c:UInt8)(b:Bool)(C:Hid (∀ w,Calls Tryz.prog 92 #[.string t,.string ⟨#[c]⟩] w fun e w'=>e=.returned (.bool b)∧w=w'))(w:World):
 Calls Tryz.prog 68 #[.string t,.string ⟨#[c]⟩] w fun e w'=>e=.returned (.bool b)∧w=w':=by
 go_enter Tryz.func68,Tryz.ntmps68;go_wp2_with (go_at_call 92;refine(C.out _).mono ?_;rintro e w' ⟨rfl,rfl⟩);go_ret;exact⟨rfl,rfl⟩
theorem a0Z (t:ByteArray)(c:UInt8)(hc:c.toNat≠0)(h:(aad t).getD 0 0=(c.toNat:Int))(w:World):
 Calls Tryz.prog 68 #[.string t,.string ⟨#[c]⟩] w fun e w'=>e=.returned (.bool true)∧w=w':=amT t c true (aac fun w=>apc t c w hc h) w
theorem a3t (t:ByteArray)(c:UInt8)(h:(aad t).getD 0 0≠(c.toNat:Int))(w:World):
 Calls Tryz.prog 68 #[.string t,.string ⟨#[c]⟩] w fun e w'=>e=.returned (.bool false)∧w=w':=amT t c false (aac fun w=>adC t c w h) w
theorem a0r (t:ByteArray)(c:UInt8)(hs:1≤t.size)(C:Hid (∀ w,Calls Tryz.prog 92 #[.string t,.string ⟨#[c]⟩] w fun e w'=>e=.returned (.bool true)∧w=w'))(w:World):
 Calls Tryz.prog 91 #[.string t,.string ⟨#[c]⟩] w fun e w'=>e=.returned (.tuple #[.string (t.extract 1 t.size),.bool true])∧w=w':=by
 have e3:(1:Int)≤(t.size:Int):=(by omega);go_enter Tryz.func91,Tryz.ntmps91;go_wp2_with (go_at_call 92;refine(C.out _).mono ?_;rintro e w' ⟨rfl,rfl⟩);go_ret2;exact⟨rfl,rfl⟩
theorem a3n (t:ByteArray)(c:UInt8)(C:Hid (∀ w,Calls Tryz.prog 92 #[.string t,.string ⟨#[c]⟩] w fun e w'=>e=.returned (.bool false)∧w=w'))(w:World):
 Calls Tryz.prog 91 #[.string t,.string ⟨#[c]⟩] w fun e w'=>e=.returned (.tuple #[.string t,.bool false])∧w=w':=by
 go_enter Tryz.func91,Tryz.ntmps91;go_wp2_with (go_at_call 92;refine(C.out _).mono ?_;rintro e w' ⟨rfl,rfl⟩);go_ret2;exact⟨rfl,rfl⟩
theorem a2o (t r:ByteArray)(b:Bool)(c:UInt8)(C:Hid (∀ w,Calls Tryz.prog 91 #[.string t,.string ⟨#[c]⟩] w fun e w'=>e=.returned (.tuple #[.string r,.bool b])∧w=w'))(w:World):
 Calls Tryz.prog 66 #[.string t,.string ⟨#[c]⟩] w fun e w'=>e=.returned (.tuple #[.string r,.bool b])∧w=w':=by
 go_enter Tryz.func66,Tryz.ntmps66;go_wp2_with (go_at_call 91;refine(C.out _).mono ?_;rintro e w' ⟨rfl,rfl⟩);go_ret2;exact⟨rfl,rfl⟩
theorem amB (t:ByteArray)(c:UInt8)(hc:c.toNat≠0)(h:(aad t).getD 0 0=(c.toNat:Int))(w:World):
 Calls Tryz.prog 66 #[.string t,.string ⟨#[c]⟩] w fun e w'=>e=.returned (.tuple #[.string (t.extract 1 t.size),.bool true])∧w=w':=by
 refine a2o t _ _ c (aac fun w=>a0r t c ?_ (aac fun w=>apc t c w hc h) w) w;by_cases h1:1≤t.size
 · exact h1
 · rw[a6b h1] at h;simp at h;omega
theorem atY (t:ByteArray)(c:UInt8)(h:(aad t).getD 0 0≠(c.toNat:Int))(w:World):
 Calls Tryz.prog 66 #[.string t,.string ⟨#[c]⟩] w fun e w'=>e=.returned (.tuple #[.string t,.bool false])∧w=w':=
 a2o t _ _ c (aac fun w=>a3n t c (aac fun w=>adC t c w h) w) w
def nmV (l:List Int):Int:=if l=[108,116] then 60 else if l=[103,116] then 62 else if l=[97,109,112] then 38 else if l=[97,112,111,115] then 39 else if l=[113,117,111,116] then 34 else -1
def nrV (l:List Int):Int:=if l.getD 0 0≠35 then -1 else if l.getD 1 0=120 then asH 16 (l.drop 2) else asH 10 (l.drop 1)
theorem alG (l:List Int):agX l=if 0≤nmV l then nmV l else nrV l:=by
 unfold agX nmV;by_cases h1:l=[108,116]
 · rw[if_pos h1,if_pos h1];simp
 rw[if_neg h1,if_neg h1];by_cases h2:l=[103,116]
 · rw[if_pos h2,if_pos h2];simp
 rw[if_neg h2,if_neg h2];by_cases h3:l=[97,109,112]
 · rw[if_pos h3,if_pos h3];simp
 rw[if_neg h3,if_neg h3];by_cases h4:l=[97,112,111,115]
 · rw[if_pos h4,if_pos h4];simp
 rw[if_neg h4,if_neg h4];by_cases h5:l=[113,117,111,116]
 · rw[if_pos h5,if_pos h5];simp
 rw[if_neg h5,if_neg h5];rfl
theorem a6s (t:ByteArray):(t.toList == [108,116])=decide (aad t=[108,116]):=eqB t _ _ rfl
theorem a6n (t:ByteArray):(t.toList == [103,116])=decide (aad t=[103,116]):=eqB t _ _ rfl
theorem a4E (t:ByteArray):(t.toList == [97,109,112])=decide (aad t=[97,109,112]):=eqB t _ _ rfl
theorem a1j (t:ByteArray):(t.toList == [97,112,111,115])=decide (aad t=[97,112,111,115]):=eqB t _ _ rfl
theorem a2m (t:ByteArray):(t.toList == [113,117,111,116])=decide (aad t=[113,117,111,116]):=eqB t _ _ rfl
def nmR (x:Int):Value:=.tuple #[.int .i32 (if 0≤x then x else 0),.bool (decide (0≤x))]
theorem ajQ (t:ByteArray)(w:World):Calls Tryz.prog 169 #[.string t] w fun e w'=>e=.returned (nmR (nmV (aad t)))∧w=w':=by
 go_enter Tryz.func169,Tryz.ntmps169;go_wp2
 all_goals
  go_ret2;refine⟨?_,rfl⟩;simp only[a6s,a6n,a4E,a1j,a2m,decide_eq_true_eq,decide_eq_false_iff_not] at *;unfold nmV;simp only[*,if_true,if_false,List.cons.injEq,reduceCtorEq,and_false,false_and]
  first | rfl | (simp;rfl)
theorem aoT (t:ByteArray)(r:Int)(hr:nmV (aad t)=r)(h:0≤r)(w:World):Calls Tryz.prog 169 #[.string t] w fun e w'=>e=.returned (.tuple #[.int .i32 r,.bool true])∧w=w':=by
 have:=ajQ t w;rw[hr] at this;unfold nmR at this;rw[if_pos h,decide_eq_true h] at this;exact this
theorem avN (t:ByteArray)(h:¬ 0≤nmV (aad t))(w:World):Calls Tryz.prog 169 #[.string t] w fun e w'=>e=.returned (.tuple #[.int .i32 0,.bool false])∧w=w':=by
 have:=ajQ t w;unfold nmR at this;rw[if_neg h,decide_eq_false h] at this;exact this
end Go.Proofs.YtiaebhomfebagaaGreatDoor
namespace Go.Proofs.YtiaebhomfebagaaGreatDoor
open Go.RowKit
theorem abU {a b:Bool}(h:a=b):Ending.returned (.bool a)=.returned (.bool b):=by rw[h]
theorem cbt {p:Prop} [Decidable p](h:p):true=decide p:=(decide_eq_true h).symm
theorem cbf {p:Prop} [Decidable p](h:¬ p):false=decide p:=(decide_eq_false h).symm
theorem acM (r a b:Int)(w:World):Calls Tryz.prog 60 #[.int .i32 r,.int .i32 a,.int .i32 b] w fun e w'=>e=.returned (.bool (decide (Btw r a b)))∧w=w':=by
 go_enter Tryz.func60,Tryz.ntmps60;go_wp2
 all_goals
  go_ret;refine⟨abU ?_,rfl⟩
  first
   | refine cbt ?_
   | refine cbf ?_
   | (refine Bool.eq_iff_iff.2 ?_;simp only[decide_eq_true_eq,Bool.or_eq_true,beq_iff_eq])
  simp only[Part,Start,Chr,Blank,Btw] at *
  first
   | omega
   | (constructor <;> intro hq <;> omega)
theorem agr (r:Int)(w:World):Calls Tryz.prog 59 #[.int .i32 r] w fun e w'=>e=.returned (.bool (decide (Blank r)))∧w=w':=by
 go_enter Tryz.func59,Tryz.ntmps59;go_wp2
 all_goals
  go_ret;refine⟨abU ?_,rfl⟩
  first
   | refine cbt ?_
   | refine cbf ?_
   | (refine Bool.eq_iff_iff.2 ?_;simp only[decide_eq_true_eq,Bool.or_eq_true,beq_iff_eq])
  simp only[Part,Start,Chr,Blank,Btw] at *
  first
   | omega
   | (constructor <;> intro hq <;> omega)
theorem adB (r:Int)(w:World):Calls Tryz.prog 40 #[.int .i32 r] w fun e w'=>e=.returned (.bool (decide (Chr r)))∧w=w':=by
 go_enter Tryz.func40,Tryz.ntmps40;go_wp2_with (first | (go_at_call 59;refine(agr _ _).mono ?_;rintro e w' ⟨rfl,rfl⟩) | (go_at_call 60;refine(acM _ _ _ _).mono ?_;rintro e w' ⟨rfl,rfl⟩))
 all_goals
  go_ret;refine⟨abU ?_,rfl⟩
  first
   | refine cbt ?_
   | refine cbf ?_
   | (refine Bool.eq_iff_iff.2 ?_;simp only[decide_eq_true_eq,Bool.or_eq_true,beq_iff_eq])
  simp only[Part,Start,Chr,Blank,Btw] at *
  first
   | omega
   | (constructor <;> intro hq <;> omega)
end Go.Proofs.YtiaebhomfebagaaGreatDoor
namespace Go.Proofs.YtiaebhomfebagaaGreatDoor
open Go.RowKit
def low (c:Int):Int:=bits .or .u8 c 32
theorem a0m:∀ n:Fin 256,bits .or .u8 ((n:Nat):Int) 32=if (n:Nat) / 32 % 2=1 then ((n:Nat):Int) else ((n:Nat):Int)+32:=by decide+kernel
theorem axO (c:Int)(h0:0≤c)(h1:c≤255):low c=if c / 32 % 2=1 then c else c+32:=by
 obtain⟨n,rfl⟩:=Int.eq_ofNat_of_zero_le h0;have:=a0m ⟨n,by omega⟩;simp only at this;unfold low;rw[this];by_cases h:n / 32 % 2=1
 · rw[if_pos h,if_pos (by omega)]
 · rw[if_neg h,if_neg (by omega)]
theorem alq (c:Int)(w:World):Calls Tryz.prog 195 #[.int .u8 c] w fun e w'=>e=.returned (.int .u8 (low c))∧w=w':=by
 go_enter Tryz.func195,Tryz.ntmps195;go_wp2;go_ret;exact⟨rfl,rfl⟩
def ajU (x:Int)(w:World)(e:Ending)(w':World):Prop:=
 ((0≤x∧e=.returned (.tuple #[.int .u64 x,.nilIface]))∨(x= -1∧∃ y:Int,e=.returned (.tuple #[.int .u64 y,.iface 261 (.int .i64 1)]))∨(x= -1∧∃ y:Int,e=.returned (.tuple #[.int .u64 y,.iface 261 (.int .i64 2)])))∧Below w.heap.size w w'
theorem aug (b:Int)(w:World):Calls Tryz.prog 190 #[.string ⟨#[]⟩,.int .i64 b,.int .i64 31] w (ajU (-1) w):=by
 go_enter Tryz.func190,Tryz.ntmps190;go_wp2;go_ret2;exact⟨.inr (.inr ⟨rfl,0,rfl⟩),Below.refl _ _⟩
theorem ajF (b:Int)(c n:Int)(l:List Int):ajp b (c :: l) n=if dig c < b then (if 2147483647 < n * b+dig c then -1 else ajp b l (n * b+dig c)) else -1:=rfl
theorem drop_cons (l:List Int)(k:Nat)(h:k < l.length):l.drop k=l.getD k 0 :: l.drop (k+1):=by
 rw[List.drop_eq_getElem_cons h];simp[List.getD_eq_getElem?_getD,List.getElem?_eq_getElem h]
theorem apX (t:ByteArray)(k:Nat):0≤(aad t).getD k 0∧(aad t).getD k 0≤255:=by
 rw[← acT];have:=akz t k;have:=aru t k;omega
def arH (b:Int)(l:List Int)(k:Nat)(a:Int):Prop:=0≤a∧a≤2147483647∧ajp b l 0=ajp b (l.drop k) a
theorem a4U (t:ByteArray)(hne:t.size≠0)(hs:t.size≤1000000000000)(w:World):Calls Tryz.prog 190 #[.string t,.int .i64 10,.int .i64 31] w (ajU (ajp 10 (aad t) 0) w):=by
 have hemp:t.toList.isEmpty=false:=by
  rw[← decide_eq_emptyBytes];exact decide_eq_false (fun h=>hne (by rw[h];rfl))
 have hcv:=Lib.run_convert_string_bytes (P:=Tryz.prog) w 9 57 5 t (u:=.string) Tryz.underlying9 Tryz.underlying57 Tryz.underlying5
 have hB:∀ j,j < t.size→(Lib.bytesWorld w 5 t).cell? ⟨w.heap.size,j,none⟩=some (.int .u8 ((aad t).getD j 0)):=fun j hj=>by
  rw[Lib.bytesWorld_cell w 5 t j hj,← acT];rfl
 have hW:=aac (Lib.bytesWorld_below w 5 t);obtain⟨W1,hW1⟩:∃ W1,W1=Lib.bytesWorld w 5 t:=⟨_,rfl⟩;rw[← hW1] at hcv hB hW;clear hW1;have hby:=apX t;have hLn:=aae t;obtain⟨L,hL⟩:∃ L,L=aad t:=⟨_,rfl⟩;rw[← hL] at hB hby hLn ⊢;clear hL
 have hmv:IntKind.u64.wrap (IntKind.u64.wrap 2147483648 - 1)=2147483647:=by
  rw[IntKind.wrap_u64,IntKind.wrap_u64];decide
 go_enter Tryz.func190,Tryz.ntmps190;go_wp2;go_loop [12,13,101] (fun vu vn vi=>∃ (k:Nat) (a:Int),vu=.bool false∧vn=.int .u64 a∧vi=.int .i64 k∧k≤t.size∧Hid (arH 10 L k a)) (fun _ _ vi=>t.size - (intOf vi).toNat);case atStart=>exact⟨0,0,rfl,rfl,rfl,by omega,aac ⟨by omega,by omega,rfl⟩⟩
 case round=>
  obtain⟨k,a,rfl,rfl,rfl,hk,hh⟩:=hrel;obtain⟨a0,a1,hdec⟩:=hh.out;clear hh;by_cases hkn:k < t.size
  · have hc:=hB k hkn;have hb:=hby k;rw[drop_cons L k (by omega),ajF] at hdec;generalize L.getD k 0=c at hc hdec hb;obtain⟨c0,c1⟩:=hb;clear hB hby;by_cases hdig:48≤c∧c≤57
    · obtain⟨hd0,hd1⟩:=hdig;have hd:dig c=c - 48:=by unfold dig;rw[if_pos ⟨hd0,hd1⟩]
      rw[hd,if_pos (by omega)] at hdec;by_cases hov:2147483647 < a * 10+(c - 48)
      · rw[if_pos hov] at hdec;have HD:=aac hdec;clear hdec hd;go_wp2;go_ret2;exact⟨.inr (.inl ⟨HD.out,_,rfl⟩),hW.out⟩
      · rw[if_neg hov] at hdec;have HN:Hid (arH 10 L (k+1) (a * 10+(c - 48))):=aac ⟨by omega,by omega,hdec⟩;have iov:a * 10+(c - 48)≤2147483647:=(by omega);clear hdec hd hov;go_wp2;refine⟨⟨k+1,a * 10+(c - 48),rfl,(by first | rfl | (congr 1;omega)),(by first | rfl | (congr 1;omega)),by omega,HN⟩,by simp[intOf];omega⟩
    · have hl:=axO c c0 c1
      have hd:¬ dig c < 10:=by
       unfold dig;rw[if_neg hdig]
       repeat' split
       all_goals omega
      rw[if_neg hd] at hdec;have HD:=aac hdec;have LW:=aac (alq c)
      have y0:low c < 97∨122 < low c∨(97≤low c∧low c≤122):=by
       rw[hl];split <;> omega
      have z0:0≤low c:=by rw[hl];split <;> omega
      have z1:low c≤255:=by rw[hl];split <;> omega
      clear hdec hd hl
      have nd:decide (c≤57)=false∨decide (48≤c)=false:=by
       rw[decide_eq_false_iff_not,decide_eq_false_iff_not];omega
      clear hdig;by_cases h95:c=95
      · subst h95;have y1:low 95=127:=(by decide+kernel);rw[y1] at LW;clear y0 z0 z1 nd c0 c1 y1;go_wp2_with (go_at_call 195;refine(LW.out _).mono ?_;rintro e w' ⟨rfl,rfl⟩);all_goals go_ret2
        all_goals exact⟨.inr (.inr ⟨HD.out,_,rfl⟩),hW.out⟩
      generalize low c=x at *;rcases nd with nd | nd
      · rcases y0 with y0 | y0 | ⟨y0,y1⟩
        all_goals
         go_wp2_with (go_at_call 195;refine(LW.out _).mono ?_;rintro e w' ⟨rfl,rfl⟩);all_goals go_ret2
         all_goals exact⟨.inr (.inr ⟨HD.out,_,rfl⟩),hW.out⟩
      · rcases y0 with y0 | y0 | ⟨y0,y1⟩
        all_goals
         go_wp2_with (go_at_call 195;refine(LW.out _).mono ?_;rintro e w' ⟨rfl,rfl⟩);all_goals go_ret2
         all_goals exact⟨.inr (.inr ⟨HD.out,_,rfl⟩),hW.out⟩
  · have hkk:k=t.size:=(by omega);subst hkk;rw[List.drop_eq_nil_of_le (by omega)] at hdec;have HD:=aac hdec;clear hdec;go_wp2;go_ret2;exact⟨.inl ⟨by rw[HD.out];exact a0,by rw[HD.out];rfl⟩,hW.out⟩
theorem a5P (t:ByteArray)(hne:t.size≠0)(hs:t.size≤1000000000000)(w:World):Calls Tryz.prog 190 #[.string t,.int .i64 16,.int .i64 31] w (ajU (ajp 16 (aad t) 0) w):=by
 have hemp:t.toList.isEmpty=false:=by
  rw[← decide_eq_emptyBytes];exact decide_eq_false (fun h=>hne (by rw[h];rfl))
 have hcv:=Lib.run_convert_string_bytes (P:=Tryz.prog) w 9 57 5 t (u:=.string) Tryz.underlying9 Tryz.underlying57 Tryz.underlying5
 have hB:∀ j,j < t.size→(Lib.bytesWorld w 5 t).cell? ⟨w.heap.size,j,none⟩=some (.int .u8 ((aad t).getD j 0)):=fun j hj=>by
  rw[Lib.bytesWorld_cell w 5 t j hj,← acT];rfl
 have hW:=aac (Lib.bytesWorld_below w 5 t);obtain⟨W1,hW1⟩:∃ W1,W1=Lib.bytesWorld w 5 t:=⟨_,rfl⟩;rw[← hW1] at hcv hB hW;clear hW1;have hby:=apX t;have hLn:=aae t;obtain⟨L,hL⟩:∃ L,L=aad t:=⟨_,rfl⟩;rw[← hL] at hB hby hLn ⊢;clear hL
 have hmv:IntKind.u64.wrap (IntKind.u64.wrap 2147483648 - 1)=2147483647:=by
  rw[IntKind.wrap_u64,IntKind.wrap_u64];decide
 go_enter Tryz.func190,Tryz.ntmps190;go_wp2;go_loop [12,13,101] (fun vu vn vi=>∃ (k:Nat) (a:Int),vu=.bool false∧vn=.int .u64 a∧vi=.int .i64 k∧k≤t.size∧Hid (arH 16 L k a)) (fun _ _ vi=>t.size - (intOf vi).toNat);case atStart=>exact⟨0,0,rfl,rfl,rfl,by omega,aac ⟨by omega,by omega,rfl⟩⟩
 case round=>
  obtain⟨k,a,rfl,rfl,rfl,hk,hh⟩:=hrel;obtain⟨a0,a1,hdec⟩:=hh.out;clear hh;by_cases hkn:k < t.size
  · have hc:=hB k hkn;have hb:=hby k;rw[drop_cons L k (by omega),ajF] at hdec;generalize L.getD k 0=c at hc hdec hb;obtain⟨c0,c1⟩:=hb;clear hB hby;by_cases hdig:48≤c∧c≤57
    · obtain⟨hd0,hd1⟩:=hdig;have hd:dig c=c - 48:=by unfold dig;rw[if_pos ⟨hd0,hd1⟩]
      rw[hd,if_pos (by omega)] at hdec;by_cases hov:2147483647 < a * 16+(c - 48)
      · rw[if_pos hov] at hdec;have HD:=aac hdec;clear hdec hd;go_wp2;go_ret2;exact⟨.inr (.inl ⟨HD.out,_,rfl⟩),hW.out⟩
      · rw[if_neg hov] at hdec;have HN:Hid (arH 16 L (k+1) (a * 16+(c - 48))):=aac ⟨by omega,by omega,hdec⟩;have iov:a * 16+(c - 48)≤2147483647:=(by omega);clear hdec hd hov;go_wp2;refine⟨⟨k+1,a * 16+(c - 48),rfl,(by first | rfl | (congr 1;omega)),(by first | rfl | (congr 1;omega)),by omega,HN⟩,by simp[intOf];omega⟩
    · have hl:=axO c c0 c1;by_cases hx:(97≤c∧c≤102)∨(65≤c∧c≤70)
      · have hd:dig c=low c - 97+10:=by
         unfold dig;rw[if_neg hdig,hl];by_cases h:97≤c∧c≤102
         · rw[if_pos h,if_pos (by omega)];omega
         · rw[if_neg h,if_pos (by omega),if_neg (by omega)];omega
        have x0:97≤low c:=by rw[hl];split <;> omega
        have x1:low c≤102:=by rw[hl];split <;> omega
        have n0:decide (48≤c)=true:=by rw[decide_eq_true_eq];omega
        have n1:decide (c≤57)=false:=by rw[decide_eq_false_iff_not];omega
        have n2:¬ c=95:=(by omega);have LW:=aac (alq c);rw[hd] at hdec;clear hl hdig hx hd c0 c1;generalize low c=x at *;rw[if_pos (by omega)] at hdec;by_cases hov:2147483647 < a * 16+(x - 97+10)
        · rw[if_pos hov] at hdec;have HD:=aac hdec;clear hdec;go_wp2_with (go_at_call 195;refine(LW.out _).mono ?_;rintro e w' ⟨rfl,rfl⟩);go_ret2;exact⟨.inr (.inl ⟨HD.out,_,rfl⟩),hW.out⟩
        · rw[if_neg hov] at hdec;have HN:Hid (arH 16 L (k+1) (a * 16+(x - 97+10))):=aac ⟨by omega,by omega,hdec⟩;have iov:a * 16+(x - 97+10)≤2147483647:=(by omega);clear hdec hov;go_wp2_with (go_at_call 195;refine(LW.out _).mono ?_;rintro e w' ⟨rfl,rfl⟩);refine⟨⟨k+1,a * 16+(x - 97+10),rfl,(by first | rfl | (congr 1;omega)),(by first | rfl | (congr 1;omega)),by omega,HN⟩,by simp[intOf];omega⟩
      have hd:¬ dig c < 16:=by
       unfold dig;rw[if_neg hdig,if_neg (by omega),if_neg (by omega)];omega
      rw[if_neg hd] at hdec;have HD:=aac hdec;have LW:=aac (alq c)
      have y0:low c < 97∨122 < low c∨(103≤low c∧low c≤122):=by
       rw[hl];split <;> omega
      have z0:0≤low c:=by rw[hl];split <;> omega
      have z1:low c≤255:=by rw[hl];split <;> omega
      clear hdec hd hl
      have nd:decide (c≤57)=false∨decide (48≤c)=false:=by
       rw[decide_eq_false_iff_not,decide_eq_false_iff_not];omega
      clear hdig;by_cases h95:c=95
      · subst h95;have y1:low 95=127:=(by decide+kernel);rw[y1] at LW;clear y0 z0 z1 nd c0 c1 y1;go_wp2_with (go_at_call 195;refine(LW.out _).mono ?_;rintro e w' ⟨rfl,rfl⟩);all_goals go_ret2
        all_goals exact⟨.inr (.inr ⟨HD.out,_,rfl⟩),hW.out⟩
      generalize low c=x at *;rcases nd with nd | nd
      · rcases y0 with y0 | y0 | ⟨y0,y1⟩
        all_goals
         go_wp2_with (go_at_call 195;refine(LW.out _).mono ?_;rintro e w' ⟨rfl,rfl⟩);all_goals go_ret2
         all_goals exact⟨.inr (.inr ⟨HD.out,_,rfl⟩),hW.out⟩
      · rcases y0 with y0 | y0 | ⟨y0,y1⟩
        all_goals
         go_wp2_with (go_at_call 195;refine(LW.out _).mono ?_;rintro e w' ⟨rfl,rfl⟩);all_goals go_ret2
         all_goals exact⟨.inr (.inr ⟨HD.out,_,rfl⟩),hW.out⟩
  · have hkk:k=t.size:=(by omega);subst hkk;rw[List.drop_eq_nil_of_le (by omega)] at hdec;have HD:=aac hdec;clear hdec;go_wp2;go_ret2;exact⟨.inl ⟨by rw[HD.out];exact a0,by rw[HD.out];rfl⟩,hW.out⟩
end Go.Proofs.YtiaebhomfebagaaGreatDoor
namespace Go.Proofs.YtiaebhomfebagaaGreatDoor
open Go.RowKit
theorem info5:(Tryz.prog.info? 5).map (fun i=>(i.zero,i.size,i.bytes))=some (some (.int .u8 0),1,1):=by kernel_rfl
def Vars (w:World):Prop:=11≤w.heap.size∧(∃ t p,w.cell? ⟨9,0,none⟩=some (.iface t p))∧(∃ t p,w.cell? ⟨10,0,none⟩=some (.iface t p))
theorem Vars.keep {w w':World}{B:Nat}(h:Vars w)(hb:Below B w w')(hB:11≤B):Vars w':=by
 obtain⟨h1,⟨t,p,h2⟩,t',p',h3⟩:=h;exact⟨Nat.le_trans h1 hb.size,⟨t,p,(hb.cell (p:=⟨9,0,none⟩) (show 9 < B by omega)).trans h2⟩,t',p',(hb.cell (p:=⟨10,0,none⟩) (show 10 < B by omega)).trans h3⟩
theorem aaB (s:ByteArray)(w:World)(hlim:s.size≤1000000000000):
 Calls Tryz.prog 37 #[.string s] w fun e w'=>e=.returned (.string s)∧Below w.heap.size w w':=by
 by_cases h0:s.size=0
 · have hs:s=⟨#[]⟩:=by
    apply ByteArray.ext;exact Array.eq_empty_of_size_eq_zero h0
   subst hs;go_enter Tryz.func37,Tryz.ntmps37;go_wp2;go_ret;exact⟨rfl,Below.refl _ _⟩
 · obtain⟨i0,hi,hz0,hz1,hz2⟩:=info_parts info5;have hinfo:(Tryz.prog.info? 5).map (·.size)=some 1:=by rw[hi];simp[hz1]
   have hco:Tryz.prog.cellsOf 5=1:=(by kernel_rfl);obtain⟨M,hM⟩:∃ M,M=madeCells (Value.int .u8 0).cells (((s.size:Nat):Int).toNat * i0.size):=⟨_,rfl⟩;have hMs:M.size=s.size:=by rw[hM,size_madeCells,hz1];simp
   have hmk:∀ W:World,(Instr.makeSlice 57 (.int .i64 (s.size:Int)) (.int .i64 (s.size:Int))).run Tryz.prog W=.ok (.slice (some ⟨W.heap.size,0,none⟩) s.size s.size) (W.alloc (.cells M 5)):=fun W=>by
    have h:=run_make (P:=Tryz.prog) W 57 5 i0 (.int .u8 0) Tryz.underlying57 hi hz0 .i64 .i64 (s.size:Int) (s.size:Int) (by omega) (by omega) (by rw[hz2];omega) (by omega);rw[← hM] at h
    simpa using h
   clear hM;have hcp:=Lib.run_copy_row_string (P:=Tryz.prog) (w.alloc (.cells M 5)) 57 9 3 5 w.heap.size 0 s.size s.size s M 5 Tryz.underlying57 hinfo (heap_alloc_new w _) (Nat.le_refl _) (by omega);obtain⟨Y,hY⟩:∃ Y,Y=(M.toList.take 0++Lib.byteCells s.data.toList++M.toList.drop (0+s.size)).toArray:=⟨_,rfl⟩;rw[← hY] at hcp
   have hYl:Y.toList=Lib.byteCells s.data.toList:=by
    rw[hY,List.toList_toArray,List.take_zero,List.nil_append,List.drop_of_length_le (by rw[Array.length_toList];omega),List.append_nil]
   have hYs:Y.size=s.size:=(by rw[← Array.length_toList,hYl,Lib.byteCells_length,← Lib.size_eq]);have hgY:((w.alloc (.cells M 5)).setRow w.heap.size Y).heap[w.heap.size]?=some (.cells Y 5 (0,0)):=setRow_heap _ _ M _ 5 (0,0) (heap_alloc_new w _);have hne:s.data.toList≠[]:=fun e=>h0 (by rw[Lib.size_eq,e];rfl)
   have hUS:=Lib.run_unsafeString_row (P:=Tryz.prog) ((w.alloc (.cells M 5)).setRow w.heap.size Y) 91 3 9 5 Tryz.underlying91 hco w.heap.size Y.size (by unfold World.shape?;rw[hgY]) s.data.toList hne (by rw[← Lib.size_eq];omega) (by rw[← Lib.size_eq];omega)
    (fun j x hx=>Lib.cells_of_row hgY Y.size j _ (by rw[List.take_of_length_le (by rw[Array.length_toList];exact Nat.le_refl _),hYl];simp[Lib.byteCells,hx]))
   rw[← Lib.size_eq] at hUS;clear hY;go_enter Tryz.func37,Tryz.ntmps37;go_wp2;go_ret;have hb1:Below w.heap.size w (w.alloc (.cells M 5)):=(Below.refl _ w).alloc (Nat.le_refl _) _;have hb2:Below w.heap.size (w.alloc (.cells M 5)) ((w.alloc (.cells M 5)).setRow w.heap.size Y):=⟨rfl,rfl,rfl,by simp,fun k hk=>setRow_other _ _ _ _ (by omega)⟩;exact⟨rfl,Lib.below_freeze (hb1.trans hb2) (p:=⟨w.heap.size,0,none⟩) (Nat.le_refl _) _⟩
theorem a0M (fn s:ByteArray)(te:TypeId)(pe:Value)(w:World)(hlim:s.size≤1000000000000)(hv:w.cell? ⟨9,0,none⟩=some (.iface te pe)):
 Calls Tryz.prog 197 #[.string fn,.string s] w fun e w'=>∃ n,e=.returned (.pointer (some ⟨n,0,none⟩))∧Below w.heap.size w w':=by
 have hG:9 < w.heap.size:=Lib.lt_of_cell hv;have hvd:w.drew.cell? ⟨9,0,none⟩=some (.iface te pe):=hv;go_enter Tryz.func197,Tryz.ntmps197;go_wp2
 go_region_with (
  go_at_call 37;refine(aaB s _ hlim).mono ?_;rintro e w2 ⟨rfl,hbel⟩;have hv2:w2.cell? ⟨9,0,none⟩=some (.iface te pe):=(hbel.cell (show (⟨9,0,none⟩:Addr).block < w.drew.heap.size from hG)).trans hvd)
 all_goals (
  go_wp2;go_ret;have hs2:w.heap.size≤w2.heap.size:=hbel.size;exact⟨_,rfl,((Below.drew (Below.refl _ w)).trans hbel).alloc hs2 _⟩)
theorem ayz (fn s:ByteArray)(te:TypeId)(pe:Value)(w:World)(hlim:s.size≤1000000000000)(hv:w.cell? ⟨10,0,none⟩=some (.iface te pe)):
 Calls Tryz.prog 198 #[.string fn,.string s] w fun e w'=>∃ n,e=.returned (.pointer (some ⟨n,0,none⟩))∧Below w.heap.size w w':=by
 have hG:10 < w.heap.size:=Lib.lt_of_cell hv;have hvd:w.drew.cell? ⟨10,0,none⟩=some (.iface te pe):=hv;go_enter Tryz.func198,Tryz.ntmps198;go_wp2
 go_region_with (
  go_at_call 37;refine(aaB s _ hlim).mono ?_;rintro e w2 ⟨rfl,hbel⟩;have hv2:w2.cell? ⟨10,0,none⟩=some (.iface te pe):=(hbel.cell (show (⟨10,0,none⟩:Addr).block < w.drew.heap.size from hG)).trans hvd)
 all_goals (
  go_wp2;go_ret;have hs2:w.heap.size≤w2.heap.size:=hbel.size;exact⟨_,rfl,((Below.drew (Below.refl _ w)).trans hbel).alloc hs2 _⟩)
theorem c91:(Tryz.prog.info? 261).map (·.comparable)=some true:=by kernel_rfl
theorem aqG (fn s:ByteArray)(base bits:Int)(w:World)(hlim:s.size≤1000000000000)(hV:Vars w):
 Calls Tryz.prog 191 #[.string fn,.string s,.int .i64 base,.int .i64 bits,.iface 261 (.int .i64 2)] w fun e w'=>∃ n,e=.returned (.iface 263 (.pointer (some ⟨n,0,none⟩)))∧Below w.heap.size w w':=by
 have heq:∀ W,(binOp .eql 86 (.iface 261 (.int .i64 2)) (.iface 261 (.int .i64 2))).run Tryz.prog W=.ok (.bool true) W:=fun W=>Lib.run_eql_iface_int W 2 2 Tryz.underlying86 c91 Tryz.underlying261;obtain⟨_,⟨te,pe,hv⟩,_⟩:=hV;go_enter Tryz.func191,Tryz.ntmps191;go_wp2_with (go_at_call 197;refine(a0M fn s te pe _ hlim hv).mono ?_);rintro e w2 ⟨n,rfl,h3⟩;go_wp2;go_ret;exact⟨n,rfl,h3⟩
theorem arB (fn s:ByteArray)(base bits:Int)(w:World)(hlim:s.size≤1000000000000)(hV:Vars w):
 Calls Tryz.prog 191 #[.string fn,.string s,.int .i64 base,.int .i64 bits,.iface 261 (.int .i64 1)] w fun e w'=>∃ n,e=.returned (.iface 263 (.pointer (some ⟨n,0,none⟩)))∧Below w.heap.size w w':=by
 have heq:∀ W,(binOp .eql 86 (.iface 261 (.int .i64 1)) (.iface 261 (.int .i64 1))).run Tryz.prog W=.ok (.bool true) W:=fun W=>Lib.run_eql_iface_int W 1 1 Tryz.underlying86 c91 Tryz.underlying261;have heq2:∀ W,(binOp .eql 86 (.iface 261 (.int .i64 1)) (.iface 261 (.int .i64 2))).run Tryz.prog W=.ok (.bool false) W:=fun W=>Lib.run_eql_iface_int W 1 2 Tryz.underlying86 c91 Tryz.underlying261;obtain⟨_,_,te,pe,hv⟩:=hV;go_enter Tryz.func191,Tryz.ntmps191;go_wp2_with (go_at_call 198;refine(ayz fn s te pe _ hlim hv).mono ?_);rintro e w2 ⟨n,rfl,h3⟩;go_wp2;go_ret;exact⟨n,rfl,h3⟩
def auQ (x:Int)(w:World)(e:Ending)(w':World):Prop:=
 ((0≤x∧e=.returned (.tuple #[.int .u64 x,.nilIface]))∨(x= -1∧∃ (y:Int) (n:Nat),e=.returned (.tuple #[.int .u64 y,.iface 263 (.pointer (some ⟨n,0,none⟩))])))∧Below w.heap.size w w'
theorem avR (t:ByteArray)(b x:Int)(w:World)(hlim:t.size≤1000000000000)(hV:Vars w)(C:Hid (Calls Tryz.prog 190 #[.string t,.int .i64 b,.int .i64 31] w (ajU x w))):
 Calls Tryz.prog 184 #[.string t,.int .i64 b,.int .i64 31] w (auQ x w):=by
 go_enter Tryz.func184,Tryz.ntmps184;go_wp2_with (go_at_call 190;refine C.out.mono ?_);rintro e w1 ⟨h,hb⟩;have hV1:=hV.keep hb hV.1;clear C hV;rcases h with ⟨h0,rfl⟩ | ⟨h0,y,rfl⟩ | ⟨h0,y,rfl⟩
 · have HX:=aac h0;clear h0;go_wp2;go_ret2;exact⟨.inl ⟨HX.out,rfl⟩,hb⟩
 · have HX:=aac h0;clear h0;go_wp2_with (go_at_call 191;refine(arB _ _ _ _ _ hlim hV1).mono ?_);rintro e w2 ⟨n,rfl,hb2⟩;go_wp2;go_ret2;exact⟨.inr ⟨HX.out,y,n,rfl⟩,hb.trans (hb2.mono hb.size)⟩
 · have HX:=aac h0;clear h0;go_wp2_with (go_at_call 191;refine(aqG _ _ _ _ _ hlim hV1).mono ?_);rintro e w2 ⟨n,rfl,hb2⟩;go_wp2;go_ret2;exact⟨.inr ⟨HX.out,y,n,rfl⟩,hb.trans (hb2.mono hb.size)⟩
theorem a3x (t:ByteArray)(b:Int)(hb:b=10∨b=16)(hs:t.size≤1000000000000)(w:World):
 Calls Tryz.prog 190 #[.string t,.int .i64 b,.int .i64 31] w (ajU (if t.size=0 then -1 else ajp b (aad t) 0) w):=by
 by_cases h0:t.size=0
 · rw[if_pos h0]
   have hs:t=⟨#[]⟩:=by
    apply ByteArray.ext;exact Array.eq_empty_of_size_eq_zero h0
   subst hs;exact aug b w
 · rw[if_neg h0];rcases hb with rfl | rfl
   · exact a4U t h0 hs w
   · exact a5P t h0 hs w
theorem ajR (t:ByteArray)(b:Int)(hb:b=10∨b=16)(w:World)(hs:t.size≤1000000000000)(hV:Vars w):
 Calls Tryz.prog 184 #[.string t,.int .i64 b,.int .i64 31] w (auQ (if t.size=0 then -1 else ajp b (aad t) 0) w):=
 avR t b _ w hs hV (aac (a3x t b hb hs w))
end Go.Proofs.YtiaebhomfebagaaGreatDoor
namespace Go.Proofs.YtiaebhomfebagaaGreatDoor
open Go.RowKit
theorem Tryz.info5:(Tryz.prog.info? 5).map (fun i=>(i.zero,i.size,i.bytes))=some (some (.int .u8 0),1,1):=by kernel_rfl
def agn (w:World)(B:Nat)(v:Value)(l:List Int):Prop:=w.ownsRow B 5 1 v l.length (l.map (Value.int .u8))
theorem aeD {w w':World}{B:Nat}{v v':Value}{xs ys:List Int}{o:Obj}(hB:B≤w.heap.size)(hown:agn w B v xs)
 (h:w'.ownsRow B 5 1 v' (xs.length+ys.length) (xs.map (Value.int .u8)++ys.map (Value.int .u8))) (hg:(w.alloc o).grownBy w' v.ownBlock):agn w' B v' (xs++ys)∧Below B w w':=by
 refine⟨?_,?_⟩
 · unfold agn;rw[List.map_append,List.length_append];exact h
 · exact((Below.refl B w).alloc hB o).grown hg (by simp;omega) (fun g hg=>(World.ownsRow.lt hown g hg).1)
theorem apn (w:World)(t:TypeId)(cs:Array Value)(i:Nat):(w.alloc (.cells cs t)).cell? ⟨w.heap.size,i,none⟩=cs[i]?:=cell_of_row _ _ i cs t (0,0) (heap_alloc_new w _)
theorem abE (w:World)(cs:Array Value)(e:TypeId):∀ (j:Nat) (u:Value),cs.toList[j]?=some u→(w.alloc (.cells cs e)).cell? ((⟨w.heap.size,0,none⟩:Addr).add j)=some u:=by
 intro j u h;have hc:=(apn w e cs) j;unfold Addr.add;by_cases h0:j=0
 · subst h0
   simpa [hc] using h
 · simpa [h0,hc] using h
end Go.Proofs.YtiaebhomfebagaaGreatDoor
