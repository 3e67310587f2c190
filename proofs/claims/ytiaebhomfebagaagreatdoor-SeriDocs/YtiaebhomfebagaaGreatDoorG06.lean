/- Lemmas of the claim. -/
import Derived.Test.YtiaebhomfebagaaGreatDoorG05
import Derived.Test.YtiaebhomfebagaaGreatDoorG02
import Derived.Test.YtiaebhomfebagaaGreatDoorG04
import Derived.Test.YtiaebhomfebagaaGreatDoorRows
import Derived.Deep.QuietTactic
import Derived.BigQuiet
import Derived.Deep.RegionHeld3
import Derived.Deep.RegionWith
import Derived.Laws.OwnMore
import Derived.Lib.ItoaNum
import Derived.Shelf.Strconv.Itoa3
import Derived.Lib.AppendIntMem
import Derived.Stop.LaidErr
import Derived.Deep.Cut
set_option maxHeartbeats 4000000
set_option maxRecDepth 100000
set_option linter.unusedSimpArgs false
set_option linter.unusedVariables false
namespace Go.Proofs.YtiaebhomfebagaaGreatDoor.Ev
open Go.RowKit
theorem below_drewN {B:Nat}{w w':World}(h:Below B w w')(n:Nat):Below B w (w'.drewN n):=⟨h.os,h.tape,h.output,h.size,h.block⟩
def eqn (x y:P2):Bool:=(x.1.toList == y.1.toList) && (x.2.toList == y.2.toList)
def goA (nm:P2→Bool)(tR:ByteArray→Bool):List P2→List P3→Bool
 | _,[]=>true
 | seen,x :: r=>nm x.1 && tR x.2 && !(seen.any fun y=>eqn y x.1) && goA nm tR (seen++[x.1]) r
def emp (s:ByteArray):Bool:=s.toList.isEmpty
theorem a6p (a b:ByteArray):(a.toList.isEmpty=true∧b.toList.isEmpty=true)∨(a.toList.isEmpty=true∧b.toList.isEmpty=false)∨a.toList.isEmpty=false:=by
 cases a.toList.isEmpty <;> cases b.toList.isEmpty <;> simp
def acR (x:RE):Bool:=emp x.sp && emp x.lo && (x.ats.length == 0)
def aao (pL tR:ByteArray→Bool)(x:RE):Bool:=
 if x.kind=2 then acR x && !emp x.tx && tR x.tx
 else if x.kind=3 then acR x && emp x.tx
 else if x.kind≠1∨emp x.tx=false∨nmF pL tR (x.sp,x.lo)=false∨32 < x.ats.length then false
 else goA (nmF pL tR) tR [] x.ats
theorem go_step {nm:P2→Bool}{tR:ByteArray→Bool}{l:List P3}{i:Nat}{x:P3}(hx:l[i]?=some x):goA nm tR ((l.take i).map (·.1)) (l.drop i)=(nm x.1 && tR x.2 && !(((l.take i).map (·.1)).any fun y=>eqn y x.1) && goA nm tR ((l.take (i+1)).map (·.1)) (l.drop (i+1))):=by
 have hlt:=(List.getElem?_eq_some_iff.1 hx).1
 have hd:l.drop i=x :: l.drop (i+1):=by
  rw[List.drop_eq_getElem_cons hlt];have:=(List.getElem?_eq_some_iff.1 hx).2;rw[this]
 have ht:(l.take (i+1)).map (·.1)=(l.take i).map (·.1)++[x.1]:=by rw[List.take_add_one,hx];simp
 rw[hd,ht];rfl
structure RgB (x:RE):Prop where
 sp:x.sp.size≤10000
 lo:x.lo.size≤10000
 tx:x.tx.size≤10000
 at_:x.ats.length≤32→∀ y∈x.ats,y.1.1.size≤10000∧y.1.2.size≤10000∧y.2.size≤10000
end Go.Proofs.YtiaebhomfebagaaGreatDoor.Ev
namespace Go.Proofs.YtiaebhomfebagaaGreatDoor.Ev
open Go.RowKit
def ady (R:RE→Bool):Bool→Int→Int→List RE→Int
 | _,_,n,[]=>n
 | first,pk,n,x :: r=>
   if R x=false∨(n == 0)≠first∨(first=true∧x.kind≠1) then -1
   else if x.kind=2∧pk=2 then -1
   else
    let m:=if x.kind=1 then n+1 else if x.kind=3 then n - 1 else n
    if 64 < m then -1 else ady R false x.kind m r
def aha (pL tR:ByteArray→Bool)(l:List RE):Int:=ady (aao pL tR) true 0 0 l
theorem aoe {pL tR:ByteArray→Bool}{x:RE}(h:aao pL tR x=true):x.kind=1∨x.kind=2∨x.kind=3:=by
 by_cases h2:x.kind=2
 · exact .inr (.inl h2)
 by_cases h3:x.kind=3
 · exact .inr (.inr h3)
 by_cases h1:x.kind=1
 · exact .inl h1
 unfold aao at h;rw[if_neg h2,if_neg h3,if_pos (.inl h1)] at h;cases h
def prevK (l:List RE)(k:Nat):Int:=((l[k - 1]?).map (·.kind)).getD 0
def a5N (F:Int)(R:RE→Bool)(l:List RE)(n:Nat)(w:World)(vn i:Value)(wr:World):Prop:=
 ∃ k m:Nat,i=.int .i64 k∧vn=.int .i64 m∧k≤n∧m≤64∧(k=0→m=0)∧Hid (Below w.heap.size w wr)∧Hid (F=ady R (decide (k=0)) (prevK l k) m (l.drop k))
theorem acL {R:RE→Bool}{l:List RE}{k:Nat}{x:RE}(hx:l[k]?=some x)(b:Bool)(p m:Int):ady R b p m (l.drop k)=if R x=false∨(m == 0)≠b∨(b=true∧x.kind≠1) then -1 else if x.kind=2∧p=2 then -1 else if 64 < (if x.kind=1 then m+1 else if x.kind=3 then m - 1 else m) then -1 else ady R (decide (k+1=0)) (prevK l (k+1)) (if x.kind=1 then m+1 else if x.kind=3 then m - 1 else m) (l.drop (k+1)):=by
 have hlt:=(List.getElem?_eq_some_iff.1 hx).1
 have hd:l.drop k=x :: l.drop (k+1):=by
  rw[List.drop_eq_getElem_cons hlt];have:=(List.getElem?_eq_some_iff.1 hx).2;rw[this]
 have hp:prevK l (k+1)=x.kind:=by unfold prevK;rw[Nat.add_sub_cancel,hx];rfl
 have hf:decide (k+1=0)=false:=(by simp);rw[hd,hp,hf];rfl
end Go.Proofs.YtiaebhomfebagaaGreatDoor.Ev
namespace Go.Proofs.YtiaebhomfebagaaGreatDoor.Ev
theorem amv {R:RE→Bool}{b:Bool}{p n:Int}{x:RE}{r:List RE}(hn:0≤n)(hb:b=true→n=0):
 ady R b p n (x :: r)= -1∨(R x=true∧((n == 0)=b)∧∃ m,0≤m∧m≤64∧(m=if x.kind=1 then n+1 else if x.kind=3 then n - 1 else n)∧∀ s,ady R b p n (x :: s)=ady R false x.kind m s):=by
 by_cases q:R x=false∨(n == 0)≠b∨(b=true∧x.kind≠1)
 · left;show (if _ then _ else _)=_;rw[if_pos q]
 by_cases q2:x.kind=2∧p=2
 · left;show (if _ then _ else _)=_;rw[if_neg q,if_pos q2]
 by_cases q3:64 < (if x.kind=1 then n+1 else if x.kind=3 then n - 1 else n)
 · left;show (if _ then _ else if _ then _ else if 64 < (if x.kind=1 then n+1 else if x.kind=3 then n - 1 else n) then _ else _)=_;rw[if_neg q,if_neg q2,if_pos q3]
 right
 have h1:R x=true:=by
  cases h:R x
  · exact absurd (.inl h) q
  · rfl
 have h2:(n == 0)=b:=Decidable.not_not.1 fun h=>q (.inr (.inl h));refine⟨h1,h2,_,?_,by omega,rfl,fun s=> ?_⟩
 · split
   · omega
   · split
     · rename_i k1 k3
       have hb0:b=false:=by
        cases b
        · rfl
        · exact absurd (.inr (.inr ⟨rfl,k1⟩)) q
       rw[hb0] at h2;have:n≠0:=(by simpa using h2);omega
     · exact hn
 · show (if _ then _ else if _ then _ else if 64 < (if x.kind=1 then n+1 else if x.kind=3 then n - 1 else n) then _ else _)=_;rw[if_neg q,if_neg q2,if_neg q3]
end Go.Proofs.YtiaebhomfebagaaGreatDoor.Ev
namespace Go.Proofs.YtiaebhomfebagaaGreatDoor.Ev
open Go.RowKit
def eq3 (a b:P3):Bool:=eqn a.1 b.1 && (a.2.toList == b.2.toList)
theorem a3m {l m:List P3}{k:Nat}{x y:P3}(hx:l[k]?=some x)(hy:m[k]?=some y)(h:eq3 x y=false):((l.zip m).all fun p=>eq3 p.1 p.2)=false:=by
 rw[List.all_eq_false];refine⟨(x,y),List.mem_of_getElem? (i:=k) ?_,by rw[h];decide⟩;rw[List.getElem?_zip_eq_some];exact⟨hx,hy⟩
theorem axZ {l m:List P3}(h:∀ (k:Nat) x y,k < l.length→l[k]?=some x→m[k]?=some y→eq3 x y=true):((l.zip m).all fun p=>eq3 p.1 p.2)=true:=by
 rw[List.all_eq_true];rintro ⟨x,y⟩ hp;obtain⟨k,hk⟩:=List.getElem?_of_mem hp;rw[List.getElem?_zip_eq_some] at hk;exact h k x y (List.getElem?_eq_some_iff.1 hk.1).1 hk.1 hk.2
def a5L (l m:List P3)(n:Nat)(W0:World)(i:Value)(wr:World):Prop:=
 ∃ k:Nat,i=.int .i64 k∧k≤n∧Hid (Below W0.heap.size W0 wr)∧Hid (∀ (j:Nat) x y,j < k→l[j]?=some x→m[j]?=some y→eq3 x y=true)
end Go.Proofs.YtiaebhomfebagaaGreatDoor.Ev
namespace Go.Proofs.YtiaebhomfebagaaGreatDoor.Ev
open Go.RowKit
def emB:ByteArray:=⟨#[]⟩
def clE:RE:=⟨3,emB,emB,[],emB⟩
def a5f (W:World)(B:Nat)(v:Value)(l:List Int):Prop:=W.ownsRow B 3 1 v l.length (l.map (Value.int .i64))
end Go.Proofs.YtiaebhomfebagaaGreatDoor.Ev
namespace Go.Proofs.YtiaebhomfebagaaGreatDoor.Ev
open Go.RowKit
inductive Fo where
 | nil:Fo
 | cons (t:Bool) (tx sp lo:ByteArray) (ats:List P3) (ks nx:Fo):Fo
def Fo.len:Fo→Nat
 | .nil=>0
 | .cons _ _ _ _ _ _ nx=>nx.len+1
def Fo.app:Fo→Fo→Fo
 | .nil,g=>g
 | .cons t tx sp lo ats ks nx,g=>.cons t tx sp lo ats ks (nx.app g)
def Fo.drop:Nat→Fo→Fo
 | 0,f=>f
 | _+1,.nil=>.nil
 | k+1,.cons _ _ _ _ _ _ nx=>Fo.drop k nx
def Fo.take:Nat→Fo→Fo
 | 0,_=>.nil
 | _+1,.nil=>.nil
 | k+1,.cons t tx sp lo ats ks nx=>.cons t tx sp lo ats ks (Fo.take k nx)
def Fo.evs:Fo→List RE
 | .nil=>[]
 | .cons t tx sp lo ats ks nx=>(if t=true then [⟨2,emB,emB,[],tx⟩] else ⟨1,sp,lo,ats,emB⟩ :: (ks.evs++[clE]))++nx.evs
def Fo.cnt:Fo→Nat
 | .nil=>0
 | .cons t _ _ _ _ ks nx=>(if t=true then 1 else 1+ks.cnt)+nx.cnt
def Fo.siz:Fo→Nat
 | .nil=>0
 | .cons _ _ _ _ _ ks nx=>1+ks.siz+nx.siz
def Fo.pln:Fo→Fo
 | .nil=>.nil
 | .cons t tx sp lo ats ks nx=>if t=true then .cons true tx emB emB [] .nil nx.pln else .cons false emB sp lo ats ks.pln nx.pln
theorem arx:∀ f g:Fo,(f.app g).evs=f.evs++g.evs
 | .nil,g=>rfl
 | .cons t tx sp lo ats ks nx,g=>by rw[Fo.app,Fo.evs,Fo.evs,arx nx g,List.append_assoc]
theorem ahJ:∀ (k:Nat) (f:Fo),(f.drop k).len=f.len - k
 | 0,f=>rfl
 | k+1,.nil=>by rw[Fo.drop,Fo.len,Nat.zero_sub]
 | k+1,.cons t tx sp lo ats ks nx=>by rw[Fo.drop,Fo.len,ahJ k nx];omega
theorem aei:∀ (k:Nat) (f:Fo),(f.take k).app (f.drop k)=f
 | 0,f=>by cases f <;> rfl
 | k+1,.nil=>rfl
 | k+1,.cons t tx sp lo ats ks nx=>by rw[Fo.take,Fo.drop,Fo.app,aei k nx]
theorem amN:∀ (f:Fo),f.drop f.len=.nil
 | .nil=>rfl
 | .cons t tx sp lo ats ks nx=>by rw[Fo.len,Fo.drop,amN nx]
theorem afI:∀ (f:Fo),f.take f.len=f
 | .nil=>rfl
 | .cons t tx sp lo ats ks nx=>by rw[Fo.len,Fo.take,afI nx]
theorem ahW:∀ {f:Fo},f.len=0→f=.nil
 | .nil,_=>rfl
 | .cons _ _ _ _ _ _ _,h=>by rw[Fo.len] at h;omega
theorem drop_cons:∀ {k:Nat} {f:Fo},k < f.len→∃ t tx sp lo ats ks,f.drop k=.cons t tx sp lo ats ks (f.drop (k+1))∧f.take (k+1)=(f.take k).app (.cons t tx sp lo ats ks .nil)
 | 0,.nil,h=>by rw[Fo.len] at h;omega
 | 0,.cons t tx sp lo ats ks nx,_=>⟨t,tx,sp,lo,ats,ks,by cases nx <;> rfl,by cases nx <;> rfl⟩
 | k+1,.nil,h=>by rw[Fo.len] at h;omega
 | k+1,.cons t tx sp lo ats ks nx,h=>by
   rw[Fo.len] at h;obtain⟨t',tx',sp',lo',ats',ks',e1,e2⟩:=drop_cons (k:=k) (f:=nx) (by omega);exact⟨t',tx',sp',lo',ats',ks',by rw[Fo.drop,e1];rfl,by rw[Fo.take,e2];rfl⟩
theorem amQ {s:ByteArray}(h:emp s=true):s=emB:=by
 unfold emp at h;rw[Lib.toList_data] at h
 cases s with
 | mk d=>
   unfold emB;have:d.toList=[]:=(by simpa using h);rw[Array.toList_eq_nil_iff.1 this]
theorem aif {x:RE}(h:acR x=true):x.sp=emB∧x.lo=emB∧x.ats=[]:=by
 unfold acR at h;simp only[Bool.and_eq_true,beq_iff_eq] at h;exact⟨amQ h.1.1,amQ h.1.2,List.eq_nil_of_length_eq_zero h.2⟩
theorem ahp {pL tR:ByteArray→Bool}{x:RE}(h:aao pL tR x=true):(x=⟨1,x.sp,x.lo,x.ats,emB⟩)∨(x=⟨2,emB,emB,[],x.tx⟩)∨x=clE:=by
 obtain⟨k,sp,lo,ats,tx⟩:=x;by_cases h2:k=2
 · subst h2;unfold aao at h;rw[if_pos rfl] at h;simp only[Bool.and_eq_true] at h;obtain⟨e1,e2,e3⟩:=aif h.1.1;dsimp only at e1 e2 e3;subst e1 e2 e3;exact .inr (.inl rfl)
 by_cases h3:k=3
 · subst h3;unfold aao at h;rw[if_neg (show ¬ (3:Int)=2 by decide),if_pos rfl] at h;simp only[Bool.and_eq_true] at h;obtain⟨e1,e2,e3⟩:=aif h.1;have e4:=amQ h.2;dsimp only at e1 e2 e3 e4;subst e1 e2 e3 e4;exact .inr (.inr rfl)
 by_cases h1:k=1
 · subst h1;unfold aao at h;rw[if_neg (show ¬ (1:Int)=2 by decide),if_neg (show ¬ (1:Int)=3 by decide)] at h;by_cases ht:emp tx=true
   · have:=amQ ht;subst this;exact .inl rfl
   · rw[if_pos (.inr (.inl (by simpa using ht)))] at h;cases h
 · unfold aao at h;rw[if_neg h2,if_neg h3,if_pos (.inl h1)] at h;cases h
theorem adR {pL tR:ByteArray→Bool}:∀ (l:List RE) (p:Int) (n:Nat),1≤n→ady (aao pL tR) false p n l=0→∃ fs:List Fo,fs.length=n∧(∀ f∈fs,f.pln=f)∧l=fs.flatMap fun f=>f.evs++[clE]
 | [],p,n,hn,h=>by
   have h:(n:Int)=0:=h;omega
 | x :: r,p,n,hn,h=>by
   rcases amv (R:=aao pL tR) (b:=false) (p:=p) (n:=(n:Int)) (x:=x) (r:=r) (by omega) (fun h=>by cases h) with h' | ⟨hR,_,m,h0,_,hm,hd⟩
   · rw[h'] at h;cases h
   · have hr:=hd r;rw[h] at hr;rcases ahp hR with e | e | e
     · have hk:x.kind=1:=(by rw[e]);rw[if_pos hk] at hm;obtain⟨fs,hl,hp,he⟩:=adR r x.kind (n+1) (by omega) (by rw[← hm.trans (by omega:(n:Int)+1=((n+1:Nat):Int))];exact hr.symm)
       match fs,hl with
       | f0 :: f1 :: fs,hl=>
         refine⟨.cons false emB x.sp x.lo x.ats f0 f1 :: fs,by simpa using hl,fun f hf=> ?_,?_⟩
         · rcases List.mem_cons.1 hf with rfl | hf
           · rw[Fo.pln,if_neg (by decide),hp f0 (by simp),hp f1 (by simp)]
           · exact hp f (by simp[hf])
         · rw[he,e];simp[Fo.evs]
       | [_],hl=>simp at hl;omega
       | [],hl=>simp at hl
     · have hk:x.kind=2:=(by rw[e]);rw[if_neg (by omega),if_neg (by omega)] at hm;obtain⟨fs,hl,hp,he⟩:=adR r x.kind n hn (by rw[← hm];exact hr.symm)
       match fs,hl with
       | f0 :: fs,hl=>
         refine⟨.cons true x.tx emB emB [] .nil f0 :: fs,by simpa using hl,fun f hf=> ?_,?_⟩
         · rcases List.mem_cons.1 hf with rfl | hf
           · rw[Fo.pln,if_pos rfl,hp f0 (by simp)]
           · exact hp f (by simp[hf])
         · rw[he,e];simp[Fo.evs]
       | [],hl=>simp at hl;omega
     · have hk:x.kind=3:=by rw[e];rfl
       rw[if_neg (by omega),if_pos hk] at hm;by_cases h1:n=1
       · subst h1;have hm0:m=0:=(by omega);rw[hm0] at hr
         cases r with
         | nil=>exact⟨[.nil],rfl,fun f hf=>by simp at hf;rw[hf];rfl,by rw[e];simp[Fo.evs]⟩
         | cons y r=>
           rw[ady,if_pos (.inr (.inl (by decide)))] at hr;cases hr
       · obtain⟨fs,hl,hp,he⟩:=adR r x.kind (n - 1) (by omega) (by rw[← hm.trans (by omega:(n:Int) - 1=((n - 1:Nat):Int))];exact hr.symm);refine⟨.nil :: fs,by rw[List.length_cons,hl];omega,fun f hf=> ?_,?_⟩
         · rcases List.mem_cons.1 hf with rfl | hf
           · rfl
           · exact hp f hf
         · rw[he,e];simp[Fo.evs]
theorem anc {pL tR:ByteArray→Bool}{l:List RE}(h:aha pL tR l=0)(hl:l≠[]):∃ sp lo ats ks,l=(Fo.cons false emB sp lo ats ks .nil).evs∧Fo.pln ks=ks:=by
 cases l with
 | nil=>exact absurd rfl hl
 | cons x r=>
   have h:ady (aao pL tR) true 0 0 (x :: r)=0:=h
   have hx:x.kind=1:=by
    rw[ady] at h;by_cases q:aao pL tR x=false∨((0:Int) == 0)≠true∨(true=true∧x.kind≠1)
    · rw[if_pos q] at h;cases h
    · exact Decidable.not_not.1 fun e=>q (.inr (.inr ⟨rfl,e⟩))
   rcases amv (R:=aao pL tR) (b:=true) (p:=0) (n:=0) (x:=x) (r:=r) (by omega) (fun _=>rfl) with h' | ⟨hR,_,m,h0,_,hm,hd⟩
   · rw[h'] at h;cases h
   · have hr:=hd r;rw[h] at hr;rw[if_pos hx] at hm;obtain⟨fs,hl,hp,he⟩:=adR r x.kind 1 (by omega) (by rw[show ((1:Nat):Int)=m by omega];exact hr.symm)
     match fs,hl with
     | [f0],_=>
       refine⟨x.sp,x.lo,x.ats,f0,?_,hp f0 (by simp)⟩;rcases ahp hR with e | e | e
       · rw[he,Fo.evs,if_neg (by decide),← e];simp[Fo.evs]
       · rw[e] at hx;cases hx
       · rw[e] at hx;cases hx
end Go.Proofs.YtiaebhomfebagaaGreatDoor.Ev
namespace Go.Proofs.YtiaebhomfebagaaGreatDoor
def agZ (v:Bool)(b:Int):List Int:=
 if b=38 then [38,97,109,112,59] else if b=60 then [38,108,116,59] else if b=62 then [38,103,116,59] else if b=13 then [38,35,120,68,59]
 else if v=true∧b=34 then [38,113,117,111,116,59] else if v=true∧b=9 then [38,35,120,57,59] else if v=true∧b=10 then [38,35,120,65,59] else [b]
def aaO (v:Bool)(l:List Int):List Int:=l.flatMap (agZ v)
end Go.Proofs.YtiaebhomfebagaaGreatDoor
namespace Go.Proofs.YtiaebhomfebagaaGreatDoor
open Go.RowKit
theorem ave (B b:Nat)(v:Bool)(bs:List Int)(w:World)(hg:Gat B b v bs w)(hB:B≤w.heap.size)(hl:bs.length≤1000000000000):
 Calls Tryz.prog 81 #[.pointer (some ⟨b,0,none⟩),.int .u8 38] w fun e w'=>e=.returned (.tuple #[])∧Gat B b v (bs++[38,97,109,112,59]) w'∧Below B w w':=by
 have hv:=hg.value;have CW:=aac (acw B b v bs ⟨#[38,97,109,112,59]⟩ w hg hB hl (by decide) (by decide));clear hg;go_enter Tryz.func81,Tryz.ntmps81;go_wp2_with fail;refine CW.out.mono ?_;rintro e w1 ⟨rfl,h,hb⟩;have H:=aac h;clear h CW;go_wp2
 go_end0
 exact⟨rfl,H.out,hb⟩
theorem a0i (B b:Nat)(v:Bool)(bs:List Int)(w:World)(hg:Gat B b v bs w)(hB:B≤w.heap.size)(hl:bs.length≤1000000000000):
 Calls Tryz.prog 81 #[.pointer (some ⟨b,0,none⟩),.int .u8 60] w fun e w'=>e=.returned (.tuple #[])∧Gat B b v (bs++[38,108,116,59]) w'∧Below B w w':=by
 have hv:=hg.value;have CW:=aac (acw B b v bs ⟨#[38,108,116,59]⟩ w hg hB hl (by decide) (by decide));clear hg;go_enter Tryz.func81,Tryz.ntmps81;go_wp2_with fail;refine CW.out.mono ?_;rintro e w1 ⟨rfl,h,hb⟩;have H:=aac h;clear h CW;go_wp2
 go_end0
 exact⟨rfl,H.out,hb⟩
theorem ayf (B b:Nat)(v:Bool)(bs:List Int)(w:World)(hg:Gat B b v bs w)(hB:B≤w.heap.size)(hl:bs.length≤1000000000000):
 Calls Tryz.prog 81 #[.pointer (some ⟨b,0,none⟩),.int .u8 62] w fun e w'=>e=.returned (.tuple #[])∧Gat B b v (bs++[38,103,116,59]) w'∧Below B w w':=by
 have hv:=hg.value;have CW:=aac (acw B b v bs ⟨#[38,103,116,59]⟩ w hg hB hl (by decide) (by decide));clear hg;go_enter Tryz.func81,Tryz.ntmps81;go_wp2_with fail;refine CW.out.mono ?_;rintro e w1 ⟨rfl,h,hb⟩;have H:=aac h;clear h CW;go_wp2
 go_end0
 exact⟨rfl,H.out,hb⟩
theorem a0e (B b:Nat)(v:Bool)(bs:List Int)(w:World)(hg:Gat B b v bs w)(hB:B≤w.heap.size)(hl:bs.length≤1000000000000):
 Calls Tryz.prog 81 #[.pointer (some ⟨b,0,none⟩),.int .u8 13] w fun e w'=>e=.returned (.tuple #[])∧Gat B b v (bs++[38,35,120,68,59]) w'∧Below B w w':=by
 have hv:=hg.value;have CW:=aac (acw B b v bs ⟨#[38,35,120,68,59]⟩ w hg hB hl (by decide) (by decide));clear hg;go_enter Tryz.func81,Tryz.ntmps81;go_wp2_with fail;refine CW.out.mono ?_;rintro e w1 ⟨rfl,h,hb⟩;have H:=aac h;clear h CW;go_wp2
 go_end0
 exact⟨rfl,H.out,hb⟩
theorem arQ (B b:Nat)(v:Bool)(bs:List Int)(w:World)(hg:Gat B b true bs w)(hB:B≤w.heap.size)(hl:bs.length≤1000000000000):
 Calls Tryz.prog 81 #[.pointer (some ⟨b,0,none⟩),.int .u8 34] w fun e w'=>e=.returned (.tuple #[])∧Gat B b true (bs++[38,113,117,111,116,59]) w'∧Below B w w':=by
 have hv:=hg.value;have CW:=aac (acw B b true bs ⟨#[38,113,117,111,116,59]⟩ w hg hB hl (by decide) (by decide));clear hg;go_enter Tryz.func81,Tryz.ntmps81;go_wp2_with fail;refine CW.out.mono ?_;rintro e w1 ⟨rfl,h,hb⟩;have H:=aac h;clear h CW;go_wp2
 go_end0
 exact⟨rfl,H.out,hb⟩
theorem aus (B b:Nat)(v:Bool)(bs:List Int)(w:World)(hg:Gat B b true bs w)(hB:B≤w.heap.size)(hl:bs.length≤1000000000000):
 Calls Tryz.prog 81 #[.pointer (some ⟨b,0,none⟩),.int .u8 9] w fun e w'=>e=.returned (.tuple #[])∧Gat B b true (bs++[38,35,120,57,59]) w'∧Below B w w':=by
 have hv:=hg.value;have CW:=aac (acw B b true bs ⟨#[38,35,120,57,59]⟩ w hg hB hl (by decide) (by decide));clear hg;go_enter Tryz.func81,Tryz.ntmps81;go_wp2_with fail;refine CW.out.mono ?_;rintro e w1 ⟨rfl,h,hb⟩;have H:=aac h;clear h CW;go_wp2
 go_end0
 exact⟨rfl,H.out,hb⟩
theorem azV (B b:Nat)(v:Bool)(bs:List Int)(w:World)(hg:Gat B b true bs w)(hB:B≤w.heap.size)(hl:bs.length≤1000000000000):
 Calls Tryz.prog 81 #[.pointer (some ⟨b,0,none⟩),.int .u8 10] w fun e w'=>e=.returned (.tuple #[])∧Gat B b true (bs++[38,35,120,65,59]) w'∧Below B w w':=by
 have hv:=hg.value;have CW:=aac (acw B b true bs ⟨#[38,35,120,65,59]⟩ w hg hB hl (by decide) (by decide));clear hg;go_enter Tryz.func81,Tryz.ntmps81;go_wp2_with fail;refine CW.out.mono ?_;rintro e w1 ⟨rfl,h,hb⟩;have H:=aac h;clear h CW;go_wp2
 go_end0
 exact⟨rfl,H.out,hb⟩
theorem a1D (B b:Nat)(bs:List Int)(c:Int)(w:World)(hg:Gat B b false bs w)(hB:B≤w.heap.size)(hl:bs.length≤1000000000000)(h0:0≤c)(h1:c≤255)
 (t1:(c == 38)=false) (t2:(c == 60)=false) (t3:(c == 62)=false) (t4:(c == 13)=false):
 Calls Tryz.prog 81 #[.pointer (some ⟨b,0,none⟩),.int .u8 c] w fun e w'=>e=.returned (.tuple #[])∧Gat B b false (bs++[c]) w'∧Below B w w':=by
 have hv:=hg.value;have CW:=aac (aeZ B b false bs c w hg hB hl h0 h1);clear hg;go_enter Tryz.func81,Tryz.ntmps81;go_wp2_with fail;refine CW.out.mono ?_;rintro e w1 ⟨rfl,h,hb⟩;have H:=aac h;clear h CW;go_wp2
 go_end0
 exact⟨rfl,H.out,hb⟩
theorem a3w (B b:Nat)(bs:List Int)(c:Int)(w:World)(hg:Gat B b true bs w)(hB:B≤w.heap.size)(hl:bs.length≤1000000000000)(h0:0≤c)(h1:c≤255)
 (t1:(c == 38)=false) (t2:(c == 60)=false) (t3:(c == 62)=false) (t4:(c == 13)=false) (t5:(c == 34)=false) (t6:(c == 9)=false) (t7:(c == 10)=false):
 Calls Tryz.prog 81 #[.pointer (some ⟨b,0,none⟩),.int .u8 c] w fun e w'=>e=.returned (.tuple #[])∧Gat B b true (bs++[c]) w'∧Below B w w':=by
 have hv:=hg.value;have CW:=aac (aeZ B b true bs c w hg hB hl h0 h1);clear hg;go_enter Tryz.func81,Tryz.ntmps81;go_wp2_with fail;refine CW.out.mono ?_;rintro e w1 ⟨rfl,h,hb⟩;have H:=aac h;clear h CW;go_wp2
 go_end0
 exact⟨rfl,H.out,hb⟩
theorem atx (B b:Nat)(v:Bool)(bs:List Int)(c:Int)(w:World)(hg:Gat B b v bs w)(hB:B≤w.heap.size)(hl:bs.length≤1000000000000)(h0:0≤c)(h1:c≤255):
 Calls Tryz.prog 81 #[.pointer (some ⟨b,0,none⟩),.int .u8 c] w fun e w'=>e=.returned (.tuple #[])∧Gat B b v (bs++agZ v c) w'∧Below B w w':=by
 unfold agZ;by_cases a1:c=38
 · rw[if_pos a1];subst a1;exact ave B b v bs w hg hB hl
 rw[if_neg a1];by_cases a2:c=60
 · rw[if_pos a2];subst a2;exact a0i B b v bs w hg hB hl
 rw[if_neg a2];by_cases a3:c=62
 · rw[if_pos a3];subst a3;exact ayf B b v bs w hg hB hl
 rw[if_neg a3];by_cases a4:c=13
 · rw[if_pos a4];subst a4;exact a0e B b v bs w hg hB hl
 rw[if_neg a4];cases v
 · rw[if_neg (by simp),if_neg (by simp),if_neg (by simp)];exact a1D B b bs c w hg hB hl h0 h1 (by simpa using a1) (by simpa using a2) (by simpa using a3) (by simpa using a4)
 · by_cases a5:c=34
   · rw[if_pos ⟨rfl,a5⟩];subst a5;exact arQ B b true bs w hg hB hl
   rw[if_neg (fun h=>a5 h.2)];by_cases a6:c=9
   · rw[if_pos ⟨rfl,a6⟩];subst a6;exact aus B b true bs w hg hB hl
   rw[if_neg (fun h=>a6 h.2)];by_cases a7:c=10
   · rw[if_pos ⟨rfl,a7⟩];subst a7;exact azV B b true bs w hg hB hl
   rw[if_neg (fun h=>a7 h.2)];exact a3w B b bs c w hg hB hl h0 h1 (by simpa using a1) (by simpa using a2) (by simpa using a3) (by simpa using a4) (by simpa using a5) (by simpa using a6) (by simpa using a7)
end Go.Proofs.YtiaebhomfebagaaGreatDoor
namespace Go.Proofs.YtiaebhomfebagaaGreatDoor
open Go.RowKit
theorem azX (v:Bool)(c:Int):(agZ v c).length≤6:=by
 unfold agZ
 repeat' split
 all_goals simp
theorem ati (v:Bool)(l:List Int)(k:Nat)(h:k < l.length):aaO v (l.take (k+1))=aaO v (l.take k)++agZ v (l.getD k 0):=by
 unfold aaO;rw[List.take_succ_eq_append_getElem h,List.flatMap_append];simp[List.getElem?_eq_getElem h]
theorem adS (v:Bool):∀ (l:List Int),(aaO v l).length≤6 * l.length
 | []=>by simp[aaO]
 | c :: l=>by
   have h1:=azX v c;have h2:=adS v l;unfold aaO at *;rw[List.flatMap_cons,List.length_append,List.length_cons];omega
def a5n (s:ByteArray)(v:Bool)(w:World)(i:Value)(wr:World):Prop:=
 ∃ k:Nat,k≤s.size∧i=.int .i64 k∧Gat w.heap.size w.heap.size v (aaO v ((aad s).take k)) wr∧Below w.heap.size w wr
def agb (l:List Int)(w:World)(e:Ending)(w':World):Prop:=e=.returned (.string (strOfNums l))∧Below w.heap.size w w'
theorem ahi (s:ByteArray)(v:Bool)(w:World)(hs:s.size≤1048576):Calls Tryz.prog 62 #[.string s,.bool v] w (agb (aaO v (aad s)) w):=by
 go_enter Tryz.func62,Tryz.ntmps62;go_wp2_with fail;go_loopw [11] (fun i wr=>a5n s v w i wr) (fun i _=>s.size - (intOf i).toNat)
 case atStart=>
  exact⟨0,Nat.zero_le _,rfl,aqe w v,(Below.refl _ w).alloc (Nat.le_refl _) _⟩
 case round=>
  obtain⟨k,hk,rfl,hg,hb⟩:=hrel;by_cases hlt:k < s.size
  · have hsz:=hb.size;have hc:=apX s k;have hbe:=asO s k hlt;have hn:=adS v ((aad s).take k);rw[List.length_take,aae] at hn;have C:=aac (atx w.heap.size w.heap.size v _ _ wr hg hsz (by omega) hc.1 hc.2);rw[← ati v _ k (by rw[aae];exact hlt),← hbe] at C;have c1:(k:Int) < (s.size:Int):=(by omega);clear hg hc hn hbe;go_wp2_with fail;refine C.out.mono ?_;rintro e w1 ⟨rfl,h1,hb1⟩;have HG:=aac h1;clear h1 C;go_wp2_with fail;go_roundw;case rel=>exact⟨k+1,by omega,by rw[Int.natCast_add];rfl,HG.out,hb.trans hb1⟩
    case measure=>simp only[intOf];omega
  · have hkk:k=s.size:=(by omega);subst hkk;rw[List.take_of_length_le (by rw[aae];omega)] at hg;have CS:=aac (arF w.heap.size w.heap.size v _ wr hg);clear hg;go_wp2_with fail;refine CS.out.mono ?_;rintro e w1 ⟨rfl,hb1⟩;go_wp2;go_ret;exact⟨rfl,hb.trans hb1⟩
theorem apV (s:ByteArray)(x:List Int)(w:World)(C:Hid (Calls Tryz.prog 62 #[.string s,.bool false] w (agb x w))):Calls Tryz.prog 42 #[.string s] w (agb x w):=by
 go_enter Tryz.func42,Tryz.ntmps42;go_wp2_with fail;refine C.out.mono ?_;rintro e w1 ⟨rfl,hb⟩;go_wp2;go_ret;exact⟨rfl,hb⟩
theorem atO (s:ByteArray)(x:List Int)(w:World)(C:Hid (Calls Tryz.prog 62 #[.string s,.bool true] w (agb x w))):Calls Tryz.prog 63 #[.string s] w (agb x w):=by
 go_enter Tryz.func63,Tryz.ntmps63;go_wp2_with fail;refine C.out.mono ?_;rintro e w1 ⟨rfl,hb⟩;go_wp2;go_ret;exact⟨rfl,hb⟩
theorem ayX (s:ByteArray)(w:World)(hs:s.size≤1048576):Calls Tryz.prog 42 #[.string s] w (agb (aaO false (aad s)) w):=apV s _ w (aac (ahi s false w hs))
theorem ash (s:ByteArray)(w:World)(hs:s.size≤1048576):Calls Tryz.prog 63 #[.string s] w (agb (aaO true (aad s)) w):=atO s _ w (aac (ahi s true w hs))
end Go.Proofs.YtiaebhomfebagaaGreatDoor
namespace Go.Proofs.YtiaebhomfebagaaGreatDoor.Ev
def adk:ByteArray:=⟨#[104,116,116,112,58,47,47,119,119,119,46,119,51,46,111,114,103,47,88,77,76,47,49,57,57,56,47,110,97,109,101,115,112,97,99,101]⟩
def ahP:ByteArray:=⟨#[120,109,108,110,115]⟩
def dgB (n:Nat):List Int:=(Lib.decDigits n).map fun c=>(c.toNat:Int)
theorem aml {n:Nat}(h:n < 10):((UInt8.ofNat (48+n)).toNat:Int)=48+(n:Int):=by
 have:(UInt8.ofNat (48+n)).toNat=48+n:=by simp[UInt8.toNat_ofNat'];omega
 omega
theorem abl {n:Nat}(h:n < 10):dgB n=[48+(n:Int)]:=by
 unfold dgB;rw[Lib.decDigits,dif_pos h,List.map_cons,List.map_nil,aml h]
theorem akG {n:Nat}(h:¬ n < 10):dgB n=dgB (n / 10)++dgB (n % 10):=by
 rw[abl (show n % 10 < 10 from Nat.mod_lt _ (by decide))];unfold dgB;rw[Lib.decDigits,dif_neg h,List.map_append,List.map_cons,List.map_nil,aml (Nat.mod_lt _ (by decide))]
theorem agJ {n:Nat}(h:n < 1000):(dgB n).length≤3:=by
 by_cases h1:n < 10
 · rw[abl h1];simp
 rw[akG h1,abl (show n % 10 < 10 from Nat.mod_lt _ (by decide)),List.length_append,List.length_singleton];by_cases h2:n / 10 < 10
 · rw[abl h2];simp
 rw[akG h2,abl (show n / 10 % 10 < 10 from Nat.mod_lt _ (by decide)),abl (show n / 10 / 10 < 10 by omega)];simp
def prB (n:List Int)(v:ByteArray):List Int:=[32]++n++[61,34]++aaO true (aad v)++[34]
def xpB:List Int:=[120,109,108,58]
def nmB (sp lo:ByteArray):List Int:=if sp=adk then xpB++aad lo else aad lo
def okS (s:ByteArray):Bool:=decide (s≠emB) && decide (s≠adk)
theorem agN {s:ByteArray}:okS s=true↔s≠emB∧s≠adk:=by unfold okS;simp
instance memD (s:ByteArray)(l:List ByteArray):Decidable (s∈l):=decidable_of_iff (l.any (fun x=>decide (x=s))=true) (by simp[List.any_eq_true])
def spG:List ByteArray→List P3→List ByteArray
 | seen,[]=>seen
 | seen,a :: l=>spG (if okS a.1.1=true∧a.1.1 ∉ seen then seen++[a.1.1] else seen) l
def spL (l:List P3):List ByteArray:=spG [] l
theorem ako:∀ (l m:List P3) (s:List ByteArray),spG s (l++m)=spG (spG s l) m
 | [],m,s=>rfl
 | a :: l,m,s=>by rw[List.cons_append,spG,spG,ako l m]
theorem amw {l:List P3}{k:Nat}{x:P3}(hx:l[k]?=some x):spL (l.take (k+1))=if okS x.1.1=true∧x.1.1 ∉ spL (l.take k) then spL (l.take k)++[x.1.1] else spL (l.take k):=by
 have:l.take (k+1)=l.take k++[x]:=by rw[List.take_add_one,hx];rfl
 rw[this];unfold spL;rw[ako];rfl
theorem atf:∀ (l:List P3) (s:List ByteArray) (u:ByteArray),u∈spG s l↔u∈s∨(okS u=true∧∃ x∈l,x.1.1=u)
 | [],s,u=>by simp[spG]
 | a :: l,s,u=>by
   rw[spG,atf l];by_cases h:okS a.1.1=true∧a.1.1 ∉ s
   · rw[if_pos h];constructor
     · rintro (h1 | ⟨h1,x,hx,e⟩)
       · rcases List.mem_append.1 h1 with h2 | h2
         · exact .inl h2
         · rw[List.mem_singleton.1 h2];exact .inr ⟨h.1,a,List.mem_cons_self,rfl⟩
       · exact .inr ⟨h1,x,List.mem_cons_of_mem _ hx,e⟩
     · rintro (h1 | ⟨h1,x,hx,e⟩)
       · exact .inl (List.mem_append.2 (.inl h1))
       · rcases List.mem_cons.1 hx with rfl | hx
         · rw[← e];exact .inl (List.mem_append.2 (.inr List.mem_cons_self))
         · exact .inr ⟨h1,x,hx,e⟩
   · rw[if_neg h];constructor
     · rintro (h1 | ⟨h1,x,hx,e⟩)
       · exact .inl h1
       · exact .inr ⟨h1,x,List.mem_cons_of_mem _ hx,e⟩
     · rintro (h1 | ⟨h1,x,hx,e⟩)
       · exact .inl h1
       · rcases List.mem_cons.1 hx with rfl | hx
         · refine .inl (Classical.byContradiction fun hn=>h ⟨by rw[e];exact h1,by rw[e];exact hn⟩)
         · exact .inr ⟨h1,x,hx,e⟩
theorem adv {l:List P3}{u:ByteArray}:u∈spL l↔okS u=true∧∃ x∈l,x.1.1=u:=by unfold spL;rw[atf];simp
theorem asz:∀ (l:List P3) (s:List ByteArray),∃ t,spG s l=s++t
 | [],s=>⟨[],by simp[spG]⟩
 | a :: l,s=>by
   rw[spG];obtain⟨t,ht⟩:=asz l (if okS a.1.1=true∧a.1.1 ∉ s then s++[a.1.1] else s);rw[ht];split
   · exact⟨[a.1.1]++t,by simp⟩
   · exact⟨t,rfl⟩
theorem asy:∀ (l:List P3) (s:List ByteArray),(spG s l).length≤s.length+l.length
 | [],s=>by simp[spG]
 | a :: l,s=>by
   rw[spG];have:=asy l (if okS a.1.1=true∧a.1.1 ∉ s then s++[a.1.1] else s)
   revert this
   split
   · intro h;simp only[List.length_append,List.length_cons,List.length_nil] at h ⊢;omega
   · intro h;simp only[List.length_cons];omega
theorem adt (l:List P3):(spL l).length≤l.length:=by
 have:=asy l []
 simpa [spL] using this
def ixS:List ByteArray→ByteArray→Nat
 | [],_=>0
 | a :: l,s=>if a=s then 0 else ixS l s+1
theorem awS:∀ {l:List ByteArray} {s:ByteArray},s∈l→ixS l s < l.length
 | [],s,h=>by cases h
 | a :: l,s,h=>by
   rw[ixS,List.length_cons];by_cases e:a=s
   · rw[if_pos e];omega
   · rw[if_neg e];have:=awS ((List.mem_cons.1 h).resolve_left fun q=>e q.symm);omega
theorem a0c (l:List P3)(k:Nat):∃ t,spL l=spL (l.take k)++t:=by
 obtain⟨t,ht⟩:=asz (l.drop k) (spL (l.take k));refine⟨t,?_⟩;rw[← ht];unfold spL;rw[← ako,List.take_append_drop]
def xnB (n:Nat):List Int:=[120,109,108,110,115,58,110]++dgB n
def bdB:Nat→List ByteArray→List Int
 | _,[]=>[]
 | j,s :: r=>prB (xnB j) s++bdB (j+1) r
theorem apy:∀ (l:List ByteArray) (j:Nat) (s:ByteArray),bdB j (l++[s])=bdB j l++prB (xnB (j+l.length)) s
 | [],j,s=>by simp[bdB]
 | a :: l,j,s=>by
   rw[List.cons_append,bdB,bdB,apy l,List.append_assoc,List.length_cons,show j+1+l.length=j+(l.length+1) by omega]
def aNm (sp:List ByteArray)(a:P3):List Int:=if a.1.1=emB then aad a.1.2 else if a.1.1=adk then xpB++aad a.1.2 else [110]++dgB (ixS sp a.1.1)++[58]++aad a.1.2
def aB (sp:List ByteArray)(a:P3):List Int:=prB (aNm sp a) a.2
def asB (sp:List ByteArray):List P3→List Int
 | []=>[]
 | a :: l=>aB sp a++asB sp l
theorem alC (sp:List ByteArray):∀ l m:List P3,asB sp (l++m)=asB sp l++asB sp m
 | [],m=>rfl
 | a :: l,m=>by rw[List.cons_append,asB,asB,alC sp l m,List.append_assoc]
theorem avu (sp:List ByteArray){l:List P3}{k:Nat}{x:P3}(hx:l[k]?=some x):asB sp (l.take (k+1))=asB sp (l.take k)++aB sp x:=by
 have:l.take (k+1)=l.take k++[x]:=by rw[List.take_add_one,hx];rfl
 rw[this,alC];simp[asB]
theorem atv {l:List P3}{k:Nat}{x:P3}(hx:l[k]?=some x):bdB 0 (spL (l.take (k+1)))=bdB 0 (spL (l.take k))++(if okS x.1.1=true∧x.1.1 ∉ spL (l.take k) then prB (xnB (spL (l.take k)).length) x.1.1 else []):=by
 rw[amw hx];by_cases h:okS x.1.1=true∧x.1.1 ∉ spL (l.take k)
 · rw[if_pos h,if_pos h,apy,Nat.zero_add]
 · rw[if_neg h,if_neg h,List.append_nil]
def dfS (sp d:ByteArray):ByteArray:=if sp=adk then d else sp
def hdB (sp lo d:ByteArray)(ats:List P3):List Int:=[60]++nmB sp lo++(if sp≠adk∧sp≠d then prB (aad ahP) sp else [])++bdB 0 (spL ats)++asB (spL ats) ats
def txB:Fo→ByteArray→List Int
 | .nil,_=>[]
 | .cons t tx sp lo ats ks nx,d=>(if t=true then aaO false (aad tx) else hdB sp lo d ats++(if ks.len=0 then [47,62] else [62]++txB ks (dfS sp d)++[60,47]++nmB sp lo++[62]))++txB nx d
theorem alg:∀ (f g:Fo) (d:ByteArray),txB (f.app g) d=txB f d++txB g d
 | .nil,g,d=>rfl
 | .cons t tx sp lo ats ks nx,g,d=>by
   show (_++txB (nx.app g) d)=(_++txB nx d)++txB g d;rw[alg nx g d];exact(List.append_assoc _ _ _).symm
theorem awg (tx sp lo:ByteArray)(ats:List P3)(ks:Fo)(d:ByteArray):txB (.cons true tx sp lo ats ks .nil) d=aaO false (aad tx):=by
 rw[txB,if_pos rfl,txB,List.append_nil]
theorem apo (tx sp lo:ByteArray)(ats:List P3)(ks:Fo)(d:ByteArray)(h:ks.len=0):txB (.cons false tx sp lo ats ks .nil) d=hdB sp lo d ats++[47,62]:=by
 rw[txB,if_neg (by decide),if_pos h,txB,List.append_nil]
def atM (l:List P3):Prop:=∀ x∈l,x.1.1.size≤1048576∧x.1.2.size≤1048576∧x.2.size≤1048576
def Fo.szM:Fo→Prop
 | .nil=>True
 | .cons t tx sp lo ats ks nx=>(tx.size≤1048576∧sp.size≤1048576∧lo.size≤1048576∧atM ats)∧ks.szM∧nx.szM
def Fo.atN:Fo→Prop
 | .nil=>True
 | .cons t tx sp lo ats ks nx=>(t=false→ats.length≤400∧ks.atN)∧nx.atN
theorem afu (n:List Int)(v:ByteArray):(prB n v).length≤n.length+6 * v.size+4:=by
 have:=adS true (aad v);rw[aae] at this;unfold prB;simp only[List.length_append,List.length_cons,List.length_nil];omega
theorem akY {n:Nat}(h:n < 1000):(xnB n).length≤10:=by
 have:=agJ h;unfold xnB;simp only[List.length_append,List.length_cons,List.length_nil];omega
theorem aqd:∀ (l:List ByteArray) (j:Nat),j+l.length≤1000→(∀ s∈l,s.size≤1048576)→(bdB j l).length≤l.length * 6291470
 | [],j,_,_=>by simp[bdB]
 | a :: l,j,h,hs=>by
   rw[bdB,List.length_append,List.length_cons];rw[List.length_cons] at h;have h1:=aqd l (j+1) (by omega) (fun s q=>hs s (List.mem_cons_of_mem _ q));have h2:=afu (xnB j) a;have h3:=akY (n:=j) (by omega);have h4:=hs a List.mem_cons_self;omega
theorem aiG (sp lo:ByteArray):(nmB sp lo).length≤lo.size+4:=by
 unfold nmB xpB;split
 · simp only[List.length_append,List.length_cons,List.length_nil,aae];omega
 · rw[aae];omega
theorem arb {sp:List ByteArray}{a:P3}(h:ixS sp a.1.1 < 1000):(aNm sp a).length≤a.1.2.size+5:=by
 have:=agJ h;unfold aNm xpB;split
 · rw[aae];omega
 split
 · simp only[List.length_append,List.length_cons,List.length_nil,aae];omega
 · simp only[List.length_append,List.length_cons,List.length_nil,aae];omega
theorem amO:∀ (l:List ByteArray) (s:ByteArray),ixS l s≤l.length
 | [],s=>Nat.zero_le _
 | a :: l,s=>by
   rw[ixS,List.length_cons];have:=amO l s;split <;> omega
theorem apC {sp:List ByteArray}(hp:sp.length < 1000):∀ (l:List P3),atM l→(asB sp l).length≤l.length * 7340050
 | [],_=>by simp[asB]
 | a :: l,h=>by
   rw[asB,List.length_append,List.length_cons];have h1:=apC hp l (fun x hx=>h x (List.mem_cons_of_mem _ hx));have h2:=afu (aNm sp a) a.2;have h3:=arb (sp:=sp) (a:=a) (Nat.lt_of_le_of_lt (amO _ _) hp);obtain⟨h4,h5,h6⟩:=h a List.mem_cons_self;unfold aB;omega
theorem a2s {l:List P3}(h:atM l):∀ s∈spL l,s.size≤1048576:=fun s hs=>by
 obtain⟨_,x,hx,e⟩:=adv.1 hs;rw[← e];exact(h x hx).1
theorem azJ {sp lo d:ByteArray}{ats:List P3}(h1:sp.size≤1048576)(h2:lo.size≤1048576)(h3:atM ats)(h4:ats.length≤400):(hdB sp lo d ats).length≤ats.length * 13631520+7340050:=by
 have k1:=aiG sp lo;have k2:=aqd (spL ats) 0 (by have:=adt ats;omega) (a2s h3);have k3:=apC (sp:=spL ats) (by have:=adt ats;omega) ats h3;have k4:=afu (aad ahP) sp;have k5:(aad ahP).length=5:=rfl;have k6:=adt ats;unfold hdB;simp only[List.length_append,List.length_cons,List.length_nil];split
 · omega
 · simp only[List.length_nil];omega
theorem ahF:∀ (f:Fo) (d:ByteArray),f.szM→f.atN→(txB f d).length≤f.siz * 6000000000
 | .nil,d,_,_=>by simp[txB]
 | .cons t tx sp lo ats ks nx,d,hs,ha=>by
   obtain⟨⟨h1,h2,h3,h4⟩,h5,h6⟩:=hs;obtain⟨h7,h8⟩:=ha;have k1:=ahF nx d h6 h8;have k3:=adS false (aad tx);have k4:=aiG sp lo;rw[aae] at k3;rw[txB,List.length_append,Fo.siz]
   cases t with
   | true=>
     rw[if_pos rfl];omega
   | false=>
     have k2:=ahF ks (dfS sp d) h5 (h7 rfl).2;have k5:=azJ (sp:=sp) (lo:=lo) (d:=d) h2 h3 h4 (h7 rfl).1;have k6:=(h7 rfl).1;rw[if_neg (by decide)];split
     · simp only[List.length_append,List.length_cons,List.length_nil];omega
     · simp only[List.length_append,List.length_cons,List.length_nil];omega
def noX (l:List P3):Bool:=l.all fun a=> !(decide (a.1.1=emB) && decide (a.1.2=ahP))
def liK (pL tR:ByteArray→Bool):Bool→Fo→Bool
 | _,.nil=>true
 | p,.cons t tx sp lo ats ks nx=> !(p && t) && (if t=true then aao pL tR ⟨2,emB,emB,[],tx⟩ else aao pL tR ⟨1,sp,lo,ats,emB⟩ && (noX ats && decide (ats.length≤15)) && liK pL tR false ks) && liK pL tR t nx
end Go.Proofs.YtiaebhomfebagaaGreatDoor.Ev
namespace Go.Proofs.YtiaebhomfebagaaGreatDoor.Ev
open Go.Shelf
def ajW:Go.Shelf.Ren:=⟨fun | 171=>82 | 243=>108 | 246=>131 | 283=>158 | 284=>159 | 285=>160 | 286=>161 | 129=>176 | 317=>175 | 318=>177 | 319=>178 | 320=>179 | 337=>187 | 338=>188 | n=>n,fun | 3=>3 | 9=>9 | 2=>2 | 4=>4 | 171=>216 | 0=>0 | 53=>217 | 37=>57 | 5=>5 | 173=>220 | 212=>239 | 51=>201 | 20=>20 | 213=>240 | 46=>112 | 232=>259 | 233=>260 | n=>n,fun | 17=>4 | 18=>7 | 19=>8 | n=>n⟩
theorem atX:Go.Proofs.LaysM.n171 Tryz.prog ajW:={
 mixed:=by kernel_rfl
 f129:=Tryz.func176.trans (congrArg some (by kernel_rfl))
 f171:=Tryz.func82.trans (congrArg some (by kernel_rfl))
 f243:=Tryz.func108.trans (congrArg some (by kernel_rfl))
 f246:=Tryz.func131.trans (congrArg some (by kernel_rfl))
 f283:=Tryz.func158.trans (congrArg some (by kernel_rfl))
 f284:=Tryz.func159.trans (congrArg some (by kernel_rfl))
 f285:=Tryz.func160.trans (congrArg some (by kernel_rfl))
 f286:=Tryz.func161.trans (congrArg some (by kernel_rfl))
 f317:=Tryz.func175.trans (congrArg some (by kernel_rfl))
 f318:=Tryz.func177.trans (congrArg some (by kernel_rfl))
 f319:=Tryz.func178.trans (congrArg some (by kernel_rfl))
 f320:=Tryz.func179.trans (congrArg some (by kernel_rfl))
 f337:=Tryz.func187.trans (congrArg some (by kernel_rfl))
 f338:=Tryz.func188.trans (congrArg some (by kernel_rfl))
 t0:=Tryz.underlying0
 a0:=Tryz.isAgg0
 z0:=Tryz.sizeOf0
 v0:=Tryz.zeroValue0
 t2:=Tryz.underlying2
 a2:=Tryz.isAgg2
 z2:=Tryz.sizeOf2
 v2:=Tryz.zeroValue2
 t3:=Tryz.underlying3
 a3:=Tryz.isAgg3
 z3:=Tryz.sizeOf3
 v3:=Tryz.zeroValue3
 t4:=Tryz.underlying4
 a4:=Tryz.isAgg4
 z4:=Tryz.sizeOf4
 v4:=Tryz.zeroValue4
 t5:=Tryz.underlying5
 a5:=Tryz.isAgg5
 z5:=Tryz.sizeOf5
 v5:=Tryz.zeroValue5
 t9:=Tryz.underlying9
 a9:=Tryz.isAgg9
 z9:=Tryz.sizeOf9
 v9:=Tryz.zeroValue9
 t20:=Tryz.underlying20
 a20:=Tryz.isAgg20
 z20:=Tryz.sizeOf20
 v20:=Tryz.zeroValue20
 t37:=Tryz.underlying57
 a37:=Tryz.isAgg57
 z37:=Tryz.sizeOf57
 v37:=Tryz.zeroValue57
 t46:=Tryz.underlying112
 a46:=Tryz.isAgg112
 z46:=Tryz.sizeOf112
 v46:=Tryz.zeroValue112
 t51:=Tryz.underlying201
 a51:=Tryz.isAgg201
 z51:=Tryz.sizeOf201
 v51:=Tryz.zeroValue201
 t53:=Tryz.underlying217
 a53:=Tryz.isAgg217
 z53:=Tryz.sizeOf217
 v53:=Tryz.zeroValue217
 t171:=Tryz.underlying216
 a171:=Tryz.isAgg216
 z171:=Tryz.sizeOf216
 v171:=Tryz.zeroValue216
 t173:=Tryz.underlying220
 a173:=Tryz.isAgg220
 z173:=Tryz.sizeOf220
 v173:=Tryz.zeroValue220
 t212:=Tryz.underlying239
 a212:=Tryz.isAgg239
 z212:=Tryz.sizeOf239
 v212:=Tryz.zeroValue239
 t213:=Tryz.underlying240
 a213:=Tryz.isAgg240
 z213:=Tryz.sizeOf240
 t232:=Tryz.underlying259
 a232:=Tryz.isAgg259
 z232:=Tryz.sizeOf259
 v232:=Tryz.zeroValue259
 t233:=Tryz.underlying260
 a233:=Tryz.isAgg260
 z233:=Tryz.sizeOf260
 v233:=Tryz.zeroValue260
 g17:=by kernel_rfl
 g18:=by kernel_rfl
 g19:=by kernel_rfl
 i0:=by kernel_rfl
 i2:=by kernel_rfl
 i3:=by kernel_rfl
 i4:=by kernel_rfl
 i5:=by kernel_rfl
 i9:=by kernel_rfl
 i20:=by kernel_rfl
 i37:=by kernel_rfl
 i46:=by kernel_rfl
 i51:=by kernel_rfl
 i53:=by kernel_rfl
 i171:=by kernel_rfl
 i173:=by kernel_rfl
 i212:=by kernel_rfl
 i232:=by kernel_rfl
 i233:=by kernel_rfl
 m17:=by kernel_rfl
 m18:=by kernel_rfl
 m19:=by kernel_rfl }
open Go.RowKit
def TbN:String:=((Rows.seriDocsRow.laid)[2]?.getD (Rows.seriDocsRow.func,.nil)).1
def TbI (W:World):Prop:=Lib.TabIs Tryz.prog W TbN .u64 Lib.pow10Tab
def TbB (B:Nat)(W:World):Prop:=Lib.TabBelow Tryz.prog B W TbN .u64 Lib.pow10Tab
theorem TbB.here {B:Nat}{W:World}(h:TbB B W):TbI W:=Lib.TabBelow.here h
theorem TbB.on {B:Nat}{W W':World}(h:TbB B W)(hb:Below B W W'):TbB B W':=Lib.TabBelow.on h hb
theorem TbI.b {W:World}(h:TbI W):TbB W.heap.size W:=Lib.tabBelow_of_tabIs h
theorem TbI.keep {W W':World}(h:TbI W)(hb:Below W.heap.size W W'):TbI W':=(h.b.on hb).here
theorem below_grow (w:World)(k:Nat)(os:Array Obj):Below w.heap.size w (Sort.grow (w.drewN k) os):=by
 refine⟨rfl,rfl,rfl,?_,?_⟩
 · simp[Sort.grow]
 · intro i hi;simp[Sort.grow,Array.getElem?_append,hi]
theorem avs (n:Nat)(hn:n < 1000)(w:World)(hT:TbI w):Calls Tryz.prog 82 #[.int .i64 n] w fun e w'=>(∃ O,e=.returned (.string O)∧aad O=dgB n)∧Below w.heap.size w w':=by
 refine(Any.strconv_Itoa atX (n:Int) (by omega) (by omega) w hT).mono ?_;rintro e w' ⟨rfl,k,os,rfl⟩;refine⟨⟨_,rfl,?_⟩,below_grow w k os⟩;unfold Lib.itoa;rw[if_neg (by omega),Int.toNat_natCast];rfl
theorem ahv (n:Nat)(hn:n < 1000)(w:World)(hT:TbI w):Calls Tryz.prog 64 #[.int .i64 n] w fun e w'=>(∃ O,e=.returned (.string O)∧aad O=[110]++dgB n)∧Below w.heap.size w w':=by
 have C:=aac (avs n hn w hT);clear hT;go_enter Tryz.func64,Tryz.ntmps64;go_wp2_with fail;refine C.out.mono ?_;rintro e w1 ⟨⟨O,rfl,ho⟩,hb⟩;have hs:O.size≤3:=by rw[← aae,ho];exact agJ hn
 have HO:=aac ho;clear ho C;go_wp2;go_ret;refine⟨⟨_,rfl,?_⟩,hb⟩;rw[aaq,HO.out];rfl
end Go.Proofs.YtiaebhomfebagaaGreatDoor.Ev
namespace Go.Proofs.YtiaebhomfebagaaGreatDoor
open Go.ChangeShapes Go.WideShapes Go.ChangeAt Go.RowKit
theorem a6m:Tryz.prog.globalNamed Ev.TbN=some 4:=by kernel_rfl
theorem auJ:(Tryz.prog.globals[4]?).map (·.type)=some 239:=by kernel_rfl
theorem Tryz.att:Tryz.prog.cellsOf 239=20:=by kernel_rfl
theorem Tryz.a3e:Tryz.prog.cellsOf 217=1:=by kernel_rfl
theorem avi {W:World}(h:laidMetH Tryz.prog adg W):Ev.TbI W:=by
 rw[MakeChecks.laidMetH_plain _ _ _ (by kernel_rfl)] at h;have h2:laidMet Tryz.prog ((Ev.TbN,Lib.tabData .u64 Lib.pow10Tab) :: Rows.seriDocsRow.laid.drop 3) W:=(laidMet.tail (laidMet.tail h));exact Lib.tabIs_of_head a6m auJ Tryz.underlying239 Tryz.underlying217 Tryz.a3e Tryz.att h2
theorem aqc {H:Type}{enc:TypeId × Value→H}{a:Assume}{C:Checked}{os:Os}{f:FuncId}{fn:Func}{s:ChangeSpec}{conds:List PathCond}{apart fresh handsOn again:Bool}{X:World→Array Value→Prop}
 (hX:∀ (w w':World) (args:Array Value),w.heap=w'.heap→X w args→X w' args)
 (own:ownKnob C.prog.godebug=none) (started:os.Started) (noInit:C.prog.inits.idxOf? f=none) (hfn:C.prog.funcs[f]?=some fn)
 (witness:∃ (w:World) (tape:Tape) (i:Input),w.os=os∧(w.forCall tape i).Shaped C.prog∧i.vars=[]∧Input.okWide C.prog (w.forCall tape i) .any w.heap.size f i∧
   ((s.pre enc C.prog fn conds apart (w.forCall tape i).memory i.args∧X (w.forCall tape i).memory i.args)∧sizedMet enc C.prog fn (OpenSpec.ofChange s) apart (w.forCall tape i).memory i.args)∧a.holds C.prog (lone (Frame.enter C.prog f i.args .normal) [] (w.forCall tape i)))
 (contract:∀ (W:World) (base:Nat) (args:Array Value) (ds gs:List (DataW H)) (before:List MemPlace),
   (∀ (j:Nat) t v,fn.params[j]?=some t→args[j]?=some v→Value.okWide C.prog W .any base t v)→
   DataW.Whole enc C.prog fn.params.toList s.vars apart W args.toList ds gs before→X W args→W.ShapedOpen C.prog→
   Calls C.prog f args W fun e W'=>∃ v,e=.returned v∧s.post enc C.prog fn apart fresh handsOn again W args v W'):
 ReturnsInHanded a C os f .any (fun w args=>(s.pre enc C.prog fn conds apart w args∧X w args)∧sizedMet enc C.prog fn (OpenSpec.ofChange s) apart w args) (s.post enc C.prog fn apart fresh handsOn again):=by
 refine returnsInHanded_of_calls own started noInit witness ?_;intro w tape i _ hsh _ hok hpre _;obtain⟨_,_,_,fn',hfn',_,_,_,_,hval⟩:=hok;obtain rfl:fn'=fn:=Option.some.inj (hfn'.symm.trans hfn);obtain⟨⟨⟨ds,gs,before,hw,_⟩,hx⟩,_⟩:=hpre;refine(contract (w.forCall tape i) w.heap.size i.args ds gs before hval (DataW.Whole.of_heap (w':=w.forCall tape i) (by rfl) hw) (hX _ _ _ (by rfl) hx) hsh).mono fun e W' ⟨v,he,hp⟩=> ?_;subst he;exact ChangeSpec.post_blind hp
end Go.Proofs.YtiaebhomfebagaaGreatDoor
namespace Go.Proofs.YtiaebhomfebagaaGreatDoor.Ev
open Go.RowKit
theorem afZ (t:Bool)(tx sp lo:ByteArray)(ats:List P3)(ks:Fo):1≤(Fo.cons t tx sp lo ats ks .nil).evs.length:=by
 cases t <;> simp[Fo.evs]
theorem ahL (t:Bool)(tx sp lo:ByteArray)(ats:List P3)(ks nx:Fo):(Fo.cons t tx sp lo ats ks nx).evs=(Fo.cons t tx sp lo ats ks .nil).evs++nx.evs:=by
 rw[Fo.evs,Fo.evs];simp[Fo.evs]
end Go.Proofs.YtiaebhomfebagaaGreatDoor.Ev
namespace Go.Proofs.YtiaebhomfebagaaGreatDoor.Ev
open Go.RowKit
theorem aai {e:TypeId}{z n:Nat}{w:World}{B:Nat}{v:Value}{xs:List Value}(h:w.ownsRow B e z v n xs):∃ A cap,v=.slice A n cap:=by
 rcases h.2 with ⟨rfl,rfl⟩ | ⟨g,cap,cur,rfl,_⟩
 · exact⟨none,0,rfl⟩
 · exact⟨_,cap,rfl⟩
theorem aaj {e:TypeId}{z n:Nat}{w w':World}{B:Nat}{v:Value}{xs:List Value}(h:w.ownsRow B e z v n xs)(hb:Below w.heap.size w w'):w'.ownsRow B e z v n xs:=by
 refine⟨h.1,?_⟩;rcases h.2 with hn | ⟨g,cap,cur,rfl,hB,hg,rest⟩
 · exact .inl hn
 · exact .inr ⟨g,cap,cur,rfl,hB,(hb.block _ (Array.getElem?_eq_some_iff.1 hg).1).trans hg,rest⟩
def RdI (w:World)(A:Option Addr)(l:List Int):Prop:=
 ∀ k x,l[k]?=some x→∃ b off,A=some ⟨b,off,none⟩∧b < w.heap.size∧w.cell? ⟨b,off+k,none⟩=some (.int .i64 x)
theorem RdI.keep {w w':World}{A:Option Addr}{l:List Int}(h:RdI w A l)(hb:Below w.heap.size w w'):RdI w' A l:=fun k t hk=>by
 obtain⟨b,o,e,hlt,c0⟩:=h k t hk;exact⟨b,o,e,Nat.lt_of_lt_of_le hlt hb.size,(hb.cell (p:=⟨b,o+k,none⟩) hlt).trans c0⟩
theorem awP (g k:Nat):(⟨g,0,none⟩:Addr).add k=⟨g,k,none⟩:=by
 cases k with
 | zero=>rfl
 | succ j=>simp[Addr.add]
theorem a5f.rd {w:World}{B:Nat}{v:Value}{l:List Int}(h:a5f w B v l):∃ A c,v=.slice A l.length c∧RdI w A l∧l.length≤maxLen:=by
 have h':w.ownsRow B 3 1 v l.length (l.map (Value.int .i64)):=h;rcases h'.2 with ⟨rfl,h0⟩ | ⟨g,cap,cur,rfl,hB,hg,h4,h5,_⟩
 · refine⟨none,0,by rw[h0],fun k x hk=> ?_,by omega⟩;rw[List.eq_nil_of_length_eq_zero h0] at hk;simp at hk
 · refine⟨_,cap,rfl,fun k x hk=>⟨g,0,rfl,(Array.getElem?_eq_some_iff.1 hg).1,?_⟩,by omega⟩;have:=h'.cells rfl k (.int .i64 x) (by rw[List.getElem?_map,hk];rfl);rw[awP] at this;rw[Nat.zero_add];exact this
end Go.Proofs.YtiaebhomfebagaaGreatDoor.Ev
