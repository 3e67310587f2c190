/- Lemmas of the claim. -/
import Derived.Test.YtiaebhomfebagaaGreatDoorG06
import Derived.Test.YtiaebhomfebagaaGreatDoorG03
import Derived.Laws.OwnMore
import Derived.OwnWalk
import Derived.Lib.OthersKept
import Derived.WideKeyEntry
import Derived.DeepKeys4
import Derived.MapKept
import Derived.Deep.RegionHeld3
set_option maxHeartbeats 2000000
set_option maxRecDepth 100000
set_option linter.unusedSimpArgs false
set_option linter.unusedVariables false
namespace Go.Proofs.YtiaebhomfebagaaGreatDoor.Ev
open Go.RowKit
section
variable {α:Type} {f:α→List Value} {z:Nat}
theorem ait (hz:∀ x,(f x).length=z)(l:List α):(l.flatMap f).length=l.length * z:=by
 induction l with
 | nil=>simp
 | cons x l ih=>rw[List.flatMap_cons,List.length_append,hz,ih,List.length_cons,Nat.add_mul,Nat.one_mul,Nat.add_comm]
theorem adF (hz:∀ x,(f x).length=z):∀ (l:List α) (k i:Nat) (t:α),l[k]?=some t→i < z→(l.flatMap f)[k * z+i]?=(f t)[i]?
 | [],k,i,t,h,_=>by simp at h
 | x :: l,0,i,t,h,hi=>by
   have:x=t:=(by simpa using h);subst this;rw[List.flatMap_cons,Nat.zero_mul,Nat.zero_add,List.getElem?_append_left (by rw[hz];exact hi)]
 | x :: l,k+1,i,t,h,hi=>by
   have h':l[k]?=some t:=(by simpa using h);have e:(k+1) * z+i - z=k * z+i:=by rw[Nat.add_mul,Nat.one_mul];omega
   rw[List.flatMap_cons,List.getElem?_append_right (by rw[hz,Nat.add_mul,Nat.one_mul];omega),hz,e];exact adF hz l k i t h' hi
end
abbrev PE:=RE × (Option Addr × Nat × Nat)
def PeO (W:World)(ps:List PE):Prop:=∀ p∈ps,aaC W p.2.1 p.2.2.1 p.2.2.2 p.1.ats∧RSz p.1
theorem PeO.keep {W W':World}{ps:List PE}(h:PeO W ps)(hb:Below W.heap.size W W'):PeO W' ps:=fun p hp=>⟨(h p hp).1.keep hb,(h p hp).2⟩
theorem PeO.app {W:World}{a b:List PE}(h:PeO W a)(k:PeO W b):PeO W (a++b):=fun p hp=>(List.mem_append.1 hp).elim (h p) (k p)
theorem abd.take {W:World}{A:Option Addr}{n c k:Nat}{l:List RE}(h:abd W A n c l)(hk:k≤n):abd W A k c (l.take k):=
 ⟨by rw[List.length_take,← h.len];omega,by have:=h.lsz;omega,by have:=h.cnt;omega,fun x hx=>h.xsz x (List.mem_of_mem_take hx),(fun j x hj=>by
  rw[List.getElem?_take] at hj;by_cases q:j < k
  · rw[if_pos q] at hj;exact h.rd j x hj
  · rw[if_neg q] at hj;cases hj),(fun e=>⟨by have:=(h.nil e).1;omega,(h.nil e).2⟩),⟨by have:=h.cap.1;omega,h.cap.2⟩⟩
theorem aij (W:World):aaC W none 0 0 []:=⟨rfl,Nat.zero_le _,Nat.zero_le _,fun x hx=>by simp at hx,fun j x hx=>by simp at hx,fun _=>⟨rfl,rfl⟩⟩
end Go.Proofs.YtiaebhomfebagaaGreatDoor.Ev
namespace Go.Proofs.YtiaebhomfebagaaGreatDoor.Ev
open Go.RowKit
def AtP (P:Nat→Prop)(A:Option Addr)(n:Nat):Prop:=0 < n→∀ a,A=some a→P a.block
def acJ (P:Nat→Prop)(W:World):Fo→Nat→Nat→Prop
 | .nil,_,_=>True
 | .cons t tx sp lo ats ks nx,b,off=>(∃ Aa na ca Ak nk ck,(W.cell? ⟨b,off,none⟩=some (.bool t)∧W.cell? ⟨b,off+1,none⟩=some (.string tx)∧W.cell? ⟨b,off+2,none⟩=some (.string sp)∧W.cell? ⟨b,off+3,none⟩=some (.string lo)∧W.cell? ⟨b,off+4,none⟩=some (.slice Aa na ca)∧W.cell? ⟨b,off+5,none⟩=some (.slice Ak nk ck))∧
  (tx.size≤maxLen∧sp.size≤maxLen∧lo.size≤maxLen)∧aaC W Aa na ca ats∧AtP P Aa na∧
  (nk=ks.len∧nk≤4398046511104∧nk≤ck∧ck≤maxLen∧(Ak=none→nk=0∧ck=0)∧(0 < nk→∃ b' off',Ak=some ⟨b',off',none⟩∧b' < W.heap.size∧P b'∧acJ P W ks b' off')))∧acJ P W nx b (off+6)
def akb (P:Nat→Prop)(W:World)(ks:Fo)(A:Option Addr)(n c:Nat):Prop:=
 n=ks.len∧n≤4398046511104∧n≤c∧c≤maxLen∧(A=none→n=0∧c=0)∧(0 < n→∃ b' off',A=some ⟨b',off',none⟩∧b' < W.heap.size∧P b'∧acJ P W ks b' off')
structure Tr1 (P:Nat→Prop)(W:World)(tx sp lo:ByteArray)(ats:List P3)(ks:Fo)(Aa:Option Addr)(na ca:Nat)(Ak:Option Addr)(nk ck:Nat):Prop where
 sz:tx.size≤maxLen∧sp.size≤maxLen∧lo.size≤maxLen
 at_:aaC W Aa na ca ats
 ap:AtP P Aa na
 ks:akb P W ks Ak nk ck
def Tc6 (W:World)(b off:Nat)(t:Bool)(tx sp lo:ByteArray)(Aa:Option Addr)(na ca:Nat)(Ak:Option Addr)(nk ck:Nat):Prop:=
 W.cell? ⟨b,off,none⟩=some (.bool t)∧W.cell? ⟨b,off+1,none⟩=some (.string tx)∧W.cell? ⟨b,off+2,none⟩=some (.string sp)∧W.cell? ⟨b,off+3,none⟩=some (.string lo)∧W.cell? ⟨b,off+4,none⟩=some (.slice Aa na ca)∧W.cell? ⟨b,off+5,none⟩=some (.slice Ak nk ck)
section
variable {P Q:Nat→Prop} {W W':World}
theorem acJ.head {t:Bool}{tx sp lo:ByteArray}{ats:List P3}{ks nx:Fo}{b off:Nat}(h:acJ P W (.cons t tx sp lo ats ks nx) b off):(∃ Aa na ca Ak nk ck,Tc6 W b off t tx sp lo Aa na ca Ak nk ck∧Tr1 P W tx sp lo ats ks Aa na ca Ak nk ck)∧acJ P W nx b (off+6):=by
 obtain⟨⟨Aa,na,ca,Ak,nk,ck,h1,h2,h3,h4,h5⟩,h6⟩:=h;exact⟨⟨Aa,na,ca,Ak,nk,ck,h1,⟨h2,h3,h4,h5⟩⟩,h6⟩
theorem acJ.mk {t:Bool}{tx sp lo:ByteArray}{ats:List P3}{ks nx:Fo}{b off:Nat}{Aa:Option Addr}{na ca:Nat}{Ak:Option Addr}{nk ck:Nat}(h1:Tc6 W b off t tx sp lo Aa na ca Ak nk ck)(h2:Tr1 P W tx sp lo ats ks Aa na ca Ak nk ck)(h3:acJ P W nx b (off+6)):acJ P W (.cons t tx sp lo ats ks nx) b off:=
 ⟨⟨Aa,na,ca,Ak,nk,ck,h1,h2.sz,h2.at_,h2.ap,h2.ks⟩,h3⟩
theorem acJ.mono (hPQ:∀ b,P b→Q b):∀ {f:Fo} {b off:Nat},acJ P W f b off→acJ Q W f b off
 | .nil,_,_,_=>trivial
 | .cons t tx sp lo ats ks nx,b,off,h=>by
   obtain⟨⟨Aa,na,ca,Ak,nk,ck,h1,h2,h3,h4,h5,h6,h7,h8,h9,h10⟩,h11⟩:=h
   exact⟨⟨Aa,na,ca,Ak,nk,ck,h1,h2,h3,fun h0 a e=>hPQ _ (h4 h0 a e),h5,h6,h7,h8,h9,fun hn=>by
    obtain⟨b',off',e,hb,hp,hk⟩:=h10 hn;exact⟨b',off',e,hb,hPQ _ hp,acJ.mono hPQ hk⟩⟩,acJ.mono hPQ h11⟩
theorem aby {p:Addr}{u:Value}(h:W.cell? p=some u)(hb:Below W.heap.size W W'):W'.cell? p=some u:=(hb.cell (p:=p) (Lib.lt_of_cell h)).trans h
theorem acJ.keep (hb:Below W.heap.size W W'):∀ {f:Fo} {b off:Nat},acJ P W f b off→acJ P W' f b off
 | .nil,_,_,_=>trivial
 | .cons t tx sp lo ats ks nx,b,off,h=>by
   obtain⟨⟨Aa,na,ca,Ak,nk,ck,h1,h2,h3,h4,h5,h6,h7,h8,h9,h10⟩,h11⟩:=h
   exact⟨⟨Aa,na,ca,Ak,nk,ck,⟨aby h1.1 hb,aby h1.2.1 hb,aby h1.2.2.1 hb,aby h1.2.2.2.1 hb,aby h1.2.2.2.2.1 hb,aby h1.2.2.2.2.2 hb⟩,h2,h3.keep hb,h4,h5,h6,h7,h8,h9,fun hn=>by
    obtain⟨b',off',e,hlt,hp,hk⟩:=h10 hn;exact⟨b',off',e,Nat.lt_of_lt_of_le hlt hb.size,hp,acJ.keep hb hk⟩⟩,acJ.keep hb h11⟩
theorem akb.keep {f:Fo}{A:Option Addr}{n c:Nat}(h:akb P W f A n c)(hb:Below W.heap.size W W'):akb P W' f A n c:=
 ⟨h.1,h.2.1,h.2.2.1,h.2.2.2.1,h.2.2.2.2.1,fun hn=>by
  obtain⟨b',off',e,hlt,hp,hk⟩:=h.2.2.2.2.2 hn;exact⟨b',off',e,Nat.lt_of_lt_of_le hlt hb.size,hp,hk.keep hb⟩⟩
theorem akb.mono {f:Fo}{A:Option Addr}{n c:Nat}(hPQ:∀ b,P b→Q b)(h:akb P W f A n c):akb Q W f A n c:=
 ⟨h.1,h.2.1,h.2.2.1,h.2.2.2.1,h.2.2.2.2.1,fun hn=>by
  obtain⟨b',off',e,hlt,hp,hk⟩:=h.2.2.2.2.2 hn;exact⟨b',off',e,hlt,hPQ _ hp,hk.mono hPQ⟩⟩
theorem Tr1.keep {tx sp lo:ByteArray}{ats:List P3}{ks:Fo}{Aa:Option Addr}{na ca:Nat}{Ak:Option Addr}{nk ck:Nat}(h:Tr1 P W tx sp lo ats ks Aa na ca Ak nk ck)(hb:Below W.heap.size W W'):Tr1 P W' tx sp lo ats ks Aa na ca Ak nk ck:=⟨h.sz,h.at_.keep hb,h.ap,h.ks.keep hb⟩
theorem Tr1.mono {tx sp lo:ByteArray}{ats:List P3}{ks:Fo}{Aa:Option Addr}{na ca:Nat}{Ak:Option Addr}{nk ck:Nat}(hPQ:∀ b,P b→Q b)(h:Tr1 P W tx sp lo ats ks Aa na ca Ak nk ck):Tr1 Q W tx sp lo ats ks Aa na ca Ak nk ck:=⟨h.sz,h.at_,fun h0 a e=>hPQ _ (h.ap h0 a e),h.ks.mono hPQ⟩
theorem RdT.ajL {A:Option Addr}{l:List P3}{row:Option Nat}(h:RdT W A l)(hg:W.grownBy W' row)(hne:0 < l.length→∀ a,A=some a→some a.block≠row):RdT W' A l:=fun k x hk=>by
 obtain⟨b,o,e,hlt,c0,c1,c2⟩:=h k x hk;have hn:some b≠row:=hne (Nat.lt_of_le_of_lt (Nat.zero_le k) (List.getElem?_eq_some_iff.1 hk).1) _ e;exact⟨b,o,e,Nat.lt_of_lt_of_le hlt hg.size,hg.cell c0 hn,hg.cell c1 hn,hg.cell c2 hn⟩
theorem aaC.ajL {A:Option Addr}{n c:Nat}{l:List P3}{row:Option Nat}(h:aaC W A n c l)(hg:W.grownBy W' row)(hne:0 < n→∀ a,A=some a→some a.block≠row):aaC W' A n c l:=⟨h.len,h.lsz,h.cnt,h.xsz,h.rd.ajL hg (fun h0=>hne (by rw[h.len];exact h0)),h.nil⟩
theorem aaC.low {A:Option Addr}{n c:Nat}{l:List P3}(h:aaC W A n c l):AtP (· < W.heap.size) A n:=fun h0 a e=>by
 obtain⟨b,o,e',hlt,_⟩:=h.rd 0 _ (List.getElem?_eq_getElem (show 0 < l.length by rw[← h.len];exact h0));rw[e] at e';injection e' with e'
 rw[e'];exact hlt
theorem acJ.grown {row:Option Nat}(hg:W.grownBy W' row)(hP:∀ b,P b→some b≠row):∀ {f:Fo} {b off:Nat},some b≠row→acJ P W f b off→acJ P W' f b off
 | .nil,_,_,_,_=>trivial
 | .cons t tx sp lo ats ks nx,b,off,hb,h=>by
   obtain⟨⟨Aa,na,ca,Ak,nk,ck,h1,h2,h3,h4,h5,h6,h7,h8,h9,h10⟩,h11⟩:=h
   exact⟨⟨Aa,na,ca,Ak,nk,ck,⟨hg.cell h1.1 hb,hg.cell h1.2.1 hb,hg.cell h1.2.2.1 hb,hg.cell h1.2.2.2.1 hb,hg.cell h1.2.2.2.2.1 hb,hg.cell h1.2.2.2.2.2 hb⟩,h2,h3.ajL hg (fun h0 a e=>hP _ (h4 h0 a e)),h4,h5,h6,h7,h8,h9,fun hn=>by
    obtain⟨b',off',e,hlt,hp,hk⟩:=h10 hn;exact⟨b',off',e,Nat.lt_of_lt_of_le hlt hg.size,hp,acJ.grown hg hP (hP _ hp) hk⟩⟩,acJ.grown hg hP hb h11⟩
theorem akb.grown {row:Option Nat}(hg:W.grownBy W' row)(hP:∀ b,P b→some b≠row){f:Fo}{A:Option Addr}{n c:Nat}(h:akb P W f A n c):akb P W' f A n c:=
 ⟨h.1,h.2.1,h.2.2.1,h.2.2.2.1,h.2.2.2.2.1,fun hn=>by
  obtain⟨b',off',e,hlt,hp,hk⟩:=h.2.2.2.2.2 hn;exact⟨b',off',e,Nat.lt_of_lt_of_le hlt hg.size,hp,hk.grown hg hP (hP _ hp)⟩⟩
theorem acJ.drop:∀ {k:Nat} {f:Fo} {b off:Nat},acJ P W f b off→acJ P W (f.drop k) b (off+k * 6)
 | 0,f,b,off,h=>by rw[Nat.zero_mul,Nat.add_zero];exact h
 | k+1,.nil,b,off,h=>trivial
 | k+1,.cons t tx sp lo ats ks nx,b,off,h=>by
   have:=acJ.drop (k:=k) h.2;rw[show off+(k+1) * 6=off+6+k * 6 by omega];exact this
theorem acJ.app:∀ {f g:Fo} {b off:Nat},acJ P W f b off→acJ P W g b (off+f.len * 6)→acJ P W (f.app g) b off
 | .nil,g,b,off,_,h=>by
   rw[Fo.len,Nat.zero_mul,Nat.add_zero] at h;exact h
 | .cons t tx sp lo ats ks nx,g,b,off,h,h2=>by
   rw[Fo.len,show off+(nx.len+1) * 6=off+6+nx.len * 6 by omega] at h2;exact⟨h.1,acJ.app h.2 h2⟩
theorem akb.at_ {f:Fo}{A:Option Addr}{n c k:Nat}(h:akb P W f A n c)(hk:k < n):∃ t tx sp lo ats ks b off Aa na ca Ak nk ck,f.drop k=.cons t tx sp lo ats ks (f.drop (k+1))∧A=some ⟨b,off,none⟩∧b < W.heap.size∧Tc6 W b (off+k * 6) t tx sp lo Aa na ca Ak nk ck∧Tr1 P W tx sp lo ats ks Aa na ca Ak nk ck:=by
 obtain⟨b,off,e,hlt,hp,hks⟩:=h.2.2.2.2.2 (by omega);obtain⟨t,tx,sp,lo,ats,ks,e1,_⟩:=drop_cons (k:=k) (f:=f) (by rw[← h.1];exact hk);have hd:=hks.drop (k:=k);rw[e1] at hd;obtain⟨⟨Aa,na,ca,Ak,nk,ck,h1,h2⟩,_⟩:=hd.head;exact⟨t,tx,sp,lo,ats,ks,b,off,Aa,na,ca,Ak,nk,ck,e1,e,hlt,h1,h2⟩
end
theorem awh (P:Nat→Prop)(W:World):akb P W .nil none 0 0:=⟨rfl,Nat.zero_le _,Nat.le_refl _,Nat.zero_le _,fun _=>⟨rfl,rfl⟩,fun h=>by omega⟩
end Go.Proofs.YtiaebhomfebagaaGreatDoor.Ev
namespace Go.Proofs.YtiaebhomfebagaaGreatDoor.Ev
open Go.RowKit
theorem azI (v:Bool){c:Int}(h0:0≤c)(h1:c≤255):Byt (agZ v c):=by
 unfold agZ
 repeat' split
 all_goals
  intro x hx;simp only[List.mem_cons,List.not_mem_nil,or_false] at hx;omega
theorem afW (v:Bool):∀ {l:List Int},Byt l→Byt (aaO v l)
 | [],_=>Byt.nil
 | c :: l,h=>by
   unfold aaO;rw[List.flatMap_cons];have hc:=h c List.mem_cons_self;exact(azI v hc.1 hc.2).app (afW v fun x hx=>h x (List.mem_cons_of_mem _ hx))
theorem abX {l:List Int}(h:Byt l):aad (strOfNums l)=l:=aeo _ (fun x hx=>(h x hx).1) (fun x hx=>(h x hx).2)
theorem amn (v:Bool)(s:ByteArray):aad (strOfNums (aaO v (aad s)))=aaO v (aad s):=abX (afW v (Byt.aad s))
structure SpK (s:ByteArray)(e x:Bool):Prop where
 e1:s.toList.isEmpty=e
 e2:(s.toList == [])=e
 e3:(s.toList != [])= !e
 x1:(s.toList == [104,116,116,112,58,47,47,119,119,119,46,119,51,46,111,114,103,47,88,77,76,47,49,57,57,56,47,110,97,109,101,115,112,97,99,101])=x
 x2:(s.toList != [104,116,116,112,58,47,47,119,119,119,46,119,51,46,111,114,103,47,88,77,76,47,49,57,57,56,47,110,97,109,101,115,112,97,99,101])= !x
theorem ani {a b:ByteArray}(h:a.toList=b.toList):a=b:=by
 rw[Lib.toList_data,Lib.toList_data] at h;cases a;cases b;simp only[ByteArray.mk.injEq];exact Array.ext' h
theorem alW:adk.toList=[104,116,116,112,58,47,47,119,119,119,46,119,51,46,111,114,103,47,88,77,76,47,49,57,57,56,47,110,97,109,101,115,112,97,99,101]:=by rw[Lib.toList_data];rfl
theorem axg:emB.toList=[]:=by rw[Lib.toList_data];rfl
theorem spK (s:ByteArray):SpK s (decide (s=emB)) (decide (s=adk)):=by
 have h1:(s.toList == [])=decide (s=emB):=by
  rw[Bool.eq_iff_iff,beq_iff_eq,decide_eq_true_eq];exact⟨fun h=>ani (h.trans axg.symm),fun h=>by rw[h];exact axg⟩
 have h2:(s.toList == [104,116,116,112,58,47,47,119,119,119,46,119,51,46,111,114,103,47,88,77,76,47,49,57,57,56,47,110,97,109,101,115,112,97,99,101])=decide (s=adk):=by
  rw[Bool.eq_iff_iff,beq_iff_eq,decide_eq_true_eq];exact⟨fun h=>ani (h.trans alW.symm),fun h=>by rw[h];exact alW⟩
 refine⟨?_,h1,?_,h2,?_⟩
 · rw[← h1];cases s.toList <;> rfl
 · rw[bne,h1]
 · rw[bne,h2]
theorem anp (s:ByteArray):(s=emB∧okS s=false∧SpK s true false)∨(s=adk∧okS s=false∧SpK s false true)∨(s≠emB∧s≠adk∧okS s=true∧SpK s false false):=by
 have h:=spK s;have hne:emB≠adk:=(by decide);by_cases h1:s=emB
 · have h2:s≠adk:=by rw[h1];exact hne
   rw[decide_eq_true h1,decide_eq_false h2] at h;refine .inl ⟨h1,?_,h⟩;unfold okS;rw[decide_eq_false (fun q=>q h1)];rfl
 by_cases h2:s=adk
 · rw[decide_eq_false h1,decide_eq_true h2] at h;refine .inr (.inl ⟨h2,?_,h⟩);unfold okS;rw[decide_eq_false (p:=s≠adk) (fun q=>q h2),Bool.and_false]
 · rw[decide_eq_false h1,decide_eq_false h2] at h;exact .inr (.inr ⟨h1,h2,agN.2 ⟨h1,h2⟩,h⟩)
theorem axW (a b:ByteArray):(a.toList == b.toList)=decide (a=b):=by
 rw[Bool.eq_iff_iff,beq_iff_eq,decide_eq_true_eq];exact⟨ani,fun h=>by rw[h]⟩
theorem awL {a b:ByteArray}(h:a=b):(a.toList == b.toList)=true:=by rw[axW,decide_eq_true h]
theorem a1R {a b:ByteArray}(h:a≠b):(a.toList == b.toList)=false:=by rw[axW,decide_eq_false h]
theorem a2l {a b:ByteArray}(h:a≠b):(a.toList != b.toList)=true:=by rw[bne,a1R h];rfl
theorem a4T {a b:ByteArray}(h:a=b):(a.toList != b.toList)=false:=by rw[bne,awL h];rfl
theorem aiV {l:List Int}(h:(l.all fun x=>decide (0≤x∧x≤255))=true):Byt l:=fun x hx=>of_decide_eq_true (List.all_eq_true.1 h x hx)
theorem ajA (n:Nat):Byt (dgB n):=fun x hx=>by
 unfold dgB at hx;obtain⟨c,_,rfl⟩:=List.mem_map.1 hx;have:=c.toNat_lt;omega
theorem asL {n:List Int}(h:Byt n)(v:ByteArray):Byt (prB n v):=by
 unfold prB;exact Byt.app (Byt.app (Byt.app (Byt.app (aiV (by decide)) h) (aiV (by decide))) (afW true (Byt.aad v))) (aiV (by decide))
theorem arl (sp lo:ByteArray):Byt (nmB sp lo):=by
 unfold nmB xpB;split
 · exact Byt.app (aiV (by decide)) (Byt.aad lo)
 · exact Byt.aad lo
theorem axo:∀ (l:List ByteArray) (j:Nat),Byt (bdB j l)
 | [],_=>Byt.nil
 | s :: l,j=>Byt.app (asL (Byt.app (aiV (by decide)) (ajA j)) s) (axo l (j+1))
theorem axp (sp:List ByteArray):∀ l:List P3,Byt (asB sp l)
 | []=>Byt.nil
 | a :: l=>Byt.app (asL (by
     unfold aNm xpB;split
     · exact Byt.aad _
     split
     · exact Byt.app (aiV (by decide)) (Byt.aad _)
     · exact Byt.app (Byt.app (Byt.app (aiV (by decide)) (ajA _)) (aiV (by decide))) (Byt.aad _)) a.2) (axp sp l)
theorem axz (sp lo d:ByteArray)(ats:List P3):Byt (hdB sp lo d ats):=by
 unfold hdB;refine Byt.app (Byt.app (Byt.app (Byt.app (aiV (by decide)) (arl sp lo)) ?_) (axo _ _)) (axp _ _);split
 · exact asL (Byt.aad _) _
 · exact Byt.nil
theorem akA:∀ (f:Fo) (d:ByteArray),Byt (txB f d)
 | .nil,_=>Byt.nil
 | .cons t tx sp lo ats ks nx,d=>by
   rw[txB];refine Byt.app ?_ (akA nx d);split
   · exact afW false (Byt.aad tx)
   · refine Byt.app (axz sp lo d ats) ?_;split
     · exact aiV (by decide)
     · exact Byt.app (Byt.app (Byt.app (Byt.app (aiV (by decide)) (akA ks _)) (aiV (by decide))) (arl sp lo)) (aiV (by decide))
end Go.Proofs.YtiaebhomfebagaaGreatDoor.Ev
namespace Go.Proofs.YtiaebhomfebagaaGreatDoor.Ev
open Go.RowKit
theorem a0v:liesAt Tryz.prog Tryz.prog.depth 74 (2 / Tryz.prog.cellsOf 74) 0 72 1=true:=by kernel_rfl
def akf (p:Value)(B b:Nat)(bs:List Int)(w:World):Prop:=
 B≤b∧Byt bs∧∃ x,w.heap[b]?=some (.cells #[p,x] 74 (0,0))∧agn w B x bs∧(bs=[]→x=.slice none 0 0)
def Prt (B b:Nat)(bs:List Int)(w:World):Prop:=akf (.pointer none) B b bs w∨akf (.pointer (some ⟨b,0,none⟩)) B b bs w
structure FrP (B b:Nat)(w w':World):Prop where
 bel:Below B w w'
 oth:Lib.OthersKept 5 (some b) w w'
theorem FrP.refl (B b:Nat)(w:World):FrP B b w w:=⟨Below.refl B w,Lib.OthersKept.refl 5 (some b) w⟩
theorem FrP.trans {B b:Nat}{w w1 w2:World}(h:FrP B b w w1)(k:FrP B b w1 w2):FrP B b w w2:=⟨h.bel.trans k.bel,h.oth.trans k.oth⟩
theorem a2K {B:Nat}{w w':World}{b:Nat}(hb:Below w.heap.size w w'):Lib.OthersKept 5 (some b) w w':=fun k o hk _ _=>(hb.block k (Array.getElem?_eq_some_iff.1 hk).1).trans hk
theorem FrP.of {B b:Nat}{w w':World}(hb:Below w.heap.size w w')(hB:B≤w.heap.size):FrP B b w w':=⟨hb.mono hB,a2K (B:=B) hb⟩
theorem FrP.blk {B b k:Nat}{w w':World}{cs:Array Value}{T:TypeId}{fz:Nat × Nat}(h:FrP B b w w')(hk:w.heap[k]?=some (.cells cs T fz))(hkb:k≠b)(hT:T≠5):w'.heap[k]?=some (.cells cs T fz):=
 h.oth k _ hk (fun e=>hkb (Option.some.inj e)) (fun c z e=>hT (by injection e))
theorem Prt.one {B b:Nat}{bs:List Int}{w:World}(h:Prt B b bs w):∃ p,akf p B b bs w:=by
 rcases h with h | h
 · exact⟨_,h⟩
 · exact⟨_,h⟩
theorem akf.lt {p:Value}{B b:Nat}{bs:List Int}{w:World}(h:akf p B b bs w):b < w.heap.size:=by
 obtain⟨_,_,x,hb,_⟩:=h;exact(Array.getElem?_eq_some_iff.1 hb).1
theorem Prt.lt {B b:Nat}{bs:List Int}{w:World}(h:Prt B b bs w):b < w.heap.size:=by
 obtain⟨p,hp⟩:=h.one;exact hp.lt
theorem akf.keep {p:Value}{B b:Nat}{bs:List Int}{w w':World}(h:akf p B b bs w)(hb:Below w.heap.size w w'):akf p B b bs w':=by
 have hlt:=h.lt;obtain⟨h1,h2,x,h3,h4,h5⟩:=h;exact⟨h1,h2,x,(hb.block b hlt).trans h3,aaj h4 hb,h5⟩
theorem Prt.keep {B b:Nat}{bs:List Int}{w w':World}(h:Prt B b bs w)(hb:Below w.heap.size w w'):Prt B b bs w':=by
 rcases h with h | h
 · exact .inl (h.keep hb)
 · exact .inr (h.keep hb)
theorem ayN (w:World)(B:Nat)(hB:B≤w.heap.size):Prt B w.heap.size [] (w.alloc (.cells #[.pointer none,.slice none 0 0] 74)):=
 .inl ⟨hB,Byt.nil,.slice none 0 0,heap_alloc_new w _,World.ownsRow_nil _ _ _ _,fun _=>rfl⟩
theorem aoA (b:Nat)(w:World)(h0:w.cell? ⟨b,0,none⟩=some (.pointer none))(hsh:w.shape? b=some (74,2))(hfz:w.frozen? ⟨b,0,none⟩=false):
 Calls Tryz.prog 61 #[.pointer (some ⟨b,0,none⟩)] w fun e w'=>e=.returned (.tuple #[])∧w'=w.setCell ⟨b,0,none⟩ (.pointer (some ⟨b,0,none⟩)):=by
 obtain⟨j,hj,hjs⟩:=Option.map_eq_some_iff.1 aln;go_enter Tryz.func61,Tryz.ntmps61;go_wp2;rw[Lib.run_to_unsafe w ⟨b,0,none⟩ Tryz.underlying70 Tryz.underlying145 hj (by rw[hjs];decide) hsh (Nat.zero_lt_succ 1)];simp only[Result.andThen];rw[Oper.upon_value];go_wp2;rw[run_callFunc_extern Tryz.func80 (by kernel_rfl) (by kernel_rfl) (by kernel_rfl) (e:=Extern.AbiNoEscape.same) (by kernel_rfl)];rw[Lib.run_noEscape];simp only[Result.andThen];rw[Oper.upon_value];go_wp2;rw[Lib.run_from_unsafe w ⟨b,0,none⟩ Tryz.underlying145 Tryz.underlying70 hj hsh a0v];simp only[Result.andThen];rw[Oper.upon_value];go_wp2
 go_end0
 exact⟨rfl,rfl⟩
theorem auO (B b:Nat)(bs:List Int)(w:World)(h:Prt B b bs w):
 Calls Tryz.prog 61 #[.pointer (some ⟨b,0,none⟩)] w fun e w'=>e=.returned (.tuple #[])∧akf (.pointer (some ⟨b,0,none⟩)) B b bs w'∧FrP B b w w':=by
 rcases h with h | h
 · have hlt:=h.lt;obtain⟨hB,hby,x,hb,hown,h0⟩:=h;refine(aoA b w (by rw[Lib.cell_of_heap hb];rfl) (by simp[World.shape?,hb]) (Lib.frozen_of_heap hb 0)).mono ?_;rintro e w' ⟨rfl,rfl⟩;refine⟨rfl,⟨hB,hby,x,?_,?_,h0⟩,⟨(Below.refl B w).setCell (p:=⟨b,0,none⟩) hB _,(Lib.OthersKept.refl 5 (some b) w).setCell ⟨b,0,none⟩ rfl _⟩⟩
   · simp[World.setCell,Array.getElem?_modify,hb]
   · exact World.ownsRow.kept (row:=some b) hown ⟨rfl,rfl,rfl,by simp[World.setCell],fun k _ hk=>Below.heap_setCell _ _ _ _ (fun e=>hk (by simp[e]))⟩ (Or.inr (Lib.ownBlock_ne hown hb (by decide)))
 · refine(amE b w ?_).mono ?_
   · obtain⟨_,_,x,hb,_⟩:=h;rw[Lib.cell_of_heap hb];rfl
   · rintro e w' ⟨rfl,rfl⟩;exact⟨rfl,h,FrP.refl B b _⟩
theorem akf.put {p x x':Value}{B b:Nat}{bs:List Int}{w:World}(hB:B≤b)(hby:Byt bs)(hb:w.heap[b]?=some (.cells #[p,x] 74 (0,0)))(hown:agn w B x' bs)(hne:bs=[]→x'=.slice none 0 0):
 akf p B b bs (w.setCell ⟨b,1,none⟩ x'):=by
 refine⟨hB,hby,x',?_,?_,hne⟩
 · simp[World.setCell,Array.getElem?_modify,hb]
 · exact World.ownsRow.kept (row:=some b) hown ⟨rfl,rfl,rfl,by simp[World.setCell],fun k _ hk=>Below.heap_setCell _ _ _ _ (fun e=>hk (by simp[e]))⟩ (Or.inr (Lib.ownBlock_ne hown hb (by decide)))
theorem alS {w:World}{B:Nat}{e:TypeId}{v:Value}{n:Nat}{xs:List Value}(h:w.ownsRow B e 1 v n xs):∀ g,v.ownBlock=some g→∃ c fz,w.heap[g]?=some (.cells c e fz):=by
 intro g hg;rcases h.2 with ⟨rfl,_⟩ | ⟨g',cap,cur,rfl,_,hgg,_⟩
 · simp[Value.ownBlock] at hg
 · simp[Value.ownBlock] at hg;subst hg;exact⟨cur,_,hgg⟩
theorem akW (B b:Nat)(bs:List Int)(s:ByteArray)(w:World)(h:Prt B b bs w)(hB0:B≤w.heap.size)(hl:bs.length+s.size≤17592186044416):
 Calls Tryz.prog 41 #[.pointer (some ⟨b,0,none⟩),.string s] w fun e w'=>e=.returned (.tuple #[.int .i64 s.size,.nilIface])∧Prt B b (bs++aad s) w'∧FrP B b w w':=by
 obtain⟨i0,hi,hz0,hz1,hz2⟩:=info_parts Tryz.info5;go_enter Tryz.func41,Tryz.ntmps41;go_wp2_with (go_at_call 61;refine(auO B b bs _ h).mono ?_);rintro e w1 ⟨rfl,h1,hb1⟩;have hlt:=h1.lt;obtain⟨hB,hby,x,hbk,hown,hx0⟩:=h1;have hne:=Lib.ownBlock_ne hown hbk (by decide);have c0:w1.cell? ⟨b,0,none⟩=some (.pointer (some ⟨b,0,none⟩)):=by rw[Lib.cell_of_heap hbk];rfl
 have c1:w1.cell? ⟨b,1,none⟩=some x:=by rw[Lib.cell_of_heap hbk];rfl
 have hs1:=hb1.bel.size;have HX0:=aac hx0;clear hx0 h;go_wp2_with (at_builtin;refine Lib.wpList_append_own_string _ rfl _ _ 57 9 rfl B 5 i0 Tryz.underlying57 Tryz.underlying9 hi hz0 hz1 hz2 _ _ _ rfl hown s rfl (by unfold maxLen;omega) (by omega) (by omega) ?_);intro v' w2 hown' hgrow hiff;have HI:=aac hiff;clear hiff
 have hb2:w2.heap[b]?=some (.cells #[.pointer (some ⟨b,0,none⟩),x] 74 (0,0)):=by
  rw[hgrow.block b hlt (fun e=>hne e.symm)];exact hbk
 have d0:w2.cell? ⟨b,0,none⟩=some (.pointer (some ⟨b,0,none⟩)):=by rw[Lib.cell_of_heap hb2];rfl
 have d1:w2.cell? ⟨b,1,none⟩=some x:=by rw[Lib.cell_of_heap hb2];rfl
 have f1:w2.frozen? ⟨b,1,none⟩=false:=Lib.frozen_of_heap hb2 1
 obtain⟨A,cap,rfl⟩:∃ A cap,v'=.slice A (bs.length+s.size) cap:=by
  rcases hown'.2 with ⟨h1,h0⟩ | ⟨g,cap,cur,hv,_⟩
  · exact⟨none,0,by rw[h1,h0]⟩
  · exact⟨_,cap,hv⟩
 have R:agn w2 B (.slice A (bs.length+s.size) cap) (bs++aad s):=by
  unfold agn;rw[List.map_append,List.length_append,aae];have e:(aad s).map (Value.int .u8)=Lib.strCells s:=by unfold aad;rw[List.map_map];rfl
  rw[e];exact hown'
 have FG:=aac (akf.put hB (hby.app (Byt.aad s)) hb2 R (fun e=>by
  have h0:=List.append_eq_nil_iff.1 e;have hz:s.size=0:=by rw[← aae,h0.2];rfl
  exact HI.out.2 ⟨HX0.out h0.1,by first | exact hz | exact ByteArray.size_eq_zero_iff.1 hz | simpa using hz⟩))
 have FB:Hid (FrP B b w (w2.setCell ⟨b,1,none⟩ (.slice A (bs.length+s.size) cap))):=aac ⟨(hb1.bel.grown hgrow (by omega) (fun k hk=>(World.ownsRow.lt hown k hk).1)).setCell (p:=⟨b,1,none⟩) hB (.slice A (bs.length+s.size) cap),(hb1.oth.grown hgrow (alS hown)).setCell ⟨b,1,none⟩ rfl _⟩;clear R hown' hgrow hown hb1;go_wp2;go_ret2;exact⟨rfl,.inr FG.out,FB.out⟩
theorem aqV (B b:Nat)(p:Value)(bs:List Int)(w:World)(h:akf p B b bs w)(h0:bs≠[]):
 Calls Tryz.prog 30 #[.pointer (some ⟨b,0,none⟩)] w fun e w'=>e=.returned (.string (strOfNums bs))∧Below B w w':=by
 obtain⟨hB,hby,x,hbk,hown,hx0⟩:=h;clear hx0;unfold agn at hown;rw[aeV];have hl:(bs.map fun x=>UInt8.ofNat x.toNat).length=bs.length:=(by simp);rw[ags hby,← hl] at hown;have hl0:(bs.map fun x=>UInt8.ofNat x.toNat)≠[]:=(by simpa using h0);generalize (bs.map fun x=>UInt8.ofNat x.toNat)=l at *;clear hl h0 hby bs;have hz0:l.length≠0:=by simpa using hl0
 obtain⟨g,cap,cur,rfl,hbg,hg,hnc,hcm,hcs,htake⟩:∃ g cap cur,x=.slice (some ⟨g,0,none⟩) l.length cap∧B≤g∧w.heap[g]?=some (.cells cur 5 (0,0))∧l.length≤cap∧cap≤maxLen∧cur.size=cap * 1∧cur.toList.take (l.length * 1)=Lib.byteCells l:=by
  rcases hown.2 with ⟨_,hz⟩ | ⟨g,cap,cur,hv,r⟩
  · exact absurd hz hz0
  · exact⟨g,cap,cur,hv,r⟩
 have c1:w.drew.cell? ⟨b,1,none⟩=some (.slice (some ⟨g,0,none⟩) l.length cap):=by
  have:w.drew.heap[b]?=some (.cells #[p,.slice (some ⟨g,0,none⟩) l.length cap] 74 (0,0)):=hbk;rw[Lib.cell_of_heap this];rfl
 have hSD:(Builtin.unsafeSliceData_ #[57] 91 #[.slice (some ⟨g,0,none⟩) l.length cap]).run Tryz.prog w.drew=.ok (.pointer (some ⟨g,0,none⟩)) w.drew:=
  Lib.run_unsafeSliceData_row _ _ _ _ _ _ (by omega)
 have hUS:(Builtin.unsafeString_ #[91,3] 9 #[.pointer (some ⟨g,0,none⟩),.int .i64 l.length]).run Tryz.prog w.drew=.ok (.string ⟨l.toArray⟩) (w.drew.freeze ⟨g,0,none⟩ l.length):=by
  refine Lib.run_unsafeString_row w.drew 91 3 9 5 Tryz.underlying91 cellsByte g cur.size (by have hg':w.drew.heap[g]?=some (.cells cur 5 (0,0)):=hg;simp[World.shape?,hg']) l hl0 (by omega) (by unfold maxLen at hcm;omega) ?_;intro j y hy;have:=hown.cells (g:=g) rfl j (.int .u8 y.toNat) (by simp[Lib.byteCells,hy]);exact this
 go_enter Tryz.func30,Tryz.ntmps30;go_wp2;go_region;all_goals (go_wp2;go_ret;exact⟨rfl,Lib.below_freeze (Below.drew (Below.refl B w)) (p:=⟨g,0,none⟩) hbg _⟩)
theorem avJ (B b:Nat)(p:Value)(w:World)(h:akf p B b [] w):
 Calls Tryz.prog 30 #[.pointer (some ⟨b,0,none⟩)] w fun e w'=>e=.returned (.string ⟨#[]⟩)∧Below B w w':=by
 obtain⟨hB,hby,x,hbk,hown,hx⟩:=h;have hx:=hx rfl;subst hx;have hUS:∀ (W:World) (q:Option Addr),(Builtin.unsafeString_ #[91,3] 9 #[.pointer q,.int .i64 0]).run Tryz.prog W=.ok (.string .empty) W:=fun W q=>Lib.run_unsafeString_none W _ _ _ q
 have c1:w.drew.cell? ⟨b,1,none⟩=some (.slice none 0 0):=by
  have:w.drew.heap[b]?=some (.cells #[p,.slice none 0 0] 74 (0,0)):=hbk;rw[Lib.cell_of_heap this];rfl
 have hSD:(Builtin.unsafeSliceData_ #[57] 91 #[.slice none 0 0]).run Tryz.prog w.drew=.ok (.pointer none) w.drew:=rfl;clear hown hby;go_enter Tryz.func30,Tryz.ntmps30;go_wp2;go_region;all_goals (go_wp2;go_ret;exact⟨rfl,Below.drew (Below.refl B w)⟩)
theorem avT (B b:Nat)(bs:List Int)(w:World)(h:Prt B b bs w):
 Calls Tryz.prog 30 #[.pointer (some ⟨b,0,none⟩)] w fun e w'=>e=.returned (.string (strOfNums bs))∧Below B w w':=by
 obtain⟨p,hp⟩:=h.one;by_cases h0:bs=[]
 · subst h0;have:strOfNums []=⟨#[]⟩:=by rw[aeV];rfl
   rw[this];exact avJ B b p w hp
 · exact aqV B b p bs w hp h0
end Go.Proofs.YtiaebhomfebagaaGreatDoor.Ev
namespace Go.Proofs.YtiaebhomfebagaaGreatDoor.Ev
open Go.RowKit
open Go.ChangeMaps
def Lim:Nat:=140737488351232
theorem Tryz.laidOut:laidOutB Tryz.prog=true:=by kernel_rfl
theorem Tryz.azD:(28:TypeId) < Tryz.prog.types.size:=of_decide_eq_true (by kernel_rfl)
theorem Tryz.a4L:(match Tryz.prog.underlying 28 with | some (.array _ _) | some (.struct _)=>true | _=>false)=true:=by rw[Tryz.underlying28]
theorem axD:WideMaps.KeyLaw Tryz.prog 28:=deep_law_laid Tryz.laidOut (m:=2) (by omega) Tryz.azD (by kernel_rfl) Tryz.a4L
theorem Tryz.agw:Tryz.prog.keyType 28=true:=by kernel_rfl
theorem Tryz.sizeT:Tryz.prog.types.size+1=283+1+1:=by kernel_rfl
def kv (n:P2):Value:=.agg #[.string n.1,.string n.2]
theorem aeI (d:Nat)(s:ByteArray)(h:s.size≤maxLen):Tryz.prog.keyLits (d+1) 9 [.string s]=some [.string s.data.toList]:=by
 unfold Program.keyLits;rw[Tryz.underlying9];simp only[h,if_true]
theorem aek (P:Program)(d:Nat)(t:TypeId)(fs:Array Field)(cs:List Value)(h:P.underlying t=some (.struct fs))(hl:cs.length=P.cellsOf t)(hn:fs.all (·.name != "_")=true):
 P.keyLits (d+1) t cs=(fs.toList.mapM fun f=>P.keyLits d f.type ((cs.drop f.offset).take (P.cellsOf f.type))).map List.flatten:=by
 conv=>lhs;unfold Program.keyLits
 rw[h];simp only[hl,hn,and_self,if_true]
theorem agm (d:Nat)(a b:ByteArray)(g1:a.size≤maxLen)(g2:b.size≤maxLen):Tryz.prog.keyLits (d+1+1) 28 [.string a,.string b]=some [.string a.data.toList,.string b.data.toList]:=by
 have e1:=aeI d a g1;have e2:=aeI d b g2;rw[aek Tryz.prog (d+1) 28 _ _ Tryz.underlying28 (by rw[Tryz.cells28];rfl) (by simp)];generalize hq:Tryz.prog.keyLits (d+1)=q at *;simp[Tryz.cells28,Tryz.cells9,e1,e2]
theorem aeG (n:P2)(h1:n.1.size≤Lim)(h2:n.2.size≤Lim):∃ kl,keyOf Tryz.prog 28 (kv n)=some kl:=by
 have g1:n.1.size≤maxLen:=Nat.le_trans h1 (by unfold Lim maxLen;omega);have g2:n.2.size≤maxLen:=Nat.le_trans h2 (by unfold Lim maxLen;omega);have hf:(kv n).formed Tryz.prog 28=true:=(by simp[Value.formed,kv,Tryz.underlying28,Tryz.cells28]);obtain⟨d,hd⟩:∃ d,Tryz.prog.types.size+1=d+1+1:=⟨_,Tryz.sizeT⟩;have hl:=agm d n.1 n.2 g1 g2;rw[← hd] at hl;have hc:(kv n).cells.toList=[.string n.1,.string n.2]:=rfl;refine⟨.string (keyBytes [.string n.1.data.toList,.string n.2.data.toList]),?_⟩;unfold keyOf;rw[Tryz.underlying28];show (if (Tryz.prog.keyType 28 && (kv n).formed Tryz.prog 28)=true then _ else _)=_;rw[Tryz.agw,hf,Bool.and_self,if_pos rfl,hc,hl];rfl
theorem asZ {a b:P2}(h:kv a=kv b):a=b:=by
 unfold kv at h;injection h with h
 have:=congrArg Array.toList h;simp at this;exact Prod.ext this.1 this.2
def aaL (w:World)(b:Nat)(l:List P2):Prop:=
 (∀ n∈l,n.1.size≤Lim∧n.2.size≤Lim)∧∃ es clock,w.heap[b]?=some (.map es clock)∧es.toList.map (·.key)=l.map kv∧(∀ e∈es.toList,e.val=.int .i64 1)∧(∀ e∈es.toList,e.born < clock)
theorem aia (w:World):aaL (w.alloc (.map #[] 0)) w.heap.size []:=
 ⟨fun n hn=>by simp at hn,#[],0,heap_alloc_new w _,rfl,fun e he=>by simp at he,fun e he=>by simp at he⟩
theorem aaL.lt {w:World}{b:Nat}{l:List P2}(h:aaL w b l):b < w.heap.size:=by
 obtain⟨_,es,clock,h,_⟩:=h;exact(Array.getElem?_eq_some_iff.1 h).1
theorem aaL.keep {w w':World}{b:Nat}{l:List P2}(h:aaL w b l)(hb:Below w.heap.size w w'):aaL w' b l:=by
 have hlt:=h.lt;obtain⟨h1,es,clock,h2,h3⟩:=h;exact⟨h1,es,clock,(hb.block b hlt).trans h2,h3⟩
theorem aaL.ajL {w w':World}{b:Nat}{l:List P2}{row:Option Nat}(h:aaL w b l)(hb:w.grownBy w' row)(hne:some b≠row):aaL w' b l:=by
 have hlt:=h.lt;obtain⟨h1,es,clock,h2,h3⟩:=h;exact⟨h1,es,clock,(hb.block b hlt hne).trans h2,h3⟩
theorem aaL.ne {w:World}{b:Nat}{l:List P2}(h:aaL w b l){B:Nat}{e:TypeId}{z n:Nat}{v:Value}{xs:List Value}(ho:w.ownsRow B e z v n xs):some b≠v.ownBlock:=by
 obtain⟨_,es,clock,h2,_⟩:=h;rcases ho.2 with ⟨rfl,_⟩ | ⟨g,cap,cur,rfl,_,hg,_⟩
 · simp[Value.ownBlock]
 · intro hh;simp only[Value.ownBlock,Option.some.injEq] at hh;subst hh;rw[hg] at h2;cases h2
theorem aaA (w:World)(b:Nat)(o:Obj):w.grownBy (setBlock w b o) (some b):=
 ⟨rfl,rfl,rfl,by simp[setBlock],fun k hk hne=>by
  have:k≠b:=fun e=>hne (by rw[e]);simp[setBlock,Array.getElem?_setIfInBounds,Ne.symm this]⟩
theorem anN (w:World):(zeroValue 3).run Tryz.prog w=.ok (.int .i64 0) w:=by kernel_rfl
theorem aed {es:Array MapEntry}{l:List P2}(h:es.toList.map (·.key)=l.map kv){n:P2}:(∃ e∈es.toList,e.key=kv n)↔n∈l:=by
 constructor
 · rintro ⟨e,he,hk⟩;have:kv n∈l.map kv:=by rw[← h,← hk];exact List.mem_map_of_mem he
   obtain⟨m,hm,hh⟩:=List.mem_map.1 this;rw[← asZ hh];exact hm
 · intro hn;have:kv n∈es.toList.map (·.key):=by rw[h];exact List.mem_map_of_mem hn
   obtain⟨e,he,hh⟩:=List.mem_map.1 this;exact⟨e,he,hh⟩
theorem adf {es:Array MapEntry}{l:List P2}(h:es.toList.map (·.key)=l.map kv)(hl:∀ n∈l,n.1.size≤Lim∧n.2.size≤Lim):∀ e∈es.toList,∃ kl,keyOf Tryz.prog 28 e.key=some kl:=fun e he=>by
 have:e.key∈l.map kv:=by rw[← h];exact List.mem_map_of_mem he
 obtain⟨m,hm,hh⟩:=List.mem_map.1 this;rw[← hh];exact aeG m (hl m hm).1 (hl m hm).2
theorem aiD {w:World}{b:Nat}{l:List P2}(h:aaL w b l){n:P2}(hn:n∈l):(Instr.lookup 80 (.map (some b)) (.agg #[.string n.1,.string n.2]) false).run Tryz.prog w=.ok (.int .i64 1) w:=by
 obtain⟨hl,es,clock,hb,hk,hv,_⟩:=h;obtain⟨kl,hkl⟩:=aeG n (hl n hn).1 (hl n hn).2;show (Instr.lookup 80 (.map (some b)) (kv n) false).run Tryz.prog w=_;rcases axD.find w hkl es.toList (adf hk hl) with ⟨_,h2⟩ | ⟨j,e0,h1,h2,h3⟩
 · obtain⟨e,he,hh⟩:=(aed hk).2 hn;exact absurd hh (h2 e he)
 · have:=hv e0 (List.mem_of_getElem? h2);simp[Instr.lookup,run_underlying Tryz.underlying80,MapKept.run_getObj_map hb,axD.check w _ hkl,h1,this,Result.andThen]
theorem akx {w:World}{b:Nat}{l:List P2}(h:aaL w b l){n:P2}(hn:¬ n∈l)(z1:n.1.size≤Lim)(z2:n.2.size≤Lim):(Instr.lookup 80 (.map (some b)) (.agg #[.string n.1,.string n.2]) false).run Tryz.prog w=.ok (.int .i64 0) w:=by
 obtain⟨hl,es,clock,hb,hk,hv,_⟩:=h;obtain⟨kl,hkl⟩:=aeG n z1 z2;show (Instr.lookup 80 (.map (some b)) (kv n) false).run Tryz.prog w=_;rcases axD.find w hkl es.toList (adf hk hl) with ⟨h1,h2⟩ | ⟨j,e0,h1,h2,h3⟩
 · simp[Instr.lookup,run_underlying Tryz.underlying80,MapKept.run_getObj_map hb,axD.check w _ hkl,h1,anN,Result.andThen]
 · exact absurd ((aed hk).1 ⟨e0,List.mem_of_getElem? h2,h3⟩) hn
theorem ahI {w:World}{b:Nat}{l:List P2}(h:aaL w b l){n:P2}(hn:¬ n∈l)(z1:n.1.size≤Lim)(z2:n.2.size≤Lim):
 ∃ (st:Nat) (W1 W2:World),(Instr.mapEntry 80 (.map (some b)) (.agg #[.string n.1,.string n.2])).run Tryz.prog w=.ok (.tuple #[.int .i64 0,.int .i64 (st:Int)]) W1∧
   (Instr.lookup 80 (.map (some b)) (.agg #[.string n.1,.string n.2]) false).run Tryz.prog W1=.ok (.int .i64 0) W1∧
   (Instr.entryStore 80 (.map (some b)) (.int .i64 (st:Int)) (.int .i64 1)).run Tryz.prog W1=.ok () W2∧aaL W2 b (l++[n])∧w.grownBy W1 (some b)∧w.grownBy W2 (some b):=by
 obtain⟨hl,es,clock,hb,hk,hv,hbo⟩:=h;obtain⟨kl,hkl⟩:=aeG n z1 z2;have hn2:∀ e∈es.toList,e.key≠kv n:=fun e he hh=>hn ((aed hk).1 ⟨e,he,hh⟩)
 have h1:(Instr.findKey 28 (kv n) es.toList).run Tryz.prog w=.ok none w:=by
  rcases axD.find w hkl es.toList (adf hk hl) with ⟨h1,_⟩ | ⟨j,e0,_,h2,h3⟩
  · exact h1
  · exact absurd h3 (hn2 e0 (List.mem_of_getElem? h2))
 have hb1:(setBlock w b (.map (es.push ⟨kv n,.int .i64 0,clock⟩) (clock+1))).heap[b]?=some (.map (es.push ⟨kv n,.int .i64 0,clock⟩) (clock+1)):=heap_setBlock_same hb _;have hk1:(es.push ⟨kv n,.int .i64 0,clock⟩).toList.map (·.key)=(l++[n]).map kv:=by simp[hk]
 have hl1:∀ m∈l++[n],m.1.size≤Lim∧m.2.size≤Lim:=fun m hm=>by
  rcases List.mem_append.1 hm with hm | hm
  · exact hl m hm
  · rw[List.mem_singleton] at hm;subst hm;exact⟨z1,z2⟩
 refine⟨clock,setBlock w b (.map (es.push ⟨kv n,.int .i64 0,clock⟩) (clock+1)),setBlock (setBlock w b (.map (es.push ⟨kv n,.int .i64 0,clock⟩) (clock+1))) b (.map (es.push ⟨kv n,.int .i64 1,clock⟩) (clock+1)),?_,?_,?_,⟨hl1,es.push ⟨kv n,.int .i64 1,clock⟩,clock+1,heap_setBlock_same hb1 _,by simp[hk],?_,?_⟩,aaA _ _ _,?_⟩
 · show (Instr.mapEntry 80 (.map (some b)) (kv n)).run Tryz.prog w=_;simp[Instr.mapEntry,run_underlying Tryz.underlying80,MapKept.run_getObj_map hb,axD.check w false hkl,h1,anN,MapKept.run_setObj_map _ hb,Result.andThen,setBlock,goInt]
 · show (Instr.lookup 80 (.map (some b)) (kv n) false).run Tryz.prog _=_;rcases axD.find (setBlock w b (.map (es.push ⟨kv n,.int .i64 0,clock⟩) (clock+1))) hkl (es.push ⟨kv n,.int .i64 0,clock⟩).toList (adf hk1 hl1) with ⟨_,h2⟩ | ⟨j,e0,g1,g2,g3⟩
   · exact absurd rfl (h2 ⟨kv n,.int .i64 0,clock⟩ (by simp))
   · have:e0.val=.int .i64 0:=by
      have hm:=List.mem_of_getElem? g2;rw[Array.toList_push,List.mem_append,List.mem_singleton] at hm;rcases hm with hm | hm
      · exact absurd g3 (hn2 e0 hm)
      · rw[hm]
     rw[this,Array.toList_push] at g1;simp[Instr.lookup,run_underlying Tryz.underlying80,MapKept.run_getObj_map hb1,axD.check _ _ hkl,g1,Result.andThen]
 · have hidx:(es.push ⟨kv n,.int .i64 0,clock⟩).findIdx? (fun e=>((e.born:Nat):Int) == ((clock:Nat):Int))=some es.size:=by
    rw[WideElems.findIdx_arr,Array.toList_push,List.findIdx?_append]
    have e1:es.toList.findIdx? (fun e=>((e.born:Nat):Int) == ((clock:Nat):Int))=none:=by
     rw[List.findIdx?_eq_none_iff];intro e he;have:=hbo e he;rw[beq_eq_false_iff_ne];omega
    rw[e1];simp
   have hmod:(es.push ⟨kv n,.int .i64 0,clock⟩).modify es.size (fun e=>{ e with val:=.int .i64 1 })=es.push ⟨kv n,.int .i64 1,clock⟩:=by
    apply Array.ext';rw[Array.toList_modify,Array.toList_push,Array.toList_push,← Array.length_toList,WideElems.modify_last]
   simp[Instr.entryStore,MapKept.run_getObj_map hb1,asInt,asIntOf,hidx,hmod,MapKept.run_setObj_map _ hb1,Result.andThen];rfl
 · intro e he;rw[Array.toList_push,List.mem_append,List.mem_singleton] at he;rcases he with he | he
   · exact hv e he
   · rw[he]
 · intro e he;rw[Array.toList_push,List.mem_append,List.mem_singleton] at he;rcases he with he | he
   · have:=hbo e he;omega
   · rw[he];exact Nat.lt_succ_self _
 · have g1:=aaA w b (.map (es.push ⟨kv n,.int .i64 0,clock⟩) (clock+1));have g2:=aaA (setBlock w b (.map (es.push ⟨kv n,.int .i64 0,clock⟩) (clock+1))) b (.map (es.push ⟨kv n,.int .i64 1,clock⟩) (clock+1));exact⟨g2.os.trans g1.os,g2.tape.trans g1.tape,g2.output.trans g1.output,Nat.le_trans g1.size g2.size,fun i hi hne=>(g2.block i (Nat.lt_of_lt_of_le hi g1.size) hne).trans (g1.block i hi hne)⟩
end Go.Proofs.YtiaebhomfebagaaGreatDoor.Ev
namespace Go.Proofs.YtiaebhomfebagaaGreatDoor.Ev
open Go.RowKit
open Go.ChangeMaps
theorem axB:∀ {l:List ByteArray} {j:Nat} {s:ByteArray},l.Nodup→l[j]?=some s→ixS l s=j
 | [],j,s,_,h=>by simp at h
 | a :: l,0,s,_,h=>by
   rw[List.getElem?_cons_zero] at h;injection h with h
   rw[ixS,if_pos h]
 | a :: l,j+1,s,hn,h=>by
   rw[List.getElem?_cons_succ] at h;rw[List.nodup_cons] at hn;rw[ixS,if_neg (by intro e;exact hn.1 (by rw[e];exact List.mem_of_getElem? h)),axB hn.2 h]
def adr (w:World)(b:Nat)(l:List ByteArray):Prop:=
 l.Nodup∧∃ es clock,w.heap[b]?=some (.map es clock)∧es.toList.map (·.key)=l.map Value.string∧∀ (j:Nat) (e:MapEntry),es.toList[j]?=some e→e.val=.int .i64 j
theorem auI (w:World):adr (w.alloc (.map #[] 0)) w.heap.size []:=
 ⟨List.nodup_nil,#[],0,heap_alloc_new w _,rfl,fun j e he=>by simp at he⟩
theorem adr.lt {w:World}{b:Nat}{l:List ByteArray}(h:adr w b l):b < w.heap.size:=by
 obtain⟨_,es,clock,h,_⟩:=h;exact(Array.getElem?_eq_some_iff.1 h).1
theorem adr.len {w:World}{b:Nat}{l:List ByteArray}(h:adr w b l):∃ es clock,w.heap[b]?=some (.map es clock)∧es.size=l.length:=by
 obtain⟨_,es,clock,h,hk,_⟩:=h;refine⟨es,clock,h,?_⟩;have:=congrArg List.length hk
 simpa using this
theorem adr.keep {w w':World}{b:Nat}{l:List ByteArray}(h:adr w b l)(hb:Below w.heap.size w w'):adr w' b l:=by
 have hlt:=h.lt;obtain⟨h1,es,clock,h2,h3⟩:=h;exact⟨h1,es,clock,(hb.block b hlt).trans h2,h3⟩
theorem adr.a4O {w w':World}{b p B:Nat}{l:List ByteArray}(h:adr w b l)(hf:FrP B p w w')(hne:b≠p):adr w' b l:=by
 obtain⟨h1,es,clock,h2,h3⟩:=h;exact⟨h1,es,clock,hf.oth b _ h2 (fun e=>hne (Option.some.inj e)) (fun c z e=>by cases e),h3⟩
theorem isS {es:Array MapEntry}{l:List ByteArray}(h:es.toList.map (·.key)=l.map Value.string):∀ x∈es.toList,MapKept.IsKey .string x.key:=fun x hx=>by
 have:x.key∈l.map Value.string:=by rw[← h];exact List.mem_map_of_mem hx
 obtain⟨s,_,e⟩:=List.mem_map.1 this;rw[← e];trivial
theorem akE {es:Array MapEntry}{l:List ByteArray}(h:es.toList.map (·.key)=l.map Value.string){j:Nat}{e:MapEntry}{s:ByteArray}(he:es.toList[j]?=some e)(hk:e.key=.string s):l[j]?=some s:=by
 have h1:(es.toList.map (·.key))[j]?=some (.string s):=(by rw[List.getElem?_map,he,Option.map_some,hk]);rw[h,List.getElem?_map] at h1;obtain⟨u,hu,e1⟩:=Option.map_eq_some_iff.1 h1;injection e1 with e1
 rw[hu,e1]
theorem amG {w:World}{b:Nat}{l:List ByteArray}(h:adr w b l){s:ByteArray}(hs:s∈l)(ok:Bool):(Instr.lookup 115 (.map (some b)) (.string s) ok).run Tryz.prog w=.ok (if ok=true then .tuple #[.int .i64 (ixS l s),.bool true] else .int .i64 (ixS l s)) w:=by
 obtain⟨hn,es,clock,hb,hk,hv⟩:=h;have hks:MapKept.IsKey .string (.string s):=trivial;rcases MapKept.findNow_spec hks es.toList 0 (isS hk) with ⟨h1,h2⟩ | ⟨j,e,h1,h2,h3⟩
 · exfalso;have:Value.string s∈es.toList.map (·.key):=by rw[hk];exact List.mem_map_of_mem hs
   obtain⟨x,hx,e⟩:=List.mem_map.1 this;exact h2 x hx e
 · have hj:=axB hn (akE hk h2 h3);have hval:=hv j e h2;rw[hj];rw[hval] at h1;cases ok
   · simp[Instr.lookup,run_underlying Tryz.underlying115,MapKept.run_getObj_map hb,MapKept.run_checkKey Tryz.underlying9 hks,MapKept.run_findKey Tryz.underlying9 h1,Result.andThen]
   · simp[Instr.lookup,run_underlying Tryz.underlying115,MapKept.run_getObj_map hb,MapKept.run_checkKey Tryz.underlying9 hks,MapKept.run_findKey Tryz.underlying9 h1,Result.andThen]
theorem azo {w:World}{b:Nat}{l:List ByteArray}(h:adr w b l){s:ByteArray}(hs:s ∉ l):(Instr.lookup 115 (.map (some b)) (.string s) true).run Tryz.prog w=.ok (.tuple #[.int .i64 0,.bool false]) w:=by
 obtain⟨hn,es,clock,hb,hk,hv⟩:=h;have hks:MapKept.IsKey .string (.string s):=trivial;rcases MapKept.findNow_spec hks es.toList 0 (isS hk) with ⟨h1,h2⟩ | ⟨j,e,h1,h2,h3⟩
 · simp[Instr.lookup,run_underlying Tryz.underlying115,MapKept.run_getObj_map hb,MapKept.run_checkKey Tryz.underlying9 hks,MapKept.run_findKey Tryz.underlying9 h1,anN,Result.andThen]
 · exact absurd (List.mem_of_getElem? (akE hk h2 h3)) hs
theorem ayq {w:World}{b:Nat}{l:List ByteArray}(h:adr w b l){s:ByteArray}(hs:s ∉ l):∃ W,(Instr.mapUpdate 115 (.map (some b)) (.string s) (.int .i64 l.length)).run Tryz.prog w=.ok () W∧adr W b (l++[s])∧w.grownBy W (some b):=by
 obtain⟨hn,es,clock,hb,hk,hv⟩:=h;have hks:MapKept.IsKey .string (.string s):=trivial;have hl:es.toList.length=l.length:=(by simpa using congrArg List.length hk);rcases MapKept.findNow_spec hks es.toList 0 (isS hk) with ⟨h1,h2⟩ | ⟨j,e,h1,h2,h3⟩
 · refine⟨setBlock w b (.map (es.push ⟨.string s,.int .i64 l.length,clock⟩) (clock+1)),?_,⟨?_,es.push ⟨.string s,.int .i64 l.length,clock⟩,clock+1,heap_setBlock_same hb _,by simp[hk],?_⟩,aaA _ _ _⟩
   · simp[Instr.mapUpdate,run_underlying Tryz.underlying115,MapKept.run_getObj_map hb,MapKept.run_checkKey Tryz.underlying9 hks,MapKept.run_findKey Tryz.underlying9 h1,MapKept.run_setObj_map _ hb,Result.andThen,setBlock]
   · rw[List.nodup_append];exact⟨hn,by simp,fun x hx y hy e=>hs (by rw[List.mem_singleton.1 hy] at e;exact e ▸ hx)⟩
   · intro j e he;rw[Array.toList_push] at he;rcases Nat.lt_or_ge j es.toList.length with g | g
     · rw[List.getElem?_append_left g] at he;exact hv j e he
     · rw[List.getElem?_append_right g] at he
       have hj:j - es.toList.length=0:=by
        rcases Nat.eq_zero_or_pos (j - es.toList.length) with q | q
        · exact q
        · rw[List.getElem?_eq_none (by show 1≤_;omega)] at he;cases he
       rw[hj,List.getElem?_cons_zero] at he;injection he with he
       rw[← he];show Value.int .i64 (l.length:Int)=.int .i64 (j:Int);rw[show j=l.length by omega]
 · exact absurd (List.mem_of_getElem? (akE hk h2 h3)) hs
theorem afb (B b:Nat)(bs:List Int)(n v:ByteArray)(w:World)(h:Prt B b bs w)(hB:B≤w.heap.size)(hn:n.size≤1073741824)(hv:v.size≤1048576)(hl:bs.length+(prB (aad n) v).length≤17592186044416):
 Calls Tryz.prog 43 #[.pointer (some ⟨b,0,none⟩),.string n,.string v] w fun e w'=>e=.returned (.tuple #[])∧Prt B b (bs++prB (aad n) v) w'∧FrP B b w w':=by
 have CQ:Hid (∀ W,Calls Tryz.prog 63 #[.string v] W fun e w'=>e=.returned (.string (strOfNums (aaO true (aad v))))∧Below W.heap.size W w'):=aac fun W=>ash v W hv;have HE:=aac (amn true v)
 have hq:(strOfNums (aaO true (aad v))).size≤6 * v.size:=by
  have:=adS true (aad v);rw[aae] at this;rw[← aae,HE.out];exact this
 have HP:Hid (prB (aad n) v=[32]++aad n++[61,34]++aad (strOfNums (aaO true (aad v)))++[34]):=aac (by rw[HE.out];rfl);rw[HP.out] at hl ⊢;clear HE HP;generalize strOfNums (aaO true (aad v))=O at *;have HL:=aac hl
 have CW:Hid (∀ W,Prt B b bs W→B≤W.heap.size→Calls Tryz.prog 41 #[.pointer (some ⟨b,0,none⟩),.string ((((⟨#[32]⟩++n)++⟨#[61,34]⟩)++O)++⟨#[34]⟩)] W fun e w'=>(∃ m:Int,e=.returned (.tuple #[.int .i64 m,.nilIface]))∧Prt B b (bs++([32]++aad n++[61,34]++aad O++[34])) w'∧FrP B b W w'):=aac fun W hP hB=>by
  have e:aad ((((⟨#[32]⟩++n)++⟨#[61,34]⟩)++O)++⟨#[34]⟩)=[32]++aad n++[61,34]++aad O++[34]:=by
   simp only[aaq];rfl
  have:=akW B b bs ((((⟨#[32]⟩++n)++⟨#[61,34]⟩)++O)++⟨#[34]⟩) W hP hB (by rw[← aae,e];exact HL.out);rw[e] at this;exact this.mono fun e w' ⟨h1,h2,h3⟩=>⟨⟨_,h1⟩,h2,h3⟩
 have HG:=aac h;clear h hl HL;generalize bs++([32]++aad n++[61,34]++aad O++[34])=L at *;have n1:¬ 9223372036854775807 < 1+n.size:=(by omega);have n2:¬ 9223372036854775807 < 1+n.size+2:=(by omega);have n3:¬ 9223372036854775807 < 1+n.size+2+O.size:=(by omega);have n4:¬ 9223372036854775807 < 1+n.size+2+O.size+1:=(by omega);go_enter Tryz.func43,Tryz.ntmps43;go_wp2_with fail
 go_region_held3 (fun _=>True) (trivial) (first | (go_at_call 41;refine(CW.out w2 (HG.out.keep ((Below.drew (Below.refl w.heap.size w)).trans b2)) (Nat.le_trans hB b2.size)).mono ?_;rintro e w3 ⟨⟨m,rfl⟩,h3,f3⟩) | (go_at_call 63;refine(CQ.out _).mono ?_;rintro e w2 ⟨rfl,b2⟩))
 go_wp2
 go_end0
 exact⟨rfl,h3,(FrP.of (B:=B) ((Below.drew (Below.refl w.heap.size w)).trans b2) hB).trans f3⟩
end Go.Proofs.YtiaebhomfebagaaGreatDoor.Ev
