/- Lemmas of the claim. -/
import Derived.Test.YtiaebhomfebagaaGreatDoorG11
import Derived.Test.YtiaebhomfebagaaGreatDoorG02
import Derived.Test.YtiaebhomfebagaaGreatDoorG01
import Derived.Test.YtiaebhomfebagaaGreatDoorG05
import Derived.Test.YtiaebhomfebagaaGreatDoorG04
import Derived.Deep.RegionLaw
import Derived.Lib.Hide
import Derived.Deep.DeepCutAuto
import Derived.Laws.AppendOwn
import Derived.Deep.QuietTactic
import Derived.BigQuiet
set_option maxHeartbeats 4000000
set_option maxRecDepth 100000
set_option linter.unusedSimpArgs false
set_option linter.unusedVariables false
namespace Go.Proofs.YtiaebhomfebagaaGreatDoor.Tg
open Go.RowKit
theorem adz:∀ (l:List (ByteArray × ByteArray)) (k i:Nat) (t:ByteArray × ByteArray),l[k]?=some t→i < 2→(rwL l)[k * 2+i]?=(rwC t)[i]?
 | [],k,i,t,h,_=>by simp at h
 | x :: l,0,i,t,h,hi=>by
   have:x=t:=(by simpa using h);subst this;unfold rwL;rw[List.flatMap_cons,Nat.zero_mul,Nat.zero_add,List.getElem?_append_left (by show i < 2;exact hi)]
 | x :: l,k+1,i,t,h,hi=>by
   have h':l[k]?=some t:=(by simpa using h);have:=adz l k i t h' hi;unfold rwL at this ⊢;rw[List.flatMap_cons,List.getElem?_append_right (by show 2≤(k+1) * 2+i;omega),← this]
   congr 1
   show (k+1) * 2+i - 2=k * 2+i;omega
def RdR (w:World)(A:Option Addr)(l:List (ByteArray × ByteArray)):Prop:=
 ∀ k x,l[k]?=some x→∃ b off,A=some ⟨b,off,none⟩∧b < w.heap.size∧w.cell? ⟨b,off+k * 2,none⟩=some (.string x.1)∧w.cell? ⟨b,off+k * 2+1,none⟩=some (.string x.2)
theorem abI {w:World}{B:Nat}{v:Value}{l:List (ByteArray × ByteArray)}(h:amW w B v l):∃ A c,v=.slice A l.length c∧RdR w A l:=by
 have h':w.ownsRow B 167 2 v l.length (rwL l):=h;rcases h'.2 with ⟨rfl,h0⟩ | ⟨g,cap,cur,rfl,hB,_⟩
 · refine⟨none,0,by rw[h0],fun k x hk=> ?_⟩;rw[List.eq_nil_of_length_eq_zero h0] at hk;simp at hk
 · refine⟨_,cap,rfl,fun k x hk=>⟨g,0,rfl,(h'.lt g rfl).2,?_⟩⟩;have hlt:k < l.length:=(List.getElem?_eq_some_iff.1 hk).1;exact⟨by rw[Nat.zero_add];exact(h'.cellAt (k * 2) (by omega)).trans (adz l k 0 x hk (by omega)),by rw[Nat.zero_add];exact(h'.cellAt (k * 2+1) (by omega)).trans (adz l k 1 x hk (by omega))⟩
theorem RdR.keep {w w':World}{A:Option Addr}{l:List (ByteArray × ByteArray)}(h:RdR w A l)(hb:Below w.heap.size w w'):RdR w' A l:=fun k t hk=>by
 obtain⟨b,o,e,hlt,c0,c1⟩:=h k t hk;exact⟨b,o,e,Nat.lt_of_lt_of_le hlt hb.size,(hb.cell (p:=⟨b,o+k * 2,none⟩) hlt).trans c0,(hb.cell (p:=⟨b,o+k * 2+1,none⟩) hlt).trans c1⟩
theorem apL (x y nm:ByteArray)(p:Nat)(b:Bool)(w:World)(hp:w.cell? ⟨p,0,none⟩=some (.string nm))(hlt:p < w.heap.size)(hb:decide (aad x=aad nm)=b):
 Calls Tryz.prog 127 #[.agg #[.string x,.string y],.pointer (some ⟨p,0,none⟩)] w fun e w'=>e=.returned (.bool b)∧Below w.heap.size w w':=by
 have hq:(x.toList == nm.toList)=b:=(eqS x nm).trans hb;have hz:¬ p=w.heap.size:=(by omega);have HB:=aac ((Below.refl w.heap.size w).alloc (Nat.le_refl _) (.cells #[.string x,.string y] 167));clear hb;go_enter Tryz.func127,Tryz.ntmps127;go_wp2;go_ret;exact⟨rfl,HB.out⟩
def a4V (n:Nat)(l:List (ByteArray × ByteArray))(nm:ByteArray)(p:Nat)(A:Option Addr)(w:World)(i:Value)(wr:World):Prop:=
 ∃ k:Nat,i=.int .i64 k∧k≤n∧Hid (RdR wr A l)∧wr.cell? ⟨p,0,none⟩=some (.string nm)∧p < wr.heap.size∧Hid (Below w.heap.size w wr)∧Hid (∀ j x,j < k→l[j]?=some x→aad x.1≠aad nm)
def a2g (b:Bool)(w:World)(e:Ending)(w':World):Prop:=∃ i:Int,e=.returned (.int .i64 i)∧decide (0≤i)=b∧Below w.heap.size w w'
theorem aoW {nm:ByteArray}{l:List (ByteArray × ByteArray)}(h:∀ j x,j < l.length→l[j]?=some x→aad x.1≠aad nm):adK nm l=false:=by
 unfold adK;rw[List.any_eq_false];intro x hx;obtain⟨j,hj⟩:=List.getElem?_of_mem hx;have:=h j x (List.getElem?_eq_some_iff.1 hj).1 hj
 simpa using this
theorem atU {nm:ByteArray}{l:List (ByteArray × ByteArray)}{k:Nat}{x:ByteArray × ByteArray}(h:l[k]?=some x)(he:aad x.1=aad nm):adK nm l=true:=by
 unfold adK;rw[List.any_eq_true];exact⟨x,List.mem_of_getElem? h,by simpa using he⟩
theorem afJ (l:List (ByteArray × ByteArray))(nm:ByteArray)(n cap p:Nat)(A:Option Addr)(w:World)(hn:n=l.length)(hl:n≤2000000000)(h1:RdR w A l)(hp:w.cell? ⟨p,0,none⟩=some (.string nm))(hlt:p < w.heap.size):
 Calls Tryz.prog 155 #[.slice A n cap,.func (.func 127) #[] #[.pointer (some ⟨p,0,none⟩)]] w (a2g (adK nm l) w):=by
 have H1:=aac h1;have HN:=aac hn;clear h1 hn;go_enter Tryz.func155,Tryz.ntmps155;go_wp2_with fail;go_loopw [8] (fun i wr=>a4V n l nm p A w i wr) (fun i _=>n - (intOf i).toNat);case atStart=>exact⟨0,rfl,Nat.zero_le _,H1,hp,hlt,aac (Below.refl _ _),aac (fun j x hj=>absurd hj (Nat.not_lt_zero _))⟩
 case round=>
  obtain⟨k,rfl,hk,hR,hpr,hplt,hB,hN⟩:=hrel;clear hp hlt H1;by_cases hlt:k < n
  · have hkl:k < l.length:=by rw[← HN.out];exact hlt
    obtain⟨b1,o1,rfl,hb1,x0,x1⟩:=hR.out k _ (List.getElem?_eq_getElem hkl);have HK:=aac (List.getElem?_eq_getElem hkl);have d1:(k:Int) < (n:Int):=(by omega);have d0:(0:Int)≤(k:Int):=(by omega);generalize l[k]=t at *;obtain⟨tn,tv⟩:=t;dsimp only at x0 x1;by_cases he:aad tn=aad nm
    · have C:=aac (fun W hp hl=>apL tn tv nm p true W hp hl (decide_eq_true he));have HH:=aac (atU (nm:=nm) HK.out he);clear he;go_wp2_with (first | (go_at_call 127;refine(C.out _ hpr hplt).mono ?_;rintro e w' ⟨rfl,hb⟩));go_ret;exact⟨_,rfl,by rw[HH.out,decide_eq_true d0],hB.out.trans (hb.mono hB.out.size)⟩
    · have C:=aac (fun W hp hl=>apL tn tv nm p false W hp hl (decide_eq_false he));have HH:=aac he;clear he;go_wp2_with (first | (go_at_call 127;refine(C.out _ hpr hplt).mono ?_;rintro e w' ⟨rfl,hb⟩));go_roundw
      case rel=>
       refine⟨k+1,by go_num,by omega,aac (hR.out.keep hb),(hb.cell (p:=⟨p,0,none⟩) hplt).trans hpr,Nat.lt_of_lt_of_le hplt hb.size,aac (hB.out.trans (hb.mono hB.out.size)),aac (fun j x hj hx=> ?_)⟩;rcases Nat.lt_or_ge j k with h | h
       · exact hN.out j x h hx
       · obtain rfl:j=k:=(by omega);have:=HK.out;rw[hx] at this;injection this with this
         rw[this];exact HH.out
      case measure=>simp only[intOf];omega
  · have d1:¬ (k:Int) < (n:Int):=(by omega);have hkn:k=n:=(by omega);have HF:Hid (adK nm l=false):=aac (aoW fun j x hj hx=>hN.out j x (by rw[hkn,HN.out];exact hj) hx);clear hR hN hkn;go_wp2_with fail;go_ret;exact⟨_,rfl,by rw[HF.out];decide,hB.out⟩
theorem aiw (l:List (ByteArray × ByteArray))(nm:ByteArray)(n cap p:Nat)(A:Option Addr)(w:World)(hn:n=l.length)(hl:n≤2000000000)(h1:RdR w A l)(hp:w.cell? ⟨p,0,none⟩=some (.string nm))(hlt:p < w.heap.size)(b:Bool)(hb:adK nm l=b):
 Calls Tryz.prog 126 #[.slice A n cap,.func (.func 127) #[] #[.pointer (some ⟨p,0,none⟩)]] w fun e w'=>e=.returned (.bool b)∧Below w.heap.size w w':=by
 have C:=aac (afJ l nm n cap p A w hn hl h1 hp hlt);rw[hb] at C;clear h1 hn hp hlt hb;go_enter Tryz.func126,Tryz.ntmps126;go_wp2_with fail;refine C.out.mono ?_;rintro e w1 ⟨i,rfl,hi,hb1⟩;clear C;go_wp2;go_ret;exact⟨rfl,hb1⟩
theorem aaN {P:Program}{ops:Array Oper}{o:Oper}{a:Act}{w:World}{K:Act→World→Prop}{Q:Exit→Act→World→Prop}{E:Prop}
 (hg:o.guard=none) (s x:Operand) (t:TypeId) (hop:o.op=Op.call { callee:=Callee.builtin Builtin.append,args:= #[s,x],argTypes:= #[t,t] })
 (base:Nat) (e:TypeId) (i:TypeInfo) (z:Value) (size bytes:Nat) (h1:P.underlying t=some (.slice e)) (h2:P.info? e=some i) (h3:i.zero=some z) (h4:i.size=size) (h5:i.bytes=bytes) (h6:z.cells.size=size) (h7:0 < size)
 (v:Value) (n:Nat) (xs:List Value) (hs:a.eval s=v) (hown:w.ownsRow base e size v n xs)
 (ad:Addr) (m c:Nat) (news:List Value) (hx:a.eval x=.slice (some ad) m c) (hn:news.length=m * size) (hc:∀ j u,news[j]?=some u→w.cell? (ad.add j)=some u) (h1c:∀ u∈news,u.oneCell'=true)
 (b1:n+m≤maxLen) (b2:(n+m) * bytes≤140737488355328) (hb:base≤w.heap.size)
 (hK:∀ v' w',w'.ownsRow base e size v' (n+m) (xs++news)→w.grownBy w' v.ownBlock→K (a.put o.dst v') w'):
 if Region.wanted o (yielded ops a.tmps)=true then Oper.wp P o a w K Q else E:=by
 have hw:Region.wanted o (yielded ops a.tmps)=true:=(by simp[Region.wanted,hg]);rw[if_pos hw];obtain⟨v',w',hrun,r1,r2,_⟩:=run_append_own (P:=P) w base t o.type e i z size bytes h1 h2 h3 h4 h5 h6 h7 v n xs hown ad m c news hn hc h1c b1 b2 hb;unfold Oper.wp;simp[execOp,hop,resolve,invoke,builtin,hs,hx,hrun,Result.andThen];exact hK v' w' r1 r2
theorem aaU {w:World}{B:Nat}{e:TypeId}{z n:Nat}{v:Value}{xs:List Value}(h:w.ownsRow B e z v (n+1) xs):∃ g cap,v=.slice (some ⟨g,0,none⟩) (n+1) cap:=by
 rcases h.2 with ⟨_,h0⟩ | ⟨g,cap,cur,rfl,_⟩
 · omega
 · exact⟨g,cap,rfl⟩
theorem RS.put {w0 w w2:World}{g:Nat}{u nm:ByteArray}{v v':Value}{l:List (ByteArray × ByteArray)}{x:ByteArray × ByteArray}(h:RS w0 g u nm v l w)(hown:w2.ownsRow w0.heap.size 167 2 v' (l.length+1) (rwL l++rwC x))(hg:w.grownBy w2 v.ownBlock):
 w2.heap[g]?=some (.cells #[.string u,.string nm,v] 134 (0,0))∧RS w0 g u nm v' (l++[x]) (w2.setCell ⟨g,2,none⟩ v'):=by
 have hne:=own_ne h.own h.blk (by decide);have hb2:w2.heap[g]?=some (.cells #[.string u,.string nm,v] 134 (0,0)):=(hg.block g h.lt (fun e=>hne e.symm)).trans h.blk
 have ho:amW w2 w0.heap.size v' (l++[x]):=by
  unfold amW;rw[afk,List.length_append];exact hown
 refine⟨hb2,h.lo,by simp[World.setCell,Array.getElem?_modify,hb2],aar ho hb2 (by decide) 2 _,?_,h.vr0⟩;exact(h.bel.grown hg h.bel.size (fun k hk=>(World.ownsRow.lt h.own k hk).1)).setCell (p:=⟨g,2,none⟩) h.lo _
theorem Tryz.info167:(Tryz.prog.info? 167).map (fun i=>(i.zero,i.size,i.bytes))=some (some (.agg #[.string ⟨#[]⟩,.string ⟨#[]⟩]),2,32):=by kernel_rfl
theorem RS.drew {w0 w:World}{g:Nat}{u nm:ByteArray}{v:Value}{l:List (ByteArray × ByteArray)}(h:RS w0 g u nm v l w):RS w0 g u nm v l w.drew:=h.after (Below.refl _ w).drew
theorem RS.alloc {w0 w:World}{g:Nat}{u nm:ByteArray}{v:Value}{l:List (ByteArray × ByteArray)}(h:RS w0 g u nm v l w)(o:Obj):RS w0 g u nm v l (w.alloc o):=h.after ((Below.refl _ w).alloc (Nat.le_refl _) o)
theorem axT (x:ByteArray × ByteArray):∀ u∈rwC x,u.oneCell'=true:=by
 intro u hu;unfold rwC at hu;simp only[List.mem_cons,List.not_mem_nil,or_false] at hu;rcases hu with rfl | rfl <;> rfl
def atF (l:List (ByteArray × ByteArray))(x:Int × ByteArray × ByteArray × ByteArray):Int:=if x.1≠0 then x.1 else if adK x.2.1 l=true then 8 else if 32≤l.length then 13 else 0
def aeb (l:List (ByteArray × ByteArray))(x:Int × ByteArray × ByteArray × ByteArray)(w0:World)(g:Nat)(nm:ByteArray)(e:Ending)(w':World):Prop:=
 e=.returned (.int .i64 (atF l x))∧(atF l x=0→∃ v',RS w0 g x.2.2.2 nm v' (l++[(x.2.1,x.2.2.1)]) w')∧∃ u' v' l',RS w0 g u' nm v' l' w'
end Go.Proofs.YtiaebhomfebagaaGreatDoor.Tg
namespace Go.Proofs.YtiaebhomfebagaaGreatDoor.Tg
open Go.RowKit
theorem avp {l:List (ByteArray × ByteArray)}{x:Int × ByteArray × ByteArray × ByteArray}{w0 w':World}{g:Nat}{nm:ByteArray}{e:Ending}{r:Int}(h:atF l x=r)(h1:e=.returned (.int .i64 r))(h2:r=0→∃ v',RS w0 g x.2.2.2 nm v' (l++[(x.2.1,x.2.2.1)]) w')(h3:∃ u' v' l',RS w0 g u' nm v' l' w'):aeb l x w0 g nm e w':=by
 unfold aeb;rw[h];exact⟨h1,h2,h3⟩
theorem avC (w0:World)(g:Nat)(nm:ByteArray)(v:Value)(l:List (ByteArray × ByteArray))(x:Int × ByteArray × ByteArray × ByteArray)(w:World)(he:x.1≠0)
 (C:Hid (Calls Tryz.prog 125 #[.pointer (some ⟨g,0,none⟩)] w (ads x w0 g nm v l))):
 Calls Tryz.prog 100 #[.pointer (some ⟨g,0,none⟩)] w (aeb l x w0 g nm):=by
 have HA:Hid (atF l x=x.1):=aac (by unfold atF;rw[if_pos he]);obtain⟨er,xn,xv,xr⟩:=x;dsimp only at he HA;have t1:(er != 0)=true:=by rw[bne_iff_ne];exact he
 have HE:=aac he;clear he;go_enter Tryz.func100,Tryz.ntmps100;go_wp2_with fail;refine C.out.mono ?_;rintro e w1 ⟨u',rfl,hr,_⟩;have HR:=aac (hr.alloc (.cells #[.string xn,.string xv] 167));clear C hr;dsimp only;go_wp2;go_ret;exact avp HA.out rfl (fun h=>absurd h HE.out) ⟨_,_,_,HR.out⟩
theorem aol (w0:World)(g:Nat)(nm:ByteArray)(v:Value)(l:List (ByteArray × ByteArray))(x:Int × ByteArray × ByteArray × ByteArray)(w:World)(he:x.1=0)(hh:adK x.2.1 l=true)(hl:l.length≤2000000000)
 (C:Hid (Calls Tryz.prog 125 #[.pointer (some ⟨g,0,none⟩)] w (ads x w0 g nm v l))):
 Calls Tryz.prog 100 #[.pointer (some ⟨g,0,none⟩)] w (aeb l x w0 g nm):=by
 have HA:Hid (atF l x=8):=aac (by unfold atF;rw[if_neg (by rw[he];decide),if_pos hh]);obtain⟨er,xn,xv,xr⟩:=x;dsimp only at he hh;subst he;have CF:=aac (fun n cap p A W hn h1 hp hlt=>aiw l xn n cap p A W hn (by omega) h1 hp hlt true hh);clear hh;go_enter Tryz.func100,Tryz.ntmps100;go_wp2_with fail;refine C.out.mono ?_;rintro e w1 ⟨u',rfl,hr,_⟩;obtain⟨A,c,rfl,hR⟩:=abI hr.own;have hb:=(Below.refl _ w1).alloc (Nat.le_refl _) (.cells #[.string xn,.string xv] 167);have HR:=aac (hr.alloc (.cells #[.string xn,.string xv] 167));have HD:=aac (hR.keep hb);have c2:=HR.out.c2;clear C hr hR hb;obtain⟨n,hn⟩:∃ n,n=l.length:=⟨_,rfl⟩;rw[← hn] at c2;have HN:=aac hn;clear hn;dsimp only;go_wp2_with fail;refine(CF.out n c w1.heap.size A _ HN.out HD.out (apn w1 167 #[.string xn,.string xv] 0) (by simp)).mono ?_;rintro e w2 ⟨rfl,hb2⟩;have HR2:=aac (HR.out.after hb2);clear hb2 CF HR HD c2;go_wp2;go_ret;exact avp HA.out rfl (fun h=>absurd h (by decide)) ⟨_,_,_,HR2.out⟩
theorem aoD (w0:World)(g:Nat)(nm:ByteArray)(v:Value)(l:List (ByteArray × ByteArray))(x:Int × ByteArray × ByteArray × ByteArray)(w:World)(he:x.1=0)(hh:adK x.2.1 l=false)(hl:l.length=32)
 (C:Hid (Calls Tryz.prog 125 #[.pointer (some ⟨g,0,none⟩)] w (ads x w0 g nm v l))):
 Calls Tryz.prog 100 #[.pointer (some ⟨g,0,none⟩)] w (aeb l x w0 g nm):=by
 have HA:Hid (atF l x=13):=aac (by unfold atF;rw[if_neg (by rw[he];decide),if_neg (by rw[hh];decide),if_pos (by omega)]);obtain⟨er,xn,xv,xr⟩:=x;dsimp only at he hh;subst he;have CF:=aac (fun n cap p A W hn h1 hp hlt=>aiw l xn n cap p A W hn (by omega) h1 hp hlt false hh);have HL:=aac hl;clear hh hl;go_enter Tryz.func100,Tryz.ntmps100;go_wp2_with fail;refine C.out.mono ?_;rintro e w1 ⟨u',rfl,hr,_⟩;obtain⟨A,c,rfl,hR⟩:=abI hr.own;have hb:=(Below.refl _ w1).alloc (Nat.le_refl _) (.cells #[.string xn,.string xv] 167);have HR:=aac (hr.alloc (.cells #[.string xn,.string xv] 167));have HD:=aac (hR.keep hb);have c2:=HR.out.c2;clear C hr hR hb;rw[HL.out] at c2;dsimp only;go_wp2_with fail;refine(CF.out 32 c w1.heap.size A _ HL.out.symm HD.out (apn w1 167 #[.string xn,.string xv] 0) (by simp)).mono ?_;rintro e w2 ⟨rfl,hb2⟩;have HR2:=aac (HR.out.after hb2);have d2:=HR2.out.c2;rw[HL.out] at d2;clear hb2 CF HR HD c2;go_wp2;go_ret;exact avp HA.out rfl (fun h=>absurd h (by decide)) ⟨_,_,_,HR2.out⟩
theorem a0o (w0:World)(g:Nat)(nm:ByteArray)(v:Value)(l:List (ByteArray × ByteArray))(x:Int × ByteArray × ByteArray × ByteArray)(w:World)(he:x.1=0)(hh:adK x.2.1 l=false)(hl:l.length < 32)
 (C:Hid (Calls Tryz.prog 125 #[.pointer (some ⟨g,0,none⟩)] w (ads x w0 g nm v l))):
 Calls Tryz.prog 100 #[.pointer (some ⟨g,0,none⟩)] w (aeb l x w0 g nm):=by
 have HA:Hid (atF l x=0):=aac (by unfold atF;rw[if_neg (by rw[he];decide),if_neg (by rw[hh];decide),if_neg (by omega)]);obtain⟨er,xn,xv,xr⟩:=x;dsimp only at he hh;subst he;have CF:=aac (fun n cap p A W hn h1 hp hlt=>aiw l xn n cap p A W hn (by omega) h1 hp hlt false hh);clear hh;obtain⟨i0,hi,hz0,hz1,hz2⟩:=info_parts Tryz.info167;go_enter Tryz.func100,Tryz.ntmps100;go_wp2_with fail;refine C.out.mono ?_;rintro e w1 ⟨u',rfl,hr,hu⟩;obtain rfl:u'=xr:=hu rfl;obtain⟨A,c,rfl,hR⟩:=abI hr.own;have hb:=(Below.refl _ w1).alloc (Nat.le_refl _) (.cells #[.string xn,.string xv] 167);have HR:=aac (hr.alloc (.cells #[.string xn,.string xv] 167));have HD:=aac (hR.keep hb);have c2:=HR.out.c2;clear C hr hR hb hu;obtain⟨n,hn⟩:∃ n,n=l.length:=⟨_,rfl⟩;rw[← hn] at c2;have HN:=aac hn;have hn32:n < 32:=(by omega);clear hn;dsimp only;go_wp2_with fail;refine(CF.out n c w1.heap.size A _ HN.out HD.out (apn w1 167 #[.string xn,.string xv] 0) (by simp)).mono ?_;rintro e w2 ⟨rfl,hb2⟩;have HR2:=aac (HR.out.after hb2);have hpl:w1.heap.size < w2.heap.size:=Nat.lt_of_lt_of_le (by simp) hb2.size;have a0:w2.cell? ⟨w1.heap.size,0,none⟩=some (.string xn):=(hb2.cell (p:=⟨w1.heap.size,0,none⟩) (by simp)).trans (apn w1 167 #[.string xn,.string xv] 0);have a1:w2.cell? ⟨w1.heap.size,1,none⟩=some (.string xv):=(hb2.cell (p:=⟨w1.heap.size,1,none⟩) (by simp)).trans (apn w1 167 #[.string xn,.string xv] 1);have d2:=HR2.out.c2;rw[← HN.out] at d2;clear hb2 CF HR HD c2;generalize w1.heap.size=p at *;have t1:((n:Int) == 32)=false:=by rw[beq_eq_false_iff_ne];omega
 have hgl:=HR2.out.lt;have HX:=aac (HR2.out.drew.alloc (.cells #[.string xn,.string xv] 167));have ho:=HX.out.own;unfold amW at ho;rw[← HN.out] at ho;have hbz:=HX.out.bel.size;have hlc:=abE w2.drew #[.string xn,.string xv] 167
 have HK:Hid (∀ v' w',w'.ownsRow w0.heap.size 167 2 v' (n+1) (rwL l++[.string xn,.string xv])→(w2.drew.alloc (.cells #[.string xn,.string xv] 167)).grownBy w' (Value.slice A n c).ownBlock→
  ∃ g' cap',v'=.slice (some ⟨g',0,none⟩) (n+1) cap'∧w'.cell? ⟨g,2,none⟩=some (.slice A n c)∧w'.frozen? ⟨g,2,none⟩=false∧RS w0 g u' nm v' (l++[(xn,xv)]) (w'.setCell ⟨g,2,none⟩ v')):=aac (by
  intro v' w' k1 k2;obtain⟨g',cap',hv⟩:=aaU k1;have hx:=HX.out;rw[HN.out] at k1 k2;obtain⟨q1,q2⟩:=RS.put (x:=(xn,xv)) hx k1 k2;refine⟨g',cap',hv,?_,Lib.frozen_of_heap q1 2,q2⟩;rw[Lib.cell_of_heap q1,HN.out];rfl)
 have D2:w2.drew.cell? ⟨g,2,none⟩=some (.slice A n c):=d2;have A0:w2.drew.cell? ⟨p,0,none⟩=some (.string xn):=a0;have A1:w2.drew.cell? ⟨p,1,none⟩=some (.string xv):=a1;have hne:¬ g=w2.heap.size:=by omega
 have D3:(w2.drew.alloc (.cells #[.string xn,.string xv] 167)).cell? ⟨g,2,none⟩=some (.slice A n c):=by
  rw[← d2];exact((Below.refl _ w2.drew).alloc (Nat.le_refl _) _).cell (p:=⟨g,2,none⟩) hgl
 clear HX HR2;go_wp2_with fail
 go_region_law (refine aaN rfl (.tmp 35) (.tmp 37) 94 rfl w0.heap.size 167 i0 (.agg #[.string ⟨#[]⟩,.string ⟨#[]⟩]) 2 32 Tryz.underlying94 hi hz0 hz1 hz2 rfl (by decide) (.slice A n c) n (rwL l) (by simp[Act.eval,Act.put]) ho ⟨w2.heap.size,0,none⟩ 1 1 [.string xn,.string xv] (by simp[Act.eval,Act.put]) rfl hlc (by intro u hu;simp only[List.mem_cons,List.not_mem_nil,or_false] at hu;rcases hu with rfl | rfl <;> rfl) (by unfold maxLen;omega) (by omega) hbz ?_;intro v' w' k1 k2;obtain⟨g',cap',rfl,e2,f2,r2⟩:=HK.out v' w' k1 k2;have HR3:=aac r2;clear k1 k2 r2)
 all_goals go_wp2
 all_goals go_ret
 all_goals exact avp HA.out rfl (fun _=>⟨_,HR3.out⟩) ⟨_,_,_,HR3.out⟩
theorem aiE (w0:World)(g:Nat)(u nm:ByteArray)(v:Value)(l:List (ByteArray × ByteArray))(w:World)(h:RS w0 g u nm v l w)(hs:u.size≤4000000000)(hl:l.length≤32):
 Calls Tryz.prog 100 #[.pointer (some ⟨g,0,none⟩)] w (aeb l (aap u) w0 g nm):=by
 have C:=aac (afb w0 g u nm v l w h hs);by_cases h1:(aap u).1=0
 · by_cases h2:adK (aap u).2.1 l=true
   · exact aol w0 g nm v l _ w h1 h2 (by omega) C
   · have h2':adK (aap u).2.1 l=false:=(by simpa using h2);by_cases h3:l.length=32
     · exact aoD w0 g nm v l _ w h1 h2' h3 C
     · exact a0o w0 g nm v l _ w h1 h2' (by omega) C
 · exact avC w0 g nm v l _ w h1 C
end Go.Proofs.YtiaebhomfebagaaGreatDoor.Tg
namespace Go.Proofs.YtiaebhomfebagaaGreatDoor.Tg
open Go.RowKit
theorem a4n (nm:ByteArray)(l:List (ByteArray × ByteArray))(u:ByteArray)(c1:(sk u).size≠0)(c2:bk u≠0)(c3:atF l (aap (sk u))≠0):GoF nm l u=(atF l (aap (sk u)),Nz.em,[]):=by
 by_cases h1:(aap (sk u)).1=0
 · by_cases h2:adK (aap (sk u)).2.1 l=true
   · rw[awv nm l u c1 c2 h1 h2];unfold atF;rw[if_neg (Decidable.not_not.2 h1),if_pos h2]
   · have h2':adK (aap (sk u)).2.1 l=false:=(by simpa using h2);by_cases h3:32≤l.length
     · rw[avf nm l u c1 c2 h1 h2' h3];unfold atF;rw[if_neg (Decidable.not_not.2 h1),if_neg h2,if_pos h3]
     · exfalso;apply c3;unfold atF;rw[if_neg (Decidable.not_not.2 h1),if_neg h2,if_neg h3]
 · rw[a4p nm l u c1 c2 h1];unfold atF;rw[if_pos h1]
theorem azO (nm:ByteArray)(l:List (ByteArray × ByteArray))(u:ByteArray)(c1:(sk u).size≠0)(c2:bk u≠0)(c3:atF l (aap (sk u))=0):
 GoF nm l u=GoF nm (l++[((aap (sk u)).2.1,(aap (sk u)).2.2.1)]) (aap (sk u)).2.2.2∧l.length < 32∧(aap (sk u)).2.2.2.size < u.size:=by
 unfold atF at c3;by_cases h1:(aap (sk u)).1=0
 · rw[if_neg (Decidable.not_not.2 h1)] at c3;by_cases h2:adK (aap (sk u)).2.1 l=true
   · rw[if_pos h2] at c3;exact absurd c3 (by decide)
   rw[if_neg h2] at c3;by_cases h3:32≤l.length
   · rw[if_pos h3] at c3;exact absurd c3 (by decide)
   have:=aic h1;have hs:=abo u;exact⟨go_ok nm l u c1 c2 h1 (by simpa using h2) h3,by omega,by omega⟩
 · rw[if_pos h1] at c3;exact absurd c3 h1
def agy (x:Int × ByteArray × List (ByteArray × ByteArray))(w0:World)(g:Nat)(e:Ending)(w':World):Prop:=
 e=.returned (.int .i64 x.1)∧∃ u' nm' v' l',RS w0 g u' nm' v' l' w'∧(x.1=0→nm'=x.2.1∧l'=x.2.2)
theorem auG {x y:Int × ByteArray × List (ByteArray × ByteArray)}{w0 w':World}{g:Nat}{e:Ending}(h:x=y)(hp:agy y w0 g e w'):agy x w0 g e w':=by rw[h];exact hp
def aor (g:Nat)(w:World):Nat:=match w.cell? ⟨g,0,none⟩ with | some (.string u)=>u.size | _=>0
theorem RS.aor {w0 w:World}{g:Nat}{u nm:ByteArray}{v:Value}{l:List (ByteArray × ByteArray)}(h:RS w0 g u nm v l w):aor g w=u.size:=by unfold Go.Proofs.YtiaebhomfebagaaGreatDoor.Tg.aor;rw[h.c0]
def a4K (s:ByteArray)(w0:World)(g:Nat)(wr:World):Prop:=
 ∃ u nm v l,Hid (RS w0 g u nm v l wr)∧l.length≤32∧u.size≤4000000000∧Hid (aaE s=GoF nm l u)
theorem azH (w0:World)(g:Nat)(s nm:ByteArray)(v:Value)(w:World)(h:RS w0 g s nm v [] w)(hs:s.size≤4000000000)(h1:isN (Nz.sx s 0)=false):
 Calls Tryz.prog 74 #[.pointer (some ⟨g,0,none⟩)] w (agy (aaE s) w0 g):=by
 have HP:Hid (aaE s=(4,Nz.em,[])):=aac (by unfold aaE;rw[if_pos h1]);have C:=aac (apQ w0 g s nm v [] w h (by omega) h1);clear h h1;go_enter Tryz.func74,Tryz.ntmps74;go_wp2_with fail;refine C.out.mono ?_;rintro e w1 ⟨rfl,hr1,_⟩;have HR:=aac hr1;clear hr1 C;go_wp2;go_ret;exact auG HP.out ⟨rfl,_,_,_,_,HR.out,fun h=>absurd h (by decide)⟩
theorem avA (w0:World)(g:Nat)(s nm:ByteArray)(v:Value)(w:World)(h:RS w0 g s nm v [] w)(hs:s.size≤4000000000)(h1:isN (Nz.sx s 0)=true):
 Calls Tryz.prog 74 #[.pointer (some ⟨g,0,none⟩)] w (agy (aaE s) w0 g):=by
 have HP:Hid (aaE s=GoF (Nz.sx s 0) [] (Nz.fr s (Nz.sn s 0))):=aac (by unfold aaE;rw[if_neg (by rw[h1];decide)]);have C:=aac (afP w0 g s nm v [] w h (by omega) h1);have hz:=Nz.aaD s (Nz.sn s 0);have hz':(Nz.fr s (Nz.sn s 0)).size≤4000000000:=(by omega);clear h h1 hz;generalize Nz.fr s (Nz.sn s 0)=u1 at *;generalize Nz.sx s 0=x at *;go_enter Tryz.func74,Tryz.ntmps74;go_wp2_with fail;refine C.out.mono ?_;rintro e w1 ⟨rfl,hr1,_⟩;have HR:=aac (hr1.name x);have c1:=hr1.c1;have f1:=hr1.fz 1;clear hr1 C;go_wp2_with fail;go_loopw [5,6] (fun _ _ wr=>a4K s w0 g wr) (fun _ _ wr=>aor g wr);case atStart=>exact⟨u1,x,v,[],HR,by simp,hz',HP⟩
 case round=>
  clear HR HP c1 f1 hz';obtain⟨u,nm',v',l,hR,hl,hu,hG⟩:=hrel;have hsz:=abo u;by_cases d1:(sk u).size=0
  · have HG:=aac (hG.out.trans (apB nm' l u d1));have C1:=aac (acy w0 g u nm' v' l wr hR.out (by omega) _ rfl);have C2:=aac (fun w h=>aii w0 g (sk u) nm' v' l w h true (decide_eq_true d1));clear hR hG d1 hsz;generalize sk u=u2 at *;generalize hb:decide (bk u≠0)=b at *;clear hb;go_wp2_with fail;refine C1.out.mono ?_;rintro e w2 ⟨rfl,hr2,_⟩;have HR2:=aac hr2;clear hr2 C1;go_wp2_with fail;refine(C2.out _ HR2.out).mono ?_;rintro e w3 ⟨rfl,hr3,_⟩;have HR3:=aac hr3;clear hr3 C2 HR2;go_wp2;go_ret;exact auG HG.out ⟨rfl,_,_,_,_,HR3.out,fun _=>⟨rfl,rfl⟩⟩
  · by_cases d2:bk u=0
    · have HG:=aac (hG.out.trans (azf nm' l u d1 d2));have C1:=aac (acy w0 g u nm' v' l wr hR.out (by omega) false (by rw[d2];decide));have C2:=aac (fun w h=>aii w0 g (sk u) nm' v' l w h false (decide_eq_false d1));clear hR hG d1 d2 hsz;generalize sk u=u2 at *;go_wp2_with fail;refine C1.out.mono ?_;rintro e w2 ⟨rfl,hr2,_⟩;have HR2:=aac hr2;clear hr2 C1;go_wp2_with fail;refine(C2.out _ HR2.out).mono ?_;rintro e w3 ⟨rfl,hr3,_⟩;have HR3:=aac hr3;clear hr3 C2 HR2;go_wp2;go_ret;exact auG HG.out ⟨rfl,_,_,_,_,HR3.out,fun h=>absurd h (by decide)⟩
    · have C1:=aac (acy w0 g u nm' v' l wr hR.out (by omega) true (decide_eq_true d2));have C2:=aac (fun w h=>aii w0 g (sk u) nm' v' l w h false (decide_eq_false d1));have C3:=aac (fun w h=>aiE w0 g (sk u) nm' v' l w h (by omega) hl);have HL:=aac hR.out.aor;by_cases d3:atF l (aap (sk u))=0
      · obtain⟨q1,q2,q3⟩:=azO nm' l u d1 d2 d3;have HG:=aac (hG.out.trans q1);clear hR hG d1 d2 hsz q1;generalize aap (sk u)=y at *;generalize sk u=u2 at *;obtain⟨yn,yv⟩:∃ z:Int,z=0:=⟨0,rfl⟩;go_wp2_with fail;refine C1.out.mono ?_;rintro e w2 ⟨rfl,hr2,_⟩;have HR2:=aac hr2;clear hr2 C1;go_wp2_with fail;refine(C2.out _ HR2.out).mono ?_;rintro e w3 ⟨rfl,hr3,_⟩;have HR3:=aac hr3;clear hr3 C2 HR2;go_wp2_with fail;refine(C3.out _ HR3.out).mono ?_;rintro e w4 ⟨rfl,hr4,_⟩;obtain⟨v4,hr4⟩:=hr4 d3;have HR4:=aac hr4;rw[d3];clear hr4 C3 HR3 d3;go_wp2;go_roundw;case rel=>exact⟨_,_,_,_,HR4,by rw[List.length_append,List.length_singleton];omega,by omega,HG⟩
        case measure=>rw[HR4.out.aor,HL.out];exact q3
      · have HG:=aac (hG.out.trans (a4n nm' l u d1 d2 d3));clear hR hG d1 d2 hsz;generalize aap (sk u)=y at *;generalize sk u=u2 at *;have t1:(atF l y != 0)=true:=by rw[bne_iff_ne];exact d3
        have HE:=aac d3;clear d3;go_wp2_with fail;refine C1.out.mono ?_;rintro e w2 ⟨rfl,hr2,_⟩;have HR2:=aac hr2;clear hr2 C1;go_wp2_with fail;refine(C2.out _ HR2.out).mono ?_;rintro e w3 ⟨rfl,hr3,_⟩;have HR3:=aac hr3;clear hr3 C2 HR2;go_wp2_with fail;refine(C3.out _ HR3.out).mono ?_;rintro e w4 ⟨rfl,_,u4,v4,l4,hr4⟩;have HR4:=aac hr4;clear hr4 C3 HR3;generalize atF l y=er at *;go_wp2;go_ret;exact auG HG.out ⟨rfl,_,_,_,_,HR4.out,fun h=>absurd h HE.out⟩
theorem aqQ (w0:World)(g:Nat)(s nm:ByteArray)(v:Value)(w:World)(h:RS w0 g s nm v [] w)(hs:s.size≤4000000000):
 Calls Tryz.prog 74 #[.pointer (some ⟨g,0,none⟩)] w (agy (aaE s) w0 g):=by
 cases h1:isN (Nz.sx s 0)
 · exact azH w0 g s nm v w h hs h1
 · exact avA w0 g s nm v w h hs h1
def amS (x:Int × ByteArray × List (ByteArray × ByteArray))(w:World)(e:Ending)(w':World):Prop:=
 ∃ v,e=.returned (.tuple #[.agg #[.string x.2.1,v],.int .i64 x.1])∧amW w' w.heap.size v x.2.2∧Below w.heap.size w w'
theorem apv:∀ (f:Nat) (nm:ByteArray) (l:List (ByteArray × ByteArray)) (u:ByteArray),(goF f nm l u).1≠0→(goF f nm l u).2=(Nz.em,[])
 | 0,_,_,_,h=>absurd rfl h
 | f+1,nm,l,u,h=>by
   unfold goF at h ⊢;by_cases c1:(sk u).size=0
   · rw[if_pos c1] at h;exact absurd rfl h
   rw[if_neg c1] at h ⊢;by_cases c2:bk u=0
   · rw[if_pos c2]
   rw[if_neg c2] at h ⊢;by_cases c3:(aap (sk u)).1≠0
   · rw[if_pos c3]
   rw[if_neg c3] at h ⊢;by_cases c4:adK (aap (sk u)).2.1 l=true
   · rw[if_pos c4]
   rw[if_neg c4] at h ⊢;by_cases c5:32≤l.length
   · rw[if_pos c5]
   rw[if_neg c5] at h ⊢;exact apv f _ _ _ h
theorem ayp {s:ByteArray}(h:(aaE s).1≠0):(aaE s).2=(Nz.em,[]):=by
 unfold aaE at h ⊢;by_cases c:isN (Nz.sx s 0)=false
 · rw[if_pos c]
 · rw[if_neg c] at h ⊢;exact apv _ _ _ _ h
theorem aam {w:World}{B B':Nat}{v:Value}{l:List (ByteArray × ByteArray)}(h:amW w B v l)(hB:B'≤B):amW w B' v l:=by
 refine⟨h.1,?_⟩;rcases h.2 with hn | ⟨g,cap,cur,hv,hb,rest⟩
 · exact .inl hn
 · exact .inr ⟨g,cap,cur,hv,Nat.le_trans hB hb,rest⟩
theorem axN (w:World)(s:ByteArray)(hV:Vars w):RS (w.alloc (.cells #[.string ⟨#[]⟩,.slice none 0 0] 96)) (w.heap.size+1) s ⟨#[]⟩ (.slice none 0 0) [] ((w.alloc (.cells #[.string ⟨#[]⟩,.slice none 0 0] 96)).alloc (.cells #[.string s,.string ⟨#[]⟩,.slice none 0 0] 134)):=by
 have hz:(w.alloc (.cells #[.string ⟨#[]⟩,.slice none 0 0] 96)).heap.size=w.heap.size+1:=(by simp);refine⟨by omega,?_,World.ownsRow_nil _ _ _ _,(Below.refl _ _).alloc (Nat.le_refl _) _,hV.keep ((Below.refl _ w).alloc (Nat.le_refl _) _) hV.1⟩;rw[← hz];exact heap_alloc_new _ _
theorem atb (s:ByteArray)(x:Int × ByteArray × List (ByteArray × ByteArray))(w:World)(hV:Vars w)(he:x.1≠0)(hx:x.2=(Nz.em,[]))
 (C:Hid (∀ W0 g W,RS W0 g s ⟨#[]⟩ (.slice none 0 0) [] W→Calls Tryz.prog 74 #[.pointer (some ⟨g,0,none⟩)] W (agy x W0 g))):
 Calls Tryz.prog 48 #[.string s] w (amS x w):=by
 obtain⟨er,xn,xl⟩:=x;dsimp only at he hx;injection hx with hx1 hx2
 subst hx1 hx2;have HR:=aac (axN w s hV);have t1:(er != 0)=true:=by rw[bne_iff_ne];exact he
 clear hV he;go_enter Tryz.func48,Tryz.ntmps48;go_wp2_with fail;refine(C.out _ _ _ HR.out).mono ?_;rintro e w1 ⟨rfl,u',nm',v',l',hr,_⟩;have hB:=hr.bel;have hblk:w1.heap[w.heap.size]?=some (.cells #[.string ⟨#[]⟩,.slice none 0 0] 96 (0,0)):=(hB.block w.heap.size (by simp)).trans (heap_alloc_new w _);have c0:w1.cell? ⟨w.heap.size,0,none⟩=some (.string ⟨#[]⟩):=by rw[Lib.cell_of_heap hblk];rfl
 have c1:w1.cell? ⟨w.heap.size,1,none⟩=some (.slice none 0 0):=by rw[Lib.cell_of_heap hblk];rfl
 have f0:=Lib.frozen_of_heap hblk 0;have f1:=Lib.frozen_of_heap hblk 1;have HB:=aac (((Below.refl w.heap.size w).alloc (Nat.le_refl _) (.cells #[.string ⟨#[]⟩,.slice none 0 0] 96)).trans (hB.mono (by simp)));clear hblk hB hr C HR;dsimp only;generalize hr:w.heap.size=r at *;have HRZ:=aac hr;clear hr;go_wp2
 exact bodyPost_ret (v:=.tuple #[.agg #[.string ⟨#[]⟩,.slice none 0 0],.int .i64 er]) (by simp[results,Tryz.results48,go_sem,c0,c1]) rfl
  ⟨.slice none 0 0,rfl,World.ownsRow_nil _ _ _ _,by rw[HRZ.out];exact((HB.out.setCell (p:=⟨r,0,none⟩) (Nat.le_refl _) _).setCell (p:=⟨r,1,none⟩) (Nat.le_refl _) _)⟩
theorem avn (s:ByteArray)(x:Int × ByteArray × List (ByteArray × ByteArray))(w:World)(hV:Vars w)(he:x.1=0)
 (C:Hid (∀ W0 g W,RS W0 g s ⟨#[]⟩ (.slice none 0 0) [] W→Calls Tryz.prog 74 #[.pointer (some ⟨g,0,none⟩)] W (agy x W0 g))):
 Calls Tryz.prog 48 #[.string s] w (amS x w):=by
 obtain⟨er,xn,xl⟩:=x;dsimp only at he;subst he;have HR:=aac (axN w s hV);clear hV;go_enter Tryz.func48,Tryz.ntmps48;go_wp2_with fail;refine(C.out _ _ _ HR.out).mono ?_;rintro e w1 ⟨rfl,u',nm',v',l',hr,hx⟩;obtain⟨rfl,rfl⟩:=hx rfl;dsimp only at hr ⊢;have hB:=hr.bel;have hblk:w1.heap[w.heap.size]?=some (.cells #[.string ⟨#[]⟩,.slice none 0 0] 96 (0,0)):=(hB.block w.heap.size (by simp)).trans (heap_alloc_new w _);have c0:w1.cell? ⟨w.heap.size,0,none⟩=some (.string ⟨#[]⟩):=by rw[Lib.cell_of_heap hblk];rfl
 have c1:w1.cell? ⟨w.heap.size,1,none⟩=some (.slice none 0 0):=by rw[Lib.cell_of_heap hblk];rfl
 have f0:=Lib.frozen_of_heap hblk 0;have f1:=Lib.frozen_of_heap hblk 1;have HB:=aac (((Below.refl w.heap.size w).alloc (Nat.le_refl _) (.cells #[.string ⟨#[]⟩,.slice none 0 0] 96)).trans (hB.mono (by simp)));have HO:=aac (aam hr.own (B':=w.heap.size) (by simp));have HK:=aac (fun (x y:Value)=>aar (aar HO.out hblk (by decide) 0 x) (g:=w.heap.size) (by simp[World.setCell,Array.getElem?_modify,hblk];exact⟨rfl,rfl⟩) (T:=96) (by decide) 1 y);obtain⟨A,c,rfl,_⟩:=abI hr.own;have g1:=hr.c1;have g2:=hr.c2;clear hblk hB hr C HR hx;generalize hr:w.heap.size=r at *;have HRZ:=aac hr;clear hr;go_wp2
 exact bodyPost_ret (v:=.tuple #[.agg #[.string nm',.slice A l'.length c],.int .i64 0]) (by simp[results,Tryz.results48,go_sem,c0,c1]) rfl
  ⟨_,rfl,by rw[HRZ.out];exact HK.out _ _,by rw[HRZ.out];exact((HB.out.setCell (p:=⟨r,0,none⟩) (Nat.le_refl _) _).setCell (p:=⟨r,1,none⟩) (Nat.le_refl _) _)⟩
theorem adN (s:ByteArray)(w:World)(hV:Vars w)(hs:s.size≤4000000000):Calls Tryz.prog 48 #[.string s] w (amS (aaE s) w):=by
 have C:=aac (fun W0 g W h=>aqQ W0 g s ⟨#[]⟩ (.slice none 0 0) W h hs);by_cases h:(aaE s).1=0
 · exact avn s _ w hV h C
 · exact atb s _ w hV h (ayp h) C
end Go.Proofs.YtiaebhomfebagaaGreatDoor.Tg
namespace Go.Proofs.YtiaebhomfebagaaGreatDoor
open Go.RowKit
def a6D (n i:Nat):Int:=if i=0 then (if n=2 then 192 else if n=3 then 224 else if n=4 then 240 else 0) else 128
def a5X (b:Nat→Int)(n:Nat):Nat→Int
 | 0=>0
 | i+1=>a5X b n i * 64+(b i - a6D n i)
end Go.Proofs.YtiaebhomfebagaaGreatDoor
namespace Go.Proofs.YtiaebhomfebagaaGreatDoor
def a6E (L:List Int)(n:Nat):Int:=a5X (fun k=>L.getD k 0) n n
def stp (j:Nat):Int:=if j=1 then 1 else if j=2 then 65 else 4161
def loV (F:List Int)(t:Nat):Int:=a6E (F++List.replicate (t - F.length) 128) t
def rK (F:List Int)(t k:Nat):Int:=loV F t+stp (t - F.length) * k
def Tl (F:List Int):Prop:=∀ i,1≤i→i < F.length→128≤F.getD i 0∧F.getD i 0≤191
def Fst (F:List Int)(t:Nat):Prop:=(t=2∧192≤F.getD 0 0∧F.getD 0 0 < 224)∨(t=3∧224≤F.getD 0 0∧F.getD 0 0 < 240)∨(t=4∧240≤F.getD 0 0∧F.getD 0 0 < 248)
def Hit (F:List Int)(t k:Nat):Prop:=(axS (rK F t k)).length=t∧(axS (rK F t k)).take F.length=F
def a6C (F:List Int)(t:Nat):Prop:=Tl F∧Fst F t∧∃ k,k < 64∧Hit F t k
end Go.Proofs.YtiaebhomfebagaaGreatDoor
namespace Go.Proofs.YtiaebhomfebagaaGreatDoor
open Go.RowKit
def axb (F:List Int)(w:World)(t:Value)(wr:World):Prop:=
 ∃ k:Nat,F.length < k∧k≤5∧t=.int .i64 k∧(∀ j,F.length < j→j < k→¬ a6C F j)∧Below w.heap.size w wr
theorem avy (a b:ByteArray):aad (a++b)=aad a++aad b:=by
 unfold aad;rw[ByteArray.data_append,Array.toList_append,List.map_append]
end Go.Proofs.YtiaebhomfebagaaGreatDoor
namespace Go.Proofs.YtiaebhomfebagaaGreatDoor
open Go.RowKit
theorem Tryz.info21:(Tryz.prog.info? 21).map (fun i=>(i.zero,i.size,i.bytes))=some (some (.int .i32 0),1,4):=by kernel_rfl
def Own (w:World)(B:Nat)(v:Value)(l:List Int):Prop:=w.ownsRow B 21 1 v l.length (l.map (Value.int .i32))
def aqj (s:ByteArray)(w:World)(x:List Int × Int × Int)(e:Ending)(w':World):Prop:=
 ∃ v,e=.returned (.tuple #[v,.int .i64 x.2.1,.int .i64 x.2.2])∧Own w' w.heap.size v x.1∧Below w.heap.size w w'
def ams (s:ByteArray)(w:World)(v i:Value)(wr:World):Prop:=
 ∃ (a:Nat) (pre:List Int),a≤s.size∧i=.int .i64 a∧Own wr w.heap.size v pre∧Below w.heap.size w wr∧pre.length≤a∧aoJ s=(pre++(aff s a).1,(aff s a).2)
end Go.Proofs.YtiaebhomfebagaaGreatDoor
namespace Go.Proofs.YtiaebhomfebagaaGreatDoor.Tg
open Go.RowKit
def pk (s:ByteArray)(k:Nat):Nat:=k+bk (Nz.fr s k)
end Go.Proofs.YtiaebhomfebagaaGreatDoor.Tg
namespace Go.Proofs.YtiaebhomfebagaaGreatDoor.Nz
open Go.RowKit
def Fd (n b0 b1 b2:Nat):Prop:=3≤n∧b0=239∧b1=191∧b2=189
instance (n b0 b1 b2:Nat):Decidable (Fd n b0 b1 b2):=inferInstanceAs (Decidable (3≤n∧b0=239∧b1=191∧b2=189))
theorem take3 (L:List Nat):(L.take 3=[239,191,189])↔Fd L.length (L.getD 0 0) (L.getD 1 0) (L.getD 2 0):=by
 unfold Fd
 match L with
 | []=>simp
 | [a]=>simp
 | [a,b]=>simp
 | a :: b :: c :: L=>simp
end Go.Proofs.YtiaebhomfebagaaGreatDoor.Nz
namespace Go.Proofs.YtiaebhomfebagaaGreatDoor
open Go.RowKit
theorem adx (t:ByteArray)(k:Nat)(h:k < t.size):(aad t).drop k≠[]:=by
 intro e;have:=congrArg List.length e;rw[List.length_drop,aae,List.length_nil] at this;omega
end Go.Proofs.YtiaebhomfebagaaGreatDoor
namespace Go.Proofs.YtiaebhomfebagaaGreatDoor.Tg
open Go.RowKit
theorem a2N (s:ByteArray)(k:Nat):Nz.bl (Nz.fr s k)=(Nz.bl s).drop k:=Nz.aoF s k
theorem a1B (s:ByteArray)(k:Nat):Nz.sn (Nz.fr s k) 0=Nz.sn s k:=by unfold Nz.sn;rw[a2N,List.drop_zero]
theorem a5s (s:ByteArray)(k:Nat):Nz.sx (Nz.fr s k) 0=Nz.sx s k:=by
 rw[aiy,a1B];rfl
theorem a3d (s:ByteArray)(k:Nat):sk (Nz.fr s k)=Nz.fr s (pk s k):=by unfold sk pk;rw[asw]
def p1 (s:ByteArray)(f:Nat):Nat:=pk s (f+Nz.sn s f)
def p2 (s:ByteArray)(f:Nat):Nat:=pk s (p1 s f+1)
theorem a1E (s:ByteArray)(f:Nat):sk (Nz.fr (Nz.fr s f) (Nz.sn (Nz.fr s f) 0))=Nz.fr s (p1 s f):=by rw[a1B,asw,a3d];rfl
theorem a5e (s:ByteArray)(f:Nat):sk (Nz.fr (sk (Nz.fr (Nz.fr s f) (Nz.sn (Nz.fr s f) 0))) 1)=Nz.fr s (p2 s f):=by rw[a1E,asw,a3d];rfl
theorem awI (s:ByteArray)(f:Nat)(q:UInt8)(hq:q=34∨q=39)(h:isN (Nz.sx s f)=true)(h2:hd (Nz.fr s (p1 s f))=61)(h3:hd (Nz.fr s (p2 s f))=(q.toNat:Int)):aap (Nz.fr s f)=aki q (Nz.sx s f) (Nz.fr s (p2 s f+1)):=by
 unfold aap;rw[a5s,if_neg (by rw[h];decide),a5e,a1E,if_neg (Decidable.not_not.2 h2),asw];rcases hq with rfl | rfl
 · rw[if_pos (h3.trans u34)]
 · rw[if_neg (by rw[h3,u39];decide),if_pos (h3.trans u39)]
theorem azb (s:ByteArray)(f:Nat)(q:UInt8)(hq:q=34∨q=39)(h:isN (Nz.sx s f)=true)(h2:hd (Nz.fr s (p1 s f))=61)(h3:hd (Nz.fr s (p2 s f))=(q.toNat:Int))(h4:qi q (Nz.fr s (p2 s f+1))= -1):aap (Nz.fr s f)=(6,Nz.em,Nz.em,Nz.em):=by
 rw[awI s f q hq h h2 h3];unfold aki;rw[if_pos h4]
theorem a1T (s:ByteArray)(b j:Nat)(hb:b≤j):(Nz.fr s b).extract 0 (j - b)=s.extract b j:=aaW (by
 rw[abV,abw,aal,List.take_drop];have e:b+(j - b)=j:=by omega
 first
  | rw[e]
  | rw[Nat.add_comm,e])
theorem a3R (s:ByteArray)(b j:Nat)(hb:b≤j):Nz.fr (Nz.fr s b) (j - b+1)=Nz.fr s (j+1):=by
 rw[asw];have e:b+(j - b+1)=j+1:=(by omega);rw[e]
theorem a1v (s:ByteArray)(f j:Nat)(q:UInt8)(hq:q=34∨q=39)(h:isN (Nz.sx s f)=true)(h2:hd (Nz.fr s (p1 s f))=61)(h3:hd (Nz.fr s (p2 s f))=(q.toNat:Int))(hj:p2 s f+1≤j)(h4:qi q (Nz.fr s (p2 s f+1))=((j - (p2 s f+1):Nat):Int)):
 aap (Nz.fr s f)=vlF (Nz.sx s f) (s.extract (p2 s f+1) j) (Nz.fr s (j+1)):=by
 rw[awI s f q hq h h2 h3];unfold aki vlF;have e1:(qi q (Nz.fr s (p2 s f+1))).toNat=j - (p2 s f+1):=by rw[h4];exact Int.toNat_natCast _
 have e2:=a1T s (p2 s f+1) j hj;have e3:=a3R s (p2 s f+1) j hj;rw[if_neg (by rw[h4];omega),e1,e2,e3]
theorem alE (s:ByteArray)(j b:Nat)(hb:b≤j):(aad (Nz.fr s b)).getD (j - b) 0=(aad s).getD j 0:=by
 rw[abw,List.getD_eq_getElem?_getD,List.getElem?_drop,← List.getD_eq_getElem?_getD]
 congr 1
 omega
structure DS (w0:World)(R T:Nat)(nm:ByteArray)(v:Value)(l:List (ByteArray × ByteArray))(w:World):Prop where
 ne:R≠T
 rlo:w0.heap.size≤R
 tlo:w0.heap.size≤T
 rblk:w.heap[R]?=some (.cells #[.string ⟨#[]⟩,.slice none 0 0] 96 (0,0))
 tblk:w.heap[T]?=some (.cells #[.string nm,v] 96 (0,0))
 own:amW w w0.heap.size v l
 bel:Below w0.heap.size w0 w
theorem DS.rlt {w0 w:World}{R T:Nat}{nm:ByteArray}{v:Value}{l:List (ByteArray × ByteArray)}(h:DS w0 R T nm v l w):R < w.heap.size:=(Array.getElem?_eq_some_iff.1 h.rblk).1
theorem DS.tlt {w0 w:World}{R T:Nat}{nm:ByteArray}{v:Value}{l:List (ByteArray × ByteArray)}(h:DS w0 R T nm v l w):T < w.heap.size:=(Array.getElem?_eq_some_iff.1 h.tblk).1
theorem DS.after {w0 w w':World}{R T:Nat}{nm:ByteArray}{v:Value}{l:List (ByteArray × ByteArray)}(h:DS w0 R T nm v l w)(hb:Below w.heap.size w w'):DS w0 R T nm v l w':=
 ⟨h.ne,h.rlo,h.tlo,(hb.block R h.rlt).trans h.rblk,(hb.block T h.tlt).trans h.tblk,aaj h.own hb,h.bel.trans (hb.mono h.bel.size)⟩
theorem DS.r0 {w0 w:World}{R T:Nat}{nm:ByteArray}{v:Value}{l:List (ByteArray × ByteArray)}(h:DS w0 R T nm v l w):w.cell? ⟨R,0,none⟩=some (.string ⟨#[]⟩):=by rw[Lib.cell_of_heap h.rblk];rfl
theorem DS.r1 {w0 w:World}{R T:Nat}{nm:ByteArray}{v:Value}{l:List (ByteArray × ByteArray)}(h:DS w0 R T nm v l w):w.cell? ⟨R,1,none⟩=some (.slice none 0 0):=by rw[Lib.cell_of_heap h.rblk];rfl
theorem DS.t0 {w0 w:World}{R T:Nat}{nm:ByteArray}{v:Value}{l:List (ByteArray × ByteArray)}(h:DS w0 R T nm v l w):w.cell? ⟨T,0,none⟩=some (.string nm):=by rw[Lib.cell_of_heap h.tblk];rfl
theorem DS.t1 {w0 w:World}{R T:Nat}{nm:ByteArray}{v:Value}{l:List (ByteArray × ByteArray)}(h:DS w0 R T nm v l w):w.cell? ⟨T,1,none⟩=some v:=by rw[Lib.cell_of_heap h.tblk];rfl
theorem DS.res {w0 w:World}{R T:Nat}{nm:ByteArray}{v:Value}{l:List (ByteArray × ByteArray)}(h:DS w0 R T nm v l w)(x y:Value):amW ((w.setCell ⟨R,0,none⟩ x).setCell ⟨R,1,none⟩ y) w0.heap.size v l∧Below w0.heap.size w0 ((w.setCell ⟨R,0,none⟩ x).setCell ⟨R,1,none⟩ y):=by
 refine⟨aar (T:=96) (cs:= #[x,.slice none 0 0]) (fr:=(0,0)) (aar h.own h.rblk (by decide) 0 x) ?_ (by decide) 1 y,(h.bel.setCell (p:=⟨R,0,none⟩) h.rlo _).setCell (p:=⟨R,1,none⟩) h.rlo _⟩;simp[World.setCell,Array.getElem?_modify,h.rblk]
theorem DS.bad {w0 w:World}{R T:Nat}{nm:ByteArray}{v:Value}{l:List (ByteArray × ByteArray)}(h:DS w0 R T nm v l w)(x y:Value)(er:Int):amS (er,Nz.em,[]) w0 (.returned (.tuple #[.agg #[.string ⟨#[]⟩,.slice none 0 0],.int .i64 er])) ((w.setCell ⟨R,0,none⟩ x).setCell ⟨R,1,none⟩ y):=
 ⟨_,rfl,World.ownsRow_nil _ _ _ _,(h.res x y).2⟩
theorem DS.put {w0 w w2:World}{R T:Nat}{nm:ByteArray}{v v':Value}{l:List (ByteArray × ByteArray)}{x:ByteArray × ByteArray}(h:DS w0 R T nm v l w)(hown:w2.ownsRow w0.heap.size 167 2 v' (l.length+1) (rwL l++rwC x))(hg:w.grownBy w2 v.ownBlock):
 w2.heap[T]?=some (.cells #[.string nm,v] 96 (0,0))∧DS w0 R T nm v' (l++[x]) (w2.setCell ⟨T,1,none⟩ v'):=by
 have hne:=own_ne h.own h.tblk (by decide);have hne2:=own_ne h.own h.rblk (by decide);have hb2:w2.heap[T]?=some (.cells #[.string nm,v] 96 (0,0)):=(hg.block T h.tlt (fun e=>hne e.symm)).trans h.tblk;have hr2:w2.heap[R]?=some (.cells #[.string ⟨#[]⟩,.slice none 0 0] 96 (0,0)):=(hg.block R h.rlt (fun e=>hne2 e.symm)).trans h.rblk
 have ho:amW w2 w0.heap.size v' (l++[x]):=by
  unfold amW;rw[afk,List.length_append];exact hown
 refine⟨hb2,h.ne,h.rlo,h.tlo,(Below.heap_setCell _ _ _ _ h.ne).trans hr2,by simp[World.setCell,Array.getElem?_modify,hb2],aar ho hb2 (by decide) 1 _,?_⟩;exact(h.bel.grown hg h.bel.size (fun k hk=>(World.ownsRow.lt h.own k hk).1)).setCell (p:=⟨T,1,none⟩) h.tlo _
end Go.Proofs.YtiaebhomfebagaaGreatDoor.Tg
namespace Go.Proofs.YtiaebhomfebagaaGreatDoor.Tg
open Go.RowKit
theorem aoc (s:ByteArray)(b:Nat)(q:UInt8)(h:∀ k,b≤k→k < s.size→(aad s).getD k 0≠((q.toNat:Nat):Int)):qi q (Nz.fr s b)= -1:=by
 apply a0R;intro i hi;rw[Nz.aaD] at hi;have:=alE s (b+i) b (by omega);rw[show b+i - b=i by omega] at this;rw[this];exact h (b+i) (by omega) (by omega)
theorem aos (s:ByteArray)(b j:Nat)(q:UInt8)(hb:b≤j)(hj:j < s.size)(he:(aad s).getD j 0=((q.toNat:Nat):Int))(h:∀ k,b≤k→k < j→(aad s).getD k 0≠((q.toNat:Nat):Int)):qi q (Nz.fr s b)=((j - b:Nat):Int):=by
 apply asD
 · rw[Nz.aaD];omega
 · rw[alE s j b hb];exact he
 · intro i hi;have:=alE s (b+i) b (by omega);rw[show b+i - b=i by omega] at this;rw[this];exact h (b+i) (by omega) (by omega)
theorem agB (s:ByteArray)(f:Nat)(h3:isN (Nz.sx s f)=true)(h6:hd (Nz.fr s (p1 s f))=61)(h8:p2 s f < s.size)(h9:hd (Nz.fr s (p2 s f))=34∨hd (Nz.fr s (p2 s f))=39):
 ((∀ k,p2 s f+1≤k→k < s.size→(aad s).getD k 0≠hd (Nz.fr s (p2 s f)))→aap (Nz.fr s f)=(6,Nz.em,Nz.em,Nz.em))∧
 (∀ j,p2 s f+1≤j→j < s.size→(aad s).getD j 0=hd (Nz.fr s (p2 s f))→(∀ k,p2 s f+1≤k→k < j→(aad s).getD k 0≠hd (Nz.fr s (p2 s f)))→aap (Nz.fr s f)=vlF (Nz.sx s f) (s.extract (p2 s f+1) j) (Nz.fr s (j+1))):=by
 obtain⟨q,hq,hq0⟩:∃ q:UInt8,(q=34∨q=39)∧hd (Nz.fr s (p2 s f))=((q.toNat:Nat):Int):=by
  rcases h9 with h | h
  · exact⟨34,.inl rfl,h⟩
  · exact⟨39,.inr rfl,h⟩
 rw[hq0];exact⟨fun h=>azb s f q hq h3 h6 hq0 (aoc s _ _ h),fun j hj1 hj2 he h=>a1v s f j q hq h3 h6 hq0 hj1 (aos s _ j _ hj1 hj2 he h)⟩
theorem DS.drewN {w0 w:World}{R T:Nat}{nm:ByteArray}{v:Value}{l:List (ByteArray × ByteArray)}(h:DS w0 R T nm v l w)(n:Nat):DS w0 R T nm v l (w.drewN n):=h.after (below_drewN (Below.refl _ w) n)
end Go.Proofs.YtiaebhomfebagaaGreatDoor.Tg
namespace Go.Proofs.YtiaebhomfebagaaGreatDoor.Tg
open Go.RowKit
def Rg1 (l:List (ByteArray × ByteArray))(k:Nat)(x:ByteArray × ByteArray):Prop:=isN x.1=true∧Rt (aad x.2)∧∀ j y,j < k→l[j]?=some y→aad y.1≠aad x.1
def Fit (l:List (ByteArray × ByteArray)):Prop:=∀ x∈l,x.1.size≤2000000000∧x.2.size≤2000000000
def RgP (nm:ByteArray)(l:List (ByteArray × ByteArray)):Prop:=isN nm=true∧l.length≤32∧∀ k x,l[k]?=some x→Rg1 l k x
end Go.Proofs.YtiaebhomfebagaaGreatDoor.Tg
