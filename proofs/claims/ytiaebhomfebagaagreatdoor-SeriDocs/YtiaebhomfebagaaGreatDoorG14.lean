/- Lemmas of the claim. -/
import Derived.Test.YtiaebhomfebagaaGreatDoorG13
import Derived.RangeFuncNested
import Derived.RangeFuncBox
import Derived.RangeFuncBound
import Derived.RangeFuncCalls
import Derived.RangeFuncLeaves
import Derived.Shelf.Abstract
import Derived.Shelf.RegionOpen
import Derived.WalkKit
import Derived.OwnWalkIn
import Derived.TacticsInMore
import Derived.LoopNIn
import Derived.LoopIn
set_option maxHeartbeats 4000000
set_option maxRecDepth 100000
set_option linter.unusedSimpArgs false
set_option linter.unusedVariables false
namespace Go.Proofs.YtiaebhomfebagaaGreatDoor.Nz.Sc
open Go.RowKit Go.Shelf
attribute [local go_sem] Oper.semAt_some
def upto {α:Type}(f:Nat→α)(k:Nat):List α:=(List.range k).map f
theorem agG {α:Type}(f:Nat→α)(k:Nat):upto f (k+1)=upto f k++[f k]:=by simp[upto,List.range_succ]
theorem akq {α:Type}(f:Nat→α)(k:Nat):(upto f k).length=k:=by simp[upto]
theorem alT {α:Type}(f:Nat→α)(k j:Nat)(h:j < k):f j∈upto f k:=by
 simp only[upto,List.mem_map,List.mem_range];exact⟨j,h,rfl⟩
abbrev LB:={ b:P2 // b.2.size≤Lim }
def lat (l:List P2)(h:aeA l)(k:Nat):LB:=⟨l.getD k (em,em),by
 rw[List.getD_eq_getElem?_getD]
 cases hk:l[k]? with
 | none=>exact Nat.zero_le _
 | some x=>exact(h x (List.mem_of_getElem? hk)).2⟩
theorem aiB {l:List P2}(h:aeA l){k:Nat}{x:P2}(hk:l[k]?=some x):(lat l h k).1=x:=by
 show l.getD k (em,em)=x;rw[List.getD_eq_getElem?_getD,hk];rfl
def bk (l:List P2)(h:aeA l)(k:Nat):Nat × LB:=(l.length - 1 - k,lat l h (l.length - 1 - k))
def aat (x:Nat × LB):Array Value:= #[.int .i64 (x.1:Int),.agg #[.string x.2.1.1,.string x.2.1.2]]
def RdN (n:Nat)(w:World)(A:Option Addr)(l:List P2):Prop:=
 ∀ k x,l[k]?=some x→∃ b off,A=some ⟨b,off,none⟩∧b < n∧w.cell? ⟨b,off+k * 2,none⟩=some (.string x.1)∧w.cell? ⟨b,off+k * 2+1,none⟩=some (.string x.2)
theorem RdN.below {n:Nat}{w w':World}{A:Option Addr}{l:List P2}(h:RdN n w A l)(hb:Below n w w'):RdN n w' A l:=fun k x hk=>by
 obtain⟨b,o,e,hlt,c0,c1⟩:=h k x hk;exact⟨b,o,e,hlt,(hb.cell (p:=⟨b,o+k * 2,none⟩) hlt).trans c0,(hb.cell (p:=⟨b,o+k * 2+1,none⟩) hlt).trans c1⟩
theorem a3b (n:Nat)(hn:1≤n)(l:Nat)(Bs n₀ cap:Nat)(A:Option Addr)(L:List P2)(N:Nat)(hN:N=L.length)(hlim:aeA L)(hreach:N≤1000000000000)(J Jx:List (Nat × LB)→World→Prop)
 (hY:∀ pre x W,J pre W→pre.length < N→YieldAt Fence.wide (n - 1) Tryz.prog l (aat x) W fun e W'=>
   (e=.returned (.bool true)∧J (pre++[x]) W'∧Below n₀ W W')∨(e=.returned (.bool false)∧Jx (pre++[x]) W'))
 (W:World) (hBs:W.cell? ⟨Bs,0,none⟩=some (.slice A N cap)) (hlt:Bs < n₀) (hR:RdN n₀ W A L) (h0:J [] W):
 CallsIn Fence.wide n Tryz.prog 174 #[.func (.yield l) #[] #[],.pointer (some ⟨Bs,0,none⟩)] W fun e W'=>(∃ v,e=.returned v)∧
  ((∃ ys,ys=upto (bk L hlim) N∧J ys W')∨(∃ pre,(∃ k,k≤N∧pre=upto (bk L hlim) k)∧Jx pre W')):=by
 have HR:=aac hR;have HN:=aac hN;clear hR hN;refine callsIn_of_wp Tryz.func174 rfl trivial ?_ rfl;simp only[Tryz.ntmps174,List.size_toArray,List.length_cons,List.length_nil,Nat.reduceAdd,Nat.reduceSub,Array.replicate_succ,Array.replicate_zero,List.push_toArray,List.append_toArray,List.nil_append,List.cons_append]
 gi_wp2
 gi_loopw [3] (fun i wr=>∃ m:Nat,m≤N∧i=.int .i64 ((m:Int) - 1)∧J (upto (bk L hlim) (N - m)) wr∧Hid (Below n₀ W wr))
  (fun i _=>(intOf i+1).toNat)
 case atStart=>exact⟨N,Nat.le_refl _,by simp,by rw[Nat.sub_self];exact h0,aac (Below.refl _ _)⟩
 case round=>
  obtain⟨m,hm,rfl,hJs,hnx⟩:=hrel;have hBs':wr.cell? ⟨Bs,0,none⟩=some (.slice A N cap):=(hnx.out.cell (p:=⟨Bs,0,none⟩) hlt).trans hBs;clear hBs
  cases m with
  | zero=>
    have e0:(((0:Nat):Int) - 1)= -1:=(by omega);rw[e0];rw[Nat.sub_zero] at hJs
    gi_wp2
    go_end0
    exact⟨⟨_,rfl⟩,.inl ⟨_,rfl,hJs⟩⟩
  | succ m=>
    have e1:(((m+1:Nat):Int) - 1)=(m:Int):=(by omega);rw[e1];have hml:m < L.length:=by rw[← HN.out];omega
    obtain⟨b,off,rfl,hb,x0,x1⟩:=(HR.out.below hnx.out) m _ (List.getElem?_eq_getElem hml)
    have ebk:bk L hlim (N - (m+1))=(m,lat L hlim m):=by
     unfold bk;have:L.length - 1 - (N - (m+1))=m:=by rw[← HN.out];omega
     rw[this]
    have elat:(lat L hlim m).1=L[m]:=aiB hlim (List.getElem?_eq_getElem hml);obtain⟨fn,tmps,assign,body,hy,hR'⟩:=hY _ (m,lat L hlim m) wr hJs (by rw[akq];omega);unfold aat at hy;dsimp only at hy;rw[← elat] at x0 x1;have hnext:N - m=N - (m+1)+1:=(by omega);have d1:(m:Int) < (N:Int):=(by omega);have d0:(0:Int)≤(m:Int):=(by omega);have HE:=aac ebk;have HX:=aac hnext;clear e1 ebk elat hnext HR HN;generalize lat L hlim m=lm at *
    gi_wp2
    refine hR'.mono ?_;rintro e W3 (⟨rfl,hJ3,hk3⟩ | ⟨rfl,hJx3⟩)
    · gi_wp2
      go_roundw;case rel=>exact⟨m,by omega,by go_num,by rw[HX.out,agG,HE.out];exact hJ3,aac (hnx.out.trans hk3)⟩
      case measure=>simp[intOf]
    · gi_wp2
      refine bodyPost_ret (results_none rfl _ _ _) rfl ?_;exact⟨⟨_,rfl⟩,.inr ⟨_,⟨N - (m+1)+1,by omega,by rw[agG,HE.out]⟩,hJx3⟩⟩
theorem a2p (a:Option Addr)(len cap:Nat)(w:World):
 Calls Tryz.prog 157 #[.slice a len cap] w fun e w'=>e=.returned (.func (.func 174) #[] #[.pointer (some ⟨w.heap.size,0,none⟩)])∧w'=w.alloc (.cells #[.slice a len cap] 99):=by
 go_enter Tryz.func157,Tryz.ntmps157;go_wp2;go_ret;exact⟨rfl,rfl⟩
theorem auS (n:Nat)(hn:1≤n)(Bs n₀ cap:Nat)(A:Option Addr)(L:List P2)(N:Nat)(hN:N=L.length)(hlim:aeA L)(hreach:N≤1000000000000)(w:World)(hlt:Bs < w.heap.size)(hn₀:n₀≤w.heap.size)
 (hBs:w.cell? ⟨Bs,0,none⟩=some (.slice A N cap)) (hB0:Bs < n₀) (hR:RdN n₀ w A L):
 SeqStopsK Fence.wide n Tryz.prog 174 #[.pointer (some ⟨Bs,0,none⟩)] aat (Below n₀) (fun ys=>ys=upto (bk L hlim) N) (fun pre=>∃ k,k≤N∧pre=upto (bk L hlim) k) N w:=fun l J Jx W hW _ _ hY h0=>by
 have hc':=(hW.cell (p:=⟨Bs,0,none⟩) hlt).trans hBs;exact a3b n hn l Bs n₀ cap A L N hN hlim hreach J Jx hY W hc' hB0 (hR.below (hW.mono hn₀)) h0
theorem ayt {β:Type}(B:Nat)(t:TypeId)(f:β→Array Value):Go.Own (fun s W=>W.heap[B]?=some (.cells (f s) t (0,0))):=fun s X Y row hs hg hrow=>
 (hg.block B (Array.getElem?_eq_some_iff.1 hs).1 (fun e'=>by obtain⟨o,ho,hc⟩:=hrow B e'.symm;rw[hs] at ho;cases ho;cases hc)).trans hs
theorem akn {W W':World}(h:Below W.heap.size W W'):KeepsOthers W W':=KeepsOthers.of_grownBy (row:=none) ⟨h.os,h.tape,h.output,h.size,fun k hk _=>h.block k hk⟩ (fun j o e=>by cases e)
theorem ajG {W W':World}{B:Nat}{t:TypeId}{v:Value}(h:Boxed W B t v)(hb:Below W.heap.size W W'):Boxed W' B t v:=(hb.block B h.lt).trans h
theorem atP {L:List P2}(hlim:aeA L)(p:ByteArray)(k:Nat)(hk:k < L.length)(h1:∀ j,j < k→eqb (bk L hlim j).2.1.1 p=false)(h2:eqb (bk L hlim k).2.1.1 p=true):acn L p=((bk L hlim k).2.1.2,true):=by
 have hx:=List.getElem?_eq_getElem (show L.length - 1 - k < L.length by omega);have e:(bk L hlim k).2.1=L[L.length - 1 - k]'(by omega):=aiB hlim hx;rw[e] at h2 ⊢;refine axY L p _ _ hx h2 (fun j x hj hxj=> ?_);have hjl:j < L.length:=(List.getElem?_eq_some_iff.1 hxj).1;have:=h1 (L.length - 1 - j) (by omega);have ej:L.length - 1 - (L.length - 1 - j)=j:=by omega
 have e2:(bk L hlim (L.length - 1 - j)).2.1=x:=by
  unfold bk;dsimp only;rw[ej];exact aiB hlim hxj
 rw[e2] at this;exact this
theorem avQ {L:List P2}(hlim:aeA L)(p:ByteArray)(h1:∀ j,j < L.length→eqb (bk L hlim j).2.1.1 p=false):acn L p=(em,eqb p em):=by
 refine ame L p (fun j x hxj=> ?_);have hjl:j < L.length:=(List.getElem?_eq_some_iff.1 hxj).1;have:=h1 (L.length - 1 - j) (by omega);have ej:L.length - 1 - (L.length - 1 - j)=j:=by omega
 have e2:(bk L hlim (L.length - 1 - j)).2.1=x:=by
  unfold bk;dsimp only;rw[ej];exact aiB hlim hxj
 rw[e2] at this;exact this
theorem axE (p:ByteArray):eqb p em=p.toList.isEmpty:=by
 have e:em.toList=[]:=by rw[Lib.toList_data];rfl
 unfold eqb;rw[e];cases p.toList <;> rfl
theorem Tryz.results130:Tryz.f130.results= #[ResultVar.cell 4 9,ResultVar.cell 5 4]:=by kernel_rfl
theorem awq (A:Option Addr)(N cap:Nat)(p:ByteArray)(L:List P2)(w:World)(hN:N=L.length)(hlim:aeA L)(hreach:N≤1000000000000)(hR:RdR w A L):
 Calls Tryz.prog 130 #[.slice A N cap,.string p] w fun e w'=>e=.returned (.tuple #[.string (acn L p).1,.bool (acn L p).2])∧Below w.heap.size w w':=by
 have HN:=aac hN;clear hN;refine(callsIn_wide (n:=3)).1 ?_;refine callsIn_of_wp_marks Tryz.func130 rfl trivial ?_ rfl;simp only[Tryz.ntmps130,List.size_toArray,List.length_cons,List.length_nil,Nat.reduceAdd,Nat.reduceSub,Array.replicate_succ,Array.replicate_zero,List.push_toArray,List.append_toArray,List.nil_append,List.cons_append]
 gi_wp2_with (refine⟨trivial,?_⟩;gi_at_call 157;refine(callsIn_wide.2 (a2p _ _ _ _)).mono ?_;rintro e w' ⟨rfl,rfl⟩)
 have bP:=((Boxed.new w 9 (.string p)).alloc (.cells #[.string ⟨#[]⟩] 9)).alloc (.cells #[.bool false] 4) |>.alloc (.cells #[.slice A N cap] 99);have bR:=((Boxed.new (w.alloc (.cells #[.string p] 9)) 9 (.string ⟨#[]⟩)).alloc (.cells #[.bool false] 4)).alloc (.cells #[.slice A N cap] 99);have bO:=(Boxed.new ((w.alloc (.cells #[.string p] 9)).alloc (.cells #[.string ⟨#[]⟩] 9)) 4 (.bool false)).alloc (.cells #[.slice A N cap] 99);have bS:=Boxed.new (((w.alloc (.cells #[.string p] 9)).alloc (.cells #[.string ⟨#[]⟩] 9)).alloc (.cells #[.bool false] 4)) 99 (.slice A N cap);simp only[World.size_alloc] at bR bO bS;have hB0:Below w.heap.size w ((((w.alloc (.cells #[.string p] 9)).alloc (.cells #[.string ⟨#[]⟩] 9)).alloc (.cells #[.bool false] 4)).alloc (.cells #[.slice A N cap] 99)):=((((Below.refl _ w).alloc (Nat.le_refl _) _).alloc (by simp) _).alloc (by simp;omega) _).alloc (by simp;omega) _;have hsz:((((w.alloc (.cells #[.string p] 9)).alloc (.cells #[.string ⟨#[]⟩] 9)).alloc (.cells #[.bool false] 4)).alloc (.cells #[.slice A N cap] 99)).heap.size=w.heap.size+4:=(by simp);obtain⟨W0,hW0⟩:∃ W0,((((w.alloc (.cells #[.string p] 9)).alloc (.cells #[.string ⟨#[]⟩] 9)).alloc (.cells #[.bool false] 4)).alloc (.cells #[.slice A N cap] 99))=W0:=⟨_,rfl⟩;rw[hW0] at bP bR bO bS hB0 hsz ⊢;clear hW0
 have hRN:RdN W0.heap.size W0 A L:=fun k x hk=>by
  obtain⟨b,o,e,hlt,c⟩:=(hR.keep hB0) k x hk;exact⟨b,o,e,hlt,c⟩
 refine wpIn_rangeFunc_ownH rfl (by omega) (gf:=174) (lb:= #[.pointer (some ⟨w.heap.size+1+1+1,0,none⟩)]) rfl trivial (enters_of Tryz.func174 (by kernel_rfl) rfl)
  (auS (3 - 1) (by omega) (w.heap.size+1+1+1) W0.heap.size cap A L N HN.out hlim hreach W0 (by omega) (Nat.le_refl _) bS.cell (by omega) hRN) belowK_t (belowK_b (Nat.le_refl _)) (Below.refl _ _) (fun _=>rfl)
  (fun pre W=>((∀ q∈pre,eqb q.2.1.1 p=false)∧Boxed W w.heap.size 9 (.string p)∧Boxed W (w.heap.size+1) 9 (.string ⟨#[]⟩)∧Boxed W (w.heap.size+1+1) 4 (.bool false))∧Below W0.heap.size W0 W)
  (fun c pre W=>((c=.ret∧∃ ini last,pre=ini++[last]∧(∀ q∈ini,eqb q.2.1.1 p=false)∧eqb last.2.1.1 p=true∧Boxed W (w.heap.size+1) 9 (.string last.2.1.2)∧Boxed W (w.heap.size+1+1) 4 (.bool true))∧Below w.heap.size w W))
  (OwnFrom.and (OwnFrom.and (ownFrom_pure _ _) (OwnFrom.and (Own.from (boxed_own _ _ (fun _=>_)) _) (OwnFrom.and (Own.from (boxed_own _ _ (fun _=>_)) _) (Own.from (boxed_own _ _ (fun _=>_)) _)))) (ownFrom_below (Nat.le_refl _) (Nat.le_refl _)))
  (fun c=>OwnFrom.and (fun s X Y row hs hg hr=>by
   obtain⟨hc,ini,last,e1,e2,e3,e4,e5⟩:=hs;exact⟨hc,ini,last,e1,e2,e3,boxed_own _ 9 (fun (_:Unit)=>Value.string last.2.1.2) () X Y row e4 hg (fun r e=>(hr r e).2),boxed_own _ 4 (fun (_:Unit)=>Value.bool true) () X Y row e5 hg (fun r e=>(hr r e).2)⟩) (ownFrom_below (Nat.le_refl _) (by omega)))
  ⟨⟨by simp,bP,bR,bO⟩,Below.refl _ _⟩
  (fun x a' W=>∃ Bx,W0.heap.size≤Bx∧W.heap[Bx]?=some (.cells #[.string x.2.1.1,.string x.2.1.2] 164 (0,0))∧a'={ tmps:= #[.slice A N cap,.string p,undef,.pointer (some ⟨w.heap.size,0,none⟩),.pointer (some ⟨w.heap.size+1,0,none⟩),.pointer (some ⟨w.heap.size+1+1,0,none⟩),undef,.pointer (some ⟨Bx,0,none⟩),.slice A N cap,.func (.func 174) #[] #[.pointer (some ⟨w.heap.size+1+1+1,0,none⟩)],.int .i64 (x.1:Int),.agg #[.string x.2.1.1,.string x.2.1.2],undef,undef,undef,undef,undef,undef,undef,undef,undef],defers:=[] })
  (fun x a' _ X Y row hs hg hr=>by obtain⟨Bx,h1,h2,h3⟩:=hs;exact⟨Bx,h1,ayt Bx 164 (fun (_:Unit)=> #[.string x.2.1.1,.string x.2.1.2]) () X Y row h2 hg (fun r e=>(hr r e).2),h3⟩)
  ?assign ?body ?done ?stop
 case assign=>
  rintro l pre ⟨xi,⟨⟨xp,xs⟩,hxs⟩⟩ W K ⟨⟨hp,bP1,bR1,bO1⟩,hB1⟩ hK;simp only[aat]
  gi_wp2
  exact hK _ _ ((KeepsOthers.alloc _ _).from _) ((Below.refl _ W).alloc hB1.size _) ⟨⟨hp,bP1.alloc _,bR1.alloc _,bO1.alloc _⟩,hB1.alloc hB1.size _⟩ ⟨W.heap.size,hB1.size,World.alloc_heap_new W _,rfl⟩
 case body=>
  rintro l pre ⟨xi,⟨⟨xp,xs⟩,hxs⟩⟩ a' W hl ⟨r,hr⟩ ⟨⟨hp,bP1,bR1,bO1⟩,hB1⟩ ⟨Bx,hBx,bX,rfl⟩ hlt;dsimp only at bX hxs ⊢;have c0:=aaf bX 0 (u:=.string xp) rfl;have c1:=aaf bX 1 (u:=.string xs) rfl;have cP:=bP1.cell;by_cases he:eqb xp p=true
  · have hq:(xp.toList == p.toList)=true:=he;have C:=aac (fun W=>aaB xs W hxs)
    gi_wp2_with (refine⟨trivial,?_⟩;gi_at_call 22;refine(CallsIn.inRound l (callsIn_wide.2 (C.out _))).mono ?_;rintro e w' ⟨rfl,hb⟩;have bR2:=ajG bR1 hb;have bO2:=ajG bO1 hb;have cR2:=bR2.cell;have fR2:=bR2.frozen;have cO2:=bO2.cell;have fO2:=bO2.frozen)
    have hBw:Below w.heap.size w w':=(hB0.trans (hB1.mono hB0.size)).trans (hb.mono (Nat.le_trans hB0.size hB1.size));exact⟨((akn hb).trans ((KeepsOthers.setCell _ _ _).trans (KeepsOthers.setCell _ _ _))).from _,⟨rfl,pre,_,rfl,hp,he,(bR2.set _).other (by omega) _,(bO2.other (by omega) _).set _⟩,(hBw.setCell (p:=⟨w.heap.size+1,0,none⟩) (by simp) _).setCell (p:=⟨w.heap.size+1+1,0,none⟩) (by simp;omega) _⟩
  · have hq:(xp.toList == p.toList)=false:=by rw[Bool.not_eq_true] at he;exact he
    gi_wp2
    exact⟨KeepsFrom.refl _ _,Below.refl _ _,⟨fun q hq'=>(List.mem_append.1 hq').elim (hp q) (fun e=>by rw[List.mem_singleton] at e;subst e;exact hq),bP1,bR1,bO1⟩,hB1⟩
 case done=>
  rintro D zs W hD rfl ⟨⟨hp,bP1,bR1,bO1⟩,hB1⟩ hK;have cP:=bP1.cell;have cR:=bR1.cell;have fR:=bR1.frozen;have cO:=bO1.cell;have fO:=bO1.frozen
  gi_wp2
  gi_region
  gi_wp2
  have hK':((W.setCell ⟨w.heap.size+1,0,none⟩ (.string ⟨#[]⟩)).setCell ⟨w.heap.size+1+1,0,none⟩ (.bool p.toList.isEmpty)).drew.heap[D]?=some (.deferred (some [])):=(KeepsOthers.setCell (W.setCell ⟨w.heap.size+1,0,none⟩ (.string ⟨#[]⟩)) ⟨w.heap.size+1+1,0,none⟩ (.bool p.toList.isEmpty)).same D _ ((KeepsOthers.setCell W ⟨w.heap.size+1,0,none⟩ (.string ⟨#[]⟩)).same D _ hK rfl) rfl;rw[avQ hlim p (fun j hj=>hp _ (alT _ _ _ (by rw[HN.out];exact hj))),axE];refine⟨by simp,.inl ⟨_,_,rfl,run_takeDeferred hK',?_⟩⟩;have b5:Boxed ((W.setCell ⟨w.heap.size+1,0,none⟩ (.string ⟨#[]⟩)).setCell ⟨w.heap.size+1+1,0,none⟩ (.bool p.toList.isEmpty)).drew (w.heap.size+1) 9 (.string ⟨#[]⟩):=(bR1.set _).other (by omega) _;have b6:Boxed ((W.setCell ⟨w.heap.size+1,0,none⟩ (.string ⟨#[]⟩)).setCell ⟨w.heap.size+1+1,0,none⟩ (.bool p.toList.isEmpty)).drew (w.heap.size+1+1) 4 (.bool p.toList.isEmpty):=(bO1.other (by omega) _).set _;have c5:=cell_kept b5.cell (grownBy_putObj' _ D (.deferred none)) (fun r e=>by cases e;exact⟨_,hK',rfl⟩);have c6:=cell_kept b6.cell (grownBy_putObj' _ D (.deferred none)) (fun r e=>by cases e;exact⟨_,hK',rfl⟩);have hBw:Below w.heap.size w ((W.setCell ⟨w.heap.size+1,0,none⟩ (.string ⟨#[]⟩)).setCell ⟨w.heap.size+1+1,0,none⟩ (.bool p.toList.isEmpty)).drew:=(((hB0.trans (hB1.mono hB0.size)).setCell (p:=⟨w.heap.size+1,0,none⟩) (by simp) _).setCell (p:=⟨w.heap.size+1+1,0,none⟩) (by simp;omega) _).drew;refine⟨.tuple #[.string em,.bool p.toList.isEmpty],?_,rfl,hBw.trans (belowK_b (w:=w) (Nat.le_refl _) _ D _ _ (by omega) hK' rfl rfl)⟩;simp[results,Tryz.results130,go_sem,c5,c6,em]
 case stop=>
  rintro D c pre W hD ⟨k,hk,rfl⟩ ⟨⟨rfl,ini,last,e1,e2,e3,bR1,bO1⟩,hB1⟩ hK
  gi_wp2
  obtain⟨k',rfl⟩:∃ k',k=k'+1:=by
   cases k with
   | zero=>simp[upto] at e1
   | succ k'=>exact⟨k',rfl⟩
  rw[agG] at e1;obtain⟨rfl,e5⟩:=List.append_inj' e1 rfl;obtain rfl:bk L hlim k'=last:=(by simpa using e5);rw[atP hlim p k' (by have:=HN.out;omega) (fun j hj=>e2 _ (alT _ _ _ hj)) e3];refine⟨by simp,.inl ⟨_,_,rfl,run_takeDeferred hK,?_⟩⟩;have c5:=cell_kept bR1.cell (grownBy_putObj' _ D (.deferred none)) (fun r e=>by cases e;exact⟨_,hK,rfl⟩);have c6:=cell_kept bO1.cell (grownBy_putObj' _ D (.deferred none)) (fun r e=>by cases e;exact⟨_,hK,rfl⟩);refine⟨.tuple #[.string (bk L hlim k').2.1.2,.bool true],?_,rfl,hB1.trans (belowK_b (w:=w) (Nat.le_refl _) W D _ _ (by omega) hK rfl rfl)⟩;simp[results,Tryz.results130,go_sem,c5,c6]
end Go.Proofs.YtiaebhomfebagaaGreatDoor.Nz.Sc
namespace Go.Proofs.YtiaebhomfebagaaGreatDoor.Nz.Sc
open Go.RowKit
theorem axX:xn.toList=[120,109,108,110,115]:=by rw[Lib.toList_data];rfl
theorem a0t:xm.toList=[120,109,108]:=by rw[Lib.toList_data];rfl
theorem a0p:XS.toList=[104,116,116,112,58,47,47,119,119,119,46,119,51,46,111,114,103,47,88,77,76,47,49,57,57,56,47,110,97,109,101,115,112,97,99,101]:=by rw[Lib.toList_data];rfl
theorem ayv:XN.toList=[104,116,116,112,58,47,47,119,119,119,46,119,51,46,111,114,103,47,50,48,48,48,47,120,109,108,110,115,47]:=by rw[Lib.toList_data];rfl
theorem anh {p:ByteArray}{b:Bool}(h:eqb p xn=b):(p.toList == [120,109,108,110,115])=b:=by rw[← axX];exact h
theorem a2Q {p:ByteArray}{b:Bool}(h:eqb p xm=b):(p.toList == [120,109,108])=b:=by rw[← a0t];exact h
theorem a2f {p:ByteArray}{b:Bool}(h:eqb p XS=b):(p.toList == [104,116,116,112,58,47,47,119,119,119,46,119,51,46,111,114,103,47,88,77,76,47,49,57,57,56,47,110,97,109,101,115,112,97,99,101])=b:=by rw[← a0p];exact h
theorem a4e {p:ByteArray}{b:Bool}(h:eqb p XN=b):(p.toList == [104,116,116,112,58,47,47,119,119,119,46,119,51,46,111,114,103,47,50,48,48,48,47,120,109,108,110,115,47])=b:=by rw[← ayv];exact h
theorem ahH {p:ByteArray}{b:Bool}(h:eqb p em=b):p.toList.isEmpty=b:=by rw[← axE];exact h
def a5o (s p l:ByteArray)(ok:Bool):Prop:=∀ w,Calls Tryz.prog 104 #[.string s] w fun e w'=>e=.returned (.tuple #[.string p,.string l,.bool ok])∧Below w.heap.size w w'
theorem akM (s:ByteArray)(hs:s.size≤2000000000):a5o s (aak s).1 (aak s).2.1 (aak s).2.2:=fun w=>afc s (by omega) w
def a6e (o:Option ByteArray):Value:=.tuple #[.string (o.getD em),.bool o.isSome]
theorem azG (s p l:ByteArray)(ok b1 b2 b3:Bool)(CS:Hid (a5o s p l ok))(h1:(p.toList == [120,109,108,110,115])=b1)(h2:p.toList.isEmpty=b2)(h3:(l.toList == [120,109,108,110,115])=b3)(w:World):
 Calls Tryz.prog 102 #[.string s] w fun e w'=>e=.returned (a6e (if b1=true then some l else if b2=true∧b3=true then some em else none))∧Below w.heap.size w w':=by
 cases b1
 · cases b2
   · go_enter Tryz.func102,Tryz.ntmps102;go_wp2_with (go_at_call 104;refine(CS.out _).mono ?_;rintro e w' ⟨rfl,hb⟩);go_ret2;exact⟨rfl,hb⟩
   · cases b3 <;>
     · go_enter Tryz.func102,Tryz.ntmps102;go_wp2_with (go_at_call 104;refine(CS.out _).mono ?_;rintro e w' ⟨rfl,hb⟩);go_ret2;exact⟨rfl,hb⟩
 · go_enter Tryz.func102,Tryz.ntmps102;go_wp2_with (go_at_call 104;refine(CS.out _).mono ?_;rintro e w' ⟨rfl,hb⟩);go_ret2;exact⟨rfl,hb⟩
theorem ajq (s:ByteArray)(hs:s.size≤2000000000)(w:World):
 Calls Tryz.prog 102 #[.string s] w fun e w'=>e=.returned (a6e (aeR s))∧Below w.heap.size w w':=
 azG s _ _ _ _ _ _ (aac (akM s hs)) (anh rfl) (ahH rfl) (anh rfl) w
theorem ayJ (p s:ByteArray)(b1 b2 b3 b4 b5 b6:Bool)(h1:(p.toList == [120,109,108,110,115])=b1)
 (h2:(s.toList == [104,116,116,112,58,47,47,119,119,119,46,119,51,46,111,114,103,47,50,48,48,48,47,120,109,108,110,115,47])=b2) (h3:(p.toList == [120,109,108])=b3)
 (h4:(s.toList == [104,116,116,112,58,47,47,119,119,119,46,119,51,46,111,114,103,47,88,77,76,47,49,57,57,56,47,110,97,109,101,115,112,97,99,101])=b4) (h5:p.toList.isEmpty=b5) (h6:s.toList.isEmpty=b6) (w:World):
 Calls Tryz.prog 103 #[.agg #[.string p,.string s]] w fun e w'=>e=.returned (.bool (!(b1 || b2) && (b3 == b4) && (b5 || !b6)))∧Below w.heap.size w w':=by
 have HB:=aac ((Below.refl w.heap.size w).alloc (Nat.le_refl _) (.cells #[.string p,.string s] 164));have h6':(!s.toList.isEmpty)= !b6:=(by rw[h6]);cases b1
 · cases b2
   · cases b3 <;> cases b4
     · cases b5
       · cases b6 <;>
         · go_enter Tryz.func103,Tryz.ntmps103;go_wp2;go_ret;exact⟨rfl,HB.out⟩
       · go_enter Tryz.func103,Tryz.ntmps103;go_wp2;go_ret;exact⟨rfl,HB.out⟩
     · go_enter Tryz.func103,Tryz.ntmps103;go_wp2;go_ret;exact⟨rfl,HB.out⟩
     · go_enter Tryz.func103,Tryz.ntmps103;go_wp2;go_ret;exact⟨rfl,HB.out⟩
     · cases b5
       · cases b6 <;>
         · go_enter Tryz.func103,Tryz.ntmps103;go_wp2;go_ret;exact⟨rfl,HB.out⟩
       · go_enter Tryz.func103,Tryz.ntmps103;go_wp2;go_ret;exact⟨rfl,HB.out⟩
   · go_enter Tryz.func103,Tryz.ntmps103;go_wp2;go_ret;exact⟨rfl,HB.out⟩
 · go_enter Tryz.func103,Tryz.ntmps103;go_wp2;go_ret;exact⟨rfl,HB.out⟩
theorem asq (p s:ByteArray)(w:World):
 Calls Tryz.prog 103 #[.agg #[.string p,.string s]] w fun e w'=>e=.returned (.bool (okB p s))∧Below w.heap.size w w':=
 ayJ p s _ _ _ _ _ _ (anh rfl) (a4e rfl) (a2Q rfl) (a2f rfl) (ahH rfl) (ahH rfl) w
def nmV (o:Option P2):Value:=match o with
 | none=>.tuple #[.agg #[.string ⟨#[]⟩,.string ⟨#[]⟩],.int .i64 9]
 | some x=>.tuple #[.agg #[.string x.1,.string x.2],.int .i64 0]
theorem Tryz.results105:Tryz.f105.results= #[ResultVar.cell 6 28,ResultVar.tmp 7]:=by kernel_rfl
theorem Tryz.results106:Tryz.f106.results= #[ResultVar.cell 4 28,ResultVar.tmp 5]:=by kernel_rfl
theorem abJ (w:World)(T:TypeId)(cs:Array Value):(w.alloc (.cells cs T)).heap[w.heap.size]?=some (.cells cs T (0,0)):=heap_alloc_new w _
theorem apa (A:Option Addr)(N cap:Nat)(p n sp:ByteArray)(ok b1:Bool)(w:World)(hn:n.size≤Lim)
 (CF:Hid (∀ W,Below w.heap.size w W→Calls Tryz.prog 130 #[.slice A N cap,.string p] W fun e w'=>e=.returned (.tuple #[.string sp,.bool ok])∧Below W.heap.size W w')) (h1:(p.toList == [120,109,108,110,115])=b1):
 Calls Tryz.prog 105 #[.slice A N cap,.string p,.string n] w fun e w'=>e=.returned (nmV (if ok=false∨b1=true then none else some (sp,n)))∧Below w.heap.size w w':=by
 have HB:=aac ((Below.refl w.heap.size w).alloc (Nat.le_refl _) (.cells #[.string ⟨#[]⟩,.string ⟨#[]⟩] 28));have C:=aac (fun W=>aaB n W hn);have HK:=aac (abJ w 28 #[.string ⟨#[]⟩,.string ⟨#[]⟩]);clear hn;cases ok
 · have e0:(if (false=false∨b1=true) then (none:Option P2) else some (sp,n))=none:=if_pos (Or.inl rfl);rw[e0];clear e0;go_enter Tryz.func105,Tryz.ntmps105;go_wp2_with (go_at_call 130;refine(CF.out _ HB.out).mono ?_;rintro e w1 ⟨rfl,hb⟩;have hk:=aac ((hb.block w.heap.size (by simp)).trans HK.out);have z0:=aaf hk.out 0 (u:=.string ⟨#[]⟩) rfl;have z1:=aaf hk.out 1 (u:=.string ⟨#[]⟩) rfl;have f0:=aag hk.out 0;have f1:=aag hk.out 1);have c0:=adY (.string ⟨#[]⟩) (.string ⟨#[]⟩) z0;have c1:=adX (.string ⟨#[]⟩) (.string ⟨#[]⟩) z1;exact bodyPost_ret (v:=.tuple #[.agg #[.string ⟨#[]⟩,.string ⟨#[]⟩],.int .i64 9]) (by simp[results,Tryz.results105,go_sem,c0,c1]) rfl ⟨rfl,((HB.out.trans (hb.mono (by simp))).setCell (p:=⟨w.heap.size,0,none⟩) (Nat.le_refl _) _).setCell (p:=⟨w.heap.size,1,none⟩) (Nat.le_refl _) _⟩
 · cases b1
   · go_enter Tryz.func105,Tryz.ntmps105
     go_wp2_with (first
      | (go_at_call 130;refine(CF.out _ HB.out).mono ?_;rintro e w1 ⟨rfl,hb⟩;have hk:=aac ((hb.block w.heap.size (by simp)).trans HK.out);have z0:=aaf hk.out 0 (u:=.string ⟨#[]⟩) rfl;have z1:=aaf hk.out 1 (u:=.string ⟨#[]⟩) rfl;have f0:=aag hk.out 0;have f1:=aag hk.out 1)
      | (go_at_call 22;refine(C.out _).mono ?_;rintro e w2 ⟨rfl,hb2⟩;have hk2:=aac ((hb2.block w.heap.size (Nat.lt_of_lt_of_le (by simp) hb.size)).trans hk.out);have y0:=aaf hk2.out 0 (u:=.string ⟨#[]⟩) rfl;have y1:=aaf hk2.out 1 (u:=.string ⟨#[]⟩) rfl;have g0:=aag hk2.out 0;have g1:=aag hk2.out 1))
     have c0:=adY (.string sp) (.string n) y0;have c1:=adX (.string sp) (.string n) y1;have B1:=HB.out.trans (hb.mono (by simp));exact bodyPost_ret (v:=.tuple #[.agg #[.string sp,.string n],.int .i64 0]) (by simp[results,Tryz.results105,go_sem,c0,c1]) rfl ⟨rfl,((B1.trans (hb2.mono B1.size)).setCell (p:=⟨w.heap.size,0,none⟩) (Nat.le_refl _) _).setCell (p:=⟨w.heap.size,1,none⟩) (Nat.le_refl _) _⟩
   · go_enter Tryz.func105,Tryz.ntmps105;go_wp2_with (go_at_call 130;refine(CF.out _ HB.out).mono ?_;rintro e w1 ⟨rfl,hb⟩;have hk:=aac ((hb.block w.heap.size (by simp)).trans HK.out);have z0:=aaf hk.out 0 (u:=.string ⟨#[]⟩) rfl;have z1:=aaf hk.out 1 (u:=.string ⟨#[]⟩) rfl;have f0:=aag hk.out 0;have f1:=aag hk.out 1);have c0:=adY (.string ⟨#[]⟩) (.string ⟨#[]⟩) z0;have c1:=adX (.string ⟨#[]⟩) (.string ⟨#[]⟩) z1;exact bodyPost_ret (v:=.tuple #[.agg #[.string ⟨#[]⟩,.string ⟨#[]⟩],.int .i64 9]) (by simp[results,Tryz.results105,go_sem,c0,c1]) rfl ⟨rfl,((HB.out.trans (hb.mono (by simp))).setCell (p:=⟨w.heap.size,0,none⟩) (Nat.le_refl _) _).setCell (p:=⟨w.heap.size,1,none⟩) (Nat.le_refl _) _⟩
theorem agq (A:Option Addr)(N cap:Nat)(p n:ByteArray)(L:List P2)(w:World)(hN:N=L.length)(hlim:aeA L)(hreach:N≤1000000000000)(hR:RdR w A L)(hn:n.size≤Lim):
 Calls Tryz.prog 105 #[.slice A N cap,.string p,.string n] w fun e w'=>e=.returned (nmV (aoi L p n))∧Below w.heap.size w w':=
 apa A N cap p n _ _ _ w hn (aac (fun W hW=>awq A N cap p L W hN hlim hreach (hR.keep hW))) (anh rfl)
theorem a4Q (A:Option Addr)(N cap:Nat)(s p l:ByteArray)(ok b2:Bool)(o:Option P2)(w:World)(hn:l.size≤Lim)(CS:Hid (a5o s p l ok))
 (CR:Hid (∀ W,Below w.heap.size w W→Calls Tryz.prog 105 #[.slice A N cap,.string p,.string l] W fun e w'=>e=.returned (nmV o)∧Below W.heap.size W w')) (h2:p.toList.isEmpty=b2):
 Calls Tryz.prog 106 #[.slice A N cap,.string s] w fun e w'=>e=.returned (nmV (if ok=false then none else if b2=true then some (em,l) else o))∧Below w.heap.size w w':=by
 have HB:=aac ((Below.refl w.heap.size w).alloc (Nat.le_refl _) (.cells #[.string ⟨#[]⟩,.string ⟨#[]⟩] 28));have C:=aac (fun W=>aaB l W hn);have HK:=aac (abJ w 28 #[.string ⟨#[]⟩,.string ⟨#[]⟩]);clear hn;cases ok
 · go_enter Tryz.func106,Tryz.ntmps106;go_wp2_with (go_at_call 104;refine(CS.out _).mono ?_;rintro e w1 ⟨rfl,hb⟩;have hk:=aac ((hb.block w.heap.size (by simp)).trans HK.out);have z0:=aaf hk.out 0 (u:=.string ⟨#[]⟩) rfl;have z1:=aaf hk.out 1 (u:=.string ⟨#[]⟩) rfl;have f0:=aag hk.out 0;have f1:=aag hk.out 1);have c0:=adY (.string ⟨#[]⟩) (.string ⟨#[]⟩) z0;have c1:=adX (.string ⟨#[]⟩) (.string ⟨#[]⟩) z1;exact bodyPost_ret (v:=.tuple #[.agg #[.string ⟨#[]⟩,.string ⟨#[]⟩],.int .i64 9]) (by simp[results,Tryz.results106,go_sem,c0,c1]) rfl ⟨rfl,((HB.out.trans (hb.mono (by simp))).setCell (p:=⟨w.heap.size,0,none⟩) (Nat.le_refl _) _).setCell (p:=⟨w.heap.size,1,none⟩) (Nat.le_refl _) _⟩
 · cases b2
   · cases o with
     | none=>
       have CR':Hid (∀ W,Below w.heap.size w W→Calls Tryz.prog 105 #[.slice A N cap,.string p,.string l] W fun e w'=>e=.returned (.tuple #[.agg #[.string ⟨#[]⟩,.string ⟨#[]⟩],.int .i64 9])∧Below W.heap.size W w'):=CR;clear CR;go_enter Tryz.func106,Tryz.ntmps106
       go_wp2_with (first
        | (go_at_call 104;refine(CS.out _).mono ?_;rintro e w1 ⟨rfl,hb⟩;have hk:=aac ((hb.block w.heap.size (by simp)).trans HK.out);have B1:=aac (HB.out.trans (hb.mono (by simp))))
        | (go_at_call 105;refine(CR'.out _ B1.out).mono ?_;rintro e w2 ⟨rfl,hb2⟩;have hk2:=aac ((hb2.block w.heap.size (Nat.lt_of_lt_of_le (by simp) hb.size)).trans hk.out);have y0:=aaf hk2.out 0 (u:=.string ⟨#[]⟩) rfl;have y1:=aaf hk2.out 1 (u:=.string ⟨#[]⟩) rfl;have g0:=aag hk2.out 0;have g1:=aag hk2.out 1))
       have c0:=adY (.string ⟨#[]⟩) (.string ⟨#[]⟩) y0;have c1:=adX (.string ⟨#[]⟩) (.string ⟨#[]⟩) y1;exact bodyPost_ret (v:=.tuple #[.agg #[.string ⟨#[]⟩,.string ⟨#[]⟩],.int .i64 9]) (by simp[results,Tryz.results106,go_sem,c0,c1]) rfl ⟨rfl,((B1.out.trans (hb2.mono B1.out.size)).setCell (p:=⟨w.heap.size,0,none⟩) (Nat.le_refl _) _).setCell (p:=⟨w.heap.size,1,none⟩) (Nat.le_refl _) _⟩
     | some x=>
       obtain⟨xa,xb⟩:=x;have CR':Hid (∀ W,Below w.heap.size w W→Calls Tryz.prog 105 #[.slice A N cap,.string p,.string l] W fun e w'=>e=.returned (.tuple #[.agg #[.string xa,.string xb],.int .i64 0])∧Below W.heap.size W w'):=CR;clear CR;go_enter Tryz.func106,Tryz.ntmps106
       go_wp2_with (first
        | (go_at_call 104;refine(CS.out _).mono ?_;rintro e w1 ⟨rfl,hb⟩;have hk:=aac ((hb.block w.heap.size (by simp)).trans HK.out);have B1:=aac (HB.out.trans (hb.mono (by simp))))
        | (go_at_call 105;refine(CR'.out _ B1.out).mono ?_;rintro e w2 ⟨rfl,hb2⟩;have hk2:=aac ((hb2.block w.heap.size (Nat.lt_of_lt_of_le (by simp) hb.size)).trans hk.out);have y0:=aaf hk2.out 0 (u:=.string ⟨#[]⟩) rfl;have y1:=aaf hk2.out 1 (u:=.string ⟨#[]⟩) rfl;have g0:=aag hk2.out 0;have g1:=aag hk2.out 1))
       have c0:=adY (.string xa) (.string xb) y0;have c1:=adX (.string xa) (.string xb) y1;exact bodyPost_ret (v:=.tuple #[.agg #[.string xa,.string xb],.int .i64 0]) (by simp[results,Tryz.results106,go_sem,c0,c1]) rfl ⟨rfl,((B1.out.trans (hb2.mono B1.out.size)).setCell (p:=⟨w.heap.size,0,none⟩) (Nat.le_refl _) _).setCell (p:=⟨w.heap.size,1,none⟩) (Nat.le_refl _) _⟩
   · go_enter Tryz.func106,Tryz.ntmps106
     go_wp2_with (first
      | (go_at_call 104;refine(CS.out _).mono ?_;rintro e w1 ⟨rfl,hb⟩;have hk:=aac ((hb.block w.heap.size (by simp)).trans HK.out);have B1:=aac (HB.out.trans (hb.mono (by simp))))
      | (go_at_call 22;refine(C.out _).mono ?_;rintro e w2 ⟨rfl,hb2⟩;have hk2:=aac ((hb2.block w.heap.size (Nat.lt_of_lt_of_le (by simp) hb.size)).trans hk.out);have y0:=aaf hk2.out 0 (u:=.string ⟨#[]⟩) rfl;have y1:=aaf hk2.out 1 (u:=.string ⟨#[]⟩) rfl;have g0:=aag hk2.out 0;have g1:=aag hk2.out 1))
     have c0:=adY (.string ⟨#[]⟩) (.string l) y0;have c1:=adX (.string ⟨#[]⟩) (.string l) y1;exact bodyPost_ret (v:=.tuple #[.agg #[.string ⟨#[]⟩,.string l],.int .i64 0]) (by simp[results,Tryz.results106,go_sem,c0,c1]) rfl ⟨rfl,((B1.out.trans (hb2.mono B1.out.size)).setCell (p:=⟨w.heap.size,0,none⟩) (Nat.le_refl _) _).setCell (p:=⟨w.heap.size,1,none⟩) (Nat.le_refl _) _⟩
theorem a0O (A:Option Addr)(N cap:Nat)(s:ByteArray)(L:List P2)(w:World)(hN:N=L.length)(hlim:aeA L)(hreach:N≤1000000000000)(hR:RdR w A L)(hs:s.size≤2000000000):
 Calls Tryz.prog 106 #[.slice A N cap,.string s] w fun e w'=>e=.returned (nmV (ano L s))∧Below w.heap.size w w':=by
 have hz:(aak s).2.1.size≤Lim:=Nat.le_trans (abH s).2 (by unfold Lim;omega);exact a4Q A N cap s _ _ _ _ _ w hz (aac (akM s hs)) (aac (fun W hW=>agq A N cap _ _ L W hN hlim hreach (hR.keep hW) hz)) (ahH rfl)
end Go.Proofs.YtiaebhomfebagaaGreatDoor.Nz.Sc
namespace Go.Proofs.YtiaebhomfebagaaGreatDoor.Nz.Sc
open Go.RowKit
def a5W (s b:ByteArray)(ok:Bool):Prop:=∀ w,Calls Tryz.prog 102 #[.string s] w fun e w'=>e=.returned (.tuple #[.string b,.bool ok])∧Below w.heap.size w w'
theorem anq {s:ByteArray}(hs:s.size≤2000000000)(h:aeR s=none):a5W s ⟨#[]⟩ false:=fun w=>(ajq s hs w).mono fun e w' ⟨h1,h2⟩=>⟨by rw[h1,h];rfl,h2⟩
theorem amy {s p:ByteArray}(hs:s.size≤2000000000)(h:aeR s=some p):a5W s p true:=fun w=>(ajq s hs w).mono fun e w' ⟨h1,h2⟩=>⟨by rw[h1,h];rfl,h2⟩
def CpC (p s:ByteArray):Prop:=∀ w,Calls Tryz.prog 101 #[.agg #[.string p,.string s]] w fun e w'=>e=.returned (.agg #[.string p,.string s])∧Below w.heap.size w w'
def AlC (p s:ByteArray)(b:Bool):Prop:=∀ w,Calls Tryz.prog 103 #[.agg #[.string p,.string s]] w fun e w'=>e=.returned (.bool b)∧Below w.heap.size w w'
theorem atj {p s:ByteArray}{b:Bool}(h:okB p s=b):AlC p s b:=fun w=>(asq p s w).mono fun e w' ⟨h1,h2⟩=>⟨by rw[h1,h],h2⟩
theorem atI {s p:ByteArray}(h:aeR s=some p):p.size≤s.size:=by
 unfold aeR at h;split at h
 · injection h with h
   rw[← h];exact(abH s).2
 · split at h
   · injection h with h
     rw[← h,aeh];exact Nat.zero_le _
   · cases h
theorem drop_cons {α:Type}{l:List α}{k:Nat}{x:α}(h:l[k]?=some x):l.drop k=x :: l.drop (k+1):=by
 obtain⟨h1,h2⟩:=List.getElem?_eq_some_iff.1 h;rw[List.drop_eq_getElem_cons h1,h2]
theorem aqv {l R:List P2}{k:Nat}{x:P2}(h:R[k]?=some x)(hb:aeR x.1=none):aaM l (R.drop k)=aaM l (R.drop (k+1)):=by
 rw[drop_cons h,aaM,hb]
theorem ayR {l R:List P2}{k:Nat}{x:P2}{p:ByteArray}(h:R[k]?=some x)(hb:aeR x.1=some p)(ho:okB p x.2=true):aaM l (R.drop k)=aaM (l++[(p,x.2)]) (R.drop (k+1)):=by
 rw[drop_cons h,aaM,hb];show (if okB p x.2=true then _ else _)=_;rw[if_pos ho]
theorem aqA {l R:List P2}{k:Nat}{x:P2}{p:ByteArray}(h:R[k]?=some x)(hb:aeR x.1=some p)(ho:okB p x.2=false):aaM l (R.drop k)=none:=by
 rw[drop_cons h,aaM,hb];show (if okB p x.2=true then _ else _)=_;rw[if_neg (by rw[ho];simp)]
def amu (w:World)(o:Option (List P2))(e:Ending)(w':World):Prop:=
 (o=none→e=.returned (.tuple #[.slice none 0 0,.int .i64 9]))∧(∀ W,o=some W→∃ v,e=.returned (.tuple #[v,.int .i64 0])∧agQ 164 w' w.heap.size v W)∧Below w.heap.size w w'
def a4h (L:List P2)(N:Nat)(A2:Option Addr)(R:List P2)(w:World)(v i:Value)(wr:World):Prop:=
 ∃ k:Nat,i=.int .i64 k∧k≤N∧Hid (wr.ownsRow w.heap.size 164 2 v k (rwL (L.take k)))∧Hid (Below w.heap.size w wr)
def a3D (L R:List P2)(N M:Nat)(w:World)(v i:Value)(wr:World):Prop:=
 ∃ (k m:Nat) (W:List P2),i=.int .i64 k∧k≤M∧m≤N+k∧Hid (m=W.length)∧Hid (wr.ownsRow w.heap.size 164 2 v m (rwL W))∧Hid (Below w.heap.size w wr)∧Hid (aaM L R=aaM W (R.drop k))
theorem aiN (p s:ByteArray):∀ u∈[Value.string p,Value.string s],u.oneCell'=true:=axT (p,s)
theorem aeT (A A2:Option Addr)(N M cap cap2:Nat)(L R:List P2)(w:World)(hN:N=L.length)(hM:M=R.length)(hN1:N≤2000000000)(hM1:M≤2000000000)(hlim:aeA L)(hlimR:aeA R)(hsz:∀ x∈R,x.1.size≤2000000000)(hR:RdR w A L)(hR2:RdR w A2 R):
 Calls Tryz.prog 75 #[.slice A N cap,.slice A2 M cap2] w (amu w (aaM L R)):=by
 obtain⟨i0,hi,hz0,hz1,hz2⟩:=info_parts Tryz.info164;have HN:=aac hN;have HM:=aac hM;have HL:=aac hlim;have HLR:=aac hlimR;have HS:=aac hsz;have HR:=aac hR;have HR2:=aac hR2;clear hN hM hlim hlimR hsz hR hR2;go_enter Tryz.func75,Tryz.ntmps75;go_wp2_with fail;go_loopw [6,16] (fun v i wr=>a4h L N A2 R w v i wr) (fun _ i _=>N - (intOf i).toNat);case atStart=>exact⟨0,rfl,Nat.zero_le _,aac ⟨by simp[rwL],.inl ⟨rfl,rfl⟩⟩,aac (Below.refl _ _)⟩
 case round=>
  obtain⟨k,rfl,hk,hO,hB⟩:=hrel;by_cases hlt:k < N
  · have hkl:k < L.length:=by rw[← HN.out];exact hlt
    have hx:=List.getElem?_eq_getElem hkl;obtain⟨b1,o1,rfl,hb1,x0,x1⟩:=(HR.out.keep hB.out) k _ hx;have hz:=HL.out _ (List.getElem_mem hkl);have HX:=aac hx;have d1:(k:Int) < (N:Int):=(by omega);have d0:(0:Int)≤(k:Int):=(by omega);clear hx;generalize L[k]=t at *;obtain⟨tp,ts⟩:=t;dsimp only at x0 x1 hz;have C:Hid (CpC tp ts):=aac (fun W=>ahk tp ts W hz.1 hz.2);obtain⟨A0,c0,rfl⟩:=aai hO.out;clear hz
    go_wp2_with (first
     | (go_at_call 101;refine(C.out _).mono ?_;rintro e w1 ⟨rfl,hb⟩;have ho1:=aac ((aaj (hO.out.alloc _) hb).alloc (.cells #[.string tp,.string ts] 164));have hB1:=aac ((hB.out.alloc hB.out.size _).trans (hb.mono (Nat.le_trans hB.out.size (by simp))));have hB2:=aac (hB1.out.alloc hB1.out.size (.cells #[.string tp,.string ts] 164));have hnew:=aac (abN w1 #[.string tp,.string ts] 164))
     | (at_builtin;refine wpList_append_own _ rfl _ _ 99 rfl w.heap.size 164 i0 (.agg #[.string ⟨#[]⟩,.string ⟨#[]⟩]) 2 32 Tryz.underlying99 hi hz0 hz1 hz2 rfl (by decide) _ k (rwL (L.take k)) rfl ho1.out ⟨w1.heap.size,0,none⟩ 1 1 [.string tp,.string ts] rfl rfl hnew.out (aiN tp ts) (by unfold maxLen;omega) (by omega) hB2.out.size ?_;intro v' w2 hown' hgrow hnil;obtain⟨g',cap',rfl⟩:=aaU hown';have hO2:=aac hown';have hB3:=aac (hB2.out.grown hgrow hB2.out.size (fun j hj=>(World.ownsRow.lt ho1.out j hj).1));clear hown' hgrow hnil))
    go_roundw;case rel=>exact⟨k+1,by go_num,by omega,aac (by rw[aey L k _ HX.out,afk];exact hO2.out),hB3⟩
    case measure=>simp only[intOf];omega
  · have d1:¬ (k:Int) < (N:Int):=(by omega);have HL0:Hid (L.take k=L):=aac (List.take_of_length_le (by rw[← HN.out];omega));have HK0:Hid (k=L.length):=aac (by have:=HN.out;omega);have hkN:k≤N:=hk;rw[HL0.out] at hO;clear HL0 HR HL;obtain⟨A0,c0,rfl⟩:=aai hO.out;go_wp2_with fail;go_loopw [6,28] (fun v i wr=>a3D L R N M w v i wr) (fun _ i _=>M - (intOf i).toNat);case atStart=>exact⟨0,k,L,rfl,Nat.zero_le _,by omega,HK0,hO,hB,aac rfl⟩
    case round=>
     clear hO hB HK0 d1;obtain⟨j,m,W,rfl,hj,hm,HW,hO,hB,HI⟩:=hrel;clear hlt hk hkN;obtain⟨A1,c1,rfl⟩:=aai hO.out;by_cases hlt:j < M
     · have hkl:j < R.length:=by rw[← HM.out];exact hlt
       have hx:=List.getElem?_eq_getElem hkl;obtain⟨b1,o1,rfl,hb1,x0,x1⟩:=(HR2.out.keep hB.out) j _ hx;have hz:=HLR.out _ (List.getElem_mem hkl);have hs:=HS.out _ (List.getElem_mem hkl);have HX:=aac hx;have d1:(j:Int) < (M:Int):=(by omega);have d0:(0:Int)≤(j:Int):=(by omega);clear hx;generalize R[j]=t at *;obtain⟨an,av⟩:=t;dsimp only at x0 x1 hz hs
       cases hbn:aeR an with
       | none=>
         have CB:=aac (anq hs hbn);have HE:=aac (aqv (l:=W) HX.out hbn);clear hbn hz hs;go_wp2_with (go_at_call 102;refine(CB.out _).mono ?_;rintro e w1 ⟨rfl,hb⟩);go_roundw;case rel=>exact⟨j+1,m,W,by go_num,by omega,by omega,HW,aac (aaj (hO.out.alloc _) hb),aac ((hB.out.alloc hB.out.size _).trans (hb.mono (Nat.le_trans hB.out.size (by simp)))),aac (HI.out.trans HE.out)⟩
         case measure=>simp only[intOf];omega
       | some p=>
         have CB:=aac (amy hs hbn);have hps:=atI hbn;have C:Hid (CpC p av):=aac (fun W=>ahk p av W (Nat.le_trans hps hz.1) hz.2)
         cases hok:okB p av with
         | true=>
           have CA:=aac (atj hok);have HE:=aac (ayR (l:=W) HX.out hbn hok);clear hbn hz hs hps hok
           go_wp2_with (first
            | (go_at_call 102;refine(CB.out _).mono ?_;rintro e w1 ⟨rfl,hb⟩;have ho1:=aac ((aaj (hO.out.alloc _) hb).alloc (.cells #[.string p,.string av] 164));have hB1:=aac ((hB.out.alloc hB.out.size _).trans (hb.mono (Nat.le_trans hB.out.size (by simp))));have hq1:w1.cell? ⟨wr.heap.size,1,none⟩=some (.string av):=(hb.cell (p:=⟨wr.heap.size,1,none⟩) (by simp)).trans (by simp);have hB2:=aac (hB1.out.alloc hB1.out.size (.cells #[.string p,.string av] 164)))
            | (go_at_call 103;refine(CA.out _).mono ?_;rintro e w2 ⟨rfl,hb2⟩;have ho2:=aac (aaj ho1.out hb2);have hB3:=aac (hB2.out.trans (hb2.mono hB2.out.size));have hq2:w2.cell? ⟨w1.heap.size,0,none⟩=some (.string p):=(hb2.cell (p:=⟨w1.heap.size,0,none⟩) (by simp)).trans (by simp);have hq3:w2.cell? ⟨w1.heap.size,1,none⟩=some (.string av):=(hb2.cell (p:=⟨w1.heap.size,1,none⟩) (by simp)).trans (by simp))
            | (go_at_call 101;refine(C.out _).mono ?_;rintro e w3 ⟨rfl,hb3⟩;have ho3:=aac ((aaj ho2.out hb3).alloc (.cells #[.string p,.string av] 164));have hB4:=aac (hB3.out.trans (hb3.mono hB3.out.size));have hB5:=aac (hB4.out.alloc hB4.out.size (.cells #[.string p,.string av] 164));have hnew:=aac (abN w3 #[.string p,.string av] 164))
            | (at_builtin;refine wpList_append_own _ rfl _ _ 99 rfl w.heap.size 164 i0 (.agg #[.string ⟨#[]⟩,.string ⟨#[]⟩]) 2 32 Tryz.underlying99 hi hz0 hz1 hz2 rfl (by decide) _ m (rwL W) rfl ho3.out ⟨w3.heap.size,0,none⟩ 1 1 [.string p,.string av] rfl rfl hnew.out (aiN p av) (by unfold maxLen;omega) (by omega) hB5.out.size ?_;intro v' w4 hown' hgrow hnil;obtain⟨g',cap',rfl⟩:=aaU hown';have hO2:=aac hown';have hB6:=aac (hB5.out.grown hgrow hB5.out.size (fun j hj=>(World.ownsRow.lt ho3.out j hj).1));clear hown' hgrow hnil))
           go_roundw;case rel=>exact⟨j+1,m+1,W++[(p,av)],by go_num,by omega,by omega,aac (by rw[List.length_append,← HW.out];rfl),aac (by rw[afk];exact hO2.out),hB6,aac (HI.out.trans HE.out)⟩
           case measure=>simp only[intOf];omega
         | false=>
           have CA:=aac (atj hok);have HE:=aac (aqA (l:=W) HX.out hbn hok);clear hbn hz hs hps hok
           go_wp2_with (first
            | (go_at_call 102;refine(CB.out _).mono ?_;rintro e w1 ⟨rfl,hb⟩;have hB1:=aac ((hB.out.alloc hB.out.size _).trans (hb.mono (Nat.le_trans hB.out.size (by simp))));have hq1:w1.cell? ⟨wr.heap.size,1,none⟩=some (.string av):=(hb.cell (p:=⟨wr.heap.size,1,none⟩) (by simp)).trans (by simp);have hB2:=aac (hB1.out.alloc hB1.out.size (.cells #[.string p,.string av] 164)))
            | (go_at_call 103;refine(CA.out _).mono ?_;rintro e w2 ⟨rfl,hb2⟩;have hB3:=aac (hB2.out.trans (hb2.mono hB2.out.size))))
           go_ret2;refine⟨fun _=>rfl,fun W' hW'=> ?_,hB3.out⟩;rw[HI.out.trans HE.out] at hW';cases hW'
     · have d1:¬ (j:Int) < (M:Int):=(by omega);have HD:Hid (R.drop j=[]):=aac (List.drop_of_length_le (by rw[← HM.out];omega));go_wp2_with fail;go_ret2
       have hf:aaM L R=some W:=by
        rw[HI.out,HD.out];rfl
       refine⟨fun h=> ?_,fun W' hW'=>⟨_,rfl,?_⟩,hB.out⟩
       · rw[hf] at h;cases h
       · rw[hf] at hW';injection hW' with hW'
         subst hW';unfold agQ;rw[← HW.out];exact hO.out
end Go.Proofs.YtiaebhomfebagaaGreatDoor.Nz.Sc
namespace Go.Proofs.YtiaebhomfebagaaGreatDoor.Nz.Sc
open Go.RowKit
def afy (w:World)(o:Option (List P2))(e:Ending)(w':World):Prop:=
 (o=none→e=.returned (.tuple #[.slice none 0 0,.int .i64 9]))∧(∀ f,o=some f→∃ v,e=.returned (.tuple #[v,.int .i64 0])∧agQ 28 w' w.heap.size v f)∧Below w.heap.size w w'
def a4N (L:List P2)(ts:List ByteArray)(K:Nat)(w:World)(v i:Value)(wr:World):Prop:=
 ∃ (k m:Nat) (f:List P2),i=.int .i64 k∧k≤K∧m≤k∧Hid (m=f.length)∧Hid (wr.ownsRow w.heap.size 28 2 v m (rwL f))∧Hid (Below w.heap.size w wr)∧Hid (akI L [] ts=akI L f (ts.drop k))
theorem anJ {L f:List P2}{ts:List ByteArray}{k:Nat}{s:ByteArray}(h:ts[k]?=some s)(hn:alJ L s=none):akI L f (ts.drop k)=none:=by
 rw[drop_cons h,akI,hn]
theorem a3s {L f:List P2}{ts:List ByteArray}{k:Nat}{s:ByteArray}{n:P2}(h:ts[k]?=some s)(hn:alJ L s=some n):akI L f (ts.drop k)=akI L (f++[n]) (ts.drop (k+1)):=by
 rw[drop_cons h,akI,hn]
def a6f (A:Option Addr)(N cap:Nat)(p l:ByteArray)(v:Value)(w:World):Prop:=∀ W,Below w.heap.size w W→Calls Tryz.prog 105 #[.slice A N cap,.string p,.string l] W fun e w'=>e=.returned v∧Below W.heap.size W w'
theorem a2q {L:List P2}{s p l:ByteArray}{ok:Bool}(h:aak s=(p,l,ok))(ho:ok=false):alJ L s=none:=by
 unfold alJ;rw[h,if_pos ho]
theorem a0T {L:List P2}{s p l:ByteArray}{ok:Bool}(h:aak s=(p,l,ok))(ho:ok=true):alJ L s=aoi L p l:=by
 unfold alJ;rw[h,if_neg (by simp[ho])]
theorem apG (A AS:Option Addr)(N K cap capS:Nat)(L:List P2)(ts:List ByteArray)(w:World)(hN:N=L.length)(hK:K=ts.length)(hN1:N≤1000000000000)(hK1:K≤2000000000)(hlim:aeA L)(hsz:∀ x∈ts,x.size≤2000000000)(hR:RdR w A L)(hS:RdS w AS ts):
 Calls Tryz.prog 76 #[.slice A N cap,.slice AS K capS] w (afy w (akI L [] ts)):=by
 obtain⟨i0,hi,hz0,hz1,hz2⟩:=info_parts Tryz.info28;have HR:=aac (fun (p l:ByteArray) (hl:l.size≤Lim) (W:World) (hW:Below w.heap.size w W)=>agq A N cap p l L W hN hlim hN1 (hR.keep hW) hl);have HK:=aac hK;have HZ:=aac hsz;have HS:=aac hS;clear hN hK hlim hsz hR hS;go_enter Tryz.func76,Tryz.ntmps76;go_wp2_with fail;go_loopw [6,16] (fun v i wr=>a4N L ts K w v i wr) (fun _ i _=>K - (intOf i).toNat);case atStart=>exact⟨0,0,[],rfl,Nat.zero_le _,Nat.le_refl _,aac rfl,aac ⟨by simp[rwL],.inl ⟨rfl,rfl⟩⟩,aac (Below.refl _ _),aac rfl⟩
 case round=>
  obtain⟨k,m,f,rfl,hk,hm,HF,hO,hB,HI⟩:=hrel;obtain⟨A1,c1,rfl⟩:=aai hO.out;by_cases hlt:k < K
  · have hkl:k < ts.length:=by rw[← HK.out];exact hlt
    have hx:=List.getElem?_eq_getElem hkl;obtain⟨b1,o1,rfl,hb1,x0⟩:=(HS.out.keep hB.out) k _ hx;have hs:=HZ.out _ (List.getElem_mem hkl);have HX:=aac hx;have d1:(k:Int) < (K:Int):=(by omega);have d0:(0:Int)≤(k:Int):=(by omega);clear hx;generalize ts[k]=s at *;have CS:=aac (akM s hs);have hls:(aak s).2.1.size≤Lim:=Nat.le_trans (abH s).2 (by unfold Lim;omega);obtain⟨p,l,ok,hsp⟩:∃ p l ok,aak s=(p,l,ok):=⟨_,_,_,rfl⟩;rw[hsp] at CS hls;dsimp only at CS hls
    cases ok with
    | false=>
      have HE:=aac (anJ (f:=f) HX.out (a2q (L:=L) hsp rfl));clear hsp hls hs;go_wp2_with (go_at_call 104;refine(CS.out _).mono ?_;rintro e w1 ⟨rfl,hb⟩);go_ret2;refine⟨fun _=>rfl,fun f' hf'=> ?_,hB.out.trans (hb.mono hB.out.size)⟩;rw[HI.out.trans HE.out] at hf';cases hf'
    | true=>
      have CR:=HR.out p l hls;have hny:=a0T (L:=L) hsp rfl
      cases hr:aoi L p l with
      | none=>
        have CR':Hid (a6f A N cap p l (.tuple #[.agg #[.string ⟨#[]⟩,.string ⟨#[]⟩],.int .i64 9]) w):=aac (fun W hW=>(CR W hW).mono fun e w' ⟨h1,h2⟩=>⟨by rw[h1,hr];rfl,h2⟩);have HE:=aac (anJ (f:=f) HX.out (hny.trans hr));clear hsp hls hs CR hny hr
        go_wp2_with (first
         | (go_at_call 104;refine(CS.out _).mono ?_;rintro e w1 ⟨rfl,hb⟩;have hB1:=aac (hB.out.trans (hb.mono hB.out.size)))
         | (go_at_call 105;refine(CR'.out _ hB1.out).mono ?_;rintro e w2 ⟨rfl,hb2⟩;have hB2:=aac (hB1.out.trans (hb2.mono hB1.out.size))))
        go_ret2;refine⟨fun _=>rfl,fun f' hf'=> ?_,hB2.out.alloc hB2.out.size _⟩;rw[HI.out.trans HE.out] at hf';cases hf'
      | some x=>
        obtain⟨xa,xb⟩:=x;have CR':Hid (a6f A N cap p l (.tuple #[.agg #[.string xa,.string xb],.int .i64 0]) w):=aac (fun W hW=>(CR W hW).mono fun e w' ⟨h1,h2⟩=>⟨by rw[h1,hr];rfl,h2⟩);have HE:=aac (a3s (f:=f) HX.out (hny.trans hr));clear hsp hls hs CR hny hr
        go_wp2_with (first
         | (go_at_call 104;refine(CS.out _).mono ?_;rintro e w1 ⟨rfl,hb⟩;have hB1:=aac (hB.out.trans (hb.mono hB.out.size));have ho1:=aac (aaj hO.out hb))
         | (go_at_call 105;refine(CR'.out _ hB1.out).mono ?_;rintro e w2 ⟨rfl,hb2⟩;have hB2:=aac ((hB1.out.trans (hb2.mono hB1.out.size)).alloc (Nat.le_trans hB1.out.size hb2.size) (.cells #[.string xa,.string xb] 28));have hB3:=aac (hB2.out.alloc hB2.out.size (.cells #[.string xa,.string xb] 28));have ho2:=aac (((aaj ho1.out hb2).alloc (.cells #[.string xa,.string xb] 28)).alloc (.cells #[.string xa,.string xb] 28));have hnew:=aac (abN (w2.alloc (.cells #[.string xa,.string xb] 28)) #[.string xa,.string xb] 28);rw[World.size_alloc] at hnew)
         | (at_builtin;refine wpList_append_own _ rfl _ _ 137 rfl w.heap.size 28 i0 (.agg #[.string ⟨#[]⟩,.string ⟨#[]⟩]) 2 32 Tryz.underlying137 hi hz0 hz1 hz2 rfl (by decide) _ m (rwL f) rfl ho2.out ⟨w2.heap.size+1,0,none⟩ 1 1 [.string xa,.string xb] rfl rfl hnew.out (aiN xa xb) (by unfold maxLen;omega) (by omega) hB3.out.size ?_;intro v' w4 hown' hgrow hnil;obtain⟨g',cap',rfl⟩:=aaU hown';have hO2:=aac hown';have hB6:=aac (hB3.out.grown hgrow hB3.out.size (fun j hj=>(World.ownsRow.lt ho2.out j hj).1));clear hown' hgrow hnil))
        go_roundw;case rel=>exact⟨k+1,m+1,f++[(xa,xb)],by go_num,by omega,by omega,aac (by rw[List.length_append,← HF.out];rfl),aac (by rw[afk];exact hO2.out),hB6,aac (HI.out.trans HE.out)⟩
        case measure=>simp only[intOf];omega
  · have d1:¬ (k:Int) < (K:Int):=(by omega);have HD:Hid (ts.drop k=[]):=aac (List.drop_of_length_le (by rw[← HK.out];omega));go_wp2_with fail;go_ret2
    have hf:akI L [] ts=some f:=by
     rw[HI.out,HD.out];rfl
    refine⟨fun h=> ?_,fun f' hf'=>⟨_,rfl,?_⟩,hB.out⟩
    · rw[hf] at h;cases h
    · rw[hf] at hf';injection hf' with hf'
      subst hf';unfold agQ;rw[← HF.out];exact hO.out
end Go.Proofs.YtiaebhomfebagaaGreatDoor.Nz.Sc
