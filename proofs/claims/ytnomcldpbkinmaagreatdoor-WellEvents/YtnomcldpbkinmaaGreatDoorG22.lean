/- Lemmas of the claim. -/
import Derived.Test.YtnomcldpbkinmaaGreatDoorG21
import Derived.Test.YtnomcldpbkinmaaGreatDoorG19
import Derived.Test.YtnomcldpbkinmaaGreatDoorG13
import Derived.Lib.SliceRun
import Derived.Deep.QuietTactic
import Derived.BigQuiet
set_option maxHeartbeats 4000000
set_option maxRecDepth 100000
set_option linter.unusedSimpArgs false
set_option linter.unusedVariables false
namespace Go.Proofs.YtnomcldpbkinmaaGreatDoor.Wl
open Go.RowKit
section
variable {B rb:Nat} {vw vo:Value} {es:List OpP} {s:St} {w w':World}
theorem Tryz.axy:∀ w,(zeroValue 118).run Tryz.prog w=.ok (.agg #[.string ⟨#[]⟩,.slice none 0 0]) w:=fun w=>by kernel_rfl
theorem ahM {w:World}{a b:Value}(g o c:Nat)(h0:w.cell? ⟨g,o,none⟩=some a)(h1:w.cell? ⟨g,o+1,none⟩=some b)(f0:w.frozen? ⟨g,o,none⟩=false)(f1:w.frozen? ⟨g,o+1,none⟩=false):
 (Builtin.clear_ #[68] 0 #[.slice (some ⟨g,o,none⟩) 1 c]).run Tryz.prog w=.ok (.tuple #[]) ((w.setCell ⟨g,o,none⟩ (.string ⟨#[]⟩)).setCell ⟨g,o+1,none⟩ (.slice none 0 0)):=by
 have hst:=run_storeCells_cells (P:=Tryz.prog) g o [.string ⟨#[]⟩,.slice none 0 0] 0 w (fun j hj=>by
  have hj':j=0∨j=1:=by simp at hj;omega
  rcases hj' with rfl | rfl
  · rw[show o+0=o from rfl,h0];rfl
  · rw[h1];rfl) (fun j hj=>by
  have hj':j=0∨j=1:=by simp at hj;omega
  rcases hj' with rfl | rfl
  · exact f0
  · exact f1) (by intro v hv;simp only[List.mem_cons,List.not_mem_nil,or_false] at hv;rcases hv with rfl | rfl <;> rfl)
 have hz:(Builtin.zeroCells (Value.agg #[.string ⟨#[]⟩,.slice none 0 0]).cells 1).toList=[.string ⟨#[]⟩,.slice none 0 0]:=(by kernel_rfl);simp only[Nat.add_zero] at hst;simp[Builtin.clear_,run_underlying Tryz.underlying68,Tryz.axy,hz,hst];rfl
theorem aoJ (g n c:Nat)(a b:Value)(w:World)(hn:n≤64)(hc:n+1≤c)(hm:c≤maxLen)(h0:w.cell? ⟨g,n * 2,none⟩=some a)(h1:w.cell? ⟨g,n * 2+1,none⟩=some b)(f0:w.frozen? ⟨g,n * 2,none⟩=false)(f1:w.frozen? ⟨g,n * 2+1,none⟩=false):
 Calls Tryz.prog 64 #[.slice (some ⟨g,0,none⟩) (n+1) c,.int .i64 (n:Int),.int .i64 ((n:Int)+1)] w fun e w'=>e=.returned (.slice (some ⟨g,0,none⟩) n c)∧w'=((w.drew.setCell ⟨g,n * 2,none⟩ (.string ⟨#[]⟩)).setCell ⟨g,n * 2+1,none⟩ (.slice none 0 0)):=by
 have d0:(0:Int)≤(n:Int):=(by omega);have d1:(n:Int)≤(n:Int)+1:=(by omega);have d2:(0:Int)≤(n:Int)+1:=(by omega);have d3:((n:Int) == (n:Int)+1)=false:=by rw[beq_eq_false_iff_ne];omega
 have d4:(n:Int)+1≤(c:Int):=(by omega);have d5:(n:Int)≤(c:Int):=(by omega);have d6:((n:Int)+1).toNat=n+1:=(by omega);have d7:n≤c:=(by omega);unfold maxLen at hm;by_cases hcc:c=n+1
 · subst hcc;have q0:n+1 - n=1:=(by omega);go_enter Tryz.func64,Tryz.ntmps64;go_wp2_with fail;go_region;have hcl:=ahM (w:=w.drew) g (n * 2) 1 h0 h1 f0 f1;go_wp2;go_ret;exact⟨rfl,rfl⟩
 · go_enter Tryz.func64,Tryz.ntmps64;go_wp2_with fail;go_region;have hcl:=ahM (w:=w.drew) g (n * 2) (c - n) h0 h1 f0 f1;go_wp2;go_ret;exact⟨rfl,rfl⟩
theorem aap {W:World}{b j:Nat}{x:Value}{k:Nat}(hk:k≠b):(W.setCell ⟨b,j,none⟩ x).heap[k]?=W.heap[k]?:=Below.heap_setCell _ _ _ _ (fun e=>hk e)
theorem RW.strike (h:RW B rb vw vo es s w){n:Nat}(hn:s.op.length=n+1){g c:Nat}(hv:vo=.slice (some ⟨g,0,none⟩) (n+1) c)(W:World)(hW:W.heap=((w.setCell ⟨g,n * 2,none⟩ (.string ⟨#[]⟩)).setCell ⟨g,n * 2+1,none⟩ (.slice none 0 0)).heap):
 W.heap[rb]?=some (.cells #[vw,vo,.bool s.root,.bool s.over,.int .i64 s.err] 70 (0,0))∧RW B rb vw (.slice (some ⟨g,0,none⟩) n c) es.dropLast { s with op:=s.op.dropLast } (W.setCell ⟨rb,1,none⟩ (.slice (some ⟨g,0,none⟩) n c))∧Frm w (W.setCell ⟨rb,1,none⟩ (.slice (some ⟨g,0,none⟩) n c))∧W.heap.size=w.heap.size∧(∀ k,k≠g→W.heap[k]?=w.heap[k]?)∧B≤g:=by
 have hl:=h.len;have ho:=h.op;rw[hl,hn,hv] at ho;obtain⟨hx,h2⟩:=ho;rcases h2 with ⟨h2,_⟩ | ⟨g',cap,cur,e,hB,hh,h3,h4,h5,h6⟩
 · cases h2
 injection e with e1 e2 e3
 injection e1 with e1
 injection e1 with e1
 subst e1 e3
 have hne:rb≠g:=by
  rintro rfl;have:=h.blk;rw[hh] at this;injection this with this
  injection this with _ q _
  exact absurd q (by decide)
 have hsz:W.heap.size=w.heap.size:=by rw[hW];simp[World.setCell]
 have hk:∀ k,k≠g→W.heap[k]?=w.heap[k]?:=fun k hk=>by
  rw[hW,aap hk,aap hk]
 have hg:W.heap[g]?=some (.cells ((cur.set! (n * 2) (.string ⟨#[]⟩)).set! (n * 2+1) (.slice none 0 0)) 118 (0,0)):=by
  rw[hW,abW (abW hh)]
 have hf1:Frm w W:=fun k cs T fr hc t1 t2 t3=>by
  rw[hk k ?_]
  · exact hc
  · rintro rfl;rw[hh] at hc;injection hc with hc
    injection hc with _ q _
    exact t3 q.symm
 have b2:W.heap[rb]?=_:=(hk rb hne).trans h.blk;have hf2:=Frm.set b2 (.inr (.inl rfl)) 1 (.slice (some ⟨g,0,none⟩) n c)
 have keep:∀ {e:TypeId} {z m:Nat} {v:Value} {xs:List Value},w.ownsRow B e z v m xs→e≠118→W.ownsRow B e z v m xs:=fun {e z m v xs} q he=>by
  refine⟨q.1,?_⟩;rcases q.2 with q | ⟨g2,cap2,cur2,rfl,qB,qh,qr⟩
  · exact .inl q
  · refine .inr ⟨g2,cap2,cur2,rfl,qB,?_,qr⟩;rw[hk g2 ?_]
    · exact qh
    · rintro rfl;rw[hh] at qh;injection qh with qh
      injection qh with _ q _
      exact he q.symm
 have hel:es.dropLast.length=n:=by rw[List.length_dropLast];omega
 refine⟨b2,⟨h.lo,by rw[abW b2];rfl,Wl.aaD (keep h.wt (by decide)) b2 (by decide) 1 _,?_,?_,fun x hx=>Wl.aaD (keep (h.own x (List.dropLast_subset _ hx)) (by decide)) b2 (by decide) 1 _,by simp[World.setCell];rw[hsz];exact h.siz⟩,hf1.trans hf2,hsz,hk,hB⟩
 · rw[List.map_dropLast,h.eq]
 · refine Wl.aaD ?_ b2 (by decide) 1 _;rw[hel];refine⟨by rw[aqV,hel],.inr ⟨g,c,_,rfl,hB,hg,by omega,h4,by simpa using h5,?_⟩⟩;have hlen:n * 2≤cur.toList.length:=by rw[Array.length_toList,h5];omega
   have h7:cur.toList.take (n * 2)=opL es.dropLast:=by
    have:es=es.dropLast++[es[n]'(by omega)]:=by
     have hne':es≠[]:=fun e=>by rw[e] at hl;simp at hl;omega
     conv=>lhs;rw[← List.dropLast_concat_getLast hne']
     congr 2
     rw[List.getLast_eq_getElem]
     congr 1
     omega
    have q:=congrArg (List.take (n * 2)) h6;rw[List.take_take,Nat.min_eq_left (by omega)] at q;rw[q]
    conv=>lhs;rw[this]
    rw[asB,List.take_left' (by rw[aqV,hel])]
   rw[← h7];simp only[Array.set!_eq_setIfInBounds,Array.toList_setIfInBounds];rw[List.take_set_of_le (by omega),List.take_set_of_le (by omega)]
theorem Tryz.info50:(Tryz.prog.info? 50).map (fun i=>(i.zero,i.size,i.bytes))=some (some (.agg #[.int .i64 0,.string ⟨#[]⟩,.string ⟨#[]⟩,.slice none 0 0,.string ⟨#[]⟩]),5,80):=by kernel_rfl
theorem ahl {W w2:World}{B:Nat}{v v' va:Value}{xs:List EvP}{l:List Ev}{x:Ev}(hl:xs.map (·.1)=l)(ho:W.ownsRow B 50 5 v xs.length (evL xs))(hO:EvO W B xs)(ha:Nz.Sc.ajy W B va (azB x))(hg:W.grownBy w2 v.ownBlock)(hn:w2.ownsRow B 50 5 v' (xs.length+1) (evL xs++evC (x,va))):aax w2 B v' (l++[x]):=by
 refine⟨xs++[(x,va)],by rw[List.map_append,hl];rfl,?_,?_⟩
 · rw[asv,List.length_append];exact hn
 · refine(hO.grown ho hg (by decide)).app fun y hy=> ?_;rw[List.mem_singleton] at hy;subst hy;exact aaZ ha ho hg (by decide)
theorem RW.grown {W w2:World}(h:RW B rb vw vo es s W){B' z n:Nat}{v:Value}{xs:List Value}(ho:W.ownsRow B' 50 z v n xs)(hg:W.grownBy w2 v.ownBlock):RW B rb vw vo es s w2:=
 ⟨h.lo,(hg.block rb h.lt (fun e=>Nz.Sc.own_ne ho h.blk (by decide) e.symm)).trans h.blk,aaZ h.wt ho hg (by decide),h.eq,aaZ h.op ho hg (by decide),fun x hx=>aaZ (h.own x hx) ho hg (by decide),Nat.le_trans h.siz hg.size⟩
theorem Frm.fresh {W w2:World}(h:Frm w W)(hs:w.heap.size≤W.heap.size){e:TypeId}{z n:Nat}{v:Value}{xs:List Value}(ho:W.ownsRow w.heap.size e z v n xs)(hg:W.grownBy w2 v.ownBlock):Frm w w2:=fun k cs T fr hk h1 h2 h3=>by
 have hlt:=(Array.getElem?_eq_some_iff.1 hk).1;refine(hg.block k (by omega) ?_).trans (h k cs T fr hk h1 h2 h3);intro e;have:=(World.ownsRow.lt ho k e.symm).1;omega
def TkP (B rb:Nat)(x:St × List Ev × Int)(st:St)(w:World)(e:Ending)(w':World):Prop:=
 ∃ v,e=.returned (.tuple #[v,.int .i64 x.2.2])∧aax w' w.heap.size v x.2.1∧RS B rb st w'∧Frm w w'∧Below B w w'
theorem aen {x:St × List Ev × Int}{c:Int}(hx:x=bad s c)(he:s.err=0)(h:RW B rb vw vo es s w')(hf:Frm w w')(hb:Below B w w'):TkP B rb x (clr x.1) w (.returned (.tuple #[.slice none 0 0,.int .i64 c])) w':=by
 subst hx;exact⟨_,rfl,aax.nil _ _,⟨vw,vo,es,by rw[agU s he];exact h⟩,hf,hb⟩
theorem alj {α:Type}{l:List α}(h:l=[]):l.getLast?=none:=by rw[h];rfl
theorem a0f (h:RW B rb vw vo es s w)(he:s.err=0)(k:Int)(m:ByteArray)(em bk:Bool)(hn:s.op=[]):
 Calls Tryz.prog 40 #[.pointer (some ⟨rb,0,none⟩),.agg #[.int .i64 k,.string m,.bool em,.bool bk]] w (TkP B rb (adR s ⟨k,m,em,bk⟩) (clr (adR s ⟨k,m,em,bk⟩).1) w):=by
 have HW:=aac h;have HR:=aac (h.box (.cells #[.int .i64 k,.string m,.bool em,.bool bk] 42));have CD:=aac (abb HR.out);have HX:Hid (adR s ⟨k,m,em,bk⟩=bad s 10):=aac (by unfold adR inner;rw[alj hn];rfl);have k0:s.op.length=0:=by rw[hn];rfl
 rw[k0] at CD;clear h hn;generalize adR s ⟨k,m,em,bk⟩=x at *;go_enter Tryz.func40,Tryz.ntmps40;go_wp2_with fail;refine CD.out.mono ?_;rintro e w1 ⟨rfl,rfl⟩;go_wp2_with fail;go_quiet (fail);go_wp2;go_ret2;exact aen HX.out he (HR.out.heap rfl) (aaK w _) (below_drewN (abk HW.out _) _)
theorem a2b (h:RW B rb vw vo es s w)(he:s.err=0)(k:Int)(m:ByteArray)(em bk:Bool)(n:Nat)(hn:s.op.length=n+1)(hd:n≤64)(hne:inner s≠some m):
 Calls Tryz.prog 40 #[.pointer (some ⟨rb,0,none⟩),.agg #[.int .i64 k,.string m,.bool em,.bool bk]] w (TkP B rb (adR s ⟨k,m,em,bk⟩) (clr (adR s ⟨k,m,em,bk⟩).1) w):=by
 have HW:=aac h;have HR:=aac (h.box (.cells #[.int .i64 k,.string m,.bool em,.bool bk] 42));have CD:=aac (abb HR.out);have HX:Hid (adR s ⟨k,m,em,bk⟩=bad s 10):=aac (by unfold adR;rw[if_neg hne]);obtain⟨g,c,x,rfl,hx,x0,x1,ho,_⟩:=HR.out.inn hn;have c1:=HR.out.c1;rw[hn] at CD;have q1:IntKind.i64.wrap (((n+1:Nat):Int) - 1)=(n:Int):=by rw[IntWalk.i64_in _ (by omega)];omega
 have q2:(x.1.1.toList != m.toList)=true:=by
  rw[bne_iff_ne];intro e;apply hne;unfold inner;rw[hx,← Nz.Sc.toList_inj e];rfl
 have q3:(x.1.1.toList == m.toList)=false:=by rw[← Bool.not_eq_true,beq_iff_eq];exact bne_iff_ne.1 q2
 have d1:¬ (n:Int) < 0:=(by omega);have d2:(0:Int)≤(n:Int):=(by omega);have d3:(n:Int) < (n:Int)+1:=(by omega);have d4:n < n+1:=(by omega);clear h hne hx ho x1;generalize x.1.1=xn at *;generalize adR s ⟨k,m,em,bk⟩=y at *;go_enter Tryz.func40,Tryz.ntmps40;go_wp2_with fail;refine CD.out.mono ?_;rintro e w1 ⟨rfl,rfl⟩;go_wp2_with fail;go_quiet (fail);go_wp2;go_ret2;exact aen HX.out he (HR.out.heap rfl) (aaK w _) (below_drewN (abk HW.out _) _)
theorem RW.cap (h:RW B rb vw vo es s w){n g c:Nat}(hn:s.op.length=n+1)(hv:vo=.slice (some ⟨g,0,none⟩) (n+1) c):n+1≤c∧c≤maxLen∧B≤g∧∀ j,w.frozen? ⟨g,j,none⟩=false:=by
 have ho:=h.op;rw[h.len,hn,hv] at ho;rcases ho.2 with ⟨h2,_⟩ | ⟨g',cap,cur,e,hB,hh,h3,h4,h5,h6⟩
 · cases h2
 injection e with e1 e2 e3
 injection e1 with e1
 injection e1 with e1
 subst e1 e3;exact⟨h3,h4,hB,fun j=>Lib.frozen_of_heap hh j⟩
theorem agW:∀ u∈([.int .i64 3,.string ⟨#[]⟩,.string ⟨#[]⟩,.slice none 0 0,.string ⟨#[]⟩]:List Value),u.oneCell'=true:=alp (x:=(.cls,.slice none 0 0)) ⟨_,_,_,rfl⟩
theorem acN (u:ByteArray):(aaX u).length≤1:=by unfold aaX;split <;> simp
theorem axg (h:RW B rb vw vo es s w)(he:s.err=0)(k:Int)(m:ByteArray)(em bk:Bool)(n:Nat)(hn:s.op.length=n+1)(hd:n≤64)(hne:inner s=some m):
 Calls Tryz.prog 40 #[.pointer (some ⟨rb,0,none⟩),.agg #[.int .i64 k,.string m,.bool em,.bool bk]] w (TkP B rb (adR s ⟨k,m,em,bk⟩) (clr (adR s ⟨k,m,em,bk⟩).1) w):=by
 obtain⟨i0,hi,hz0,hz1,hz2⟩:=info_parts Tryz.info50;have HW:=aac h;have HR:=aac (h.box (.cells #[.int .i64 k,.string m,.bool em,.bool bk] 42));have CD:=aac (abb HR.out);have HX:Hid (adR s ⟨k,m,em,bk⟩=({ s with wait:=Nz.em,op:=s.op.dropLast },aaX s.wait++[.cls],0)):=aac (by unfold adR;rw[if_pos hne]);obtain⟨g,c,x,rfl,hx,x0,x1,ho,_⟩:=HR.out.inn hn;obtain⟨z1,z2,z3,z4⟩:=HR.out.cap hn rfl;have c1:=HR.out.c1;rw[hn] at CD;have q1:IntKind.i64.wrap (((n+1:Nat):Int) - 1)=(n:Int):=by rw[IntWalk.i64_in _ (by omega)];omega
 have q4:IntKind.i64.wrap ((n:Int)+1)=(n:Int)+1:=by rw[IntWalk.i64_in _ (by omega)]
 have q3:(x.1.1.toList == m.toList)=true:=by
  unfold inner at hne;rw[hx] at hne;injection hne with hne
  have hne':x.1.1=m:=hne;rw[hne',beq_self_eq_true]
 have q2:(x.1.1.toList != m.toList)=false:=by rw[← Bool.not_eq_true,bne_iff_ne,Decidable.not_not];exact beq_iff_eq.1 q3
 have d1:¬ (n:Int) < 0:=(by omega);have d2:(0:Int)≤(n:Int):=(by omega);have d3:(n:Int) < (n:Int)+1:=(by omega);have d4:n < n+1:=by omega
 have KD:Hid (∀ W:World,W.heap=(w.alloc (.cells #[.int .i64 k,.string m,.bool em,.bool bk] 42)).heap→Calls Tryz.prog 64 #[.slice (some ⟨g,0,none⟩) (n+1) c,.int .i64 (n:Int),.int .i64 ((n:Int)+1)] W fun e w'=>e=.returned (.slice (some ⟨g,0,none⟩) n c)∧w'=((W.drew.setCell ⟨g,n * 2,none⟩ (.string ⟨#[]⟩)).setCell ⟨g,n * 2+1,none⟩ (.slice none 0 0))):=
  aac fun W hW=>aoJ g n c (.string x.1.1) x.2 W hd z1 z2 (by unfold World.cell?;rw[hW];exact x0) (by unfold World.cell?;rw[hW];exact x1) (by unfold World.frozen?;rw[hW];exact z4 _) (by unfold World.frozen?;rw[hW];exact z4 _)
 have KS:Hid (∀ W:World,W.heap=(w.alloc (.cells #[.int .i64 k,.string m,.bool em,.bool bk] 42)).heap→_):=aac fun W hW=>HR.out.strike hn rfl ((W.drew.setCell ⟨g,n * 2,none⟩ (.string ⟨#[]⟩)).setCell ⟨g,n * 2+1,none⟩ (.slice none 0 0)) (show ((W.drew.setCell ⟨g,n * 2,none⟩ (.string ⟨#[]⟩)).setCell ⟨g,n * 2+1,none⟩ (.slice none 0 0)).heap=_ by simp[World.setCell,World.drew,hW]);clear h hne hx ho;generalize x.1.1=xn at *;generalize adR s ⟨k,m,em,bk⟩=y at *;go_enter Tryz.func40,Tryz.ntmps40;go_wp2_with fail;refine CD.out.mono ?_;rintro e w1 ⟨rfl,rfl⟩;go_wp2_with fail;go_quiet (fail);go_wp2_with fail;have KD1:=aac (KD.out ((w.alloc (.cells #[.int .i64 k,.string m,.bool em,.bool bk] 42)).drewN nq) rfl);have KS1:=KS.out ((w.alloc (.cells #[.int .i64 k,.string m,.bool em,.bool bk] 42)).drewN nq) rfl;have HB1:=aac (below_drewN (abk HW.out (.cells #[.int .i64 k,.string m,.bool em,.bool bk] 42)) nq);have HF1:=aac (show Frm w ((w.alloc (.cells #[.int .i64 k,.string m,.bool em,.bool bk] 42)).drewN nq) from aaK w _);clear KD KS x0 x1;generalize (w.alloc (.cells #[.int .i64 k,.string m,.bool em,.bool bk] 42)).drewN nq=W at *;refine KD1.out.mono ?_;rintro e w2 ⟨rfl,rfl⟩;obtain⟨b2,r2,f2,n2,o2,g2⟩:=KS1;have d5:((W.drew.setCell ⟨g,n * 2,none⟩ (.string ⟨#[]⟩)).setCell ⟨g,n * 2+1,none⟩ (.slice none 0 0)).cell? ⟨rb,1,none⟩=some (.slice (some ⟨g,0,none⟩) (n+1) c):=by rw[Lib.cell_of_heap b2];rfl
 have f5:((W.drew.setCell ⟨g,n * 2,none⟩ (.string ⟨#[]⟩)).setCell ⟨g,n * 2+1,none⟩ (.slice none 0 0)).frozen? ⟨rb,1,none⟩=false:=Lib.frozen_of_heap b2 1;have HR2:=aac r2;have HF2:=aac ((aaK w (.cells #[.int .i64 k,.string m,.bool em,.bool bk] 42)).trans f2);have HB2:=aac (((HB1.out.drew.setCell (p:=⟨g,n * 2,none⟩) z3 (.string ⟨#[]⟩)).setCell (p:=⟨g,n * 2+1,none⟩) z3 (.slice none 0 0)).setCell (p:=⟨rb,1,none⟩) HW.out.lo (.slice (some ⟨g,0,none⟩) n c));have CT:=aac (ais r2);clear b2 r2 f2 n2 o2 KD1 HR CD;generalize hV:(W.drew.setCell ⟨g,n * 2,none⟩ (.string ⟨#[]⟩)).setCell ⟨g,n * 2+1,none⟩ (.slice none 0 0)=V at *;clear hV;go_wp2_with fail;refine CT.out.mono ?_;rintro e w3 ⟨v3,vw3,rfl,e3,r3,f3,l3⟩;have CC:=aac (aie w3);go_wp2_with fail;refine CC.out.mono ?_;rintro e w4 ⟨rfl,b4⟩;obtain⟨ts,t1,t2,t3⟩:=e3;have tl:=acN s.wait;rw[← t1,List.length_map] at tl;have hs2:w.heap.size≤(V.setCell ⟨rb,1,none⟩ (.slice (some ⟨g,0,none⟩) n c)).heap.size:=HB2.out.size;have hA:=(Below.refl w4.heap.size w4).alloc (Nat.le_refl _) (.cells #[.int .i64 3,.string ⟨#[]⟩,.string ⟨#[]⟩,.slice none 0 0,.string ⟨#[]⟩] 50);have b5:Below w3.heap.size w3 (w4.alloc (.cells #[.int .i64 3,.string ⟨#[]⟩,.string ⟨#[]⟩,.slice none 0 0,.string ⟨#[]⟩] 50)):=b4.trans (hA.mono b4.size);have ho5:=aam (Nz.Sc.aai t2 b5) hs2;have hO5:=aac ((t3.frm (Frm.of_below b5)).mono hs2);have R5:=aac (r3.after b5);have F5:=aac ((HF2.out.trans f3).trans (Frm.of_below b5));have L5:=aac ((HB2.out.trans l3).trans (b5.mono (Nat.le_trans HW.out.siz (Nat.le_trans HB2.out.size l3.size))));have hnew:=aac (Nz.Sc.aaM w4 #[.int .i64 3,.string ⟨#[]⟩,.string ⟨#[]⟩,.slice none 0 0,.string ⟨#[]⟩] 50);have hz5:w.heap.size≤(w4.alloc (.cells #[.int .i64 3,.string ⟨#[]⟩,.string ⟨#[]⟩,.slice none 0 0,.string ⟨#[]⟩] 50)).heap.size:=L5.out.size;have HT:=aac t1;obtain⟨A3,c3,rfl⟩:=Nz.Sc.aah t2;obtain⟨nt,hnt⟩:∃ nt,nt=ts.length:=⟨_,rfl⟩;have HNT:=aac hnt;rw[← hnt] at tl ho5 ⊢;clear t1 t2 t3 hnt b4 b5 hA f3 l3 r3 CT CC HR2 HF2 HB2 HB1 HF1;go_wp2_with (at_builtin;refine wpList_append_own _ rfl _ _ 23 rfl w.heap.size 50 i0 (.agg #[.int .i64 0,.string ⟨#[]⟩,.string ⟨#[]⟩,.slice none 0 0,.string ⟨#[]⟩]) 5 80 Tryz.underlying23 hi hz0 hz1 hz2 rfl (by decide) _ nt (evL ts) rfl ho5 ⟨w4.heap.size,0,none⟩ 1 1 [.int .i64 3,.string ⟨#[]⟩,.string ⟨#[]⟩,.slice none 0 0,.string ⟨#[]⟩] rfl rfl hnew.out agW (by unfold maxLen;omega) (by omega) hz5 ?_);intro v' w5 hown' hgrow _;obtain⟨g',cap',rfl⟩:=Nz.Sc.aas hown';rw[HNT.out] at ho5 hown' hgrow;have he6:=ahl (x:=.cls) (va:=.slice none 0 0) HT.out ho5 hO5.out (ads _ _) hgrow hown';rw[← HNT.out] at he6;have HE:=aac he6;have HR6:=aac (R5.out.grown ho5 hgrow);have HF6:=aac (F5.out.fresh hz5 ho5 hgrow);have HL6:=aac (L5.out.grown hgrow (Nat.le_trans HW.out.siz hz5) (fun j hj=>Nat.le_trans HW.out.siz (World.ownsRow.lt ho5 j hj).1));clear he6 ho5 hO5 hown' hgrow R5 F5 L5 hnew;go_wp2;go_ret2;refine⟨_,by rw[HX.out];rfl,by rw[HX.out];exact HE.out,?_,HF6.out,HL6.out⟩;rw[HX.out];exact⟨_,_,_,(adq { s with wait:=Nz.em,op:=s.op.dropLast } he).symm ▸ HR6.out⟩
end
end Go.Proofs.YtnomcldpbkinmaaGreatDoor.Wl
namespace Go.Proofs.YtnomcldpbkinmaaGreatDoor.Wl
open Go.RowKit
structure DW (B:Nat)(vn vs:Value)(zs:List Value)(s:St)(w:World):Prop where
 nm:w.ownsRow B 9 1 vn s.op.length (s.op.map fun x=>Value.string x.1)
 sc:w.ownsRow B 76 1 vs s.op.length zs
 ow:∀ (k:Nat) v x,zs[k]?=some v→s.op[k]?=some x→Nz.Sc.adC 75 w B v x.2
def stC (vn vs:Value)(s:St):Array Value:= #[vn,vs,.bool s.root,.string s.wait,.bool s.over,.int .i64 s.err]
section
variable {B:Nat} {vn vs:Value} {zs:List Value} {s:St} {w w':World}
theorem DW.frm (h:DW B vn vs zs s w)(hf:Frm w w'):DW B vn vs zs s w':=
 ⟨abP h.nm hf (by decide) (by decide) (by decide),abP h.sc hf (by decide) (by decide) (by decide),fun k v x h1 h2=>abP (h.ow k v x h1 h2) hf (by decide) (by decide) (by decide)⟩
theorem DW.keep (h:DW B vn vs zs s w)(hb:Below w.heap.size w w'):DW B vn vs zs s w':=h.frm (Frm.of_below hb)
theorem DW.mono {B':Nat}(h:DW B vn vs zs s w)(hB:B'≤B):DW B' vn vs zs s w:=⟨aam h.nm hB,aam h.sc hB,fun k v x h1 h2=>aam (h.ow k v x h1 h2) hB⟩
theorem DW.same (h:DW B vn vs zs s w){t:St}(ht:t.op=s.op):DW B vn vs zs t w:=⟨by rw[ht];exact h.nm,by rw[ht];exact h.sc,fun k v x h1 h2=>h.ow k v x h1 (by rw[← ht];exact h2)⟩
theorem dw0 (B:Nat)(w:World):DW B (.slice none 0 0) (.slice none 0 0) [] st0 w:=⟨⟨rfl,.inl ⟨rfl,rfl⟩⟩,⟨rfl,.inl ⟨rfl,rfl⟩⟩,fun k v x h=>by simp at h⟩
theorem DW.sn (h:DW B vn vs zs s w):∃ A c,vn=.slice A s.op.length c:=Nz.Sc.aah h.nm
theorem DW.ss (h:DW B vn vs zs s w):∃ A c,vs=.slice A s.op.length c:=Nz.Sc.aah h.sc
theorem DW.only (h:DW B vn vs zs s w){b:Nat}{row:Option Nat}(hg:w.grownBy w' (some b)){cs:Array Value}{T:TypeId}{fr:Nat × Nat}(hb:w.heap[b]?=some (.cells cs T fr))(h1:T≠9)(h2:T≠76)(h3:T≠75):DW B vn vs zs s w':=
 ⟨World.ownsRow.kept h.nm hg (.inr (Nz.Sc.own_ne h.nm hb h1)),World.ownsRow.kept h.sc hg (.inr (Nz.Sc.own_ne h.sc hb h2)),fun k v x g1 g2=>World.ownsRow.kept (h.ow k v x g1 g2) hg (.inr (Nz.Sc.own_ne (h.ow k v x g1 g2) hb h3))⟩
end
abbrev aeg (W:World)(b:Nat)(x0 x1 x2 x3 x4 x5:Value):World:=(((((W.setCell ⟨b,0,none⟩ x0).setCell ⟨b,1,none⟩ x1).setCell ⟨b,2,none⟩ x2).setCell ⟨b,3,none⟩ x3).setCell ⟨b,4,none⟩ x4).setCell ⟨b,5,none⟩ x5
theorem akG {W:World}{b:Nat}{a0 a1 a2 a3 a4 a5:Value}{T:TypeId}(h:W.heap[b]?=some (.cells #[a0,a1,a2,a3,a4,a5] T (0,0)))(x0 x1 x2 x3 x4 x5:Value):
 (aeg W b x0 x1 x2 x3 x4 x5).heap[b]?=some (.cells #[x0,x1,x2,x3,x4,x5] T (0,0)):=by
 simp[aeg,World.setCell,Array.getElem?_modify,h]
theorem akB {B:Nat}{w W:World}{b:Nat}(h:Below B w W)(hb:B≤b)(x0 x1 x2 x3 x4 x5:Value):Below B w (aeg W b x0 x1 x2 x3 x4 x5):=
 (((((h.setCell (p:=⟨b,0,none⟩) hb _).setCell (p:=⟨b,1,none⟩) hb _).setCell (p:=⟨b,2,none⟩) hb _).setCell (p:=⟨b,3,none⟩) hb _).setCell (p:=⟨b,4,none⟩) hb _).setCell (p:=⟨b,5,none⟩) hb _
theorem agk (X:World)(b j:Nat)(x:Value):X.grownBy (X.setCell ⟨b,j,none⟩ x) (some b):=⟨rfl,rfl,rfl,by simp[World.setCell],fun k _ hk=>Below.heap_setCell _ _ _ _ (fun e=>hk (by simp[e]))⟩
theorem agH {X Y Z:World}{b:Option Nat}(g1:X.grownBy Y b)(g2:Y.grownBy Z b):X.grownBy Z b:=⟨g2.os.trans g1.os,g2.tape.trans g1.tape,g2.output.trans g1.output,Nat.le_trans g1.size g2.size,fun i hi hne=>(g2.block i (Nat.lt_of_lt_of_le hi g1.size) hne).trans (g1.block i hi hne)⟩
theorem awE (W:World)(b:Nat)(x0 x1 x2 x3 x4 x5:Value):W.grownBy (aeg W b x0 x1 x2 x3 x4 x5) (some b):=
 agH (agH (agH (agH (agH (agk _ _ _ _) (agk _ _ _ _)) (agk _ _ _ _)) (agk _ _ _ _)) (agk _ _ _ _)) (agk _ _ _ _)
theorem agP (A1 A2:Option Addr)(n1 c1 n2 c2:Nat)(rt ov:Bool)(u:ByteArray)(er:Int)(w:World):
 Calls Tryz.prog 29 #[.agg #[.slice A1 n1 c1,.slice A2 n2 c2,.bool rt,.string u,.bool ov,.int .i64 er]] w fun e w'=>∃ v,e=.returned v∧aax w' w.heap.size v (aaX u)∧Below w.heap.size w w':=by
 have B1:=(Below.refl w.heap.size w).alloc (Nat.le_refl _) (.cells #[.slice A1 n1 c1,.slice A2 n2 c2,.bool rt,.string u,.bool ov,.int .i64 er] 38);by_cases h0:u.size=0
 · have q:u.toList.isEmpty=true:=(Nz.isE u).trans (decide_eq_true h0);have HB:=aac B1;clear B1;go_enter Tryz.func29,Tryz.ntmps29;go_wp2;go_ret;exact⟨_,rfl,by unfold aaX;rw[if_pos h0];exact aax.nil _ _,HB.out⟩
 · have q:u.toList.isEmpty=false:=(Nz.isE u).trans (decide_eq_false h0);have HB:=aac (B1.alloc B1.size (.cells #[.int .i64 2,.string ⟨#[]⟩,.string ⟨#[]⟩,.slice none 0 0,.string u] 50));have hE:=awP (x:=.txt u) (B:=w.heap.size) (Nz.Sc.abM (w.alloc (.cells #[.slice A1 n1 c1,.slice A2 n2 c2,.bool rt,.string u,.bool ov,.int .i64 er] 38)) 50 #[.int .i64 2,.string ⟨#[]⟩,.string ⟨#[]⟩,.slice none 0 0,.string u]) (ads _ _) B1.size;rw[World.size_alloc] at hE;have HE:=aac hE;clear hE;clear B1;go_enter Tryz.func29,Tryz.ntmps29;go_wp2;go_ret;exact⟨.slice (some ⟨w.heap.size+1,0,none⟩) 1 1,rfl,by unfold aaX;rw[if_neg h0];exact HE.out,HB.out⟩
theorem Tryz.results26:Tryz.f26.results= #[ResultVar.cell 4 38,ResultVar.tmp 5,ResultVar.tmp 6]:=by kernel_rfl
theorem aby (A1 A2:Option Addr)(n1 c1 n2 c2:Nat)(rt ov:Bool)(u:ByteArray)(er x:Int)(w:World):
 Calls Tryz.prog 26 #[.agg #[.slice A1 n1 c1,.slice A2 n2 c2,.bool rt,.string u,.bool ov,.int .i64 er],.int .i64 x] w fun e w'=>e=.returned (.tuple #[.agg #[.slice A1 n1 c1,.slice A2 n2 c2,.bool rt,.string u,.bool ov,.int .i64 x],.slice none 0 0,.int .i64 x])∧Below w.heap.size w w':=by
 go_enter Tryz.func26,Tryz.ntmps26;go_wp2;exact bodyPost_ret (v:=.tuple #[.agg #[.slice A1 n1 c1,.slice A2 n2 c2,.bool rt,.string u,.bool ov,.int .i64 x],.slice none 0 0,.int .i64 x]) (by simp[results,Tryz.results26,go_sem]) rfl ⟨rfl,((Below.refl _ w).alloc (Nat.le_refl _) _).alloc (by simp) _⟩
end Go.Proofs.YtnomcldpbkinmaaGreatDoor.Wl
namespace Go.Proofs.YtnomcldpbkinmaaGreatDoor.Nz.Sc
open Go.RowKit
def aym (L:List P2)(N:Nat)(p:ByteArray)(s ok i:Value):Prop:=∃ (k:Nat) (q:ByteArray) (b:Bool),i=.int .i64 k∧k≤N∧s=.string q∧ok=.bool b∧Hid ((q,b)=aem (L.take k) p)
theorem acp (A:Option Addr)(N cap:Nat)(p:ByteArray)(L:List P2)(w:World)(hN:N=L.length)(hreach:N≤1000000)(hR:RdR w A L):
 Calls Tryz.prog 67 #[.slice A N cap,.string p] w fun e w'=>e=.returned (.tuple #[.string (aem L p).1,.bool (aem L p).2])∧Below w.heap.size w w':=by
 have HN:=aac hN;have HR:=aac hR;have H0:Hid ((em,p.toList.isEmpty)=aem (L.take 0) p):=aac (by rw[← aph];rfl);clear hN hR;go_enter Tryz.func67,Tryz.ntmps67;go_wp2_with fail;go_loop [6,7,8] (fun s ok i=>aym L N p s ok i) (fun _ _ i=>N - (intOf i).toNat);case atStart=>exact⟨0,_,_,rfl,Nat.zero_le _,rfl,rfl,H0⟩
 case round=>
  obtain⟨k,q,b,rfl,hk,rfl,rfl,HI⟩:=hrel;clear H0;by_cases hlt:k < N
  · have hkl:k < L.length:=by rw[← HN.out];exact hlt
    have hx:=List.getElem?_eq_getElem hkl;obtain⟨b1,o1,rfl,hb1,x0,x1⟩:=HR.out k _ hx;have HS:=aac (ana L p k _ hx);have d1:(k:Int) < (N:Int):=(by omega);have d0:(0:Int)≤(k:Int):=(by omega);clear hx;generalize L[k]=t at *;obtain⟨tp,ts⟩:=t;dsimp only at x0 x1
    cases he:eqb tp p with
    | true=>
      have hq:(tp.toList == p.toList)=true:=he;have HE:Hid ((ts,true)=aem (L.take (k+1)) p):=aac (by rw[HS.out,if_pos he]);clear he HS;go_wp2_with fail;go_round;case rel=>exact⟨k+1,ts,true,by go_num,by omega,rfl,rfl,HE⟩
      case measure=>simp only[intOf];omega
    | false=>
      have hq:(tp.toList == p.toList)=false:=he;have HE:Hid ((q,b)=aem (L.take (k+1)) p):=aac (by rw[HS.out,if_neg (by rw[he];simp)];exact HI.out);clear he HS;go_wp2_with fail;go_round;case rel=>exact⟨k+1,q,b,by go_num,by omega,rfl,rfl,HE⟩
      case measure=>simp only[intOf];omega
  · have d1:¬ (k:Int) < (N:Int):=(by omega);have HE:Hid ((q,b)=aem L p):=aac (by rw[HI.out,List.take_of_length_le (by rw[← HN.out];omega)]);go_wp2_with fail;go_ret2;rw[← HE.out];exact⟨rfl,Below.refl _ _⟩
def a3X (s p l:ByteArray)(ok:Bool):Prop:=∀ w,Calls Tryz.prog 30 #[.string s] w fun e w'=>e=.returned (.tuple #[.string p,.string l,.bool ok])∧Below w.heap.size w w'
theorem axG (s:ByteArray)(hs:s.size≤10000):a3X s (aao s).1 (aao s).2.1 (aao s).2.2:=fun w=>afl s hs w
theorem Tryz.results46:Tryz.f46.results= #[ResultVar.cell 6 47,ResultVar.tmp 7]:=by kernel_rfl
def apl (w:World)(o:Option P2)(e:Ending)(w':World):Prop:=∃ x:P2,e=.returned (.tuple #[.agg #[.string x.1,.string x.2],.bool o.isSome])∧(∀ y,o=some y→x=y)∧Below w.heap.size w w'
theorem aor (A:Option Addr)(N cap:Nat)(s p l sp:ByteArray)(ok b1 b2 el fo:Bool)(w:World)(CS:Hid (a3X s p l ok))
 (CF:Hid (∀ W,Below w.heap.size w W→Calls Tryz.prog 67 #[.slice A N cap,.string p] W fun e w'=>e=.returned (.tuple #[.string sp,.bool fo])∧Below W.heap.size W w'))
 (h1:(p.toList == [120,109,108,110,115])=b1) (h2:p.toList.isEmpty=b2) (o:Option P2) (ho:o=if ok=false∨b1=true then none else if b2=true∧el=false then some (em,l) else if fo=true then some (sp,l) else none):
 Calls Tryz.prog 46 #[.slice A N cap,.string s,.bool el] w (apl w o):=by
 have HB:=aac ((Below.refl w.heap.size w).alloc (Nat.le_refl _) (.cells #[.string ⟨#[]⟩,.string ⟨#[]⟩] 47));have HK:=aac (abM w 47 #[.string ⟨#[]⟩,.string ⟨#[]⟩]);have key:∀ (x:P2) (bb:Bool) (w':World),bb=o.isSome→(∀ y,o=some y→x=y)→Below w.heap.size w w'→apl w o (.returned (.tuple #[.agg #[.string x.1,.string x.2],.bool bb])) w':=fun x bb w' e1 e2 e3=>⟨x,by rw[e1],e2,e3⟩;have HKey:=aac key;have HO:=aac ho;clear key ho;cases ok
 · have hz:o=none:=by rw[HO.out];exact if_pos (Or.inl rfl)
   go_enter Tryz.func46,Tryz.ntmps46;go_wp2_with (go_at_call 30;refine(CS.out _).mono ?_;rintro e w1 ⟨rfl,hb⟩;have hk:=aac ((hb.block w.heap.size (by simp)).trans HK.out);have z0:=aaf hk.out 0 (u:=.string ⟨#[]⟩) rfl;have z1:=aaf hk.out 1 (u:=.string ⟨#[]⟩) rfl;have f0:=aaj hk.out 0;have f1:=aaj hk.out 1);have c0:=adj (.string ⟨#[]⟩) (.string ⟨#[]⟩) z0;have c1:=ada (.string ⟨#[]⟩) (.string ⟨#[]⟩) z1;exact bodyPost_ret (v:=.tuple #[.agg #[.string ⟨#[]⟩,.string ⟨#[]⟩],.bool false]) (by simp[results,Tryz.results46,go_sem,c0,c1]) rfl (HKey.out (em,em) false _ (by rw[hz];rfl) (fun y hy=>by rw[hz] at hy;cases hy) (((HB.out.trans (hb.mono (by simp))).setCell (p:=⟨w.heap.size,0,none⟩) (Nat.le_refl _) _).setCell (p:=⟨w.heap.size,1,none⟩) (Nat.le_refl _) _))
 · cases b1
   · cases b2
     · have hz:o=if fo=true then some (sp,l) else none:=by rw[HO.out];simp
       have HZ:=aac hz;clear hz HO;go_enter Tryz.func46,Tryz.ntmps46
       go_wp2_with (first
        | (go_at_call 30;refine(CS.out _).mono ?_;rintro e w1 ⟨rfl,hb⟩;have hk:=aac ((hb.block w.heap.size (by simp)).trans HK.out);have B1:=aac (HB.out.trans (hb.mono (by simp))))
        | (go_at_call 67;refine(CF.out _ B1.out).mono ?_;rintro e w2 ⟨rfl,hb2⟩;have hk2:=aac ((hb2.block w.heap.size (Nat.lt_of_lt_of_le (by simp) hb.size)).trans hk.out);have y0:=aaf hk2.out 0 (u:=.string ⟨#[]⟩) rfl;have y1:=aaf hk2.out 1 (u:=.string ⟨#[]⟩) rfl;have g0:=aaj hk2.out 0;have g1:=aaj hk2.out 1)
        | fail)
       have c0:=adj (.string sp) (.string l) y0;have c1:=ada (.string sp) (.string l) y1;exact bodyPost_ret (v:=.tuple #[.agg #[.string sp,.string l],.bool fo]) (by simp[results,Tryz.results46,go_sem,c0,c1]) rfl (HKey.out (sp,l) fo _ (by rw[HZ.out];cases fo <;> rfl) (fun y hy=>by rw[HZ.out] at hy;cases fo <;> simp at hy;exact hy) (((B1.out.trans (hb2.mono B1.out.size)).setCell (p:=⟨w.heap.size,0,none⟩) (Nat.le_refl _) _).setCell (p:=⟨w.heap.size,1,none⟩) (Nat.le_refl _) _))
     · cases el
       · have hz:o=some (em,l):=by rw[HO.out];simp
         have HZ:=aac hz;clear hz HO;go_enter Tryz.func46,Tryz.ntmps46;go_wp2_with (go_at_call 30;refine(CS.out _).mono ?_;rintro e w1 ⟨rfl,hb⟩;have hk:=aac ((hb.block w.heap.size (by simp)).trans HK.out);have z0:=aaf hk.out 0 (u:=.string ⟨#[]⟩) rfl;have z1:=aaf hk.out 1 (u:=.string ⟨#[]⟩) rfl;have f0:=aaj hk.out 0;have f1:=aaj hk.out 1);have c0:=adj (.string ⟨#[]⟩) (.string l) z0;have c1:=ada (.string ⟨#[]⟩) (.string l) z1;exact bodyPost_ret (v:=.tuple #[.agg #[.string ⟨#[]⟩,.string l],.bool true]) (by simp[results,Tryz.results46,go_sem,c0,c1]) rfl (HKey.out (em,l) true _ (by rw[HZ.out];rfl) (fun y hy=>by rw[HZ.out] at hy;injection hy) (((HB.out.trans (hb.mono (by simp))).setCell (p:=⟨w.heap.size,0,none⟩) (Nat.le_refl _) _).setCell (p:=⟨w.heap.size,1,none⟩) (Nat.le_refl _) _))
       · have hz:o=if fo=true then some (sp,l) else none:=by rw[HO.out];simp
         have HZ:=aac hz;clear hz HO;go_enter Tryz.func46,Tryz.ntmps46
         go_wp2_with (first
          | (go_at_call 30;refine(CS.out _).mono ?_;rintro e w1 ⟨rfl,hb⟩;have hk:=aac ((hb.block w.heap.size (by simp)).trans HK.out);have B1:=aac (HB.out.trans (hb.mono (by simp))))
          | (go_at_call 67;refine(CF.out _ B1.out).mono ?_;rintro e w2 ⟨rfl,hb2⟩;have hk2:=aac ((hb2.block w.heap.size (Nat.lt_of_lt_of_le (by simp) hb.size)).trans hk.out);have y0:=aaf hk2.out 0 (u:=.string ⟨#[]⟩) rfl;have y1:=aaf hk2.out 1 (u:=.string ⟨#[]⟩) rfl;have g0:=aaj hk2.out 0;have g1:=aaj hk2.out 1)
          | fail)
         have c0:=adj (.string sp) (.string l) y0;have c1:=ada (.string sp) (.string l) y1;exact bodyPost_ret (v:=.tuple #[.agg #[.string sp,.string l],.bool fo]) (by simp[results,Tryz.results46,go_sem,c0,c1]) rfl (HKey.out (sp,l) fo _ (by rw[HZ.out];cases fo <;> rfl) (fun y hy=>by rw[HZ.out] at hy;cases fo <;> simp at hy;exact hy) (((B1.out.trans (hb2.mono B1.out.size)).setCell (p:=⟨w.heap.size,0,none⟩) (Nat.le_refl _) _).setCell (p:=⟨w.heap.size,1,none⟩) (Nat.le_refl _) _))
   · have hz:o=none:=by rw[HO.out];exact if_pos (Or.inr rfl)
     go_enter Tryz.func46,Tryz.ntmps46;go_wp2_with (go_at_call 30;refine(CS.out _).mono ?_;rintro e w1 ⟨rfl,hb⟩;have hk:=aac ((hb.block w.heap.size (by simp)).trans HK.out);have z0:=aaf hk.out 0 (u:=.string ⟨#[]⟩) rfl;have z1:=aaf hk.out 1 (u:=.string ⟨#[]⟩) rfl;have f0:=aaj hk.out 0;have f1:=aaj hk.out 1);have c0:=adj (.string ⟨#[]⟩) (.string ⟨#[]⟩) z0;have c1:=ada (.string ⟨#[]⟩) (.string ⟨#[]⟩) z1;exact bodyPost_ret (v:=.tuple #[.agg #[.string ⟨#[]⟩,.string ⟨#[]⟩],.bool false]) (by simp[results,Tryz.results46,go_sem,c0,c1]) rfl (HKey.out (em,em) false _ (by rw[hz];rfl) (fun y hy=>by rw[hz] at hy;cases hy) (((HB.out.trans (hb.mono (by simp))).setCell (p:=⟨w.heap.size,0,none⟩) (Nat.le_refl _) _).setCell (p:=⟨w.heap.size,1,none⟩) (Nat.le_refl _) _))
theorem akk (A:Option Addr)(N cap:Nat)(s:ByteArray)(el:Bool)(L:List P2)(w:World)(hN:N=L.length)(hreach:N≤1000000)(hR:RdR w A L)(hs:s.size≤10000):
 Calls Tryz.prog 46 #[.slice A N cap,.string s,.bool el] w (apl w (a1k L s el)):=
 aor A N cap s _ _ _ _ _ _ el _ w (aac (axG s hs)) (aac (fun W hW=>acp A N cap _ L W hN hreach (hR.keep hW))) (agS rfl) (aeC rfl) _ rfl
def a3V (s v:ByteArray)(p:ByteArray)(ok:Bool):Prop:=∀ w,Calls Tryz.prog 45 #[.agg #[.string s,.string v]] w fun e w'=>e=.returned (.tuple #[.string p,.bool ok])∧Below w.heap.size w w'
theorem axZ (s v:ByteArray)(b1 b2 b3:Bool)(hs:s.size≤10000)(h1:(s.toList == [120,109,108,110,115])=b1)(h2:decide (6 < s.size)=b2)(h3:((s.extract 0 6).toList == [120,109,108,110,115,58])=b3)(w:World):
 Calls Tryz.prog 45 #[.agg #[.string s,.string v]] w fun e w'=>e=.returned (a2k (if b1=true then some em else if b2=true∧b3=true then some (s.extract 6 s.size) else none))∧Below w.heap.size w w':=by
 have HB:=aac ((Below.refl w.heap.size w).alloc (Nat.le_refl _) (.cells #[.string s,.string v] 81));have h2':decide ((6:Int) < (s.size:Int))=b2:=by rw[← h2];simp;omega
 cases b1
 · cases b2
   · go_enter Tryz.func45,Tryz.ntmps45;go_wp2_with fail;go_ret2;exact⟨rfl,HB.out⟩
   · have q1:(6:Int)≤(s.size:Int):=by have:=of_decide_eq_true h2;omega
     have q2:6≤s.size:=by have:=of_decide_eq_true h2;omega
     cases b3
     · go_enter Tryz.func45,Tryz.ntmps45;go_wp2_with fail;go_ret2;exact⟨rfl,HB.out⟩
     · go_enter Tryz.func45,Tryz.ntmps45;go_wp2_with fail;go_ret2;exact⟨rfl,HB.out⟩
 · go_enter Tryz.func45,Tryz.ntmps45;go_wp2_with fail;go_ret2;exact⟨rfl,HB.out⟩
theorem aki (s v:ByteArray)(hs:s.size≤10000)(hok:(aao s).2.2=true)(w:World):
 Calls Tryz.prog 45 #[.agg #[.string s,.string v]] w fun e w'=>e=.returned (a2k (agp s))∧Below w.heap.size w w':=by
 have:=axZ s v _ _ _ hs (agS rfl) rfl (a1u rfl) w;rw[← axf hok];unfold a3c
 simpa using this
end Go.Proofs.YtnomcldpbkinmaaGreatDoor.Nz.Sc
