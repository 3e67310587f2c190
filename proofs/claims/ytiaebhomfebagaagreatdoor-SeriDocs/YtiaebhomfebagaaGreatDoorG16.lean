/- Lemmas of the claim. -/
import Derived.Test.YtiaebhomfebagaaGreatDoorG13
import Derived.Test.YtiaebhomfebagaaGreatDoorG15
import Derived.Test.YtiaebhomfebagaaGreatDoorG03
import Derived.Test.YtiaebhomfebagaaGreatDoorG04
import Derived.Test.YtiaebhomfebagaaGreatDoorG05
import Derived.Deep.QuietTactic
import Derived.BigQuiet
import Derived.Deep.RegionHeld3
import Derived.Deep.RegionWith
import Derived.Deep.RegionLaw
import Derived.Lib.SliceRun
set_option maxHeartbeats 4000000
set_option maxRecDepth 100000
set_option linter.unusedSimpArgs false
set_option linter.unusedVariables false
namespace Go.Proofs.YtiaebhomfebagaaGreatDoor.Wl
open Go.RowKit
def Frm (w w':World):Prop:=∀ (k:Nat) (cs:Array Value) (T:TypeId) (fr:Nat × Nat),w.heap[k]?=some (.cells cs T fr)→T≠5→T≠62→T≠106→w'.heap[k]?=some (.cells cs T fr)
def Rk (T:TypeId):Prop:=T=5∨T=62∨T=106
theorem Frm.refl (w:World):Frm w w:=fun _ _ _ _ h _ _ _=>h
theorem Frm.trans {a b c:World}(h:Frm a b)(k:Frm b c):Frm a c:=fun i cs T fr hi h1 h2 h3=>k i cs T fr (h i cs T fr hi h1 h2 h3) h1 h2 h3
theorem Frm.of_below {w w':World}(h:Below w.heap.size w w'):Frm w w':=fun k cs T fr hk _ _ _=>(h.block k (Array.getElem?_eq_some_iff.1 hk).1).trans hk
theorem Frm.set {w:World}{b:Nat}{cs:Array Value}{T:TypeId}{fr:Nat × Nat}(hb:w.heap[b]?=some (.cells cs T fr))(hT:Rk T)(j:Nat)(v:Value):Frm w (w.setCell ⟨b,j,none⟩ v):=fun k cs' T' fr' hk h1 h2 h3=>by
 have hne:k≠b:=by
  rintro rfl;rw[hb] at hk;injection hk with hk
  injection hk with _ e _
  subst e;rcases hT with h | h | h
  · exact h1 h
  · exact h2 h
  · exact h3 h
 exact(Below.heap_setCell _ _ _ _ (fun e=>hne e)).trans hk
theorem Frm.grown {w w':World}{B:Nat}{e:TypeId}{z n:Nat}{v:Value}{xs:List Value}(hg:w.grownBy w' v.ownBlock)(h:w.ownsRow B e z v n xs)(hT:Rk e):Frm w w':=fun k cs' T' fr' hk h1 h2 h3=>by
 have hlt:=(Array.getElem?_eq_some_iff.1 hk).1;refine(hg.block k hlt ?_).trans hk;intro e';rcases h.2 with ⟨rfl,_⟩ | ⟨g,cap,cur,rfl,_,hh,_⟩
 · simp[Value.ownBlock] at e'
 · simp only[Value.ownBlock,Option.some.injEq] at e';subst e';rw[hh] at hk;injection hk with hk
   injection hk with _ e2 _
   subst e2;rcases hT with h | h | h
   · exact h1 h
   · exact h2 h
   · exact h3 h
theorem acP {w w':World}{B:Nat}{e:TypeId}{z n:Nat}{v:Value}{xs:List Value}(h:w.ownsRow B e z v n xs)(hf:Frm w w')(h1:e≠5)(h2:e≠62)(h3:e≠106):w'.ownsRow B e z v n xs:=by
 refine⟨h.1,?_⟩;rcases h.2 with h | ⟨g,cap,cur,rfl,hB,hh,r⟩
 · exact .inl h
 · exact .inr ⟨g,cap,cur,rfl,hB,hf g _ _ _ hh h1 h2 h3,r⟩
theorem aar {w:World}{B g:Nat}{e T:TypeId}{z n:Nat}{v:Value}{xs:List Value}{cs:Array Value}{fr:Nat × Nat}(h:w.ownsRow B e z v n xs)(hb:w.heap[g]?=some (.cells cs T fr))(hT:T≠e)(j:Nat)(x:Value):(w.setCell ⟨g,j,none⟩ x).ownsRow B e z v n xs:=
 World.ownsRow.kept (row:=some g) h ⟨rfl,rfl,rfl,by simp[World.setCell],fun k _ hk=>Below.heap_setCell _ _ _ _ (fun e=>hk (by simp[e]))⟩ (Or.inr (Nz.Sc.own_ne h hb hT))
theorem abB {w w':World}{B B2:Nat}{e e2:TypeId}{z n z2 n2:Nat}{v u:Value}{xs ys:List Value}(h:w.ownsRow B e z v n xs)(h2:w.ownsRow B2 e2 z2 u n2 ys)(hg:w.grownBy w' u.ownBlock)(hT:e2≠e):w'.ownsRow B e z v n xs:=by
 refine World.ownsRow.kept (row:=u.ownBlock) h hg ?_;rcases h2.2 with ⟨rfl,_⟩ | ⟨g,cap,cur,rfl,_,hh,_⟩
 · rcases h.2 with ⟨rfl,_⟩ | ⟨g,cap,cur,rfl,_⟩
   · exact .inl rfl
   · exact .inr (by simp[Value.ownBlock])
 · exact .inr (Nz.Sc.own_ne h hh hT)
theorem a0Y {u:ByteArray}(h:u.size=0):u=Nz.em:=by
 have:aad u=aad Nz.em:=by
  have e:aad u=[]:=List.eq_nil_of_length_eq_zero (by rw[aae];exact h);rw[e];rfl
 exact aaW this
def kd:Ev→Int
 | .opn _ _=>1
 | .txt _=>2
 | .cls=>3
def sp:Ev→ByteArray
 | .opn n _=>n.1
 | _=>⟨#[]⟩
def lo:Ev→ByteArray
 | .opn n _=>n.2
 | _=>⟨#[]⟩
def tx:Ev→ByteArray
 | .txt s=>s
 | _=>⟨#[]⟩
def a2c:Ev→List Tr
 | .opn _ f=>f
 | _=>[]
abbrev EvP:=Ev × Value
def evC (x:EvP):List Value:=[.int .i64 (kd x.1),.string (sp x.1),.string (lo x.1),x.2,.string (tx x.1)]
def evL (es:List EvP):List Value:=es.flatMap evC
theorem arI (x:EvP):(evC x).length=5:=rfl
theorem asr (es:List EvP):(evL es).length=es.length * 5:=Nz.Sc.ait arI es
theorem ayB (es:List EvP)(k i:Nat)(t:EvP)(h:es[k]?=some t)(hi:i < 5):(evL es)[k * 5+i]?=(evC t)[i]?:=Nz.Sc.adF arI es k i t h hi
theorem aqY (a b:List EvP):evL (a++b)=evL a++evL b:=by unfold evL;simp
def Slc (v:Value):Prop:=∃ A n c,v=.slice A n c
theorem ais {w:World}{B:Nat}{e:TypeId}{z n:Nat}{v:Value}{xs:List Value}(h:w.ownsRow B e z v n xs):Slc v:=by
 rcases h.2 with ⟨rfl,_⟩ | ⟨g,cap,cur,rfl,_⟩
 · exact⟨_,_,_,rfl⟩
 · exact⟨_,_,_,rfl⟩
theorem aky {x:EvP}(h:Slc x.2):∀ u∈evC x,u.oneCell'=true:=by
 obtain⟨A,n,c,h⟩:=h;intro u hu;unfold evC at hu;rw[h] at hu;simp only[List.mem_cons,List.not_mem_nil,or_false] at hu;rcases hu with rfl | rfl | rfl | rfl | rfl <;> rfl
def EvO (w:World)(B:Nat)(es:List EvP):Prop:=∀ x∈es,Nz.Sc.apz w B x.2 (a2c x.1)
theorem arP {w:World}{B:Nat}{es:List EvP}(h:EvO w B es):∀ u∈evL es,u.oneCell'=true:=by
 intro u hu;obtain⟨x,hx,hu⟩:=List.mem_flatMap.1 hu;exact aky (ais (h x hx)) u hu
theorem aam {e:TypeId}{z n B B':Nat}{w:World}{v:Value}{xs:List Value}(h:w.ownsRow B e z v n xs)(hB:B'≤B):w.ownsRow B' e z v n xs:=Nz.Sc.aam h hB
theorem EvO.frm {w w':World}{B:Nat}{es:List EvP}(h:EvO w B es)(hf:Frm w w'):EvO w' B es:=fun x hx=>acP (h x hx) hf (by decide) (by decide) (by decide)
theorem EvO.mono {w:World}{B B':Nat}{es:List EvP}(h:EvO w B es)(hB:B'≤B):EvO w B' es:=fun x hx=>aam (h x hx) hB
theorem EvO.app {w:World}{B:Nat}{a b:List EvP}(h:EvO w B a)(k:EvO w B b):EvO w B (a++b):=fun x hx=>(List.mem_append.1 hx).elim (h x) (k x)
theorem EvO.grown {w w':World}{B B2:Nat}{es:List EvP}{e2:TypeId}{z2 n2:Nat}{u:Value}{ys:List Value}(h:EvO w B es)(h2:w.ownsRow B2 e2 z2 u n2 ys)(hg:w.grownBy w' u.ownBlock)(hT:e2≠40):EvO w' B es:=fun x hx=>abB (h x hx) h2 hg hT
theorem aiu (w:World)(B:Nat):Nz.Sc.apz w B (.slice none 0 0) []:=⟨rfl,.inl ⟨rfl,rfl⟩⟩
def abv (w:World)(B:Nat)(v:Value)(l:List Ev):Prop:=∃ es:List EvP,es.map (·.1)=l∧w.ownsRow B 54 5 v es.length (evL es)∧EvO w B es
theorem abv.frm {w w':World}{B:Nat}{v:Value}{l:List Ev}(h:abv w B v l)(hf:Frm w w'):abv w' B v l:=by
 obtain⟨es,h1,h2,h3⟩:=h;exact⟨es,h1,acP h2 hf (by decide) (by decide) (by decide),h3.frm hf⟩
theorem abv.keep {w w':World}{B:Nat}{v:Value}{l:List Ev}(h:abv w B v l)(hb:Below w.heap.size w w'):abv w' B v l:=h.frm (Frm.of_below hb)
theorem abv.mono {w:World}{B B':Nat}{v:Value}{l:List Ev}(h:abv w B v l)(hB:B'≤B):abv w B' v l:=by
 obtain⟨es,h1,h2,h3⟩:=h;exact⟨es,h1,aam h2 hB,h3.mono hB⟩
theorem abv.nil (w:World)(B:Nat):abv w B (.slice none 0 0) []:=⟨[],rfl,⟨rfl,.inl ⟨rfl,rfl⟩⟩,fun x hx=>by cases hx⟩
theorem abv.slc {w:World}{B:Nat}{v:Value}{l:List Ev}(h:abv w B v l):∃ A c,v=.slice A l.length c:=by
 obtain⟨es,h1,h2,h3⟩:=h;obtain⟨A,c,h⟩:=Nz.Sc.aai h2;exact⟨A,c,by rw[h,← h1,List.length_map]⟩
abbrev OpP:=(ByteArray × List Pr) × Value
def opC (x:OpP):List Value:=[.string x.1.1,x.2]
def opL (es:List OpP):List Value:=es.flatMap opC
theorem apI (x:OpP):(opC x).length=2:=rfl
theorem arA (es:List OpP):(opL es).length=es.length * 2:=Nz.Sc.ait apI es
theorem arK (es:List OpP)(k i:Nat)(t:OpP)(h:es[k]?=some t)(hi:i < 2):(opL es)[k * 2+i]?=(opC t)[i]?:=Nz.Sc.adF apI es k i t h hi
theorem aqM (a b:List OpP):opL (a++b)=opL a++opL b:=by unfold opL;simp
def OpO (w:World)(B:Nat)(es:List OpP):Prop:=∀ x∈es,Nz.Sc.agQ 164 w B x.2 x.1.2
theorem OpO.frm {w w':World}{B:Nat}{es:List OpP}(h:OpO w B es)(hf:Frm w w'):OpO w' B es:=fun x hx=>acP (h x hx) hf (by decide) (by decide) (by decide)
structure RW (B rb:Nat)(vw vo:Value)(es:List OpP)(s:St)(w:World):Prop where
 lo:B≤rb
 blk:w.heap[rb]?=some (.cells #[vw,vo,.bool s.root,.bool s.over,.int .i64 s.err] 62 (0,0))
 wt:w.ownsRow B 5 1 vw (aad s.wait).length ((aad s.wait).map (Value.int .u8))
 eq:es.map (·.1)=s.op
 op:w.ownsRow B 106 2 vo es.length (opL es)
 own:OpO w B es
 siz:B≤w.heap.size
def RS (B rb:Nat)(s:St)(w:World):Prop:=∃ vw vo es,RW B rb vw vo es s w
section
variable {B rb:Nat} {vw vo:Value} {es:List OpP} {s:St} {w w':World}
theorem RW.lt (h:RW B rb vw vo es s w):rb < w.heap.size:=(Array.getElem?_eq_some_iff.1 h.blk).1
theorem RW.after (h:RW B rb vw vo es s w)(hb:Below w.heap.size w w'):RW B rb vw vo es s w':=
 ⟨h.lo,(hb.block rb h.lt).trans h.blk,Nz.Sc.aaj h.wt hb,h.eq,Nz.Sc.aaj h.op hb,h.own.frm (Frm.of_below hb),Nat.le_trans h.siz hb.size⟩
theorem RW.c0 (h:RW B rb vw vo es s w):w.cell? ⟨rb,0,none⟩=some vw:=by rw[Lib.cell_of_heap h.blk];rfl
theorem RW.c1 (h:RW B rb vw vo es s w):w.cell? ⟨rb,1,none⟩=some vo:=by rw[Lib.cell_of_heap h.blk];rfl
theorem RW.c2 (h:RW B rb vw vo es s w):w.cell? ⟨rb,2,none⟩=some (.bool s.root):=by rw[Lib.cell_of_heap h.blk];rfl
theorem RW.c3 (h:RW B rb vw vo es s w):w.cell? ⟨rb,3,none⟩=some (.bool s.over):=by rw[Lib.cell_of_heap h.blk];rfl
theorem RW.c4 (h:RW B rb vw vo es s w):w.cell? ⟨rb,4,none⟩=some (.int .i64 s.err):=by rw[Lib.cell_of_heap h.blk];rfl
theorem RW.fz (h:RW B rb vw vo es s w)(j:Nat):w.frozen? ⟨rb,j,none⟩=false:=Lib.frozen_of_heap h.blk j
theorem abF {b j:Nat}{cs:Array Value}{T:TypeId}{fr:Nat × Nat}{x:Value}(h:w.heap[b]?=some (.cells cs T fr)):(w.setCell ⟨b,j,none⟩ x).heap[b]?=some (.cells (cs.set! j x) T fr):=by
 simp[World.setCell,Array.getElem?_modify,h]
theorem RW.len (h:RW B rb vw vo es s w):es.length=s.op.length:=by rw[← h.eq,List.length_map]
theorem RW.opn (h:RW B rb vw vo es s w):∃ A c,vo=.slice A s.op.length c:=by
 obtain⟨A,c,e⟩:=Nz.Sc.aai h.op;exact⟨A,c,by rw[e,h.len]⟩
theorem RW.wai (h:RW B rb vw vo es s w):∃ A c,vw=.slice A s.wait.size c:=by
 obtain⟨A,c,e⟩:=Nz.Sc.aai h.wt;exact⟨A,c,by rw[e,aae]⟩
theorem RW.aar (h:RW B rb vw vo es s w)(j:Nat)(x:Value){e:TypeId}{z n:Nat}{v:Value}{xs:List Value}(ho:w.ownsRow B e z v n xs)(he:(62:TypeId)≠e):(w.setCell ⟨rb,j,none⟩ x).ownsRow B e z v n xs:=Wl.aar ho h.blk he j x
theorem RW.amj (h:RW B rb vw vo es s w)(j:Nat)(x:Value):OpO (w.setCell ⟨rb,j,none⟩ x) B es:=h.own.frm (Frm.set h.blk (.inr (.inl rfl)) j x)
theorem RW.a4z (h:RW B rb vw vo es s w)(j:Nat)(x:Value):B≤(w.setCell ⟨rb,j,none⟩ x).heap.size:=by simpa [World.setCell] using h.siz
theorem RW.set0 (h:RW B rb vw vo es s w):RW B rb (.slice none 0 0) vo es { s with wait:=Nz.em } (w.setCell ⟨rb,0,none⟩ (.slice none 0 0)):=
 ⟨h.lo,by rw[abF h.blk];rfl,⟨rfl,.inl ⟨rfl,rfl⟩⟩,h.eq,h.aar 0 _ h.op (by decide),h.amj 0 _,h.a4z 0 _⟩
theorem RW.set2 (h:RW B rb vw vo es s w)(b:Bool):RW B rb vw vo es { s with root:=b } (w.setCell ⟨rb,2,none⟩ (.bool b)):=
 ⟨h.lo,by rw[abF h.blk];rfl,h.aar 2 _ h.wt (by decide),h.eq,h.aar 2 _ h.op (by decide),h.amj 2 _,h.a4z 2 _⟩
theorem RW.a6I (h:RW B rb vw vo es s w)(b:Bool):RW B rb vw vo es { s with over:=b } (w.setCell ⟨rb,3,none⟩ (.bool b)):=
 ⟨h.lo,by rw[abF h.blk];rfl,h.aar 3 _ h.wt (by decide),h.eq,h.aar 3 _ h.op (by decide),h.amj 3 _,h.a4z 3 _⟩
theorem RW.a6h (h:RW B rb vw vo es s w)(e:Int):RW B rb vw vo es { s with err:=e } (w.setCell ⟨rb,4,none⟩ (.int .i64 e)):=
 ⟨h.lo,by rw[abF h.blk];rfl,h.aar 4 _ h.wt (by decide),h.eq,h.aar 4 _ h.op (by decide),h.amj 4 _,h.a4z 4 _⟩
theorem RW.a4t (h:RW B rb vw vo es s w)(j:Nat)(x:Value):Below B w (w.setCell ⟨rb,j,none⟩ x):=(Below.refl B w).setCell (p:=⟨rb,j,none⟩) h.lo x
theorem RW.a1h (h:RW B rb vw vo es s w)(j:Nat)(x:Value):Frm w (w.setCell ⟨rb,j,none⟩ x):=Frm.set h.blk (.inr (.inl rfl)) j x
end
end Go.Proofs.YtiaebhomfebagaaGreatDoor.Wl
namespace Go.Proofs.YtiaebhomfebagaaGreatDoor.Wl
open Go.RowKit
section
variable {B rb:Nat} {vw vo:Value} {es:List OpP} {s:St} {w w':World}
theorem aaI (h:RW B rb vw vo es s w):Calls Tryz.prog 47 #[.pointer (some ⟨rb,0,none⟩)] w fun e w'=>e=.returned (.int .i64 (s.op.length:Int))∧w=w':=by
 obtain⟨A,c,rfl⟩:=h.opn;have c1:=h.c1;clear h;generalize s.op.length=n at *;go_enter Tryz.func47,Tryz.ntmps47;go_wp2;go_ret;exact⟨rfl,rfl⟩
theorem alQ (h:RW B rb vw vo es s w):Calls Tryz.prog 13 #[.pointer (some ⟨rb,0,none⟩)] w fun e w'=>e=.returned (.bool s.over)∧w=w':=by
 have c3:=h.c3;clear h;generalize s.over=b at *;go_enter Tryz.func13,Tryz.ntmps13;go_wp2;go_ret;exact⟨rfl,rfl⟩
theorem Tryz.results52:Tryz.f52.results= #[ResultVar.cell 0 54]:=by kernel_rfl
theorem ahd (w:World):Calls Tryz.prog 52 #[] w fun e w'=>e=.returned (.agg #[.int .i64 3,.string ⟨#[]⟩,.string ⟨#[]⟩,.slice none 0 0,.string ⟨#[]⟩])∧Below w.heap.size w w':=by
 go_enter Tryz.func52,Tryz.ntmps52;go_wp2;exact bodyPost_ret (v:=.agg #[.int .i64 3,.string ⟨#[]⟩,.string ⟨#[]⟩,.slice none 0 0,.string ⟨#[]⟩]) (by simp[results,Tryz.results52,go_sem]) rfl ⟨rfl,(Below.refl w.heap.size w).alloc (Nat.le_refl _) _⟩
theorem akl (w:World):Calls Tryz.prog 10 #[] w fun e w'=>e=.returned (.pointer (some ⟨w.heap.size,0,none⟩))∧RW w.heap.size w.heap.size (.slice none 0 0) (.slice none 0 0) [] st0 w'∧Below w.heap.size w w':=by
 have HK:=aac (Nz.Sc.abJ w 62 #[.slice none 0 0,.slice none 0 0,.bool false,.bool false,.int .i64 0]);go_enter Tryz.func10,Tryz.ntmps10;go_wp2;go_ret;exact⟨rfl,⟨Nat.le_refl _,HK.out,⟨rfl,.inl ⟨rfl,rfl⟩⟩,rfl,⟨rfl,.inl ⟨rfl,rfl⟩⟩,(fun x hx=>by cases hx),by simp⟩,(Below.refl w.heap.size w).alloc (Nat.le_refl _) _⟩
def asI (B rb:Nat)(vo:Value)(es:List OpP)(s:St)(w:World)(e:Ending)(w':World):Prop:=
 ∃ v vw,e=.returned v∧abv w' w.heap.size v (aaH s.wait)∧RW B rb vw vo es { s with wait:=Nz.em } w'∧Frm w w'∧Below B w w'
theorem RW.a6G (h:RW B rb vw vo es s w)(h0:s.wait.size=0):RW B rb vw vo es { s with wait:=Nz.em } w:=by
 have e:=a0Y h0;obtain⟨op,wait,root,over,err⟩:=s;have e':wait=Nz.em:=e;subst e';exact h
theorem ayV (h:RW B rb vw vo es s w)(h0:s.wait.size=0):Calls Tryz.prog 51 #[.pointer (some ⟨rb,0,none⟩)] w (asI B rb vo es s w):=by
 have HR:=aac h;obtain⟨A,c,rfl⟩:=h.wai;have c0:=h.c0;rw[h0] at c0;clear h;go_enter Tryz.func51,Tryz.ntmps51;go_wp2;go_ret;refine⟨_,_,rfl,?_,HR.out.a6G h0,Frm.refl _,Below.refl _ _⟩;unfold aaH;rw[if_pos h0];exact abv.nil _ _
theorem a3j {W W':World}{x:Ev}{va:Value}(hk:W'.heap[W.heap.size]?=some (.cells #[.int .i64 (kd x),.string (sp x),.string (lo x),va,.string (tx x)] 54 (0,0)))(ha:Nz.Sc.apz W' B va (a2c x))(hB:B≤W.heap.size):
 abv W' B (.slice (some ⟨W.heap.size,0,none⟩) 1 1) [x]:=
 ⟨[(x,va)],rfl,⟨rfl,.inr ⟨W.heap.size,1,_,rfl,hB,hk,Nat.le_refl _,by decide,rfl,rfl⟩⟩,fun y hy=>by rw[List.mem_singleton] at hy;subst hy;exact ha⟩
theorem auX (h:RW B rb vw vo es s w)(h0:s.wait.size≠0):Calls Tryz.prog 51 #[.pointer (some ⟨rb,0,none⟩)] w (asI B rb vo es s w):=by
 have HR:=aac h
 have ho:Hid (abv (w.alloc (.cells #[.int .i64 2,.string ⟨#[]⟩,.string ⟨#[]⟩,.slice none 0 0,.string s.wait] 54)) w.heap.size (.slice (some ⟨w.heap.size,0,none⟩) 1 1) (aaH s.wait)):=aac (by
  unfold aaH;rw[if_neg h0];exact a3j (x:=.txt s.wait) (Nz.Sc.abJ w 54 _) (aiu _ _) (Nat.le_refl _))
 obtain⟨A,c,hrd,hR⟩:=a4j h.wt;have hcv:=ayc (c:=c) hR;rw[← aas rfl,aae] at hcv;have HA:=aac (h.after ((Below.refl _ w).alloc (Nat.le_refl _) (.cells #[.int .i64 2,.string ⟨#[]⟩,.string ⟨#[]⟩,.slice none 0 0,.string s.wait] 54)));have c0:=h.c0;rw[hrd,aae] at c0;have d0:=HA.out.c0;rw[hrd,aae] at d0;have f0:=HA.out.fz 0;have q0:((s.wait.size:Int) == 0)=false:=by rw[beq_eq_false_iff_ne];omega
 clear h hR hrd;generalize s.wait.size=n at *;go_enter Tryz.func51,Tryz.ntmps51;go_wp2;go_ret;exact⟨_,_,rfl,ho.out.frm (HA.out.a1h 0 _),HA.out.set0,(Frm.of_below ((Below.refl _ w).alloc (Nat.le_refl _) _)).trans (HA.out.a1h 0 _),((Below.refl B w).alloc HR.out.siz _).trans (HA.out.a4t 0 _)⟩
theorem ahE (h:RW B rb vw vo es s w):Calls Tryz.prog 51 #[.pointer (some ⟨rb,0,none⟩)] w (asI B rb vo es s w):=by
 by_cases h0:s.wait.size=0
 · exact ayV h h0
 · exact auX h h0
theorem RW.a6w (h:RW B rb vw vo es s w){v':Value}{w2:World}{m:ByteArray}(ho:w2.ownsRow B 5 1 v' ((aad s.wait).length+m.size) ((aad s.wait).map (Value.int .u8)++Lib.strCells m))(hg:w.grownBy w2 vw.ownBlock):
 w2.heap[rb]?=some (.cells #[vw,vo,.bool s.root,.bool s.over,.int .i64 s.err] 62 (0,0))∧RW B rb v' vo es { s with wait:=s.wait++m } (w2.setCell ⟨rb,0,none⟩ v')∧Frm w (w2.setCell ⟨rb,0,none⟩ v')∧Below B w (w2.setCell ⟨rb,0,none⟩ v'):=by
 have b2:=(hg.block rb h.lt (fun e=>Nz.Sc.own_ne h.wt h.blk (by decide) e.symm)).trans h.blk;have hf:=Frm.grown hg h.wt (.inl rfl);have hs:=Frm.set b2 (.inr (.inl rfl)) 0 v';have hb:Below B w w2:=(Below.refl B w).grown hg h.siz (fun k hk=>(World.ownsRow.lt h.wt k hk).1);refine⟨b2,⟨h.lo,by rw[abF b2];rfl,?_,h.eq,Wl.aar (abB h.op h.wt hg (by decide)) b2 (by decide) 0 v',(h.own.frm hf).frm hs,by simpa [World.setCell] using Nat.le_trans h.siz hg.size⟩,hf.trans hs,hb.setCell (p:=⟨rb,0,none⟩) h.lo v'⟩;refine Wl.aar ?_ b2 (by decide) 0 v';show w2.ownsRow B 5 1 v' (aad (s.wait++m)).length ((aad (s.wait++m)).map (Value.int .u8));have e:(aad m).map (Value.int .u8)=Lib.strCells m:=by unfold aad;rw[List.map_map];rfl
 rw[aaq,List.length_append,List.map_append,e,aae m];exact ho
def a2D (B rb:Nat)(vo:Value)(es:List OpP)(s:St)(m:ByteArray)(w:World)(e:Ending)(w':World):Prop:=
 e=.returned (.tuple #[])∧(∃ vw,RW B rb vw vo es { s with wait:=s.wait++m } w')∧Frm w w'∧Below B w w'
theorem a0l (h:RW B rb vw vo es s w)(m:ByteArray)(hz:s.wait.size≤100000000000)(hm:m.size≤1000000000000):Calls Tryz.prog 54 #[.pointer (some ⟨rb,0,none⟩),.string m] w (a2D B rb vo es s m w):=by
 obtain⟨i0,hi,hz0,hz1,hz2⟩:=info_parts Tryz.info5;have HR:=aac h;have hown:=h.wt;have hsz:=h.siz;have hl:(aad s.wait).length≤100000000000:=by rw[aae];exact hz
 have c0:=h.c0;clear h hz;go_enter Tryz.func54,Tryz.ntmps54;go_wp2_with (at_builtin;refine Lib.wpList_append_own_string _ rfl _ _ 57 9 rfl B 5 i0 Tryz.underlying57 Tryz.underlying9 hi hz0 hz1 hz2 _ _ _ rfl hown m rfl (by unfold maxLen;omega) (by omega) (by omega) ?_);intro v' w2 hown' hgrow _;obtain⟨b2,r2,f2,l2⟩:=HR.out.a6w hown' hgrow;have R2:=aac r2;have F2:=aac f2;have L2:=aac l2;have d0:w2.cell? ⟨rb,0,none⟩=some vw:=by rw[Lib.cell_of_heap b2];rfl
 have f0:w2.frozen? ⟨rb,0,none⟩=false:=Lib.frozen_of_heap b2 0;obtain⟨A,cap,rfl⟩:∃ A cap,v'=.slice A ((aad s.wait).length+m.size) cap:=Nz.Sc.aai hown';clear b2 r2 f2 l2 hown' hgrow hown HR c0;go_wp2
 go_end0
 exact⟨rfl,⟨_,R2.out⟩,F2.out,L2.out⟩
def clr (s:St):St:={ s with err:=0 }
theorem agf (s:St)(h:s.err=0)(e:Int):clr (bad s e).1=s:=by
 obtain⟨op,wait,root,over,err⟩:=s;have:err=0:=h;subst this;rfl
theorem acV (s:St)(h:s.err=0):clr s=s:=agf s h 0
def apU (B rb:Nat)(vo:Value)(es:List OpP)(x:St × List Ev × Int)(w:World)(e:Ending)(w':World):Prop:=
 e=.returned (.int .i64 x.2.2)∧(∃ vw,RW B rb vw vo es (clr x.1) w')∧Frm w w'∧Below B w w'
theorem avS (h:RW B rb vw vo es s w)(he:s.err=0):Calls Tryz.prog 35 #[.pointer (some ⟨rb,0,none⟩)] w (apU B rb vo es (lastT s) w):=by
 have HR:=aac h;have CD:=aac (aaI h);have c2:=h.c2;have c3:=h.c3;have f3:=h.fz 3;unfold lastT;by_cases k1:s.op≠[]
 · have k0:0 < s.op.length:=List.length_pos_iff.2 k1;rw[if_pos k1];clear h;generalize s.op.length=n at *;have d1:(0:Int) < (n:Int):=(by omega);go_enter Tryz.func35,Tryz.ntmps35;go_wp2_with fail;refine CD.out.mono ?_;rintro e w1 ⟨rfl,rfl⟩;go_wp2;go_ret;exact⟨rfl,⟨_,by rw[agf s he];exact HR.out⟩,Frm.refl _,Below.refl _ _⟩
 · have k0:s.op.length=0:=by rw[Decidable.not_not.1 k1];rfl
   rw[if_neg k1];rw[k0] at CD;cases hr:s.root
   · rw[hr] at c2;rw[if_pos rfl];clear h;go_enter Tryz.func35,Tryz.ntmps35;go_wp2_with fail;refine CD.out.mono ?_;rintro e w1 ⟨rfl,rfl⟩;go_wp2;go_ret;exact⟨rfl,⟨_,by rw[agf s he];exact HR.out⟩,Frm.refl _,Below.refl _ _⟩
   · rw[hr] at c2;rw[if_neg (by decide)];clear h;go_enter Tryz.func35,Tryz.ntmps35;go_wp2_with fail;refine CD.out.mono ?_;rintro e w1 ⟨rfl,rfl⟩;go_wp2;go_ret;refine⟨rfl,⟨vw,?_⟩,HR.out.a1h 3 _,HR.out.a4t 3 _⟩;have:=HR.out.a6I true;rw[← acV _ (show ({ s with over:=true }:St).err=0 from he),hr] at this;exact this
theorem RW.box (h:RW B rb vw vo es s w)(o:Obj):RW B rb vw vo es s (w.alloc o):=h.after ((Below.refl _ w).alloc (Nat.le_refl _) o)
theorem RW.drew (h:RW B rb vw vo es s w):RW B rb vw vo es s w.drew:=h.after (Below.refl _ w).drew
theorem aaK (h:RW B rb vw vo es s w)(o:Obj):Below B w (w.alloc o):=(Below.refl B w).alloc h.siz o
theorem aaz (w:World)(o:Obj):Frm w (w.alloc o):=Frm.of_below ((Below.refl _ w).alloc (Nat.le_refl _) o)
theorem auc {a b:World}(hf:Frm a b){k:Nat}{cs:Array Value}{fr:Nat × Nat}(hk:a.heap[k]?=some (.cells cs 44 fr))(j:Nat){v:Value}(hv:cs[j]?=some v):b.cell? ⟨k,j,none⟩=some v:=
 (Lib.cell_of_heap (hf k cs 44 fr hk (by decide) (by decide) (by decide)) j).trans hv
theorem aqy (h:RW B rb vw vo es s w)(he:s.err=0)(k:Int)(m:ByteArray)(em bk:Bool)(hz:s.wait.size≤100000000000)(hm:m.size≤1000000000000):
 Calls Tryz.prog 34 #[.pointer (some ⟨rb,0,none⟩),.agg #[.int .i64 k,.string m,.bool em,.bool bk]] w (apU B rb vo es (acr s ⟨k,m,em,bk⟩) w):=by
 have HW:=aac h;have HR:=aac (h.box (.cells #[.int .i64 k,.string m,.bool em,.bool bk] 44));have CD:=aac (aaI HR.out);unfold acr;by_cases k1:s.op≠[]
 · have k0:0 < s.op.length:=List.length_pos_iff.2 k1;rw[if_pos k1];have CL:=aac (a0l HR.out.drew m hz hm);have HK:=aac (show (w.alloc (.cells #[.int .i64 k,.string m,.bool em,.bool bk] 44)).drew.heap[w.heap.size]?=_ from Nz.Sc.abJ w 44 #[.int .i64 k,.string m,.bool em,.bool bk]);clear h;generalize s.op.length=n at *;have d1:(0:Int) < (n:Int):=(by omega);go_enter Tryz.func34,Tryz.ntmps34;go_wp2_with fail;refine CD.out.mono ?_;rintro e w1 ⟨rfl,rfl⟩;go_wp2_with fail
   go_region_held3 (fun W=>W.cell? ⟨w.heap.size,1,none⟩=some (.string m)) (first | assumption | simp | exact rfl) (first | (go_at_call 54;refine CL.out.mono ?_;rintro e w2 ⟨rfl,h2,f2,l2⟩;have k2:=auc f2 HK.out 1 rfl) | fail)
   go_wp2;go_ret;obtain⟨vw2,h2⟩:=h2;exact⟨rfl,⟨vw2,by rw[← acV _ (show ({ s with wait:=s.wait++m }:St).err=0 from he)] at h2;exact h2⟩,(aaz w _).trans f2,(aaK HW.out _).drew.trans l2⟩
 · have k0:s.op.length=0:=by rw[Decidable.not_not.1 k1];rfl
   rw[if_neg k1];rw[k0] at CD;cases bk
   · rw[if_neg (fun e=>by cases e)];clear h;go_enter Tryz.func34,Tryz.ntmps34;go_wp2_with fail;refine CD.out.mono ?_;rintro e w1 ⟨rfl,rfl⟩;go_wp2;go_ret;exact⟨rfl,⟨_,by rw[agf s he];exact HR.out⟩,aaz _ _,aaK HW.out _⟩
   · rw[if_pos rfl];clear h;go_enter Tryz.func34,Tryz.ntmps34;go_wp2_with fail;refine CD.out.mono ?_;rintro e w1 ⟨rfl,rfl⟩;go_wp2;go_ret;exact⟨rfl,⟨_,by rw[acV s he];exact HR.out⟩,aaz _ _,aaK HW.out _⟩
theorem ahQ {e:TypeId}{z n:Nat}{v:Value}{xs:List Value}(h:w.ownsRow B e z v n xs)(he:w'.heap=w.heap):w'.ownsRow B e z v n xs:=by
 unfold World.ownsRow at *;rw[he];exact h
theorem RW.heap (h:RW B rb vw vo es s w)(he:w'.heap=w.heap):RW B rb vw vo es s w':=
 ⟨h.lo,by rw[he];exact h.blk,ahQ h.wt he,h.eq,ahQ h.op he,fun x hx=>ahQ (h.own x hx) he,by rw[he];exact h.siz⟩
def axe (B:Nat)(s:St)(w:World)(e:Ending)(w':World):Prop:=∃ v,e=.returned v∧Nz.Sc.agQ 164 w' B v (acI s)∧Below w.heap.size w w'
theorem apu {W:World}(hB:B≤W.heap.size):Nz.Sc.agQ 164 (W.alloc (.cells #[.string Nz.Sc.xm,.string Nz.Sc.XS] 164)) B (.slice (some ⟨W.heap.size,0,none⟩) 1 1) ajl:=
 ⟨rfl,.inr ⟨W.heap.size,1,_,rfl,hB,Nz.Sc.abJ W 164 _,Nat.le_refl _,by decide,rfl,rfl⟩⟩
theorem RW.inn (h:RW B rb vw vo es s w){n:Nat}(hn:s.op.length=n+1):∃ g c x,vo=.slice (some ⟨g,0,none⟩) (n+1) c∧s.op.getLast?=some x.1∧w.cell? ⟨g,n * 2,none⟩=some (.string x.1.1)∧w.cell? ⟨g,n * 2+1,none⟩=some x.2∧Nz.Sc.agQ 164 w B x.2 x.1.2∧es[n]?=some x:=by
 have hl:=h.len;have ho:=h.op;rw[hl,hn] at ho;obtain⟨g,c,hv⟩:=Nz.Sc.aaU ho;have hlt:n < es.length:=(by omega);have hx:=List.getElem?_eq_getElem hlt;refine⟨g,c,es[n],hv,?_,?_,?_,h.own _ (List.getElem_mem _),hx⟩
 · rw[← h.eq,List.getLast?_map,List.getLast?_eq_getElem?,show es.length - 1=n by omega,hx];rfl
 · rw[hv] at ho;exact(ho.cellAt (n * 2) (by omega)).trans (arK es n 0 _ hx (by omega))
 · rw[hv] at ho;exact(ho.cellAt (n * 2+1) (by omega)).trans (arK es n 1 _ hx (by omega))
theorem aeT (h:RW B rb vw vo es s w)(hd:s.op.length≤64):Calls Tryz.prog 50 #[.pointer (some ⟨rb,0,none⟩)] w (axe B s w):=by
 have HW:=aac h;have CD:=aac (aaI h);unfold axe acI;by_cases k1:s.op=[]
 · have k0:s.op.length=0:=by rw[k1];rfl
   rw[k0] at CD;rw[k1];have CN:=aac (Nz.Sc.akl w);clear h;go_enter Tryz.func50,Tryz.ntmps50;go_wp2_with fail;refine CD.out.mono ?_;rintro e w1 ⟨rfl,rfl⟩;go_wp2_with fail;refine CN.out.mono ?_;rintro e w1 ⟨rfl,rfl⟩;go_wp2;go_ret;exact⟨_,rfl,apu HW.out.siz,(Below.refl _ w).alloc (Nat.le_refl _) _⟩
 · have k0:0 < s.op.length:=List.length_pos_iff.2 k1;obtain⟨n,hn⟩:∃ n,s.op.length=n+1:=⟨s.op.length - 1,by omega⟩;obtain⟨g,c,x,rfl,hx,x0,x1,ho,_⟩:=h.inn hn;rw[hx];obtain⟨⟨xn,xl⟩,xv⟩:=x;dsimp only at x0 x1 ho hx ⊢;have HO:=aac ho;have c1:=h.c1;rw[hn] at CD
   have CQ:Hid (∀ W,W.heap=w.heap→Calls Tryz.prog 47 #[.pointer (some ⟨rb,0,none⟩)] W fun e w'=>e=.returned (.int .i64 ((n+1:Nat):Int))∧w'=W):=aac (fun W hW=>by
    have:=aaI (h.heap hW);rw[hn] at this;exact this.mono fun e w' ⟨h1,h2⟩=>⟨h1,h2.symm⟩)
   obtain⟨A,m,k,rfl⟩:=ais ho;have d0:¬ (((n+1:Nat):Int) == 0)=true:=by simp;omega
   clear h ho hx k0 k1;go_enter Tryz.func50,Tryz.ntmps50;go_wp2_with fail;refine CD.out.mono ?_;rintro e w1 ⟨rfl,rfl⟩;go_wp2_with fail;go_quiet ((go_at_call 47;exact Calls.quiet_of_same (CQ.out _ rfl)));go_wp2;go_ret;exact⟨_,rfl,HO.out,below_drewN (Below.refl _ _) _⟩
end
end Go.Proofs.YtiaebhomfebagaaGreatDoor.Wl
namespace Go.Proofs.YtiaebhomfebagaaGreatDoor.Wl
open Go.RowKit
section
variable {B rb:Nat} {vw vo:Value} {es:List OpP} {s:St} {w w':World}
theorem Tryz.a0C:∀ w,(zeroValue 106).run Tryz.prog w=.ok (.agg #[.string ⟨#[]⟩,.slice none 0 0]) w:=fun w=>by kernel_rfl
theorem ahc {w:World}{a b:Value}(g o c:Nat)(h0:w.cell? ⟨g,o,none⟩=some a)(h1:w.cell? ⟨g,o+1,none⟩=some b)(f0:w.frozen? ⟨g,o,none⟩=false)(f1:w.frozen? ⟨g,o+1,none⟩=false):
 (Builtin.clear_ #[60] 0 #[.slice (some ⟨g,o,none⟩) 1 c]).run Tryz.prog w=.ok (.tuple #[]) ((w.setCell ⟨g,o,none⟩ (.string ⟨#[]⟩)).setCell ⟨g,o+1,none⟩ (.slice none 0 0)):=by
 have hst:=run_storeCells_cells (P:=Tryz.prog) g o [.string ⟨#[]⟩,.slice none 0 0] 0 w (fun j hj=>by
  have hj':j=0∨j=1:=by simp at hj;omega
  rcases hj' with rfl | rfl
  · rw[show o+0=o from rfl,h0];rfl
  · rw[h1];rfl) (fun j hj=>by
  have hj':j=0∨j=1:=by simp at hj;omega
  rcases hj' with rfl | rfl
  · exact f0
  · exact f1) (by intro v hv;simp only[List.mem_cons,List.not_mem_nil,or_false] at hv;rcases hv with rfl | rfl <;> rfl)
 have hz:(Builtin.zeroCells (Value.agg #[.string ⟨#[]⟩,.slice none 0 0]).cells 1).toList=[.string ⟨#[]⟩,.slice none 0 0]:=(by kernel_rfl);simp only[Nat.add_zero] at hst;simp[Builtin.clear_,run_underlying Tryz.underlying60,Tryz.a0C,hz,hst];rfl
theorem aoG (g n c:Nat)(a b:Value)(w:World)(hn:n≤64)(hc:n+1≤c)(hm:c≤maxLen)(h0:w.cell? ⟨g,n * 2,none⟩=some a)(h1:w.cell? ⟨g,n * 2+1,none⟩=some b)(f0:w.frozen? ⟨g,n * 2,none⟩=false)(f1:w.frozen? ⟨g,n * 2+1,none⟩=false):
 Calls Tryz.prog 53 #[.slice (some ⟨g,0,none⟩) (n+1) c,.int .i64 (n:Int),.int .i64 ((n:Int)+1)] w fun e w'=>e=.returned (.slice (some ⟨g,0,none⟩) n c)∧w'=((w.drew.setCell ⟨g,n * 2,none⟩ (.string ⟨#[]⟩)).setCell ⟨g,n * 2+1,none⟩ (.slice none 0 0)):=by
 have d0:(0:Int)≤(n:Int):=(by omega);have d1:(n:Int)≤(n:Int)+1:=(by omega);have d2:(0:Int)≤(n:Int)+1:=(by omega);have d3:((n:Int) == (n:Int)+1)=false:=by rw[beq_eq_false_iff_ne];omega
 have d4:(n:Int)+1≤(c:Int):=(by omega);have d5:(n:Int)≤(c:Int):=(by omega);have d6:((n:Int)+1).toNat=n+1:=(by omega);have d7:n≤c:=(by omega);unfold maxLen at hm;by_cases hcc:c=n+1
 · subst hcc;have q0:n+1 - n=1:=(by omega);go_enter Tryz.func53,Tryz.ntmps53;go_wp2_with fail;go_region;have hcl:=ahc (w:=w.drew) g (n * 2) 1 h0 h1 f0 f1;go_wp2;go_ret;exact⟨rfl,rfl⟩
 · go_enter Tryz.func53,Tryz.ntmps53;go_wp2_with fail;go_region;have hcl:=ahc (w:=w.drew) g (n * 2) (c - n) h0 h1 f0 f1;go_wp2;go_ret;exact⟨rfl,rfl⟩
theorem abg {W:World}{b j:Nat}{x:Value}{k:Nat}(hk:k≠b):(W.setCell ⟨b,j,none⟩ x).heap[k]?=W.heap[k]?:=Below.heap_setCell _ _ _ _ (fun e=>hk e)
theorem RW.strike (h:RW B rb vw vo es s w){n:Nat}(hn:s.op.length=n+1){g c:Nat}(hv:vo=.slice (some ⟨g,0,none⟩) (n+1) c)(W:World)(hW:W.heap=((w.setCell ⟨g,n * 2,none⟩ (.string ⟨#[]⟩)).setCell ⟨g,n * 2+1,none⟩ (.slice none 0 0)).heap):
 W.heap[rb]?=some (.cells #[vw,vo,.bool s.root,.bool s.over,.int .i64 s.err] 62 (0,0))∧RW B rb vw (.slice (some ⟨g,0,none⟩) n c) es.dropLast { s with op:=s.op.dropLast } (W.setCell ⟨rb,1,none⟩ (.slice (some ⟨g,0,none⟩) n c))∧Frm w (W.setCell ⟨rb,1,none⟩ (.slice (some ⟨g,0,none⟩) n c))∧W.heap.size=w.heap.size∧(∀ k,k≠g→W.heap[k]?=w.heap[k]?)∧B≤g:=by
 have hl:=h.len;have ho:=h.op;rw[hl,hn,hv] at ho;obtain⟨hx,h2⟩:=ho;rcases h2 with ⟨h2,_⟩ | ⟨g',cap,cur,e,hB,hh,h3,h4,h5,h6⟩
 · cases h2
 injection e with e1 e2 e3
 injection e1 with e1
 injection e1 with e1
 subst e1 e3
 have hne:rb≠g:=by
  rintro rfl;have:=h.blk;rw[hh] at this;injection this with this
  injection this with _ q _
  exact absurd q (by decide)
 have hsz:W.heap.size=w.heap.size:=by rw[hW];simp[World.setCell]
 have hk:∀ k,k≠g→W.heap[k]?=w.heap[k]?:=fun k hk=>by
  rw[hW,abg hk,abg hk]
 have hg:W.heap[g]?=some (.cells ((cur.set! (n * 2) (.string ⟨#[]⟩)).set! (n * 2+1) (.slice none 0 0)) 106 (0,0)):=by
  rw[hW,abF (abF hh)]
 have hf1:Frm w W:=fun k cs T fr hc t1 t2 t3=>by
  rw[hk k ?_]
  · exact hc
  · rintro rfl;rw[hh] at hc;injection hc with hc
    injection hc with _ q _
    exact t3 q.symm
 have b2:W.heap[rb]?=_:=(hk rb hne).trans h.blk;have hf2:=Frm.set b2 (.inr (.inl rfl)) 1 (.slice (some ⟨g,0,none⟩) n c)
 have keep:∀ {e:TypeId} {z m:Nat} {v:Value} {xs:List Value},w.ownsRow B e z v m xs→e≠106→W.ownsRow B e z v m xs:=fun {e z m v xs} q he=>by
  refine⟨q.1,?_⟩;rcases q.2 with q | ⟨g2,cap2,cur2,rfl,qB,qh,qr⟩
  · exact .inl q
  · refine .inr ⟨g2,cap2,cur2,rfl,qB,?_,qr⟩;rw[hk g2 ?_]
    · exact qh
    · rintro rfl;rw[hh] at qh;injection qh with qh
      injection qh with _ q _
      exact he q.symm
 have hel:es.dropLast.length=n:=by rw[List.length_dropLast];omega
 refine⟨b2,⟨h.lo,by rw[abF b2];rfl,Wl.aar (keep h.wt (by decide)) b2 (by decide) 1 _,?_,?_,fun x hx=>Wl.aar (keep (h.own x (List.dropLast_subset _ hx)) (by decide)) b2 (by decide) 1 _,by simp[World.setCell];rw[hsz];exact h.siz⟩,hf1.trans hf2,hsz,hk,hB⟩
 · rw[List.map_dropLast,h.eq]
 · refine Wl.aar ?_ b2 (by decide) 1 _;rw[hel];refine⟨by rw[arA,hel],.inr ⟨g,c,_,rfl,hB,hg,by omega,h4,by simpa using h5,?_⟩⟩;have hlen:n * 2≤cur.toList.length:=by rw[Array.length_toList,h5];omega
   have h7:cur.toList.take (n * 2)=opL es.dropLast:=by
    have:es=es.dropLast++[es[n]'(by omega)]:=by
     have hne':es≠[]:=fun e=>by rw[e] at hl;simp at hl;omega
     conv=>lhs;rw[← List.dropLast_concat_getLast hne']
     congr 2
     rw[List.getLast_eq_getElem]
     congr 1
     omega
    have q:=congrArg (List.take (n * 2)) h6;rw[List.take_take,Nat.min_eq_left (by omega)] at q;rw[q]
    conv=>lhs;rw[this]
    rw[aqM,List.take_left' (by rw[arA,hel])]
   rw[← h7];simp only[Array.set!_eq_setIfInBounds,Array.toList_setIfInBounds];rw[List.take_set_of_le (by omega),List.take_set_of_le (by omega)]
theorem Tryz.info54:(Tryz.prog.info? 54).map (fun i=>(i.zero,i.size,i.bytes))=some (some (.agg #[.int .i64 0,.string ⟨#[]⟩,.string ⟨#[]⟩,.slice none 0 0,.string ⟨#[]⟩]),5,80):=by kernel_rfl
theorem aoP {W w2:World}{B:Nat}{v v' va:Value}{xs:List EvP}{l:List Ev}{x:Ev}(hl:xs.map (·.1)=l)(ho:W.ownsRow B 54 5 v xs.length (evL xs))(hO:EvO W B xs)(ha:Nz.Sc.apz W B va (a2c x))(hg:W.grownBy w2 v.ownBlock)(hn:w2.ownsRow B 54 5 v' (xs.length+1) (evL xs++evC (x,va))):abv w2 B v' (l++[x]):=by
 refine⟨xs++[(x,va)],by rw[List.map_append,hl];rfl,?_,?_⟩
 · rw[aqY,List.length_append];exact hn
 · refine(hO.grown ho hg (by decide)).app fun y hy=> ?_;rw[List.mem_singleton] at hy;subst hy;exact abB ha ho hg (by decide)
theorem RW.grown {W w2:World}(h:RW B rb vw vo es s W){B' z n:Nat}{v:Value}{xs:List Value}(ho:W.ownsRow B' 54 z v n xs)(hg:W.grownBy w2 v.ownBlock):RW B rb vw vo es s w2:=
 ⟨h.lo,(hg.block rb h.lt (fun e=>Nz.Sc.own_ne ho h.blk (by decide) e.symm)).trans h.blk,abB h.wt ho hg (by decide),h.eq,abB h.op ho hg (by decide),fun x hx=>abB (h.own x hx) ho hg (by decide),Nat.le_trans h.siz hg.size⟩
theorem Frm.fresh {W w2:World}(h:Frm w W)(hs:w.heap.size≤W.heap.size){e:TypeId}{z n:Nat}{v:Value}{xs:List Value}(ho:W.ownsRow w.heap.size e z v n xs)(hg:W.grownBy w2 v.ownBlock):Frm w w2:=fun k cs T fr hk h1 h2 h3=>by
 have hlt:=(Array.getElem?_eq_some_iff.1 hk).1;refine(hg.block k (by omega) ?_).trans (h k cs T fr hk h1 h2 h3);intro e;have:=(World.ownsRow.lt ho k e.symm).1;omega
def TkP (B rb:Nat)(x:St × List Ev × Int)(st:St)(w:World)(e:Ending)(w':World):Prop:=
 ∃ v,e=.returned (.tuple #[v,.int .i64 x.2.2])∧abv w' w.heap.size v x.2.1∧RS B rb st w'∧Frm w w'∧Below B w w'
theorem aeg {x:St × List Ev × Int}{c:Int}(hx:x=bad s c)(he:s.err=0)(h:RW B rb vw vo es s w')(hf:Frm w w')(hb:Below B w w'):TkP B rb x (clr x.1) w (.returned (.tuple #[.slice none 0 0,.int .i64 c])) w':=by
 subst hx;exact⟨_,rfl,abv.nil _ _,⟨vw,vo,es,by rw[agf s he];exact h⟩,hf,hb⟩
theorem akt {α:Type}{l:List α}(h:l=[]):l.getLast?=none:=by rw[h];rfl
theorem a1X (h:RW B rb vw vo es s w)(he:s.err=0)(k:Int)(m:ByteArray)(em bk:Bool)(hn:s.op=[]):
 Calls Tryz.prog 33 #[.pointer (some ⟨rb,0,none⟩),.agg #[.int .i64 k,.string m,.bool em,.bool bk]] w (TkP B rb (afr s ⟨k,m,em,bk⟩) (clr (afr s ⟨k,m,em,bk⟩).1) w):=by
 have HW:=aac h;have HR:=aac (h.box (.cells #[.int .i64 k,.string m,.bool em,.bool bk] 44));have CD:=aac (aaI HR.out);have HX:Hid (afr s ⟨k,m,em,bk⟩=bad s 10):=aac (by unfold afr inner;rw[akt hn];rfl);have k0:s.op.length=0:=by rw[hn];rfl
 rw[k0] at CD;clear h hn;generalize afr s ⟨k,m,em,bk⟩=x at *;go_enter Tryz.func33,Tryz.ntmps33;go_wp2_with fail;refine CD.out.mono ?_;rintro e w1 ⟨rfl,rfl⟩;go_wp2_with fail;go_quiet (fail);go_wp2;go_ret2;exact aeg HX.out he (HR.out.heap rfl) (aaz w _) (below_drewN (aaK HW.out _) _)
theorem a4o (h:RW B rb vw vo es s w)(he:s.err=0)(k:Int)(m:ByteArray)(em bk:Bool)(n:Nat)(hn:s.op.length=n+1)(hd:n≤64)(hne:inner s≠some m):
 Calls Tryz.prog 33 #[.pointer (some ⟨rb,0,none⟩),.agg #[.int .i64 k,.string m,.bool em,.bool bk]] w (TkP B rb (afr s ⟨k,m,em,bk⟩) (clr (afr s ⟨k,m,em,bk⟩).1) w):=by
 have HW:=aac h;have HR:=aac (h.box (.cells #[.int .i64 k,.string m,.bool em,.bool bk] 44));have CD:=aac (aaI HR.out);have HX:Hid (afr s ⟨k,m,em,bk⟩=bad s 10):=aac (by unfold afr;rw[if_neg hne]);obtain⟨g,c,x,rfl,hx,x0,x1,ho,_⟩:=HR.out.inn hn;have c1:=HR.out.c1;rw[hn] at CD;have q1:IntKind.i64.wrap (((n+1:Nat):Int) - 1)=(n:Int):=by rw[IntWalk.i64_in _ (by omega)];omega
 have q2:(x.1.1.toList != m.toList)=true:=by
  rw[bne_iff_ne];intro e;apply hne;unfold inner;rw[hx,← Nz.Sc.toList_inj e];rfl
 have q3:(x.1.1.toList == m.toList)=false:=by rw[← Bool.not_eq_true,beq_iff_eq];exact bne_iff_ne.1 q2
 have d1:¬ (n:Int) < 0:=(by omega);have d2:(0:Int)≤(n:Int):=(by omega);have d3:(n:Int) < (n:Int)+1:=(by omega);have d4:n < n+1:=(by omega);clear h hne hx ho x1;generalize x.1.1=xn at *;generalize afr s ⟨k,m,em,bk⟩=y at *;go_enter Tryz.func33,Tryz.ntmps33;go_wp2_with fail;refine CD.out.mono ?_;rintro e w1 ⟨rfl,rfl⟩;go_wp2_with fail;go_quiet (fail);go_wp2;go_ret2;exact aeg HX.out he (HR.out.heap rfl) (aaz w _) (below_drewN (aaK HW.out _) _)
theorem RW.cap (h:RW B rb vw vo es s w){n g c:Nat}(hn:s.op.length=n+1)(hv:vo=.slice (some ⟨g,0,none⟩) (n+1) c):n+1≤c∧c≤maxLen∧B≤g∧∀ j,w.frozen? ⟨g,j,none⟩=false:=by
 have ho:=h.op;rw[h.len,hn,hv] at ho;rcases ho.2 with ⟨h2,_⟩ | ⟨g',cap,cur,e,hB,hh,h3,h4,h5,h6⟩
 · cases h2
 injection e with e1 e2 e3
 injection e1 with e1
 injection e1 with e1
 subst e1 e3;exact⟨h3,h4,hB,fun j=>Lib.frozen_of_heap hh j⟩
theorem apg:∀ u∈([.int .i64 3,.string ⟨#[]⟩,.string ⟨#[]⟩,.slice none 0 0,.string ⟨#[]⟩]:List Value),u.oneCell'=true:=aky (x:=(.cls,.slice none 0 0)) ⟨_,_,_,rfl⟩
theorem aiA (u:ByteArray):(aaH u).length≤1:=by unfold aaH;split <;> simp
theorem ayK (h:RW B rb vw vo es s w)(he:s.err=0)(k:Int)(m:ByteArray)(em bk:Bool)(n:Nat)(hn:s.op.length=n+1)(hd:n≤64)(hne:inner s=some m):
 Calls Tryz.prog 33 #[.pointer (some ⟨rb,0,none⟩),.agg #[.int .i64 k,.string m,.bool em,.bool bk]] w (TkP B rb (afr s ⟨k,m,em,bk⟩) (clr (afr s ⟨k,m,em,bk⟩).1) w):=by
 obtain⟨i0,hi,hz0,hz1,hz2⟩:=info_parts Tryz.info54;have HW:=aac h;have HR:=aac (h.box (.cells #[.int .i64 k,.string m,.bool em,.bool bk] 44));have CD:=aac (aaI HR.out);have HX:Hid (afr s ⟨k,m,em,bk⟩=({ s with wait:=Nz.em,op:=s.op.dropLast },aaH s.wait++[.cls],0)):=aac (by unfold afr;rw[if_pos hne]);obtain⟨g,c,x,rfl,hx,x0,x1,ho,_⟩:=HR.out.inn hn;obtain⟨z1,z2,z3,z4⟩:=HR.out.cap hn rfl;have c1:=HR.out.c1;rw[hn] at CD;have q1:IntKind.i64.wrap (((n+1:Nat):Int) - 1)=(n:Int):=by rw[IntWalk.i64_in _ (by omega)];omega
 have q4:IntKind.i64.wrap ((n:Int)+1)=(n:Int)+1:=by rw[IntWalk.i64_in _ (by omega)]
 have q3:(x.1.1.toList == m.toList)=true:=by
  unfold inner at hne;rw[hx] at hne;injection hne with hne
  have hne':x.1.1=m:=hne;rw[hne',beq_self_eq_true]
 have q2:(x.1.1.toList != m.toList)=false:=by rw[← Bool.not_eq_true,bne_iff_ne,Decidable.not_not];exact beq_iff_eq.1 q3
 have d1:¬ (n:Int) < 0:=(by omega);have d2:(0:Int)≤(n:Int):=(by omega);have d3:(n:Int) < (n:Int)+1:=(by omega);have d4:n < n+1:=by omega
 have KD:Hid (∀ W:World,W.heap=(w.alloc (.cells #[.int .i64 k,.string m,.bool em,.bool bk] 44)).heap→Calls Tryz.prog 53 #[.slice (some ⟨g,0,none⟩) (n+1) c,.int .i64 (n:Int),.int .i64 ((n:Int)+1)] W fun e w'=>e=.returned (.slice (some ⟨g,0,none⟩) n c)∧w'=((W.drew.setCell ⟨g,n * 2,none⟩ (.string ⟨#[]⟩)).setCell ⟨g,n * 2+1,none⟩ (.slice none 0 0))):=
  aac fun W hW=>aoG g n c (.string x.1.1) x.2 W hd z1 z2 (by unfold World.cell?;rw[hW];exact x0) (by unfold World.cell?;rw[hW];exact x1) (by unfold World.frozen?;rw[hW];exact z4 _) (by unfold World.frozen?;rw[hW];exact z4 _)
 have KS:Hid (∀ W:World,W.heap=(w.alloc (.cells #[.int .i64 k,.string m,.bool em,.bool bk] 44)).heap→_):=aac fun W hW=>HR.out.strike hn rfl ((W.drew.setCell ⟨g,n * 2,none⟩ (.string ⟨#[]⟩)).setCell ⟨g,n * 2+1,none⟩ (.slice none 0 0)) (show ((W.drew.setCell ⟨g,n * 2,none⟩ (.string ⟨#[]⟩)).setCell ⟨g,n * 2+1,none⟩ (.slice none 0 0)).heap=_ by simp[World.setCell,World.drew,hW]);clear h hne hx ho;generalize x.1.1=xn at *;generalize afr s ⟨k,m,em,bk⟩=y at *;go_enter Tryz.func33,Tryz.ntmps33;go_wp2_with fail;refine CD.out.mono ?_;rintro e w1 ⟨rfl,rfl⟩;go_wp2_with fail;go_quiet (fail);go_wp2_with fail;have KD1:=aac (KD.out ((w.alloc (.cells #[.int .i64 k,.string m,.bool em,.bool bk] 44)).drewN nq) rfl);have KS1:=KS.out ((w.alloc (.cells #[.int .i64 k,.string m,.bool em,.bool bk] 44)).drewN nq) rfl;have HB1:=aac (below_drewN (aaK HW.out (.cells #[.int .i64 k,.string m,.bool em,.bool bk] 44)) nq);have HF1:=aac (show Frm w ((w.alloc (.cells #[.int .i64 k,.string m,.bool em,.bool bk] 44)).drewN nq) from aaz w _);clear KD KS x0 x1;generalize (w.alloc (.cells #[.int .i64 k,.string m,.bool em,.bool bk] 44)).drewN nq=W at *;refine KD1.out.mono ?_;rintro e w2 ⟨rfl,rfl⟩;obtain⟨b2,r2,f2,n2,o2,g2⟩:=KS1;have d5:((W.drew.setCell ⟨g,n * 2,none⟩ (.string ⟨#[]⟩)).setCell ⟨g,n * 2+1,none⟩ (.slice none 0 0)).cell? ⟨rb,1,none⟩=some (.slice (some ⟨g,0,none⟩) (n+1) c):=by rw[Lib.cell_of_heap b2];rfl
 have f5:((W.drew.setCell ⟨g,n * 2,none⟩ (.string ⟨#[]⟩)).setCell ⟨g,n * 2+1,none⟩ (.slice none 0 0)).frozen? ⟨rb,1,none⟩=false:=Lib.frozen_of_heap b2 1;have HR2:=aac r2;have HF2:=aac ((aaz w (.cells #[.int .i64 k,.string m,.bool em,.bool bk] 44)).trans f2);have HB2:=aac (((HB1.out.drew.setCell (p:=⟨g,n * 2,none⟩) z3 (.string ⟨#[]⟩)).setCell (p:=⟨g,n * 2+1,none⟩) z3 (.slice none 0 0)).setCell (p:=⟨rb,1,none⟩) HW.out.lo (.slice (some ⟨g,0,none⟩) n c));have CT:=aac (ahE r2);clear b2 r2 f2 n2 o2 KD1 HR CD;generalize hV:(W.drew.setCell ⟨g,n * 2,none⟩ (.string ⟨#[]⟩)).setCell ⟨g,n * 2+1,none⟩ (.slice none 0 0)=V at *;clear hV;go_wp2_with fail;refine CT.out.mono ?_;rintro e w3 ⟨v3,vw3,rfl,e3,r3,f3,l3⟩;have CC:=aac (ahd w3);go_wp2_with fail;refine CC.out.mono ?_;rintro e w4 ⟨rfl,b4⟩;obtain⟨ts,t1,t2,t3⟩:=e3;have tl:=aiA s.wait;rw[← t1,List.length_map] at tl;have hs2:w.heap.size≤(V.setCell ⟨rb,1,none⟩ (.slice (some ⟨g,0,none⟩) n c)).heap.size:=HB2.out.size;have hA:=(Below.refl w4.heap.size w4).alloc (Nat.le_refl _) (.cells #[.int .i64 3,.string ⟨#[]⟩,.string ⟨#[]⟩,.slice none 0 0,.string ⟨#[]⟩] 54);have b5:Below w3.heap.size w3 (w4.alloc (.cells #[.int .i64 3,.string ⟨#[]⟩,.string ⟨#[]⟩,.slice none 0 0,.string ⟨#[]⟩] 54)):=b4.trans (hA.mono b4.size);have ho5:=aam (Nz.Sc.aaj t2 b5) hs2;have hO5:=aac ((t3.frm (Frm.of_below b5)).mono hs2);have R5:=aac (r3.after b5);have F5:=aac ((HF2.out.trans f3).trans (Frm.of_below b5));have L5:=aac ((HB2.out.trans l3).trans (b5.mono (Nat.le_trans HW.out.siz (Nat.le_trans HB2.out.size l3.size))));have hnew:=aac (Nz.Sc.abN w4 #[.int .i64 3,.string ⟨#[]⟩,.string ⟨#[]⟩,.slice none 0 0,.string ⟨#[]⟩] 54);have hz5:w.heap.size≤(w4.alloc (.cells #[.int .i64 3,.string ⟨#[]⟩,.string ⟨#[]⟩,.slice none 0 0,.string ⟨#[]⟩] 54)).heap.size:=L5.out.size;have HT:=aac t1;obtain⟨A3,c3,rfl⟩:=Nz.Sc.aai t2;obtain⟨nt,hnt⟩:∃ nt,nt=ts.length:=⟨_,rfl⟩;have HNT:=aac hnt;rw[← hnt] at tl ho5 ⊢;clear t1 t2 t3 hnt b4 b5 hA f3 l3 r3 CT CC HR2 HF2 HB2 HB1 HF1;go_wp2_with (at_builtin;refine wpList_append_own _ rfl _ _ 23 rfl w.heap.size 54 i0 (.agg #[.int .i64 0,.string ⟨#[]⟩,.string ⟨#[]⟩,.slice none 0 0,.string ⟨#[]⟩]) 5 80 Tryz.underlying23 hi hz0 hz1 hz2 rfl (by decide) _ nt (evL ts) rfl ho5 ⟨w4.heap.size,0,none⟩ 1 1 [.int .i64 3,.string ⟨#[]⟩,.string ⟨#[]⟩,.slice none 0 0,.string ⟨#[]⟩] rfl rfl hnew.out apg (by unfold maxLen;omega) (by omega) hz5 ?_);intro v' w5 hown' hgrow _;obtain⟨g',cap',rfl⟩:=Nz.Sc.aaU hown';rw[HNT.out] at ho5 hown' hgrow;have he6:=aoP (x:=.cls) (va:=.slice none 0 0) HT.out ho5 hO5.out (aiu _ _) hgrow hown';rw[← HNT.out] at he6;have HE:=aac he6;have HR6:=aac (R5.out.grown ho5 hgrow);have HF6:=aac (F5.out.fresh hz5 ho5 hgrow);have HL6:=aac (L5.out.grown hgrow (Nat.le_trans HW.out.siz hz5) (fun j hj=>Nat.le_trans HW.out.siz (World.ownsRow.lt ho5 j hj).1));clear he6 ho5 hO5 hown' hgrow R5 F5 L5 hnew;go_wp2;go_ret2;refine⟨_,by rw[HX.out];rfl,by rw[HX.out];exact HE.out,?_,HF6.out,HL6.out⟩;rw[HX.out];exact⟨_,_,_,(acV { s with wait:=Nz.em,op:=s.op.dropLast } he).symm ▸ HR6.out⟩
end
end Go.Proofs.YtiaebhomfebagaaGreatDoor.Wl
namespace Go.Proofs.YtiaebhomfebagaaGreatDoor.Wl
open Go.RowKit
structure Gd (s:St):Prop where
 dep:s.op.length≤64
 len:∀ (k:Nat) (x:ByteArray × List Pr),s.op[k]?=some x→x.2.length≤1+32 * (k+1)∧Nz.Sc.aeA x.2
theorem gd0:Gd st0:=⟨by decide,fun k x h=>by simp[st0] at h⟩
theorem a6r:Nz.Sc.aeA ajl:=by
 intro x hx;unfold ajl at hx;rw[List.mem_singleton] at hx;subst hx;exact⟨by decide,by decide⟩
theorem Gd.scp {s:St}(h:Gd s):(acI s).length≤1+32 * s.op.length∧Nz.Sc.aeA (acI s):=by
 unfold acI
 cases hl:s.op.getLast? with
 | none=>exact⟨by show 1≤_;omega,a6r⟩
 | some x=>
   rw[List.getLast?_eq_getElem?] at hl;have:=h.len _ _ hl;have hlt:=(List.getElem?_eq_some_iff.1 hl).1;exact⟨by show x.2.length≤_;omega,this.2⟩
theorem aiH {u:ByteArray}(h:(Tg.aaE u).1=0)(hu:u.size≤2000000000):(Tg.aaE u).2.1.size≤2000000000∧(Tg.aaE u).2.2.length≤32∧Nz.Sc.aeA (Tg.aaE u).2.2∧∀ x∈(Tg.aaE u).2.2,x.1.size≤2000000000:=by
 obtain⟨h1,h2,h3⟩:=Tg.ayx u h;refine⟨by omega,h1.2.1,fun x hx=> ?_,fun x hx=>by have:=(h3 x hx).1;omega⟩;have:=h3 x hx;unfold Nz.Sc.Lim;omega
section
variable {B rb:Nat} {vw vo:Value} {es:List OpP} {s:St} {w w':World}
theorem aum (h:RW B rb vw vo es s w)(he:s.err=0)(k:Int)(m:ByteArray)(em bk:Bool)(hr:s.root=true)(hn:s.op=[]):
 Calls Tryz.prog 32 #[.pointer (some ⟨rb,0,none⟩),.agg #[.int .i64 k,.string m,.bool em,.bool bk]] w (TkP B rb (aan s ⟨k,m,em,bk⟩) (clr (aan s ⟨k,m,em,bk⟩).1) w):=by
 have HW:=aac h;have HR:=aac (h.box (.cells #[.int .i64 k,.string m,.bool em,.bool bk] 44));have CD:=aac (aaI HR.out);have HX:Hid (aan s ⟨k,m,em,bk⟩=bad s 11):=aac (by unfold aan;rw[if_pos ⟨hr,hn⟩]);have c2:=HR.out.c2;rw[hr] at c2;have k0:s.op.length=0:=by rw[hn];rfl
 rw[k0] at CD;clear h hn;generalize aan s ⟨k,m,em,bk⟩=x at *;go_enter Tryz.func32,Tryz.ntmps32;go_wp2_with fail;refine CD.out.mono ?_;rintro e w1 ⟨rfl,rfl⟩;go_wp2;go_ret2;exact aeg HX.out he HR.out (aaz w _) (aaK HW.out _)
theorem RW.call (h:RW B rb vw vo es s w)(hb:Below w.heap.size w w'):Below B w w':=hb.mono h.siz
theorem arE (h:RW B rb vw vo es s w)(hG:Gl w)(he:s.err=0)(k:Int)(m:ByteArray)(em bk:Bool)(hm:m.size≤2000000000)(hd:s.op.length≤64)(hr:¬ (s.root=true∧s.op=[]))(hp:(Tg.aaE m).1≠0):
 Calls Tryz.prog 32 #[.pointer (some ⟨rb,0,none⟩),.agg #[.int .i64 k,.string m,.bool em,.bool bk]] w (TkP B rb (aan s ⟨k,m,em,bk⟩) (clr (aan s ⟨k,m,em,bk⟩).1) w):=by
 have HW:=aac h;have HR:=aac (h.box (.cells #[.int .i64 k,.string m,.bool em,.bool bk] 44));have CD:=aac (aaI HR.out);have HX:Hid (aan s ⟨k,m,em,bk⟩=bad s (Tg.aaE m).1):=aac (by unfold aan;rw[if_neg hr,if_pos hp]);have CP:=aac (Tg.adN m (w.alloc (.cells #[.int .i64 k,.string m,.bool em,.bool bk] 44)) (hG.alloc _).vars (by omega));have c2:=HR.out.c2;have t1:((Tg.aaE m).1 != 0)=true:=bne_iff_ne.2 hp
 have hq:s.root=true→((s.op.length:Int) == 0)=false:=fun e=>by
  rw[beq_eq_false_iff_ne];intro e2;exact hr ⟨e,List.eq_nil_of_length_eq_zero (by omega)⟩
 clear h hp hr hG;generalize aan s ⟨k,m,em,bk⟩=y at *;generalize s.op.length=n at *;generalize Tg.aaE m=q at *;obtain⟨er,pn,pa⟩:=q;dsimp only at t1 HX;cases hroot:s.root
 · rw[hroot] at c2;go_enter Tryz.func32,Tryz.ntmps32;go_wp2_with fail;refine CP.out.mono ?_;rintro e w1 ⟨v,rfl,ho,hb⟩;obtain⟨A2,m2,k2,rfl⟩:=ais ho;have HR1:=aac (HR.out.after hb);have HB1:=aac ((aaK HW.out (.cells #[.int .i64 k,.string m,.bool em,.bool bk] 44)).trans (HR.out.call hb));have HF1:=aac ((aaz w (.cells #[.int .i64 k,.string m,.bool em,.bool bk] 44)).trans (Frm.of_below hb));clear hb ho CP CD c2 HR;dsimp only;go_wp2;go_ret2;exact aeg HX.out he (HR1.out.box _) (HF1.out.trans (aaz w1 _)) (HB1.out.trans (aaK HR1.out _))
 · rw[hroot] at c2;have hq1:=hq hroot;go_enter Tryz.func32,Tryz.ntmps32;go_wp2_with fail;refine CD.out.mono ?_;rintro e w1 ⟨rfl,rfl⟩;go_wp2_with fail;refine CP.out.mono ?_;rintro e w1 ⟨v,rfl,ho,hb⟩;obtain⟨A2,m2,k2,rfl⟩:=ais ho;have HR1:=aac (HR.out.after hb);have HB1:=aac ((aaK HW.out (.cells #[.int .i64 k,.string m,.bool em,.bool bk] 44)).trans (HR.out.call hb));have HF1:=aac ((aaz w (.cells #[.int .i64 k,.string m,.bool em,.bool bk] 44)).trans (Frm.of_below hb));clear hb ho CP CD c2 HR;dsimp only;go_wp2;go_ret2;exact aeg HX.out he (HR1.out.box _) (HF1.out.trans (aaz w1 _)) (HB1.out.trans (aaK HR1.out _))
end
end Go.Proofs.YtiaebhomfebagaaGreatDoor.Wl
