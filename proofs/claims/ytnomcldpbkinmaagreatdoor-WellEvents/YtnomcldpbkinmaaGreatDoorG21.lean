/- Lemmas of the claim. -/
import Derived.Test.YtnomcldpbkinmaaGreatDoorG20
import Derived.Test.YtnomcldpbkinmaaGreatDoorG17
import Derived.Test.YtnomcldpbkinmaaGreatDoorG04
import Derived.Test.YtnomcldpbkinmaaGreatDoorG05
import Derived.Deep.QuietTactic
import Derived.BigQuiet
import Derived.Deep.RegionHeld3
import Derived.Deep.RegionWith
import Derived.Deep.RegionLaw
set_option maxHeartbeats 2000000
set_option maxRecDepth 100000
set_option linter.unusedSimpArgs false
set_option linter.unusedVariables false
namespace Go.Proofs.YtnomcldpbkinmaaGreatDoor.Nz.Sc
open Go.RowKit
theorem aer (W:List P2):∀ (r:List P2) (f:List P3) {c:Int},afh W f r=.error c→c=8∨c=9
 | [],f,c,h=>by cases h
 | a :: r,f,c,h=>by
   unfold afh at h;split at h
   · exact aer W r f h
   · split at h
     · injection h with h
       exact .inr h.symm
     · split at h
       · injection h with h
         exact .inl h.symm
       · exact aer W r _ h
structure Ent (w:World)(A A2:Option Addr)(N M:Nat)(nm:ByteArray)(L R:List P2):Prop where
 hN:N=L.length
 hM:M=R.length
 hN1:N≤10000
 hM1:M≤10000
 hm:nm.size≤10000
 hlim:adF L
 hlimR:adF R
 hsz:∀ x∈R,x.1.size≤10000
 hR:RdR w A L
 hR2:RdR w A2 R
theorem Ent.keep {w w':World}{A A2:Option Addr}{N M:Nat}{nm:ByteArray}{L R:List P2}(h:Ent w A A2 N M nm L R)(hb:Below w.heap.size w w'):Ent w' A A2 N M nm L R:=
 ⟨h.hN,h.hM,h.hN1,h.hM1,h.hm,h.hlim,h.hlimR,h.hsz,h.hR.keep hb,h.hR2.keep hb⟩
theorem ahs {A A2:Option Addr}{N M:Nat}{nm:ByteArray}{L R:List P2}{w:World}(cap cap2:Nat)(h:Ent w A A2 N M nm L R):
 Calls Tryz.prog 60 #[.slice A N cap,.agg #[.string nm,.slice A2 M cap2]] w (acs w (acM L nm R)):=by
 have CB:∀ W,Below w.heap.size w W→Calls Tryz.prog 78 #[.slice A N cap,.slice A2 M cap2] W (anw W (abQ L R)):=fun W hW=>afa A A2 N M cap cap2 L R W h.hN h.hM h.hN1 h.hM1 h.hlim h.hlimR h.hsz (h.hR.keep hW) (h.hR2.keep hW)
 cases hb:abQ L R with
 | none=>
   rw[hb] at CB;exact atj A A2 N M cap cap2 nm w _ (by unfold acM;rw[hb]) (aac CB)
 | some Ws=>
   rw[hb] at CB;have hl:=agd R L hb;have hWl:Ws.length≤1000000:=by have:=h.hN;have:=h.hM;have:=h.hN1;have:=h.hM1;omega
   have hWm:adF Ws:=afZ R L h.hlim h.hlimR hb;have CN:NmC Ws.length Ws nm (alD Ws [] [nm]):=fun A' c' AS cS W h1 h2=>ari A' AS Ws.length 1 c' cS Ws [nm] W rfl rfl hWl (by omega) hWm (fun x hx=>by rw[List.mem_singleton] at hx;rw[hx];exact h.hm) h1 h2;have CA:a2w Ws.length Ws A2 M cap2 w (afh Ws [] R):=fun A' c' W h1 h2=>arx A' A2 Ws.length M c' cap2 Ws R W rfl h.hM hWl h.hM1 hWm h.hlimR h.hsz h1 (h.hR2.keep h2)
   cases hn:alf Ws nm with
   | none=>
     have e:alD Ws [] [nm]=none:=(by rw[alD,hn]);rw[e] at CN;exact avq A A2 N M cap cap2 Ws.length nm Ws w _ (by unfold acM;rw[hb];dsimp only;rw[hn]) rfl (aac CB) (aac CN)
   | some n=>
     have e:alD Ws [] [nm]=some [n]:=by rw[alD,hn];rfl
     rw[e] at CN
     cases ha:afh Ws [] R with
     | error c=>
       rw[ha] at CA;exact asY A A2 N M cap cap2 Ws.length nm Ws n c w _ (by unfold acM;rw[hb];dsimp only;rw[hn];dsimp only;rw[ha]) rfl (aer Ws R [] ha) (aac CB) (aac CN) (aac CA)
     | ok f=>
       rw[ha] at CA;obtain⟨na,nb⟩:=n;exact asQ A A2 N M cap cap2 Ws.length f.length nm na nb Ws f w _ (by unfold acM;rw[hb];dsimp only;rw[hn];dsimp only;rw[ha]) rfl rfl (aac CB) (aac CN) (aac CA)
theorem avx {w:World}{B n:Nat}{v:Value}{l:List P3}(h:ajy w B v l)(hn:n=l.length):∃ A c,v=.slice A n c∧RdT w A l:=by
 obtain⟨A,c,h1,h2,_⟩:=aqJ h;exact⟨A,c,by rw[h1,hn],h2⟩
end Go.Proofs.YtnomcldpbkinmaaGreatDoor.Nz.Sc
namespace Go.Proofs.YtnomcldpbkinmaaGreatDoor.Wl
open Go.RowKit
def Frm (w w':World):Prop:=∀ (k:Nat) (cs:Array Value) (T:TypeId) (fr:Nat × Nat),w.heap[k]?=some (.cells cs T fr)→T≠5→T≠70→T≠118→w'.heap[k]?=some (.cells cs T fr)
def Rk (T:TypeId):Prop:=T=5∨T=70∨T=118
theorem Frm.refl (w:World):Frm w w:=fun _ _ _ _ h _ _ _=>h
theorem Frm.trans {a b c:World}(h:Frm a b)(k:Frm b c):Frm a c:=fun i cs T fr hi h1 h2 h3=>k i cs T fr (h i cs T fr hi h1 h2 h3) h1 h2 h3
theorem Frm.of_below {w w':World}(h:Below w.heap.size w w'):Frm w w':=fun k cs T fr hk _ _ _=>(h.block k (Array.getElem?_eq_some_iff.1 hk).1).trans hk
theorem Frm.set {w:World}{b:Nat}{cs:Array Value}{T:TypeId}{fr:Nat × Nat}(hb:w.heap[b]?=some (.cells cs T fr))(hT:Rk T)(j:Nat)(v:Value):Frm w (w.setCell ⟨b,j,none⟩ v):=fun k cs' T' fr' hk h1 h2 h3=>by
 have hne:k≠b:=by
  rintro rfl;rw[hb] at hk;injection hk with hk
  injection hk with _ e _
  subst e;rcases hT with h | h | h
  · exact h1 h
  · exact h2 h
  · exact h3 h
 exact(Below.heap_setCell _ _ _ _ (fun e=>hne e)).trans hk
theorem Frm.grown {w w':World}{B:Nat}{e:TypeId}{z n:Nat}{v:Value}{xs:List Value}(hg:w.grownBy w' v.ownBlock)(h:w.ownsRow B e z v n xs)(hT:Rk e):Frm w w':=fun k cs' T' fr' hk h1 h2 h3=>by
 have hlt:=(Array.getElem?_eq_some_iff.1 hk).1;refine(hg.block k hlt ?_).trans hk;intro e';rcases h.2 with ⟨rfl,_⟩ | ⟨g,cap,cur,rfl,_,hh,_⟩
 · simp[Value.ownBlock] at e'
 · simp only[Value.ownBlock,Option.some.injEq] at e';subst e';rw[hh] at hk;injection hk with hk
   injection hk with _ e2 _
   subst e2;rcases hT with h | h | h
   · exact h1 h
   · exact h2 h
   · exact h3 h
theorem abP {w w':World}{B:Nat}{e:TypeId}{z n:Nat}{v:Value}{xs:List Value}(h:w.ownsRow B e z v n xs)(hf:Frm w w')(h1:e≠5)(h2:e≠70)(h3:e≠118):w'.ownsRow B e z v n xs:=by
 refine⟨h.1,?_⟩;rcases h.2 with h | ⟨g,cap,cur,rfl,hB,hh,r⟩
 · exact .inl h
 · exact .inr ⟨g,cap,cur,rfl,hB,hf g _ _ _ hh h1 h2 h3,r⟩
theorem aaD {w:World}{B g:Nat}{e T:TypeId}{z n:Nat}{v:Value}{xs:List Value}{cs:Array Value}{fr:Nat × Nat}(h:w.ownsRow B e z v n xs)(hb:w.heap[g]?=some (.cells cs T fr))(hT:T≠e)(j:Nat)(x:Value):(w.setCell ⟨g,j,none⟩ x).ownsRow B e z v n xs:=
 World.ownsRow.kept (row:=some g) h ⟨rfl,rfl,rfl,by simp[World.setCell],fun k _ hk=>Below.heap_setCell _ _ _ _ (fun e=>hk (by simp[e]))⟩ (Or.inr (Nz.Sc.own_ne h hb hT))
theorem aaZ {w w':World}{B B2:Nat}{e e2:TypeId}{z n z2 n2:Nat}{v u:Value}{xs ys:List Value}(h:w.ownsRow B e z v n xs)(h2:w.ownsRow B2 e2 z2 u n2 ys)(hg:w.grownBy w' u.ownBlock)(hT:e2≠e):w'.ownsRow B e z v n xs:=by
 refine World.ownsRow.kept (row:=u.ownBlock) h hg ?_;rcases h2.2 with ⟨rfl,_⟩ | ⟨g,cap,cur,rfl,_,hh,_⟩
 · rcases h.2 with ⟨rfl,_⟩ | ⟨g,cap,cur,rfl,_⟩
   · exact .inl rfl
   · exact .inr (by simp[Value.ownBlock])
 · exact .inr (Nz.Sc.own_ne h hh hT)
theorem ayz {u:ByteArray}(h:u.size=0):u=Nz.em:=by
 have:aad u=aad Nz.em:=by
  have e:aad u=[]:=List.eq_nil_of_length_eq_zero (by rw[aae];exact h);rw[e];rfl
 exact abu this
def kd:Ev→Int
 | .opn _ _=>1
 | .txt _=>2
 | .cls=>3
def sp:Ev→ByteArray
 | .opn n _=>n.1
 | _=>⟨#[]⟩
def lo:Ev→ByteArray
 | .opn n _=>n.2
 | _=>⟨#[]⟩
def tx:Ev→ByteArray
 | .txt s=>s
 | _=>⟨#[]⟩
def azB:Ev→List Tr
 | .opn _ f=>f
 | _=>[]
abbrev EvP:=Ev × Value
def evC (x:EvP):List Value:=[.int .i64 (kd x.1),.string (sp x.1),.string (lo x.1),x.2,.string (tx x.1)]
def evL (es:List EvP):List Value:=es.flatMap evC
theorem apT (x:EvP):(evC x).length=5:=rfl
theorem ajj (es:List EvP):(evL es).length=es.length * 5:=Nz.Sc.ali apT es
theorem akH (es:List EvP)(k i:Nat)(t:EvP)(h:es[k]?=some t)(hi:i < 5):(evL es)[k * 5+i]?=(evC t)[i]?:=Nz.Sc.ahh apT es k i t h hi
theorem asv (a b:List EvP):evL (a++b)=evL a++evL b:=by unfold evL;simp
def Slc (v:Value):Prop:=∃ A n c,v=.slice A n c
theorem ait {w:World}{B:Nat}{e:TypeId}{z n:Nat}{v:Value}{xs:List Value}(h:w.ownsRow B e z v n xs):Slc v:=by
 rcases h.2 with ⟨rfl,_⟩ | ⟨g,cap,cur,rfl,_⟩
 · exact⟨_,_,_,rfl⟩
 · exact⟨_,_,_,rfl⟩
theorem alp {x:EvP}(h:Slc x.2):∀ u∈evC x,u.oneCell'=true:=by
 obtain⟨A,n,c,h⟩:=h;intro u hu;unfold evC at hu;rw[h] at hu;simp only[List.mem_cons,List.not_mem_nil,or_false] at hu;rcases hu with rfl | rfl | rfl | rfl | rfl <;> rfl
def EvO (w:World)(B:Nat)(es:List EvP):Prop:=∀ x∈es,Nz.Sc.ajy w B x.2 (azB x.1)
theorem ail {w:World}{B:Nat}{es:List EvP}(h:EvO w B es):∀ u∈evL es,u.oneCell'=true:=by
 intro u hu;obtain⟨x,hx,hu⟩:=List.mem_flatMap.1 hu;exact alp (ait (h x hx)) u hu
theorem aam {e:TypeId}{z n B B':Nat}{w:World}{v:Value}{xs:List Value}(h:w.ownsRow B e z v n xs)(hB:B'≤B):w.ownsRow B' e z v n xs:=Nz.Sc.aam h hB
theorem EvO.frm {w w':World}{B:Nat}{es:List EvP}(h:EvO w B es)(hf:Frm w w'):EvO w' B es:=fun x hx=>abP (h x hx) hf (by decide) (by decide) (by decide)
theorem EvO.mono {w:World}{B B':Nat}{es:List EvP}(h:EvO w B es)(hB:B'≤B):EvO w B' es:=fun x hx=>aam (h x hx) hB
theorem EvO.app {w:World}{B:Nat}{a b:List EvP}(h:EvO w B a)(k:EvO w B b):EvO w B (a++b):=fun x hx=>(List.mem_append.1 hx).elim (h x) (k x)
theorem EvO.grown {w w':World}{B B2:Nat}{es:List EvP}{e2:TypeId}{z2 n2:Nat}{u:Value}{ys:List Value}(h:EvO w B es)(h2:w.ownsRow B2 e2 z2 u n2 ys)(hg:w.grownBy w' u.ownBlock)(hT:e2≠59):EvO w' B es:=fun x hx=>aaZ (h x hx) h2 hg hT
theorem ads (w:World)(B:Nat):Nz.Sc.ajy w B (.slice none 0 0) []:=⟨rfl,.inl ⟨rfl,rfl⟩⟩
def aax (w:World)(B:Nat)(v:Value)(l:List Ev):Prop:=∃ es:List EvP,es.map (·.1)=l∧w.ownsRow B 50 5 v es.length (evL es)∧EvO w B es
theorem aax.frm {w w':World}{B:Nat}{v:Value}{l:List Ev}(h:aax w B v l)(hf:Frm w w'):aax w' B v l:=by
 obtain⟨es,h1,h2,h3⟩:=h;exact⟨es,h1,abP h2 hf (by decide) (by decide) (by decide),h3.frm hf⟩
theorem aax.keep {w w':World}{B:Nat}{v:Value}{l:List Ev}(h:aax w B v l)(hb:Below w.heap.size w w'):aax w' B v l:=h.frm (Frm.of_below hb)
theorem aax.mono {w:World}{B B':Nat}{v:Value}{l:List Ev}(h:aax w B v l)(hB:B'≤B):aax w B' v l:=by
 obtain⟨es,h1,h2,h3⟩:=h;exact⟨es,h1,aam h2 hB,h3.mono hB⟩
theorem aax.nil (w:World)(B:Nat):aax w B (.slice none 0 0) []:=⟨[],rfl,⟨rfl,.inl ⟨rfl,rfl⟩⟩,fun x hx=>by cases hx⟩
theorem aax.slc {w:World}{B:Nat}{v:Value}{l:List Ev}(h:aax w B v l):∃ A c,v=.slice A l.length c:=by
 obtain⟨es,h1,h2,h3⟩:=h;obtain⟨A,c,h⟩:=Nz.Sc.aah h2;exact⟨A,c,by rw[h,← h1,List.length_map]⟩
abbrev OpP:=(ByteArray × List Pr) × Value
def opC (x:OpP):List Value:=[.string x.1.1,x.2]
def opL (es:List OpP):List Value:=es.flatMap opC
theorem arv (x:OpP):(opC x).length=2:=rfl
theorem aqV (es:List OpP):(opL es).length=es.length * 2:=Nz.Sc.ali arv es
theorem aqc (es:List OpP)(k i:Nat)(t:OpP)(h:es[k]?=some t)(hi:i < 2):(opL es)[k * 2+i]?=(opC t)[i]?:=Nz.Sc.ahh arv es k i t h hi
theorem asB (a b:List OpP):opL (a++b)=opL a++opL b:=by unfold opL;simp
def OpO (w:World)(B:Nat)(es:List OpP):Prop:=∀ x∈es,Nz.Sc.adC 75 w B x.2 x.1.2
theorem OpO.frm {w w':World}{B:Nat}{es:List OpP}(h:OpO w B es)(hf:Frm w w'):OpO w' B es:=fun x hx=>abP (h x hx) hf (by decide) (by decide) (by decide)
structure RW (B rb:Nat)(vw vo:Value)(es:List OpP)(s:St)(w:World):Prop where
 lo:B≤rb
 blk:w.heap[rb]?=some (.cells #[vw,vo,.bool s.root,.bool s.over,.int .i64 s.err] 70 (0,0))
 wt:w.ownsRow B 5 1 vw (aad s.wait).length ((aad s.wait).map (Value.int .u8))
 eq:es.map (·.1)=s.op
 op:w.ownsRow B 118 2 vo es.length (opL es)
 own:OpO w B es
 siz:B≤w.heap.size
def RS (B rb:Nat)(s:St)(w:World):Prop:=∃ vw vo es,RW B rb vw vo es s w
section
variable {B rb:Nat} {vw vo:Value} {es:List OpP} {s:St} {w w':World}
theorem RW.lt (h:RW B rb vw vo es s w):rb < w.heap.size:=(Array.getElem?_eq_some_iff.1 h.blk).1
theorem RW.after (h:RW B rb vw vo es s w)(hb:Below w.heap.size w w'):RW B rb vw vo es s w':=
 ⟨h.lo,(hb.block rb h.lt).trans h.blk,Nz.Sc.aai h.wt hb,h.eq,Nz.Sc.aai h.op hb,h.own.frm (Frm.of_below hb),Nat.le_trans h.siz hb.size⟩
theorem RW.c0 (h:RW B rb vw vo es s w):w.cell? ⟨rb,0,none⟩=some vw:=by rw[Lib.cell_of_heap h.blk];rfl
theorem RW.c1 (h:RW B rb vw vo es s w):w.cell? ⟨rb,1,none⟩=some vo:=by rw[Lib.cell_of_heap h.blk];rfl
theorem RW.c2 (h:RW B rb vw vo es s w):w.cell? ⟨rb,2,none⟩=some (.bool s.root):=by rw[Lib.cell_of_heap h.blk];rfl
theorem RW.c3 (h:RW B rb vw vo es s w):w.cell? ⟨rb,3,none⟩=some (.bool s.over):=by rw[Lib.cell_of_heap h.blk];rfl
theorem RW.c4 (h:RW B rb vw vo es s w):w.cell? ⟨rb,4,none⟩=some (.int .i64 s.err):=by rw[Lib.cell_of_heap h.blk];rfl
theorem RW.fz (h:RW B rb vw vo es s w)(j:Nat):w.frozen? ⟨rb,j,none⟩=false:=Lib.frozen_of_heap h.blk j
theorem abW {b j:Nat}{cs:Array Value}{T:TypeId}{fr:Nat × Nat}{x:Value}(h:w.heap[b]?=some (.cells cs T fr)):(w.setCell ⟨b,j,none⟩ x).heap[b]?=some (.cells (cs.set! j x) T fr):=by
 simp[World.setCell,Array.getElem?_modify,h]
theorem RW.len (h:RW B rb vw vo es s w):es.length=s.op.length:=by rw[← h.eq,List.length_map]
theorem RW.opn (h:RW B rb vw vo es s w):∃ A c,vo=.slice A s.op.length c:=by
 obtain⟨A,c,e⟩:=Nz.Sc.aah h.op;exact⟨A,c,by rw[e,h.len]⟩
theorem RW.wai (h:RW B rb vw vo es s w):∃ A c,vw=.slice A s.wait.size c:=by
 obtain⟨A,c,e⟩:=Nz.Sc.aah h.wt;exact⟨A,c,by rw[e,aae]⟩
theorem RW.aaD (h:RW B rb vw vo es s w)(j:Nat)(x:Value){e:TypeId}{z n:Nat}{v:Value}{xs:List Value}(ho:w.ownsRow B e z v n xs)(he:(70:TypeId)≠e):(w.setCell ⟨rb,j,none⟩ x).ownsRow B e z v n xs:=Wl.aaD ho h.blk he j x
theorem RW.anL (h:RW B rb vw vo es s w)(j:Nat)(x:Value):OpO (w.setCell ⟨rb,j,none⟩ x) B es:=h.own.frm (Frm.set h.blk (.inr (.inl rfl)) j x)
theorem RW.a2d (h:RW B rb vw vo es s w)(j:Nat)(x:Value):B≤(w.setCell ⟨rb,j,none⟩ x).heap.size:=by simpa [World.setCell] using h.siz
theorem RW.set0 (h:RW B rb vw vo es s w):RW B rb (.slice none 0 0) vo es { s with wait:=Nz.em } (w.setCell ⟨rb,0,none⟩ (.slice none 0 0)):=
 ⟨h.lo,by rw[abW h.blk];rfl,⟨rfl,.inl ⟨rfl,rfl⟩⟩,h.eq,h.aaD 0 _ h.op (by decide),h.anL 0 _,h.a2d 0 _⟩
theorem RW.set2 (h:RW B rb vw vo es s w)(b:Bool):RW B rb vw vo es { s with root:=b } (w.setCell ⟨rb,2,none⟩ (.bool b)):=
 ⟨h.lo,by rw[abW h.blk];rfl,h.aaD 2 _ h.wt (by decide),h.eq,h.aaD 2 _ h.op (by decide),h.anL 2 _,h.a2d 2 _⟩
theorem RW.a4h (h:RW B rb vw vo es s w)(b:Bool):RW B rb vw vo es { s with over:=b } (w.setCell ⟨rb,3,none⟩ (.bool b)):=
 ⟨h.lo,by rw[abW h.blk];rfl,h.aaD 3 _ h.wt (by decide),h.eq,h.aaD 3 _ h.op (by decide),h.anL 3 _,h.a2d 3 _⟩
theorem RW.a4o (h:RW B rb vw vo es s w)(e:Int):RW B rb vw vo es { s with err:=e } (w.setCell ⟨rb,4,none⟩ (.int .i64 e)):=
 ⟨h.lo,by rw[abW h.blk];rfl,h.aaD 4 _ h.wt (by decide),h.eq,h.aaD 4 _ h.op (by decide),h.anL 4 _,h.a2d 4 _⟩
theorem RW.a2j (h:RW B rb vw vo es s w)(j:Nat)(x:Value):Below B w (w.setCell ⟨rb,j,none⟩ x):=(Below.refl B w).setCell (p:=⟨rb,j,none⟩) h.lo x
theorem RW.azQ (h:RW B rb vw vo es s w)(j:Nat)(x:Value):Frm w (w.setCell ⟨rb,j,none⟩ x):=Frm.set h.blk (.inr (.inl rfl)) j x
end
end Go.Proofs.YtnomcldpbkinmaaGreatDoor.Wl
namespace Go.Proofs.YtnomcldpbkinmaaGreatDoor.Wl
open Go.RowKit
section
variable {B rb:Nat} {vw vo:Value} {es:List OpP} {s:St} {w w':World}
theorem abb (h:RW B rb vw vo es s w):Calls Tryz.prog 17 #[.pointer (some ⟨rb,0,none⟩)] w fun e w'=>e=.returned (.int .i64 (s.op.length:Int))∧w=w':=by
 obtain⟨A,c,rfl⟩:=h.opn;have c1:=h.c1;clear h;generalize s.op.length=n at *;go_enter Tryz.func17,Tryz.ntmps17;go_wp2;go_ret;exact⟨rfl,rfl⟩
theorem ajh (h:RW B rb vw vo es s w):Calls Tryz.prog 18 #[.pointer (some ⟨rb,0,none⟩)] w fun e w'=>e=.returned (.bool s.over)∧w=w':=by
 have c3:=h.c3;clear h;generalize s.over=b at *;go_enter Tryz.func18,Tryz.ntmps18;go_wp2;go_ret;exact⟨rfl,rfl⟩
theorem Tryz.results63:Tryz.f63.results= #[ResultVar.cell 0 50]:=by kernel_rfl
theorem aie (w:World):Calls Tryz.prog 63 #[] w fun e w'=>e=.returned (.agg #[.int .i64 3,.string ⟨#[]⟩,.string ⟨#[]⟩,.slice none 0 0,.string ⟨#[]⟩])∧Below w.heap.size w w':=by
 go_enter Tryz.func63,Tryz.ntmps63;go_wp2;exact bodyPost_ret (v:=.agg #[.int .i64 3,.string ⟨#[]⟩,.string ⟨#[]⟩,.slice none 0 0,.string ⟨#[]⟩]) (by simp[results,Tryz.results63,go_sem]) rfl ⟨rfl,(Below.refl w.heap.size w).alloc (Nat.le_refl _) _⟩
theorem aiW (w:World):Calls Tryz.prog 14 #[] w fun e w'=>e=.returned (.pointer (some ⟨w.heap.size,0,none⟩))∧RW w.heap.size w.heap.size (.slice none 0 0) (.slice none 0 0) [] st0 w'∧Below w.heap.size w w':=by
 have HK:=aac (Nz.Sc.abM w 70 #[.slice none 0 0,.slice none 0 0,.bool false,.bool false,.int .i64 0]);go_enter Tryz.func14,Tryz.ntmps14;go_wp2;go_ret;exact⟨rfl,⟨Nat.le_refl _,HK.out,⟨rfl,.inl ⟨rfl,rfl⟩⟩,rfl,⟨rfl,.inl ⟨rfl,rfl⟩⟩,(fun x hx=>by cases hx),by simp⟩,(Below.refl w.heap.size w).alloc (Nat.le_refl _) _⟩
def aqw (B rb:Nat)(vo:Value)(es:List OpP)(s:St)(w:World)(e:Ending)(w':World):Prop:=
 ∃ v vw,e=.returned v∧aax w' w.heap.size v (aaX s.wait)∧RW B rb vw vo es { s with wait:=Nz.em } w'∧Frm w w'∧Below B w w'
theorem RW.a4d (h:RW B rb vw vo es s w)(h0:s.wait.size=0):RW B rb vw vo es { s with wait:=Nz.em } w:=by
 have e:=ayz h0;obtain⟨op,wait,root,over,err⟩:=s;have e':wait=Nz.em:=e;subst e';exact h
theorem axo (h:RW B rb vw vo es s w)(h0:s.wait.size=0):Calls Tryz.prog 62 #[.pointer (some ⟨rb,0,none⟩)] w (aqw B rb vo es s w):=by
 have HR:=aac h;obtain⟨A,c,rfl⟩:=h.wai;have c0:=h.c0;rw[h0] at c0;clear h;go_enter Tryz.func62,Tryz.ntmps62;go_wp2;go_ret;refine⟨_,_,rfl,?_,HR.out.a4d h0,Frm.refl _,Below.refl _ _⟩;unfold aaX;rw[if_pos h0];exact aax.nil _ _
theorem awP {W W':World}{x:Ev}{va:Value}(hk:W'.heap[W.heap.size]?=some (.cells #[.int .i64 (kd x),.string (sp x),.string (lo x),va,.string (tx x)] 50 (0,0)))(ha:Nz.Sc.ajy W' B va (azB x))(hB:B≤W.heap.size):
 aax W' B (.slice (some ⟨W.heap.size,0,none⟩) 1 1) [x]:=
 ⟨[(x,va)],rfl,⟨rfl,.inr ⟨W.heap.size,1,_,rfl,hB,hk,Nat.le_refl _,by decide,rfl,rfl⟩⟩,fun y hy=>by rw[List.mem_singleton] at hy;subst hy;exact ha⟩
theorem auc (h:RW B rb vw vo es s w)(h0:s.wait.size≠0):Calls Tryz.prog 62 #[.pointer (some ⟨rb,0,none⟩)] w (aqw B rb vo es s w):=by
 have HR:=aac h
 have ho:Hid (aax (w.alloc (.cells #[.int .i64 2,.string ⟨#[]⟩,.string ⟨#[]⟩,.slice none 0 0,.string s.wait] 50)) w.heap.size (.slice (some ⟨w.heap.size,0,none⟩) 1 1) (aaX s.wait)):=aac (by
  unfold aaX;rw[if_neg h0];exact awP (x:=.txt s.wait) (Nz.Sc.abM w 50 _) (ads _ _) (Nat.le_refl _))
 obtain⟨A,c,hrd,hR⟩:=aeH h.wt;have hcv:=afj (c:=c) hR;rw[← aaJ rfl,aae] at hcv;have HA:=aac (h.after ((Below.refl _ w).alloc (Nat.le_refl _) (.cells #[.int .i64 2,.string ⟨#[]⟩,.string ⟨#[]⟩,.slice none 0 0,.string s.wait] 50)));have c0:=h.c0;rw[hrd,aae] at c0;have d0:=HA.out.c0;rw[hrd,aae] at d0;have f0:=HA.out.fz 0;have q0:((s.wait.size:Int) == 0)=false:=by rw[beq_eq_false_iff_ne];omega
 clear h hR hrd;generalize s.wait.size=n at *;go_enter Tryz.func62,Tryz.ntmps62;go_wp2;go_ret;exact⟨_,_,rfl,ho.out.frm (HA.out.azQ 0 _),HA.out.set0,(Frm.of_below ((Below.refl _ w).alloc (Nat.le_refl _) _)).trans (HA.out.azQ 0 _),((Below.refl B w).alloc HR.out.siz _).trans (HA.out.a2j 0 _)⟩
theorem ais (h:RW B rb vw vo es s w):Calls Tryz.prog 62 #[.pointer (some ⟨rb,0,none⟩)] w (aqw B rb vo es s w):=by
 by_cases h0:s.wait.size=0
 · exact axo h h0
 · exact auc h h0
theorem RW.a4q (h:RW B rb vw vo es s w){v':Value}{w2:World}{m:ByteArray}(ho:w2.ownsRow B 5 1 v' ((aad s.wait).length+m.size) ((aad s.wait).map (Value.int .u8)++Lib.strCells m))(hg:w.grownBy w2 vw.ownBlock):
 w2.heap[rb]?=some (.cells #[vw,vo,.bool s.root,.bool s.over,.int .i64 s.err] 70 (0,0))∧RW B rb v' vo es { s with wait:=s.wait++m } (w2.setCell ⟨rb,0,none⟩ v')∧Frm w (w2.setCell ⟨rb,0,none⟩ v')∧Below B w (w2.setCell ⟨rb,0,none⟩ v'):=by
 have b2:=(hg.block rb h.lt (fun e=>Nz.Sc.own_ne h.wt h.blk (by decide) e.symm)).trans h.blk;have hf:=Frm.grown hg h.wt (.inl rfl);have hs:=Frm.set b2 (.inr (.inl rfl)) 0 v';have hb:Below B w w2:=(Below.refl B w).grown hg h.siz (fun k hk=>(World.ownsRow.lt h.wt k hk).1);refine⟨b2,⟨h.lo,by rw[abW b2];rfl,?_,h.eq,Wl.aaD (aaZ h.op h.wt hg (by decide)) b2 (by decide) 0 v',(h.own.frm hf).frm hs,by simpa [World.setCell] using Nat.le_trans h.siz hg.size⟩,hf.trans hs,hb.setCell (p:=⟨rb,0,none⟩) h.lo v'⟩;refine Wl.aaD ?_ b2 (by decide) 0 v';show w2.ownsRow B 5 1 v' (aad (s.wait++m)).length ((aad (s.wait++m)).map (Value.int .u8));have e:(aad m).map (Value.int .u8)=Lib.strCells m:=by unfold aad;rw[List.map_map];rfl
 rw[aeQ,List.length_append,List.map_append,e,aae m];exact ho
def a0c (B rb:Nat)(vo:Value)(es:List OpP)(s:St)(m:ByteArray)(w:World)(e:Ending)(w':World):Prop:=
 e=.returned (.tuple #[])∧(∃ vw,RW B rb vw vo es { s with wait:=s.wait++m } w')∧Frm w w'∧Below B w w'
theorem ayr (h:RW B rb vw vo es s w)(m:ByteArray)(hz:s.wait.size≤1000000000)(hm:m.size≤1000000):Calls Tryz.prog 65 #[.pointer (some ⟨rb,0,none⟩),.string m] w (a0c B rb vo es s m w):=by
 obtain⟨i0,hi,hz0,hz1,hz2⟩:=info_parts Tryz.info5;have HR:=aac h;have hown:=h.wt;have hsz:=h.siz;have hl:(aad s.wait).length≤1000000000:=by rw[aae];exact hz
 have c0:=h.c0;clear h hz;go_enter Tryz.func65,Tryz.ntmps65;go_wp2_with (at_builtin;refine Lib.wpList_append_own_string _ rfl _ _ 65 9 rfl B 5 i0 Tryz.underlying65 Tryz.underlying9 hi hz0 hz1 hz2 _ _ _ rfl hown m rfl (by unfold maxLen;omega) (by omega) (by omega) ?_);intro v' w2 hown' hgrow _;obtain⟨b2,r2,f2,l2⟩:=HR.out.a4q hown' hgrow;have R2:=aac r2;have F2:=aac f2;have L2:=aac l2;have d0:w2.cell? ⟨rb,0,none⟩=some vw:=by rw[Lib.cell_of_heap b2];rfl
 have f0:w2.frozen? ⟨rb,0,none⟩=false:=Lib.frozen_of_heap b2 0;obtain⟨A,cap,rfl⟩:∃ A cap,v'=.slice A ((aad s.wait).length+m.size) cap:=Nz.Sc.aah hown';clear b2 r2 f2 l2 hown' hgrow hown HR c0;go_wp2
 go_end0
 exact⟨rfl,⟨_,R2.out⟩,F2.out,L2.out⟩
def clr (s:St):St:={ s with err:=0 }
theorem agU (s:St)(h:s.err=0)(e:Int):clr (bad s e).1=s:=by
 obtain⟨op,wait,root,over,err⟩:=s;have:err=0:=h;subst this;rfl
theorem adq (s:St)(h:s.err=0):clr s=s:=agU s h 0
def asa (B rb:Nat)(vo:Value)(es:List OpP)(x:St × List Ev × Int)(w:World)(e:Ending)(w':World):Prop:=
 e=.returned (.int .i64 x.2.2)∧(∃ vw,RW B rb vw vo es (clr x.1) w')∧Frm w w'∧Below B w w'
theorem ave (h:RW B rb vw vo es s w)(he:s.err=0):Calls Tryz.prog 42 #[.pointer (some ⟨rb,0,none⟩)] w (asa B rb vo es (lastT s) w):=by
 have HR:=aac h;have CD:=aac (abb h);have c2:=h.c2;have c3:=h.c3;have f3:=h.fz 3;unfold lastT;by_cases k1:s.op≠[]
 · have k0:0 < s.op.length:=List.length_pos_iff.2 k1;rw[if_pos k1];clear h;generalize s.op.length=n at *;have d1:(0:Int) < (n:Int):=(by omega);go_enter Tryz.func42,Tryz.ntmps42;go_wp2_with fail;refine CD.out.mono ?_;rintro e w1 ⟨rfl,rfl⟩;go_wp2;go_ret;exact⟨rfl,⟨_,by rw[agU s he];exact HR.out⟩,Frm.refl _,Below.refl _ _⟩
 · have k0:s.op.length=0:=by rw[Decidable.not_not.1 k1];rfl
   rw[if_neg k1];rw[k0] at CD;cases hr:s.root
   · rw[hr] at c2;rw[if_pos rfl];clear h;go_enter Tryz.func42,Tryz.ntmps42;go_wp2_with fail;refine CD.out.mono ?_;rintro e w1 ⟨rfl,rfl⟩;go_wp2;go_ret;exact⟨rfl,⟨_,by rw[agU s he];exact HR.out⟩,Frm.refl _,Below.refl _ _⟩
   · rw[hr] at c2;rw[if_neg (by decide)];clear h;go_enter Tryz.func42,Tryz.ntmps42;go_wp2_with fail;refine CD.out.mono ?_;rintro e w1 ⟨rfl,rfl⟩;go_wp2;go_ret;refine⟨rfl,⟨vw,?_⟩,HR.out.azQ 3 _,HR.out.a2j 3 _⟩;have:=HR.out.a4h true;rw[← adq _ (show ({ s with over:=true }:St).err=0 from he),hr] at this;exact this
theorem RW.box (h:RW B rb vw vo es s w)(o:Obj):RW B rb vw vo es s (w.alloc o):=h.after ((Below.refl _ w).alloc (Nat.le_refl _) o)
theorem RW.drew (h:RW B rb vw vo es s w):RW B rb vw vo es s w.drew:=h.after (Below.refl _ w).drew
theorem abk (h:RW B rb vw vo es s w)(o:Obj):Below B w (w.alloc o):=(Below.refl B w).alloc h.siz o
theorem aaK (w:World)(o:Obj):Frm w (w.alloc o):=Frm.of_below ((Below.refl _ w).alloc (Nat.le_refl _) o)
theorem avn {a b:World}(hf:Frm a b){k:Nat}{cs:Array Value}{fr:Nat × Nat}(hk:a.heap[k]?=some (.cells cs 42 fr))(j:Nat){v:Value}(hv:cs[j]?=some v):b.cell? ⟨k,j,none⟩=some v:=
 (Lib.cell_of_heap (hf k cs 42 fr hk (by decide) (by decide) (by decide)) j).trans hv
theorem apB (h:RW B rb vw vo es s w)(he:s.err=0)(k:Int)(m:ByteArray)(em bk:Bool)(hz:s.wait.size≤1000000000)(hm:m.size≤1000000):
 Calls Tryz.prog 41 #[.pointer (some ⟨rb,0,none⟩),.agg #[.int .i64 k,.string m,.bool em,.bool bk]] w (asa B rb vo es (acK s ⟨k,m,em,bk⟩) w):=by
 have HW:=aac h;have HR:=aac (h.box (.cells #[.int .i64 k,.string m,.bool em,.bool bk] 42));have CD:=aac (abb HR.out);unfold acK;by_cases k1:s.op≠[]
 · have k0:0 < s.op.length:=List.length_pos_iff.2 k1;rw[if_pos k1];have CL:=aac (ayr HR.out.drew m hz hm);have HK:=aac (show (w.alloc (.cells #[.int .i64 k,.string m,.bool em,.bool bk] 42)).drew.heap[w.heap.size]?=_ from Nz.Sc.abM w 42 #[.int .i64 k,.string m,.bool em,.bool bk]);clear h;generalize s.op.length=n at *;have d1:(0:Int) < (n:Int):=(by omega);go_enter Tryz.func41,Tryz.ntmps41;go_wp2_with fail;refine CD.out.mono ?_;rintro e w1 ⟨rfl,rfl⟩;go_wp2_with fail
   go_region_held3 (fun W=>W.cell? ⟨w.heap.size,1,none⟩=some (.string m)) (first | assumption | simp | exact rfl) (first | (go_at_call 65;refine CL.out.mono ?_;rintro e w2 ⟨rfl,h2,f2,l2⟩;have k2:=avn f2 HK.out 1 rfl) | fail)
   go_wp2;go_ret;obtain⟨vw2,h2⟩:=h2;exact⟨rfl,⟨vw2,by rw[← adq _ (show ({ s with wait:=s.wait++m }:St).err=0 from he)] at h2;exact h2⟩,(aaK w _).trans f2,(abk HW.out _).drew.trans l2⟩
 · have k0:s.op.length=0:=by rw[Decidable.not_not.1 k1];rfl
   rw[if_neg k1];rw[k0] at CD;cases bk
   · rw[if_neg (fun e=>by cases e)];clear h;go_enter Tryz.func41,Tryz.ntmps41;go_wp2_with fail;refine CD.out.mono ?_;rintro e w1 ⟨rfl,rfl⟩;go_wp2;go_ret;exact⟨rfl,⟨_,by rw[agU s he];exact HR.out⟩,aaK _ _,abk HW.out _⟩
   · rw[if_pos rfl];clear h;go_enter Tryz.func41,Tryz.ntmps41;go_wp2_with fail;refine CD.out.mono ?_;rintro e w1 ⟨rfl,rfl⟩;go_wp2;go_ret;exact⟨rfl,⟨_,by rw[adq s he];exact HR.out⟩,aaK _ _,abk HW.out _⟩
theorem aiA {e:TypeId}{z n:Nat}{v:Value}{xs:List Value}(h:w.ownsRow B e z v n xs)(he:w'.heap=w.heap):w'.ownsRow B e z v n xs:=by
 unfold World.ownsRow at *;rw[he];exact h
theorem RW.heap (h:RW B rb vw vo es s w)(he:w'.heap=w.heap):RW B rb vw vo es s w':=
 ⟨h.lo,by rw[he];exact h.blk,aiA h.wt he,h.eq,aiA h.op he,fun x hx=>aiA (h.own x hx) he,by rw[he];exact h.siz⟩
def awN (B:Nat)(s:St)(w:World)(e:Ending)(w':World):Prop:=∃ v,e=.returned v∧Nz.Sc.adC 75 w' B v (aeo s)∧Below w.heap.size w w'
theorem agz {W:World}(hB:B≤W.heap.size):Nz.Sc.adC 75 (W.alloc (.cells #[.string Nz.Sc.xm,.string Nz.Sc.XS] 75)) B (.slice (some ⟨W.heap.size,0,none⟩) 1 1) adB:=
 ⟨rfl,.inr ⟨W.heap.size,1,_,rfl,hB,Nz.Sc.abM W 75 _,Nat.le_refl _,by decide,rfl,rfl⟩⟩
theorem RW.inn (h:RW B rb vw vo es s w){n:Nat}(hn:s.op.length=n+1):∃ g c x,vo=.slice (some ⟨g,0,none⟩) (n+1) c∧s.op.getLast?=some x.1∧w.cell? ⟨g,n * 2,none⟩=some (.string x.1.1)∧w.cell? ⟨g,n * 2+1,none⟩=some x.2∧Nz.Sc.adC 75 w B x.2 x.1.2∧es[n]?=some x:=by
 have hl:=h.len;have ho:=h.op;rw[hl,hn] at ho;obtain⟨g,c,hv⟩:=Nz.Sc.aas ho;have hlt:n < es.length:=(by omega);have hx:=List.getElem?_eq_getElem hlt;refine⟨g,c,es[n],hv,?_,?_,?_,h.own _ (List.getElem_mem _),hx⟩
 · rw[← h.eq,List.getLast?_map,List.getLast?_eq_getElem?,show es.length - 1=n by omega,hx];rfl
 · rw[hv] at ho;exact(ho.cellAt (n * 2) (by omega)).trans (aqc es n 0 _ hx (by omega))
 · rw[hv] at ho;exact(ho.cellAt (n * 2+1) (by omega)).trans (aqc es n 1 _ hx (by omega))
theorem afa (h:RW B rb vw vo es s w)(hd:s.op.length≤64):Calls Tryz.prog 61 #[.pointer (some ⟨rb,0,none⟩)] w (awN B s w):=by
 have HW:=aac h;have CD:=aac (abb h);unfold awN aeo;by_cases k1:s.op=[]
 · have k0:s.op.length=0:=by rw[k1];rfl
   rw[k0] at CD;rw[k1];have CN:=aac (Nz.Sc.aiW w);clear h;go_enter Tryz.func61,Tryz.ntmps61;go_wp2_with fail;refine CD.out.mono ?_;rintro e w1 ⟨rfl,rfl⟩;go_wp2_with fail;refine CN.out.mono ?_;rintro e w1 ⟨rfl,rfl⟩;go_wp2;go_ret;exact⟨_,rfl,agz HW.out.siz,(Below.refl _ w).alloc (Nat.le_refl _) _⟩
 · have k0:0 < s.op.length:=List.length_pos_iff.2 k1;obtain⟨n,hn⟩:∃ n,s.op.length=n+1:=⟨s.op.length - 1,by omega⟩;obtain⟨g,c,x,rfl,hx,x0,x1,ho,_⟩:=h.inn hn;rw[hx];obtain⟨⟨xn,xl⟩,xv⟩:=x;dsimp only at x0 x1 ho hx ⊢;have HO:=aac ho;have c1:=h.c1;rw[hn] at CD
   have CQ:Hid (∀ W,W.heap=w.heap→Calls Tryz.prog 17 #[.pointer (some ⟨rb,0,none⟩)] W fun e w'=>e=.returned (.int .i64 ((n+1:Nat):Int))∧w'=W):=aac (fun W hW=>by
    have:=abb (h.heap hW);rw[hn] at this;exact this.mono fun e w' ⟨h1,h2⟩=>⟨h1,h2.symm⟩)
   obtain⟨A,m,k,rfl⟩:=ait ho;have d0:¬ (((n+1:Nat):Int) == 0)=true:=by simp;omega
   clear h ho hx k0 k1;go_enter Tryz.func61,Tryz.ntmps61;go_wp2_with fail;refine CD.out.mono ?_;rintro e w1 ⟨rfl,rfl⟩;go_wp2_with fail;go_quiet ((go_at_call 17;exact Calls.quiet_of_same (CQ.out _ rfl)));go_wp2;go_ret;exact⟨_,rfl,HO.out,below_drewN (Below.refl _ _) _⟩
end
end Go.Proofs.YtnomcldpbkinmaaGreatDoor.Wl
