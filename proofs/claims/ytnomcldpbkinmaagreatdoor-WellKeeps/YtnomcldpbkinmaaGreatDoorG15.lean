/- Lemmas of the claim. -/
import Derived.Test.YtnomcldpbkinmaaGreatDoorG12
import Derived.Test.YtnomcldpbkinmaaGreatDoorG10
import Derived.Test.YtnomcldpbkinmaaGreatDoorG13
import Derived.Test.YtnomcldpbkinmaaGreatDoorG14
set_option linter.unusedSimpArgs false
set_option linter.unusedVariables false
namespace Go.Proofs.YtnomcldpbkinmaaGreatDoor.Tg
open Go.RowKit
theorem a1T (s:ByteArray)(k:Nat):Nz.bl (Nz.fr s k)=(Nz.bl s).drop k:=Nz.ajI s k
theorem a0s (s:ByteArray)(k:Nat):Nz.sn (Nz.fr s k) 0=Nz.sn s k:=by unfold Nz.sn;rw[a1T,List.drop_zero]
theorem aqH (s:ByteArray)(k:Nat):Nz.sx (Nz.fr s k) 0=Nz.sx s k:=by
 rw[aqs,a0s];rfl
theorem akh (s:ByteArray)(k:Nat):sk (Nz.fr s k)=Nz.fr s (pk s k):=by unfold sk pk;rw[aqy]
theorem akW (s:ByteArray)(k:Nat)(h:k < s.size):hd (Nz.fr s k)=((s[k].toNat:Nat):Int):=by
 unfold hd;rw[acf,List.getD_eq_getElem?_getD,List.getElem?_drop,Nat.add_zero,← List.getD_eq_getElem?_getD,← aaG s k h]
theorem amv (s:ByteArray)(k:Nat)(h:s.size≤k):hd (Nz.fr s k)=0:=by
 unfold hd;rw[acf,List.drop_of_length_le (by rw[aae];exact h)];rfl
def p1 (s:ByteArray)(f:Nat):Nat:=pk s (f+Nz.sn s f)
def p2 (s:ByteArray)(f:Nat):Nat:=pk s (p1 s f+1)
theorem axT (s:ByteArray)(f:Nat)(h:isN (Nz.sx s f)=false):aay (Nz.fr s f)=(4,Nz.em,Nz.em,Nz.em):=by
 unfold aay;rw[aqH,if_pos h]
theorem auv (s:ByteArray)(f:Nat):sk (Nz.fr (Nz.fr s f) (Nz.sn (Nz.fr s f) 0))=Nz.fr s (p1 s f):=by rw[a0s,aqy,akh];rfl
theorem a1D (s:ByteArray)(f:Nat):sk (Nz.fr (sk (Nz.fr (Nz.fr s f) (Nz.sn (Nz.fr s f) 0))) 1)=Nz.fr s (p2 s f):=by rw[auv,aqy,akh];rfl
theorem ayh (s:ByteArray)(f:Nat)(h:isN (Nz.sx s f)=true)(h2:hd (Nz.fr s (p1 s f))≠61):aay (Nz.fr s f)=(6,Nz.em,Nz.em,Nz.em):=by
 unfold aay;rw[aqH,if_neg (by rw[h];decide),auv,if_pos h2]
theorem auK (s:ByteArray)(f:Nat)(h:isN (Nz.sx s f)=true)(h2:hd (Nz.fr s (p1 s f))=61)(h3:hd (Nz.fr s (p2 s f))≠34)(h4:hd (Nz.fr s (p2 s f))≠39):aay (Nz.fr s f)=(6,Nz.em,Nz.em,Nz.em):=by
 unfold aay;rw[aqH,if_neg (by rw[h];decide),a1D,auv,if_neg (Decidable.not_not.2 h2),if_neg h3,if_neg h4]
theorem awx (s:ByteArray)(f:Nat)(q:UInt8)(hq:q=34∨q=39)(h:isN (Nz.sx s f)=true)(h2:hd (Nz.fr s (p1 s f))=61)(h3:hd (Nz.fr s (p2 s f))=(q.toNat:Int)):aay (Nz.fr s f)=apa q (Nz.sx s f) (Nz.fr s (p2 s f+1)):=by
 unfold aay;rw[aqH,if_neg (by rw[h];decide),a1D,auv,if_neg (Decidable.not_not.2 h2),aqy];rcases hq with rfl | rfl
 · rw[if_pos (h3.trans u34)]
 · rw[if_neg (by rw[h3,u39];decide),if_pos (h3.trans u39)]
theorem azz (s:ByteArray)(f:Nat)(q:UInt8)(hq:q=34∨q=39)(h:isN (Nz.sx s f)=true)(h2:hd (Nz.fr s (p1 s f))=61)(h3:hd (Nz.fr s (p2 s f))=(q.toNat:Int))(h4:qi q (Nz.fr s (p2 s f+1))= -1):aay (Nz.fr s f)=(6,Nz.em,Nz.em,Nz.em):=by
 rw[awx s f q hq h h2 h3];unfold apa;rw[if_pos h4]
theorem a1Q (s:ByteArray)(b j:Nat)(hb:b≤j):(Nz.fr s b).extract 0 (j - b)=s.extract b j:=abu (by
 rw[afs,acf,aal,List.take_drop];have e:b+(j - b)=j:=by omega
 first
  | rw[e]
  | rw[Nat.add_comm,e])
theorem azY (s:ByteArray)(b j:Nat)(hb:b≤j):Nz.fr (Nz.fr s b) (j - b+1)=Nz.fr s (j+1):=by
 rw[aqy];have e:b+(j - b+1)=j+1:=(by omega);rw[e]
theorem a1H (s:ByteArray)(f j:Nat)(q:UInt8)(hq:q=34∨q=39)(h:isN (Nz.sx s f)=true)(h2:hd (Nz.fr s (p1 s f))=61)(h3:hd (Nz.fr s (p2 s f))=(q.toNat:Int))(hj:p2 s f+1≤j)(h4:qi q (Nz.fr s (p2 s f+1))=((j - (p2 s f+1):Nat):Int)):
 aay (Nz.fr s f)=vlF (Nz.sx s f) (s.extract (p2 s f+1) j) (Nz.fr s (j+1)):=by
 rw[awx s f q hq h h2 h3];unfold apa vlF;have e1:(qi q (Nz.fr s (p2 s f+1))).toNat=j - (p2 s f+1):=by rw[h4];exact Int.toNat_natCast _
 have e2:=a1Q s (p2 s f+1) j hj;have e3:=azY s (p2 s f+1) j hj;rw[if_neg (by rw[h4];omega),e1,e2,e3]
theorem amd (s:ByteArray)(j b:Nat)(hb:b≤j):(aad (Nz.fr s b)).getD (j - b) 0=(aad s).getD j 0:=by
 rw[acf,List.getD_eq_getElem?_getD,List.getElem?_drop,← List.getD_eq_getElem?_getD]
 congr 1
 omega
theorem a3k (s:ByteArray)(f:Nat)(h:f≤s.size):p1 s f≤s.size:=by
 have:=Nz.atb s f;exact auh s _ (by omega)
theorem a2U (s:ByteArray)(f:Nat)(h:p1 s f < s.size):p2 s f≤s.size:=auh s _ h
theorem ayB (s:ByteArray)(k:Nat):k≤pk s k:=by unfold pk;omega
structure DS (w0:World)(R T:Nat)(nm:ByteArray)(v:Value)(l:List (ByteArray × ByteArray))(w:World):Prop where
 ne:R≠T
 rlo:w0.heap.size≤R
 tlo:w0.heap.size≤T
 rblk:w.heap[R]?=some (.cells #[.string ⟨#[]⟩,.slice none 0 0] 53 (0,0))
 tblk:w.heap[T]?=some (.cells #[.string nm,v] 53 (0,0))
 own:aky w w0.heap.size v l
 bel:Below w0.heap.size w0 w
theorem DS.rlt {w0 w:World}{R T:Nat}{nm:ByteArray}{v:Value}{l:List (ByteArray × ByteArray)}(h:DS w0 R T nm v l w):R < w.heap.size:=(Array.getElem?_eq_some_iff.1 h.rblk).1
theorem DS.tlt {w0 w:World}{R T:Nat}{nm:ByteArray}{v:Value}{l:List (ByteArray × ByteArray)}(h:DS w0 R T nm v l w):T < w.heap.size:=(Array.getElem?_eq_some_iff.1 h.tblk).1
theorem DS.after {w0 w w':World}{R T:Nat}{nm:ByteArray}{v:Value}{l:List (ByteArray × ByteArray)}(h:DS w0 R T nm v l w)(hb:Below w.heap.size w w'):DS w0 R T nm v l w':=
 ⟨h.ne,h.rlo,h.tlo,(hb.block R h.rlt).trans h.rblk,(hb.block T h.tlt).trans h.tblk,aai h.own hb,h.bel.trans (hb.mono h.bel.size)⟩
theorem DS.r0 {w0 w:World}{R T:Nat}{nm:ByteArray}{v:Value}{l:List (ByteArray × ByteArray)}(h:DS w0 R T nm v l w):w.cell? ⟨R,0,none⟩=some (.string ⟨#[]⟩):=by rw[Lib.cell_of_heap h.rblk];rfl
theorem DS.r1 {w0 w:World}{R T:Nat}{nm:ByteArray}{v:Value}{l:List (ByteArray × ByteArray)}(h:DS w0 R T nm v l w):w.cell? ⟨R,1,none⟩=some (.slice none 0 0):=by rw[Lib.cell_of_heap h.rblk];rfl
theorem DS.t0 {w0 w:World}{R T:Nat}{nm:ByteArray}{v:Value}{l:List (ByteArray × ByteArray)}(h:DS w0 R T nm v l w):w.cell? ⟨T,0,none⟩=some (.string nm):=by rw[Lib.cell_of_heap h.tblk];rfl
theorem DS.t1 {w0 w:World}{R T:Nat}{nm:ByteArray}{v:Value}{l:List (ByteArray × ByteArray)}(h:DS w0 R T nm v l w):w.cell? ⟨T,1,none⟩=some v:=by rw[Lib.cell_of_heap h.tblk];rfl
theorem DS.rf {w0 w:World}{R T:Nat}{nm:ByteArray}{v:Value}{l:List (ByteArray × ByteArray)}(h:DS w0 R T nm v l w)(j:Nat):w.frozen? ⟨R,j,none⟩=false:=Lib.frozen_of_heap h.rblk j
theorem DS.res {w0 w:World}{R T:Nat}{nm:ByteArray}{v:Value}{l:List (ByteArray × ByteArray)}(h:DS w0 R T nm v l w)(x y:Value):aky ((w.setCell ⟨R,0,none⟩ x).setCell ⟨R,1,none⟩ y) w0.heap.size v l∧Below w0.heap.size w0 ((w.setCell ⟨R,0,none⟩ x).setCell ⟨R,1,none⟩ y):=by
 refine⟨aaD (T:=53) (cs:= #[x,.slice none 0 0]) (fr:=(0,0)) (aaD h.own h.rblk (by decide) 0 x) ?_ (by decide) 1 y,(h.bel.setCell (p:=⟨R,0,none⟩) h.rlo _).setCell (p:=⟨R,1,none⟩) h.rlo _⟩;simp[World.setCell,Array.getElem?_modify,h.rblk]
theorem DS.bad {w0 w:World}{R T:Nat}{nm:ByteArray}{v:Value}{l:List (ByteArray × ByteArray)}(h:DS w0 R T nm v l w)(x y:Value)(er:Int):aco (er,Nz.em,[]) w0 (.returned (.tuple #[.agg #[.string ⟨#[]⟩,.slice none 0 0],.int .i64 er])) ((w.setCell ⟨R,0,none⟩ x).setCell ⟨R,1,none⟩ y):=
 ⟨_,rfl,World.ownsRow_nil _ _ _ _,(h.res x y).2⟩
theorem DS.good {w0 w:World}{R T:Nat}{nm:ByteArray}{v:Value}{l:List (ByteArray × ByteArray)}(h:DS w0 R T nm v l w)(x y:Value):aco (0,nm,l) w0 (.returned (.tuple #[.agg #[.string nm,v],.int .i64 0])) ((w.setCell ⟨R,0,none⟩ x).setCell ⟨R,1,none⟩ y):=
 ⟨_,rfl,(h.res x y).1,(h.res x y).2⟩
theorem DS.put {w0 w w2:World}{R T:Nat}{nm:ByteArray}{v v':Value}{l:List (ByteArray × ByteArray)}{x:ByteArray × ByteArray}(h:DS w0 R T nm v l w)(hown:w2.ownsRow w0.heap.size 81 2 v' (l.length+1) (rwL l++rwC x))(hg:w.grownBy w2 v.ownBlock):
 w2.heap[T]?=some (.cells #[.string nm,v] 53 (0,0))∧DS w0 R T nm v' (l++[x]) (w2.setCell ⟨T,1,none⟩ v'):=by
 have hne:=own_ne h.own h.tblk (by decide);have hne2:=own_ne h.own h.rblk (by decide);have hb2:w2.heap[T]?=some (.cells #[.string nm,v] 53 (0,0)):=(hg.block T h.tlt (fun e=>hne e.symm)).trans h.tblk;have hr2:w2.heap[R]?=some (.cells #[.string ⟨#[]⟩,.slice none 0 0] 53 (0,0)):=(hg.block R h.rlt (fun e=>hne2 e.symm)).trans h.rblk
 have ho:aky w2 w0.heap.size v' (l++[x]):=by
  unfold aky;rw[aev,List.length_append];exact hown
 refine⟨hb2,h.ne,h.rlo,h.tlo,(Below.heap_setCell _ _ _ _ h.ne).trans hr2,by simp[World.setCell,Array.getElem?_modify,hb2],aaD ho hb2 (by decide) 1 _,?_⟩;exact(h.bel.grown hg h.bel.size (fun k hk=>(World.ownsRow.lt h.own k hk).1)).setCell (p:=⟨T,1,none⟩) h.tlo _
end Go.Proofs.YtnomcldpbkinmaaGreatDoor.Tg
