/- Lemmas of the claim. -/
import Derived.Test.YtiaebhomfebagaaGreatDoorG10
import Derived.Deep.QuietTactic
import Derived.BigQuiet
set_option maxHeartbeats 4000000
set_option maxRecDepth 100000
set_option linter.unusedSimpArgs false
set_option linter.unusedVariables false
namespace Go.Proofs.YtiaebhomfebagaaGreatDoor.Tg
open Go.RowKit
def rwC (x:ByteArray × ByteArray):List Value:=[.string x.1,.string x.2]
def rwL (l:List (ByteArray × ByteArray)):List Value:=l.flatMap rwC
def amW (w:World)(B:Nat)(v:Value)(l:List (ByteArray × ByteArray)):Prop:=w.ownsRow B 167 2 v l.length (rwL l)
theorem afk (l:List (ByteArray × ByteArray))(t:ByteArray × ByteArray):rwL (l++[t])=rwL l++rwC t:=by unfold rwL;simp
theorem own_ne {w:World}{B:Nat}{e T:TypeId}{z:Nat}{v:Value}{n:Nat}{xs:List Value}{b:Nat}{cs:Array Value}{fr:Nat × Nat}(hown:w.ownsRow B e z v n xs)(hb:w.heap[b]?=some (.cells cs T fr))(hTe:T≠e):v.ownBlock≠some b:=by
 rcases hown.2 with ⟨rfl,_⟩ | ⟨g,cap,cur,rfl,_,hg,_⟩
 · simp[Value.ownBlock]
 · intro h;simp only[Value.ownBlock,Option.some.injEq] at h;subst h;rw[hg] at hb;injection hb with hb
   injection hb with _ h2 _
   exact hTe h2.symm
structure RS (w0:World)(g:Nat)(u nm:ByteArray)(v:Value)(l:List (ByteArray × ByteArray))(w:World):Prop where
 lo:w0.heap.size≤g
 blk:w.heap[g]?=some (.cells #[.string u,.string nm,v] 134 (0,0))
 own:amW w w0.heap.size v l
 bel:Below w0.heap.size w0 w
 vr0:Vars w0
theorem RS.lt {w0 w:World}{g:Nat}{u nm:ByteArray}{v:Value}{l:List (ByteArray × ByteArray)}(h:RS w0 g u nm v l w):g < w.heap.size:=(Array.getElem?_eq_some_iff.1 h.blk).1
theorem RS.vr {w0 w:World}{g:Nat}{u nm:ByteArray}{v:Value}{l:List (ByteArray × ByteArray)}(h:RS w0 g u nm v l w):Vars w:=h.vr0.keep h.bel h.vr0.1
theorem RS.after {w0 w w':World}{g:Nat}{u nm:ByteArray}{v:Value}{l:List (ByteArray × ByteArray)}(h:RS w0 g u nm v l w)(hb:Below w.heap.size w w'):RS w0 g u nm v l w':=
 ⟨h.lo,(hb.block g h.lt).trans h.blk,aaj h.own hb,h.bel.trans (hb.mono h.bel.size),h.vr0⟩
theorem RS.c0 {w0 w:World}{g:Nat}{u nm:ByteArray}{v:Value}{l:List (ByteArray × ByteArray)}(h:RS w0 g u nm v l w):w.cell? ⟨g,0,none⟩=some (.string u):=by rw[Lib.cell_of_heap h.blk];rfl
theorem RS.c1 {w0 w:World}{g:Nat}{u nm:ByteArray}{v:Value}{l:List (ByteArray × ByteArray)}(h:RS w0 g u nm v l w):w.cell? ⟨g,1,none⟩=some (.string nm):=by rw[Lib.cell_of_heap h.blk];rfl
theorem RS.c2 {w0 w:World}{g:Nat}{u nm:ByteArray}{v:Value}{l:List (ByteArray × ByteArray)}(h:RS w0 g u nm v l w):w.cell? ⟨g,2,none⟩=some v:=by rw[Lib.cell_of_heap h.blk];rfl
theorem RS.fz {w0 w:World}{g:Nat}{u nm:ByteArray}{v:Value}{l:List (ByteArray × ByteArray)}(h:RS w0 g u nm v l w)(j:Nat):w.frozen? ⟨g,j,none⟩=false:=Lib.frozen_of_heap h.blk j
theorem aar {w:World}{B g:Nat}{T:TypeId}{v:Value}{l:List (ByteArray × ByteArray)}{cs:Array Value}{fr:Nat × Nat}(h:amW w B v l)(hb:w.heap[g]?=some (.cells cs T fr))(hT:T≠167)(j:Nat)(x:Value):amW (w.setCell ⟨g,j,none⟩ x) B v l:=
 World.ownsRow.kept (row:=some g) h ⟨rfl,rfl,rfl,by simp[World.setCell],fun k _ hk=>Below.heap_setCell _ _ _ _ (fun e=>hk (by simp[e]))⟩ (Or.inr (own_ne h hb hT))
theorem RS.left {w0 w:World}{g:Nat}{u nm:ByteArray}{v:Value}{l:List (ByteArray × ByteArray)}(h:RS w0 g u nm v l w)(u':ByteArray):RS w0 g u' nm v l (w.setCell ⟨g,0,none⟩ (.string u')):=
 ⟨h.lo,by simp[World.setCell,Array.getElem?_modify,h.blk],aar h.own h.blk (by decide) 0 _,h.bel.setCell (p:=⟨g,0,none⟩) h.lo _,h.vr0⟩
theorem RS.name {w0 w:World}{g:Nat}{u nm:ByteArray}{v:Value}{l:List (ByteArray × ByteArray)}(h:RS w0 g u nm v l w)(n':ByteArray):RS w0 g u n' v l (w.setCell ⟨g,1,none⟩ (.string n')):=
 ⟨h.lo,by simp[World.setCell,Array.getElem?_modify,h.blk],aar h.own h.blk (by decide) 1 _,h.bel.setCell (p:=⟨g,1,none⟩) h.lo _,h.vr0⟩
def aeF (a:Value)(w:World)(w0:World)(g:Nat)(u nm:ByteArray)(v:Value)(l:List (ByteArray × ByteArray))(e:Ending)(w':World):Prop:=e=.returned a∧RS w0 g u nm v l w'∧w.grownBy w' (some g)
theorem aqk (w:World)(g:Nat):w.grownBy w (some g):=⟨rfl,rfl,rfl,Nat.le_refl _,fun _ _ _=>rfl⟩
theorem abK {a b c:World}{g:Nat}(h:a.grownBy b (some g))(k:b.grownBy c (some g)):a.grownBy c (some g):=
 ⟨k.os.trans h.os,k.tape.trans h.tape,k.output.trans h.output,Nat.le_trans h.size k.size,fun i hi hne=>(k.block i (Nat.lt_of_lt_of_le hi h.size) hne).trans (h.block i hi hne)⟩
theorem abA {w w':World}(g:Nat)(h:Below w.heap.size w w'):w.grownBy w' (some g):=⟨h.os,h.tape,h.output,h.size,fun k hk _=>h.block k hk⟩
theorem ajo {w w':World}{g:Nat}(h:w.grownBy w' (some g))(j:Nat)(x:Value):w.grownBy (w'.setCell ⟨g,j,none⟩ x) (some g):=
 ⟨h.os,h.tape,h.output,by simpa [World.setCell] using h.size,fun k hk hne=>(Below.heap_setCell _ _ _ _ (fun e=>hne (by rw[e]))).trans (h.block k hk hne)⟩
theorem aii (w0:World)(g:Nat)(u nm:ByteArray)(v:Value)(l:List (ByteArray × ByteArray))(w:World)(h:RS w0 g u nm v l w)(b:Bool)(hb:decide (u.size=0)=b):
 Calls Tryz.prog 99 #[.pointer (some ⟨g,0,none⟩)] w (aeF (.bool b) w w0 g u nm v l):=by
 have HS:=aac h;have c0:=h.c0;have hq:u.toList.isEmpty=b:=(Nz.isE u).trans hb;clear h hb;go_enter Tryz.func99,Tryz.ntmps99;go_wp2;go_ret;exact⟨rfl,HS.out,aqk _ _⟩
theorem axv (b:UInt8):([9,10,13,32]:List UInt8).contains b=aaZ (b.toNat:Int):=by
 unfold aaZ;have e:∀ n:Nat,n < 256→([9,10,13,32]:List UInt8).contains (UInt8.ofNat n)=decide (Blank (n:Int)):=(by decide+kernel);have:=e b.toNat b.toNat_lt
 rwa [UInt8.ofNat_toNat] at this
theorem ahA:∀ (l:List UInt8),((l.dropWhile ([9,10,13,32]:List UInt8).contains).map fun b=>(b.toNat:Int))=(l.map fun b=>(b.toNat:Int)).drop ((l.map fun b=>(b.toNat:Int)).takeWhile aaZ).length
 | []=>rfl
 | b :: l=>by
   by_cases h:aaZ (b.toNat:Int)=true
   · rw[List.dropWhile_cons_of_pos (by rw[axv];exact h),ahA l,List.map_cons,List.takeWhile_cons_of_pos h,List.length_cons,List.drop_succ_cons]
   · rw[List.dropWhile_cons_of_neg (by rw[axv];exact h),List.map_cons,List.takeWhile_cons_of_neg h,List.length_nil,List.drop_zero]
theorem aya (u:ByteArray):(⟨(Lib.trimLeftS u.data.toList (⟨#[9,10,13,32]⟩:ByteArray).data.toList).toArray⟩:ByteArray)=sk u:=by
 apply aaW;unfold sk;rw[abw];exact ahA u.data.toList
theorem aty (u:ByteArray)(w:World):Calls Tryz.prog 124 #[.string u,.string ⟨#[9,10,13,32]⟩] w fun e w'=>e=.returned (.string (sk u))∧Below w.heap.size w w':=by
 rw[← aya u];exact Tryz.strings_TrimLeft_laid u ⟨#[9,10,13,32]⟩ w (by decide) (ascii_of_all (by decide))
theorem acy (w0:World)(g:Nat)(u nm:ByteArray)(v:Value)(l:List (ByteArray × ByteArray))(w:World)(h:RS w0 g u nm v l w)(hs:u.size≤1000000000000)(b:Bool)(hb:decide (bk u≠0)=b):
 Calls Tryz.prog 98 #[.pointer (some ⟨g,0,none⟩)] w (aeF (.bool b) w w0 g (sk u) nm v l):=by
 have HS:=aac h;have c0:=h.c0;have CT:=aac (aty u)
 have hq:decide ((sk u).size < u.size)=b:=by
  rw[← hb,abo];have:=a5g u;rw[decide_eq_decide];omega
 have hle:(sk u).size≤u.size:=by rw[abo];omega
 generalize sk u=u' at *;clear h hb;go_enter Tryz.func98,Tryz.ntmps98;go_wp2_with fail;refine(CT.out _).mono ?_;rintro e w1 ⟨rfl,hb1⟩;have HS1:=aac (HS.out.after hb1);have d0:=HS1.out.c0;have f0:=HS1.out.fz 0;have G1:=aac (abA g hb1);clear hb1 HS CT c0;go_wp2;go_ret;exact⟨rfl,HS1.out.left u',ajo G1.out _ _⟩
theorem aqh (w0:World)(g:Nat)(u u' nm m:ByteArray)(b:Bool)(v:Value)(l:List (ByteArray × ByteArray))(w:World)(h:RS w0 g u nm v l w)
 (C:Hid (∀ w,Calls Tryz.prog 66 #[.string u,.string m] w fun e w'=>e=.returned (.tuple #[.string u',.bool b])∧w=w')):
 Calls Tryz.prog 152 #[.pointer (some ⟨g,0,none⟩),.string m] w (aeF (.bool b) w w0 g u' nm v l):=by
 have HS:=aac h;have c0:=h.c0;have f0:=h.fz 0;clear h;go_enter Tryz.func152,Tryz.ntmps152;go_wp2_with fail;refine(C.out _).mono ?_;rintro e w1 ⟨rfl,rfl⟩;clear C;go_wp2;go_ret;exact⟨rfl,HS.out.left u',ajo (aqk _ _) _ _⟩
theorem adL (w0:World)(g:Nat)(u nm:ByteArray)(c:UInt8)(v:Value)(l:List (ByteArray × ByteArray))(w:World)(h:RS w0 g u nm v l w)(hc:c.toNat≠0)(hh:hd u=(c.toNat:Int)):
 Calls Tryz.prog 152 #[.pointer (some ⟨g,0,none⟩),.string ⟨#[c]⟩] w (aeF (.bool true) w w0 g (Nz.fr u 1) nm v l):=
 aqh w0 g u (Nz.fr u 1) nm _ true v l w h (aac fun w=>amB u c hc hh w)
theorem agO (w0:World)(g:Nat)(u nm:ByteArray)(c:UInt8)(v:Value)(l:List (ByteArray × ByteArray))(w:World)(h:RS w0 g u nm v l w)(hh:hd u≠(c.toNat:Int)):
 Calls Tryz.prog 152 #[.pointer (some ⟨g,0,none⟩),.string ⟨#[c]⟩] w (aeF (.bool false) w w0 g u nm v l):=
 aqh w0 g u u nm _ false v l w h (aac fun w=>atY u c hh w)
theorem aou (s:ByteArray)(w:World)(hs:s.size≤1000000000000):Calls Tryz.prog 22 #[.string s] w fun e w'=>e=.returned (.string s)∧Below w.heap.size w w':=by
 have C:=aac (fun w=>aaB s w hs);go_enter Tryz.func22,Tryz.ntmps22;go_wp2_with fail;refine(C.out _).mono ?_;rintro e w1 ⟨rfl,hb⟩;go_wp2;go_ret;exact⟨rfl,hb⟩
theorem apQ (w0:World)(g:Nat)(u nm:ByteArray)(v:Value)(l:List (ByteArray × ByteArray))(w:World)(h:RS w0 g u nm v l w)(hs:u.size≤1000000000000)(hn:isN (Nz.sx u 0)=false):
 Calls Tryz.prog 97 #[.pointer (some ⟨g,0,none⟩)] w (aeF (.tuple #[.string ⟨#[]⟩,.int .i64 4]) w w0 g u nm v l):=by
 have HS:=aac h;have c0:=h.c0;have CC:=aac (fun w=>Nz.aqC u 0 hs (Nat.zero_le _) w);have hz:=auD u;have CS:=aac (fun w=>Nz.afc (Nz.sx u 0) (by omega) w);unfold isN at hn;rw[hn] at CS;generalize Nz.sn u 0=n at *;generalize Nz.sx u 0=x at *;generalize (Nz.aak x).1=p at *;generalize (Nz.aak x).2.1=q at *;clear h hn hz;go_enter Tryz.func97,Tryz.ntmps97;go_wp2_with fail;refine(CC.out _).mono ?_;rintro e w1 ⟨rfl,hb1⟩;have HS1:=aac (HS.out.after hb1);have G1:=aac (abA g hb1);clear hb1 HS CC c0;go_wp2_with fail;refine(CS.out _).mono ?_;rintro e w2 ⟨rfl,hb2⟩;have HS2:=aac (HS1.out.after hb2);have G2:=aac (abK G1.out (abA g hb2));clear hb2 HS1 CS;go_wp2;go_ret2;exact⟨rfl,HS2.out,G2.out⟩
theorem afP (w0:World)(g:Nat)(u nm:ByteArray)(v:Value)(l:List (ByteArray × ByteArray))(w:World)(h:RS w0 g u nm v l w)(hs:u.size≤1000000000000)(hn:isN (Nz.sx u 0)=true):
 Calls Tryz.prog 97 #[.pointer (some ⟨g,0,none⟩)] w (aeF (.tuple #[.string (Nz.sx u 0),.int .i64 0]) w w0 g (Nz.fr u (Nz.sn u 0)) nm v l):=by
 have HS:=aac h;have c0:=h.c0;have CC:=aac (fun w=>Nz.aqC u 0 hs (Nat.zero_le _) w);have hz:=auD u;have CS:=aac (fun w=>Nz.afc (Nz.sx u 0) (by omega) w);have CL:=aac (fun w=>aou (Nz.sx u 0) w (by omega));have hle:=Nz.a4R u 0;have HF:Hid (Nz.fr u (Nz.sn u 0)=u.extract (Nz.sn u 0) u.size):=aac rfl;unfold isN at hn;rw[hn] at CS;generalize Nz.fr u (Nz.sn u 0)=t at *;generalize Nz.sn u 0=n at *;generalize Nz.sx u 0=x at *;generalize (Nz.aak x).1=p at *;generalize (Nz.aak x).2.1=q at *;have i1:(0:Int)≤(n:Int):=(by omega);have i2:(n:Int)≤(u.size:Int):=(by omega);clear h hn hz;go_enter Tryz.func97,Tryz.ntmps97;go_wp2_with fail;refine(CC.out _).mono ?_;rintro e w1 ⟨rfl,hb1⟩;have HS1:=aac (HS.out.after hb1);have G1:=aac (abA g hb1);clear hb1 HS CC c0;go_wp2_with fail;refine(CS.out _).mono ?_;rintro e w2 ⟨rfl,hb2⟩;have HS2:=aac (HS1.out.after hb2);have c2:=HS2.out.c0;have f2:=HS2.out.fz 0;have G2:=aac (abK G1.out (abA g hb2));clear hb2 HS1 CS;go_wp2_with fail;refine(CL.out _).mono ?_;rintro e w3 ⟨rfl,hb3⟩;have HS3:=aac ((HS2.out.left (u.extract n u.size)).after hb3);have G3:=aac (abK (ajo G2.out 0 (.string (u.extract n u.size))) (abA g hb3));clear hb3 HS2 CL c2 f2;go_wp2;go_ret2;rw[HF.out];exact⟨rfl,HS3.out,G3.out⟩
end Go.Proofs.YtiaebhomfebagaaGreatDoor.Tg
namespace Go.Proofs.YtiaebhomfebagaaGreatDoor.Tg
open Go.RowKit
theorem ibq (q:UInt8):∀ (l:List UInt8),(Lib.indexByte l q= -1∧q ∉ l)∨∃ i:Nat,Lib.indexByte l q=i∧i < l.length∧l[i]?=some q∧∀ j,j < i→l[j]?≠some q
 | []=>.inl ⟨rfl,by simp⟩
 | b :: l=>by
   unfold Lib.indexByte;by_cases hb:b=q
   · subst hb;exact .inr ⟨0,by simp,by simp,by simp,by simp⟩
   · have hb1:(b == q)=false:=(by simpa using hb);rw[hb1];rcases ibq q l with ⟨h1,h2⟩ | ⟨i,h1,h2,h3,h4⟩
     · refine .inl ⟨by rw[h1];rfl,?_⟩;rw[List.mem_cons];rintro (h | h)
       · exact hb h.symm
       · exact h2 h
     · refine .inr ⟨i+1,?_,by simp;omega,by simpa using h3,?_⟩
       · rw[h1];have:(((i:Int)) == -1)=false:=by rw[beq_eq_false_iff_ne];omega
         simp[this]
       · intro j hj
         cases j with
         | zero=>simpa using hb
         | succ j=>simpa using h4 j (by omega)
theorem azt (u:ByteArray)(q:UInt8)(j:Nat)(hj:j < u.size):(aad u).getD j 0=(q.toNat:Int)↔u.data.toList[j]?=some q:=by
 have hl:j < u.data.toList.length:=by rw[← Lib.size_eq];exact hj
 unfold aad;rw[List.getD_eq_getElem?_getD,List.getElem?_map,List.getElem?_eq_getElem hl];simp only[Option.map_some,Option.getD_some,Option.some.injEq];constructor
 · intro h;exact UInt8.toNat_inj.1 (by omega)
 · intro h;rw[h]
theorem aeB (q:UInt8)(u:ByteArray):(qi q u= -1∧∀ j,j < u.size→(aad u).getD j 0≠(q.toNat:Int))∨∃ i:Nat,qi q u=i∧i < u.size∧(aad u).getD i 0=(q.toNat:Int)∧∀ j,j < i→(aad u).getD j 0≠(q.toNat:Int):=by
 rcases ibq q u.data.toList with ⟨h1,h2⟩ | ⟨i,h1,h2,h3,h4⟩
 · refine .inl ⟨h1,fun j hj e=>h2 ?_⟩;exact List.mem_of_getElem? ((azt u q j hj).1 e)
 · have hi:i < u.size:=by rw[Lib.size_eq];exact h2
   exact .inr ⟨i,h1,hi,(azt u q i hi).2 h3,fun j hj e=>h4 j hj ((azt u q j (by omega)).1 e)⟩
theorem a0R (q:UInt8)(u:ByteArray)(h:∀ j,j < u.size→(aad u).getD j 0≠(q.toNat:Int)):qi q u= -1:=by
 rcases aeB q u with ⟨h1,_⟩ | ⟨i,_,h2,h3,_⟩
 · exact h1
 · exact absurd h3 (h i h2)
theorem asD (q:UInt8)(u:ByteArray)(i:Nat)(hi:i < u.size)(he:(aad u).getD i 0=(q.toNat:Int))(h:∀ j,j < i→(aad u).getD j 0≠(q.toNat:Int)):qi q u=i:=by
 rcases aeB q u with ⟨h1,h2⟩ | ⟨k,h1,h2,h3,h4⟩
 · exact absurd he (h2 i hi)
 · have:k=i:=by
    rcases Nat.lt_trichotomy k i with hlt | heq | hgt
    · exact absurd h3 (h k hlt)
    · exact heq
    · exact absurd he (h4 i hgt)
   rw[h1,this]
theorem ajO (s:ByteArray)(w:World):
 Calls Tryz.prog 93 #[.string s,.string ⟨#[34]⟩] w fun e w'=>e=.returned (.int .i64 (qi 34 s))∧w=w':=by
 go_enter Tryz.func93,Tryz.ntmps93;go_wp2_with (go_at_call 118;refine(aes _ _ _).mono ?_;rintro e w' ⟨rfl,rfl⟩)
 · have h:([34] == s.toList)=true:=(by assumption);go_ret;refine⟨?_,rfl⟩;have e:s.data.toList=[34]:=by rw[← Lib.toList_data];exact(beq_iff_eq.1 h).symm
   unfold qi;rw[e];rfl
 · go_ret;exact⟨rfl,rfl⟩
theorem aoj (s:ByteArray)(i:Nat)(h:qi 34 s=i)(hi:i < s.size)(hs:s.size≤1000000000000)(w:World):
 Calls Tryz.prog 156 #[.string s,.string ⟨#[34]⟩] w fun e w'=>e=.returned (.tuple #[.string (s.extract 0 i),.string (s.extract (i+1) s.size),.bool true])∧Below w.heap.size w w':=by
 have CI:=aac (ajO s);rw[h] at CI;clear h;have c1:(0:Int)≤(i:Int):=(by omega);have c2:(i:Int)≤(s.size:Int):=(by omega);have c3:(0:Int)≤(i:Int)+1:=(by omega);have c4:(i:Int)+1≤(s.size:Int):=(by omega);have c5:decide ((0:Int)≤(i:Int))=true:=(by simp);have q3:((i:Int)+1).toNat=i+1:=(by omega);have q2:IntKind.i64.wrap ((i:Int)+1)=(i:Int)+1:=IntWalk.i64_in _ (by omega);go_enter Tryz.func156,Tryz.ntmps156;go_wp2_with (go_at_call 93;refine(CI.out _).mono ?_;rintro e w' ⟨rfl,rfl⟩);go_quiet (fail);go_wp2;go_ret3;exact⟨rfl,below_drewN (Below.refl _ _) _⟩
theorem akO (s:ByteArray)(h:qi 34 s= -1)(w:World):
 Calls Tryz.prog 156 #[.string s,.string ⟨#[34]⟩] w fun e w'=>e=.returned (.tuple #[.string s,.string ⟨#[]⟩,.bool false])∧Below w.heap.size w w':=by
 have CI:=aac (ajO s);rw[h] at CI;clear h;go_enter Tryz.func156,Tryz.ntmps156;go_wp2_with (go_at_call 93;refine(CI.out _).mono ?_;rintro e w' ⟨rfl,rfl⟩);go_ret3;exact⟨rfl,Below.refl _ _⟩
theorem anU (s:ByteArray)(i:Nat)(h:qi 34 s=i)(hi:i < s.size)(hs:s.size≤1000000000000)(w:World):
 Calls Tryz.prog 128 #[.string s,.string ⟨#[34]⟩] w fun e w'=>e=.returned (.tuple #[.string (s.extract 0 i),.string (s.extract (i+1) s.size),.bool true])∧Below w.heap.size w w':=by
 have CL:=aac (aoj s i h hi hs);clear h hi hs;go_enter Tryz.func128,Tryz.ntmps128;go_wp2_with (go_at_call 156;refine(CL.out _).mono ?_;rintro e w' ⟨rfl,hb⟩);go_ret3;exact⟨rfl,hb⟩
theorem akH (s:ByteArray)(h:qi 34 s= -1)(w:World):
 Calls Tryz.prog 128 #[.string s,.string ⟨#[34]⟩] w fun e w'=>e=.returned (.tuple #[.string s,.string ⟨#[]⟩,.bool false])∧Below w.heap.size w w':=by
 have CL:=aac (akO s h);clear h;go_enter Tryz.func128,Tryz.ntmps128;go_wp2_with (go_at_call 156;refine(CL.out _).mono ?_;rintro e w' ⟨rfl,hb⟩);go_ret3;exact⟨rfl,hb⟩
theorem aju (s:ByteArray)(w:World):
 Calls Tryz.prog 93 #[.string s,.string ⟨#[39]⟩] w fun e w'=>e=.returned (.int .i64 (qi 39 s))∧w=w':=by
 go_enter Tryz.func93,Tryz.ntmps93;go_wp2_with (go_at_call 118;refine(aes _ _ _).mono ?_;rintro e w' ⟨rfl,rfl⟩)
 · have h:([39] == s.toList)=true:=(by assumption);go_ret;refine⟨?_,rfl⟩;have e:s.data.toList=[39]:=by rw[← Lib.toList_data];exact(beq_iff_eq.1 h).symm
   unfold qi;rw[e];rfl
 · go_ret;exact⟨rfl,rfl⟩
theorem aoq (s:ByteArray)(i:Nat)(h:qi 39 s=i)(hi:i < s.size)(hs:s.size≤1000000000000)(w:World):
 Calls Tryz.prog 156 #[.string s,.string ⟨#[39]⟩] w fun e w'=>e=.returned (.tuple #[.string (s.extract 0 i),.string (s.extract (i+1) s.size),.bool true])∧Below w.heap.size w w':=by
 have CI:=aac (aju s);rw[h] at CI;clear h;have c1:(0:Int)≤(i:Int):=(by omega);have c2:(i:Int)≤(s.size:Int):=(by omega);have c3:(0:Int)≤(i:Int)+1:=(by omega);have c4:(i:Int)+1≤(s.size:Int):=(by omega);have c5:decide ((0:Int)≤(i:Int))=true:=(by simp);have q3:((i:Int)+1).toNat=i+1:=(by omega);have q2:IntKind.i64.wrap ((i:Int)+1)=(i:Int)+1:=IntWalk.i64_in _ (by omega);go_enter Tryz.func156,Tryz.ntmps156;go_wp2_with (go_at_call 93;refine(CI.out _).mono ?_;rintro e w' ⟨rfl,rfl⟩);go_quiet (fail);go_wp2;go_ret3;exact⟨rfl,below_drewN (Below.refl _ _) _⟩
theorem alh (s:ByteArray)(h:qi 39 s= -1)(w:World):
 Calls Tryz.prog 156 #[.string s,.string ⟨#[39]⟩] w fun e w'=>e=.returned (.tuple #[.string s,.string ⟨#[]⟩,.bool false])∧Below w.heap.size w w':=by
 have CI:=aac (aju s);rw[h] at CI;clear h;go_enter Tryz.func156,Tryz.ntmps156;go_wp2_with (go_at_call 93;refine(CI.out _).mono ?_;rintro e w' ⟨rfl,rfl⟩);go_ret3;exact⟨rfl,Below.refl _ _⟩
theorem anP (s:ByteArray)(i:Nat)(h:qi 39 s=i)(hi:i < s.size)(hs:s.size≤1000000000000)(w:World):
 Calls Tryz.prog 128 #[.string s,.string ⟨#[39]⟩] w fun e w'=>e=.returned (.tuple #[.string (s.extract 0 i),.string (s.extract (i+1) s.size),.bool true])∧Below w.heap.size w w':=by
 have CL:=aac (aoq s i h hi hs);clear h hi hs;go_enter Tryz.func128,Tryz.ntmps128;go_wp2_with (go_at_call 156;refine(CL.out _).mono ?_;rintro e w' ⟨rfl,hb⟩);go_ret3;exact⟨rfl,hb⟩
theorem alz (s:ByteArray)(h:qi 39 s= -1)(w:World):
 Calls Tryz.prog 128 #[.string s,.string ⟨#[39]⟩] w fun e w'=>e=.returned (.tuple #[.string s,.string ⟨#[]⟩,.bool false])∧Below w.heap.size w w':=by
 have CL:=aac (alh s h);clear h;go_enter Tryz.func128,Tryz.ntmps128;go_wp2_with (go_at_call 156;refine(CL.out _).mono ?_;rintro e w' ⟨rfl,hb⟩);go_ret3;exact⟨rfl,hb⟩
end Go.Proofs.YtiaebhomfebagaaGreatDoor.Tg
namespace Go.Proofs.YtiaebhomfebagaaGreatDoor.Tg
open Go.RowKit
theorem u34:((34:UInt8).toNat:Int)=34:=rfl
theorem u39:((39:UInt8).toNat:Int)=39:=rfl
theorem u61:((61:UInt8).toNat:Int)=61:=rfl
theorem alu (w0:World)(g:Nat)(u nm:ByteArray)(v:Value)(l:List (ByteArray × ByteArray))(w:World)(h:RS w0 g u nm v l w)(h1:hd u≠34)(h2:hd u≠39):
 Calls Tryz.prog 153 #[.pointer (some ⟨g,0,none⟩)] w (aeF (.tuple #[.string ⟨#[]⟩,.int .i64 6]) w w0 g u nm v l):=by
 have C1:=aac (agO w0 g u nm 34 v l w h (by rw[u34];exact h1));have C2:=aac (fun w h=>agO w0 g u nm 39 v l w h (by rw[u39];exact h2));clear h h1 h2;go_enter Tryz.func153,Tryz.ntmps153;go_wp2_with fail;refine C1.out.mono ?_;rintro e w1 ⟨rfl,hr1,hg1⟩;have HR1:=aac hr1;have HG1:=aac hg1;clear hr1 hg1 C1;go_wp2_with fail;refine(C2.out _ HR1.out).mono ?_;rintro e w2 ⟨rfl,hr2,hg2⟩;have HR2:=aac hr2;have HG2:=aac (abK HG1.out hg2);clear hr2 hg2 C2 HR1;go_wp2;go_ret2;exact⟨rfl,HR2.out,HG2.out⟩
theorem apJ (w0:World)(g:Nat)(u nm a b:ByteArray)(ok:Bool)(v:Value)(l:List (ByteArray × ByteArray))(w:World)(h:RS w0 g u nm v l w)(h1:hd u=34)
 (CC:Hid (∀ w,Calls Tryz.prog 128 #[.string (Nz.fr u 1),.string ⟨#[34]⟩] w fun e w'=>e=.returned (.tuple #[.string a,.string b,.bool true])∧Below w.heap.size w w')):
 Calls Tryz.prog 153 #[.pointer (some ⟨g,0,none⟩)] w (aeF (.tuple #[.string a,.int .i64 0]) w w0 g b nm v l):=by
 have C1:=aac (adL w0 g u nm 34 v l w h (by decide) (by rw[u34];exact h1));generalize Nz.fr u 1=u1 at *;clear h h1;go_enter Tryz.func153,Tryz.ntmps153;go_wp2_with fail;refine C1.out.mono ?_;rintro e w1 ⟨rfl,hr1,hg1⟩;have HR1:=aac hr1;have HG1:=aac hg1;have c1:=hr1.c0;clear hr1 hg1 C1;go_wp2_with fail;refine(CC.out _).mono ?_;rintro e w2 ⟨rfl,hb2⟩;have HR2:=aac (HR1.out.after hb2);have HG2:=aac (abK HG1.out (abA g hb2));have c2:=HR2.out.c0;have f2:=HR2.out.fz 0;clear hb2 CC HR1 HG1 c1;go_wp2;go_ret2;exact⟨rfl,HR2.out.left b,ajo HG2.out _ _⟩
theorem anR (w0:World)(g:Nat)(u nm a b:ByteArray)(v:Value)(l:List (ByteArray × ByteArray))(w:World)(h:RS w0 g u nm v l w)(h1:hd u=34)
 (CC:Hid (∀ w,Calls Tryz.prog 128 #[.string (Nz.fr u 1),.string ⟨#[34]⟩] w fun e w'=>e=.returned (.tuple #[.string a,.string b,.bool false])∧Below w.heap.size w w')):
 Calls Tryz.prog 153 #[.pointer (some ⟨g,0,none⟩)] w (aeF (.tuple #[.string ⟨#[]⟩,.int .i64 6]) w w0 g (Nz.fr u 1) nm v l):=by
 have C1:=aac (adL w0 g u nm 34 v l w h (by decide) (by rw[u34];exact h1));generalize Nz.fr u 1=u1 at *;clear h h1;go_enter Tryz.func153,Tryz.ntmps153;go_wp2_with fail;refine C1.out.mono ?_;rintro e w1 ⟨rfl,hr1,hg1⟩;have HR1:=aac hr1;have HG1:=aac hg1;have c1:=hr1.c0;clear hr1 hg1 C1;go_wp2_with fail;refine(CC.out _).mono ?_;rintro e w2 ⟨rfl,hb2⟩;have HR2:=aac (HR1.out.after hb2);have HG2:=aac (abK HG1.out (abA g hb2));clear hb2 CC HR1 HG1 c1;go_wp2;go_ret2;exact⟨rfl,HR2.out,HG2.out⟩
theorem aqa (w0:World)(g:Nat)(u nm a b:ByteArray)(v:Value)(l:List (ByteArray × ByteArray))(w:World)(h:RS w0 g u nm v l w)(h1:hd u=39)
 (CC:Hid (∀ w,Calls Tryz.prog 128 #[.string (Nz.fr u 1),.string ⟨#[39]⟩] w fun e w'=>e=.returned (.tuple #[.string a,.string b,.bool true])∧Below w.heap.size w w')):
 Calls Tryz.prog 153 #[.pointer (some ⟨g,0,none⟩)] w (aeF (.tuple #[.string a,.int .i64 0]) w w0 g b nm v l):=by
 have C0:=aac (agO w0 g u nm 34 v l w h (by rw[u34,h1];decide));have C1:=aac (fun w h=>adL w0 g u nm 39 v l w h (by decide) (by rw[u39];exact h1));generalize Nz.fr u 1=u1 at *;clear h h1;go_enter Tryz.func153,Tryz.ntmps153;go_wp2_with fail;refine C0.out.mono ?_;rintro e w1 ⟨rfl,hr1,hg1⟩;have HR0:=aac hr1;have HG0:=aac hg1;clear hr1 hg1 C0;go_wp2_with fail;refine(C1.out _ HR0.out).mono ?_;rintro e w1 ⟨rfl,hr1,hg1⟩;have HR1:=aac hr1;have HG1:=aac (abK HG0.out hg1);have c1:=hr1.c0;clear hr1 hg1 C1 HR0 HG0;go_wp2_with fail;refine(CC.out _).mono ?_;rintro e w2 ⟨rfl,hb2⟩;have HR2:=aac (HR1.out.after hb2);have HG2:=aac (abK HG1.out (abA g hb2));have c2:=HR2.out.c0;have f2:=HR2.out.fz 0;clear hb2 CC HR1 HG1 c1;go_wp2;go_ret2;exact⟨rfl,HR2.out.left b,ajo HG2.out _ _⟩
theorem anW (w0:World)(g:Nat)(u nm a b:ByteArray)(v:Value)(l:List (ByteArray × ByteArray))(w:World)(h:RS w0 g u nm v l w)(h1:hd u=39)
 (CC:Hid (∀ w,Calls Tryz.prog 128 #[.string (Nz.fr u 1),.string ⟨#[39]⟩] w fun e w'=>e=.returned (.tuple #[.string a,.string b,.bool false])∧Below w.heap.size w w')):
 Calls Tryz.prog 153 #[.pointer (some ⟨g,0,none⟩)] w (aeF (.tuple #[.string ⟨#[]⟩,.int .i64 6]) w w0 g (Nz.fr u 1) nm v l):=by
 have C0:=aac (agO w0 g u nm 34 v l w h (by rw[u34,h1];decide));have C1:=aac (fun w h=>adL w0 g u nm 39 v l w h (by decide) (by rw[u39];exact h1));generalize Nz.fr u 1=u1 at *;clear h h1;go_enter Tryz.func153,Tryz.ntmps153;go_wp2_with fail;refine C0.out.mono ?_;rintro e w1 ⟨rfl,hr1,hg1⟩;have HR0:=aac hr1;have HG0:=aac hg1;clear hr1 hg1 C0;go_wp2_with fail;refine(C1.out _ HR0.out).mono ?_;rintro e w1 ⟨rfl,hr1,hg1⟩;have HR1:=aac hr1;have HG1:=aac (abK HG0.out hg1);have c1:=hr1.c0;clear hr1 hg1 C1 HR0 HG0;go_wp2_with fail;refine(CC.out _).mono ?_;rintro e w2 ⟨rfl,hb2⟩;have HR2:=aac (HR1.out.after hb2);have HG2:=aac (abK HG1.out (abA g hb2));clear hb2 CC HR1 HG1 c1;go_wp2;go_ret2;exact⟨rfl,HR2.out,HG2.out⟩
def ads (x:Int × ByteArray × ByteArray × ByteArray)(w0:World)(g:Nat)(nm:ByteArray)(v:Value)(l:List (ByteArray × ByteArray))(e:Ending)(w':World):Prop:=
 ∃ u',e=.returned (.tuple #[.agg #[.string x.2.1,.string x.2.2.1],.int .i64 x.1])∧RS w0 g u' nm v l w'∧(x.1=0→u'=x.2.2.2)
theorem a1Q {x y:Int × ByteArray × ByteArray × ByteArray}{w0 w':World}{g:Nat}{nm:ByteArray}{v:Value}{l:List (ByteArray × ByteArray)}{e:Ending}(h:x=y)(hp:ads y w0 g nm v l e w'):ads x w0 g nm v l e w':=by rw[h];exact hp
structure RB (w0:World)(g r:Nat)(v:Value)(w:World):Prop where
 ne:r≠g
 lo:w0.heap.size≤r
 row:v.ownBlock≠some r
 blk:w.heap[r]?=some (.cells #[.string ⟨#[]⟩,.string ⟨#[]⟩] 167 (0,0))
theorem RB.lt {w0 w:World}{g r:Nat}{v:Value}(h:RB w0 g r v w):r < w.heap.size:=(Array.getElem?_eq_some_iff.1 h.blk).1
theorem RB.after {w0 w w':World}{g r:Nat}{v:Value}(h:RB w0 g r v w)(hg:w.grownBy w' (some g)):RB w0 g r v w':=⟨h.ne,h.lo,h.row,(hg.block r h.lt (by simpa using h.ne)).trans h.blk⟩
theorem RB.below {w0 w w':World}{g r:Nat}{v:Value}(h:RB w0 g r v w)(hg:Below w.heap.size w w'):RB w0 g r v w':=h.after (abA g hg)
theorem RB.c0 {w0 w:World}{g r:Nat}{v:Value}(h:RB w0 g r v w):w.cell? ⟨r,0,none⟩=some (.string ⟨#[]⟩):=by rw[Lib.cell_of_heap h.blk];rfl
theorem RB.c1 {w0 w:World}{g r:Nat}{v:Value}(h:RB w0 g r v w):w.cell? ⟨r,1,none⟩=some (.string ⟨#[]⟩):=by rw[Lib.cell_of_heap h.blk];rfl
theorem RB.fz {w0 w:World}{g r:Nat}{v:Value}(h:RB w0 g r v w)(j:Nat):w.frozen? ⟨r,j,none⟩=false:=Lib.frozen_of_heap h.blk j
theorem RB.new {w0 w:World}{g:Nat}{u nm:ByteArray}{v:Value}{l:List (ByteArray × ByteArray)}(h:RS w0 g u nm v l w):RB w0 g w.heap.size v (w.alloc (.cells #[.string ⟨#[]⟩,.string ⟨#[]⟩] 167)):=by
 have:=h.lt;refine⟨by omega,h.bel.size,fun e=> ?_,heap_alloc_new w _⟩;have:=(World.ownsRow.lt h.own _ e).2;omega
theorem RS.a5Y {w0 w:World}{g r:Nat}{u nm:ByteArray}{v:Value}{l:List (ByteArray × ByteArray)}(h:RS w0 g u nm v l w)(hr:r≠g)(hlo:w0.heap.size≤r)(hrow:v.ownBlock≠some r)(j:Nat)(x:Value):RS w0 g u nm v l (w.setCell ⟨r,j,none⟩ x):=
 ⟨h.lo,(Below.heap_setCell _ _ _ _ (fun e=>hr e.symm)).trans h.blk,
  World.ownsRow.kept (row:=some r) h.own ⟨rfl,rfl,rfl,by simp[World.setCell],fun k _ hk=>Below.heap_setCell _ _ _ _ (fun e=>hk (by simp[e]))⟩ (Or.inr hrow),
  h.bel.setCell (p:=⟨r,j,none⟩) hlo _,h.vr0⟩
theorem RS.res {w0 w:World}{g r:Nat}{u nm:ByteArray}{v:Value}{l:List (ByteArray × ByteArray)}(h:RS w0 g u nm v l w)(hr:RB w0 g r v w)(x y:Value):RS w0 g u nm v l ((w.setCell ⟨r,0,none⟩ x).setCell ⟨r,1,none⟩ y):=
 (h.a5Y hr.ne hr.lo hr.row 0 x).a5Y hr.ne hr.lo hr.row 1 y
theorem akF (w0:World)(g:Nat)(u nm:ByteArray)(v:Value)(l:List (ByteArray × ByteArray))(w:World)(h:RS w0 g u nm v l w)(hs:u.size≤4000000000)(h1:isN (Nz.sx u 0)=false):
 Calls Tryz.prog 125 #[.pointer (some ⟨g,0,none⟩)] w (ads (4,Nz.em,Nz.em,Nz.em) w0 g nm v l):=by
 have HB0:=aac (RB.new h);have HR0:=aac (h.after ((Below.refl _ w).alloc (Nat.le_refl _) (.cells #[.string ⟨#[]⟩,.string ⟨#[]⟩] 167)));have C1:=aac (fun w h=>apQ w0 g u nm v l w h (by omega) h1);clear h h1;go_enter Tryz.func125,Tryz.ntmps125;go_wp2_with fail;refine(C1.out _ HR0.out).mono ?_;rintro e w1 ⟨rfl,hr1,hg1⟩;have HR1:=aac hr1;have HB1:=aac (HB0.out.after hg1);clear hr1 hg1 C1 HR0 HB0;generalize w.heap.size=r at *;have c0:=HB1.out.c0;have c1:=HB1.out.c1;have f0:=HB1.out.fz 0;have f1:=HB1.out.fz 1;go_wp2;exact bodyPost_ret (v:=.tuple #[.agg #[.string ⟨#[]⟩,.string ⟨#[]⟩],.int .i64 4]) (by simp[results,Tryz.results125,go_sem,c0,c1]) rfl ⟨u,rfl,HR1.out.res HB1.out _ _,fun h=>absurd h (by decide)⟩
theorem akK (w0:World)(g:Nat)(u nm:ByteArray)(v:Value)(l:List (ByteArray × ByteArray))(w:World)(h:RS w0 g u nm v l w)(hs:u.size≤4000000000)(h1:isN (Nz.sx u 0)=true)(h2:hd (sk (Nz.fr u (Nz.sn u 0)))≠61):
 Calls Tryz.prog 125 #[.pointer (some ⟨g,0,none⟩)] w (ads (6,Nz.em,Nz.em,Nz.em) w0 g nm v l):=by
 have HB0:=aac (RB.new h);have HR0:=aac (h.after ((Below.refl _ w).alloc (Nat.le_refl _) (.cells #[.string ⟨#[]⟩,.string ⟨#[]⟩] 167)));have C1:=aac (fun w h=>afP w0 g u nm v l w h (by omega) h1);have hz:=Nz.aaD u (Nz.sn u 0);have C2:=aac (fun w h=>acy w0 g (Nz.fr u (Nz.sn u 0)) nm v l w h (by omega) _ rfl);have C3:=aac (fun w h=>agO w0 g (sk (Nz.fr u (Nz.sn u 0))) nm 61 v l w h (by rw[u61];exact h2));clear h h1 h2 hz;generalize sk (Nz.fr u (Nz.sn u 0))=u2 at *;generalize hb2:decide (bk (Nz.fr u (Nz.sn u 0))≠0)=b2 at *;clear hb2;generalize Nz.fr u (Nz.sn u 0)=u1 at *;generalize Nz.sx u 0=x at *;go_enter Tryz.func125,Tryz.ntmps125;go_wp2_with fail;refine(C1.out _ HR0.out).mono ?_;rintro e w1 ⟨rfl,hr1,hg1⟩;have HR1:=aac hr1;have HB1:=aac (HB0.out.after hg1);clear hr1 hg1 C1 HR0 HB0;generalize w.heap.size=r at *;go_wp2_with fail;refine(C2.out _ HR1.out).mono ?_;rintro e w2 ⟨rfl,hr2,hg2⟩;have HR2:=aac hr2;have HB2:=aac (HB1.out.after hg2);clear hr2 hg2 C2 HR1 HB1;go_wp2_with fail;refine(C3.out _ HR2.out).mono ?_;rintro e w3 ⟨rfl,hr3,hg3⟩;have HR3:=aac hr3;have HB3:=aac (HB2.out.after hg3);clear hr3 hg3 C3 HR2 HB2;have c0:=HB3.out.c0;have c1:=HB3.out.c1;have f0:=HB3.out.fz 0;have f1:=HB3.out.fz 1;go_wp2;exact bodyPost_ret (v:=.tuple #[.agg #[.string ⟨#[]⟩,.string ⟨#[]⟩],.int .i64 6]) (by simp[results,Tryz.results125,go_sem,c0,c1]) rfl ⟨_,rfl,HR3.out.res HB3.out _ _,fun h=>absurd h (by decide)⟩
theorem adA (w0:World)(g:Nat)(u u5 nm:ByteArray)(v:Value)(l:List (ByteArray × ByteArray))(w:World)(h:RS w0 g u nm v l w)(hs:u.size≤4000000000)(h1:isN (Nz.sx u 0)=true)(h2:hd (sk (Nz.fr u (Nz.sn u 0)))=61)
 (C5:Hid (∀ w,RS w0 g (sk (Nz.fr (sk (Nz.fr u (Nz.sn u 0))) 1)) nm v l w→Calls Tryz.prog 153 #[.pointer (some ⟨g,0,none⟩)] w (aeF (.tuple #[.string ⟨#[]⟩,.int .i64 6]) w w0 g u5 nm v l))):
 Calls Tryz.prog 125 #[.pointer (some ⟨g,0,none⟩)] w (ads (6,Nz.em,Nz.em,Nz.em) w0 g nm v l):=by
 have HB0:=aac (RB.new h);have HR0:=aac (h.after ((Below.refl _ w).alloc (Nat.le_refl _) (.cells #[.string ⟨#[]⟩,.string ⟨#[]⟩] 167)));have C1:=aac (fun w h=>afP w0 g u nm v l w h (by omega) h1);have hz:=Nz.aaD u (Nz.sn u 0);have hz2:=abo (Nz.fr u (Nz.sn u 0));have hz3:=Nz.aaD (sk (Nz.fr u (Nz.sn u 0))) 1;have C2:=aac (fun w h=>acy w0 g (Nz.fr u (Nz.sn u 0)) nm v l w h (by omega) _ rfl);have C3:=aac (fun w h=>adL w0 g (sk (Nz.fr u (Nz.sn u 0))) nm 61 v l w h (by decide) (by rw[u61];exact h2));have C4:=aac (fun w h=>acy w0 g (Nz.fr (sk (Nz.fr u (Nz.sn u 0))) 1) nm v l w h (by omega) _ rfl);clear h h1 h2 hz hz2 hz3;generalize sk (Nz.fr (sk (Nz.fr u (Nz.sn u 0))) 1)=u4 at *;generalize hb4:decide (bk (Nz.fr (sk (Nz.fr u (Nz.sn u 0))) 1)≠0)=b4 at *;clear hb4;generalize Nz.fr (sk (Nz.fr u (Nz.sn u 0))) 1=u3 at *;generalize sk (Nz.fr u (Nz.sn u 0))=u2 at *;generalize hb2:decide (bk (Nz.fr u (Nz.sn u 0))≠0)=b2 at *;clear hb2;generalize Nz.fr u (Nz.sn u 0)=u1 at *;generalize Nz.sx u 0=x at *;go_enter Tryz.func125,Tryz.ntmps125;go_wp2_with fail;refine(C1.out _ HR0.out).mono ?_;rintro e w1 ⟨rfl,hr1,hg1⟩;have HR1:=aac hr1;have HB1:=aac (HB0.out.after hg1);clear hr1 hg1 C1 HR0 HB0;generalize w.heap.size=r at *;go_wp2_with fail;refine(C2.out _ HR1.out).mono ?_;rintro e w2 ⟨rfl,hr2,hg2⟩;have HR2:=aac hr2;have HB2:=aac (HB1.out.after hg2);clear hr2 hg2 C2 HR1 HB1;go_wp2_with fail;refine(C3.out _ HR2.out).mono ?_;rintro e w3 ⟨rfl,hr3,hg3⟩;have HR3:=aac hr3;have HB3:=aac (HB2.out.after hg3);clear hr3 hg3 C3 HR2 HB2;go_wp2_with fail;refine(C4.out _ HR3.out).mono ?_;rintro e w4 ⟨rfl,hr4,hg4⟩;have HR4:=aac hr4;have HB4:=aac (HB3.out.after hg4);clear hr4 hg4 C4 HR3 HB3;go_wp2_with fail;refine(C5.out _ HR4.out).mono ?_;rintro e w5 ⟨rfl,hr5,hg5⟩;have HR5:=aac hr5;have HB5:=aac (HB4.out.after hg5);clear hr5 hg5 C5 HR4 HB4;have c0:=HB5.out.c0;have c1:=HB5.out.c1;have f0:=HB5.out.fz 0;have f1:=HB5.out.fz 1;go_wp2;exact bodyPost_ret (v:=.tuple #[.agg #[.string ⟨#[]⟩,.string ⟨#[]⟩],.int .i64 6]) (by simp[results,Tryz.results125,go_sem,c0,c1]) rfl ⟨_,rfl,HR5.out.res HB5.out _ _,fun h=>absurd h (by decide)⟩
def vlF (nm a b:ByteArray):Int × ByteArray × ByteArray × ByteArray:=
 if (acF true (aad a)).2.2≠0 then ((acF true (aad a)).2.2,Nz.em,Nz.em,Nz.em) else (0,nm,strOfNums (acF true (aad a)).1,b)
theorem ahb (w0:World)(g:Nat)(u a u5 nm:ByteArray)(v:Value)(l:List (ByteArray × ByteArray))(w:World)(h:RS w0 g u nm v l w)(hs:u.size≤4000000000)(h1:isN (Nz.sx u 0)=true)(h2:hd (sk (Nz.fr u (Nz.sn u 0)))=61)(ha:a.size≤4000000000)
 (C5:Hid (∀ w,RS w0 g (sk (Nz.fr (sk (Nz.fr u (Nz.sn u 0))) 1)) nm v l w→Calls Tryz.prog 153 #[.pointer (some ⟨g,0,none⟩)] w (aeF (.tuple #[.string a,.int .i64 0]) w w0 g u5 nm v l))):
 Calls Tryz.prog 125 #[.pointer (some ⟨g,0,none⟩)] w (ads (vlF (Nz.sx u 0) a u5) w0 g nm v l):=by
 have HB0:=aac (RB.new h);have HR0:=aac (h.after ((Below.refl _ w).alloc (Nat.le_refl _) (.cells #[.string ⟨#[]⟩,.string ⟨#[]⟩] 167)));have C1:=aac (fun w h=>afP w0 g u nm v l w h (by omega) h1);have hz:=Nz.aaD u (Nz.sn u 0);have hz2:=abo (Nz.fr u (Nz.sn u 0));have hz3:=Nz.aaD (sk (Nz.fr u (Nz.sn u 0))) 1;have C2:=aac (fun w h=>acy w0 g (Nz.fr u (Nz.sn u 0)) nm v l w h (by omega) _ rfl);have C3:=aac (fun w h=>adL w0 g (sk (Nz.fr u (Nz.sn u 0))) nm 61 v l w h (by decide) (by rw[u61];exact h2));have C4:=aac (fun w h=>acy w0 g (Nz.fr (sk (Nz.fr u (Nz.sn u 0))) 1) nm v l w h (by omega) _ rfl);have C6:=aac (fun w h=>auE a w ha h);clear h h1 h2 hz hz2 hz3;generalize sk (Nz.fr (sk (Nz.fr u (Nz.sn u 0))) 1)=u4 at *;generalize hb4:decide (bk (Nz.fr (sk (Nz.fr u (Nz.sn u 0))) 1)≠0)=b4 at *;clear hb4;generalize Nz.fr (sk (Nz.fr u (Nz.sn u 0))) 1=u3 at *;generalize sk (Nz.fr u (Nz.sn u 0))=u2 at *;generalize hb2:decide (bk (Nz.fr u (Nz.sn u 0))≠0)=b2 at *;clear hb2;generalize Nz.fr u (Nz.sn u 0)=u1 at *;generalize Nz.sx u 0=x at *;obtain⟨q,hq⟩:∃ q,q=vlF x a u5:=⟨_,rfl⟩;rw[← hq];unfold vlF at hq;generalize acF true (aad a)=y at *;obtain⟨yl,yp,ye⟩:=y;dsimp only at hq;generalize hst:strOfNums yl=str at *;have HST:=aac hst;clear hst;by_cases he:ye=0
 · subst he;rw[if_neg (by decide)] at hq;have HQ:=aac hq;clear hq;go_enter Tryz.func125,Tryz.ntmps125;go_wp2_with fail;refine(C1.out _ HR0.out).mono ?_;rintro e w1 ⟨rfl,hr1,hg1⟩;have HR1:=aac hr1;have HB1:=aac (HB0.out.after hg1);clear hr1 hg1 C1 HR0 HB0;generalize w.heap.size=r at *;go_wp2_with fail;refine(C2.out _ HR1.out).mono ?_;rintro e w2 ⟨rfl,hr2,hg2⟩;have HR2:=aac hr2;have HB2:=aac (HB1.out.after hg2);clear hr2 hg2 C2 HR1 HB1;go_wp2_with fail;refine(C3.out _ HR2.out).mono ?_;rintro e w3 ⟨rfl,hr3,hg3⟩;have HR3:=aac hr3;have HB3:=aac (HB2.out.after hg3);clear hr3 hg3 C3 HR2 HB2;go_wp2_with fail;refine(C4.out _ HR3.out).mono ?_;rintro e w4 ⟨rfl,hr4,hg4⟩;have HR4:=aac hr4;have HB4:=aac (HB3.out.after hg4);clear hr4 hg4 C4 HR3 HB3;go_wp2_with fail;refine(C5.out _ HR4.out).mono ?_;rintro e w5 ⟨rfl,hr5,hg5⟩;have HR5:=aac hr5;have HB5:=aac (HB4.out.after hg5);clear hr5 hg5 C5 HR4 HB4;go_wp2_with fail;refine(C6.out _ HR5.out.vr).mono ?_;rintro e w6 ⟨rfl,hb6⟩;have HR6:=aac (HR5.out.after hb6);have HB6:=aac (HB5.out.below hb6);clear hb6 C6 HR5 HB5;dsimp only;rw[HST.out];have c0:=HB6.out.c0;have c1:=HB6.out.c1;have f0:=HB6.out.fz 0;have f1:=HB6.out.fz 1;go_wp2;exact bodyPost_ret (v:=.tuple #[.agg #[.string x,.string str],.int .i64 0]) (by simp[results,Tryz.results125,go_sem,c0,c1]) rfl (a1Q HQ.out ⟨_,rfl,HR6.out.res HB6.out _ _,fun _=>rfl⟩)
 · rw[if_pos he] at hq;have HQ:=aac hq;have t1:(ye != 0)=true:=by rw[bne_iff_ne];exact he
   have HE:=aac he;clear hq he;go_enter Tryz.func125,Tryz.ntmps125;go_wp2_with fail;refine(C1.out _ HR0.out).mono ?_;rintro e w1 ⟨rfl,hr1,hg1⟩;have HR1:=aac hr1;have HB1:=aac (HB0.out.after hg1);clear hr1 hg1 C1 HR0 HB0;generalize w.heap.size=r at *;go_wp2_with fail;refine(C2.out _ HR1.out).mono ?_;rintro e w2 ⟨rfl,hr2,hg2⟩;have HR2:=aac hr2;have HB2:=aac (HB1.out.after hg2);clear hr2 hg2 C2 HR1 HB1;go_wp2_with fail;refine(C3.out _ HR2.out).mono ?_;rintro e w3 ⟨rfl,hr3,hg3⟩;have HR3:=aac hr3;have HB3:=aac (HB2.out.after hg3);clear hr3 hg3 C3 HR2 HB2;go_wp2_with fail;refine(C4.out _ HR3.out).mono ?_;rintro e w4 ⟨rfl,hr4,hg4⟩;have HR4:=aac hr4;have HB4:=aac (HB3.out.after hg4);clear hr4 hg4 C4 HR3 HB3;go_wp2_with fail;refine(C5.out _ HR4.out).mono ?_;rintro e w5 ⟨rfl,hr5,hg5⟩;have HR5:=aac hr5;have HB5:=aac (HB4.out.after hg5);clear hr5 hg5 C5 HR4 HB4;go_wp2_with fail;refine(C6.out _ HR5.out.vr).mono ?_;rintro e w6 ⟨rfl,hb6⟩;have HR6:=aac (HR5.out.after hb6);have HB6:=aac (HB5.out.below hb6);clear hb6 C6 HR5 HB5;dsimp only;rw[HST.out];have c0:=HB6.out.c0;have c1:=HB6.out.c1;have f0:=HB6.out.fz 0;have f1:=HB6.out.fz 1;go_wp2;exact bodyPost_ret (v:=.tuple #[.agg #[.string ⟨#[]⟩,.string ⟨#[]⟩],.int .i64 ye]) (by simp[results,Tryz.results125,go_sem,c0,c1]) rfl (a1Q HQ.out ⟨_,rfl,HR6.out.res HB6.out _ _,fun h=>absurd h HE.out⟩)
theorem anl (u:ByteArray)(i:Nat)(hs:u.size≤4000000000):(u.extract 0 i).size≤4000000000:=by
 rw[← aae,abV,List.length_take,aae];omega
theorem afb (w0:World)(g:Nat)(u nm:ByteArray)(v:Value)(l:List (ByteArray × ByteArray))(w:World)(h:RS w0 g u nm v l w)(hs:u.size≤4000000000):
 Calls Tryz.prog 125 #[.pointer (some ⟨g,0,none⟩)] w (ads (aap u) w0 g nm v l):=by
 unfold aap;by_cases h1:isN (Nz.sx u 0)=false
 · rw[if_pos h1];exact akF w0 g u nm v l w h hs h1
 rw[if_neg h1];have h1':isN (Nz.sx u 0)=true:=(by simpa using h1);by_cases h2:hd (sk (Nz.fr u (Nz.sn u 0)))≠61
 · rw[if_pos h2];exact akK w0 g u nm v l w h hs h1' h2
 rw[if_neg h2];have h2':=Decidable.not_not.1 h2;have z1:=Nz.aaD u (Nz.sn u 0);have z2:=abo (Nz.fr u (Nz.sn u 0));have z3:=Nz.aaD (sk (Nz.fr u (Nz.sn u 0))) 1;have z4:=abo (Nz.fr (sk (Nz.fr u (Nz.sn u 0))) 1);have z5:=Nz.aaD (sk (Nz.fr (sk (Nz.fr u (Nz.sn u 0))) 1)) 1;by_cases h3:hd (sk (Nz.fr (sk (Nz.fr u (Nz.sn u 0))) 1))=34
 · rw[if_pos h3];unfold aki;rcases aeB 34 (Nz.fr (sk (Nz.fr (sk (Nz.fr u (Nz.sn u 0))) 1)) 1) with ⟨q1,_⟩ | ⟨i,q1,q2,_⟩
   · rw[if_pos q1];exact adA w0 g u _ nm v l w h hs h1' h2' (aac fun w h=>anR w0 g _ nm _ _ v l w h h3 (aac fun w=>akH _ q1 w))
   · rw[q1,if_neg (by omega)];exact ahb w0 g u _ _ nm v l w h hs h1' h2' (anl _ _ (by omega)) (aac fun w h=>apJ w0 g _ nm _ _ true v l w h h3 (aac fun w=>anU _ i q1 q2 (by omega) w))
 rw[if_neg h3];by_cases h4:hd (sk (Nz.fr (sk (Nz.fr u (Nz.sn u 0))) 1))=39
 · rw[if_pos h4];unfold aki;rcases aeB 39 (Nz.fr (sk (Nz.fr (sk (Nz.fr u (Nz.sn u 0))) 1)) 1) with ⟨q1,_⟩ | ⟨i,q1,q2,_⟩
   · rw[if_pos q1];exact adA w0 g u _ nm v l w h hs h1' h2' (aac fun w h=>anW w0 g _ nm _ _ v l w h h4 (aac fun w=>alz _ q1 w))
   · rw[q1,if_neg (by omega)];exact ahb w0 g u _ _ nm v l w h hs h1' h2' (anl _ _ (by omega)) (aac fun w h=>aqa w0 g _ nm _ _ v l w h h4 (aac fun w=>anP _ i q1 q2 (by omega) w))
 rw[if_neg h4];exact adA w0 g u _ nm v l w h hs h1' h2' (aac fun w h=>alu w0 g _ nm v l w h h3 h4)
end Go.Proofs.YtiaebhomfebagaaGreatDoor.Tg
