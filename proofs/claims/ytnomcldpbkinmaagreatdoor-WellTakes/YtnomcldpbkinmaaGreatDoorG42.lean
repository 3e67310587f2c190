/- Lemmas of the claim. -/
import Derived.Test.YtnomcldpbkinmaaGreatDoorG41
import Derived.Test.YtnomcldpbkinmaaGreatDoorG33
import Derived.Test.YtnomcldpbkinmaaGreatDoorG34
import Derived.Test.YtnomcldpbkinmaaGreatDoorG17
import Derived.Test.YtnomcldpbkinmaaGreatDoorG21
import Derived.Test.YtnomcldpbkinmaaGreatDoorG26
import Derived.Test.YtnomcldpbkinmaaGreatDoorG36
import Derived.Test.YtnomcldpbkinmaaGreatDoorG27
import Derived.Lib.SmallJoins
import Derived.Deep.SlicePairs
import Derived.Carry
import Derived.ProofKit
import Derived.Deep.Slices
set_option maxHeartbeats 4000000
set_option maxRecDepth 100000
set_option linter.unusedSimpArgs false
set_option linter.unusedVariables false
namespace Go.Proofs.YtnomcldpbkinmaaGreatDoor.Wl
open Go.RowKit
theorem asg (z:Bool)(r:List Int):abm z false ([60,97,62]++r)=(⟨1,[97],false,false⟩,3,0):=by cases z <;> kernel_rfl
theorem asL (z:Bool)(r:List Int):abm z false ([60,33,45,45,99,45,45,62]++r)=(⟨4,[99],false,false⟩,8,0):=by cases z <;> kernel_rfl
theorem auO (z:Bool)(r:List Int):abm z false ([60,47,97,62]++r)=(⟨2,[97],false,false⟩,4,0):=by cases z <;> kernel_rfl
theorem ato (z:Bool)(r:List Int):abm z false ([60,47,98,62]++r)=(⟨2,[98],false,false⟩,4,0):=by cases z <;> kernel_rfl
theorem a1P:strOfNums [97]=⟨#[97]⟩:=by kernel_rfl
theorem a3A:Tg.aar ⟨#[97]⟩=(0,⟨#[97]⟩,[]):=by kernel_rfl
def la:ByteArray:=⟨#[97]⟩
def stA (u:ByteArray):St:=⟨[(la,adB)],u,true,false,0⟩
theorem auB:Nz.Sc.acM adB la []=.ok (adB,(Nz.em,la),[]):=by kernel_rfl
theorem a1O:aaP st0 (afo ⟨1,[97],false,false⟩)=(stA Nz.em,[.opn (Nz.em,la) []],0):=by
 rw[adK ⟨rfl,rfl⟩];show aaw st0 ⟨1,strOfNums [97],false,false⟩=_;rw[a1P];unfold aaw;rw[if_neg (by rintro ⟨h,_⟩;cases h),a3A,if_neg (by decide)];show adx st0 _ la (Nz.Sc.acM adB la [])=_;rw[auB];rfl
theorem arR (u:ByteArray):aaP (stA u) (afo ⟨2,[97],false,false⟩)=(⟨[],Nz.em,true,false,0⟩,aaX u++[.cls],0):=by
 rw[adK ⟨rfl,rfl⟩];show adR (stA u) ⟨2,strOfNums [97],false,false⟩=_;rw[a1P];unfold adR;rw[if_pos (show inner (stA u)=some (⟨#[97]⟩:ByteArray) from rfl)];rfl
theorem akp (u:ByteArray):(aaP (stA u) (afo ⟨2,[98],false,false⟩)).2.2=10:=by
 rw[adK ⟨rfl,rfl⟩];show (adR (stA u) ⟨2,strOfNums [98],false,false⟩).2.2=_;unfold adR;rw[if_neg]
 · rfl
 · intro h;injection h with h
   have:=congrArg aad h
   revert this
   decide
theorem asj {L r:List Int}(h:L=[60,97,62]++r):evF L=evR L 3 (stA Nz.em) [.opn (Nz.em,la) []]∧L.drop 3=r:=by
 have:=amr (L:=L) (p:=0) (out:=[]) (s:=st0) (M:=[60,97,62]) (r:=r) (by rw[h];rfl) (by simp) (fun z=>asg z r) a1O;exact this
theorem auz {L:List Int}{p:Nat}{u:ByteArray}{out:List Ev}(h:L.drop p=[60,47,97,62]):evR L p (stA u) out=(out++(aaX u++[.cls]),L.length,0):=by
 have h1:=amr (out:=out) (r:=[]) (by rw[h];rfl) (by simp) (fun z=>auO z []) (arR u);have hp:=congrArg List.length h;rw[List.length_drop] at hp;have hl:p+4=L.length:=by simp at hp;omega
 rw[h1.1];show evR L (p+4) _ _=_;have hn:=apH L (p+4) (by omega);have ht:aaP ⟨[],Nz.em,true,false,0⟩ (afo (nx L (p+4)).1)=(⟨[],Nz.em,true,true,0⟩,[],0):=by rw[hn];rfl
 rw[alq _ hl (by rw[hn]) (by rw[ht]),ht,List.append_nil,hl]
theorem a1L {L M r:List Int}{p:Nat}{u:ByteArray}{out:List Ev}{tk:Tk}{v:List Int}(hd:L.drop p=M++r)(hM:M≠[])(hf:∀ z,abm z false (M++r)=(tk,M.length,0))(hk:(tk.kind=4∨tk.kind=5)∧v=[]∨tk.kind=3∧tk.text=v):
 evR L p (stA u) out=evR L (p+M.length) (stA (u++strOfNums v)) out∧L.drop (p+M.length)=r:=by
 have ht:aaP (stA u) (afo tk)=(stA (u++strOfNums v),[],0):=by
  rw[adK ⟨rfl,rfl⟩];unfold adD afo;dsimp only;rcases hk with ⟨h1,rfl⟩ | ⟨h1,rfl⟩
  · have e:strOfNums []=Nz.em:=acj;rw[e,awp];rcases h1 with h1 | h1 <;> rw[h1] <;> rfl
  · rw[h1];rfl
 have:=amr (out:=out) hd hM hf ht;rw[List.append_nil] at this;exact this
theorem avW {L x r:List Int}{p:Nat}{u:ByteArray}{out:List Ev}(hd:L.drop p=x++60 :: r)(h:∀ c∈x,PlB c):
 evR L p (stA u) out=evR L (p+x.length) (stA (u++strOfNums x)) out∧L.drop (p+x.length)=60 :: r:=auo (s:=stA u) hd h ⟨rfl,rfl⟩ (by simp[stA])
theorem axJ (x y M v:List Int)(tk:Tk)(m:List Int)(hM:M=60 :: m)(hf:∀ z r,abm z false (M++r)=(tk,M.length,0))(hk:(tk.kind=4∨tk.kind=5)∧v=[]∨tk.kind=3∧tk.text=v)(hx:∀ c∈x,PlB c)(hy:∀ c∈y,PlB c):
 evF ([60,97,62]++(x++(M++(y++[60,47,97,62]))))=([.opn (Nz.em,la) []]++(aaX (strOfNums x++strOfNums v++strOfNums y)++[.cls]),([60,97,62]++(x++(M++(y++[60,47,97,62])))).length,0):=by
 generalize hL:[60,97,62]++(x++(M++(y++[60,47,97,62])))=L;obtain⟨a1,a2⟩:=asj hL.symm;obtain⟨b1,b2⟩:=avW (u:=Nz.em) (out:=[.opn (Nz.em,la) []]) (by rw[a2,hM];rfl) hx;obtain⟨c1,c2⟩:=a1L (u:=Nz.em++strOfNums x) (out:=[.opn (Nz.em,la) []]) (M:=M) (r:=y++[60,47,97,62]) (by rw[b2,hM];rfl) (by rw[hM];simp) (fun z=>hf z _) hk;obtain⟨d1,d2⟩:=avW (u:=Nz.em++strOfNums x++strOfNums v) (out:=[.opn (Nz.em,la) []]) (r:=[47,97,62]) c2 hy;rw[a1,b1,c1,d1,auz d2,a1X]
theorem ayo:evF [60,97,62,120,60,33,45,45,99,45,45,62,121,60,47,97,62]=([.opn (Nz.em,la) [],.txt ⟨#[120,121]⟩,.cls],17,0):=by
 have h:=axJ [120] [121] [60,33,45,45,99,45,45,62] [] ⟨4,[99],false,false⟩ _ rfl asL (.inl ⟨.inl rfl,rfl⟩) (by intro c hc;simp at hc;subst hc;unfold PlB;omega) (by intro c hc;simp at hc;subst hc;unfold PlB;omega);refine Eq.trans h ?_;have e:strOfNums [120]++strOfNums []++strOfNums [121]=⟨#[120,121]⟩:=(by kernel_rfl);rw[e];rfl
theorem azt:(evF [60,97,62,60,47,98,62]).2=(3,10):=by
 obtain⟨a1,a2⟩:=asj (L:=[60,97,62,60,47,98,62]) (r:=[60,47,98,62]) rfl
 have hn:nx [60,97,62,60,47,98,62] 3=(⟨2,[98],false,false⟩,4,0):=by
  have:=a0y (L:=[60,97,62,60,47,98,62]) (M:=[60,47,98,62]) (r:=[]) (p:=3) rfl;rw[this];exact ato _ []
 rw[a1,arQ _ (by decide) (by rw[hn]) (by rw[hn];rw[akp];decide),hn];show (3,(aaP (stA Nz.em) (afo ⟨2,[98],false,false⟩)).2.2)=_;rw[akp]
end Go.Proofs.YtnomcldpbkinmaaGreatDoor.Wl
namespace Go.Proofs.YtnomcldpbkinmaaGreatDoor.Wl
open Go.RowKit
def RdV (W:World)(A:Option Addr)(l:List Ev):Prop:=
 ∀ k x,l[k]?=some x→∃ g,A=some ⟨g,0,none⟩∧g < W.heap.size∧W.cell? ⟨g,k * 5,none⟩=some (.int .i64 (kd x))∧W.cell? ⟨g,k * 5+1,none⟩=some (.string (sp x))∧W.cell? ⟨g,k * 5+2,none⟩=some (.string (lo x))∧W.cell? ⟨g,k * 5+4,none⟩=some (.string (tx x))
theorem aax.rdv {W:World}{B:Nat}{v:Value}{l:List Ev}(h:aax W B v l):∃ A c,v=.slice A l.length c∧RdV W A l:=by
 obtain⟨es,h1,h2,h3⟩:=h;have hl:es.length=l.length:=(by rw[← h1,List.length_map]);obtain⟨A,c,hv⟩:=Nz.Sc.aah h2;subst hv;refine⟨A,c,by rw[hl],fun k x hk=> ?_⟩;rw[← h1,List.getElem?_map] at hk;obtain⟨y,hy,rfl⟩:=Option.map_eq_some_iff.1 hk;have hlt:=(List.getElem?_eq_some_iff.1 hy).1;rcases h2.2 with ⟨q,h0⟩ | ⟨g,cap,cur,q,hB,hh,hr⟩
 · omega
 injection q with q1 q2 q3
 subst q1;have cel:∀ i,i < 5→W.cell? ⟨g,k * 5+i,none⟩=(evC y)[i]?:=fun i hi=>(h2.cellAt (k * 5+i) (by omega)).trans (akH es k i y hy hi);exact⟨g,rfl,(Array.getElem?_eq_some_iff.1 hh).1,cel 0 (by omega),cel 1 (by omega),cel 2 (by omega),cel 4 (by omega)⟩
theorem RdV.keep {W W':World}{A:Option Addr}{l:List Ev}(h:RdV W A l)(hb:Below W.heap.size W W'):RdV W' A l:=fun k x hk=>by
 obtain⟨g,e,hlt,c0,c1,c2,c4⟩:=h k x hk;exact⟨g,e,Nat.lt_of_lt_of_le hlt hb.size,(hb.cell (p:=⟨g,k * 5,none⟩) hlt).trans c0,(hb.cell (p:=⟨g,k * 5+1,none⟩) hlt).trans c1,(hb.cell (p:=⟨g,k * 5+2,none⟩) hlt).trans c2,(hb.cell (p:=⟨g,k * 5+4,none⟩) hlt).trans c4⟩
theorem acZ (w:World)(hG:Gl w):Calls Tryz.prog 9 #[] w fun e w'=>e=.returned (.bool true)∧Below w.heap.size w w':=by
 have C1:=adX ⟨#[60,97,62,120,60,33,45,45,99,45,45,62,121,60,47,97,62]⟩ w hG (by decide);rw[show aad (⟨#[60,97,62,120,60,33,45,45,99,45,45,62,121,60,47,97,62]⟩:ByteArray)=[60,97,62,120,60,33,45,45,99,45,45,62,121,60,47,97,62] from rfl,ayo] at C1;have C2:∀ W,Gl W→Calls Tryz.prog 10 #[.string ⟨#[60,97,62,60,47,98,62]⟩] W (afb (evF [60,97,62,60,47,98,62]) W):=fun W hW=>adX ⟨#[60,97,62,60,47,98,62]⟩ W hW (by decide);have hq:=azt;generalize evF [60,97,62,60,47,98,62]=x at *;obtain⟨x1,x2,x3⟩:=x;injection hq with hq1 hq2
 subst hq1 hq2;have HC1:=aac C1;have HC2:=aac C2;have HG:=aac hG;clear C1 C2 hG;go_enter Tryz.func9,Tryz.ntmps9;go_wp2_with fail;refine HC1.out.mono ?_;rintro e w1 ⟨v1,rfl,e1,b1⟩;obtain⟨A1,c1,rfl,r1⟩:=e1.rdv;have R1:=aac r1;have B1:=aac b1;have G1:=aac (HG.out.after b1);clear e1 b1 r1 HC1;go_wp2_with fail;refine(HC2.out _ G1.out).mono ?_;rintro e w2 ⟨v2,rfl,e2,b2⟩;obtain⟨A2,c2,rfl⟩:=e2.slc;have r2:=R1.out.keep b2;obtain⟨g,rfl,_,d0,_,d2,_⟩:=r2 0 (.opn (Nz.em,la) []) rfl;obtain⟨g',e',_,_,_,_,d9⟩:=r2 1 (.txt ⟨#[120,121]⟩) rfl;injection e' with e'
 injection e' with e'
 subst e';obtain⟨g',e',_,d10,_,_,_⟩:=r2 2 .cls rfl;injection e' with e'
 injection e' with e'
 subst e';have HB:=aac (B1.out.trans (b2.mono B1.out.size));have q0:w2.cell? ⟨g,0,none⟩=some (.int .i64 1):=d0;have q2:w2.cell? ⟨g,2,none⟩=some (.string ⟨#[97]⟩):=d2;have q9:w2.cell? ⟨g,9,none⟩=some (.string ⟨#[120,121]⟩):=d9;have q10:w2.cell? ⟨g,10,none⟩=some (.int .i64 3):=d10;clear e2 b2 r2 d0 d2 d9 d10 R1 B1 G1 HC2;go_wp2;go_ret;exact⟨rfl,HB.out⟩
end Go.Proofs.YtnomcldpbkinmaaGreatDoor.Wl
namespace Go.Proofs.YtnomcldpbkinmaaGreatDoor.Wl
open Go.RowKit
structure PfK (l:List Ev)(k d:Nat)(z p:Bool):Prop where
 run:avl (l.take k)=some (d,z,p)
 zz:z=decide (k=0)
 pp:∀ y,1≤k→l[k - 1]?=some y→p=false→kd y≠2
 dd:d≤64
 d0:k=0→d=0
theorem aax.max {W:World}{B:Nat}{v:Value}{l:List Ev}(h:aax W B v l):l.length≤maxLen:=by
 obtain⟨es,h1,h2,h3⟩:=h;rw[← h1,List.length_map];rcases h2.2 with ⟨_,h0⟩ | ⟨g,cap,cur,q,hB,hh,h4,h5,_⟩
 · omega
 · omega
end Go.Proofs.YtnomcldpbkinmaaGreatDoor.Wl
namespace Go.Proofs.YtnomcldpbkinmaaGreatDoor.Wl
open Go.RowKit
theorem aoR (s:ByteArray)(w:World)(hG:Gl w)(hlen:s.size≤maxLen):Calls Tryz.prog 3 #[.string s] w fun e w'=>e=.returned (.bool true)∧Below w.heap.size w w':=by
 have CA:=aac (acZ w hG);have HG:=aac hG;by_cases h6:s.size≤600
 · have d6:¬ (600:Int) < (s.size:Int):=(by omega);have CE:Hid (∀ W,Gl W→Calls Tryz.prog 10 #[.string s] W (afb (evF (aad s)) W)):=aac fun W hW=>adX s W hW (by omega);have CR:Hid (∀ W,Calls Tryz.prog 11 #[.string s] W (afb (evF (aad s)) W)):=aac fun W=>ahn s W (by omega);generalize evF (aad s)=x at *;obtain⟨l,at_,er⟩:=x;clear hG;go_enter Tryz.func3,Tryz.ntmps3;go_wp2_with fail;refine CA.out.mono ?_;rintro e w1 ⟨rfl,b1⟩;have B1:=aac b1;have G1:=aac (HG.out.after b1);clear CA b1;go_wp2_with fail;refine(CE.out _ G1.out).mono ?_;rintro e w2 ⟨v2,rfl,e2,b2⟩;have B2:=aac b2;obtain⟨A2,c2,hv⟩:=e2.slc;subst hv;have E2:=aac e2;clear CE e2 b2;go_wp2_with fail;refine(CR.out w2).mono ?_;rintro e w3 ⟨v3,rfl,e3,b3⟩;obtain⟨A3,c3,hv⟩:=e3.slc;subst hv
   have r2:RdE w3 A2 l:=by
    obtain⟨A',c',q,r,_,_⟩:=(E2.out.keep b3).rde;injection q with q _ _
    rw[q];exact r
   have r3:RdE w3 A3 l:=by
    obtain⟨A',c',q,r,_,_⟩:=e3.rde;injection q with q _ _
    rw[q];exact r
   obtain⟨n,hn⟩:∃ n,n=l.length:=⟨_,rfl⟩;have CS:=aac (aiJ l n A2 A3 c2 c3 w3 hn (by rw[hn];exact e3.max) r2 r3);rw[← hn];clear hn hlen;have B3:=aac (B1.out.trans ((B2.out.trans (b3.mono B2.out.size)).mono B1.out.size));clear CR e3 b3 r2 r3 E2 B2 B1 G1 HG;go_wp2_with fail;refine CS.out.mono ?_;rintro e w4 ⟨rfl,b4⟩;have B4:=aac (B3.out.trans (b4.mono B3.out.size));clear CS b4 B3;go_wp2;go_ret;exact⟨rfl,B4.out⟩
 · have d6:(600:Int) < (s.size:Int):=(by omega);clear hG;go_enter Tryz.func3,Tryz.ntmps3;go_wp2_with fail;refine CA.out.mono ?_;rintro e w1 ⟨rfl,b1⟩;have CA2:=aac (acZ w1 (HG.out.after b1));go_wp2_with fail;refine CA2.out.mono ?_;rintro e w2 ⟨rfl,b2⟩;go_wp2;go_ret;exact⟨rfl,b1.trans (b2.mono b1.size)⟩
end Go.Proofs.YtnomcldpbkinmaaGreatDoor.Wl
namespace Go.Proofs.YtnomcldpbkinmaaGreatDoor.Tg
open Go.Joins Go.ChangeShapes Go.WideShapes Go.RowKit Go.Deep
theorem Tryz.laidOut:laidOutB Tryz.prog=true:=by kernel_rfl
theorem Tryz.cells9:Tryz.prog.cellsOf 9=1:=by kernel_rfl
structure a4m (w:World)(nm:ByteArray)(A:Option Addr)(n c:Nat)(l:List (ByteArray × ByteArray)):Prop where
 len:n=l.length
 nsz:nm.size≤maxLen
 lsz:n≤maxLen
 xsz:∀ x∈l,x.1.size≤maxLen∧x.2.size≤maxLen
 rd:RdR w A l
 nil:A=none→n=0∧c=0
end Go.Proofs.YtnomcldpbkinmaaGreatDoor.Tg
namespace Go.Proofs.YtnomcldpbkinmaaGreatDoor.Wl
open Go.Joins Go.ChangeShapes Go.WideShapes Go.RowKit Go.Deep
theorem Tryz.cells42:Tryz.prog.cellsOf 42=4:=by kernel_rfl
theorem Tryz.cells3:Tryz.prog.cellsOf 3=1:=by kernel_rfl
theorem Tryz.cells4:Tryz.prog.cellsOf 4=1:=by kernel_rfl
def RdK (w:World)(A:Option Addr)(l:List Tok):Prop:=
 ∀ k x,l[k]?=some x→∃ b off,A=some ⟨b,off,none⟩∧b < w.heap.size∧w.cell? ⟨b,off+k * 4,none⟩=some (.int .i64 x.kind)∧w.cell? ⟨b,off+k * 4+1,none⟩=some (.string x.text)∧w.cell? ⟨b,off+k * 4+2,none⟩=some (.bool x.empty)∧w.cell? ⟨b,off+k * 4+3,none⟩=some (.bool x.blank)
theorem RdK.keep {w w':World}{A:Option Addr}{l:List Tok}(h:RdK w A l)(hb:Below w.heap.size w w'):RdK w' A l:=fun k t hk=>by
 obtain⟨b,o,e,hlt,c0,c1,c2,c3⟩:=h k t hk;exact⟨b,o,e,Nat.lt_of_lt_of_le hlt hb.size,(hb.cell (p:=⟨b,o+k * 4,none⟩) hlt).trans c0,(hb.cell (p:=⟨b,o+k * 4+1,none⟩) hlt).trans c1,(hb.cell (p:=⟨b,o+k * 4+2,none⟩) hlt).trans c2,(hb.cell (p:=⟨b,o+k * 4+3,none⟩) hlt).trans c3⟩
structure amD (w:World)(A:Option Addr)(n c:Nat)(l:List Tok):Prop where
 len:n=l.length
 lsz:n≤maxLen
 xsz:∀ x∈l,x.text.size≤maxLen
 rd:RdK w A l
 nil:A=none→n=0∧c=0
theorem asC {H:Type}{enc:TypeId × Value→H}{w:World}{r:Reach}{b0:Nat}{v:Value}{d:DataW H}{p:List MemPlace}(hv:Value.okWide Tryz.prog w r b0 31 v)(h:DataW.Trod enc Tryz.prog w 0 (fun _=>true) true 31 v d p):
 ∃ (A:Option Addr) (n c:Nat) (l:List Tok),v=.slice A n c∧amD w A n c l:=by
 obtain⟨a0,aqF,cap0,rfl⟩:=okWide_slice Tryz.underlying31 hv;obtain⟨fuel,hf⟩:=h;rcases open_slice Tryz.underlying31 hf with ⟨hc,_⟩ | ⟨a,len,cap,m,n,D,Pl,hc,hb,hl,hm,hmm,hx,hall⟩
 · obtain⟨rfl,rfl,rfl⟩:a0=none∧aqF=0∧cap0=0:=by
    have hc':[Value.slice a0 aqF cap0]=[.slice none 0 0]:=hc
    simpa using hc'
   exact⟨none,0,0,[],rfl,⟨rfl,Nat.zero_le _,fun x hx=>by simp at hx,fun j x hx=>by simp at hx,fun _=>⟨rfl,rfl⟩⟩⟩
 · obtain⟨rfl,rfl,rfl⟩:a0=some a∧aqF=len∧cap0=cap:=by
    have hc':[Value.slice a0 aqF cap0]=[.slice (some a) len cap]:=hc
    simpa using hc'
   simp only[if_true] at hmm;subst hmm;rw[Tryz.cells42] at hall
   have st:∀ i,i < m→∃ x:Tok,(w.cell? (a.add (i * 4))=some (.int .i64 x.kind)∧w.cell? (a.add (i * 4+1))=some (.string x.text)∧w.cell? (a.add (i * 4+2))=some (.bool x.empty)∧w.cell? (a.add (i * 4+3))=some (.bool x.blank))∧x.text.size≤maxLen:=fun i hi=>by
    obtain⟨cs',h1,h2⟩:=hall i hi;obtain⟨_,hlen,hcell⟩:=World.cells?_some h1;obtain⟨y0,y1,y2,y3,k,_,_,g0,g1,g2,g3⟩:=trod_struct4 Tryz.underlying42 h2
    match cs',hlen,hcell,g0,g1,g2,g3 with
    | [v0,v1,v2,v3],_,hcell,g0,g1,g2,g3=>
      simp[Tryz.cells3,Tg.Tryz.cells9,Tryz.cells4] at g0 g1 g2 g3;obtain⟨n0,e0,_,_⟩:=DataW.trod_int Tryz.underlying3 g0;obtain⟨s1,e1,_,z1⟩:=DataW.trod_string Tryz.underlying9 g1;obtain⟨b2,e2,_⟩:=DataW.trod_bool Tryz.underlying4 g2;obtain⟨b3,e3,_⟩:=DataW.trod_bool Tryz.underlying4 g3;simp only[List.cons.injEq,and_true] at e0 e1 e2 e3;subst e0 e1 e2 e3;have c0:=hcell 0 (by omega);have c1:=hcell 1 (by omega);have c2:=hcell 2 (by omega);have c3:=hcell 3 (by omega);rw[add_add] at c0 c1 c2 c3;exact⟨⟨n0,s1,b2,b3⟩,⟨by simpa using c0,by simpa using c1,by simpa using c2,by simpa using c3⟩,z1⟩
   have st2:∀ i,∃ x:Tok,i < m→(w.cell? (a.add (i * 4))=some (.int .i64 x.kind)∧w.cell? (a.add (i * 4+1))=some (.string x.text)∧w.cell? (a.add (i * 4+2))=some (.bool x.empty)∧w.cell? (a.add (i * 4+3))=some (.bool x.blank))∧x.text.size≤maxLen:=fun i=>by
    by_cases hi:i < m
    · obtain⟨x,h1⟩:=st i hi;exact⟨x,fun _=>h1⟩
    · exact⟨⟨0,Nz.em,false,false⟩,fun h=>absurd h hi⟩
   obtain⟨X,hX⟩:∃ X:Nat→Tok,∀ i,i < m→(w.cell? (a.add (i * 4))=some (.int .i64 (X i).kind)∧w.cell? (a.add (i * 4+1))=some (.string (X i).text)∧w.cell? (a.add (i * 4+2))=some (.bool (X i).empty)∧w.cell? (a.add (i * 4+3))=some (.bool (X i).blank))∧(X i).text.size≤maxLen:=⟨fun i=>Classical.choose (st2 i),fun i=>Classical.choose_spec (st2 i)⟩
   have hget:∀ (k:Nat) x,((List.range aqF).map X)[k]?=some x→k < aqF∧x=X k:=fun k x hk=>by
    rw[List.getElem?_map] at hk;obtain⟨j,hj,rfl⟩:=Option.map_eq_some_iff.1 hk;have hlt:=(List.getElem?_eq_some_iff.1 hj).1;rw[List.length_range] at hlt;rw[List.getElem?_range hlt] at hj;injection hj with hj
    exact⟨hlt,by rw[hj]⟩
   refine⟨some a,aqF,m,(List.range aqF).map X,rfl,⟨by simp,by omega,fun x hx=> ?_,fun k x hk=> ?_,fun h=>by cases h⟩⟩
   · obtain⟨i,hi,rfl⟩:=List.mem_map.1 hx;have:=List.mem_range.1 hi;exact(hX i (by omega)).2
   · obtain⟨hk1,rfl⟩:=hget k x hk;obtain⟨b,off,spot⟩:=a;obtain⟨⟨c0,c1,c2,c3⟩,_⟩:=hX k (by omega)
     have hspot:spot=none:=by
      have:=World.cell?_spot (hX 0 (by omega)).1.1
      simpa [Addr.add] using this
     subst hspot;rw[Addr.add_lit] at c0 c1 c2 c3;exact⟨b,off,rfl,Lib.lt_of_cell c0,c0,by rw[Nat.add_assoc];exact c1,by rw[Nat.add_assoc];exact c2,by rw[Nat.add_assoc];exact c3⟩
end Go.Proofs.YtnomcldpbkinmaaGreatDoor.Wl
namespace Go.Proofs.YtnomcldpbkinmaaGreatDoor.Wl
open Go.RowKit
def ayk (l:List Tok)(n:Nat)(w:World)(i:Value)(wr:World):Prop:=
 w=wr∧∃ k:Nat,i=.int .i64 k∧k≤n∧k≤200∧Hid (∀ (j:Nat) (x:Tok),j < k→l[j]?=some x→x.text.size≤300)
def aif (l:List Tok)(n:Nat)(w:World)(e:Ending)(w':World):Prop:=
 ∃ b,e=.returned (.bool b)∧(b=true→n≤150∧∀ (k:Nat) (x:Tok),l[k]?=some x→x.text.size≤300)∧w=w'
theorem arM (A:Option Addr)(n c:Nat)(l:List Tok)(w:World)(T:amD w A n c l):Calls Tryz.prog 13 #[.slice A n c] w (aif l n w):=by
 have hlz:=T.lsz;unfold maxLen at hlz;have HT:=aac T;clear T;go_enter Tryz.func13,Tryz.ntmps13;go_wp2_with fail;go_loopw [3] (fun i wr=>ayk l n w i wr) (fun i _=>n - (intOf i).toNat);case atStart=>exact⟨rfl,0,rfl,Nat.zero_le _,by omega,aac (fun j x h=>by omega)⟩
 case round=>
  obtain⟨rfl,k,rfl,hk,h2,hP⟩:=hrel;by_cases hlt:k < n
  · have k1:(k:Int) < (n:Int):=(by omega);by_cases h200:k < 200
    · have k2:(k:Int) < 200:=(by omega);have k3:(0:Int)≤(k:Int):=(by omega);have hkl:k < l.length:=by rw[← HT.out.len];exact hlt
      have hx:=List.getElem?_eq_getElem hkl;obtain⟨b,off,hA,hb,c0,c1,c2,c3⟩:=HT.out.rd k _ hx;have HX:=aac hx;have hxz:=HT.out.xsz l[k] (List.getElem_mem hkl);generalize l[k]=x at *;subst hA;clear hx hkl hb c0 c2 c3;unfold maxLen at hxz;by_cases hs:x.text.size≤300
      · have k4:¬ (300:Int) < (x.text.size:Int):=by omega
        have hP2:Hid (∀ (j:Nat) (y:Tok),j < k+1→l[j]?=some y→y.text.size≤300):=aac fun j y hj hy=>by
         rcases Nat.lt_or_ge j k with g | g
         · exact hP.out j y g hy
         · obtain rfl:j=k:=(by omega);rw[HX.out] at hy;injection hy with hy
           rw[← hy];exact hs
        clear hP HX hs;go_wp2;go_roundw;case rel=>exact⟨rfl,k+1,by go_num,by omega,by omega,hP2⟩
        case measure=>simp only[intOf];omega
      · have k4:(300:Int) < (x.text.size:Int):=(by omega);clear hP HX hs;go_wp2;go_ret;exact⟨false,rfl,(fun e=>by cases e),rfl⟩
    · have k2:¬ (k:Int) < 200:=(by omega);have k5:¬ (n:Int)≤150:=(by omega);clear hP;go_wp2;go_ret;exact⟨false,rfl,(fun e=>by cases e),rfl⟩
  · have k1:¬ (k:Int) < (n:Int):=by omega
    have hP2:Hid (∀ (j:Nat) (y:Tok),l[j]?=some y→y.text.size≤300):=aac fun j y hy=>by
     have hj:=(List.getElem?_eq_some_iff.1 hy).1;rw[← HT.out.len] at hj;exact hP.out j y (by omega) hy
    clear hP;by_cases h150:n≤150
    · have k5:(n:Int)≤150:=(by omega);go_wp2;go_ret;exact⟨true,rfl,(fun _=>⟨h150,hP2.out⟩),rfl⟩
    · have k5:¬ (n:Int)≤150:=(by omega);go_wp2;go_ret;exact⟨false,rfl,(fun e=>by cases e),rfl⟩
structure Iv (s:St):Prop where
 rt:s.op≠[]→s.root=true
 ov:s.over=true→s.err=0
theorem iv0:Iv st0:=⟨fun h=>absurd rfl h,fun h=>by cases h⟩
theorem afF {s:St}(h:Iv s)(hv:s.over=false)(e:Int):Iv (bad s e).1:=⟨h.rt,fun q=>by have q':s.over=true:=q;rw[hv] at q';cases q'⟩
theorem axv {s:St}(h:Iv s)(t:Tok):Iv (aaP s t).1:=by
 unfold aaP;by_cases hv:s.over=true
 · rw[if_pos hv];exact h
 rw[if_neg hv];have hov:s.over=false:=(by simpa using hv);by_cases he:s.err≠0
 · rw[if_pos he];exact h
 rw[if_neg he];have he:s.err=0:=Decidable.not_not.1 he;unfold adD;by_cases k1:t.kind=1
 · rw[if_pos k1];unfold aaw;by_cases c1:s.root=true∧s.op=[]
   · rw[if_pos c1];exact afF h hov _
   rw[if_neg c1];by_cases c2:(Tg.aar t.text).1≠0
   · rw[if_pos c2];exact afF h hov _
   rw[if_neg c2]
   cases Nz.Sc.acM (aeo s) (Tg.aar t.text).2.1 (Tg.aar t.text).2.2 with
   | error c=>exact afF h hov _
   | ok q=>
     obtain⟨W,n,f⟩:=q;unfold adx;dsimp only;by_cases c3:64≤s.op.length
     · rw[if_pos c3];exact afF h hov _
     rw[if_neg c3];unfold opened;by_cases c4:t.empty=true
     · rw[if_pos c4];exact⟨fun _=>rfl,fun _=>he⟩
     · rw[if_neg c4];exact⟨fun _=>rfl,fun _=>he⟩
 rw[if_neg k1];by_cases k2:t.kind=2
 · rw[if_pos k2];unfold adR;by_cases c1:inner s=some t.text
   · rw[if_pos c1];exact⟨fun q=>h.rt (fun e=>q (by show s.op.dropLast=[];rw[e];rfl)),fun _=>he⟩
   · rw[if_neg c1];exact afF h hov _
 rw[if_neg k2];by_cases k3:t.kind=3
 · rw[if_pos k3];unfold acK;by_cases c1:s.op≠[]
   · rw[if_pos c1];exact⟨h.rt,fun _=>he⟩
   rw[if_neg c1];by_cases c2:t.blank=true
   · rw[if_pos c2];exact h
   · rw[if_neg c2];exact afF h hov _
 rw[if_neg k3];by_cases k6:t.kind=6
 · rw[if_pos k6];unfold lastT;by_cases c1:s.op≠[]
   · rw[if_pos c1];exact afF h hov _
   rw[if_neg c1];by_cases c2:s.root=false
   · rw[if_pos c2];exact afF h hov _
   · rw[if_neg c2];exact⟨h.rt,fun _=>he⟩
 rw[if_neg k6];exact h
end Go.Proofs.YtnomcldpbkinmaaGreatDoor.Wl
namespace Go.Proofs.YtnomcldpbkinmaaGreatDoor.Wl
open Go.RowKit
theorem RS.keep {B rb:Nat}{s:St}{w w':World}(h:RS B rb s w)(hb:Below w.heap.size w w'):RS B rb s w':=by
 obtain⟨a,b,c,h⟩:=h;exact⟨a,b,c,h.after hb⟩
theorem RS.only {B rb b:Nat}{s:St}{w w':World}{cs:Array Value}{fr:Nat × Nat}(h:RS B rb s w)(hg:w.grownBy w' (some b))(hb:w.heap[b]?=some (.cells cs 38 fr)):RS B rb s w':=by
 obtain⟨vw,vo,es,h⟩:=h
 have hne:rb≠b:=by
  rintro rfl;have h1:=h.blk;rw[hb] at h1;injection h1 with h1
  injection h1 with _ q _
  exact absurd q (by decide)
 exact⟨vw,vo,es,h.lo,(hg.block rb h.lt (fun e=>hne (by first | exact Option.some.inj e | exact(Option.some.inj e).symm))).trans h.blk,World.ownsRow.kept h.wt hg (.inr (Nz.Sc.own_ne h.wt hb (by decide))),h.eq,World.ownsRow.kept h.op hg (.inr (Nz.Sc.own_ne h.op hb (by decide))),(fun x hx=>World.ownsRow.kept (h.own x hx) hg (.inr (Nz.Sc.own_ne (h.own x hx) hb (by decide)))),Nat.le_trans h.siz hg.size⟩
section
variable {B rb sb nb:Nat} {A A1 A2 A9:Option Addr} {n1 n2 n9 c1 c2 c9:Nat} {vn vs v9:Value} {zs:List Value} {s s2:St} {v2:Value} {l l2:List Ev} {T:List Tok} {t:Tok} {k b off:Nat} {M W W':World}
structure TkI (M:World)(rb sb:Nat)(vn vs:Value)(zs:List Value)(s:St)(k:Nat)(W:World):Prop where
 rs:RS M.heap.size rb s W
 box:W.heap[sb]?=some (.cells (stC vn vs s) 38 (0,0))
 lo:M.heap.size≤sb
 dw:DW M.heap.size vn vs zs s W
 bel:Below M.heap.size M W
 gd:Gd s
 iv:Iv s
 wt:s.wait.size≤300 * k
theorem TkI.keep (h:TkI M rb sb vn vs zs s k W)(hb:Below W.heap.size W W'):TkI M rb sb vn vs zs s k W':=
 ⟨h.rs.keep hb,(hb.block _ (Array.getElem?_eq_some_iff.1 h.box).1).trans h.box,h.lo,h.dw.keep hb,h.bel.trans (hb.mono h.bel.size),h.gd,h.iv,h.wt⟩
structure TkX (M:World)(rb sb:Nat)(vn vs:Value)(zs:List Value)(s s2:St)(v2:Value)(l2:List Ev)(b off k:Nat)(t:Tok)(W:World):Prop where
 rs:RS M.heap.size rb s2 W
 box:W.heap[sb]?=some (.cells (stC vn vs s) 38 (0,0))
 dw:DW M.heap.size vn vs zs s W
 ev:aax W M.heap.size v2 l2
 bel:Below M.heap.size M W
 lt:b < W.heap.size
 k0:W.cell? ⟨b,off+k * 4,none⟩=some (.int .i64 t.kind)
 k1:W.cell? ⟨b,off+k * 4+1,none⟩=some (.string t.text)
 k2:W.cell? ⟨b,off+k * 4+2,none⟩=some (.bool t.empty)
 k3:W.cell? ⟨b,off+k * 4+3,none⟩=some (.bool t.blank)
theorem TkX.keep (h:TkX M rb sb vn vs zs s s2 v2 l2 b off k t W)(hb:Below W.heap.size W W'):TkX M rb sb vn vs zs s s2 v2 l2 b off k t W':=
 ⟨h.rs.keep hb,(hb.block _ (Array.getElem?_eq_some_iff.1 h.box).1).trans h.box,h.dw.keep hb,h.ev.keep hb,h.bel.trans (hb.mono h.bel.size),Nat.lt_of_lt_of_le h.lt hb.size,(hb.cell (p:=⟨b,off+k * 4,none⟩) h.lt).trans h.k0,(hb.cell (p:=⟨b,off+k * 4+1,none⟩) h.lt).trans h.k1,(hb.cell (p:=⟨b,off+k * 4+2,none⟩) h.lt).trans h.k2,(hb.cell (p:=⟨b,off+k * 4+3,none⟩) h.lt).trans h.k3⟩
theorem TkX.s10 (h:TkX M rb sb vn vs zs s s2 v2 l2 b off k t W):(W.cell? ⟨sb,0,none⟩=some vn∧W.cell? ⟨sb,1,none⟩=some vs∧W.cell? ⟨sb,2,none⟩=some (.bool s.root)∧W.cell? ⟨sb,3,none⟩=some (.string s.wait)∧W.cell? ⟨sb,4,none⟩=some (.bool s.over)∧W.cell? ⟨sb,5,none⟩=some (.int .i64 s.err))∧W.cell? ⟨b,off+k * 4,none⟩=some (.int .i64 t.kind)∧W.cell? ⟨b,off+k * 4+1,none⟩=some (.string t.text)∧W.cell? ⟨b,off+k * 4+2,none⟩=some (.bool t.empty)∧W.cell? ⟨b,off+k * 4+3,none⟩=some (.bool t.blank):=
 ⟨⟨Nz.Sc.aaf h.box 0 rfl,Nz.Sc.aaf h.box 1 rfl,Nz.Sc.aaf h.box 2 rfl,Nz.Sc.aaf h.box 3 rfl,Nz.Sc.aaf h.box 4 rfl,Nz.Sc.aaf h.box 5 rfl⟩,h.k0,h.k1,h.k2,h.k3⟩
theorem TkX.a4t (h:TkX M rb sb vn vs zs s s2 v2 l2 b off k t W)(hn:nb≠sb)(hb:b≠nb)(x0 x1 x2 x3 x4 x5:Value):((aeg W nb x0 x1 x2 x3 x4 x5).cell? ⟨sb,0,none⟩=some vn∧(aeg W nb x0 x1 x2 x3 x4 x5).cell? ⟨sb,1,none⟩=some vs∧(aeg W nb x0 x1 x2 x3 x4 x5).cell? ⟨sb,2,none⟩=some (.bool s.root)∧(aeg W nb x0 x1 x2 x3 x4 x5).cell? ⟨sb,3,none⟩=some (.string s.wait)∧(aeg W nb x0 x1 x2 x3 x4 x5).cell? ⟨sb,4,none⟩=some (.bool s.over)∧(aeg W nb x0 x1 x2 x3 x4 x5).cell? ⟨sb,5,none⟩=some (.int .i64 s.err))∧(aeg W nb x0 x1 x2 x3 x4 x5).cell? ⟨b,off+k * 4,none⟩=some (.int .i64 t.kind)∧(aeg W nb x0 x1 x2 x3 x4 x5).cell? ⟨b,off+k * 4+1,none⟩=some (.string t.text)∧(aeg W nb x0 x1 x2 x3 x4 x5).cell? ⟨b,off+k * 4+2,none⟩=some (.bool t.empty)∧(aeg W nb x0 x1 x2 x3 x4 x5).cell? ⟨b,off+k * 4+3,none⟩=some (.bool t.blank):=by
 have g6:=awE W nb x0 x1 x2 x3 x4 x5;have e1:some sb≠some nb:=fun e=>hn (Option.some.inj e).symm;have e2:some b≠some nb:=fun e=>hb (Option.some.inj e);obtain⟨⟨a0,a1,a2,a3,a4,a5⟩,b0,b1,b2,b3⟩:=h.s10;exact⟨⟨g6.cell a0 e1,g6.cell a1 e1,g6.cell a2 e1,g6.cell a3 e1,g6.cell a4 e1,g6.cell a5 e1⟩,g6.cell b0 e2,g6.cell b1 e2,g6.cell b2 e2,g6.cell b3 e2⟩
structure TkY (M:World)(rb sb nb:Nat)(old:Array Value)(vn vs:Value)(zs:List Value)(s2:St)(v2 v9:Value)(l2:List Ev)(W:World):Prop where
 rs:RS M.heap.size rb s2 W
 box:W.heap[sb]?=some (.cells old 38 (0,0))
 nbx:W.heap[nb]?=some (.cells (stC vn vs s2) 38 (0,0))
 dw:DW M.heap.size vn vs zs s2 W
 ev:aax W M.heap.size v2 l2
 ev9:aax W M.heap.size v9 l2
 bel:Below M.heap.size M W
theorem TkX.y1 (h:TkX M rb sb vn vs zs s s2 v2 l2 b off k t W){wn ws:Value}{ys:List Value}(hd:DW M.heap.size wn ws ys s2 W)(he:aax W M.heap.size v9 l2):TkY M rb sb W.heap.size (stC vn vs s) wn ws ys s2 v2 v9 l2 (W.alloc (.cells (stC wn ws s2) 38)):=by
 have hb:=(Below.refl W.heap.size W).alloc (Nat.le_refl _) (.cells (stC wn ws s2) 38);have hx:=h.keep hb;exact⟨hx.rs,hx.box,Nz.Sc.abM W 38 _,hd.keep hb,hx.ev,he.keep hb,hx.bel⟩
theorem TkX.y2 (h:TkX M rb sb vn vs zs s s2 v2 l2 b off k t W){ys:List Value}{a0 a1 a2 a3 a4 a5:Value}(hn:W.heap[nb]?=some (.cells #[a0,a1,a2,a3,a4,a5] 38 (0,0)))(hne:nb≠sb)(hlo:M.heap.size≤nb)(hd:DW M.heap.size (.slice A1 n1 c1) (.slice A2 n2 c2) ys s2 W)(he:aax W M.heap.size v9 l2):TkY M rb sb nb (stC vn vs s) (.slice A1 n1 c1) (.slice A2 n2 c2) ys s2 v2 v9 l2 (aeg W nb (.slice A1 n1 c1) (.slice A2 n2 c2) (.bool s2.root) (.string s2.wait) (.bool s2.over) (.int .i64 s2.err)):=by
 have g6:=awE W nb (.slice A1 n1 c1) (.slice A2 n2 c2) (.bool s2.root) (.string s2.wait) (.bool s2.over) (.int .i64 s2.err);exact⟨h.rs.only g6 hn,(g6.block sb (Array.getElem?_eq_some_iff.1 h.box).1 (fun e=>hne (by first | exact Option.some.inj e | exact(Option.some.inj e).symm))).trans h.box,akG hn _ _ _ _ _ _,hd.only (row:=none) g6 hn (by decide) (by decide) (by decide),h.ev.only g6 hn (by decide) (by decide),he.only g6 hn (by decide) (by decide),akB h.bel hlo _ _ _ _ _ _⟩
structure TkZ (M:World)(rb sb:Nat)(vn vs:Value)(zs:List Value)(s2:St)(v2 v9:Value)(l2:List Ev)(W:World):Prop where
 rs:RS M.heap.size rb s2 W
 box:W.heap[sb]?=some (.cells (stC vn vs s2) 38 (0,0))
 dw:DW M.heap.size vn vs zs s2 W
 ev:aax W M.heap.size v2 l2
 ev9:aax W M.heap.size v9 l2
 bel:Below M.heap.size M W
theorem TkY.z {vo zo:Value}{so:St}(h:TkY M rb sb nb (stC vo zo so) (.slice A1 n1 c1) (.slice A2 n2 c2) zs s2 v2 v9 l2 W)(hlo:M.heap.size≤sb):TkZ M rb sb (.slice A1 n1 c1) (.slice A2 n2 c2) zs s2 v2 v9 l2 (aeg W sb (.slice A1 n1 c1) (.slice A2 n2 c2) (.bool s2.root) (.string s2.wait) (.bool s2.over) (.int .i64 s2.err)):=by
 have g6:=awE W sb (.slice A1 n1 c1) (.slice A2 n2 c2) (.bool s2.root) (.string s2.wait) (.bool s2.over) (.int .i64 s2.err);have hb:W.heap[sb]?=some (.cells #[vo,zo,.bool so.root,.string so.wait,.bool so.over,.int .i64 so.err] 38 (0,0)):=h.box;exact⟨h.rs.only g6 hb,akG hb _ _ _ _ _ _,h.dw.only (row:=none) g6 hb (by decide) (by decide) (by decide),h.ev.only g6 hb (by decide) (by decide),h.ev9.only g6 hb (by decide) (by decide),akB h.bel hlo _ _ _ _ _ _⟩
theorem TkZ.keep (h:TkZ M rb sb vn vs zs s2 v2 v9 l2 W)(hb:Below W.heap.size W W'):TkZ M rb sb vn vs zs s2 v2 v9 l2 W':=
 ⟨h.rs.keep hb,(hb.block _ (Array.getElem?_eq_some_iff.1 h.box).1).trans h.box,h.dw.keep hb,h.ev.keep hb,h.ev9.keep hb,h.bel.trans (hb.mono h.bel.size)⟩
theorem TkZ.i (h:TkZ M rb sb vn vs zs s2 v2 v9 l2 W)(hlo:M.heap.size≤sb)(hg:Gd s2)(hi:Iv s2)(hw:s2.wait.size≤300 * k):TkI M rb sb vn vs zs s2 k W:=⟨h.rs,h.box,hlo,h.dw,h.bel,hg,hi,hw⟩
theorem TkZ.c04 (h:TkZ M rb sb vn vs zs s2 v2 v9 l2 W):W.cell? ⟨sb,0,none⟩=some vn∧W.cell? ⟨sb,4,none⟩=some (.bool s2.over):=⟨Nz.Sc.aaf h.box 0 rfl,Nz.Sc.aaf h.box 4 rfl⟩
theorem TkI.x (h:TkI M rb sb vn vs zs s k W)(hR:RS M.heap.size rb s2 W')(hf:Frm W W')(hb:Below M.heap.size W W')(he:aax W' M.heap.size v2 l2)(hlt:b < W'.heap.size)(k0:W'.cell? ⟨b,off+k * 4,none⟩=some (.int .i64 t.kind))(k1:W'.cell? ⟨b,off+k * 4+1,none⟩=some (.string t.text))(k2:W'.cell? ⟨b,off+k * 4+2,none⟩=some (.bool t.empty))(k3:W'.cell? ⟨b,off+k * 4+3,none⟩=some (.bool t.blank)):TkX M rb sb vn vs zs s s2 v2 l2 b off k t W':=
 ⟨hR,hf _ _ _ _ h.box (by decide) (by decide) (by decide),h.dw.frm hf,he,h.bel.trans hb,hlt,k0,k1,k2,k3⟩
end
end Go.Proofs.YtnomcldpbkinmaaGreatDoor.Wl
