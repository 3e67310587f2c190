/- Lemmas of the claim. -/
import Derived.Test.YtiaebhomfebagaaGreatDoorG05
import Derived.Test.YtiaebhomfebagaaGreatDoorG07
import Derived.Test.YtiaebhomfebagaaGreatDoorG06
import Derived.Test.YtiaebhomfebagaaGreatDoorG02
import Derived.Lib.UnsafeStr
import Derived.Lib.AppendStr
import Derived.Lib.BufferWrite
import Derived.Deep.RegionWith
import Derived.Deep.RegionHeld3
import Derived.Laws.OwnMore
import Derived.OwnWalk
import Derived.BigQuiet
import Derived.Laws.AppendOwn
import Derived.Laws.AppendOwnNone
import Derived.Deep.AppendLies
import Derived.Deep.RegionLaw
set_option maxHeartbeats 8000000
set_option maxRecDepth 100000
set_option linter.unusedSimpArgs false
set_option linter.unusedVariables false
namespace Go.Proofs.YtiaebhomfebagaaGreatDoor.Ev
open Go.RowKit
theorem Tryz.info5:(Tryz.prog.info? 5).map (fun i=>(i.zero,i.size,i.bytes))=some (some (.int .u8 0),1,1):=by kernel_rfl
def aiT:Nat:=140737488351232
theorem afm (s:ByteArray)(w:World)(hlim:s.size≤140737488351232):
 Calls Tryz.prog 37 #[.string s] w fun e w'=>e=.returned (.string s)∧Below w.heap.size w w':=by
 by_cases h0:s.size=0
 · have hs:s=⟨#[]⟩:=by
    apply ByteArray.ext;exact Array.eq_empty_of_size_eq_zero h0
   subst hs;go_enter Tryz.func37,Tryz.ntmps37;go_wp2;go_ret;exact⟨rfl,Below.refl _ _⟩
 · obtain⟨i0,hi,hz0,hz1,hz2⟩:=info_parts Tryz.info5;have hinfo:(Tryz.prog.info? 5).map (·.size)=some 1:=by rw[hi];simp[hz1]
   have hco:Tryz.prog.cellsOf 5=1:=(by kernel_rfl);obtain⟨M,hM⟩:∃ M,M=madeCells (Value.int .u8 0).cells (((s.size:Nat):Int).toNat * i0.size):=⟨_,rfl⟩;have hMs:M.size=s.size:=by rw[hM,size_madeCells,hz1];simp
   have hmk:∀ W:World,(Instr.makeSlice 57 (.int .i64 (s.size:Int)) (.int .i64 (s.size:Int))).run Tryz.prog W=.ok (.slice (some ⟨W.heap.size,0,none⟩) s.size s.size) (W.alloc (.cells M 5)):=fun W=>by
    have h:=run_make (P:=Tryz.prog) W 57 5 i0 (.int .u8 0) Tryz.underlying57 hi hz0 .i64 .i64 (s.size:Int) (s.size:Int) (by omega) (by omega) (by rw[hz2];omega) (by omega);rw[← hM] at h
    simpa using h
   clear hM;have hcp:=Lib.run_copy_row_string (P:=Tryz.prog) (w.alloc (.cells M 5)) 57 9 3 5 w.heap.size 0 s.size s.size s M 5 Tryz.underlying57 hinfo (heap_alloc_new w _) (Nat.le_refl _) (by omega);obtain⟨Y,hY⟩:∃ Y,Y=(M.toList.take 0++Lib.byteCells s.data.toList++M.toList.drop (0+s.size)).toArray:=⟨_,rfl⟩;rw[← hY] at hcp
   have hYl:Y.toList=Lib.byteCells s.data.toList:=by
    rw[hY,List.toList_toArray,List.take_zero,List.nil_append,List.drop_of_length_le (by rw[Array.length_toList];omega),List.append_nil]
   have hYs:Y.size=s.size:=(by rw[← Array.length_toList,hYl,Lib.byteCells_length,← Lib.size_eq]);have hgY:((w.alloc (.cells M 5)).setRow w.heap.size Y).heap[w.heap.size]?=some (.cells Y 5 (0,0)):=setRow_heap _ _ M _ 5 (0,0) (heap_alloc_new w _);have hne:s.data.toList≠[]:=fun e=>h0 (by rw[Lib.size_eq,e];rfl)
   have hUS:=Lib.run_unsafeString_row (P:=Tryz.prog) ((w.alloc (.cells M 5)).setRow w.heap.size Y) 91 3 9 5 Tryz.underlying91 hco w.heap.size Y.size (by unfold World.shape?;rw[hgY]) s.data.toList hne (by rw[← Lib.size_eq];omega) (by rw[← Lib.size_eq];omega)
    (fun j x hx=>Lib.cells_of_row hgY Y.size j _ (by rw[List.take_of_length_le (by rw[Array.length_toList];exact Nat.le_refl _),hYl];simp[Lib.byteCells,hx]))
   rw[← Lib.size_eq] at hUS;clear hY;go_enter Tryz.func37,Tryz.ntmps37;go_wp2;go_ret;have hb1:Below w.heap.size w (w.alloc (.cells M 5)):=(Below.refl _ w).alloc (Nat.le_refl _) _;have hb2:Below w.heap.size (w.alloc (.cells M 5)) ((w.alloc (.cells M 5)).setRow w.heap.size Y):=⟨rfl,rfl,rfl,by simp,fun k hk=>setRow_other _ _ _ _ (by omega)⟩;exact⟨rfl,Lib.below_freeze (hb1.trans hb2) (p:=⟨w.heap.size,0,none⟩) (Nat.le_refl _) _⟩
theorem aaB (s:ByteArray)(w:World)(hlim:s.size≤aiT):
 Calls Tryz.prog 22 #[.string s] w fun e w'=>e=.returned (.string s)∧Below w.heap.size w w':=by
 have C:=aac (afm s w hlim);clear hlim;go_enter Tryz.func22,Tryz.ntmps22;go_wp2_with (go_at_call 37;refine C.out.mono ?_;rintro e w' ⟨rfl,hb⟩);go_ret;exact⟨rfl,hb⟩
theorem Tryz.results23:Tryz.f23.results= #[ResultVar.cell 2 28]:=by kernel_rfl
theorem adY {W:World}{b:Nat}{u:Value}(x y:Value)(h0:W.cell? ⟨b,0,none⟩=some u):((W.setCell ⟨b,0,none⟩ x).setCell ⟨b,1,none⟩ y).cell? ⟨b,0,none⟩=some x:=by
 have h1:(⟨b,1,none⟩:Addr)≠⟨b,0,none⟩:=(by simp);have h2:=World.cell?_setCell_same' W ⟨b,0,none⟩ x (by rw[h0];rfl);rw[← h2];exact World.cell?_setCell_other (h:=h1) ..
theorem adX {W:World}{b:Nat}{v:Value}(x y:Value)(h1:W.cell? ⟨b,1,none⟩=some v):((W.setCell ⟨b,0,none⟩ x).setCell ⟨b,1,none⟩ y).cell? ⟨b,1,none⟩=some y:=by
 have h0:(⟨b,0,none⟩:Addr)≠⟨b,1,none⟩:=(by simp);refine World.cell?_setCell_same' _ _ _ ?_;have h2:(W.setCell ⟨b,0,none⟩ x).cell? ⟨b,1,none⟩=W.cell? ⟨b,1,none⟩:=World.cell?_setCell_other (h:=h0) ..;rw[h2,h1];rfl
theorem anA {W:World}{b:Nat}{cs:Array Value}{T:TypeId}(h:W.heap[b]?=some (.cells cs T (0,0)))(j:Nat):W.frozen? ⟨b,j,none⟩=false:=by
 unfold World.frozen?;rw[h];simp
def CpS (w:World)(W:World):Prop:=(∃ a b,W.heap[w.heap.size+1]?=some (.cells #[a,b] 28 (0,0)))∧Below w.heap.size w W
theorem CpS.lt {w W:World}(h:CpS w W):w.heap.size+1 < W.heap.size:=by
 obtain⟨⟨a,b,h⟩,_⟩:=h;exact(Array.getElem?_eq_some_iff.1 h).1
theorem CpS.keep {w W W':World}(h:CpS w W)(hb:Below W.heap.size W W'):CpS w W':=by
 have hl:=h.lt;obtain⟨⟨a,b,h⟩,h2⟩:=h;exact⟨⟨a,b,(hb.block _ hl).trans h⟩,h2.trans (hb.mono h2.size)⟩
theorem agt (w:World)(p s:ByteArray):CpS w ((w.alloc (.cells #[.string p,.string s] 28)).alloc (.cells #[.string ⟨#[]⟩,.string ⟨#[]⟩] 28)).drew:=by
 refine⟨⟨.string ⟨#[]⟩,.string ⟨#[]⟩,?_⟩,(((Below.refl _ w).alloc (Nat.le_refl _) _).alloc (by simp) _).drew⟩;have:=heap_alloc_new (w.alloc (.cells #[.string p,.string s] 28)) (.cells #[.string ⟨#[]⟩,.string ⟨#[]⟩] 28);rw[World.size_alloc] at this;exact this
def CpA (w:World)(p s:Value)(W:World):Prop:=W.cell? ⟨w.heap.size,0,none⟩=some p∧W.cell? ⟨w.heap.size,1,none⟩=some s∧Hid (CpS w W)
theorem aeQ {w W w2:World}{p s:Value}(hb:Below W.heap.size W w2)(h:CpA w p s W):CpA w p s w2:=by
 have hl:=h.2.2.out.lt;exact⟨(hb.cell (p:=⟨w.heap.size,0,none⟩) (show w.heap.size < _ by omega)).trans h.1,(hb.cell (p:=⟨w.heap.size,1,none⟩) (show w.heap.size < _ by omega)).trans h.2.1,aac (h.2.2.out.keep hb)⟩
theorem akP {w W:World}{p s:Value}(h:CpA w p s W)(x y:Value):CpA w p s ((W.setCell ⟨w.heap.size+1,0,none⟩ x).setCell ⟨w.heap.size+1,1,none⟩ y):=by
 obtain⟨h1,h2,h3⟩:=h;obtain⟨⟨a,b,h4⟩,h5⟩:=h3.out;refine⟨by rw[World.cell?_setCell_far _ _ _ _ (by simp),World.cell?_setCell_far _ _ _ _ (by simp)];exact h1,by rw[World.cell?_setCell_far _ _ _ _ (by simp),World.cell?_setCell_far _ _ _ _ (by simp)];exact h2,aac ⟨⟨x,y,by simp[World.setCell,Array.getElem?_modify,h4]⟩,(h5.setCell (p:=⟨w.heap.size+1,0,none⟩) (by simp) _).setCell (p:=⟨w.heap.size+1,1,none⟩) (by simp) _⟩⟩
theorem ahm (p s:ByteArray)(w:World)(hp:p.size≤aiT)(hs:s.size≤aiT):
 Calls Tryz.prog 23 #[.agg #[.string p,.string s]] w fun e w'=>e=.returned (.agg #[.string p,.string s])∧Below w.heap.size w w':=by
 have CP:=aac (fun W=>aaB p W hp);have CS:=aac (fun W=>aaB s W hs);have H0:=aac (agt w p s);clear hp hs;go_enter Tryz.func23,Tryz.ntmps23;go_wp2_with fail
 go_region_held3 (fun W=>W.cell? ⟨w.heap.size,0,none⟩=some (.string p)∧W.cell? ⟨w.heap.size,1,none⟩=some (.string s)∧Hid (CpS w W))
  (first
    | exact⟨by simp,by simp,H0⟩
    | (go_split_ands;exact⟨by assumption,by assumption,by assumption⟩)
    | exact akP ⟨by assumption,by assumption,by assumption⟩ _ _)
  (first
    | (go_at_call_of 22 (Value.string p);refine(CP.out _).mono ?_;rintro e w2 ⟨rfl,hb⟩;obtain⟨q0,q1,q2⟩:CpA w (.string p) (.string s) w2:=aeQ hb ⟨by first | assumption | simp,by first | assumption | simp,by assumption⟩;obtain⟨⟨ya,yb,yh⟩,yB⟩:=q2.out;have z0:w2.cell? ⟨w.heap.size+1,0,none⟩=some ya:=aaf yh 0 rfl;have z1:w2.cell? ⟨w.heap.size+1,1,none⟩=some yb:=aaf yh 1 rfl;have f0:=anA yh 0;have f1:=anA yh 1;have HY:=aac yB;clear yh yB)
    | (go_at_call_of 22 (Value.string s);refine(CS.out _).mono ?_;rintro e w2 ⟨rfl,hb⟩;obtain⟨q0,q1,q2⟩:CpA w (.string p) (.string s) w2:=aeQ hb ⟨by first | assumption | simp,by first | assumption | simp,by assumption⟩;obtain⟨⟨ya,yb,yh⟩,yB⟩:=q2.out;have z0:w2.cell? ⟨w.heap.size+1,0,none⟩=some ya:=aaf yh 0 rfl;have z1:w2.cell? ⟨w.heap.size+1,1,none⟩=some yb:=aaf yh 1 rfl;have f0:=anA yh 0;have f1:=anA yh 1;have HY:=aac yB;clear yh yB))
 all_goals
  go_wp2;have c0:((w2.setCell ⟨w.heap.size+1,0,none⟩ (.string p)).setCell ⟨w.heap.size+1,1,none⟩ (.string s)).cell? ⟨w.heap.size+1,0,none⟩=some (.string p):=adY _ _ z0;have c1:((w2.setCell ⟨w.heap.size+1,0,none⟩ (.string p)).setCell ⟨w.heap.size+1,1,none⟩ (.string s)).cell? ⟨w.heap.size+1,1,none⟩=some (.string s):=adX _ _ z1;exact bodyPost_ret (v:=.agg #[.string p,.string s]) (by simp[results,Tryz.results23,go_sem,c0,c1]) rfl ⟨rfl,(HY.out.setCell (p:=⟨w.heap.size+1,0,none⟩) (by simp) _).setCell (p:=⟨w.heap.size+1,1,none⟩) (by simp) _⟩
end Go.Proofs.YtiaebhomfebagaaGreatDoor.Ev
namespace Go.Proofs.YtiaebhomfebagaaGreatDoor.Ev
open Go.RowKit
def smG:Fo→Fo→Bool
 | .nil,.nil=>true
 | .cons t tx sp lo ats ks nx,.cons t' tx' sp' lo' ats' ks' nx'=>(t == t') && (tx.toList == tx'.toList) && eqn (sp,lo) (sp',lo') && (ats.length == ats'.length) && ((ats.zip ats').all fun p=>eq3 p.1 p.2) && smG ks ks' && smG nx nx'
 | _,_=>false
theorem axx:∀ {f g:Fo},smG f g=true→f.len=g.len
 | .nil,.nil,_=>rfl
 | .cons t tx sp lo ats ks nx,.cons t' tx' sp' lo' ats' ks' nx',h=>by
   unfold smG at h;simp only[Bool.and_eq_true] at h;rw[Fo.len,Fo.len,axx h.2]
 | .nil,.cons _ _ _ _ _ _ _,h=>by cases h
 | .cons _ _ _ _ _ _ _,.nil,h=>by cases h
theorem ank:∀ (k:Nat) (f:Fo),(f.drop k).siz≤f.siz
 | 0,f=>Nat.le_refl _
 | k+1,.nil=>Nat.le_refl _
 | k+1,.cons t tx sp lo ats ks nx=>by
   rw[Fo.drop,Fo.siz];have:=ank k nx;omega
theorem ahG {f:Fo}{k:Nat}{t:Bool}{tx sp lo:ByteArray}{ats:List P3}{ks nx:Fo}(h:f.drop k=.cons t tx sp lo ats ks nx):ks.siz+1≤f.siz:=by
 have:=ank k f;rw[h,Fo.siz] at this;omega
theorem a1l {t t':Bool}{tx sp lo tx' sp' lo':ByteArray}{ats ats':List P3}{ks ks' nx nx':Fo}:smG (.cons t tx sp lo ats ks nx) (.cons t' tx' sp' lo' ats' ks' nx')=(smG (.cons t tx sp lo ats ks .nil) (.cons t' tx' sp' lo' ats' ks' .nil) && smG nx nx'):=by
 have e:smG .nil .nil=true:=rfl
 conv=>lhs;unfold smG
 conv=>rhs;lhs;unfold smG
 rw[e,Bool.and_true]
theorem cells6 {W:World}{b:Nat}{a0 a1 a2 a3 a4 a5:Value}{T:TypeId}{fz:Nat × Nat}(h:W.heap[b]?=some (.cells #[a0,a1,a2,a3,a4,a5] T fz)):W.cell? ⟨b,0,none⟩=some a0∧W.cell? ⟨b,1,none⟩=some a1∧W.cell? ⟨b,2,none⟩=some a2∧W.cell? ⟨b,3,none⟩=some a3∧W.cell? ⟨b,4,none⟩=some a4∧W.cell? ⟨b,5,none⟩=some a5:=⟨aaf h 0 rfl,aaf h 1 rfl,aaf h 2 rfl,aaf h 3 rfl,aaf h 4 rfl,aaf h 5 rfl⟩
theorem Tc6.keep {W W':World}{b off:Nat}{t:Bool}{tx sp lo:ByteArray}{Aa:Option Addr}{na ca:Nat}{Ak:Option Addr}{nk ck:Nat}(h:Tc6 W b off t tx sp lo Aa na ca Ak nk ck)(hb:Below W.heap.size W W'):Tc6 W' b off t tx sp lo Aa na ca Ak nk ck:=
 ⟨aby h.1 hb,aby h.2.1 hb,aby h.2.2.1 hb,aby h.2.2.2.1 hb,aby h.2.2.2.2.1 hb,aby h.2.2.2.2.2 hb⟩
theorem toList_eq {a b:ByteArray}(h:a.toList=b.toList):a=b:=by
 rw[Lib.toList_data,Lib.toList_data] at h;cases a;cases b;simp only[ByteArray.mk.injEq] at h ⊢;exact Array.toList_inj.1 h
theorem avk (x:P2):eqn x x=true:=by unfold eqn;simp
structure SmX (bX bY:Nat)(Ak:Option Addr)(nk ck:Nat)(Ak':Option Addr)(nk' ck':Nat)(c1 c2:World→Prop)(W0 W:World):Prop where
 kx:W.cell? ⟨bX,5,none⟩=some (.slice Ak nk ck)
 ky:W.cell? ⟨bY,5,none⟩=some (.slice Ak' nk' ck')
 x:c1 W
 y:c2 W
 bel:Below W0.heap.size W0 W
def TrC (N:Nat):Prop:=∀ (t:Bool) (tx sp lo:ByteArray) (ats:List P3) (ks:Fo) (Aa:Option Addr) (na ca:Nat) (Ak:Option Addr) (nk ck:Nat) (t':Bool) (tx' sp' lo':ByteArray) (ats':List P3) (ks':Fo) (Aa':Option Addr) (na' ca':Nat) (Ak':Option Addr) (nk' ck':Nat) (P Q:Nat→Prop) (W:World),ks.siz < N→Tr1 P W tx sp lo ats ks Aa na ca Ak nk ck→Tr1 Q W tx' sp' lo' ats' ks' Aa' na' ca' Ak' nk' ck'→
    Calls Tryz.prog 9 #[.agg #[.bool t,.string tx,.string sp,.string lo,.slice Aa na ca,.slice Ak nk ck],.agg #[.bool t',.string tx',.string sp',.string lo',.slice Aa' na' ca',.slice Ak' nk' ck']] W fun e w'=>e=.returned (.bool (smG (.cons t tx sp lo ats ks .nil) (.cons t' tx' sp' lo' ats' ks' .nil)))∧Below W.heap.size W w'
theorem aoZ (N:Nat)(hIH:Hid (TrC N)):TrC (N+1):=by
 intro t tx sp lo ats ks Aa na ca Ak nk ck t' tx' sp' lo' ats' ks' Aa' na' ca' Ak' nk' ck' P Q w hN T1 T2;obtain⟨F,hF⟩:∃ F,F=smG (.cons t tx sp lo ats ks .nil) (.cons t' tx' sp' lo' ats' ks' .nil):=⟨_,rfl⟩;rw[← hF]
 have HF:Hid (F=((t == t') && (tx.toList == tx'.toList) && eqn (sp,lo) (sp',lo') && (ats.length == ats'.length) && ((ats.zip ats').all fun p=>eq3 p.1 p.2) && smG ks ks')):=aac (by
  rw[hF];have e:smG .nil .nil=true:=rfl
  conv=>lhs;unfold smG
  rw[e,Bool.and_true])
 have HN:=aac hN;have HT1:=aac T1;have HT2:=aac T2;have hna:=T1.at_.cnt;have hnk:=T1.ks.2.1;obtain⟨W0,hW0⟩:∃ W0,W0=(w.alloc (.cells #[.bool t,.string tx,.string sp,.string lo,.slice Aa na ca,.slice Ak nk ck] 32)).alloc (.cells #[.bool t',.string tx',.string sp',.string lo',.slice Aa' na' ca',.slice Ak' nk' ck'] 32):=⟨_,rfl⟩;have HB0:Hid (Below w.heap.size w W0):=aac (by rw[hW0];exact((Below.refl w.heap.size w).alloc (Nat.le_refl _) _).alloc (by simp) _);have HKa:Hid (W0.heap[w.heap.size]?=some (.cells #[.bool t,.string tx,.string sp,.string lo,.slice Aa na ca,.slice Ak nk ck] 32 (0,0))):=aac (by rw[hW0];exact(Below.heap_alloc _ _ _ (by simp)).trans (abJ w 32 _));have HKb:Hid (W0.heap[w.heap.size+1]?=some (.cells #[.bool t',.string tx',.string sp',.string lo',.slice Aa' na' ca',.slice Ak' nk' ck'] 32 (0,0))):=aac (by rw[hW0];have h:=abJ (w.alloc (.cells #[.bool t,.string tx,.string sp,.string lo,.slice Aa na ca,.slice Ak nk ck] 32)) 32 #[.bool t',.string tx',.string sp',.string lo',.slice Aa' na' ca',.slice Ak' nk' ck'];rw[World.size_alloc] at h;exact h);have HZ:Hid (w.heap.size+1 < W0.heap.size):=aac (by rw[hW0];simp);clear T1 T2 hN hF;by_cases hall:t=t'∧tx=tx'∧sp=sp'∧lo=lo'∧na=na'∧nk=nk'
 · obtain⟨h1,h2,h3,h3b,h4,h5⟩:=hall;subst h1 h2 h3 h3b
   have HE:Hid (F=(((ats.zip ats').all fun p=>eq3 p.1 p.2) && smG ks ks')):=aac (by
    rw[HF.out,avk,← HT1.out.at_.len,← HT2.out.at_.len,h4];simp)
   have qn:((na:Int) != (na':Int))=false:=by rw[bne,h4];simp
   have qk:((nk:Int) != (nk':Int))=false:=by rw[bne,h5];simp
   have hn12:na≤na'∧na'≤na:=(by omega);have hk12:nk≤nk'∧nk'≤nk:=(by omega);clear HF h4 h5;go_enter Tryz.func9,Tryz.ntmps9;go_wp2_with fail;generalize hw:(w.alloc _).alloc _=W1 at *;clear hw;subst hW0;go_loopw [5] (fun i wr=>a5L ats ats' na W0 i wr) (fun i _=>na - (intOf i).toNat);case atStart=>exact⟨0,rfl,Nat.zero_le _,aac (Below.refl _ _),aac (fun j x y h=>by omega)⟩
   case round=>
    obtain⟨k,rfl,hk,HR,HA⟩:=hrel;obtain⟨_,_,_,_,c4,_⟩:=cells6 ((HR.out.block _ (by have:=HZ.out;omega)).trans HKa.out);obtain⟨_,_,_,_,d4,_⟩:=cells6 ((HR.out.block _ HZ.out).trans HKb.out);by_cases hlt:k < na
    · have g1:(k:Int) < (na:Int):=(by omega);have g2:(k:Int) < (na':Int):=(by omega);have g0:(0:Int)≤(k:Int):=(by omega);have hkl:k < ats.length:=by rw[← HT1.out.at_.len];exact hlt
      have hkm:k < ats'.length:=by rw[← HT2.out.at_.len];omega
      have hx:=List.getElem?_eq_getElem hkl;have hy:=List.getElem?_eq_getElem hkm;have hB:=aac (HB0.out.trans (HR.out.mono (by have:=HZ.out;omega)));obtain⟨b1,o1,rfl,hb1,x0,x1,x2⟩:=(HT1.out.at_.rd.keep hB.out) k _ hx;obtain⟨b2,o2,rfl,hb2,y0,y1,y2⟩:=(HT2.out.at_.rd.keep hB.out) k _ hy;have HX:=aac hx;have HY:=aac hy;generalize ats[k]=u at *;generalize ats'[k]=v at *;obtain⟨⟨ua,ub⟩,uc⟩:=u;obtain⟨⟨va,vb⟩,vc⟩:=v;dsimp only at x0 x1 x2 y0 y1 y2;clear hx hy hkl hkm hb1 hb2;by_cases he:eq3 ((ua,ub),uc) ((va,vb),vc)=true
      · have HA2:Hid (∀ (j:Nat) x y,j < k+1→ats[j]?=some x→ats'[j]?=some y→eq3 x y=true):=aac fun j x y hj h1 h2=>by
         rcases Nat.lt_or_ge j k with g | g
         · exact HA.out j x y g h1 h2
         · obtain rfl:j=k:=(by omega);rw[HX.out] at h1;rw[HY.out] at h2;injection h1 with h1
           injection h2 with h2
           rw[← h1,← h2];exact he
        unfold eq3 eqn at he;simp only[Bool.and_eq_true] at he;obtain⟨⟨p1,p2⟩,p3⟩:=he;clear HA HX HY;go_wp2_with fail;go_quiet (fail);go_wp2;go_roundw;case rel=>exact⟨k+1,by go_num,by omega,aac (below_drewN HR.out _),HA2⟩
        case measure=>simp only[intOf];omega
      · have he':eq3 ((ua,ub),uc) ((va,vb),vc)=false:=(by simpa using he);have HFf:Hid (F=false):=aac (by rw[HE.out,a3m HX.out HY.out he'];rfl)
        have hc:((ua.toList == va.toList)=false)∨((ua.toList == va.toList)=true∧(ub.toList == vb.toList)=false)∨((ua.toList == va.toList)=true∧(ub.toList == vb.toList)=true∧(uc.toList == vc.toList)=false):=by
         unfold eq3 eqn at he';dsimp only at he'
         revert he'
         cases (ua.toList == va.toList) <;> cases (ub.toList == vb.toList) <;> cases (uc.toList == vc.toList) <;> simp
        clear he he' HA HX HY HE;rcases hc with p1 | ⟨p1,p2⟩ | ⟨p1,p2,p3⟩
        all_goals
         go_wp2_with fail;go_quiet (fail);go_wp2;go_ret;exact⟨by rw[HFf.out] <;> rfl,below_drewN hB.out _⟩
    · have g1:¬ (k:Int) < (na:Int):=by omega
      have HE2:Hid (F=smG (ks.drop 0) (ks'.drop 0)):=aac (by
       rw[HE.out,axZ fun j x y hj h1 h2=>HA.out j x y (by rw[← HT1.out.at_.len] at hj;omega) h1 h2];rfl)
      have HBr:=HR;clear HA HE;go_wp2_with fail;clear c4 d4;go_loopw [6] (fun i wr=>∃ k:Nat,i=.int .i64 k∧k≤nk∧Hid (Below W0.heap.size W0 wr)∧Hid (F=smG (ks.drop k) (ks'.drop k))) (fun i _=>nk - (intOf i).toNat);case atStart=>exact⟨0,rfl,Nat.zero_le _,HBr,HE2⟩
      case round=>
       clear HE2 HBr HR hk hlt g1;obtain⟨k,rfl,hk,HR,HA⟩:=hrel;obtain⟨_,_,_,_,_,c5⟩:=cells6 ((HR.out.block _ (by have:=HZ.out;omega)).trans HKa.out);obtain⟨_,_,_,_,_,d5⟩:=cells6 ((HR.out.block _ HZ.out).trans HKb.out);have HB:=aac (HB0.out.trans (HR.out.mono (by have:=HZ.out;omega)));by_cases hlt:k < nk
       · have g1:(k:Int) < (nk:Int):=(by omega);have g2:(k:Int) < (nk':Int):=(by omega);have g0:(0:Int)≤(k:Int):=(by omega);obtain⟨u,ux,us,ul,ua,uk,b1,o1,u1,u2,u3,u4,u5,u6,ed,rfl,hb1,x6,X⟩:=(HT1.out.ks.keep HB.out).at_ (k:=k) hlt;obtain⟨v,vx,vs,vl,va,vk,b2,o2,v1,v2,v3,v4,v5,v6,ed',rfl,hb2,y6,Y⟩:=(HT2.out.ks.keep HB.out).at_ (k:=k) (by omega);have hsz:uk.siz < N:=by have:=ahG ed;have:=HN.out;omega
         have CS:Hid (∀ W,Below wr.heap.size wr W→Calls Tryz.prog 9 #[.agg #[.bool u,.string ux,.string us,.string ul,.slice u1 u2 u3,.slice u4 u5 u6],.agg #[.bool v,.string vx,.string vs,.string vl,.slice v1 v2 v3,.slice v4 v5 v6]] W fun e w'=>e=.returned (.bool (smG (.cons u ux us ul ua uk .nil) (.cons v vx vs vl va vk .nil)))∧Below W.heap.size W w'):=aac fun W hb=>hIH.out u ux us ul ua uk u1 u2 u3 u4 u5 u6 v vx vs vl va vk v1 v2 v3 v4 v5 v6 P Q W hsz (X.keep hb) (Y.keep hb);have HA2:Hid (F=(smG (.cons u ux us ul ua uk .nil) (.cons v vx vs vl va vk .nil) && smG (ks.drop (k+1)) (ks'.drop (k+1)))):=aac (by rw[HA.out,ed,ed',a1l]);have HX0:Hid (SmX w.heap.size (w.heap.size+1) (some ⟨b1,o1,none⟩) nk ck (some ⟨b2,o2,none⟩) nk' ck' (fun W=>Tc6 W b1 (o1+k * 6) u ux us ul u1 u2 u3 u4 u5 u6) (fun W=>Tc6 W b2 (o2+k * 6) v vx vs vl v1 v2 v3 v4 v5 v6) wr wr.drew):=aac ⟨c5,d5,x6,y6,(Below.refl _ _).drew⟩;have HKp:Hid (∀ W W',SmX w.heap.size (w.heap.size+1) (some ⟨b1,o1,none⟩) nk ck (some ⟨b2,o2,none⟩) nk' ck' (fun W=>Tc6 W b1 (o1+k * 6) u ux us ul u1 u2 u3 u4 u5 u6) (fun W=>Tc6 W b2 (o2+k * 6) v vx vs vl v1 v2 v3 v4 v5 v6) wr W→Below W.heap.size W W'→SmX w.heap.size (w.heap.size+1) (some ⟨b1,o1,none⟩) nk ck (some ⟨b2,o2,none⟩) nk' ck' (fun W=>Tc6 W b1 (o1+k * 6) u ux us ul u1 u2 u3 u4 u5 u6) (fun W=>Tc6 W b2 (o2+k * 6) v vx vs vl v1 v2 v3 v4 v5 v6) wr W'):=aac fun W W' h hb=>⟨aby h.kx hb,aby h.ky hb,h.x.keep hb,h.y.keep hb,h.bel.trans (hb.mono h.bel.size)⟩;have HSh:Hid (∀ W,SmX w.heap.size (w.heap.size+1) (some ⟨b1,o1,none⟩) nk ck (some ⟨b2,o2,none⟩) nk' ck' (fun W=>Tc6 W b1 (o1+k * 6) u ux us ul u1 u2 u3 u4 u5 u6) (fun W=>Tc6 W b2 (o2+k * 6) v vx vs vl v1 v2 v3 v4 v5 v6) wr W→(W.cell? ⟨w.heap.size,5,none⟩=some (.slice (some ⟨b1,o1,none⟩) nk ck)∧W.cell? ⟨w.heap.size+1,5,none⟩=some (.slice (some ⟨b2,o2,none⟩) nk' ck'))∧(W.cell? ⟨b1,o1+k * 6,none⟩=some (.bool u)∧W.cell? ⟨b1,o1+k * 6+1,none⟩=some (.string ux)∧W.cell? ⟨b1,o1+k * 6+2,none⟩=some (.string us)∧W.cell? ⟨b1,o1+k * 6+3,none⟩=some (.string ul)∧W.cell? ⟨b1,o1+k * 6+4,none⟩=some (.slice u1 u2 u3)∧W.cell? ⟨b1,o1+k * 6+5,none⟩=some (.slice u4 u5 u6))∧W.cell? ⟨b2,o2+k * 6,none⟩=some (.bool v)∧W.cell? ⟨b2,o2+k * 6+1,none⟩=some (.string vx)∧W.cell? ⟨b2,o2+k * 6+2,none⟩=some (.string vs)∧W.cell? ⟨b2,o2+k * 6+3,none⟩=some (.string vl)∧W.cell? ⟨b2,o2+k * 6+4,none⟩=some (.slice v1 v2 v3)∧W.cell? ⟨b2,o2+k * 6+5,none⟩=some (.slice v4 v5 v6)):=aac fun W h=>⟨⟨h.kx,h.ky⟩,h.x,h.y⟩;clear X Y x6 y6 hb1 hb2 HA ed ed' hsz;generalize smG (.cons u ux us ul ua uk .nil) (.cons v vx vs vl va vk .nil)=q at *;go_wp2_with fail
         go_region_held3 (fun W=>(W.cell? ⟨w.heap.size,5,none⟩=some (.slice (some ⟨b1,o1,none⟩) nk ck)∧W.cell? ⟨w.heap.size+1,5,none⟩=some (.slice (some ⟨b2,o2,none⟩) nk' ck'))∧(W.cell? ⟨b1,o1+k * 6,none⟩=some (.bool u)∧W.cell? ⟨b1,o1+k * 6+1,none⟩=some (.string ux)∧W.cell? ⟨b1,o1+k * 6+2,none⟩=some (.string us)∧W.cell? ⟨b1,o1+k * 6+3,none⟩=some (.string ul)∧W.cell? ⟨b1,o1+k * 6+4,none⟩=some (.slice u1 u2 u3)∧W.cell? ⟨b1,o1+k * 6+5,none⟩=some (.slice u4 u5 u6))∧W.cell? ⟨b2,o2+k * 6,none⟩=some (.bool v)∧W.cell? ⟨b2,o2+k * 6+1,none⟩=some (.string vx)∧W.cell? ⟨b2,o2+k * 6+2,none⟩=some (.string vs)∧W.cell? ⟨b2,o2+k * 6+3,none⟩=some (.string vl)∧W.cell? ⟨b2,o2+k * 6+4,none⟩=some (.slice v1 v2 v3)∧W.cell? ⟨b2,o2+k * 6+5,none⟩=some (.slice v4 v5 v6))
          (first | with_reducible exact HSh.out _ HX0.out | with_reducible exact HSh.out _ HX2.out | fail)
          (first
            | (go_at_call 9;refine(CS.out _ HX0.out.bel).mono ?_;rintro e w2 ⟨rfl,hb⟩;have HX2:=aac (HKp.out _ _ HX0.out hb);clear hb)
            | fail)
         all_goals
          have HB2:=aac (HR.out.trans (HX2.out.bel.mono HR.out.size))
          cases q with
          | true=>
            have HA3:Hid (F=smG (ks.drop (k+1)) (ks'.drop (k+1))):=aac (by rw[HA2.out];rfl);clear HA2 HSh HKp HX0 CS HX2;go_wp2;go_roundw;case rel=>exact⟨k+1,by go_num,by omega,HB2,HA3⟩
            case measure=>simp only[intOf];omega
          | false=>
            have HFf:Hid (F=false):=aac (by rw[HA2.out];rfl);have HB3:=aac (HB0.out.trans (HB2.out.mono (by have:=HZ.out;omega)));clear HA2 HSh HKp HX0 CS HX2;go_wp2;go_ret;exact⟨by rw[HFf.out] <;> rfl,HB3.out⟩
       · have g1:¬ (k:Int) < (nk:Int):=by omega
         have HFt:Hid (F=true):=aac (by
          have e1:ks.drop k=.nil:=ahW (by rw[ahJ,← HT1.out.ks.1];omega);have e2:ks'.drop k=.nil:=ahW (by rw[ahJ,← HT2.out.ks.1];omega);rw[HA.out,e1,e2];rfl)
         clear HA;go_wp2;go_ret;exact⟨by rw[HFt.out] <;> rfl,HB.out⟩
 · have HFf:Hid (F=false):=aac (by
    rw[HF.out];by_cases e1:t=t'
    · by_cases e2:tx=tx'
      · by_cases e3:sp=sp'∧lo=lo'
        · by_cases e4:na=na'
          · have e5:¬ nk=nk':=fun h=>hall ⟨e1,e2,e3.1,e3.2,e4,h⟩
            have:smG ks ks'=false:=by
             cases h:smG ks ks'
             · rfl
             · exact absurd (by rw[HT1.out.ks.1,HT2.out.ks.1,axx h]) e5
            rw[this,Bool.and_false]
          · have:(ats.length == ats'.length)=false:=by rw[← HT1.out.at_.len,← HT2.out.at_.len,beq_eq_false_iff_ne];exact e4
            rw[this];simp
        · have:eqn (sp,lo) (sp',lo')=false:=by
           cases h:eqn (sp,lo) (sp',lo')
           · rfl
           · unfold eqn at h;simp only[Bool.and_eq_true,beq_iff_eq] at h;exact absurd ⟨toList_eq h.1,toList_eq h.2⟩ e3
          rw[this];simp
      · have:(tx.toList == tx'.toList)=false:=by rw[beq_eq_false_iff_ne];exact fun h=>e2 (toList_eq h)
        rw[this];simp
    · have:(t == t')=false:=by rw[beq_eq_false_iff_ne];exact e1
      rw[this];simp)
   have hc:(¬ t=t')∨(t=t'∧¬ tx.toList=tx'.toList)∨(t=t'∧tx=tx'∧(sp.toList == sp'.toList)=false)∨(t=t'∧tx=tx'∧sp=sp'∧(lo.toList == lo'.toList)=false)∨(t=t'∧tx=tx'∧sp=sp'∧lo=lo'∧((na:Int) != (na':Int))=true)∨(t=t'∧tx=tx'∧sp=sp'∧lo=lo'∧((na:Int) != (na':Int))=false∧((nk:Int) != (nk':Int))=true):=by
    by_cases e1:t=t'
    · right;by_cases e2:tx=tx'
      · right;by_cases e3:sp=sp'
        · right;by_cases e3b:lo=lo'
          · right;by_cases e4:na=na'
            · exact .inr ⟨e1,e2,e3,e3b,by rw[bne,e4];simp,by rw[bne_iff_ne];intro h;exact hall ⟨e1,e2,e3,e3b,e4,by omega⟩⟩
            · exact .inl ⟨e1,e2,e3,e3b,by rw[bne_iff_ne];omega⟩
          · exact .inl ⟨e1,e2,e3,by rw[beq_eq_false_iff_ne];exact fun h=>e3b (toList_eq h)⟩
        · exact .inl ⟨e1,e2,by rw[beq_eq_false_iff_ne];exact fun h=>e3 (toList_eq h)⟩
      · exact .inl ⟨e1,fun h=>e2 (toList_eq h)⟩
    · exact .inl e1
   clear hall HF HT1 HT2 HKa HKb HZ hIH HN;rcases hc with p1 | ⟨rfl,p2⟩ | ⟨rfl,rfl,p3⟩ | ⟨rfl,rfl,rfl,p4⟩ | ⟨rfl,rfl,rfl,rfl,p5⟩ | ⟨rfl,rfl,rfl,rfl,p5,p6⟩
   all_goals
    go_enter Tryz.func9,Tryz.ntmps9;go_wp2_with fail;generalize hw:(w.alloc _).alloc _=W1 at *;clear hw;subst hW0;go_ret;exact⟨by rw[HFf.out] <;> rfl,HB0.out⟩
theorem anB:∀ N:Nat,TrC N
 | 0=>by
   intro t tx sp lo ats ks Aa na ca Ak nk ck t' tx' sp' lo' ats' ks' Aa' na' ca' Ak' nk' ck' P Q W h;omega
 | N+1=>aoZ N (aac (anB N))
end Go.Proofs.YtiaebhomfebagaaGreatDoor.Ev
namespace Go.Proofs.YtiaebhomfebagaaGreatDoor.Ev
open Go.RowKit
def Fo.dep:Fo→Nat
 | .nil=>0
 | .cons _ _ _ _ _ ks nx=>max (1+ks.dep) nx.dep
end Go.Proofs.YtiaebhomfebagaaGreatDoor.Ev
namespace Go.Proofs.YtiaebhomfebagaaGreatDoor.Ev
open Go.RowKit
structure Ev1 (W:World)(b o:Nat)(kx:Int)(na nb tx:ByteArray)(Aa:Option Addr)(n c:Nat):Prop where
 c0:W.cell? ⟨b,o,none⟩=some (.int .i64 kx)
 c1:W.cell? ⟨b,o+1,none⟩=some (.string na)
 c2:W.cell? ⟨b,o+2,none⟩=some (.string nb)
 c3:W.cell? ⟨b,o+3,none⟩=some (.slice Aa n c)
 c4:W.cell? ⟨b,o+4,none⟩=some (.string tx)
theorem Ev1.keep {W W':World}{b o:Nat}{kx:Int}{na nb tx:ByteArray}{Aa:Option Addr}{n c:Nat}(h:Ev1 W b o kx na nb tx Aa n c)(hb:Below W.heap.size W W')(hlt:b < W.heap.size):Ev1 W' b o kx na nb tx Aa n c:=
 ⟨(hb.cell (p:=⟨b,o,none⟩) hlt).trans h.c0,(hb.cell (p:=⟨b,o+1,none⟩) hlt).trans h.c1,(hb.cell (p:=⟨b,o+2,none⟩) hlt).trans h.c2,(hb.cell (p:=⟨b,o+3,none⟩) hlt).trans h.c3,(hb.cell (p:=⟨b,o+4,none⟩) hlt).trans h.c4⟩
end Go.Proofs.YtiaebhomfebagaaGreatDoor.Ev
namespace Go.Proofs.YtiaebhomfebagaaGreatDoor.Ev
open Go.RowKit
theorem Tryz.info54:(Tryz.prog.info? 54).map (fun i=>(i.zero,i.size,i.bytes))=some (some (.agg #[.int .i64 0,.string ⟨#[]⟩,.string ⟨#[]⟩,.slice none 0 0,.string ⟨#[]⟩]),5,80):=by kernel_rfl
theorem abG {P:Program}{w:World}{ops:Array Oper}{rest:List Oper}{o:Oper}{a:Act}{Q:Exit→Act→World→Prop}(hgd:o.guard=none)(s x:Operand)(t:TypeId)
 (ho:o.op=.call { callee:=.builtin .append,args:= #[s,x],argTypes:= #[t,t] })
 (base:Nat) (e:TypeId) (i:TypeInfo) (z:Value) (size bytes:Nat) (ht:P.underlying t=some (.slice e)) (hi:P.info? e=some i) (hz:i.zero=some z) (hsize:i.size=size) (hby:i.bytes=bytes) (hzs:z.cells.size=size) (hsz:0 < size)
 (v:Value) (n:Nat) (xs:List Value) (hs:a.eval s=v) (hown:w.ownsRow base e size v n xs)
 (A:Option Addr) (m c:Nat) (news:List Value) (hx:a.eval x=.slice A m c) (hnil:A=none→m=0∧c=0) (hl:news.length=m * size) (hnews:∀ ad,A=some ad→∀ j u,news[j]?=some u→w.cell? (ad.add j)=some u) (h1:∀ u∈news,u.oneCell'=true)
 (h63:n+m≤maxLen) (hbytes:(n+m) * bytes≤140737488355328) (hbase:base≤w.heap.size)
 (h:∀ v' w',w'.ownsRow base e size v' (n+m) (xs++news)→w.grownBy w' v.ownBlock→wpList P ops Q rest (a.put o.dst v') w'):
 wpList P ops Q (o :: rest) a w:=by
 cases A with
 | some ad=>exact wpList_append_own w hgd s x t ho base e i z size bytes ht hi hz hsize hby hzs hsz v n xs hs hown ad m c news hx hl (hnews ad rfl) h1 h63 hbytes hbase (fun v' w' a1 a2 _=>h v' w' a1 a2)
 | none=>
   obtain⟨rfl,rfl⟩:=hnil rfl;have hnw:news=[]:=List.eq_nil_of_length_eq_zero (by rw[hl,Nat.zero_mul]);subst hnw;refine wpList_plain hgd fun K hK=> ?_;have hr:=run_append_owned_none (P:=P) (w:=w) base t o.type e i size ht hi v n xs hown;unfold Oper.wp execOp;simp only[ho,resolve,invoke,builtin,Sem.run_bind,Sem.run_pure,Result.andThen_ok,List.map_toArray,List.map_cons,List.map_nil,hs,hx,hr];exact hK _ _ (h v w (by rw[List.append_nil];exact hown) ⟨rfl,rfl,rfl,Nat.le_refl _,fun _ _ _=>rfl⟩)
theorem afi {W:World}{B n c z:Nat}{e:TypeId}{A:Option Addr}{xs:List Value}(h:W.ownsRow B e z (.slice A n c) n xs):(A=none→n=0∧c=0)∧∀ ad,A=some ad→∀ j u,xs[j]?=some u→W.cell? (ad.add j)=some u:=by
 rcases h.2 with ⟨q,h0⟩ | ⟨g,cap,cur,q,hB,hh,hr⟩
 · injection q with q1 q2 q3
   refine⟨fun _=>⟨h0,q3⟩,fun ad e=> ?_⟩;rw[q1] at e;cases e
 · injection q with q1 q2 q3
   subst q1;refine⟨(fun e=>by cases e),fun ad e j u hu=> ?_⟩;cases e;exact h.cells rfl j u hu
end Go.Proofs.YtiaebhomfebagaaGreatDoor.Ev
namespace Go.Proofs.YtiaebhomfebagaaGreatDoor.Ev
open Go.RowKit
theorem ahZ {W:World}{B B' n z:Nat}{e:TypeId}{v:Value}{xs:List Value}(h:W.ownsRow B e z v n xs)(hb:B'≤B):W.ownsRow B' e z v n xs:=
 ⟨h.1,h.2.imp id fun ⟨g,cap,cur,q,h1,h2⟩=>⟨g,cap,cur,q,Nat.le_trans hb h1,h2⟩⟩
theorem afz (tx sp lo:ByteArray)(ats:List P3)(ks:Fo):(Fo.cons false tx sp lo ats ks .nil).evs=[(⟨1,sp,lo,ats,emB⟩:RE)]++ks.evs++[clE]:=by
 rw[Fo.evs,if_neg (by decide)];simp[Fo.evs]
end Go.Proofs.YtiaebhomfebagaaGreatDoor.Ev
namespace Go.Proofs.YtiaebhomfebagaaGreatDoor.Ev
open Go.RowKit
theorem Tr1.grown {P:Nat→Prop}{W W':World}{row:Option Nat}{tx sp lo:ByteArray}{ats:List P3}{ks:Fo}{Aa:Option Addr}{na ca:Nat}{Ak:Option Addr}{nk ck:Nat}(hg:W.grownBy W' row)(hP:∀ b,P b→some b≠row)(h:Tr1 P W tx sp lo ats ks Aa na ca Ak nk ck):Tr1 P W' tx sp lo ats ks Aa na ca Ak nk ck:=
 ⟨h.sz,h.at_.ajL hg (fun h0 a e=>hP _ (h.ap h0 a e)),h.ap,h.ks.grown hg hP⟩
def KsV (P:Nat→Prop)(W:World):Fo→List Value→Prop
 | .nil,vs=>vs=[]
 | .cons t tx sp lo ats ks nx,vs=>∃ Aa na ca Ak nk ck vs',vs=[.bool t,.string tx,.string sp,.string lo,.slice Aa na ca,.slice Ak nk ck]++vs'∧Tr1 P W tx sp lo ats ks Aa na ca Ak nk ck∧KsV P W nx vs'
theorem KsV.map {P Q:Nat→Prop}{W W':World}(h:∀ {tx sp lo:ByteArray} {ats:List P3} {ks:Fo} {Aa:Option Addr} {na ca:Nat} {Ak:Option Addr} {nk ck:Nat},Tr1 P W tx sp lo ats ks Aa na ca Ak nk ck→Tr1 Q W' tx sp lo ats ks Aa na ca Ak nk ck):∀ {f:Fo} {vs:List Value},KsV P W f vs→KsV Q W' f vs
 | .nil,_,e=>e
 | .cons t tx sp lo ats ks nx,vs,⟨Aa,na,ca,Ak,nk,ck,vs',e,h1,h2⟩=>⟨Aa,na,ca,Ak,nk,ck,vs',e,h h1,KsV.map h h2⟩
theorem KsV.app {P:Nat→Prop}{W:World}:∀ {f g:Fo} {vs us:List Value},KsV P W f vs→KsV P W g us→KsV P W (f.app g) (vs++us)
 | .nil,g,vs,us,e,h=>by
   have e:vs=[]:=e;rw[e];exact h
 | .cons t tx sp lo ats ks nx,g,vs,us,⟨Aa,na,ca,Ak,nk,ck,vs',e,h1,h2⟩,h=>⟨Aa,na,ca,Ak,nk,ck,vs'++us,by rw[e,List.append_assoc],h1,KsV.app h2 h⟩
theorem KsV.at_ {P:Nat→Prop}{W:World}{g:Nat}:∀ {f:Fo} {vs:List Value} {off:Nat},KsV P W f vs→(∀ j u,vs[j]?=some u→W.cell? ⟨g,off+j,none⟩=some u)→acJ P W f g off
 | .nil,_,_,_,_=>trivial
 | .cons t tx sp lo ats ks nx,vs,off,⟨Aa,na,ca,Ak,nk,ck,vs',e,h1,h2⟩,h=>by
   subst e;refine acJ.mk ⟨h 0 _ rfl,h 1 _ rfl,h 2 _ rfl,h 3 _ rfl,h 4 _ rfl,h 5 _ rfl⟩ h1 (KsV.at_ h2 fun j u hj=> ?_);have:=h (6+j) u (by rw[List.getElem?_append_right (by simp)];simpa using hj);rw[show off+6+j=off+(6+j) by omega];exact this
theorem a4f {P:Nat→Prop}{W:World}{base n:Nat}{f:Fo}{v:Value}{vs:List Value}(h:W.ownsRow base 32 6 v n vs)(hk:KsV P W f vs)(hn:n=f.len)(hb:n≤4398046511104)(hP:∀ g,v.ownBlock=some g→P g):∃ A c,v=.slice A n c∧akb P W f A n c:=by
 obtain⟨sn,sc⟩:True∧True:=⟨trivial,trivial⟩;rcases h.2 with ⟨rfl,h0⟩ | ⟨g,cap,cur,rfl,hB,hh,h1,h2,h3,h4⟩
 · subst h0;exact⟨none,0,rfl,hn,hb,Nat.le_refl _,Nat.zero_le _,fun _=>⟨rfl,rfl⟩,fun h=>absurd h (Nat.lt_irrefl 0)⟩
 · refine⟨_,cap,rfl,hn,hb,h1,h2,(fun h=>by cases h),fun _=>⟨g,0,rfl,(Array.getElem?_eq_some_iff.1 hh).1,hP g rfl,hk.at_ fun j u hj=> ?_⟩⟩;have:=(afi h).2 _ rfl j u hj;have ha:(⟨g,0,none⟩:Addr).add j=⟨g,0+j,none⟩:=(by cases j <;> simp[Addr.add]);rw[← ha];exact this
theorem ark:∀ f:Fo,f.pln.len=f.len
 | .nil=>rfl
 | .cons t tx sp lo ats ks nx=>by
   rw[Fo.pln];split <;> rw[Fo.len,Fo.len,ark nx]
theorem aqo:∀ f g:Fo,(f.app g).pln=f.pln.app g.pln
 | .nil,g=>rfl
 | .cons t tx sp lo ats ks nx,g=>by
   rw[Fo.app,Fo.pln,Fo.pln];split <;> rw[Fo.app,aqo nx]
theorem aaG (W:World)(a:Addr)(u:Value):W.grownBy (W.setCell a u) (some a.block):=
 have h:=(Below.refl 0 W).setCell (p:=a) (Nat.zero_le _) u
 ⟨h.os,h.tape,h.output,h.size,fun k _ hne=>Below.heap_setCell W a u k (fun e=>hne (by rw[e]))⟩
end Go.Proofs.YtiaebhomfebagaaGreatDoor.Ev
namespace Go.Proofs.YtiaebhomfebagaaGreatDoor.Ev
open Go.RowKit
theorem asa {W:World}{B1 B2 z1 z2 n1 n2:Nat}{e1 e2:TypeId}{v1 v2:Value}{xs1 xs2:List Value}(h1:W.ownsRow B1 e1 z1 v1 n1 xs1)(h2:W.ownsRow B2 e2 z2 v2 n2 xs2)(hT:e1≠e2):v1.ownBlock=none∨v1.ownBlock≠v2.ownBlock:=by
 rcases h1.2 with ⟨rfl,_⟩ | ⟨g,cap,cur,rfl,_,hg,_⟩
 · exact .inl rfl
 · right;rcases h2.2 with ⟨rfl,_⟩ | ⟨g',cap',cur',rfl,_,hg',_⟩
   · simp[Value.ownBlock]
   · intro h;simp only[Value.ownBlock,Option.some.injEq] at h;subst h;rw[hg] at hg';injection hg' with hg'
     injection hg' with _ h2 _
     exact hT h2
def Pk (B s:Nat)(v:Value)(W:World)(b:Nat):Prop:=(b < B∨s≤b)∧b < W.heap.size∧b≠s∧b≠s+1∧v.ownBlock≠some b
structure TL (B s:Nat)(w:World)(sp lo:ByteArray)(Aa:Option Addr)(na ca:Nat)(kv:Value)(pl:List Int)(f:Fo)(k:Nat)(v:Value)(wr:World):Prop where
 own:∃ vs,wr.ownsRow (s+2) 32 6 v k vs∧KsV (Pk B s v wr) wr f vs
 box:wr.heap[s+1]?=some (.cells #[.bool false,.string ⟨#[]⟩,.string sp,.string lo,.slice Aa na ca,v] 32 (0,0))
 res:wr.heap[s]?=some (.cells #[.bool false,.string ⟨#[]⟩,.string ⟨#[]⟩,.string ⟨#[]⟩,.slice none 0 0,.slice none 0 0] 32 (0,0))
 ints:a5f wr (s+2) kv pl
 bel:Below s w wr
 lt:s+2≤wr.heap.size
section
variable {B s k:Nat} {w wr:World} {sp lo:ByteArray} {Aa:Option Addr} {na ca:Nat} {kv v:Value} {pl:List Int} {f:Fo}
theorem Pk.mono {w':World}(h:wr.heap.size≤w'.heap.size){b:Nat}(hp:Pk B s v wr b):Pk B s v w' b:=⟨hp.1,Nat.lt_of_lt_of_le hp.2.1 h,hp.2.2⟩
theorem TL.keep {w':World}(h:TL B s w sp lo Aa na ca kv pl f k v wr)(hb:Below wr.heap.size wr w'):TL B s w sp lo Aa na ca kv pl f k v w':=by
 have hl:=h.lt;obtain⟨vs,h1,h2⟩:=h.own;exact⟨⟨vs,aaj h1 hb,h2.map fun t=>(t.keep hb).mono fun b hp=>hp.mono hb.size⟩,(hb.block _ (by omega)).trans h.box,(hb.block _ (by omega)).trans h.res,aaj h.ints hb,h.bel.trans (hb.mono (by omega)),Nat.le_trans h.lt hb.size⟩
theorem aag {W:World}{b:Nat}{cs:Array Value}{T:TypeId}(h:W.heap[b]?=some (.cells cs T (0,0)))(j:Nat):W.frozen? ⟨b,j,none⟩=false:=by
 unfold World.frozen?;rw[h];simp
theorem TL.child {n:Nat}{vs:List Value}{w5 w6:World}(h:TL B s w sp lo Aa na ca kv pl f k v wr)(hB:B≤s)(ho:wr.ownsRow (s+2) 32 6 v n vs)(hs:w5.heap.size≤w6.heap.size){b:Nat}(hp:(b < B∨wr.heap.size≤b)∧b < w5.heap.size):Pk B s v w6 b:=by
 have hl:=h.lt;refine⟨by omega,by omega,by omega,by omega,fun e=> ?_⟩;have:=World.ownsRow.lt ho b e;omega
theorem auZ (u:Bool)(ux us ul:ByteArray)(u1:Option Addr)(u2 u3:Nat)(u4:Option Addr)(u5 u6:Nat):∀ x∈[Value.bool u,.string ux,.string us,.string ul,.slice u1 u2 u3,.slice u4 u5 u6],x.oneCell'=true:=by
 intro x hx;simp only[List.mem_cons,List.not_mem_nil,or_false] at hx;rcases hx with rfl | rfl | rfl | rfl | rfl | rfl <;> rfl
theorem TL.put {w4:World}{g cap:Nat}{u:Bool}{ux us ul:ByteArray}{ua:List P3}{uk:Fo}{u1:Option Addr}{u2 u3:Nat}{u4:Option Addr}{u5 u6:Nat}{vs:List Value}
 (h:TL B s w sp lo Aa na ca kv pl f k v wr) (hB:B≤s) (ho:wr.ownsRow (s+2) 32 6 v k vs) (hk:KsV (Pk B s v wr) wr f vs) (hc:Tr1 (Pk B s v wr) wr ux us ul ua uk u1 u2 u3 u4 u5 u6)
 (n1:w4.ownsRow (s+2) 32 6 (.slice (some ⟨g,0,none⟩) (k+1) cap) (k+1) (vs++[.bool u,.string ux,.string us,.string ul,.slice u1 u2 u3,.slice u4 u5 u6])) (n2:wr.grownBy w4 v.ownBlock) (n3:v.ownBlock=some g∨g=wr.heap.size) (n4:g < w4.heap.size):
 TL B s w sp lo Aa na ca kv pl (f.app (.cons u ux us ul ua uk .nil)) (k+1) (.slice (some ⟨g,0,none⟩) (k+1) cap) (w4.setCell ⟨s+1,5,none⟩ (.slice (some ⟨g,0,none⟩) (k+1) cap)):=by
 have hl:=h.lt;have hv:∀ j,v.ownBlock=some j→s+2≤j∧j < wr.heap.size:=fun j hj=>World.ownsRow.lt ho j hj
 have hg:s+2≤g:=by
  rcases n3 with n3 | n3
  · exact(hv g n3).1
  · omega
 have hne:∀ j,v.ownBlock=some j→j≠s+1∧j≠s:=fun j hj=>by have:=hv j hj;omega
 have G2:w4.grownBy (w4.setCell ⟨s+1,5,none⟩ (.slice (some ⟨g,0,none⟩) (k+1) cap)) (some (s+1)):=aaG w4 ⟨s+1,5,none⟩ (.slice (some ⟨g,0,none⟩) (k+1) cap);have hin:kv.ownBlock=none∨kv.ownBlock≠v.ownBlock:=asa h.ints ho (by decide);have hsz:=n2.size;have hsz2:=G2.size
 have hP:∀ b,Pk B s v wr b→Pk B s (.slice (some ⟨g,0,none⟩) (k+1) cap) (w4.setCell ⟨s+1,5,none⟩ (.slice (some ⟨g,0,none⟩) (k+1) cap)) b:=fun b ⟨p1,p2,p3,p4,p5⟩=>⟨p1,by omega,p3,p4,fun e=>by
  have e:some g=some b:=e;injection e with e
  rcases n3 with n3 | n3
  · exact p5 (by rw[n3,e])
  · omega⟩
 have ht:∀ {tx sp lo:ByteArray} {ats:List P3} {ks:Fo} {Aa:Option Addr} {na ca:Nat} {Ak:Option Addr} {nk ck:Nat},Tr1 (Pk B s v wr) wr tx sp lo ats ks Aa na ca Ak nk ck→Tr1 (Pk B s (.slice (some ⟨g,0,none⟩) (k+1) cap) (w4.setCell ⟨s+1,5,none⟩ (.slice (some ⟨g,0,none⟩) (k+1) cap))) (w4.setCell ⟨s+1,5,none⟩ (.slice (some ⟨g,0,none⟩) (k+1) cap)) tx sp lo ats ks Aa na ca Ak nk ck:=fun t=>
  ((t.grown n2 (fun b hp e=>hp.2.2.2.2 e.symm)).grown G2 (fun b hp e=>hp.2.2.2.1 (by injection e))).mono hP
 refine⟨⟨_,World.ownsRow.kept (row:=some (s+1)) n1 G2 (.inr fun e=> ?_),(hk.map ht).app ⟨u1,u2,u3,u4,u5,u6,[],by simp,ht hc,rfl⟩⟩,?_,?_,World.ownsRow.kept (row:=some (s+1)) (World.ownsRow.kept h.ints n2 ?_) G2 (.inr fun e=> ?_),?_,by omega⟩
 · have e:some g=some (s+1):=e;injection e with e
   omega
 · have hb4:w4.heap[s+1]?=some (.cells #[.bool false,.string ⟨#[]⟩,.string sp,.string lo,.slice Aa na ca,v] 32 (0,0)):=(n2.block _ (by omega) (fun e=>(hne _ e.symm).1 rfl)).trans h.box;simp[World.setCell,Array.getElem?_modify,hb4]
 · exact(G2.block _ (by omega) (fun e=>by injection e with e;omega)).trans ((n2.block _ (by omega) (fun e=>(hne _ e.symm).2 rfl)).trans h.res)
 · exact hin
 · have:=(World.ownsRow.lt (World.ownsRow.kept h.ints n2 hin) (s+1) e).1;omega
 · exact(h.bel.grown n2 (by omega) (fun j hj=>by have:=hv j hj;omega)).grown G2 (by have:=h.bel.size;omega) (fun j hj=>by injection hj with hj;omega)
end
def aco (W:World)(s:Nat)(x0 x1 x2 x3 x4 x5:Value):World:=(((((W.setCell ⟨s,0,none⟩ x0).setCell ⟨s,1,none⟩ x1).setCell ⟨s,2,none⟩ x2).setCell ⟨s,3,none⟩ x3).setCell ⟨s,4,none⟩ x4).setCell ⟨s,5,none⟩ x5
theorem axH {W:World}{s:Nat}{a0 a1 a2 a3 a4 a5:Value}{T:TypeId}(x0 x1 x2 x3 x4 x5:Value)(h:W.heap[s]?=some (.cells #[a0,a1,a2,a3,a4,a5] T (0,0))):
 (aco W s x0 x1 x2 x3 x4 x5).heap[s]?=some (.cells #[x0,x1,x2,x3,x4,x5] T (0,0))∧W.grownBy (aco W s x0 x1 x2 x3 x4 x5) (some s):=
 ⟨by simp[aco,World.setCell,Array.getElem?_modify,h],(((((aaG W ⟨s,0,none⟩ x0).trans (aaG _ ⟨s,1,none⟩ x1)).trans (aaG _ ⟨s,2,none⟩ x2)).trans (aaG _ ⟨s,3,none⟩ x3)).trans (aaG _ ⟨s,4,none⟩ x4)).trans (aaG _ ⟨s,5,none⟩ x5)⟩
end Go.Proofs.YtiaebhomfebagaaGreatDoor.Ev
namespace Go.Proofs.YtiaebhomfebagaaGreatDoor.Ev
open Go.RowKit
theorem Tryz.info40:(Tryz.prog.info? 40).map (fun i=>(i.zero,i.size,i.bytes))=some (some (.agg #[.string ⟨#[]⟩,.string ⟨#[]⟩,.string ⟨#[]⟩]),3,48):=by kernel_rfl
def atC (x:P3):List Value:=[.string x.1.1,.string x.1.2,.string x.2]
def atL (l:List P3):List Value:=l.flatMap atC
theorem aoY (x:P3):(atC x).length=3:=rfl
theorem azQ (l:List P3)(k i:Nat)(x:P3)(h:l[k]?=some x)(hi:i < 3):(atL l)[k * 3+i]?=(atC x)[i]?:=adF aoY l k i x h hi
theorem avM {l:List P3}{k:Nat}{x:P3}(h:l[k]?=some x):atL (l.take (k+1))=atL (l.take k)++atC x:=by
 unfold atL;rw[List.take_add_one,h,List.flatMap_append];simp
theorem aza (x:P3):∀ u∈atC x,u.oneCell'=true:=by
 intro u hu;simp only[atC,List.mem_cons,List.not_mem_nil,or_false] at hu;rcases hu with rfl | rfl | rfl <;> rfl
def a4F (l:List P3):Prop:=∀ x∈l,x.1.1.size≤aiT∧x.1.2.size≤aiT∧x.2.size≤aiT
theorem aop (A:Option Addr)(n c:Nat)(l:List P3)(w:World)(T:aaC w A n c l)(hn:n≤100000)(hL:a4F l):
 Calls Tryz.prog 24 #[.slice A n c] w fun e w'=>∃ v,e=.returned v∧w'.ownsRow w.heap.size 40 3 v n (atL l)∧Below w.heap.size w w':=by
 obtain⟨i0,hi,hz0,hz1,hz2⟩:=info_parts Tryz.info40;have HT:=aac T;have HL:=aac hL;clear T hL;go_enter Tryz.func24,Tryz.ntmps24;go_wp2_with fail;go_loopw [3,8] (fun v i wr=>∃ k:Nat,i=.int .i64 k∧k≤n∧Hid (wr.ownsRow w.heap.size 40 3 v k (atL (l.take k)))∧Hid (Below w.heap.size w wr)) (fun _ i _=>n - (intOf i).toNat);case atStart=>exact⟨0,rfl,Nat.zero_le _,aac (World.ownsRow_nil _ _ _ _),aac (Below.refl _ _)⟩
 case round=>
  obtain⟨k,rfl,hk,HO,HB⟩:=hrel;by_cases hlt:k < n
  · have g1:(k:Int) < (n:Int):=(by omega);have g0:(0:Int)≤(k:Int):=(by omega);have hkl:k < l.length:=by rw[← HT.out.len];exact hlt
    have hx:=List.getElem?_eq_getElem hkl;obtain⟨b,off,hA,hbl,c0,c1,c2⟩:=(HT.out.keep HB.out).rd k _ hx;obtain⟨z0,z1,z2⟩:=HL.out _ (List.mem_of_getElem? hx);have HX:=aac (avM hx);have H1:=aac (aza l[k]);generalize l[k]=x at *;obtain⟨⟨xs,xl⟩,xv⟩:=x;subst hA;dsimp only at c0 c1 c2 z0 z1 z2;obtain⟨A3,c3,rfl⟩:=aai HO.out;have HN:Hid (∀ W,Calls Tryz.prog 23 #[.agg #[.string xs,.string xl]] W fun e w'=>e=.returned (.agg #[.string xs,.string xl])∧Below W.heap.size W w'):=aac fun W=>ahm xs xl W z0 z1;have HV:Hid (∀ W,Calls Tryz.prog 22 #[.string xv] W fun e w'=>e=.returned (.string xv)∧Below W.heap.size W w'):=aac fun W=>aaB xv W z2;have D0:(wr.alloc (.cells #[.string xs,.string xl,.string xv] 40)).drew.cell? ⟨wr.heap.size,0,none⟩=some (.string xs):=aaf (W:=(wr.alloc (.cells #[.string xs,.string xl,.string xv] 40)).drew) (abJ wr 40 #[.string xs,.string xl,.string xv]) 0 rfl;have D1:(wr.alloc (.cells #[.string xs,.string xl,.string xv] 40)).drew.cell? ⟨wr.heap.size,1,none⟩=some (.string xl):=aaf (W:=(wr.alloc (.cells #[.string xs,.string xl,.string xv] 40)).drew) (abJ wr 40 #[.string xs,.string xl,.string xv]) 1 rfl;have D2:(wr.alloc (.cells #[.string xs,.string xl,.string xv] 40)).drew.cell? ⟨wr.heap.size,2,none⟩=some (.string xv):=aaf (W:=(wr.alloc (.cells #[.string xs,.string xl,.string xv] 40)).drew) (abJ wr 40 #[.string xs,.string xl,.string xv]) 2 rfl;have DB:Hid (Below wr.heap.size wr (wr.alloc (.cells #[.string xs,.string xl,.string xv] 40)).drew):=aac ((Below.refl _ wr).alloc (Nat.le_refl _) _).drew;have DZ:wr.heap.size < (wr.alloc (.cells #[.string xs,.string xl,.string xv] 40)).drew.heap.size:=by show _ < (wr.alloc _).heap.size;simp
    clear z0 z1 z2 hx hkl;go_wp2_with fail
    go_region_law (first
     | (refine step_append_lies _ (by rfl) (.tmp 12) (.tmp 20) 29 (by rfl) w.heap.size 40 i0 (.agg #[.string ⟨#[]⟩,.string ⟨#[]⟩,.string ⟨#[]⟩]) 3 48 Tryz.underlying29 hi hz0 hz1 hz2 rfl (by decide) (.slice A3 k c3) k (atL (l.take k)) (by simp[Act.eval,Act.put]) o6.out ⟨w6.heap.size,0,none⟩ 1 1 (atC ((xs,xl),xv)) (by simp[Act.eval,Act.put]) rfl N6.out H1.out (by decide) (by unfold maxLen;omega) (by omega) (Nat.le_trans B6.out.size (Nat.le_refl _)) _ rfl ?_;intro g cap w7 n1 n2 n3 n4;have hlo:∀ j,(Value.slice A3 k c3).ownBlock=some j→w.heap.size≤j:=fun j hj=>(World.ownsRow.lt o6.out j hj).1;have O7:=aac n1;have B7:=aac (B6.out.grown n2 B6.out.size hlo);clear n1 n2 n3 n4 hlo)
     | (go_simp;go_at_call 23;refine(HN.out _).mono ?_;rintro e w5 ⟨rfl,b5⟩
        have D2:w5.cell? ⟨wr.heap.size,2,none⟩=some (.string xv):=(b5.cell (p:=⟨wr.heap.size,2,none⟩) DZ).trans D2;have B5:=aac (DB.out.trans (b5.mono DB.out.size));clear b5)
     | (go_simp;go_at_call 22;refine(HV.out _).mono ?_;rintro e w6 ⟨rfl,b6⟩
        have C6:=aac ((B5.out.trans (b6.mono B5.out.size)).trans (((Below.refl w6.heap.size w6).alloc (Nat.le_refl _) (.cells #[.string xs,.string xl,.string xv] 40)).mono (Nat.le_trans B5.out.size b6.size)));have o6:=aac (aaj HO.out C6.out);have B6:=aac (HB.out.trans (C6.out.mono HB.out.size));have N6:Hid (∀ (j:Nat) (u:Value),(atC ((xs,xl),xv))[j]?=some u→_):=aac (abE w6 #[.string xs,.string xl,.string xv] 40);clear b6)
     | fail)
    all_goals
     go_wp2_with fail;go_roundw
    all_goals
     first
      | exact⟨k+1,by go_num,by omega,aac (by rw[HX.out];exact O7.out),B7⟩
      | (simp only[intOf];omega)
  · have hke:k=n:=(by omega);subst hke;have g1:¬ (k:Int) < (k:Int):=by omega
    have HR:Hid (wr.ownsRow w.heap.size 40 3 u3 k (atL l)):=aac (by
     have h:=HO.out;rw[HT.out.len,List.take_length,← HT.out.len] at h;exact h)
    clear HO;go_wp2;go_ret;exact⟨_,rfl,HR.out,HB.out⟩
end Go.Proofs.YtiaebhomfebagaaGreatDoor.Ev
