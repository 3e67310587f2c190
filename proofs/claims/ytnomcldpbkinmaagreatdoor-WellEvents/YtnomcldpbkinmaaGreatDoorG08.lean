/- Lemmas of the claim. -/
import Derived.Test.YtnomcldpbkinmaaGreatDoorRows
import Derived.Test.YtnomcldpbkinmaaGreatDoorG07
import Derived.Test.YtnomcldpbkinmaaGreatDoorG05
import Derived.Test.YtnomcldpbkinmaaGreatDoorProg
import Derived.ProofKit
import Derived.LaidMore
import Derived.LaidLaws
import Derived.OpenShut
import Derived.Stop.Joined
import Derived.Lay
import Derived.HandedShaped
import Derived.Shelf.Vars
import Derived.Lib.LaidU8
import Derived.Below
import Derived.Shelf.Strings.SlTrimAscii
import Derived.Deep.QuietTactic
import Derived.BigQuiet
set_option maxHeartbeats 1000000
set_option maxRecDepth 100000
set_option linter.unusedSimpArgs false
set_option linter.unusedVariables false
namespace Go.Proofs.YtnomcldpbkinmaaGreatDoor
open Go.ChangeShapes Go.WideShapes Go.ChangeAt Go.RowKit
open Go.Lib (VarReads)
theorem own:ownKnob Tryz.prog.godebug=none:=by kernel_rfl
def abK:List (String × DataW Unit):=Rows.wellPrefixRow.laid
theorem auV:Rows.laid_unicode_utf8_first=Go.Lib.firstData:=by kernel_rfl
theorem asc:(Rows.laid_unicode_utf8_acceptRanges:DataW Unit)=Go.Lib.acceptData:=by kernel_rfl
theorem fold_eq:(Rows.laid_unicode_asciiFold:DataW Unit)=Go.Lib.tabData .u16 ((List.range 128).map afJ):=by kernel_rfl
theorem adt {W:World}{n:String}{d:DataW Unit}(h:VarReads Tryz.prog W n d){g t:Nat}(hg:Tryz.prog.globalNamed n=some g)(ht:(Tryz.prog.globals[g]?).map (·.type)=some t):
 ∃ (cs:Array Value) (fuel:Nat) (p:List MemPlace),(∀ j,W.cell? ⟨g,j,none⟩=cs[j]?)∧DataW.trod (fun _=>()) Tryz.prog W 0 (fun _=>true) false fuel t cs.toList=some (d,p):=by
 obtain⟨g',t',cs,fuel,p,h1,h2,h3,h4⟩:=h;obtain rfl:=Option.some.inj (hg.symm.trans h1);obtain rfl:=Option.some.inj (ht.symm.trans h2);exact⟨cs,fuel,p,fun j=>World.var?_cell h1 h3 j,h4⟩
theorem amM {W:World}{n:String}{d:DataW Unit}(h:VarReads Tryz.prog W n d){g:Nat}(hg:Tryz.prog.globalNamed n=some g)(ht:(Tryz.prog.globals[g]?).map (·.type)=some 227)(s:String)(d':DataW Unit)(hd:d=.iface s d'):
 ∃ t p,W.cell? ⟨g,0,none⟩=some (.iface t p):=by
 subst hd;obtain⟨cs,fuel,p,hc,htr⟩:=adt h hg ht;obtain⟨_,u,v,e,_⟩:=iface_of_trod Tryz.underlying227 htr;refine⟨u,v,?_⟩;rw[hc 0,Array.eq_one_of_toList e];rfl
theorem ajr {W:World}{n:String}{g t e:Nat}{k:IntKind}{m:Nat}{zs:List Int}(h:VarReads Tryz.prog W n (Go.Lib.tabData k zs))(hg:Tryz.prog.globalNamed n=some g)(ht:(Tryz.prog.globals[g]?).map (·.type)=some t)
 (hu:Tryz.prog.underlying t=some (.array m e)) (he:Tryz.prog.underlying e=some (.int k)) (hce:Tryz.prog.cellsOf e=1) (hct:Tryz.prog.cellsOf t=m) (j:Nat):W.cell? ⟨g,j,none⟩=(zs.map fun z=>Value.int k z)[j]?:=by
 obtain⟨cs,fuel,p,hc,htr⟩:=adt h hg ht;have:=Go.Lib.cells_of_tab hu he hce hct htr;rw[hc j,← Array.getElem?_toList,this]
theorem aql {W:World}(h:VarReads Tryz.prog W "unicode/utf8.acceptRanges" Go.Lib.acceptData)(i:Nat)(hi:i < 16):
 W.cell? ⟨5,2 * i,none⟩=some (.int .u8 (Lib.accLo i:Int))∧W.cell? ⟨5,2 * i+1,none⟩=some (.int .u8 (Lib.accHi i:Int)):=by
 obtain⟨cs,fuel,p,hc,htr⟩:=adt h (g:=5) (t:=249) (by kernel_rfl) (by kernel_rfl);obtain⟨fuel',d,q,hdi,he⟩:=Go.Lib.array_elem Tryz.underlying249 htr i hi;simp only[List.getElem?_map,List.getElem?_range hi,Option.map_some,Option.some.injEq] at hdi;subst hdi;have c2:Tryz.prog.cellsOf 248=2:=(by kernel_rfl);have c1:Tryz.prog.cellsOf 5=1:=(by kernel_rfl);rw[c2] at he
 have hcs:=Go.Lib.ints_of_struct Tryz.underlying248 (fun j f hj=>by
  match j,hj with
  | 0,hj=>simp at hj;subst hj;exact⟨Tryz.underlying5,rfl,c1⟩
  | 1,hj=>simp at hj;subst hj;exact⟨Tryz.underlying5,rfl,c1⟩
  | j+2,hj=>simp at hj) (by rw[c2];rfl) he
 have e0:=congrArg (·[0]?) hcs;have e1:=congrArg (·[1]?) hcs;simp only[List.getElem?_take,List.getElem?_drop] at e0 e1;constructor
 · rw[hc (2 * i),← Array.getElem?_toList]
   simpa [Nat.mul_comm] using e0
 · rw[hc (2 * i+1),← Array.getElem?_toList]
   simpa [Nat.mul_comm] using e1
theorem avk {W:World}{n:String}{d:DataW Unit}(h:VarReads Tryz.prog W n d)(hg:Tryz.prog.globalNamed n=some 10)(ht:(Tryz.prog.globals[10]?).map (·.type)=some 285):∃ u,W.cell? ⟨10,0,none⟩=some u:=by
 obtain⟨cs,fuel,p,hc,htr⟩:=adt h hg ht;obtain⟨xs,m,_,_,_,hl,hel⟩:=DataW.trod_array Tryz.underlying285 htr;have c5:Tryz.prog.cellsOf 5=1:=(by kernel_rfl);have hE:=hel 0 (by decide);rw[c5,Nat.mul_one,List.getElem?_eq_getElem (by omega)] at hE;obtain⟨z,e1,_⟩:=DataW.trod_int Tryz.underlying5 hE;refine⟨.int .u8 z,?_⟩;rw[hc 0,← Array.getElem?_toList];have h0:((cs.toList.drop 0).take 1)[0]?=some (.int .u8 z):=by rw[e1];rfl
 simpa using h0
theorem amk {W:World}(hL:laidMetH Tryz.prog abK W)(hS:W.ShapedOpen Tryz.prog):Gl W:=by
 rw[MakeChecks.laidMetH_plain _ _ _ (by kernel_rfl)] at hL;have rd:∀ n d,(n,d)∈abK→VarReads Tryz.prog W n d:=fun n d h=>Go.Lib.laidMet.reads hL h;have r1:=rd "unicode.asciiFold" Rows.laid_unicode_asciiFold (by unfold abK Rows.wellPrefixRow;simp);have r4:=rd "unicode/utf8.first" Rows.laid_unicode_utf8_first (by unfold abK Rows.wellPrefixRow;simp);have r5:=rd "unicode/utf8.acceptRanges" Rows.laid_unicode_utf8_acceptRanges (by unfold abK Rows.wellPrefixRow;simp);have r6:=rd "strconv.ErrSyntax" Rows.laid_strconv_ErrSyntax (by unfold abK Rows.wellPrefixRow;simp);have r7:=rd "strconv.ErrRange" Rows.laid_strconv_ErrRange (by unfold abK Rows.wellPrefixRow;simp);have r10:=rd "math/bits.deBruijn64tab" Rows.laid_math_bits_deBruijn64tab (by unfold abK Rows.wellPrefixRow;simp);rw[fold_eq] at r1;rw[auV] at r4;rw[asc] at r5;have c6:=amM r6 (g:=6) (by kernel_rfl) (by kernel_rfl) _ _ rfl;have c7:=amM r7 (g:=7) (by kernel_rfl) (by kernel_rfl) _ _ rfl;have c10:=avk r10 (by kernel_rfl) (by kernel_rfl)
 have hz:11≤W.heap.size:=by
  obtain⟨u,hu⟩:=c10;exact Lib.lt_of_cell hu
 refine⟨⟨by omega,c6,c7⟩,hz,cell_of_shapedOpen_int hS (g:=0) (t:=3) (zero:= #[.int .i64 0]) (of_decide_eq_true (by kernel_rfl)) (by kernel_rfl) (by kernel_rfl) (by kernel_rfl) (by kernel_rfl) Tryz.underlying3,⟨fun c hc=> ?_,aql r5⟩,fun k hk=> ?_⟩
 · have:=ajr r4 (g:=4) (t:=246) (by kernel_rfl) (by kernel_rfl) Tryz.underlying246 Tryz.underlying5 (by kernel_rfl) (by kernel_rfl) c;rw[this];simp[Go.Lib.firstTab,hc]
 · have:=ajr r1 (g:=1) (t:=231) (by kernel_rfl) (by kernel_rfl) Tryz.underlying231 Tryz.underlying230 (by kernel_rfl) (by kernel_rfl) k;rw[this];simp[hk]
theorem agV {H:Type}{enc:TypeId × Value→H}{a:Assume}{C:Checked}{os:Os}{f:FuncId}{fn:Func}{s:ChangeSpec}{conds:List PathCond}{apart fresh handsOn again:Bool}{X:World→Array Value→Prop}
 (hX:∀ (w w':World) (args:Array Value),w.heap=w'.heap→X w args→X w' args)
 (own:ownKnob C.prog.godebug=none) (started:os.Started) (noInit:C.prog.inits.idxOf? f=none) (hfn:C.prog.funcs[f]?=some fn)
 (witness:∃ (w:World) (tape:Tape) (i:Input),w.os=os∧(w.forCall tape i).Shaped C.prog∧i.vars=[]∧Input.okWide C.prog (w.forCall tape i) .any w.heap.size f i∧
   ((s.pre enc C.prog fn conds apart (w.forCall tape i).memory i.args∧X (w.forCall tape i).memory i.args)∧sizedMet enc C.prog fn (OpenSpec.ofChange s) apart (w.forCall tape i).memory i.args)∧a.holds C.prog (lone (Frame.enter C.prog f i.args .normal) [] (w.forCall tape i)))
 (contract:∀ (W:World) (base:Nat) (args:Array Value) (ds gs:List (DataW H)) (before:List MemPlace),
   (∀ (j:Nat) t v,fn.params[j]?=some t→args[j]?=some v→Value.okWide C.prog W .any base t v)→
   DataW.Whole enc C.prog fn.params.toList s.vars apart W args.toList ds gs before→X W args→W.ShapedOpen C.prog→
   Calls C.prog f args W fun e W'=>∃ v,e=.returned v∧s.post enc C.prog fn apart fresh handsOn again W args v W'):
 ReturnsInHanded a C os f .any (fun w args=>(s.pre enc C.prog fn conds apart w args∧X w args)∧sizedMet enc C.prog fn (OpenSpec.ofChange s) apart w args) (s.post enc C.prog fn apart fresh handsOn again):=by
 refine returnsInHanded_of_calls own started noInit witness ?_;intro w tape i _ hsh _ hok hpre _;obtain⟨_,_,_,fn',hfn',_,_,_,_,hval⟩:=hok;obtain rfl:fn'=fn:=Option.some.inj (hfn'.symm.trans hfn);obtain⟨⟨⟨ds,gs,before,hw,_⟩,hx⟩,_⟩:=hpre;refine(contract (w.forCall tape i) w.heap.size i.args ds gs before hval (DataW.Whole.of_heap (w':=w.forCall tape i) (by rfl) hw) (hX _ _ _ (by rfl) hx) hsh).mono fun e W' ⟨v,he,hp⟩=> ?_;subst he;exact ChangeSpec.post_blind hp
end Go.Proofs.YtnomcldpbkinmaaGreatDoor
namespace Go.Proofs.YtnomcldpbkinmaaGreatDoor.Tg
open Go.RowKit
def abf (c:Int):Bool:=decide (Blank c)
def bk (u:ByteArray):Nat:=((aad u).takeWhile abf).length
def sk (u:ByteArray):ByteArray:=Nz.fr u (bk u)
def hd (u:ByteArray):Int:=(aad u).getD 0 0
def isN (s:ByteArray):Bool:=(Nz.aao s).2.2
def qi (q:UInt8)(u:ByteArray):Int:=Lib.indexByte u.data.toList q
def acU (nm:ByteArray)(l:List (ByteArray × ByteArray)):Bool:=l.any fun x=>decide (aad x.1=aad nm)
def apa (q:UInt8)(nm u:ByteArray):Int × ByteArray × ByteArray × ByteArray:=
 if qi q u= -1 then (6,Nz.em,Nz.em,Nz.em)
 else if (abH true (aad (u.extract 0 (qi q u).toNat))).2.2≠0 then ((abH true (aad (u.extract 0 (qi q u).toNat))).2.2,Nz.em,Nz.em,Nz.em)
 else (0,nm,strOfNums (abH true (aad (u.extract 0 (qi q u).toNat))).1,Nz.fr u ((qi q u).toNat+1))
def aay (u:ByteArray):Int × ByteArray × ByteArray × ByteArray:=
 if isN (Nz.sx u 0)=false then (4,Nz.em,Nz.em,Nz.em)
 else if hd (sk (Nz.fr u (Nz.sn u 0)))≠61 then (6,Nz.em,Nz.em,Nz.em)
 else if hd (sk (Nz.fr (sk (Nz.fr u (Nz.sn u 0))) 1))=34 then apa 34 (Nz.sx u 0) (Nz.fr (sk (Nz.fr (sk (Nz.fr u (Nz.sn u 0))) 1)) 1)
 else if hd (sk (Nz.fr (sk (Nz.fr u (Nz.sn u 0))) 1))=39 then apa 39 (Nz.sx u 0) (Nz.fr (sk (Nz.fr (sk (Nz.fr u (Nz.sn u 0))) 1)) 1)
 else (6,Nz.em,Nz.em,Nz.em)
def goF:Nat→ByteArray→List (ByteArray × ByteArray)→ByteArray→Int × ByteArray × List (ByteArray × ByteArray)
 | 0,nm,l,u=>(0,nm,l)
 | f+1,nm,l,u=>
   if (sk u).size=0 then (0,nm,l)
   else if bk u=0 then (6,Nz.em,[])
   else if (aay (sk u)).1≠0 then ((aay (sk u)).1,Nz.em,[])
   else if acU (aay (sk u)).2.1 l=true then (8,Nz.em,[])
   else if 32≤l.length then (13,Nz.em,[])
   else goF f nm (l++[((aay (sk u)).2.1,(aay (sk u)).2.2.1)]) (aay (sk u)).2.2.2
def GoF (nm:ByteArray)(l:List (ByteArray × ByteArray))(u:ByteArray):Int × ByteArray × List (ByteArray × ByteArray):=goF (u.size+1) nm l u
def aar (u:ByteArray):Int × ByteArray × List (ByteArray × ByteArray):=
 if isN (Nz.sx u 0)=false then (4,Nz.em,[]) else GoF (Nz.sx u 0) [] (Nz.fr u (Nz.sn u 0))
theorem abJ (u:ByteArray):(sk u).size=u.size - bk u:=by unfold sk;rw[Nz.aaN]
theorem a1E (u:ByteArray):bk u≤u.size:=by
 have:=(List.takeWhile_prefix abf (l:=aad u)).length_le;rw[aae] at this;exact this
theorem awn {u:ByteArray}(h:hd u≠0):1≤u.size:=by
 rcases Nat.eq_zero_or_pos u.size with h0 | h0
 · exfalso;apply h;unfold hd;have e:aad u=[]:=List.eq_nil_of_length_eq_zero (by rw[aae];exact h0);rw[e];rfl
 · exact h0
theorem awI (q:UInt8)(nm u:ByteArray):(apa q nm u).1=0→(apa q nm u).2.2.2.size≤u.size:=by
 unfold apa;split
 · intro h;exact absurd h (by decide)
 split
 · intro h;rename_i h2;exact absurd h h2
 · intro _;show (Nz.fr u _).size≤_;rw[Nz.aaN];omega
theorem aiK {u:ByteArray}(h:(aay u).1=0):(aay u).2.2.2.size < u.size:=by
 unfold aay at h ⊢;split at h
 · exact absurd h (by decide)
 rename_i h1;rw[if_neg h1];split at h
 · exact absurd h (by decide)
 rename_i h2;rw[if_neg h2];have s1:=abJ (Nz.fr u (Nz.sn u 0));rw[Nz.aaN] at s1;have s2:=abJ (Nz.fr (sk (Nz.fr u (Nz.sn u 0))) 1);rw[Nz.aaN] at s2;split at h
 · rename_i h3;rw[if_pos h3];have:=awI _ _ _ h;rw[Nz.aaN] at this;have h4:=awn (u:=sk (Nz.fr (sk (Nz.fr u (Nz.sn u 0))) 1)) (by rw[h3];decide);omega
 rename_i h3;rw[if_neg h3];split at h
 · rename_i h5;rw[if_pos h5];have:=awI _ _ _ h;rw[Nz.aaN] at this;have h4:=awn (u:=sk (Nz.fr (sk (Nz.fr u (Nz.sn u 0))) 1)) (by rw[h5];decide);omega
 · exact absurd h (by decide)
theorem apR:∀ (f g:Nat) (nm:ByteArray) (l:List (ByteArray × ByteArray)) (u:ByteArray),u.size < f→u.size < g→goF f nm l u=goF g nm l u
 | 0,_,_,_,u,h,_=>absurd h (Nat.not_lt_zero _)
 | _+1,0,_,_,u,_,h=>absurd h (Nat.not_lt_zero _)
 | f+1,g+1,nm,l,u,hf,hg=>by
   unfold goF;by_cases c1:(sk u).size=0
   · rw[if_pos c1,if_pos c1]
   rw[if_neg c1,if_neg c1];by_cases c2:bk u=0
   · rw[if_pos c2,if_pos c2]
   rw[if_neg c2,if_neg c2];by_cases c3:(aay (sk u)).1≠0
   · rw[if_pos c3,if_pos c3]
   rw[if_neg c3,if_neg c3];by_cases c4:acU (aay (sk u)).2.1 l=true
   · rw[if_pos c4,if_pos c4]
   rw[if_neg c4,if_neg c4];by_cases c5:32≤l.length
   · rw[if_pos c5,if_pos c5]
   rw[if_neg c5,if_neg c5];have hlt:=aiK (Decidable.not_not.1 c3);have hs:=abJ u;exact apR f g _ _ _ (by omega) (by omega)
theorem arH (nm:ByteArray)(l:List (ByteArray × ByteArray))(u:ByteArray)(c1:(sk u).size=0):GoF nm l u=(0,nm,l):=by
 unfold GoF goF;rw[if_pos c1]
theorem apU (nm:ByteArray)(l:List (ByteArray × ByteArray))(u:ByteArray)(c1:(sk u).size≠0)(c2:bk u=0):GoF nm l u=(6,Nz.em,[]):=by
 unfold GoF goF;rw[if_neg c1,if_pos c2]
theorem awM (nm:ByteArray)(l:List (ByteArray × ByteArray))(u:ByteArray)(c1:(sk u).size≠0)(c2:bk u≠0)(c3:(aay (sk u)).1≠0):GoF nm l u=((aay (sk u)).1,Nz.em,[]):=by
 unfold GoF goF;rw[if_neg c1,if_neg c2,if_pos c3]
theorem anX (nm:ByteArray)(l:List (ByteArray × ByteArray))(u:ByteArray)(c1:(sk u).size≠0)(c2:bk u≠0)(c3:(aay (sk u)).1=0)(c4:acU (aay (sk u)).2.1 l=true):GoF nm l u=(8,Nz.em,[]):=by
 unfold GoF goF;rw[if_neg c1,if_neg c2,if_neg (Decidable.not_not.2 c3),if_pos c4]
theorem anN (nm:ByteArray)(l:List (ByteArray × ByteArray))(u:ByteArray)(c1:(sk u).size≠0)(c2:bk u≠0)(c3:(aay (sk u)).1=0)(c4:acU (aay (sk u)).2.1 l=false)(c5:32≤l.length):GoF nm l u=(13,Nz.em,[]):=by
 unfold GoF goF;rw[if_neg c1,if_neg c2,if_neg (Decidable.not_not.2 c3),if_neg (by rw[c4];decide),if_pos c5]
theorem go_ok (nm:ByteArray)(l:List (ByteArray × ByteArray))(u:ByteArray)(c1:(sk u).size≠0)(c2:bk u≠0)(c3:(aay (sk u)).1=0)(c4:acU (aay (sk u)).2.1 l=false)(c5:¬ 32≤l.length):
 GoF nm l u=GoF nm (l++[((aay (sk u)).2.1,(aay (sk u)).2.2.1)]) (aay (sk u)).2.2.2:=by
 have hlt:=aiK c3;have hs:=abJ u;unfold GoF;rw[goF,if_neg c1,if_neg c2,if_neg (Decidable.not_not.2 c3),if_neg (by rw[c4];decide),if_neg c5];exact apR _ _ _ _ _ (by omega) (by omega)
theorem eqS (a b:ByteArray):(a.toList == b.toList)=decide (aad a=aad b):=by
 rw[Lib.toList_data,Lib.toList_data];by_cases h:aad a=aad b
 · have:=abu h;subst this;rw[decide_eq_true h];exact beq_self_eq_true _
 · rw[decide_eq_false h];rw[beq_eq_false_iff_ne];intro e;apply h;unfold aad;rw[e]
theorem acf (u:ByteArray)(k:Nat):aad (Nz.fr u k)=(aad u).drop k:=acr u k
theorem aqy (u:ByteArray)(a b:Nat):Nz.fr (Nz.fr u a) b=Nz.fr u (a+b):=abu (by rw[acf,acf,acf,List.drop_drop])
theorem axu (u:ByteArray):Nz.fr u 0=u:=abu (by rw[acf,List.drop_zero])
theorem aqs (u:ByteArray):Nz.sx u 0=u.extract 0 (Nz.sn u 0):=by unfold Nz.sx;rw[axu]
theorem apX (u:ByteArray):(Nz.sx u 0).size≤u.size:=by
 rw[aqs,← aae,afs,List.length_take,aae];omega
end Go.Proofs.YtnomcldpbkinmaaGreatDoor.Tg
namespace Go.Proofs
open Go.Shelf
open Go.RowKit
def Tryz.alB:Go.Shelf.Ren:=⟨fun | 161=>119 | 231=>146 | 227=>147 | 233=>148 | 235=>149 | 228=>175 | 197=>160 | 151=>176 | 260=>181 | 152=>191 | 137=>199 | 119=>200 | 224=>139 | 225=>138 | 217=>137 | 266=>168 | n=>n,fun | 9=>9 | 4=>4 | 3=>3 | 5=>5 | 117=>200 | 116=>199 | 0=>0 | 124=>203 | 105=>211 | 21=>21 | 119=>246 | 46=>185 | 139=>249 | 138=>248 | n=>n,fun | 3=>4 | 4=>5 | n=>n⟩
theorem Tryz.lays161:Go.Proofs.Lays.n161 Tryz.prog Tryz.alB:={
 mixed:=by kernel_rfl
 f119:=Tryz.func200.trans (congrArg some (by kernel_rfl))
 f137:=Tryz.func199.trans (congrArg some (by kernel_rfl))
 f151:=Tryz.func176.trans (congrArg some (by kernel_rfl))
 f152:=Tryz.func191.trans (congrArg some (by kernel_rfl))
 f161:=Tryz.func119.trans (congrArg some (by kernel_rfl))
 f197:=Tryz.func160.trans (congrArg some (by kernel_rfl))
 f217:=Tryz.func137.trans (congrArg some (by kernel_rfl))
 f224:=Tryz.func139.trans (congrArg some (by kernel_rfl))
 f225:=Tryz.func138.trans (congrArg some (by kernel_rfl))
 f227:=Tryz.func147.trans (congrArg some (by kernel_rfl))
 f228:=Tryz.func175.trans (congrArg some (by kernel_rfl))
 f231:=Tryz.func146.trans (congrArg some (by kernel_rfl))
 f233:=Tryz.func148.trans (congrArg some (by kernel_rfl))
 f235:=Tryz.func149.trans (congrArg some (by kernel_rfl))
 f260:=Tryz.func181.trans (congrArg some (by kernel_rfl))
 f266:=Tryz.func168.trans (congrArg some (by kernel_rfl))
 t0:=Tryz.underlying0
 a0:=Tryz.isAgg0
 z0:=Tryz.sizeOf0
 v0:=Tryz.zeroValue0
 t3:=Tryz.underlying3
 a3:=Tryz.isAgg3
 z3:=Tryz.sizeOf3
 v3:=Tryz.zeroValue3
 t4:=Tryz.underlying4
 a4:=Tryz.isAgg4
 z4:=Tryz.sizeOf4
 v4:=Tryz.zeroValue4
 t5:=Tryz.underlying5
 a5:=Tryz.isAgg5
 z5:=Tryz.sizeOf5
 v5:=Tryz.zeroValue5
 t9:=Tryz.underlying9
 a9:=Tryz.isAgg9
 z9:=Tryz.sizeOf9
 v9:=Tryz.zeroValue9
 t21:=Tryz.underlying21
 a21:=Tryz.isAgg21
 z21:=Tryz.sizeOf21
 v21:=Tryz.zeroValue21
 t46:=Tryz.underlying185
 a46:=Tryz.isAgg185
 z46:=Tryz.sizeOf185
 v46:=Tryz.zeroValue185
 t105:=Tryz.underlying211
 a105:=Tryz.isAgg211
 z105:=Tryz.sizeOf211
 v105:=Tryz.zeroValue211
 t116:=Tryz.underlying199
 a116:=Tryz.isAgg199
 z116:=Tryz.sizeOf199
 t117:=Tryz.underlying200
 a117:=Tryz.isAgg200
 z117:=Tryz.sizeOf200
 v117:=Tryz.zeroValue200
 t119:=Tryz.underlying246
 a119:=Tryz.isAgg246
 z119:=Tryz.sizeOf246
 t124:=Tryz.underlying203
 a124:=Tryz.isAgg203
 z124:=Tryz.sizeOf203
 v124:=Tryz.zeroValue203
 t138:=Tryz.underlying248
 a138:=Tryz.isAgg248
 z138:=Tryz.sizeOf248
 v138:=Tryz.zeroValue248
 t139:=Tryz.underlying249
 a139:=Tryz.isAgg249
 z139:=Tryz.sizeOf249
 v139:=Tryz.zeroValue249
 g3:=by kernel_rfl
 g4:=by kernel_rfl }
theorem Tryz.strings_TrimLeft_laid (s cutset:ByteArray)(w:World)(hcs:cutset.size < 4294967281)(hascii:∀ (j:Nat) b,cutset.data.toList[j]?=some b→b.toNat < 128):
 Calls Tryz.prog 119 #[.string s,.string cutset] w fun e w'=>e=.returned (.string ⟨(Lib.trimLeftS s.data.toList cutset.data.toList).toArray⟩)∧Below w.heap.size w w':=Any.strings_TrimLeft_laid Tryz.lays161 (by kernel_rfl) s cutset w hcs hascii
end Go.Proofs
namespace Go.Proofs.YtnomcldpbkinmaaGreatDoor.Tg
open Go.RowKit
def rwC (x:ByteArray × ByteArray):List Value:=[.string x.1,.string x.2]
def rwL (l:List (ByteArray × ByteArray)):List Value:=l.flatMap rwC
def aky (w:World)(B:Nat)(v:Value)(l:List (ByteArray × ByteArray)):Prop:=w.ownsRow B 81 2 v l.length (rwL l)
theorem aev (l:List (ByteArray × ByteArray))(t:ByteArray × ByteArray):rwL (l++[t])=rwL l++rwC t:=by unfold rwL;simp
theorem own_ne {w:World}{B:Nat}{e T:TypeId}{z:Nat}{v:Value}{n:Nat}{xs:List Value}{b:Nat}{cs:Array Value}{fr:Nat × Nat}(hown:w.ownsRow B e z v n xs)(hb:w.heap[b]?=some (.cells cs T fr))(hTe:T≠e):v.ownBlock≠some b:=by
 rcases hown.2 with ⟨rfl,_⟩ | ⟨g,cap,cur,rfl,_,hg,_⟩
 · simp[Value.ownBlock]
 · intro h;simp only[Value.ownBlock,Option.some.injEq] at h;subst h;rw[hg] at hb;injection hb with hb
   injection hb with _ h2 _
   exact hTe h2.symm
structure RS (w0:World)(g:Nat)(u nm:ByteArray)(v:Value)(l:List (ByteArray × ByteArray))(w:World):Prop where
 lo:w0.heap.size≤g
 blk:w.heap[g]?=some (.cells #[.string u,.string nm,v] 131 (0,0))
 own:aky w w0.heap.size v l
 bel:Below w0.heap.size w0 w
 vr0:Vars w0
theorem RS.lt {w0 w:World}{g:Nat}{u nm:ByteArray}{v:Value}{l:List (ByteArray × ByteArray)}(h:RS w0 g u nm v l w):g < w.heap.size:=(Array.getElem?_eq_some_iff.1 h.blk).1
theorem RS.vr {w0 w:World}{g:Nat}{u nm:ByteArray}{v:Value}{l:List (ByteArray × ByteArray)}(h:RS w0 g u nm v l w):Vars w:=h.vr0.keep h.bel h.vr0.1
theorem RS.after {w0 w w':World}{g:Nat}{u nm:ByteArray}{v:Value}{l:List (ByteArray × ByteArray)}(h:RS w0 g u nm v l w)(hb:Below w.heap.size w w'):RS w0 g u nm v l w':=
 ⟨h.lo,(hb.block g h.lt).trans h.blk,aai h.own hb,h.bel.trans (hb.mono h.bel.size),h.vr0⟩
theorem RS.c0 {w0 w:World}{g:Nat}{u nm:ByteArray}{v:Value}{l:List (ByteArray × ByteArray)}(h:RS w0 g u nm v l w):w.cell? ⟨g,0,none⟩=some (.string u):=by rw[Lib.cell_of_heap h.blk];rfl
theorem RS.c1 {w0 w:World}{g:Nat}{u nm:ByteArray}{v:Value}{l:List (ByteArray × ByteArray)}(h:RS w0 g u nm v l w):w.cell? ⟨g,1,none⟩=some (.string nm):=by rw[Lib.cell_of_heap h.blk];rfl
theorem RS.c2 {w0 w:World}{g:Nat}{u nm:ByteArray}{v:Value}{l:List (ByteArray × ByteArray)}(h:RS w0 g u nm v l w):w.cell? ⟨g,2,none⟩=some v:=by rw[Lib.cell_of_heap h.blk];rfl
theorem RS.fz {w0 w:World}{g:Nat}{u nm:ByteArray}{v:Value}{l:List (ByteArray × ByteArray)}(h:RS w0 g u nm v l w)(j:Nat):w.frozen? ⟨g,j,none⟩=false:=Lib.frozen_of_heap h.blk j
theorem aaD {w:World}{B g:Nat}{T:TypeId}{v:Value}{l:List (ByteArray × ByteArray)}{cs:Array Value}{fr:Nat × Nat}(h:aky w B v l)(hb:w.heap[g]?=some (.cells cs T fr))(hT:T≠81)(j:Nat)(x:Value):aky (w.setCell ⟨g,j,none⟩ x) B v l:=
 World.ownsRow.kept (row:=some g) h ⟨rfl,rfl,rfl,by simp[World.setCell],fun k _ hk=>Below.heap_setCell _ _ _ _ (fun e=>hk (by simp[e]))⟩ (Or.inr (own_ne h hb hT))
theorem RS.left {w0 w:World}{g:Nat}{u nm:ByteArray}{v:Value}{l:List (ByteArray × ByteArray)}(h:RS w0 g u nm v l w)(u':ByteArray):RS w0 g u' nm v l (w.setCell ⟨g,0,none⟩ (.string u')):=
 ⟨h.lo,by simp[World.setCell,Array.getElem?_modify,h.blk],aaD h.own h.blk (by decide) 0 _,h.bel.setCell (p:=⟨g,0,none⟩) h.lo _,h.vr0⟩
theorem RS.name {w0 w:World}{g:Nat}{u nm:ByteArray}{v:Value}{l:List (ByteArray × ByteArray)}(h:RS w0 g u nm v l w)(n':ByteArray):RS w0 g u n' v l (w.setCell ⟨g,1,none⟩ (.string n')):=
 ⟨h.lo,by simp[World.setCell,Array.getElem?_modify,h.blk],aaD h.own h.blk (by decide) 1 _,h.bel.setCell (p:=⟨g,1,none⟩) h.lo _,h.vr0⟩
def afe (a:Value)(w:World)(w0:World)(g:Nat)(u nm:ByteArray)(v:Value)(l:List (ByteArray × ByteArray))(e:Ending)(w':World):Prop:=e=.returned a∧RS w0 g u nm v l w'∧w.grownBy w' (some g)
theorem aqt (w:World)(g:Nat):w.grownBy w (some g):=⟨rfl,rfl,rfl,Nat.le_refl _,fun _ _ _=>rfl⟩
theorem acn {a b c:World}{g:Nat}(h:a.grownBy b (some g))(k:b.grownBy c (some g)):a.grownBy c (some g):=
 ⟨k.os.trans h.os,k.tape.trans h.tape,k.output.trans h.output,Nat.le_trans h.size k.size,fun i hi hne=>(k.block i (Nat.lt_of_lt_of_le hi h.size) hne).trans (h.block i hi hne)⟩
theorem abV {w w':World}(g:Nat)(h:Below w.heap.size w w'):w.grownBy w' (some g):=⟨h.os,h.tape,h.output,h.size,fun k hk _=>h.block k hk⟩
theorem akt {w w':World}{g:Nat}(h:w.grownBy w' (some g))(j:Nat)(x:Value):w.grownBy (w'.setCell ⟨g,j,none⟩ x) (some g):=
 ⟨h.os,h.tape,h.output,by simpa [World.setCell] using h.size,fun k hk hne=>(Below.heap_setCell _ _ _ _ (fun e=>hne (by rw[e]))).trans (h.block k hk hne)⟩
theorem aiM (w0:World)(g:Nat)(u nm:ByteArray)(v:Value)(l:List (ByteArray × ByteArray))(w:World)(h:RS w0 g u nm v l w)(b:Bool)(hb:decide (u.size=0)=b):
 Calls Tryz.prog 94 #[.pointer (some ⟨g,0,none⟩)] w (afe (.bool b) w w0 g u nm v l):=by
 have HS:=aac h;have c0:=h.c0;have hq:u.toList.isEmpty=b:=(Nz.isE u).trans hb;clear h hb;go_enter Tryz.func94,Tryz.ntmps94;go_wp2;go_ret;exact⟨rfl,HS.out,aqt _ _⟩
theorem awo (b:UInt8):([9,10,13,32]:List UInt8).contains b=abf (b.toNat:Int):=by
 unfold abf;have e:∀ n:Nat,n < 256→([9,10,13,32]:List UInt8).contains (UInt8.ofNat n)=decide (Blank (n:Int)):=(by decide+kernel);have:=e b.toNat b.toNat_lt
 rwa [UInt8.ofNat_toNat] at this
theorem ahI:∀ (l:List UInt8),((l.dropWhile ([9,10,13,32]:List UInt8).contains).map fun b=>(b.toNat:Int))=(l.map fun b=>(b.toNat:Int)).drop ((l.map fun b=>(b.toNat:Int)).takeWhile abf).length
 | []=>rfl
 | b :: l=>by
   by_cases h:abf (b.toNat:Int)=true
   · rw[List.dropWhile_cons_of_pos (by rw[awo];exact h),ahI l,List.map_cons,List.takeWhile_cons_of_pos h,List.length_cons,List.drop_succ_cons]
   · rw[List.dropWhile_cons_of_neg (by rw[awo];exact h),List.map_cons,List.takeWhile_cons_of_neg h,List.length_nil,List.drop_zero]
theorem axc (u:ByteArray):(⟨(Lib.trimLeftS u.data.toList (⟨#[9,10,13,32]⟩:ByteArray).data.toList).toArray⟩:ByteArray)=sk u:=by
 apply abu;unfold sk;rw[acf];exact ahI u.data.toList
theorem auR (u:ByteArray)(w:World):Calls Tryz.prog 119 #[.string u,.string ⟨#[9,10,13,32]⟩] w fun e w'=>e=.returned (.string (sk u))∧Below w.heap.size w w':=by
 rw[← axc u];exact Tryz.strings_TrimLeft_laid u ⟨#[9,10,13,32]⟩ w (by decide) (ascii_of_all (by decide))
theorem acI (w0:World)(g:Nat)(u nm:ByteArray)(v:Value)(l:List (ByteArray × ByteArray))(w:World)(h:RS w0 g u nm v l w)(hs:u.size≤1000000)(b:Bool)(hb:decide (bk u≠0)=b):
 Calls Tryz.prog 93 #[.pointer (some ⟨g,0,none⟩)] w (afe (.bool b) w w0 g (sk u) nm v l):=by
 have HS:=aac h;have c0:=h.c0;have CT:=aac (auR u)
 have hq:decide ((sk u).size < u.size)=b:=by
  rw[← hb,abJ];have:=a1E u;rw[decide_eq_decide];omega
 have hle:(sk u).size≤u.size:=by rw[abJ];omega
 generalize sk u=u' at *;clear h hb;go_enter Tryz.func93,Tryz.ntmps93;go_wp2_with fail;refine(CT.out _).mono ?_;rintro e w1 ⟨rfl,hb1⟩;have HS1:=aac (HS.out.after hb1);have d0:=HS1.out.c0;have f0:=HS1.out.fz 0;have G1:=aac (abV g hb1);clear hb1 HS CT c0;go_wp2;go_ret;exact⟨rfl,HS1.out.left u',akt G1.out _ _⟩
theorem arP (w0:World)(g:Nat)(u u' nm m:ByteArray)(b:Bool)(v:Value)(l:List (ByteArray × ByteArray))(w:World)(h:RS w0 g u nm v l w)
 (C:Hid (∀ w,Calls Tryz.prog 83 #[.string u,.string m] w fun e w'=>e=.returned (.tuple #[.string u',.bool b])∧w=w')):
 Calls Tryz.prog 150 #[.pointer (some ⟨g,0,none⟩),.string m] w (afe (.bool b) w w0 g u' nm v l):=by
 have HS:=aac h;have c0:=h.c0;have f0:=h.fz 0;clear h;go_enter Tryz.func150,Tryz.ntmps150;go_wp2_with fail;refine(C.out _).mono ?_;rintro e w1 ⟨rfl,rfl⟩;clear C;go_wp2;go_ret;exact⟨rfl,HS.out.left u',akt (aqt _ _) _ _⟩
theorem adW (w0:World)(g:Nat)(u nm:ByteArray)(c:UInt8)(v:Value)(l:List (ByteArray × ByteArray))(w:World)(h:RS w0 g u nm v l w)(hc:c.toNat≠0)(hh:hd u=(c.toNat:Int)):
 Calls Tryz.prog 150 #[.pointer (some ⟨g,0,none⟩),.string ⟨#[c]⟩] w (afe (.bool true) w w0 g (Nz.fr u 1) nm v l):=
 arP w0 g u (Nz.fr u 1) nm _ true v l w h (aac fun w=>amL u c hc hh w)
theorem agy (w0:World)(g:Nat)(u nm:ByteArray)(c:UInt8)(v:Value)(l:List (ByteArray × ByteArray))(w:World)(h:RS w0 g u nm v l w)(hh:hd u≠(c.toNat:Int)):
 Calls Tryz.prog 150 #[.pointer (some ⟨g,0,none⟩),.string ⟨#[c]⟩] w (afe (.bool false) w w0 g u nm v l):=
 arP w0 g u u nm _ false v l w h (aac fun w=>avE u c hh w)
theorem aoB (s:ByteArray)(w:World)(hs:s.size≤1000000):Calls Tryz.prog 102 #[.string s] w fun e w'=>e=.returned (.string s)∧Below w.heap.size w w':=by
 have C:=aac (fun w=>abE s w hs);go_enter Tryz.func102,Tryz.ntmps102;go_wp2_with fail;refine(C.out _).mono ?_;rintro e w1 ⟨rfl,hb⟩;go_wp2;go_ret;exact⟨rfl,hb⟩
theorem ape (w0:World)(g:Nat)(u nm:ByteArray)(v:Value)(l:List (ByteArray × ByteArray))(w:World)(h:RS w0 g u nm v l w)(hs:u.size≤1000000)(hn:isN (Nz.sx u 0)=false):
 Calls Tryz.prog 92 #[.pointer (some ⟨g,0,none⟩)] w (afe (.tuple #[.string ⟨#[]⟩,.int .i64 4]) w w0 g u nm v l):=by
 have HS:=aac h;have c0:=h.c0;have CC:=aac (fun w=>Nz.aiu u 0 hs (Nat.zero_le _) w);have hz:=apX u;have CS:=aac (fun w=>Nz.aeF (Nz.sx u 0) (by omega) w);unfold isN at hn;rw[hn] at CS;generalize Nz.sn u 0=n at *;generalize Nz.sx u 0=x at *;generalize (Nz.aao x).1=p at *;generalize (Nz.aao x).2.1=q at *;clear h hn hz;go_enter Tryz.func92,Tryz.ntmps92;go_wp2_with fail;refine(CC.out _).mono ?_;rintro e w1 ⟨rfl,hb1⟩;have HS1:=aac (HS.out.after hb1);have G1:=aac (abV g hb1);clear hb1 HS CC c0;go_wp2_with fail;refine(CS.out _).mono ?_;rintro e w2 ⟨rfl,hb2⟩;have HS2:=aac (HS1.out.after hb2);have G2:=aac (acn G1.out (abV g hb2));clear hb2 HS1 CS;go_wp2;go_ret2;exact⟨rfl,HS2.out,G2.out⟩
theorem agb (w0:World)(g:Nat)(u nm:ByteArray)(v:Value)(l:List (ByteArray × ByteArray))(w:World)(h:RS w0 g u nm v l w)(hs:u.size≤1000000)(hn:isN (Nz.sx u 0)=true):
 Calls Tryz.prog 92 #[.pointer (some ⟨g,0,none⟩)] w (afe (.tuple #[.string (Nz.sx u 0),.int .i64 0]) w w0 g (Nz.fr u (Nz.sn u 0)) nm v l):=by
 have HS:=aac h;have c0:=h.c0;have CC:=aac (fun w=>Nz.aiu u 0 hs (Nat.zero_le _) w);have hz:=apX u;have CS:=aac (fun w=>Nz.aeF (Nz.sx u 0) (by omega) w);have CL:=aac (fun w=>aoB (Nz.sx u 0) w (by omega));have hle:=Nz.atb u 0;have HF:Hid (Nz.fr u (Nz.sn u 0)=u.extract (Nz.sn u 0) u.size):=aac rfl;unfold isN at hn;rw[hn] at CS;generalize Nz.fr u (Nz.sn u 0)=t at *;generalize Nz.sn u 0=n at *;generalize Nz.sx u 0=x at *;generalize (Nz.aao x).1=p at *;generalize (Nz.aao x).2.1=q at *;have i1:(0:Int)≤(n:Int):=(by omega);have i2:(n:Int)≤(u.size:Int):=(by omega);clear h hn hz;go_enter Tryz.func92,Tryz.ntmps92;go_wp2_with fail;refine(CC.out _).mono ?_;rintro e w1 ⟨rfl,hb1⟩;have HS1:=aac (HS.out.after hb1);have G1:=aac (abV g hb1);clear hb1 HS CC c0;go_wp2_with fail;refine(CS.out _).mono ?_;rintro e w2 ⟨rfl,hb2⟩;have HS2:=aac (HS1.out.after hb2);have c2:=HS2.out.c0;have f2:=HS2.out.fz 0;have G2:=aac (acn G1.out (abV g hb2));clear hb2 HS1 CS;go_wp2_with fail;refine(CL.out _).mono ?_;rintro e w3 ⟨rfl,hb3⟩;have HS3:=aac ((HS2.out.left (u.extract n u.size)).after hb3);have G3:=aac (acn (akt G2.out 0 (.string (u.extract n u.size))) (abV g hb3));clear hb3 HS2 CL c2 f2;go_wp2;go_ret2;rw[HF.out];exact⟨rfl,HS3.out,G3.out⟩
end Go.Proofs.YtnomcldpbkinmaaGreatDoor.Tg
namespace Go.Proofs.YtnomcldpbkinmaaGreatDoor.Tg
open Go.RowKit
theorem ibq (q:UInt8):∀ (l:List UInt8),(Lib.indexByte l q= -1∧q ∉ l)∨∃ i:Nat,Lib.indexByte l q=i∧i < l.length∧l[i]?=some q∧∀ j,j < i→l[j]?≠some q
 | []=>.inl ⟨rfl,by simp⟩
 | b :: l=>by
   unfold Lib.indexByte;by_cases hb:b=q
   · subst hb;exact .inr ⟨0,by simp,by simp,by simp,by simp⟩
   · have hb1:(b == q)=false:=(by simpa using hb);rw[hb1];rcases ibq q l with ⟨h1,h2⟩ | ⟨i,h1,h2,h3,h4⟩
     · refine .inl ⟨by rw[h1];rfl,?_⟩;rw[List.mem_cons];rintro (h | h)
       · exact hb h.symm
       · exact h2 h
     · refine .inr ⟨i+1,?_,by simp;omega,by simpa using h3,?_⟩
       · rw[h1];have:(((i:Int)) == -1)=false:=by rw[beq_eq_false_iff_ne];omega
         simp[this]
       · intro j hj
         cases j with
         | zero=>simpa using hb
         | succ j=>simpa using h4 j (by omega)
theorem awZ (u:ByteArray)(q:UInt8)(j:Nat)(hj:j < u.size):(aad u).getD j 0=(q.toNat:Int)↔u.data.toList[j]?=some q:=by
 have hl:j < u.data.toList.length:=by rw[← Lib.size_eq];exact hj
 unfold aad;rw[List.getD_eq_getElem?_getD,List.getElem?_map,List.getElem?_eq_getElem hl];simp only[Option.map_some,Option.getD_some,Option.some.injEq];constructor
 · intro h;exact UInt8.toNat_inj.1 (by omega)
 · intro h;rw[h]
theorem afU (q:UInt8)(u:ByteArray):(qi q u= -1∧∀ j,j < u.size→(aad u).getD j 0≠(q.toNat:Int))∨∃ i:Nat,qi q u=i∧i < u.size∧(aad u).getD i 0=(q.toNat:Int)∧∀ j,j < i→(aad u).getD j 0≠(q.toNat:Int):=by
 rcases ibq q u.data.toList with ⟨h1,h2⟩ | ⟨i,h1,h2,h3,h4⟩
 · refine .inl ⟨h1,fun j hj e=>h2 ?_⟩;exact List.mem_of_getElem? ((awZ u q j hj).1 e)
 · have hi:i < u.size:=by rw[Lib.size_eq];exact h2
   exact .inr ⟨i,h1,hi,(awZ u q i hi).2 h3,fun j hj e=>h4 j hj ((awZ u q j (by omega)).1 e)⟩
theorem axi (q:UInt8)(u:ByteArray)(h:∀ j,j < u.size→(aad u).getD j 0≠(q.toNat:Int)):qi q u= -1:=by
 rcases afU q u with ⟨h1,_⟩ | ⟨i,_,h2,h3,_⟩
 · exact h1
 · exact absurd h3 (h i h2)
theorem axH (q:UInt8)(u:ByteArray)(i:Nat)(hi:i < u.size)(he:(aad u).getD i 0=(q.toNat:Int))(h:∀ j,j < i→(aad u).getD j 0≠(q.toNat:Int)):qi q u=i:=by
 rcases afU q u with ⟨h1,h2⟩ | ⟨k,h1,h2,h3,h4⟩
 · exact absurd he (h2 i hi)
 · have:k=i:=by
    rcases Nat.lt_trichotomy k i with hlt | heq | hgt
    · exact absurd h3 (h k hlt)
    · exact heq
    · exact absurd he (h4 i hgt)
   rw[h1,this]
theorem akr (s:ByteArray)(w:World):
 Calls Tryz.prog 113 #[.string s,.string ⟨#[34]⟩] w fun e w'=>e=.returned (.int .i64 (qi 34 s))∧w=w':=by
 go_enter Tryz.func113,Tryz.ntmps113;go_wp2_with (go_at_call 137;refine(aeN _ _ _).mono ?_;rintro e w' ⟨rfl,rfl⟩)
 · have h:([34] == s.toList)=true:=(by assumption);go_ret;refine⟨?_,rfl⟩;have e:s.data.toList=[34]:=by rw[← Lib.toList_data];exact(beq_iff_eq.1 h).symm
   unfold qi;rw[e];rfl
 · go_ret;exact⟨rfl,rfl⟩
theorem aoV (s:ByteArray)(i:Nat)(h:qi 34 s=i)(hi:i < s.size)(hs:s.size≤1000000)(w:World):
 Calls Tryz.prog 154 #[.string s,.string ⟨#[34]⟩] w fun e w'=>e=.returned (.tuple #[.string (s.extract 0 i),.string (s.extract (i+1) s.size),.bool true])∧Below w.heap.size w w':=by
 have CI:=aac (akr s);rw[h] at CI;clear h;have c1:(0:Int)≤(i:Int):=(by omega);have c2:(i:Int)≤(s.size:Int):=(by omega);have c3:(0:Int)≤(i:Int)+1:=(by omega);have c4:(i:Int)+1≤(s.size:Int):=(by omega);have c5:decide ((0:Int)≤(i:Int))=true:=(by simp);have q3:((i:Int)+1).toNat=i+1:=(by omega);have q2:IntKind.i64.wrap ((i:Int)+1)=(i:Int)+1:=IntWalk.i64_in _ (by omega);go_enter Tryz.func154,Tryz.ntmps154;go_wp2_with (go_at_call 113;refine(CI.out _).mono ?_;rintro e w' ⟨rfl,rfl⟩);go_quiet (fail);go_wp2;go_ret3;exact⟨rfl,below_drewN (Below.refl _ _) _⟩
theorem amc (s:ByteArray)(h:qi 34 s= -1)(w:World):
 Calls Tryz.prog 154 #[.string s,.string ⟨#[34]⟩] w fun e w'=>e=.returned (.tuple #[.string s,.string ⟨#[]⟩,.bool false])∧Below w.heap.size w w':=by
 have CI:=aac (akr s);rw[h] at CI;clear h;go_enter Tryz.func154,Tryz.ntmps154;go_wp2_with (go_at_call 113;refine(CI.out _).mono ?_;rintro e w' ⟨rfl,rfl⟩);go_ret3;exact⟨rfl,Below.refl _ _⟩
theorem aop (s:ByteArray)(i:Nat)(h:qi 34 s=i)(hi:i < s.size)(hs:s.size≤1000000)(w:World):
 Calls Tryz.prog 123 #[.string s,.string ⟨#[34]⟩] w fun e w'=>e=.returned (.tuple #[.string (s.extract 0 i),.string (s.extract (i+1) s.size),.bool true])∧Below w.heap.size w w':=by
 have CL:=aac (aoV s i h hi hs);clear h hi hs;go_enter Tryz.func123,Tryz.ntmps123;go_wp2_with (go_at_call 154;refine(CL.out _).mono ?_;rintro e w' ⟨rfl,hb⟩);go_ret3;exact⟨rfl,hb⟩
theorem alO (s:ByteArray)(h:qi 34 s= -1)(w:World):
 Calls Tryz.prog 123 #[.string s,.string ⟨#[34]⟩] w fun e w'=>e=.returned (.tuple #[.string s,.string ⟨#[]⟩,.bool false])∧Below w.heap.size w w':=by
 have CL:=aac (amc s h);clear h;go_enter Tryz.func123,Tryz.ntmps123;go_wp2_with (go_at_call 154;refine(CL.out _).mono ?_;rintro e w' ⟨rfl,hb⟩);go_ret3;exact⟨rfl,hb⟩
theorem akv (s:ByteArray)(w:World):
 Calls Tryz.prog 113 #[.string s,.string ⟨#[39]⟩] w fun e w'=>e=.returned (.int .i64 (qi 39 s))∧w=w':=by
 go_enter Tryz.func113,Tryz.ntmps113;go_wp2_with (go_at_call 137;refine(aeN _ _ _).mono ?_;rintro e w' ⟨rfl,rfl⟩)
 · have h:([39] == s.toList)=true:=(by assumption);go_ret;refine⟨?_,rfl⟩;have e:s.data.toList=[39]:=by rw[← Lib.toList_data];exact(beq_iff_eq.1 h).symm
   unfold qi;rw[e];rfl
 · go_ret;exact⟨rfl,rfl⟩
theorem aoD (s:ByteArray)(i:Nat)(h:qi 39 s=i)(hi:i < s.size)(hs:s.size≤1000000)(w:World):
 Calls Tryz.prog 154 #[.string s,.string ⟨#[39]⟩] w fun e w'=>e=.returned (.tuple #[.string (s.extract 0 i),.string (s.extract (i+1) s.size),.bool true])∧Below w.heap.size w w':=by
 have CI:=aac (akv s);rw[h] at CI;clear h;have c1:(0:Int)≤(i:Int):=(by omega);have c2:(i:Int)≤(s.size:Int):=(by omega);have c3:(0:Int)≤(i:Int)+1:=(by omega);have c4:(i:Int)+1≤(s.size:Int):=(by omega);have c5:decide ((0:Int)≤(i:Int))=true:=(by simp);have q3:((i:Int)+1).toNat=i+1:=(by omega);have q2:IntKind.i64.wrap ((i:Int)+1)=(i:Int)+1:=IntWalk.i64_in _ (by omega);go_enter Tryz.func154,Tryz.ntmps154;go_wp2_with (go_at_call 113;refine(CI.out _).mono ?_;rintro e w' ⟨rfl,rfl⟩);go_quiet (fail);go_wp2;go_ret3;exact⟨rfl,below_drewN (Below.refl _ _) _⟩
theorem alr (s:ByteArray)(h:qi 39 s= -1)(w:World):
 Calls Tryz.prog 154 #[.string s,.string ⟨#[39]⟩] w fun e w'=>e=.returned (.tuple #[.string s,.string ⟨#[]⟩,.bool false])∧Below w.heap.size w w':=by
 have CI:=aac (akv s);rw[h] at CI;clear h;go_enter Tryz.func154,Tryz.ntmps154;go_wp2_with (go_at_call 113;refine(CI.out _).mono ?_;rintro e w' ⟨rfl,rfl⟩);go_ret3;exact⟨rfl,Below.refl _ _⟩
theorem aoW (s:ByteArray)(i:Nat)(h:qi 39 s=i)(hi:i < s.size)(hs:s.size≤1000000)(w:World):
 Calls Tryz.prog 123 #[.string s,.string ⟨#[39]⟩] w fun e w'=>e=.returned (.tuple #[.string (s.extract 0 i),.string (s.extract (i+1) s.size),.bool true])∧Below w.heap.size w w':=by
 have CL:=aac (aoD s i h hi hs);clear h hi hs;go_enter Tryz.func123,Tryz.ntmps123;go_wp2_with (go_at_call 154;refine(CL.out _).mono ?_;rintro e w' ⟨rfl,hb⟩);go_ret3;exact⟨rfl,hb⟩
theorem amh (s:ByteArray)(h:qi 39 s= -1)(w:World):
 Calls Tryz.prog 123 #[.string s,.string ⟨#[39]⟩] w fun e w'=>e=.returned (.tuple #[.string s,.string ⟨#[]⟩,.bool false])∧Below w.heap.size w w':=by
 have CL:=aac (alr s h);clear h;go_enter Tryz.func123,Tryz.ntmps123;go_wp2_with (go_at_call 154;refine(CL.out _).mono ?_;rintro e w' ⟨rfl,hb⟩);go_ret3;exact⟨rfl,hb⟩
end Go.Proofs.YtnomcldpbkinmaaGreatDoor.Tg
