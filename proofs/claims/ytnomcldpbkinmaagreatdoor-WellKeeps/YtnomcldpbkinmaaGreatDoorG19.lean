/- Lemmas of the claim. -/
import Derived.Test.YtnomcldpbkinmaaGreatDoorG18
set_option maxHeartbeats 4000000
set_option maxRecDepth 100000
set_option linter.unusedSimpArgs false
set_option linter.unusedVariables false
namespace Go.Proofs.YtnomcldpbkinmaaGreatDoor.Nz.Sc
open Go.RowKit
theorem axO:xn.toList=[120,109,108,110,115]:=by rw[Lib.toList_data];rfl
theorem aze:xm.toList=[120,109,108]:=by rw[Lib.toList_data];rfl
theorem awR:x6.toList=[120,109,108,110,115,58]:=by rw[Lib.toList_data];rfl
theorem ays:XS.toList=[104,116,116,112,58,47,47,119,119,119,46,119,51,46,111,114,103,47,88,77,76,47,49,57,57,56,47,110,97,109,101,115,112,97,99,101]:=by rw[Lib.toList_data];rfl
theorem awX:XN.toList=[104,116,116,112,58,47,47,119,119,119,46,119,51,46,111,114,103,47,50,48,48,48,47,120,109,108,110,115,47]:=by rw[Lib.toList_data];rfl
theorem agS {p:ByteArray}{b:Bool}(h:eqb p xn=b):(p.toList == [120,109,108,110,115])=b:=by rw[← axO];exact h
theorem awh {p:ByteArray}{b:Bool}(h:eqb p xm=b):(p.toList == [120,109,108])=b:=by rw[← aze];exact h
theorem a1u {p:ByteArray}{b:Bool}(h:eqb p x6=b):(p.toList == [120,109,108,110,115,58])=b:=by rw[← awR];exact h
theorem awj {p:ByteArray}{b:Bool}(h:eqb p XS=b):(p.toList == [104,116,116,112,58,47,47,119,119,119,46,119,51,46,111,114,103,47,88,77,76,47,49,57,57,56,47,110,97,109,101,115,112,97,99,101])=b:=by rw[← ays];exact h
theorem awt {p:ByteArray}{b:Bool}(h:eqb p XN=b):(p.toList == [104,116,116,112,58,47,47,119,119,119,46,119,51,46,111,114,103,47,50,48,48,48,47,120,109,108,110,115,47])=b:=by rw[← awX];exact h
theorem aeC {p:ByteArray}{b:Bool}(h:eqb p em=b):p.toList.isEmpty=b:=by rw[← aph];exact h
def a2r (s p l:ByteArray)(ok:Bool):Prop:=∀ w,Calls Tryz.prog 99 #[.string s] w fun e w'=>e=.returned (.tuple #[.string p,.string l,.bool ok])∧Below w.heap.size w w'
theorem alC (s:ByteArray)(hs:s.size≤10000):a2r s (aao s).1 (aao s).2.1 (aao s).2.2:=fun w=>aeF s (by omega) w
def a2k (o:Option ByteArray):Value:=.tuple #[.string (o.getD em),.bool o.isSome]
theorem azi (s p l:ByteArray)(ok b1 b2 b3:Bool)(CS:Hid (a2r s p l ok))(h1:(p.toList == [120,109,108,110,115])=b1)(h2:p.toList.isEmpty=b2)(h3:(l.toList == [120,109,108,110,115])=b3)(w:World):
 Calls Tryz.prog 97 #[.string s] w fun e w'=>e=.returned (a2k (if b1=true then some l else if b2=true∧b3=true then some em else none))∧Below w.heap.size w w':=by
 cases b1
 · cases b2
   · go_enter Tryz.func97,Tryz.ntmps97;go_wp2_with (go_at_call 99;refine(CS.out _).mono ?_;rintro e w' ⟨rfl,hb⟩);go_ret2;exact⟨rfl,hb⟩
   · cases b3 <;>
     · go_enter Tryz.func97,Tryz.ntmps97;go_wp2_with (go_at_call 99;refine(CS.out _).mono ?_;rintro e w' ⟨rfl,hb⟩);go_ret2;exact⟨rfl,hb⟩
 · go_enter Tryz.func97,Tryz.ntmps97;go_wp2_with (go_at_call 99;refine(CS.out _).mono ?_;rintro e w' ⟨rfl,hb⟩);go_ret2;exact⟨rfl,hb⟩
theorem ajX (s:ByteArray)(hs:s.size≤10000)(w:World):
 Calls Tryz.prog 97 #[.string s] w fun e w'=>e=.returned (a2k (agp s))∧Below w.heap.size w w':=
 azi s _ _ _ _ _ _ (aac (alC s hs)) (agS rfl) (aeC rfl) (agS rfl) w
theorem axB (p s:ByteArray)(b1 b2 b3 b4 b5 b6:Bool)(h1:(p.toList == [120,109,108,110,115])=b1)
 (h2:(s.toList == [104,116,116,112,58,47,47,119,119,119,46,119,51,46,111,114,103,47,50,48,48,48,47,120,109,108,110,115,47])=b2) (h3:(p.toList == [120,109,108])=b3)
 (h4:(s.toList == [104,116,116,112,58,47,47,119,119,119,46,119,51,46,111,114,103,47,88,77,76,47,49,57,57,56,47,110,97,109,101,115,112,97,99,101])=b4) (h5:p.toList.isEmpty=b5) (h6:s.toList.isEmpty=b6) (w:World):
 Calls Tryz.prog 98 #[.agg #[.string p,.string s]] w fun e w'=>e=.returned (.bool (!(b1 || b2) && (b3 == b4) && (b5 || !b6)))∧Below w.heap.size w w':=by
 have HB:=aac ((Below.refl w.heap.size w).alloc (Nat.le_refl _) (.cells #[.string p,.string s] 75));have h6':(!s.toList.isEmpty)= !b6:=(by rw[h6]);cases b1
 · cases b2
   · cases b3 <;> cases b4
     · cases b5
       · cases b6 <;>
         · go_enter Tryz.func98,Tryz.ntmps98;go_wp2;go_ret;exact⟨rfl,HB.out⟩
       · go_enter Tryz.func98,Tryz.ntmps98;go_wp2;go_ret;exact⟨rfl,HB.out⟩
     · go_enter Tryz.func98,Tryz.ntmps98;go_wp2;go_ret;exact⟨rfl,HB.out⟩
     · go_enter Tryz.func98,Tryz.ntmps98;go_wp2;go_ret;exact⟨rfl,HB.out⟩
     · cases b5
       · cases b6 <;>
         · go_enter Tryz.func98,Tryz.ntmps98;go_wp2;go_ret;exact⟨rfl,HB.out⟩
       · go_enter Tryz.func98,Tryz.ntmps98;go_wp2;go_ret;exact⟨rfl,HB.out⟩
   · go_enter Tryz.func98,Tryz.ntmps98;go_wp2;go_ret;exact⟨rfl,HB.out⟩
 · go_enter Tryz.func98,Tryz.ntmps98;go_wp2;go_ret;exact⟨rfl,HB.out⟩
theorem aqb (p s:ByteArray)(w:World):
 Calls Tryz.prog 98 #[.agg #[.string p,.string s]] w fun e w'=>e=.returned (.bool (okB p s))∧Below w.heap.size w w':=
 axB p s _ _ _ _ _ _ (agS rfl) (awt rfl) (awh rfl) (awj rfl) (aeC rfl) (aeC rfl) w
def nmV (o:Option P2):Value:=match o with
 | none=>.tuple #[.agg #[.string ⟨#[]⟩,.string ⟨#[]⟩],.int .i64 9]
 | some x=>.tuple #[.agg #[.string x.1,.string x.2],.int .i64 0]
theorem Tryz.results100:Tryz.f100.results= #[ResultVar.cell 6 47,ResultVar.tmp 7]:=by kernel_rfl
theorem Tryz.results101:Tryz.f101.results= #[ResultVar.cell 4 47,ResultVar.tmp 5]:=by kernel_rfl
theorem abM (w:World)(T:TypeId)(cs:Array Value):(w.alloc (.cells cs T)).heap[w.heap.size]?=some (.cells cs T (0,0)):=heap_alloc_new w _
theorem aqn (A:Option Addr)(N cap:Nat)(p n sp:ByteArray)(ok b1:Bool)(w:World)(hn:n.size≤Lim)
 (CF:Hid (∀ W,Below w.heap.size w W→Calls Tryz.prog 126 #[.slice A N cap,.string p] W fun e w'=>e=.returned (.tuple #[.string sp,.bool ok])∧Below W.heap.size W w')) (h1:(p.toList == [120,109,108,110,115])=b1):
 Calls Tryz.prog 100 #[.slice A N cap,.string p,.string n] w fun e w'=>e=.returned (nmV (if ok=false∨b1=true then none else some (sp,n)))∧Below w.heap.size w w':=by
 have HB:=aac ((Below.refl w.heap.size w).alloc (Nat.le_refl _) (.cells #[.string ⟨#[]⟩,.string ⟨#[]⟩] 47));have C:=aac (fun W=>abE n W hn);have HK:=aac (abM w 47 #[.string ⟨#[]⟩,.string ⟨#[]⟩]);clear hn;cases ok
 · have e0:(if (false=false∨b1=true) then (none:Option P2) else some (sp,n))=none:=if_pos (Or.inl rfl);rw[e0];clear e0;go_enter Tryz.func100,Tryz.ntmps100;go_wp2_with (go_at_call 126;refine(CF.out _ HB.out).mono ?_;rintro e w1 ⟨rfl,hb⟩;have hk:=aac ((hb.block w.heap.size (by simp)).trans HK.out);have z0:=aaf hk.out 0 (u:=.string ⟨#[]⟩) rfl;have z1:=aaf hk.out 1 (u:=.string ⟨#[]⟩) rfl;have f0:=aaj hk.out 0;have f1:=aaj hk.out 1);have c0:=adj (.string ⟨#[]⟩) (.string ⟨#[]⟩) z0;have c1:=ada (.string ⟨#[]⟩) (.string ⟨#[]⟩) z1;exact bodyPost_ret (v:=.tuple #[.agg #[.string ⟨#[]⟩,.string ⟨#[]⟩],.int .i64 9]) (by simp[results,Tryz.results100,go_sem,c0,c1]) rfl ⟨rfl,((HB.out.trans (hb.mono (by simp))).setCell (p:=⟨w.heap.size,0,none⟩) (Nat.le_refl _) _).setCell (p:=⟨w.heap.size,1,none⟩) (Nat.le_refl _) _⟩
 · cases b1
   · go_enter Tryz.func100,Tryz.ntmps100
     go_wp2_with (first
      | (go_at_call 126;refine(CF.out _ HB.out).mono ?_;rintro e w1 ⟨rfl,hb⟩;have hk:=aac ((hb.block w.heap.size (by simp)).trans HK.out);have z0:=aaf hk.out 0 (u:=.string ⟨#[]⟩) rfl;have z1:=aaf hk.out 1 (u:=.string ⟨#[]⟩) rfl;have f0:=aaj hk.out 0;have f1:=aaj hk.out 1)
      | (go_at_call 102;refine(C.out _).mono ?_;rintro e w2 ⟨rfl,hb2⟩;have hk2:=aac ((hb2.block w.heap.size (Nat.lt_of_lt_of_le (by simp) hb.size)).trans hk.out);have y0:=aaf hk2.out 0 (u:=.string ⟨#[]⟩) rfl;have y1:=aaf hk2.out 1 (u:=.string ⟨#[]⟩) rfl;have g0:=aaj hk2.out 0;have g1:=aaj hk2.out 1))
     have c0:=adj (.string sp) (.string n) y0;have c1:=ada (.string sp) (.string n) y1;have B1:=HB.out.trans (hb.mono (by simp));exact bodyPost_ret (v:=.tuple #[.agg #[.string sp,.string n],.int .i64 0]) (by simp[results,Tryz.results100,go_sem,c0,c1]) rfl ⟨rfl,((B1.trans (hb2.mono B1.size)).setCell (p:=⟨w.heap.size,0,none⟩) (Nat.le_refl _) _).setCell (p:=⟨w.heap.size,1,none⟩) (Nat.le_refl _) _⟩
   · go_enter Tryz.func100,Tryz.ntmps100;go_wp2_with (go_at_call 126;refine(CF.out _ HB.out).mono ?_;rintro e w1 ⟨rfl,hb⟩;have hk:=aac ((hb.block w.heap.size (by simp)).trans HK.out);have z0:=aaf hk.out 0 (u:=.string ⟨#[]⟩) rfl;have z1:=aaf hk.out 1 (u:=.string ⟨#[]⟩) rfl;have f0:=aaj hk.out 0;have f1:=aaj hk.out 1);have c0:=adj (.string ⟨#[]⟩) (.string ⟨#[]⟩) z0;have c1:=ada (.string ⟨#[]⟩) (.string ⟨#[]⟩) z1;exact bodyPost_ret (v:=.tuple #[.agg #[.string ⟨#[]⟩,.string ⟨#[]⟩],.int .i64 9]) (by simp[results,Tryz.results100,go_sem,c0,c1]) rfl ⟨rfl,((HB.out.trans (hb.mono (by simp))).setCell (p:=⟨w.heap.size,0,none⟩) (Nat.le_refl _) _).setCell (p:=⟨w.heap.size,1,none⟩) (Nat.le_refl _) _⟩
theorem agv (A:Option Addr)(N cap:Nat)(p n:ByteArray)(L:List P2)(w:World)(hN:N=L.length)(hlim:adF L)(hreach:N≤1000000)(hR:RdR w A L)(hn:n.size≤Lim):
 Calls Tryz.prog 100 #[.slice A N cap,.string p,.string n] w fun e w'=>e=.returned (nmV (asU L p n))∧Below w.heap.size w w':=
 aqn A N cap p n _ _ _ w hn (aac (fun W hW=>atm A N cap p L W hN hlim hreach (hR.keep hW))) (agS rfl)
theorem a2v (A:Option Addr)(N cap:Nat)(s p l:ByteArray)(ok b2:Bool)(o:Option P2)(w:World)(hn:l.size≤Lim)(CS:Hid (a2r s p l ok))
 (CR:Hid (∀ W,Below w.heap.size w W→Calls Tryz.prog 100 #[.slice A N cap,.string p,.string l] W fun e w'=>e=.returned (nmV o)∧Below W.heap.size W w')) (h2:p.toList.isEmpty=b2):
 Calls Tryz.prog 101 #[.slice A N cap,.string s] w fun e w'=>e=.returned (nmV (if ok=false then none else if b2=true then some (em,l) else o))∧Below w.heap.size w w':=by
 have HB:=aac ((Below.refl w.heap.size w).alloc (Nat.le_refl _) (.cells #[.string ⟨#[]⟩,.string ⟨#[]⟩] 47));have C:=aac (fun W=>abE l W hn);have HK:=aac (abM w 47 #[.string ⟨#[]⟩,.string ⟨#[]⟩]);clear hn;cases ok
 · go_enter Tryz.func101,Tryz.ntmps101;go_wp2_with (go_at_call 99;refine(CS.out _).mono ?_;rintro e w1 ⟨rfl,hb⟩;have hk:=aac ((hb.block w.heap.size (by simp)).trans HK.out);have z0:=aaf hk.out 0 (u:=.string ⟨#[]⟩) rfl;have z1:=aaf hk.out 1 (u:=.string ⟨#[]⟩) rfl;have f0:=aaj hk.out 0;have f1:=aaj hk.out 1);have c0:=adj (.string ⟨#[]⟩) (.string ⟨#[]⟩) z0;have c1:=ada (.string ⟨#[]⟩) (.string ⟨#[]⟩) z1;exact bodyPost_ret (v:=.tuple #[.agg #[.string ⟨#[]⟩,.string ⟨#[]⟩],.int .i64 9]) (by simp[results,Tryz.results101,go_sem,c0,c1]) rfl ⟨rfl,((HB.out.trans (hb.mono (by simp))).setCell (p:=⟨w.heap.size,0,none⟩) (Nat.le_refl _) _).setCell (p:=⟨w.heap.size,1,none⟩) (Nat.le_refl _) _⟩
 · cases b2
   · cases o with
     | none=>
       have CR':Hid (∀ W,Below w.heap.size w W→Calls Tryz.prog 100 #[.slice A N cap,.string p,.string l] W fun e w'=>e=.returned (.tuple #[.agg #[.string ⟨#[]⟩,.string ⟨#[]⟩],.int .i64 9])∧Below W.heap.size W w'):=CR;clear CR;go_enter Tryz.func101,Tryz.ntmps101
       go_wp2_with (first
        | (go_at_call 99;refine(CS.out _).mono ?_;rintro e w1 ⟨rfl,hb⟩;have hk:=aac ((hb.block w.heap.size (by simp)).trans HK.out);have B1:=aac (HB.out.trans (hb.mono (by simp))))
        | (go_at_call 100;refine(CR'.out _ B1.out).mono ?_;rintro e w2 ⟨rfl,hb2⟩;have hk2:=aac ((hb2.block w.heap.size (Nat.lt_of_lt_of_le (by simp) hb.size)).trans hk.out);have y0:=aaf hk2.out 0 (u:=.string ⟨#[]⟩) rfl;have y1:=aaf hk2.out 1 (u:=.string ⟨#[]⟩) rfl;have g0:=aaj hk2.out 0;have g1:=aaj hk2.out 1))
       have c0:=adj (.string ⟨#[]⟩) (.string ⟨#[]⟩) y0;have c1:=ada (.string ⟨#[]⟩) (.string ⟨#[]⟩) y1;exact bodyPost_ret (v:=.tuple #[.agg #[.string ⟨#[]⟩,.string ⟨#[]⟩],.int .i64 9]) (by simp[results,Tryz.results101,go_sem,c0,c1]) rfl ⟨rfl,((B1.out.trans (hb2.mono B1.out.size)).setCell (p:=⟨w.heap.size,0,none⟩) (Nat.le_refl _) _).setCell (p:=⟨w.heap.size,1,none⟩) (Nat.le_refl _) _⟩
     | some x=>
       obtain⟨xa,xb⟩:=x;have CR':Hid (∀ W,Below w.heap.size w W→Calls Tryz.prog 100 #[.slice A N cap,.string p,.string l] W fun e w'=>e=.returned (.tuple #[.agg #[.string xa,.string xb],.int .i64 0])∧Below W.heap.size W w'):=CR;clear CR;go_enter Tryz.func101,Tryz.ntmps101
       go_wp2_with (first
        | (go_at_call 99;refine(CS.out _).mono ?_;rintro e w1 ⟨rfl,hb⟩;have hk:=aac ((hb.block w.heap.size (by simp)).trans HK.out);have B1:=aac (HB.out.trans (hb.mono (by simp))))
        | (go_at_call 100;refine(CR'.out _ B1.out).mono ?_;rintro e w2 ⟨rfl,hb2⟩;have hk2:=aac ((hb2.block w.heap.size (Nat.lt_of_lt_of_le (by simp) hb.size)).trans hk.out);have y0:=aaf hk2.out 0 (u:=.string ⟨#[]⟩) rfl;have y1:=aaf hk2.out 1 (u:=.string ⟨#[]⟩) rfl;have g0:=aaj hk2.out 0;have g1:=aaj hk2.out 1))
       have c0:=adj (.string xa) (.string xb) y0;have c1:=ada (.string xa) (.string xb) y1;exact bodyPost_ret (v:=.tuple #[.agg #[.string xa,.string xb],.int .i64 0]) (by simp[results,Tryz.results101,go_sem,c0,c1]) rfl ⟨rfl,((B1.out.trans (hb2.mono B1.out.size)).setCell (p:=⟨w.heap.size,0,none⟩) (Nat.le_refl _) _).setCell (p:=⟨w.heap.size,1,none⟩) (Nat.le_refl _) _⟩
   · go_enter Tryz.func101,Tryz.ntmps101
     go_wp2_with (first
      | (go_at_call 99;refine(CS.out _).mono ?_;rintro e w1 ⟨rfl,hb⟩;have hk:=aac ((hb.block w.heap.size (by simp)).trans HK.out);have B1:=aac (HB.out.trans (hb.mono (by simp))))
      | (go_at_call 102;refine(C.out _).mono ?_;rintro e w2 ⟨rfl,hb2⟩;have hk2:=aac ((hb2.block w.heap.size (Nat.lt_of_lt_of_le (by simp) hb.size)).trans hk.out);have y0:=aaf hk2.out 0 (u:=.string ⟨#[]⟩) rfl;have y1:=aaf hk2.out 1 (u:=.string ⟨#[]⟩) rfl;have g0:=aaj hk2.out 0;have g1:=aaj hk2.out 1))
     have c0:=adj (.string ⟨#[]⟩) (.string l) y0;have c1:=ada (.string ⟨#[]⟩) (.string l) y1;exact bodyPost_ret (v:=.tuple #[.agg #[.string ⟨#[]⟩,.string l],.int .i64 0]) (by simp[results,Tryz.results101,go_sem,c0,c1]) rfl ⟨rfl,((B1.out.trans (hb2.mono B1.out.size)).setCell (p:=⟨w.heap.size,0,none⟩) (Nat.le_refl _) _).setCell (p:=⟨w.heap.size,1,none⟩) (Nat.le_refl _) _⟩
theorem azw (A:Option Addr)(N cap:Nat)(s:ByteArray)(L:List P2)(w:World)(hN:N=L.length)(hlim:adF L)(hreach:N≤1000000)(hR:RdR w A L)(hs:s.size≤10000):
 Calls Tryz.prog 101 #[.slice A N cap,.string s] w fun e w'=>e=.returned (nmV (apV L s))∧Below w.heap.size w w':=by
 have hz:(aao s).2.1.size≤Lim:=Nat.le_trans (adb s).2 (by unfold Lim;omega);exact a2v A N cap s _ _ _ _ _ w hz (aac (alC s hs)) (aac (fun W hW=>agv A N cap _ _ L W hN hlim hreach (hR.keep hW) hz)) (aeC rfl)
end Go.Proofs.YtnomcldpbkinmaaGreatDoor.Nz.Sc
namespace Go.Proofs.YtnomcldpbkinmaaGreatDoor.Nz.Sc
open Go.RowKit
def a4b (s b:ByteArray)(ok:Bool):Prop:=∀ w,Calls Tryz.prog 97 #[.string s] w fun e w'=>e=.returned (.tuple #[.string b,.bool ok])∧Below w.heap.size w w'
theorem amQ {s:ByteArray}(hs:s.size≤10000)(h:agp s=none):a4b s ⟨#[]⟩ false:=fun w=>(ajX s hs w).mono fun e w' ⟨h1,h2⟩=>⟨by rw[h1,h];rfl,h2⟩
theorem amK {s p:ByteArray}(hs:s.size≤10000)(h:agp s=some p):a4b s p true:=fun w=>(ajX s hs w).mono fun e w' ⟨h1,h2⟩=>⟨by rw[h1,h];rfl,h2⟩
def CpC (p s:ByteArray):Prop:=∀ w,Calls Tryz.prog 96 #[.agg #[.string p,.string s]] w fun e w'=>e=.returned (.agg #[.string p,.string s])∧Below w.heap.size w w'
def AlC (p s:ByteArray)(b:Bool):Prop:=∀ w,Calls Tryz.prog 98 #[.agg #[.string p,.string s]] w fun e w'=>e=.returned (.bool b)∧Below w.heap.size w w'
theorem apy {p s:ByteArray}{b:Bool}(h:okB p s=b):AlC p s b:=fun w=>(aqb p s w).mono fun e w' ⟨h1,h2⟩=>⟨by rw[h1,h],h2⟩
theorem avz {s p:ByteArray}(h:agp s=some p):p.size≤s.size:=by
 unfold agp at h;split at h
 · injection h with h
   rw[← h];exact(adb s).2
 · split at h
   · injection h with h
     rw[← h,aeu];exact Nat.zero_le _
   · cases h
theorem drop_cons {α:Type}{l:List α}{k:Nat}{x:α}(h:l[k]?=some x):l.drop k=x :: l.drop (k+1):=by
 obtain⟨h1,h2⟩:=List.getElem?_eq_some_iff.1 h;rw[List.drop_eq_getElem_cons h1,h2]
theorem ajH {l R:List P2}{k:Nat}{x:P2}(h:R[k]?=some x)(hb:agp x.1=none):abQ l (R.drop k)=abQ l (R.drop (k+1)):=by
 rw[drop_cons h,abQ,hb]
theorem asn {l R:List P2}{k:Nat}{x:P2}{p:ByteArray}(h:R[k]?=some x)(hb:agp x.1=some p)(ho:okB p x.2=true):abQ l (R.drop k)=abQ (l++[(p,x.2)]) (R.drop (k+1)):=by
 rw[drop_cons h,abQ,hb];show (if okB p x.2=true then _ else _)=_;rw[if_pos ho]
theorem ajB {l R:List P2}{k:Nat}{x:P2}{p:ByteArray}(h:R[k]?=some x)(hb:agp x.1=some p)(ho:okB p x.2=false):abQ l (R.drop k)=none:=by
 rw[drop_cons h,abQ,hb];show (if okB p x.2=true then _ else _)=_;rw[if_neg (by rw[ho];simp)]
def anw (w:World)(o:Option (List P2))(e:Ending)(w':World):Prop:=
 (o=none→e=.returned (.tuple #[.slice none 0 0,.int .i64 9]))∧(∀ W,o=some W→∃ v,e=.returned (.tuple #[v,.int .i64 0])∧adC 75 w' w.heap.size v W)∧Below w.heap.size w w'
def a0w (L:List P2)(N:Nat)(A2:Option Addr)(R:List P2)(w:World)(v i:Value)(wr:World):Prop:=
 ∃ k:Nat,i=.int .i64 k∧k≤N∧Hid (wr.ownsRow w.heap.size 75 2 v k (rwL (L.take k)))∧Hid (Below w.heap.size w wr)
def a0h (L R:List P2)(N M:Nat)(w:World)(v i:Value)(wr:World):Prop:=
 ∃ (k m:Nat) (W:List P2),i=.int .i64 k∧k≤M∧m≤N+k∧Hid (m=W.length)∧Hid (wr.ownsRow w.heap.size 75 2 v m (rwL W))∧Hid (Below w.heap.size w wr)∧Hid (abQ L R=abQ W (R.drop k))
theorem afX (p s:ByteArray):∀ u∈[Value.string p,Value.string s],u.oneCell'=true:=arp (p,s)
theorem afa (A A2:Option Addr)(N M cap cap2:Nat)(L R:List P2)(w:World)(hN:N=L.length)(hM:M=R.length)(hN1:N≤10000)(hM1:M≤10000)(hlim:adF L)(hlimR:adF R)(hsz:∀ x∈R,x.1.size≤10000)(hR:RdR w A L)(hR2:RdR w A2 R):
 Calls Tryz.prog 78 #[.slice A N cap,.slice A2 M cap2] w (anw w (abQ L R)):=by
 obtain⟨i0,hi,hz0,hz1,hz2⟩:=info_parts Tryz.info75;have HN:=aac hN;have HM:=aac hM;have HL:=aac hlim;have HLR:=aac hlimR;have HS:=aac hsz;have HR:=aac hR;have HR2:=aac hR2;clear hN hM hlim hlimR hsz hR hR2;go_enter Tryz.func78,Tryz.ntmps78;go_wp2_with fail;go_loopw [6,16] (fun v i wr=>a0w L N A2 R w v i wr) (fun _ i _=>N - (intOf i).toNat);case atStart=>exact⟨0,rfl,Nat.zero_le _,aac ⟨by simp[rwL],.inl ⟨rfl,rfl⟩⟩,aac (Below.refl _ _)⟩
 case round=>
  obtain⟨k,rfl,hk,hO,hB⟩:=hrel;by_cases hlt:k < N
  · have hkl:k < L.length:=by rw[← HN.out];exact hlt
    have hx:=List.getElem?_eq_getElem hkl;obtain⟨b1,o1,rfl,hb1,x0,x1⟩:=(HR.out.keep hB.out) k _ hx;have hz:=HL.out _ (List.getElem_mem hkl);have HX:=aac hx;have d1:(k:Int) < (N:Int):=(by omega);have d0:(0:Int)≤(k:Int):=(by omega);clear hx;generalize L[k]=t at *;obtain⟨tp,ts⟩:=t;dsimp only at x0 x1 hz;have C:Hid (CpC tp ts):=aac (fun W=>aik tp ts W hz.1 hz.2);obtain⟨A0,c0,rfl⟩:=aah hO.out;clear hz
    go_wp2_with (first
     | (go_at_call 96;refine(C.out _).mono ?_;rintro e w1 ⟨rfl,hb⟩;have ho1:=aac ((aai (hO.out.alloc _) hb).alloc (.cells #[.string tp,.string ts] 75));have hB1:=aac ((hB.out.alloc hB.out.size _).trans (hb.mono (Nat.le_trans hB.out.size (by simp))));have hB2:=aac (hB1.out.alloc hB1.out.size (.cells #[.string tp,.string ts] 75));have hnew:=aac (aaM w1 #[.string tp,.string ts] 75))
     | (at_builtin;refine wpList_append_own _ rfl _ _ 76 rfl w.heap.size 75 i0 (.agg #[.string ⟨#[]⟩,.string ⟨#[]⟩]) 2 32 Tryz.underlying76 hi hz0 hz1 hz2 rfl (by decide) _ k (rwL (L.take k)) rfl ho1.out ⟨w1.heap.size,0,none⟩ 1 1 [.string tp,.string ts] rfl rfl hnew.out (afX tp ts) (by unfold maxLen;omega) (by omega) hB2.out.size ?_;intro v' w2 hown' hgrow hnil;obtain⟨g',cap',rfl⟩:=aas hown';have hO2:=aac hown';have hB3:=aac (hB2.out.grown hgrow hB2.out.size (fun j hj=>(World.ownsRow.lt ho1.out j hj).1));clear hown' hgrow hnil))
    go_roundw;case rel=>exact⟨k+1,by go_num,by omega,aac (by rw[aeV L k _ HX.out,aev];exact hO2.out),hB3⟩
    case measure=>simp only[intOf];omega
  · have d1:¬ (k:Int) < (N:Int):=(by omega);have HL0:Hid (L.take k=L):=aac (List.take_of_length_le (by rw[← HN.out];omega));have HK0:Hid (k=L.length):=aac (by have:=HN.out;omega);have hkN:k≤N:=hk;rw[HL0.out] at hO;clear HL0 HR HL;obtain⟨A0,c0,rfl⟩:=aah hO.out;go_wp2_with fail;go_loopw [6,28] (fun v i wr=>a0h L R N M w v i wr) (fun _ i _=>M - (intOf i).toNat);case atStart=>exact⟨0,k,L,rfl,Nat.zero_le _,by omega,HK0,hO,hB,aac rfl⟩
    case round=>
     clear hO hB HK0 d1;obtain⟨j,m,W,rfl,hj,hm,HW,hO,hB,HI⟩:=hrel;clear hlt hk hkN;obtain⟨A1,c1,rfl⟩:=aah hO.out;by_cases hlt:j < M
     · have hkl:j < R.length:=by rw[← HM.out];exact hlt
       have hx:=List.getElem?_eq_getElem hkl;obtain⟨b1,o1,rfl,hb1,x0,x1⟩:=(HR2.out.keep hB.out) j _ hx;have hz:=HLR.out _ (List.getElem_mem hkl);have hs:=HS.out _ (List.getElem_mem hkl);have HX:=aac hx;have d1:(j:Int) < (M:Int):=(by omega);have d0:(0:Int)≤(j:Int):=(by omega);clear hx;generalize R[j]=t at *;obtain⟨an,av⟩:=t;dsimp only at x0 x1 hz hs
       cases hbn:agp an with
       | none=>
         have CB:=aac (amQ hs hbn);have HE:=aac (ajH (l:=W) HX.out hbn);clear hbn hz hs;go_wp2_with (go_at_call 97;refine(CB.out _).mono ?_;rintro e w1 ⟨rfl,hb⟩);go_roundw;case rel=>exact⟨j+1,m,W,by go_num,by omega,by omega,HW,aac (aai (hO.out.alloc _) hb),aac ((hB.out.alloc hB.out.size _).trans (hb.mono (Nat.le_trans hB.out.size (by simp)))),aac (HI.out.trans HE.out)⟩
         case measure=>simp only[intOf];omega
       | some p=>
         have CB:=aac (amK hs hbn);have hps:=avz hbn;have C:Hid (CpC p av):=aac (fun W=>aik p av W (Nat.le_trans hps hz.1) hz.2)
         cases hok:okB p av with
         | true=>
           have CA:=aac (apy hok);have HE:=aac (asn (l:=W) HX.out hbn hok);clear hbn hz hs hps hok
           go_wp2_with (first
            | (go_at_call 97;refine(CB.out _).mono ?_;rintro e w1 ⟨rfl,hb⟩;have ho1:=aac ((aai (hO.out.alloc _) hb).alloc (.cells #[.string p,.string av] 75));have hB1:=aac ((hB.out.alloc hB.out.size _).trans (hb.mono (Nat.le_trans hB.out.size (by simp))));have hq1:w1.cell? ⟨wr.heap.size,1,none⟩=some (.string av):=(hb.cell (p:=⟨wr.heap.size,1,none⟩) (by simp)).trans (by simp);have hB2:=aac (hB1.out.alloc hB1.out.size (.cells #[.string p,.string av] 75)))
            | (go_at_call 98;refine(CA.out _).mono ?_;rintro e w2 ⟨rfl,hb2⟩;have ho2:=aac (aai ho1.out hb2);have hB3:=aac (hB2.out.trans (hb2.mono hB2.out.size));have hq2:w2.cell? ⟨w1.heap.size,0,none⟩=some (.string p):=(hb2.cell (p:=⟨w1.heap.size,0,none⟩) (by simp)).trans (by simp);have hq3:w2.cell? ⟨w1.heap.size,1,none⟩=some (.string av):=(hb2.cell (p:=⟨w1.heap.size,1,none⟩) (by simp)).trans (by simp))
            | (go_at_call 96;refine(C.out _).mono ?_;rintro e w3 ⟨rfl,hb3⟩;have ho3:=aac ((aai ho2.out hb3).alloc (.cells #[.string p,.string av] 75));have hB4:=aac (hB3.out.trans (hb3.mono hB3.out.size));have hB5:=aac (hB4.out.alloc hB4.out.size (.cells #[.string p,.string av] 75));have hnew:=aac (aaM w3 #[.string p,.string av] 75))
            | (at_builtin;refine wpList_append_own _ rfl _ _ 76 rfl w.heap.size 75 i0 (.agg #[.string ⟨#[]⟩,.string ⟨#[]⟩]) 2 32 Tryz.underlying76 hi hz0 hz1 hz2 rfl (by decide) _ m (rwL W) rfl ho3.out ⟨w3.heap.size,0,none⟩ 1 1 [.string p,.string av] rfl rfl hnew.out (afX p av) (by unfold maxLen;omega) (by omega) hB5.out.size ?_;intro v' w4 hown' hgrow hnil;obtain⟨g',cap',rfl⟩:=aas hown';have hO2:=aac hown';have hB6:=aac (hB5.out.grown hgrow hB5.out.size (fun j hj=>(World.ownsRow.lt ho3.out j hj).1));clear hown' hgrow hnil))
           go_roundw;case rel=>exact⟨j+1,m+1,W++[(p,av)],by go_num,by omega,by omega,aac (by rw[List.length_append,← HW.out];rfl),aac (by rw[aev];exact hO2.out),hB6,aac (HI.out.trans HE.out)⟩
           case measure=>simp only[intOf];omega
         | false=>
           have CA:=aac (apy hok);have HE:=aac (ajB (l:=W) HX.out hbn hok);clear hbn hz hs hps hok
           go_wp2_with (first
            | (go_at_call 97;refine(CB.out _).mono ?_;rintro e w1 ⟨rfl,hb⟩;have hB1:=aac ((hB.out.alloc hB.out.size _).trans (hb.mono (Nat.le_trans hB.out.size (by simp))));have hq1:w1.cell? ⟨wr.heap.size,1,none⟩=some (.string av):=(hb.cell (p:=⟨wr.heap.size,1,none⟩) (by simp)).trans (by simp);have hB2:=aac (hB1.out.alloc hB1.out.size (.cells #[.string p,.string av] 75)))
            | (go_at_call 98;refine(CA.out _).mono ?_;rintro e w2 ⟨rfl,hb2⟩;have hB3:=aac (hB2.out.trans (hb2.mono hB2.out.size))))
           go_ret2;refine⟨fun _=>rfl,fun W' hW'=> ?_,hB3.out⟩;rw[HI.out.trans HE.out] at hW';cases hW'
     · have d1:¬ (j:Int) < (M:Int):=(by omega);have HD:Hid (R.drop j=[]):=aac (List.drop_of_length_le (by rw[← HM.out];omega));go_wp2_with fail;go_ret2
       have hf:abQ L R=some W:=by
        rw[HI.out,HD.out];rfl
       refine⟨fun h=> ?_,fun W' hW'=>⟨_,rfl,?_⟩,hB.out⟩
       · rw[hf] at h;cases h
       · rw[hf] at hW';injection hW' with hW'
         subst hW';unfold adC;rw[← HW.out];exact hO.out
end Go.Proofs.YtnomcldpbkinmaaGreatDoor.Nz.Sc
namespace Go.Proofs.YtnomcldpbkinmaaGreatDoor.Nz.Sc
open Go.RowKit
def afD (w:World)(o:Option (List P2))(e:Ending)(w':World):Prop:=
 (o=none→e=.returned (.tuple #[.slice none 0 0,.int .i64 9]))∧(∀ f,o=some f→∃ v,e=.returned (.tuple #[v,.int .i64 0])∧adC 47 w' w.heap.size v f)∧Below w.heap.size w w'
def a3R (L:List P2)(ts:List ByteArray)(K:Nat)(w:World)(v i:Value)(wr:World):Prop:=
 ∃ (k m:Nat) (f:List P2),i=.int .i64 k∧k≤K∧m≤k∧Hid (m=f.length)∧Hid (wr.ownsRow w.heap.size 47 2 v m (rwL f))∧Hid (Below w.heap.size w wr)∧Hid (alD L [] ts=alD L f (ts.drop k))
theorem amN {L f:List P2}{ts:List ByteArray}{k:Nat}{s:ByteArray}(h:ts[k]?=some s)(hn:alf L s=none):alD L f (ts.drop k)=none:=by
 rw[drop_cons h,alD,hn]
theorem a1w {L f:List P2}{ts:List ByteArray}{k:Nat}{s:ByteArray}{n:P2}(h:ts[k]?=some s)(hn:alf L s=some n):alD L f (ts.drop k)=alD L (f++[n]) (ts.drop (k+1)):=by
 rw[drop_cons h,alD,hn]
def a3Z (A:Option Addr)(N cap:Nat)(p l:ByteArray)(v:Value)(w:World):Prop:=∀ W,Below w.heap.size w W→Calls Tryz.prog 100 #[.slice A N cap,.string p,.string l] W fun e w'=>e=.returned v∧Below W.heap.size W w'
theorem a0t {L:List P2}{s p l:ByteArray}{ok:Bool}(h:aao s=(p,l,ok))(ho:ok=false):alf L s=none:=by
 unfold alf;rw[h,if_pos ho]
theorem azs {L:List P2}{s p l:ByteArray}{ok:Bool}(h:aao s=(p,l,ok))(ho:ok=true):alf L s=asU L p l:=by
 unfold alf;rw[h,if_neg (by simp[ho])]
theorem ari (A AS:Option Addr)(N K cap capS:Nat)(L:List P2)(ts:List ByteArray)(w:World)(hN:N=L.length)(hK:K=ts.length)(hN1:N≤1000000)(hK1:K≤10000)(hlim:adF L)(hsz:∀ x∈ts,x.size≤10000)(hR:RdR w A L)(hS:RdS w AS ts):
 Calls Tryz.prog 79 #[.slice A N cap,.slice AS K capS] w (afD w (alD L [] ts)):=by
 obtain⟨i0,hi,hz0,hz1,hz2⟩:=info_parts Tryz.info47;have HR:=aac (fun (p l:ByteArray) (hl:l.size≤Lim) (W:World) (hW:Below w.heap.size w W)=>agv A N cap p l L W hN hlim hN1 (hR.keep hW) hl);have HK:=aac hK;have HZ:=aac hsz;have HS:=aac hS;clear hN hK hlim hsz hR hS;go_enter Tryz.func79,Tryz.ntmps79;go_wp2_with fail;go_loopw [6,16] (fun v i wr=>a3R L ts K w v i wr) (fun _ i _=>K - (intOf i).toNat);case atStart=>exact⟨0,0,[],rfl,Nat.zero_le _,Nat.le_refl _,aac rfl,aac ⟨by simp[rwL],.inl ⟨rfl,rfl⟩⟩,aac (Below.refl _ _),aac rfl⟩
 case round=>
  obtain⟨k,m,f,rfl,hk,hm,HF,hO,hB,HI⟩:=hrel;obtain⟨A1,c1,rfl⟩:=aah hO.out;by_cases hlt:k < K
  · have hkl:k < ts.length:=by rw[← HK.out];exact hlt
    have hx:=List.getElem?_eq_getElem hkl;obtain⟨b1,o1,rfl,hb1,x0⟩:=(HS.out.keep hB.out) k _ hx;have hs:=HZ.out _ (List.getElem_mem hkl);have HX:=aac hx;have d1:(k:Int) < (K:Int):=(by omega);have d0:(0:Int)≤(k:Int):=(by omega);clear hx;generalize ts[k]=s at *;have CS:=aac (alC s hs);have hls:(aao s).2.1.size≤Lim:=Nat.le_trans (adb s).2 (by unfold Lim;omega);obtain⟨p,l,ok,hsp⟩:∃ p l ok,aao s=(p,l,ok):=⟨_,_,_,rfl⟩;rw[hsp] at CS hls;dsimp only at CS hls
    cases ok with
    | false=>
      have HE:=aac (amN (f:=f) HX.out (a0t (L:=L) hsp rfl));clear hsp hls hs;go_wp2_with (go_at_call 99;refine(CS.out _).mono ?_;rintro e w1 ⟨rfl,hb⟩);go_ret2;refine⟨fun _=>rfl,fun f' hf'=> ?_,hB.out.trans (hb.mono hB.out.size)⟩;rw[HI.out.trans HE.out] at hf';cases hf'
    | true=>
      have CR:=HR.out p l hls;have hny:=azs (L:=L) hsp rfl
      cases hr:asU L p l with
      | none=>
        have CR':Hid (a3Z A N cap p l (.tuple #[.agg #[.string ⟨#[]⟩,.string ⟨#[]⟩],.int .i64 9]) w):=aac (fun W hW=>(CR W hW).mono fun e w' ⟨h1,h2⟩=>⟨by rw[h1,hr];rfl,h2⟩);have HE:=aac (amN (f:=f) HX.out (hny.trans hr));clear hsp hls hs CR hny hr
        go_wp2_with (first
         | (go_at_call 99;refine(CS.out _).mono ?_;rintro e w1 ⟨rfl,hb⟩;have hB1:=aac (hB.out.trans (hb.mono hB.out.size)))
         | (go_at_call 100;refine(CR'.out _ hB1.out).mono ?_;rintro e w2 ⟨rfl,hb2⟩;have hB2:=aac (hB1.out.trans (hb2.mono hB1.out.size))))
        go_ret2;refine⟨fun _=>rfl,fun f' hf'=> ?_,hB2.out.alloc hB2.out.size _⟩;rw[HI.out.trans HE.out] at hf';cases hf'
      | some x=>
        obtain⟨xa,xb⟩:=x;have CR':Hid (a3Z A N cap p l (.tuple #[.agg #[.string xa,.string xb],.int .i64 0]) w):=aac (fun W hW=>(CR W hW).mono fun e w' ⟨h1,h2⟩=>⟨by rw[h1,hr];rfl,h2⟩);have HE:=aac (a1w (f:=f) HX.out (hny.trans hr));clear hsp hls hs CR hny hr
        go_wp2_with (first
         | (go_at_call 99;refine(CS.out _).mono ?_;rintro e w1 ⟨rfl,hb⟩;have hB1:=aac (hB.out.trans (hb.mono hB.out.size));have ho1:=aac (aai hO.out hb))
         | (go_at_call 100;refine(CR'.out _ hB1.out).mono ?_;rintro e w2 ⟨rfl,hb2⟩;have hB2:=aac ((hB1.out.trans (hb2.mono hB1.out.size)).alloc (Nat.le_trans hB1.out.size hb2.size) (.cells #[.string xa,.string xb] 47));have hB3:=aac (hB2.out.alloc hB2.out.size (.cells #[.string xa,.string xb] 47));have ho2:=aac (((aai ho1.out hb2).alloc (.cells #[.string xa,.string xb] 47)).alloc (.cells #[.string xa,.string xb] 47));have hnew:=aac (aaM (w2.alloc (.cells #[.string xa,.string xb] 47)) #[.string xa,.string xb] 47);rw[World.size_alloc] at hnew)
         | (at_builtin;refine wpList_append_own _ rfl _ _ 134 rfl w.heap.size 47 i0 (.agg #[.string ⟨#[]⟩,.string ⟨#[]⟩]) 2 32 Tryz.underlying134 hi hz0 hz1 hz2 rfl (by decide) _ m (rwL f) rfl ho2.out ⟨w2.heap.size+1,0,none⟩ 1 1 [.string xa,.string xb] rfl rfl hnew.out (afX xa xb) (by unfold maxLen;omega) (by omega) hB3.out.size ?_;intro v' w4 hown' hgrow hnil;obtain⟨g',cap',rfl⟩:=aas hown';have hO2:=aac hown';have hB6:=aac (hB3.out.grown hgrow hB3.out.size (fun j hj=>(World.ownsRow.lt ho2.out j hj).1));clear hown' hgrow hnil))
        go_roundw;case rel=>exact⟨k+1,m+1,f++[(xa,xb)],by go_num,by omega,by omega,aac (by rw[List.length_append,← HF.out];rfl),aac (by rw[aev];exact hO2.out),hB6,aac (HI.out.trans HE.out)⟩
        case measure=>simp only[intOf];omega
  · have d1:¬ (k:Int) < (K:Int):=(by omega);have HD:Hid (ts.drop k=[]):=aac (List.drop_of_length_le (by rw[← HK.out];omega));go_wp2_with fail;go_ret2
    have hf:alD L [] ts=some f:=by
     rw[HI.out,HD.out];rfl
    refine⟨fun h=> ?_,fun f' hf'=>⟨_,rfl,?_⟩,hB.out⟩
    · rw[hf] at h;cases h
    · rw[hf] at hf';injection hf' with hf'
      subst hf';unfold adC;rw[← HF.out];exact hO.out
end Go.Proofs.YtnomcldpbkinmaaGreatDoor.Nz.Sc
