/- Lemmas of the claim. -/
import Derived.Test.YtnomcldpbkinmaaGreatDoorG29
import Derived.Test.YtnomcldpbkinmaaGreatDoorG07
import Derived.Deep.QuietTactic
import Derived.BigQuiet
import Derived.Deep.RegionHeld3
import Derived.RegionTactic
import Derived.BigRegion
set_option maxHeartbeats 4000000
set_option maxRecDepth 100000
set_option linter.unusedSimpArgs false
set_option linter.unusedVariables false
namespace Go.Proofs.YtnomcldpbkinmaaGreatDoor
open Go.RowKit
def awr (r key:ByteArray)(g:Nat)(r':ByteArray)(ok:Bool):Prop:=∀ W,Gl W→Calls Tryz.prog 162 #[.string r,.string key,.func (.func g) #[] #[]] W (ado r' ok W)
def a2c (r:ByteArray)(b:Bool):Prop:=∀ W,Calls Tryz.prog 90 #[.string r,.slice (some ⟨W.heap.size,0,none⟩) 1 1] (W.alloc (.cells #[.func (.func 91) #[] #[]] 153)) fun e w'=>e=.returned (.bool b)∧Below W.heap.size W w'
def ahB (b:Bool)(w:World)(e:Ending)(w':World):Prop:=e=.returned (.bool b)∧Below w.heap.size w w'
theorem avm (s:ByteArray)(w:World)(C0:Hid (asF s ⟨#[120,109,108]⟩ s false)):Calls Tryz.prog 134 #[.string s] w (ahB false w):=by
 go_enter Tryz.func134,Tryz.ntmps134;go_wp2_with fail;refine(C0.out _).mono ?_;rintro e w1 ⟨rfl,rfl⟩;go_wp2_with fail;go_ret;exact⟨rfl,Below.refl _ _⟩
theorem aud (s r0 r1:ByteArray)(w:World)(hG:Gl w)(C0:Hid (asF s ⟨#[120,109,108]⟩ r0 true))(C1:Hid (awr r0 ⟨#[118,101,114,115,105,111,110]⟩ 163 r1 false)):Calls Tryz.prog 134 #[.string s] w (ahB false w):=by
 have HG:=aac hG;clear hG;go_enter Tryz.func134,Tryz.ntmps134;go_wp2_with fail;refine(C0.out _).mono ?_;rintro e w1 ⟨rfl,rfl⟩;go_wp2_with fail;refine(C1.out _ HG.out).mono ?_;rintro e w2 ⟨rfl,hb⟩;go_wp2_with fail;go_ret;exact⟨rfl,hb⟩
theorem ati (s r0 r1 r2 r3:ByteArray)(o2 o3 b:Bool)(w:World)(hG:Gl w)(C0:Hid (asF s ⟨#[120,109,108]⟩ r0 true))(C1:Hid (awr r0 ⟨#[118,101,114,115,105,111,110]⟩ 163 r1 true))
 (C2:Hid (awr r1 ⟨#[101,110,99,111,100,105,110,103]⟩ 164 r2 o2)) (C3:Hid (awr r2 ⟨#[115,116,97,110,100,97,108,111,110,101]⟩ 165 r3 o3)) (C4:Hid (a2c r3 b)):Calls Tryz.prog 134 #[.string s] w (ahB b w):=by
 have HG:=aac hG;clear hG;go_enter Tryz.func134,Tryz.ntmps134;go_wp2_with fail;refine(C0.out _).mono ?_;rintro e w1 ⟨rfl,rfl⟩;go_wp2_with fail;refine(C1.out _ HG.out).mono ?_;rintro e w2 ⟨rfl,hb2⟩;have HG2:=aac (HG.out.after hb2);go_wp2_with fail;refine(C2.out _ HG2.out).mono ?_;rintro e w3 ⟨rfl,hb3⟩;have HG3:=aac (HG2.out.after hb3);go_wp2_with fail;refine(C3.out _ HG3.out).mono ?_;rintro e w4 ⟨rfl,hb4⟩;go_wp2_with fail;refine(C4.out _).mono ?_;rintro e w5 ⟨rfl,hb5⟩;go_wp2_with fail;go_ret;have h23:=hb2.trans (hb3.mono hb2.size);have h24:=h23.trans (hb4.mono h23.size);exact⟨rfl,h24.trans (hb5.mono h24.size)⟩
theorem aty (n:Nat):∀ (L:List Nat),L.length≤n→(∀ x∈L,x < 256)→((Nz.Rn L).all abf=(ints L).all abf):=by
 induction n with
 | zero=>
   intro L h _;have:L=[]:=List.eq_nil_of_length_eq_zero (by omega);subst this;rfl
 | succ n ih=>
   intro L h hB
   match L,h,hB with
   | [],_,_=>rfl
   | c :: L,h,hB=>
     rw[Nz.adM _ (by simp)];by_cases hc:c < 128
     · rw[Nz.aiZ L c hc];show (abf (c:Int) && (Nz.Rn L).all abf)=(abf (c:Int) && (ints L).all abf);rw[ih L (by simpa using h) fun x hx=>hB x (List.mem_cons_of_mem _ hx)]
     · have e1:abf (c:Int)=false:=by unfold abf;exact decide_eq_false (by unfold Blank;omega)
       have e2:abf ((Nz.dN (c :: L)).1:Int)=false:=by
        have hsz:0 < (ByteArray.mk ((c :: L).map UInt8.ofNat).toArray).size:=by show 0 < ((c :: L).map UInt8.ofNat).toArray.size;simp
        have hbl:Nz.bl (ByteArray.mk ((c :: L).map UInt8.ofNat).toArray)=c :: L:=by
         unfold Nz.bl;simp only[List.map_map]
         have:∀ x∈c :: L,(UInt8.toNat ∘ UInt8.ofNat) x=x:=fun x hx=>by
          have:=hB x hx;simp;omega
         exact(List.map_congr_left this).trans (List.map_id _)
        have:=(aix _ 0 hsz (by rw[hbl];show 128≤c;omega)).1;rw[Nz.acL,hbl,List.drop_zero] at this;unfold abf;exact decide_eq_false (by unfold Blank;omega)
       show (abf ((Nz.dN (c :: L)).1:Int) && _)=(abf (c:Int) && _);rw[e1,e2,Bool.false_and,Bool.false_and]
theorem auk (s:ByteArray):Cz.avP [91] s=(aad s).all abf:=by
 have h1:Cz.avP [91] s=(Cz.runes s).all abf:=by
  unfold Cz.avP
  congr 1
  funext r
  unfold Cz.avU Cz.asJ abf;simp
 have h2:Cz.runes s=Nz.runes s:=afx s _ _
 rw[h1,h2,Nz.afQ,aty _ (Nz.bl s) (Nat.le_refl _) (fun x hx=>by
  unfold Nz.bl at hx;obtain⟨b,_,rfl⟩:=List.mem_map.1 hx;exact b.toNat_lt),← agM]
theorem ani (r:ByteArray):a2c r ((aad r).all abf):=fun W=>by
 have:=Cz.all1 r 91 (.inr rfl) W;rw[auk] at this;exact this
theorem akV (l key:List Int)(okp:List Int→Bool):(orF (afK l key okp) l).length≤l.length∧(Bts l→Bts (orF (afK l key okp) l)):=by
 unfold afK;split
 · exact⟨Nat.le_refl _,id⟩
 · split
   · split
     · exact⟨Nat.le_refl _,id⟩
     · rename_i q r hr;split
       · unfold aeT;split
         · exact⟨Nat.le_refl _,id⟩
         · rename_i n hn;split
           · have h1:=akj l abf;have h2:(q :: r).length≤(l.dropWhile abf).length:=by rw[← hr,List.length_drop];omega
             refine⟨?_,fun hB=> ?_⟩
             · show (r.drop (n+1)).length≤l.length;rw[List.length_drop];simp only[List.length_cons] at h2;omega
             · show Bts (r.drop (n+1));have:=(hB.a1Z abf).drop (key.length+1);rw[hr] at this;exact this.tail.drop _
           · exact⟨Nat.le_refl _,id⟩
       · exact⟨Nat.le_refl _,id⟩
   · exact⟨Nat.le_refl _,id⟩
theorem aiX (r key:ByteArray)(g:Nat)(hg:g=163∨g=164∨g=165)(okp:List Int→Bool)(hok:∀ V:ByteArray,V.size≤10000→OkF g V (okp (aad V)))(hr:r.size≤10000)(hk:key.size≤100):
 awr r key g (strOfNums (orF (afK (aad r) (aad key) okp) (aad r))) (afK (aad r) (aad key) okp).isSome:=fun W hW=>alX r key g hg okp hok W hW hr hk
theorem asN (s:ByteArray)(w:World)(hs:s.size≤10000)(hG:Gl w):Calls Tryz.prog 134 #[.string s] w (ahB (ajN (aad s)) w):=by
 unfold ajN;by_cases h0:agx.isPrefixOf (aad s)=true
 · have C0:asF s ⟨#[120,109,108]⟩ (strOfNums ((aad s).drop 3)) true:=fun W=>afr s ⟨#[120,109,108]⟩ W h0;have hB:=(acO s).drop 3;have hl:((aad s).drop 3).length≤10000:=by rw[List.length_drop,aae];omega
   rw[h0,Bool.true_and];generalize (aad s).drop 3=r0 at *;have C1:=aiX (strOfNums r0) ⟨#[118,101,114,115,105,111,110]⟩ 163 (.inl rfl) abn (fun V hV=>a4p V hV) (by rw[aci];omega) (by decide);rw[hB.str] at C1;have C1':awr (strOfNums r0) ⟨#[118,101,114,115,105,111,110]⟩ 163 (strOfNums (orF (afK r0 acJ abn) r0)) (afK r0 acJ abn).isSome:=C1;have l1:=akV r0 acJ abn;unfold air
   cases hv:afK r0 acJ abn with
   | none=>
     rw[hv] at C1';exact aud s _ _ w hG (aac C0) (aac C1')
   | some r1=>
     rw[hv] at C1' l1;have hB1:Bts r1:=l1.2 hB;have hl1:r1.length≤10000:=Nat.le_trans l1.1 hl;have C2:=aiX (strOfNums r1) ⟨#[101,110,99,111,100,105,110,103]⟩ 164 (.inr (.inl rfl)) aaW (fun V hV=>a4u V hV) (by rw[aci];omega) (by decide);rw[hB1.str] at C2;have C2':awr (strOfNums r1) ⟨#[101,110,99,111,100,105,110,103]⟩ 164 (strOfNums (orF (afK r1 abX aaW) r1)) (afK r1 abX aaW).isSome:=C2;have l2:=akV r1 abX aaW;have hB2:=l2.2 hB1;have hl2:=Nat.le_trans l2.1 hl1;show Calls _ _ _ _ (ahB (a2h (orF (afK r1 abX aaW) r1)) w);generalize orF (afK r1 abX aaW) r1=r2 at *;have C3:=aiX (strOfNums r2) ⟨#[115,116,97,110,100,97,108,111,110,101]⟩ 165 (.inr (.inr rfl)) aaH (fun V hV=>a4j V hV) (by rw[aci];omega) (by decide);rw[hB2.str] at C3;have C3':awr (strOfNums r2) ⟨#[115,116,97,110,100,97,108,111,110,101]⟩ 165 (strOfNums (orF (afK r2 abI aaH) r2)) (afK r2 abI aaH).isSome:=C3;have hB3:=(akV r2 abI aaH).2 hB2;have C4:=ani (strOfNums (orF (afK r2 abI aaH) r2));rw[hB3.str] at C4;exact ati s _ _ _ _ _ _ _ w hG (aac C0) (aac C1') (aac C2') (aac C3') (aac C4)
 · have h0':agx.isPrefixOf (aad s)=false:=Bool.eq_false_iff.2 h0;rw[h0',Bool.false_and];exact avm s w (aac fun W=>agA s ⟨#[120,109,108]⟩ W h0')
end Go.Proofs.YtnomcldpbkinmaaGreatDoor
namespace Go.Proofs.YtnomcldpbkinmaaGreatDoor
open Go.RowKit
def a0C (s:ByteArray)(x:Int):Prop:=∀ W,Calls Tryz.prog 132 #[.string s,.func (.func 91) #[] #[]] W fun e w'=>e=.returned (.int .i64 x)∧Below W.heap.size W w'
def PlC (t:ByteArray)(b:Bool):Prop:=∀ W,Calls Tryz.prog 125 #[.string t] W fun e w'=>e=.returned (.bool b)∧Below W.heap.size W w'
def FoC (t:ByteArray)(b:Bool):Prop:=∀ W,Gl W→Calls Tryz.prog 133 #[.string t,.string ⟨#[120,109,108]⟩] W fun e w'=>e=.returned (.bool b)∧Below W.heap.size W w'
def DeC (s:ByteArray)(b:Bool):Prop:=∀ W,Gl W→Calls Tryz.prog 134 #[.string s] W (ahB b W)
def Tgt (s t:ByteArray)(x:Int):Prop:=(x= -1∧t=s)∨∃ k:Nat,x=k∧k < s.size∧t=s.extract 0 k
theorem aeG {w w1 w2:World}(hb1:Below (w.alloc (.cells #[.int .i64 0,.string ⟨#[]⟩,.bool false,.bool false] 42)).heap.size (w.alloc (.cells #[.int .i64 0,.string ⟨#[]⟩,.bool false,.bool false] 42)) w1)(hb2:Below w1.heap.size w1 w2):
 w.heap.size < w1.heap.size∧w.heap.size < w2.heap.size∧Below w.heap.size w w2∧aiF w2 w.heap.size:=by
 have hz1:w.heap.size < w1.heap.size:=by have:=hb1.size;simp at this;omega
 have hb:=((Below.refl w.heap.size w).alloc (Nat.le_refl _) (.cells #[.int .i64 0,.string ⟨#[]⟩,.bool false,.bool false] 42)).trans (hb1.mono (by simp));exact⟨hz1,Nat.lt_of_lt_of_le hz1 hb2.size,hb.trans (hb2.mono hb.size),((acd w).keep hb1 (by simp)).keep hb2 hz1⟩
theorem aaq {w w2 w3:World}(h:w.heap.size < w2.heap.size∧Below w.heap.size w w2∧aiF w2 w.heap.size)(hb3:Below w2.heap.size w2 w3):w.heap.size < w3.heap.size∧Below w.heap.size w w3∧aiF w3 w.heap.size:=
 ⟨Nat.lt_of_lt_of_le h.1 hb3.size,h.2.1.trans (hb3.mono h.2.1.size),h.2.2.keep hb3 h.1⟩
theorem ayt (s t:ByteArray)(x at_:Int)(w:World)(hs:s.size≤10000)(ht:Tgt s t x)(C1:Hid (a0C s x))(C2:Hid (PlC t false)):Calls Tryz.prog 107 #[.string s,.int .i64 at_] w (aaQ (T0,4) w):=by
 rcases ht with ⟨rfl,rfl⟩ | ⟨k,rfl,hk,rfl⟩
 all_goals
  go_enter Tryz.func107,Tryz.ntmps107;go_wp2_with fail;refine(C1.out _).mono ?_;rintro e w1 ⟨rfl,hb1⟩;go_wp2_with fail;refine(C2.out _).mono ?_;rintro e w2 ⟨rfl,hb2⟩;obtain⟨hz1,hz2,hb,⟨c0,c1,c2,c3,f0,f1,f2,f3⟩⟩:=aeG hb1 hb2;have HB:=aac hb;clear hb1 hb2 hb;go_wp2_with fail;exact bodyPost_ret (v:=.tuple #[tkV T0,.int .i64 4]) (by rw[tk0];simp[results,Tryz.results107,go_sem,c0,c1,c2,c3,hz2]) rfl ⟨rfl,aag HB.out (Nat.le_refl _) _ _ _ _⟩
theorem aog (s t:ByteArray)(x at_:Int)(w:World)(hG:Gl w)(hs:s.size≤10000)(ht:Tgt s t x)(C1:Hid (a0C s x))(C2:Hid (PlC t true))(C3:Hid (FoC t false)):Calls Tryz.prog 107 #[.string s,.int .i64 at_] w (aaQ (⟨5,aad s,false,false⟩,0) w):=by
 have HG:=aac (hG.alloc (.cells #[.int .i64 0,.string ⟨#[]⟩,.bool false,.bool false] 42));clear hG;rcases ht with ⟨rfl,rfl⟩ | ⟨k,rfl,hk,rfl⟩
 all_goals
  go_enter Tryz.func107,Tryz.ntmps107;go_wp2_with fail;refine(C1.out _).mono ?_;rintro e w1 ⟨rfl,hb1⟩;go_wp2_with fail;refine(C2.out _).mono ?_;rintro e w2 ⟨rfl,hb2⟩;have HG2:=aac ((HG.out.after hb1).after hb2);have h3:=(aeG hb1 hb2).2;go_wp2_with fail;refine(C3.out _ HG2.out).mono ?_;rintro e w3 ⟨rfl,hb3⟩;obtain⟨hz2,hb,⟨c0,c1,c2,c3,f0,f1,f2,f3⟩⟩:=aaq h3 hb3;have HB:=aac hb;clear hb1 hb2 hb3 hb h3;go_wp2_with fail;exact bodyPost_ret (v:=.tuple #[tkV ⟨5,aad _,false,false⟩,.int .i64 0]) (by unfold tkV;rw[abe];simp[results,Tryz.results107,go_sem,c0,c1,c2,c3,hz2]) rfl ⟨rfl,aag HB.out (Nat.le_refl _) _ _ _ _⟩
theorem avs (s t:ByteArray)(x at_:Int)(w:World)(hG:Gl w)(hs:s.size≤10000)(hat:at_≠0)(ht:Tgt s t x)(C1:Hid (a0C s x))(C2:Hid (PlC t true))(C3:Hid (FoC t true)):Calls Tryz.prog 107 #[.string s,.int .i64 at_] w (aaQ (T0,12) w):=by
 have HG:=aac (hG.alloc (.cells #[.int .i64 0,.string ⟨#[]⟩,.bool false,.bool false] 42));have t1:(at_ != 0)=true:=by rw[bne_iff_ne];exact hat
 clear hG hat;rcases ht with ⟨rfl,rfl⟩ | ⟨k,rfl,hk,rfl⟩
 all_goals
  go_enter Tryz.func107,Tryz.ntmps107;go_wp2_with fail;refine(C1.out _).mono ?_;rintro e w1 ⟨rfl,hb1⟩;go_wp2_with fail;refine(C2.out _).mono ?_;rintro e w2 ⟨rfl,hb2⟩;have HG2:=aac ((HG.out.after hb1).after hb2);have h3:=(aeG hb1 hb2).2;go_wp2_with fail;refine(C3.out _ HG2.out).mono ?_;rintro e w3 ⟨rfl,hb3⟩;obtain⟨hz2,hb,⟨c0,c1,c2,c3,f0,f1,f2,f3⟩⟩:=aaq h3 hb3;have HB:=aac hb;clear hb1 hb2 hb3 hb h3;go_wp2_with fail;exact bodyPost_ret (v:=.tuple #[tkV T0,.int .i64 12]) (by rw[tk0];simp[results,Tryz.results107,go_sem,c0,c1,c2,c3,hz2]) rfl ⟨rfl,aag HB.out (Nat.le_refl _) _ _ _ _⟩
theorem asi (s t:ByteArray)(x:Int)(b:Bool)(w:World)(hG:Gl w)(hs:s.size≤10000)(ht:Tgt s t x)(C1:Hid (a0C s x))(C2:Hid (PlC t true))(C3:Hid (FoC t true))(C4:Hid (DeC s b)):
 Calls Tryz.prog 107 #[.string s,.int .i64 0] w (aaQ (if b=true then (⟨5,aad s,false,false⟩,0) else (T0,12)) w):=by
 have HG:=aac (hG.alloc (.cells #[.int .i64 0,.string ⟨#[]⟩,.bool false,.bool false] 42));clear hG;cases b
 · simp only[Bool.false_eq_true,if_false];rcases ht with ⟨rfl,rfl⟩ | ⟨k,rfl,hk,rfl⟩
   all_goals
    go_enter Tryz.func107,Tryz.ntmps107;go_wp2_with fail;refine(C1.out _).mono ?_;rintro e w1 ⟨rfl,hb1⟩;go_wp2_with fail;refine(C2.out _).mono ?_;rintro e w2 ⟨rfl,hb2⟩;have HG2:=aac ((HG.out.after hb1).after hb2);have h3:=(aeG hb1 hb2).2;go_wp2_with fail;refine(C3.out _ HG2.out).mono ?_;rintro e w3 ⟨rfl,hb3⟩;have h4:=aaq h3 hb3;have HG3:=aac (HG2.out.after hb3);go_wp2_with fail;refine(C4.out _ HG3.out).mono ?_;rintro e w4 ⟨rfl,hb4⟩;obtain⟨hz2,hb,⟨c0,c1,c2,c3,f0,f1,f2,f3⟩⟩:=aaq h4 hb4;have HB:=aac hb;clear hb1 hb2 hb3 hb4 hb h3 h4;go_wp2_with fail;exact bodyPost_ret (v:=.tuple #[tkV T0,.int .i64 12]) (by rw[tk0];simp[results,Tryz.results107,go_sem,c0,c1,c2,c3,hz2]) rfl ⟨rfl,aag HB.out (Nat.le_refl _) _ _ _ _⟩
 · simp only[if_true];rcases ht with ⟨rfl,rfl⟩ | ⟨k,rfl,hk,rfl⟩
   all_goals
    go_enter Tryz.func107,Tryz.ntmps107;go_wp2_with fail;refine(C1.out _).mono ?_;rintro e w1 ⟨rfl,hb1⟩;go_wp2_with fail;refine(C2.out _).mono ?_;rintro e w2 ⟨rfl,hb2⟩;have HG2:=aac ((HG.out.after hb1).after hb2);have h3:=(aeG hb1 hb2).2;go_wp2_with fail;refine(C3.out _ HG2.out).mono ?_;rintro e w3 ⟨rfl,hb3⟩;have h4:=aaq h3 hb3;have HG3:=aac (HG2.out.after hb3);go_wp2_with fail;refine(C4.out _ HG3.out).mono ?_;rintro e w4 ⟨rfl,hb4⟩;obtain⟨hz2,hb,⟨c0,c1,c2,c3,f0,f1,f2,f3⟩⟩:=aaq h4 hb4;have HB:=aac hb;clear hb1 hb2 hb3 hb4 hb h3 h4;go_wp2_with fail;exact bodyPost_ret (v:=.tuple #[tkV ⟨5,aad _,false,false⟩,.int .i64 0]) (by unfold tkV;rw[abe];simp[results,Tryz.results107,go_sem,c0,c1,c2,c3,hz2]) rfl ⟨rfl,aag HB.out (Nat.le_refl _) _ _ _ _⟩
theorem agE (s:ByteArray):aiy (aad s)=Nz.bl s:=by
 unfold aiy aad Nz.bl;rw[List.map_map];exact List.map_congr_left fun x _=>by simp
theorem auY (t:ByteArray)(ht:t.size≤10000):FoC t (decide (aau (aad t)=agx)):=fun W hW=>by
 have C:=anm t ⟨#[120,109,108]⟩ W (by omega) (by decide) (fun j hj=>by
  have hj':j < 3:=hj;rcases(show j=0∨j=1∨j=2 by omega) with rfl | rfl | rfl;all_goals (unfold FO;decide)) hW
 have e:aau (aad ⟨#[120,109,108]⟩)=agx:=(by decide);rw[e] at C;exact C
theorem aui (s:ByteArray)(at_:Int)(w:World)(hs:s.size≤10000)(hG:Gl w):Calls Tryz.prog 107 #[.string s,.int .i64 at_] w (aaQ (aee (decide (at_=0)) (aad s)) w):=by
 obtain⟨t,x,ht,hb,C1⟩:∃ t x,Tgt s t x∧aad t=tgt (aad s)∧a0C s x:=by
  rcases apb s with ⟨h1,h2⟩ | ⟨k,h1,h2,h3⟩
  · exact⟨s,-1,.inl ⟨rfl,rfl⟩,h2.symm,fun W=>by have:=agf s W;rw[h1] at this;exact this⟩
  · refine⟨s.extract 0 k,k,.inr ⟨k,rfl,h2,rfl⟩,?_,fun W=>by have:=agf s W;rw[h1] at this;exact this⟩;rw[aal,h3,List.drop_zero]
 have hts:t.size≤10000:=by
  rw[← aae,hb];unfold tgt;have:=(List.takeWhile_prefix (fun c=> !abf c) (l:=aad s)).length_le;rw[aae] at this;omega
 have C2:PlC t (plB (tgt (aad s))):=fun W=>by
  have:=Nz.adg t W;unfold plB;rw[← hb,agE];exact this
 have C3:=auY t hts;rw[hb] at C3;have C4:DeC s (ajN (aad s)):=fun W hW=>asN s W hs hW;unfold aee
 cases hp:plB (tgt (aad s)) with
 | false=>
   rw[hp] at C2;exact ayt s t x at_ w hs ht (aac C1) (aac C2)
 | true=>
   rw[hp] at C2;rw[if_neg (by simp)];by_cases hf:aau (tgt (aad s))=agx
   · rw[decide_eq_true hf] at C3;by_cases ha:at_=0
     · subst ha;have h:=asi s t x _ w hG hs ht (aac C1) (aac C2) (aac C3) (aac C4)
       cases hd:ajN (aad s) with
       | true=>
         rw[hd] at h;rw[if_neg (by simp)];exact h
       | false=>
         rw[hd] at h;rw[if_pos ⟨hf,.inr rfl⟩];exact h
     · rw[if_pos ⟨hf,.inl (decide_eq_false ha)⟩];exact avs s t x at_ w hG hs ha ht (aac C1) (aac C2) (aac C3)
   · rw[decide_eq_false hf] at C3;rw[if_neg (fun h=>hf h.1)];exact aog s t x at_ w hG hs ht (aac C1) (aac C2) (aac C3)
end Go.Proofs.YtnomcldpbkinmaaGreatDoor
namespace Go.Proofs.YtnomcldpbkinmaaGreatDoor
open Go.RowKit
theorem below_drewN' {B:Nat}{w w':World}(h:Below B w w')(n:Nat):Below B w (w'.drewN n):=⟨h.os,h.tape,h.output,h.size,h.block⟩
theorem azL (m l:List Int): -1≤aiQ m l∧aiQ m l≤l.length:=by
 cases h:fnd m l with
 | none=>rw[acW h];omega
 | some n=>rw[acy h];have:=(abG h).1;omega
def akQ (a b:Int)(ok:Bool)(w:World)(e:Ending)(w':World):Prop:=e=.returned (.tuple #[.int .i64 a,.int .i64 b,.bool ok])∧Below w.heap.size w w'
theorem ayU (r m:ByteArray)(b:Nat)(x:Int)(ok:Bool)(w:World)(hm:m.size≤100)(hx: -1≤x)(hx2:x≤1000000)(hok:decide (0≤x)=ok)(hc:w.cell? ⟨b,0,none⟩=some (.string m))
 (C:Hid (Calls Tryz.prog 86 #[.string r,.string m] w fun e w'=>e=.returned (.int .i64 x)∧w=w')):
 Calls Tryz.prog 128 #[.string r,.pointer (some ⟨b,0,none⟩)] w (akQ x (x+m.size) ok w):=by
 have q2:IntKind.i64.wrap (x+(m.size:Int))=x+(m.size:Int):=IntWalk.i64_in _ (by omega);go_enter Tryz.func128,Tryz.ntmps128;go_wp2_with fail;refine C.out.mono ?_;rintro e w1 ⟨rfl,rfl⟩;go_wp2_with fail;go_quiet (fail);go_wp2_with fail;go_ret3;exact⟨by cases hok;rfl,below_drewN' (Below.refl _ _) _⟩
theorem atZ (r m:ByteArray)(b:Nat)(w:World)(hr:r.size≤10000)(hm:m.size≤100)(hc:w.cell? ⟨b,0,none⟩=some (.string m))(hG:Gl w):
 Calls Tryz.prog 128 #[.string r,.pointer (some ⟨b,0,none⟩)] w (akQ (aiQ (aad m) (aad r)) (aiQ (aad m) (aad r)+m.size) (decide (0≤aiQ (aad m) (aad r))) w):=by
 have h:=azL (aad m) (aad r);rw[aae] at h;exact ayU r m b _ _ w hm h.1 (by omega) rfl hc (aac (ajz r m w (by omega) hG))
def a2P (s:ByteArray)(qv i:Value):Prop:=
 ∃ (k:Nat) (q:Int),k≤s.size∧0≤q∧q < 256∧qv=.int .u8 q∧i=.int .i64 k∧unq 0 (aad s)=(unq q ((aad s).drop k)).map (· +k)
theorem aea (o:Option Nat)(k:Nat):(o.map (· +1)).map (· +k)=o.map (· +(k+1)):=by
 cases o with
 | none=>rfl
 | some n=>simp only[Option.map_some];congr 1;omega
theorem amm (L:List Int)(q:Int)(k:Nat)(h:k < L.length):
 unq q (L.drop k)=if q≠0 then (unq (if L.getD k 0=q then 0 else q) (L.drop (k+1))).map (· +1) else if L.getD k 0=34∨L.getD k 0=39 then (unq (L.getD k 0) (L.drop (k+1))).map (· +1) else if L.getD k 0=62 then some 0 else (unq 0 (L.drop (k+1))).map (· +1):=by
 rw[List.drop_eq_getElem_cons h,List.getD_eq_getElem?_getD,List.getElem?_eq_getElem h,Option.getD_some];rfl
def anU (o:Option Nat)(w:World)(e:Ending)(w':World):Prop:=e=.returned (.tuple #[.int .i64 (match o with | some n=>(n:Int) | none=>0),.int .i64 (match o with | some n=>((n+1:Nat):Int) | none=>0),.bool o.isSome])∧w=w'
theorem axd {o:Option Nat}{n:Nat}{w w':World}{e:Ending}(h:o=some n)(he:e=.returned (.tuple #[.int .i64 (n:Int),.int .i64 ((n:Int)+1),.bool true]))(hw:w=w'):anU o w e w':=by
 subst h;exact⟨by rw[he];rfl,hw⟩
theorem axx {o:Option Nat}{w w':World}{e:Ending}(h:o=none)(he:e=.returned (.tuple #[.int .i64 0,.int .i64 0,.bool false]))(hw:w=w'):anU o w e w':=by
 subst h;exact⟨he,hw⟩
theorem ajF (s:ByteArray)(w:World)(hs:s.size≤1000000):Calls Tryz.prog 109 #[.string s] w (anU (unq 0 (aad s)) w):=by
 go_enter Tryz.func109,Tryz.ntmps109;go_wp2_with fail;go_loop [5,10] (fun q i=>a2P s q i) (fun _ i=>s.size - (intOf i).toNat);case atStart=>exact⟨0,0,Nat.zero_le _,by omega,by omega,rfl,rfl,by simp⟩
 case round=>
  obtain⟨k,q,hk,hq0,hq1,rfl,rfl,hu⟩:=hrel;by_cases hlt:k < s.size
  · have hb:=afv s k hlt;have hb0:=afI s k;have hb1:=ahA s k;have hstep:=amm (aad s) q k (by rw[aae];exact hlt);rw[← abx] at hstep;rw[hstep] at hu;clear hstep;have hk1:(k:Int) < (s.size:Int):=(by omega);generalize bt s k=c at *;by_cases hqz:q=0
    · subst hqz;rw[if_neg (by omega)] at hu;by_cases h1:c=34∨c=39
      · rw[if_pos h1,aea] at hu;have HU:=aac hu;clear hu;rcases h1 with h1 | h1
        all_goals
         have t1:(c == 34)=decide (c=34):=by rw[Bool.eq_iff_iff];simp
         subst h1;go_wp2_with fail;go_round;case rel=>exact⟨k+1,_,by omega,by omega,by omega,rfl,by go_num,HU.out⟩
         case measure=>simp only[intOf];omega
      · rw[if_neg h1] at hu;have t1:(c == 34)=false:=by rw[beq_eq_false_iff_ne];omega
        have t2:(c == 39)=false:=by rw[beq_eq_false_iff_ne];omega
        by_cases h2:c=62
        · rw[if_pos h2] at hu;have HU:=aac hu;clear hu;subst h2;go_wp2_with fail;go_ret3;exact axd (n:=k) (by rw[HU.out];simp) rfl rfl
        · rw[if_neg h2,aea] at hu;have HU:=aac hu;clear hu;have t3:(c == 62)=false:=by rw[beq_eq_false_iff_ne];omega
          go_wp2_with fail;go_round;case rel=>exact⟨k+1,0,by omega,by omega,by omega,rfl,by go_num,HU.out⟩
          case measure=>simp only[intOf];omega
    · rw[if_pos hqz,aea] at hu;have t0:(q == 0)=false:=by rw[beq_eq_false_iff_ne];exact hqz
      have t0':(q != 0)=true:=by rw[bne_iff_ne];exact hqz
      by_cases h1:c=q
      · rw[if_pos h1] at hu;have HU:=aac hu;clear hu;have t1:(c == q)=true:=by rw[beq_iff_eq];exact h1
        go_wp2_with fail;go_round;case rel=>exact⟨k+1,0,by omega,by omega,by omega,rfl,by go_num,HU.out⟩
        case measure=>simp only[intOf];omega
      · rw[if_neg h1] at hu;have HU:=aac hu;clear hu;have t1:(c == q)=false:=by rw[beq_eq_false_iff_ne];exact h1
        go_wp2_with fail;go_round;case rel=>exact⟨k+1,q,by omega,by omega,by omega,rfl,by go_num,HU.out⟩
        case measure=>simp only[intOf];omega
  · have hkk:k=s.size:=(by omega);rw[hkk,List.drop_of_length_le (by rw[aae];omega)] at hu;have HU:=aac hu;clear hu;have hk1:¬ (k:Int) < (s.size:Int):=(by omega);go_wp2_with fail;go_ret3;exact axx (by rw[HU.out];simp[unq]) rfl rfl
end Go.Proofs.YtnomcldpbkinmaaGreatDoor
namespace Go.Proofs.YtnomcldpbkinmaaGreatDoor
open Go.RowKit
def aaI (x:Tk × Nat × Int)(w:World)(e:Ending)(w':World):Prop:=
 ∃ (t:Tk) (n:Int),e=.returned (.tuple #[tkV t,.int .i64 n,.int .i64 x.2.2])∧(x.2.2=0→t=x.1∧n=x.2.1)∧Below w.heap.size w w'
theorem acQ (w:World)(a b c:Value):aiF ((w.alloc (.cells #[a,b,c] 145)).alloc (.cells #[.int .i64 0,.string ⟨#[]⟩,.bool false,.bool false] 42)) (w.heap.size+1):=by
 have:=acd (w.alloc (.cells #[a,b,c] 145));rw[show (w.alloc (.cells #[a,b,c] 145)).heap.size=w.heap.size+1 by simp] at this;exact this
theorem abF (w:World)(a b c:Value):Below w.heap.size w ((w.alloc (.cells #[a,b,c] 145)).alloc (.cells #[.int .i64 0,.string ⟨#[]⟩,.bool false,.bool false] 42)):=
 ((Below.refl w.heap.size w).alloc (Nat.le_refl _) _).alloc (by simp) _
theorem adf (w:World)(a b c:Value):((w.alloc (.cells #[a,b,c] 145)).alloc (.cells #[.int .i64 0,.string ⟨#[]⟩,.bool false,.bool false] 42)).cell? ⟨w.heap.size,0,none⟩=some a∧
 ((w.alloc (.cells #[a,b,c] 145)).alloc (.cells #[.int .i64 0,.string ⟨#[]⟩,.bool false,.bool false] 42)).cell? ⟨w.heap.size,1,none⟩=some b∧((w.alloc (.cells #[a,b,c] 145)).alloc (.cells #[.int .i64 0,.string ⟨#[]⟩,.bool false,.bool false] 42)).cell? ⟨w.heap.size,2,none⟩=some c:=by
 refine⟨?_,?_,?_⟩;all_goals simp[go_sem]
theorem aiF.drew {w:World}{B:Nat}(h:aiF w B):aiF w.drew B:=⟨h.c0,h.c1,h.c2,h.c3,h.f0,h.f1,h.f2,h.f3⟩
theorem afk {w3:World}{b o:Nat}{v:Value}(h:w3.cell? ⟨b,o,none⟩=some v)(x:Obj):(w3.alloc x).cell? ⟨b,o,none⟩=some v:=
 (((Below.refl w3.heap.size w3).alloc (Nat.le_refl _) x).cell (p:=⟨b,o,none⟩) (Lib.lt_of_cell h)).trans h
theorem afH {w3:World}{b o B:Nat}{v:Value}(h:w3.cell? ⟨b,o,none⟩=some v)(hB:b < B)(x0 x1 x2 x3:Value):
 ((((w3.setCell ⟨B,0,none⟩ x0).setCell ⟨B,1,none⟩ x1).setCell ⟨B,2,none⟩ x2).setCell ⟨B,3,none⟩ x3).cell? ⟨b,o,none⟩=some v:=
 ((aag (Below.refl B w3) (Nat.le_refl _) x0 x1 x2 x3).cell (p:=⟨b,o,none⟩) hB).trans h
def ajo (w:World)(f:Nat)(args:Array Value)(a b:Int)(ok:Bool):Prop:=∀ W,Below w.heap.size w W→Gl W→Calls Tryz.prog f args W (akQ a b ok W)
def SoC (s:ByteArray)(er:Int):Prop:=∀ W,Calls Tryz.prog 87 #[.string s] W fun e w'=>e=.returned (.int .i64 er)∧Below W.heap.size W w'
def RdC (w:World)(f:Nat)(args:Array Value)(kd:Int)(tx:ByteArray)(em bk:Bool)(er:Int):Prop:=
 ∀ W,Below w.heap.size w W→Gl W→Calls Tryz.prog f args W fun e w'=>e=.returned (.tuple #[.agg #[.int .i64 kd,.string tx,.bool em,.bool bk],.int .i64 er])∧Below W.heap.size W w'
theorem apO (bg r:ByteArray)(b:Nat)(rd:Value)(at_ a c:Int)(w:World)(hG:Gl w)(C1:Hid (ajo w 128 #[.string r,.pointer (some ⟨b,0,none⟩)] a c false)):
 Calls Tryz.prog 84 #[.agg #[.string bg,.func (.func 128) #[] #[.pointer (some ⟨b,0,none⟩)],rd],.string r,.int .i64 at_] w (aaI (T0,0,7) w):=by
 have HB:=aac (abF w (.string bg) (.func (.func 128) #[] #[.pointer (some ⟨b,0,none⟩)]) rd);have HG:=aac (hG.after HB.out);have HN:=aac (acQ w (.string bg) (.func (.func 128) #[] #[.pointer (some ⟨b,0,none⟩)]) rd);clear hG;go_enter Tryz.func84,Tryz.ntmps84;go_wp2_with fail;refine(C1.out _ HB.out HG.out).mono ?_;rintro e w1 ⟨rfl,hb1⟩;have hz:w.heap.size+1 < w1.heap.size:=by have:=hb1.size;simp at this;omega
 have HB1:=aac (HB.out.trans (hb1.mono (by simp;omega)));obtain⟨c0,c1,c2,c3,f0,f1,f2,f3⟩:=HN.out.keep hb1 (by simp);clear hb1;go_wp2_with fail;exact bodyPost_ret (v:=.tuple #[tkV T0,.int .i64 0,.int .i64 7]) (by rw[tk0];simp[results,Tryz.results84,go_sem,c0,c1,c2,c3,hz]) rfl ⟨T0,0,rfl,fun _=>⟨rfl,rfl⟩,aag HB1.out (by omega) _ _ _ _⟩
theorem asD (bg r:ByteArray)(b:Nat)(rd:Value)(at_ a er:Int)(m:Nat)(w:World)(hr:r.size≤10000)(hm:m≤r.size)(her:er≠0)(hG:Gl w)(C1:Hid (ajo w 128 #[.string r,.pointer (some ⟨b,0,none⟩)] a m true))(C2:Hid (SoC (r.extract 0 m) er)):
 Calls Tryz.prog 84 #[.agg #[.string bg,.func (.func 128) #[] #[.pointer (some ⟨b,0,none⟩)],rd],.string r,.int .i64 at_] w (aaI (T0,0,er) w):=by
 have HB:=aac (abF w (.string bg) (.func (.func 128) #[] #[.pointer (some ⟨b,0,none⟩)]) rd);have HG:=aac (hG.after HB.out);have HN:=aac (acQ w (.string bg) (.func (.func 128) #[] #[.pointer (some ⟨b,0,none⟩)]) rd);have t1:(er != 0)=true:=by rw[bne_iff_ne];exact her
 clear hG her;go_enter Tryz.func84,Tryz.ntmps84;go_wp2_with fail;refine(C1.out _ HB.out HG.out).mono ?_;rintro e w1 ⟨rfl,hb1⟩;have hz:w.heap.size+1 < w1.heap.size:=by have:=hb1.size;simp at this;omega
 have HB1:=aac (HB.out.trans (hb1.mono (by simp;omega)));have HN1:=aac (HN.out.keep hb1 (by simp));clear hb1;go_wp2_with fail;refine(C2.out _).mono ?_;rintro e w2 ⟨rfl,hb2⟩;have hz2:w.heap.size+1 < w2.heap.size:=Nat.lt_of_lt_of_le hz hb2.size;have HB2:=aac (HB1.out.trans (hb2.mono HB1.out.size));obtain⟨c0,c1,c2,c3,f0,f1,f2,f3⟩:=HN1.out.keep hb2 hz;clear hb2;go_wp2_with fail;exact bodyPost_ret (v:=.tuple #[tkV T0,.int .i64 0,.int .i64 er]) (by rw[tk0];simp[results,Tryz.results84,go_sem,c0,c1,c2,c3,hz2]) rfl ⟨T0,0,rfl,fun _=>⟨rfl,rfl⟩,aag HB2.out (by omega) _ _ _ _⟩
theorem asw (bg r:ByteArray)(rd:Value)(at_ a c:Int)(w:World)(hG:Gl w)(C1:Hid (ajo w 109 #[.string r] a c false)):
 Calls Tryz.prog 84 #[.agg #[.string bg,.func (.func 109) #[] #[],rd],.string r,.int .i64 at_] w (aaI (T0,0,7) w):=by
 have HB:=aac (abF w (.string bg) (.func (.func 109) #[] #[]) rd);have HG:=aac (hG.after HB.out);have HN:=aac (acQ w (.string bg) (.func (.func 109) #[] #[]) rd);clear hG;go_enter Tryz.func84,Tryz.ntmps84;go_wp2_with fail;refine(C1.out _ HB.out HG.out).mono ?_;rintro e w1 ⟨rfl,hb1⟩;have hz:w.heap.size+1 < w1.heap.size:=by have:=hb1.size;simp at this;omega
 have HB1:=aac (HB.out.trans (hb1.mono (by simp;omega)));obtain⟨c0,c1,c2,c3,f0,f1,f2,f3⟩:=HN.out.keep hb1 (by simp);clear hb1;go_wp2_with fail;exact bodyPost_ret (v:=.tuple #[tkV T0,.int .i64 0,.int .i64 7]) (by rw[tk0];simp[results,Tryz.results84,go_sem,c0,c1,c2,c3,hz]) rfl ⟨T0,0,rfl,fun _=>⟨rfl,rfl⟩,aag HB1.out (by omega) _ _ _ _⟩
theorem arh (bg r:ByteArray)(rd:Value)(at_ a er:Int)(m:Nat)(w:World)(hr:r.size≤10000)(hm:m≤r.size)(her:er≠0)(hG:Gl w)(C1:Hid (ajo w 109 #[.string r] a m true))(C2:Hid (SoC (r.extract 0 m) er)):
 Calls Tryz.prog 84 #[.agg #[.string bg,.func (.func 109) #[] #[],rd],.string r,.int .i64 at_] w (aaI (T0,0,er) w):=by
 have HB:=aac (abF w (.string bg) (.func (.func 109) #[] #[]) rd);have HG:=aac (hG.after HB.out);have HN:=aac (acQ w (.string bg) (.func (.func 109) #[] #[]) rd);have t1:(er != 0)=true:=by rw[bne_iff_ne];exact her
 clear hG her;go_enter Tryz.func84,Tryz.ntmps84;go_wp2_with fail;refine(C1.out _ HB.out HG.out).mono ?_;rintro e w1 ⟨rfl,hb1⟩;have hz:w.heap.size+1 < w1.heap.size:=by have:=hb1.size;simp at this;omega
 have HB1:=aac (HB.out.trans (hb1.mono (by simp;omega)));have HN1:=aac (HN.out.keep hb1 (by simp));clear hb1;go_wp2_with fail;refine(C2.out _).mono ?_;rintro e w2 ⟨rfl,hb2⟩;have hz2:w.heap.size+1 < w2.heap.size:=Nat.lt_of_lt_of_le hz hb2.size;have HB2:=aac (HB1.out.trans (hb2.mono HB1.out.size));obtain⟨c0,c1,c2,c3,f0,f1,f2,f3⟩:=HN1.out.keep hb2 hz;clear hb2;go_wp2_with fail;exact bodyPost_ret (v:=.tuple #[tkV T0,.int .i64 0,.int .i64 er]) (by rw[tk0];simp[results,Tryz.results84,go_sem,c0,c1,c2,c3,hz2]) rfl ⟨T0,0,rfl,fun _=>⟨rfl,rfl⟩,aag HB2.out (by omega) _ _ _ _⟩
end Go.Proofs.YtnomcldpbkinmaaGreatDoor
