/- Lemmas of the claim. -/
import Derived.Test.YtnomcldpbkinmaaGreatDoorG03
import Derived.Test.YtnomcldpbkinmaaGreatDoorG04
import Derived.Test.YtnomcldpbkinmaaGreatDoorG02
set_option maxHeartbeats 4000000
set_option maxRecDepth 100000
set_option linter.unusedSimpArgs false
set_option linter.unusedVariables false
namespace Go.Proofs.YtnomcldpbkinmaaGreatDoor
open Go.RowKit
theorem acr (t:ByteArray)(k:Nat):aad (t.extract k t.size)=(aad t).drop k:=by
 rw[aal,List.take_of_length_le (by rw[aae];omega)]
theorem afs (t:ByteArray)(k:Nat):aad (t.extract 0 k)=(aad t).take k:=by
 rw[aal,List.drop_zero]
theorem agQ (t:ByteArray)(k:Nat):(t.extract k t.size).size=t.size - k:=by
 rw[← aae,acr,List.length_drop,aae]
def afD (r:Int)(w:World)(e:Ending)(w':World):Prop:=
 ((0≤r∧e=.returned (.tuple #[.int .i32 r,.bool true]))∨(r < 0∧e=.returned (.tuple #[.int .i32 0,.bool false])))∧Below w.heap.size w w'
theorem a0A (t d2:ByteArray)(is:Bool)(w:World)
 (C1:Hid (∀ w,Calls Tryz.prog 83 #[.string t,.string ⟨#[35]⟩] w fun e w'=>e=.returned (.tuple #[.string t,.bool false])∧w=w'))
 (C2:Hid (∀ w,Calls Tryz.prog 83 #[.string t,.string ⟨#[120]⟩] w fun e w'=>e=.returned (.tuple #[.string d2,.bool is])∧w=w')):
 Calls Tryz.prog 188 #[.string t] w fun e w'=>e=.returned (.tuple #[.int .i32 0,.bool false])∧Below w.heap.size w w':=by
 cases is
 all_goals
  go_enter Tryz.func188,Tryz.ntmps188;go_wp2_with fail;refine(C1.out _).mono ?_;rintro e w' ⟨rfl,rfl⟩;go_wp2_with fail;refine(C2.out _).mono ?_;rintro e w' ⟨rfl,rfl⟩;go_wp2;go_ret2;exact⟨rfl,Below.refl _ _⟩
theorem ajQ (t d d2:ByteArray)(w:World)
 (C1:Hid (∀ w,Calls Tryz.prog 83 #[.string t,.string ⟨#[35]⟩] w fun e w'=>e=.returned (.tuple #[.string d,.bool true])∧w=w'))
 (C2:Hid (∀ w,Calls Tryz.prog 83 #[.string d,.string ⟨#[120]⟩] w fun e w'=>e=.returned (.tuple #[.string d2,.bool false])∧w=w')) (h8:8 < d.size):
 Calls Tryz.prog 188 #[.string t] w fun e w'=>e=.returned (.tuple #[.int .i32 0,.bool false])∧Below w.heap.size w w':=by
 have i8:decide ((8:Int) < (d.size:Int))=true:=by rw[decide_eq_true_eq];omega
 have j8:decide (8 < d.size)=true:=by rw[decide_eq_true_eq];omega
 clear h8;go_enter Tryz.func188,Tryz.ntmps188;go_wp2_with fail;refine(C1.out _).mono ?_;rintro e w' ⟨rfl,rfl⟩;go_wp2_with fail;refine(C2.out _).mono ?_;rintro e w' ⟨rfl,rfl⟩;go_wp2;go_ret2;exact⟨rfl,Below.refl _ _⟩
theorem ayP (t d d2:ByteArray)(w:World)
 (C1:Hid (∀ w,Calls Tryz.prog 83 #[.string t,.string ⟨#[35]⟩] w fun e w'=>e=.returned (.tuple #[.string d,.bool true])∧w=w'))
 (C2:Hid (∀ w,Calls Tryz.prog 83 #[.string d,.string ⟨#[120]⟩] w fun e w'=>e=.returned (.tuple #[.string d2,.bool false])∧w=w')) (h8:d.size≤8) (x:Int) (hx0:x≤2147483647) (CP:Hid (Calls Tryz.prog 197 #[.string d,.int .i64 10,.int .i64 31] w (avt x w))):
 Calls Tryz.prog 188 #[.string t] w (afD (abO x) w):=by
 have i8:decide ((8:Int) < (d.size:Int))=false:=by rw[decide_eq_false_iff_not];omega
 have j8:decide (8 < d.size)=false:=by rw[decide_eq_false_iff_not];omega
 clear h8;go_enter Tryz.func188,Tryz.ntmps188;go_wp2_with fail;refine(C1.out _).mono ?_;rintro e w' ⟨rfl,rfl⟩;go_wp2_with fail;refine(C2.out _).mono ?_;rintro e w' ⟨rfl,rfl⟩;go_wp2_with fail;refine CP.out.mono ?_;rintro e w1 ⟨h,hb⟩;clear CP C1 C2;rcases h with ⟨h0,rfl⟩ | ⟨h0,y,n,rfl⟩
 · by_cases hc:Chr x
   · have CC:Hid (∀ w,Calls Tryz.prog 115 #[.int .i32 x] w fun e w'=>e=.returned (.bool true)∧w=w'):=aac fun w=>by
      have:=aes x w;rw[decide_eq_true hc] at this;exact this
     have HC:Hid (abO x=x):=aac (if_pos hc)
     have q:IntKind.i32.wrap x=x:=by
      rw[IntKind.wrap_i32];omega
     clear hc;go_wp2_with (go_at_call 115;refine(CC.out _).mono ?_;rintro e w' ⟨rfl,rfl⟩);go_ret2;exact⟨.inl ⟨by rw[HC.out];exact h0,by rw[HC.out];rfl⟩,hb⟩
   · have CC:Hid (∀ w,Calls Tryz.prog 115 #[.int .i32 x] w fun e w'=>e=.returned (.bool false)∧w=w'):=aac fun w=>by
      have:=aes x w;rw[decide_eq_false hc] at this;exact this
     have HC:Hid (abO x= -1):=aac (if_neg hc)
     have q:IntKind.i32.wrap x=x:=by
      rw[IntKind.wrap_i32];omega
     clear hc;go_wp2_with (go_at_call 115;refine(CC.out _).mono ?_;rintro e w' ⟨rfl,rfl⟩);go_ret2;exact⟨.inr ⟨by rw[HC.out];omega,rfl⟩,hb⟩
 · have HC:Hid (abO x= -1):=aac (by rw[h0];exact acz);clear h0 hx0;go_wp2;go_ret2;exact⟨.inr ⟨by rw[HC.out];omega,rfl⟩,hb⟩
theorem ajK (t d d2:ByteArray)(w:World)
 (C1:Hid (∀ w,Calls Tryz.prog 83 #[.string t,.string ⟨#[35]⟩] w fun e w'=>e=.returned (.tuple #[.string d,.bool true])∧w=w'))
 (C2:Hid (∀ w,Calls Tryz.prog 83 #[.string d,.string ⟨#[120]⟩] w fun e w'=>e=.returned (.tuple #[.string d2,.bool true])∧w=w')) (h8:8 < d2.size):
 Calls Tryz.prog 188 #[.string t] w fun e w'=>e=.returned (.tuple #[.int .i32 0,.bool false])∧Below w.heap.size w w':=by
 have i8:decide ((8:Int) < (d2.size:Int))=true:=by rw[decide_eq_true_eq];omega
 have j8:decide (8 < d2.size)=true:=by rw[decide_eq_true_eq];omega
 clear h8;go_enter Tryz.func188,Tryz.ntmps188;go_wp2_with fail;refine(C1.out _).mono ?_;rintro e w' ⟨rfl,rfl⟩;go_wp2_with fail;refine(C2.out _).mono ?_;rintro e w' ⟨rfl,rfl⟩;go_wp2;go_ret2;exact⟨rfl,Below.refl _ _⟩
theorem axM (t d d2:ByteArray)(w:World)
 (C1:Hid (∀ w,Calls Tryz.prog 83 #[.string t,.string ⟨#[35]⟩] w fun e w'=>e=.returned (.tuple #[.string d,.bool true])∧w=w'))
 (C2:Hid (∀ w,Calls Tryz.prog 83 #[.string d,.string ⟨#[120]⟩] w fun e w'=>e=.returned (.tuple #[.string d2,.bool true])∧w=w')) (h8:d2.size≤8) (x:Int) (hx0:x≤2147483647) (CP:Hid (Calls Tryz.prog 197 #[.string d2,.int .i64 16,.int .i64 31] w (avt x w))):
 Calls Tryz.prog 188 #[.string t] w (afD (abO x) w):=by
 have i8:decide ((8:Int) < (d2.size:Int))=false:=by rw[decide_eq_false_iff_not];omega
 have j8:decide (8 < d2.size)=false:=by rw[decide_eq_false_iff_not];omega
 clear h8;go_enter Tryz.func188,Tryz.ntmps188;go_wp2_with fail;refine(C1.out _).mono ?_;rintro e w' ⟨rfl,rfl⟩;go_wp2_with fail;refine(C2.out _).mono ?_;rintro e w' ⟨rfl,rfl⟩;go_wp2_with fail;refine CP.out.mono ?_;rintro e w1 ⟨h,hb⟩;clear CP C1 C2;rcases h with ⟨h0,rfl⟩ | ⟨h0,y,n,rfl⟩
 · by_cases hc:Chr x
   · have CC:Hid (∀ w,Calls Tryz.prog 115 #[.int .i32 x] w fun e w'=>e=.returned (.bool true)∧w=w'):=aac fun w=>by
      have:=aes x w;rw[decide_eq_true hc] at this;exact this
     have HC:Hid (abO x=x):=aac (if_pos hc)
     have q:IntKind.i32.wrap x=x:=by
      rw[IntKind.wrap_i32];omega
     clear hc;go_wp2_with (go_at_call 115;refine(CC.out _).mono ?_;rintro e w' ⟨rfl,rfl⟩);go_ret2;exact⟨.inl ⟨by rw[HC.out];exact h0,by rw[HC.out];rfl⟩,hb⟩
   · have CC:Hid (∀ w,Calls Tryz.prog 115 #[.int .i32 x] w fun e w'=>e=.returned (.bool false)∧w=w'):=aac fun w=>by
      have:=aes x w;rw[decide_eq_false hc] at this;exact this
     have HC:Hid (abO x= -1):=aac (if_neg hc)
     have q:IntKind.i32.wrap x=x:=by
      rw[IntKind.wrap_i32];omega
     clear hc;go_wp2_with (go_at_call 115;refine(CC.out _).mono ?_;rintro e w' ⟨rfl,rfl⟩);go_ret2;exact⟨.inr ⟨by rw[HC.out];omega,rfl⟩,hb⟩
 · have HC:Hid (abO x= -1):=aac (by rw[h0];exact acz);clear h0 hx0;go_wp2;go_ret2;exact⟨.inr ⟨by rw[HC.out];omega,rfl⟩,hb⟩
theorem arn (b:Int)(hb:1≤b)(t:ByteArray)(h8:t.size≤8):akF b (aad t)=abO (if t.size=0 then -1 else ajY b (aad t) 0):=by
 unfold akF;by_cases h0:t.size=0
 · rw[if_pos h0,acz,if_pos (.inl (List.eq_nil_of_length_eq_zero (by rw[aae];exact h0)))]
 · rw[if_neg h0,if_neg,avQ b hb];rintro (h | h)
   · have:=congrArg List.length h;rw[aae,List.length_nil] at this;exact h0 this
   · rw[aae] at h;omega
theorem a0G (b:Int)(hb:1≤b)(t:ByteArray):(if t.size=0 then -1 else ajY b (aad t) 0)≤2147483647:=by
 split
 · omega
 · rcases aqR b hb (aad t) 0 (by omega) (by omega) with h | h <;> omega
theorem akq (t:ByteArray)(w:World)(hs:t.size≤1000000)(hV:Vars w):Calls Tryz.prog 188 #[.string t] w (afD (nrV (aad t)) w):=by
 unfold nrV;by_cases h1:(aad t).getD 0 0=35
 · rw[if_neg (by simpa using h1)];have C1:=aac (amL t 35 (by decide) h1)
   have hd:(aad (t.extract 1 t.size)).getD 0 0=(aad t).getD 1 0:=by
    rw[acr];simp[List.getD_eq_getElem?_getD,List.getElem?_drop]
   have hz:(t.extract 1 t.size).size≤1000000:=by rw[agQ];omega
   by_cases h2:(aad t).getD 1 0=120
   · rw[if_pos h2];have C2:=aac (amL (t.extract 1 t.size) 120 (by decide) (by rw[hd];exact h2));have e:(aad t).drop 2=aad ((t.extract 1 t.size).extract 1 (t.extract 1 t.size).size):=(by rw[acr,acr,List.drop_drop]);have hz2:((t.extract 1 t.size).extract 1 (t.extract 1 t.size).size).size≤1000000:=by rw[agQ];omega
     rw[e];by_cases h8:8 < ((t.extract 1 t.size).extract 1 (t.extract 1 t.size).size).size
     · refine(ajK t _ _ w C1 C2 h8).mono ?_;rintro e w' ⟨rfl,hb⟩;refine⟨.inr ⟨?_,rfl⟩,hb⟩;unfold akF;rw[if_pos (.inr (by rw[aae];exact h8))];omega
     · rw[arn 16 (by omega) _ (by omega)];exact axM t _ _ w C1 C2 (by omega) _ (a0G 16 (by omega) _) (aac (ajp _ 16 (.inr rfl) w hz2 hV))
   · rw[if_neg h2];have C2:=aac (avE (t.extract 1 t.size) 120 (by rw[hd];exact h2));rw[← acr];by_cases h8:8 < (t.extract 1 t.size).size
     · refine(ajQ t _ _ w C1 C2 h8).mono ?_;rintro e w' ⟨rfl,hb⟩;refine⟨.inr ⟨?_,rfl⟩,hb⟩;unfold akF;rw[if_pos (.inr (by rw[aae];exact h8))];omega
     · rw[arn 10 (by omega) _ (by omega)];exact ayP t _ _ w C1 C2 (by omega) _ (a0G 10 (by omega) _) (aac (ajp _ 10 (.inl rfl) w hz hV))
 · rw[if_pos h1];have C1:=aac (avE t 35 h1)
   have fin:∀ (d2:ByteArray) (is:Bool),Hid (∀ w,Calls Tryz.prog 83 #[.string t,.string ⟨#[120]⟩] w fun e w'=>e=.returned (.tuple #[.string d2,.bool is])∧w=w')→Calls Tryz.prog 188 #[.string t] w (afD (-1) w):=fun d2 is C2=>by
    refine(a0A t d2 is w C1 C2).mono ?_;rintro e w' ⟨rfl,hb⟩;exact⟨.inr ⟨by omega,rfl⟩,hb⟩
   by_cases h2:(aad t).getD 0 0=120
   · exact fin _ _ (aac (amL t 120 (by decide) h2))
   · exact fin _ _ (aac (avE t 120 h2))
end Go.Proofs.YtnomcldpbkinmaaGreatDoor
namespace Go.Proofs.YtnomcldpbkinmaaGreatDoor
open Go.RowKit
theorem aeE {r:Int}(h:Chr r):¬ Bad r:=by unfold Chr Btw at h;unfold Bad;omega
theorem anY {x:Int}(h:0≤abO x):Chr (abO x):=by
 have:=apN (n:=x) (by omega);rw[this.2];exact this.1
theorem amy (b:Int)(l:List Int)(h:0≤akF b l):Chr (akF b l):=by
 unfold akF at h ⊢;split at h
 · omega
 · rw[if_neg (by assumption)];exact anY h
theorem ase (l:List Int)(h:0≤nrV l):Chr (nrV l):=by
 unfold nrV at h ⊢;by_cases h1:l.getD 0 0≠35
 · rw[if_pos h1] at h;omega
 rw[if_neg h1] at h ⊢;by_cases h2:l.getD 1 0=120
 · rw[if_pos h2] at h ⊢;exact amy _ _ h
 · rw[if_neg h2] at h ⊢;exact amy _ _ h
theorem asz (l:List Int)(h:0≤nmV l):Chr (nmV l):=by
 unfold nmV at h ⊢
 repeat' split
 all_goals first
  | (unfold Chr Btw;omega)
  | (exfalso;simp[*] at h)
theorem anf (l:List Int)(h:0≤ajm l):Chr (ajm l):=by
 rw[akO] at h ⊢;by_cases h1:0≤nmV l
 · rw[if_pos h1];exact asz l h1
 · rw[if_neg h1] at h ⊢;exact ase l h
def adO (B b:Nat)(v:Bool)(bs:List Int)(x:Int × List Int × Nat)(w:World)(e:Ending)(w':World):Prop:=
 e=.returned (.tuple #[.int .i64 x.2.2,.int .i64 x.1])∧(x.1=0→Gat B b v (bs++x.2.1) w')∧Below B w w'
def rfF (rest:List Int):Int × List Int × Nat:=
 if 59∈rest∧0≤ajm (abg rest) then (0,aaR (ajm (abg rest)),(abg rest).length+2) else (5,[],0)
theorem atU (b:Nat)(s:ByteArray)(w:World)(C1:Hid (∀ w,Calls Tryz.prog 123 #[.string s,.string ⟨#[59]⟩] w fun e w'=>e=.returned (.tuple #[.string s,.string ⟨#[]⟩,.bool false])∧Below w.heap.size w w')):
 Calls Tryz.prog 172 #[.pointer (some ⟨b,0,none⟩),.string s] w fun e w'=>e=.returned (.tuple #[.int .i64 0,.int .i64 5])∧Below w.heap.size w w':=by
 go_enter Tryz.func172,Tryz.ntmps172;go_wp2_with fail;refine(C1.out _).mono ?_;rintro e w1 ⟨rfl,hb⟩;go_wp2;go_ret2;exact⟨rfl,hb⟩
theorem auX (B b:Nat)(v:Bool)(bs:List Int)(s t u:ByteArray)(r:Int)(w:World)(hg:Gat B b v bs w)(hB:B≤w.heap.size)(hl:bs.length≤1000000)(ht:t.size≤1000000)(hr:¬ Bad r)
 (C1:Hid (∀ w,Calls Tryz.prog 123 #[.string s,.string ⟨#[59]⟩] w fun e w'=>e=.returned (.tuple #[.string t,.string u,.bool true])∧Below w.heap.size w w'))
 (C2:Hid (∀ w,Calls Tryz.prog 187 #[.string t] w fun e w'=>e=.returned (.tuple #[.int .i32 r,.bool true])∧w=w')):
 Calls Tryz.prog 172 #[.pointer (some ⟨b,0,none⟩),.string s] w (adO B b v bs (0,aaR r,t.size+2) w):=by
 go_enter Tryz.func172,Tryz.ntmps172;go_wp2_with fail;refine(C1.out _).mono ?_;rintro e w1 ⟨rfl,hb⟩;go_wp2_with fail;refine(C2.out _).mono ?_;rintro e w1' ⟨rfl,rfl⟩;have CW:=aac (ajT B b v bs r w1 (hg.keep hb) (Nat.le_trans hB hb.size) hl hr);clear C1 C2 hg;go_wp2_with fail;refine CW.out.mono ?_;rintro e w2 ⟨⟨n,rfl⟩,h2,hb2⟩;clear CW;go_wp2;go_ret2;exact⟨adI (by simp;omega) rfl,fun _=>h2,(hb.mono hB).trans hb2⟩
def rnF (r:Int)(n:Nat):Int × List Int × Nat:=if 0≤r then (0,aaR r,n+2) else (5,[],0)
theorem a1C {B b:Nat}{v:Bool}{bs:List Int}{x y:Int × List Int × Nat}{w w':World}{e:Ending}(h:x=y)(hp:adO B b v bs y w e w'):adO B b v bs x w e w':=by rw[h];exact hp
theorem apj {r:Int}(n:Nat)(h:0≤r):rnF r n=(0,aaR r,n+2):=if_pos h
theorem awO {r:Int}(n:Nat)(h:¬ 0≤r):rnF r n=(5,[],0):=if_neg h
theorem axL (B b:Nat)(v:Bool)(bs:List Int)(s t u:ByteArray)(r:Int)(w:World)(hg:Gat B b v bs w)(hB:B≤w.heap.size)(hl:bs.length≤1000000)(ht:t.size≤1000000)(hr:0≤r→¬ Bad r)
 (C1:Hid (∀ w,Calls Tryz.prog 123 #[.string s,.string ⟨#[59]⟩] w fun e w'=>e=.returned (.tuple #[.string t,.string u,.bool true])∧Below w.heap.size w w'))
 (C2:Hid (∀ w,Calls Tryz.prog 187 #[.string t] w fun e w'=>e=.returned (.tuple #[.int .i32 0,.bool false])∧w=w'))
 (C3:Hid (∀ w1,Below w.heap.size w w1→Calls Tryz.prog 188 #[.string t] w1 (afD r w1))):
 Calls Tryz.prog 172 #[.pointer (some ⟨b,0,none⟩),.string s] w (adO B b v bs (rnF r t.size) w):=by
 go_enter Tryz.func172,Tryz.ntmps172;go_wp2_with fail;refine(C1.out _).mono ?_;rintro e w1 ⟨rfl,hb⟩;go_wp2_with fail;refine(C2.out _).mono ?_;rintro e w1' ⟨rfl,rfl⟩;go_wp2_with fail;refine(C3.out _ hb).mono ?_;rintro e w2 ⟨h,hb2⟩;have hb3:Below w.heap.size w w2:=hb.trans (hb2.mono hb.size);rcases h with ⟨h0,rfl⟩ | ⟨h0,rfl⟩
 · have CW:=aac (ajT B b v bs r w2 (hg.keep hb3) (Nat.le_trans hB hb3.size) hl (hr h0));have HR:=aac (apj t.size h0);clear C1 C2 C3 hg hb hb2 h0 hr;go_wp2_with fail;refine CW.out.mono ?_;rintro e w4 ⟨⟨n,rfl⟩,h2,hb4⟩;clear CW;go_wp2;go_ret2;exact a1C HR.out ⟨adI (by simp;omega) rfl,fun _=>h2,(hb3.mono hB).trans hb4⟩
 · have HR:=aac (awO t.size (show ¬ 0≤r by omega));clear C1 C2 C3 hg hb hb2 h0 hr;go_wp2;go_ret2;exact a1C HR.out ⟨rfl,fun h=>absurd h (by decide),hb3.mono hB⟩
theorem ayS (B b:Nat)(v:Bool)(bs:List Int)(s:ByteArray)(w:World)(hg:Gat B b v bs w)(hB:B≤w.heap.size)(hl:bs.length≤1000000)(hs:s.size≤1000000)(hV:Vars w):
 Calls Tryz.prog 172 #[.pointer (some ⟨b,0,none⟩),.string s] w (adO B b v bs (rfF (aad s)) w):=by
 unfold rfF;rcases avw s with ⟨h1,h2⟩ | ⟨i,h1,h2,h3,h4⟩
 · rw[if_neg (fun h=>h2 h.1)];refine(atU b s w (aac (agD s h1))).mono ?_;rintro e w' ⟨rfl,hb⟩;exact⟨rfl,fun h=>absurd h (by decide),hb.mono hB⟩
 · have C1:=aac (afR s i h1 h2 hs);have hbody:abg (aad s)=aad (s.extract 0 i):=by rw[h4,afs]
   have hsz:(s.extract 0 i).size≤1000000:=by
    rw[← aae,afs,List.length_take,aae];omega
   rw[hbody,aae];by_cases hn:0≤nmV (aad (s.extract 0 i))
   · have e:ajm (aad (s.extract 0 i))=nmV (aad (s.extract 0 i)):=(by rw[akO,if_pos hn]);rw[e,if_pos ⟨h3,hn⟩];exact auX B b v bs s _ _ _ w hg hB hl hsz (aeE (asz _ hn)) C1 (aac (arf _ _ rfl hn))
   · have e:ajm (aad (s.extract 0 i))=nrV (aad (s.extract 0 i)):=(by rw[akO,if_neg hn]);rw[e];have:=axL B b v bs s _ _ (nrV (aad (s.extract 0 i))) w hg hB hl hsz (fun h=>aeE (ase _ h)) C1 (aac (auP _ hn)) (aac fun w1 hb=>akq _ w1 hsz (hV.keep hb hV.1));by_cases h0:0≤nrV (aad (s.extract 0 i))
     · rw[apj _ h0] at this;rw[if_pos ⟨h3,h0⟩];exact this
     · rw[awO _ h0] at this;rw[if_neg (fun h=>h0 h.2)];exact this
theorem aly (B b:Nat)(v:Bool)(bs:List Int)(c:Int)(w:World)(hg:Gat B b v bs w)(hB:B≤w.heap.size)(hl:bs.length≤1000000)(h0:0≤c)(h1:c≤255):
 Calls Tryz.prog 173 #[.pointer (some ⟨b,0,none⟩),.int .u8 c] w fun e w'=>e=.returned (.tuple #[])∧Gat B b v (bs++[blk v c]) w'∧Below B w w':=by
 have hv:=hg.value;cases v
 · have CW:=aac (ajW B b false bs c w hg hB hl h0 h1);clear hg;go_enter Tryz.func173,Tryz.ntmps173;go_wp2_with fail;refine CW.out.mono ?_;rintro e w1 ⟨rfl,h2,hb⟩;go_wp2
   go_end0
   exact⟨rfl,h2,hb⟩
 · have CW:=aac (ajW B b true bs 32 w hg hB hl (by omega) (by omega));clear hg;go_enter Tryz.func173,Tryz.ntmps173;go_wp2_with fail;refine CW.out.mono ?_;rintro e w1 ⟨rfl,h2,hb⟩;go_wp2
   go_end0
   exact⟨rfl,h2,hb⟩
def plF (l:List Int):Int × List Int × Nat:=
 if (aaO l).2.2≠0 then ((aaO l).2.2,[],0) else if Chr (aaO l).1 then (0,aaR (aaO l).1,(aaO l).2.1.toNat) else (3,[],0)
theorem arL (B b:Nat)(s:ByteArray)(k:Nat)(er r n:Int)(w:World)(hne:er≠0)(C1:Hid (Calls Tryz.prog 141 #[.string s,.int .i64 k] w fun e w'=>e=.returned (.tuple #[.int .i32 r,.int .i64 n,.int .i64 er])∧w=w')):
 Calls Tryz.prog 174 #[.pointer (some ⟨b,0,none⟩),.string s,.int .i64 k] w fun e w'=>e=.returned (.tuple #[.int .i64 0,.int .i64 er])∧Below B w w':=by
 have t1:(er != 0)=true:=(by simpa using hne);clear hne;go_enter Tryz.func174,Tryz.ntmps174;go_wp2_with fail;refine C1.out.mono ?_;rintro e w1 ⟨rfl,rfl⟩;go_wp2;go_ret2;exact⟨rfl,Below.refl _ _⟩
theorem aol (B b:Nat)(s:ByteArray)(k:Nat)(r n:Int)(w:World)(hc:¬ Chr r)(C1:Hid (Calls Tryz.prog 141 #[.string s,.int .i64 k] w fun e w'=>e=.returned (.tuple #[.int .i32 r,.int .i64 n,.int .i64 0])∧w=w')):
 Calls Tryz.prog 174 #[.pointer (some ⟨b,0,none⟩),.string s,.int .i64 k] w fun e w'=>e=.returned (.tuple #[.int .i64 0,.int .i64 3])∧Below B w w':=by
 have CC:Hid (∀ w,Calls Tryz.prog 115 #[.int .i32 r] w fun e w'=>e=.returned (.bool false)∧w=w'):=aac fun w=>by
  have:=aes r w;rw[decide_eq_false hc] at this;exact this
 clear hc;go_enter Tryz.func174,Tryz.ntmps174;go_wp2_with fail;refine C1.out.mono ?_;rintro e w1 ⟨rfl,rfl⟩;go_wp2_with fail;refine(CC.out _).mono ?_;rintro e w1 ⟨rfl,rfl⟩;go_wp2;go_ret2;exact⟨rfl,Below.refl _ _⟩
theorem asS (B b:Nat)(v:Bool)(bs:List Int)(s:ByteArray)(k n:Nat)(r:Int)(w:World)(hc:Chr r)(hkn:k+n≤s.size)(hs:s.size≤1000000)(C1:Hid (Calls Tryz.prog 141 #[.string s,.int .i64 k] w fun e w'=>e=.returned (.tuple #[.int .i32 r,.int .i64 n,.int .i64 0])∧w=w'))
 (CW:Hid (Calls Tryz.prog 180 #[.pointer (some ⟨b,0,none⟩),.string (s.extract k (k+n))] w.drew fun e w'=>e=.returned (.tuple #[.int .i64 n,.nilIface])∧Gat B b v bs w'∧Below B w.drew w')):
 Calls Tryz.prog 174 #[.pointer (some ⟨b,0,none⟩),.string s,.int .i64 k] w fun e w'=>e=.returned (.tuple #[.int .i64 n,.int .i64 0])∧Gat B b v bs w'∧Below B w w':=by
 have CC:Hid (∀ w,Calls Tryz.prog 115 #[.int .i32 r] w fun e w'=>e=.returned (.bool true)∧w=w'):=aac fun w=>by
  have:=aes r w;rw[decide_eq_true hc] at this;exact this
 have c1:(0:Int)≤(k:Int)+(n:Int):=(by omega);have c2:(k:Int)+(n:Int)≤(s.size:Int):=(by omega);have c3:(k:Int)≤(k:Int)+(n:Int):=(by omega);have q2:IntKind.i64.wrap ((k:Int)+(n:Int))=(k:Int)+(n:Int):=IntWalk.i64_in _ (by omega);have q3:((k:Int)+(n:Int)).toNat=k+n:=(by omega);clear hc;go_enter Tryz.func174,Tryz.ntmps174;go_wp2_with fail;refine C1.out.mono ?_;rintro e w1 ⟨rfl,rfl⟩;go_wp2_with fail;refine(CC.out _).mono ?_;rintro e w1 ⟨rfl,rfl⟩;go_wp2_with fail
 go_region_held3 (fun _=>True) (trivial) (first | (go_at_call 180;refine CW.out.mono ?_;rintro e w2 ⟨rfl,h2,hb2⟩))
 go_wp2;go_ret2;exact⟨rfl,h2,(Below.drew (Below.refl _ _)).trans hb2⟩
theorem ajg (l:List Int)(hl:l≠[])(hn:NN l)(h:(aaO l).2.2=0):(aaO l).2.1=((aaR (aaO l).1).length:Int)∧l.take (aaR (aaO l).1).length=aaR (aaO l).1∧(aaR (aaO l).1).length≤l.length:=by
 have:=agO l hl hn.getD h;exact⟨this.2.1,this.2.2.1,this.2.2.2⟩
theorem adg (B b:Nat)(v:Bool)(bs:List Int)(s:ByteArray)(k:Nat)(w:World)(hk:k < s.size)(hs:s.size≤1000000)(hg:Gat B b v bs w)(hB:B≤w.heap.size)(hl:bs.length≤1000000):
 Calls Tryz.prog 174 #[.pointer (some ⟨b,0,none⟩),.string s,.int .i64 k] w (adO B b v bs (plF ((aad s).drop k)) w):=by
 have C1:=arb s k w (by unfold maxLen;omega);rw[acw s k hk] at C1
 have hne:(aad s).drop k≠[]:=by
  intro e;have:=congrArg List.length e;rw[List.length_drop,aae,List.length_nil] at this;omega
 have hnn:NN ((aad s).drop k):=(acS s).drop k;have D:=ajg _ hne hnn;have hle:((aad s).drop k).length=s.size - k:=(by rw[List.length_drop,aae]);unfold plF;generalize hL:(aad s).drop k=L at *
 revert C1 D
 generalize aaO L=x;obtain⟨r,n,er⟩:=x;intro C1 D;simp only at C1 D ⊢;by_cases he:er=0
 · subst he;obtain⟨d1,d2,d3⟩:=D rfl;have h1:=abS r;rw[if_neg (by simp)];by_cases hc:Chr r
   · rw[if_pos hc];obtain⟨m,hm⟩:∃ m,m=(aaR r).length:=⟨_,rfl⟩;rw[← hm] at d1 d2 d3 h1;subst d1
     have hext:aad (s.extract k (k+m))=aaR r:=by
      rw[aal,List.drop_take,hL,Nat.add_sub_cancel_left,d2]
     have hsz:(s.extract k (k+m)).size=m:=by rw[← aae,hext,hm]
     have CW:=avI B b v bs (s.extract k (k+m)) w.drew (by
      rcases hg with h | h
      · exact .inl h
      · exact .inr h) hB hl (by omega) (by omega)
     rw[hsz,hext] at CW;refine(asS B b v _ s k m r w hc (by omega) hs (aac C1) (aac CW)).mono ?_;rintro e w' ⟨rfl,h2,hb⟩;exact⟨by simp,fun _=>h2,hb⟩
   · rw[if_neg hc];refine(aol B b s k r n w hc (aac C1)).mono ?_;rintro e w' ⟨rfl,hb⟩;exact⟨rfl,fun h=>absurd h (by decide),hb⟩
 · rw[if_pos he];refine(arL B b s k er r n w he (aac C1)).mono ?_;rintro e w' ⟨rfl,hb⟩;exact⟨rfl,fun h=>absurd h he,hb⟩
end Go.Proofs.YtnomcldpbkinmaaGreatDoor
namespace Go.Proofs.YtnomcldpbkinmaaGreatDoor
open Go.RowKit
theorem tail_drop (l:List Int)(k:Nat):(l.drop k).tail=l.drop (k+1):=by rw[List.tail_drop]
theorem getD_drop (l:List Int)(k j:Nat):(l.drop k).getD j 0=l.getD (k+j) 0:=by simp[List.getD_eq_getElem?_getD,List.getElem?_drop]
theorem aaG (s:ByteArray)(k:Nat)(h:k < s.size):((s[k]).toNat:Int)=(aad s).getD k 0:=by rw[afv s k h,abx]
theorem auZ (B b:Nat)(v:Bool)(bs:List Int)(s:ByteArray)(k:Nat)(x:Int × List Int × Nat)(w:World)(hk:k < s.size)(hs:s.size≤1000000)(hc:((s[k]).toNat:Int)=38)
 (C:Hid (Calls Tryz.prog 172 #[.pointer (some ⟨b,0,none⟩),.string (s.extract (k+1) s.size)] w (adO B b v bs x w))):
 Calls Tryz.prog 143 #[.pointer (some ⟨b,0,none⟩),.string s,.int .i64 k] w (adO B b v bs x w):=by
 have c1:(k:Int) < (s.size:Int):=(by omega);have c2:(0:Int)≤(k:Int)+1:=(by omega);have c3:(k:Int)+1≤(s.size:Int):=(by omega);have q2:IntKind.i64.wrap ((k:Int)+1)=(k:Int)+1:=IntWalk.i64_in _ (by omega);have q3:((k:Int)+1).toNat=k+1:=(by omega);go_enter Tryz.func143,Tryz.ntmps143;go_wp2_with fail;refine C.out.mono ?_;rintro e w1 ⟨rfl,h⟩;have H:=aac h;clear h C;go_wp2;go_ret2;exact⟨rfl,H.out⟩
theorem aqG (B b:Nat)(v:Bool)(bs:List Int)(s:ByteArray)(k:Nat)(lf:Bool)(w:World)(hk:k < s.size)(hs:s.size≤1000000)(hc:((s[k]).toNat:Int)=13)
 (C:Hid (Calls Tryz.prog 173 #[.pointer (some ⟨b,0,none⟩),.int .u8 10] w fun e w'=>e=.returned (.tuple #[])∧Gat B b v bs w'∧Below B w w'))
 (C2:Hid (∀ w,Calls Tryz.prog 85 #[.string (s.extract (k+1) s.size),.string ⟨#[10]⟩] w fun e w'=>e=.returned (.bool lf)∧w=w')):
 Calls Tryz.prog 143 #[.pointer (some ⟨b,0,none⟩),.string s,.int .i64 k] w fun e w'=>e=.returned (.tuple #[.int .i64 (if lf=true then 2 else 1),.int .i64 0])∧Gat B b v bs w'∧Below B w w':=by
 have c1:(k:Int) < (s.size:Int):=(by omega);have c2:(0:Int)≤(k:Int)+1:=(by omega);have c3:(k:Int)+1≤(s.size:Int):=(by omega);have q2:IntKind.i64.wrap ((k:Int)+1)=(k:Int)+1:=IntWalk.i64_in _ (by omega);have q3:((k:Int)+1).toNat=k+1:=(by omega);cases lf
 all_goals
  go_enter Tryz.func143,Tryz.ntmps143;go_wp2_with fail;refine C.out.mono ?_;rintro e w1 ⟨rfl,h,hb⟩;have H:=aac h;clear h C;go_wp2_with fail;refine(C2.out _).mono ?_;rintro e w2 ⟨rfl,rfl⟩;go_wp2;go_ret2;exact⟨rfl,H.out,hb⟩
theorem a1m (B b:Nat)(v:Bool)(bs:List Int)(s:ByteArray)(k:Nat)(w:World)(hk:k < s.size)(hs:s.size≤1000000)(hc:((s[k]).toNat:Int)=9)
 (C:Hid (Calls Tryz.prog 173 #[.pointer (some ⟨b,0,none⟩),.int .u8 9] w fun e w'=>e=.returned (.tuple #[])∧Gat B b v bs w'∧Below B w w')):
 Calls Tryz.prog 143 #[.pointer (some ⟨b,0,none⟩),.string s,.int .i64 k] w fun e w'=>e=.returned (.tuple #[.int .i64 1,.int .i64 0])∧Gat B b v bs w'∧Below B w w':=by
 have c1:(k:Int) < (s.size:Int):=(by omega);go_enter Tryz.func143,Tryz.ntmps143;go_wp2_with fail;refine C.out.mono ?_;rintro e w1 ⟨rfl,h,hb⟩;have H:=aac h;clear h C;go_wp2;go_ret2;exact⟨rfl,H.out,hb⟩
theorem ayF (B b:Nat)(v:Bool)(bs:List Int)(s:ByteArray)(k:Nat)(w:World)(hk:k < s.size)(hs:s.size≤1000000)(hc:((s[k]).toNat:Int)=10)
 (C:Hid (Calls Tryz.prog 173 #[.pointer (some ⟨b,0,none⟩),.int .u8 10] w fun e w'=>e=.returned (.tuple #[])∧Gat B b v bs w'∧Below B w w')):
 Calls Tryz.prog 143 #[.pointer (some ⟨b,0,none⟩),.string s,.int .i64 k] w fun e w'=>e=.returned (.tuple #[.int .i64 1,.int .i64 0])∧Gat B b v bs w'∧Below B w w':=by
 have c1:(k:Int) < (s.size:Int):=(by omega);go_enter Tryz.func143,Tryz.ntmps143;go_wp2_with fail;refine C.out.mono ?_;rintro e w1 ⟨rfl,h,hb⟩;have H:=aac h;clear h C;go_wp2;go_ret2;exact⟨rfl,H.out,hb⟩
theorem axE (B b:Nat)(v:Bool)(bs:List Int)(s:ByteArray)(k:Nat)(x:Int × List Int × Nat)(w:World)(hk:k < s.size)(hs:s.size≤1000000)
 (t1:(((s[k]).toNat:Int) == 38)=false) (t2:(((s[k]).toNat:Int) == 13)=false) (t3:(((s[k]).toNat:Int) == 9)=false) (t4:(((s[k]).toNat:Int) == 10)=false)
 (C:Hid (Calls Tryz.prog 174 #[.pointer (some ⟨b,0,none⟩),.string s,.int .i64 k] w (adO B b v bs x w))):
 Calls Tryz.prog 143 #[.pointer (some ⟨b,0,none⟩),.string s,.int .i64 k] w (adO B b v bs x w):=by
 have c1:(k:Int) < (s.size:Int):=(by omega);go_enter Tryz.func143,Tryz.ntmps143;go_wp2_with fail;refine C.out.mono ?_;rintro e w1 ⟨rfl,h⟩;have H:=aac h;clear h C;go_wp2;go_ret2;exact⟨rfl,H.out⟩
theorem atM (B b:Nat)(v:Bool)(bs:List Int)(s:ByteArray)(k:Nat)(w:World)(hk:k < s.size)(hs:s.size≤1000000)(hg:Gat B b v bs w)(hB:B≤w.heap.size)(hl:bs.length≤1000000)(hV:Vars w):
 Calls Tryz.prog 143 #[.pointer (some ⟨b,0,none⟩),.string s,.int .i64 k] w (adO B b v bs (aaA v ((aad s).drop k)) w):=by
 have hb:=aaG s k hk;have hz:(s.extract (k+1) s.size).size≤1000000:=by rw[agQ];omega
 unfold aaA;rw[tail_drop,getD_drop,getD_drop,Nat.add_zero];by_cases h1:(aad s).getD k 0=38
 · rw[if_pos h1];have:=ayS B b v bs (s.extract (k+1) s.size) w hg hB hl hz hV;rw[acr] at this;exact auZ B b v bs s k _ w hk hs (hb.trans h1) (aac this)
 rw[if_neg h1];by_cases h2:(aad s).getD k 0=13
 · rw[if_pos h2];have C:=aac (aly B b v bs 10 w hg hB hl (by omega) (by omega));have hd:(aad (s.extract (k+1) s.size)).getD 0 0=(aad s).getD (k+1) 0:=(by rw[acr,getD_drop]);by_cases h3:(aad s).getD (k+1) 0=10
   · rw[if_pos h3];refine(aqG B b v _ s k true w hk hs (hb.trans h2) C (aac (alA _ 10 (by decide) (by rw[hd];exact h3)))).mono ?_;rintro e w' ⟨rfl,hg2,hb2⟩;exact⟨rfl,fun _=>hg2,hb2⟩
   · rw[if_neg h3];refine(aqG B b v _ s k false w hk hs (hb.trans h2) C (aac (aqx _ 10 (by rw[hd];exact h3)))).mono ?_;rintro e w' ⟨rfl,hg2,hb2⟩;exact⟨rfl,fun _=>hg2,hb2⟩
 rw[if_neg h2];by_cases h3:(aad s).getD k 0=9
 · rw[if_pos (.inl h3),h3];refine(a1m B b v _ s k w hk hs (hb.trans h3) (aac (aly B b v bs 9 w hg hB hl (by omega) (by omega)))).mono ?_;rintro e w' ⟨rfl,hg2,hb2⟩;exact⟨rfl,fun _=>hg2,hb2⟩
 by_cases h4:(aad s).getD k 0=10
 · rw[if_pos (.inr h4),h4];refine(ayF B b v _ s k w hk hs (hb.trans h4) (aac (aly B b v bs 10 w hg hB hl (by omega) (by omega)))).mono ?_;rintro e w' ⟨rfl,hg2,hb2⟩;exact⟨rfl,fun _=>hg2,hb2⟩
 rw[if_neg (by omega)];exact axE B b v bs s k _ w hk hs (by rw[hb];simpa using h1) (by rw[hb];simpa using h2) (by rw[hb];simpa using h3) (by rw[hb];simpa using h4) (aac (adg B b v bs s k w hk hs hg hB hl))
end Go.Proofs.YtnomcldpbkinmaaGreatDoor
namespace Go.Proofs.YtnomcldpbkinmaaGreatDoor
open Go.RowKit
theorem ams (v:Bool)(l:List Int)(h:(aaA v l).1=0):(aaA v l).2.1.length≤4:=by
 unfold aaA
 repeat' split
 all_goals simp
 all_goals exact(abS _).2
def a3f (s:ByteArray)(v:Bool)(w:World)(i:Value)(wr:World):Prop:=
 ∃ (k:Nat) (bs:List Int),k≤s.size∧i=.int .i64 k∧Gat w.heap.size w.heap.size v bs wr∧Below w.heap.size w wr∧bs.length≤4 * k∧
   aaY v (aad s)=(bs++(aaY v ((aad s).drop k)).1,k+(aaY v ((aad s).drop k)).2.1,(aaY v ((aad s).drop k)).2.2)
def aek (x:List Int × Int × Int)(w:World)(e:Ending)(w':World):Prop:=
 e=.returned (.tuple #[.string (strOfNums x.1),.int .i64 x.2.1,.int .i64 x.2.2])∧Below w.heap.size w w'
theorem akR {x y:List Int × Int × Int}{w w':World}{e:Ending}(h:x=y)(hp:aek y w e w'):aek x w e w':=by rw[h];exact hp
theorem acj:strOfNums []=⟨#[]⟩:=by rw[aji];rfl
theorem avN {v:Bool}{l:List Int}{g:List Int}{n:Nat}(h:aaY v l=(g,n,0)):abH v l=(g,0,0):=by
 unfold abH;rw[h];simp
theorem ard {v:Bool}{l:List Int}{g:List Int}{n:Nat}{er:Int}(h:aaY v l=(g,n,er))(he:er≠0):abH v l=([],(n:Int),er):=by
 unfold abH;rw[h];simp[he]
theorem agq (s:ByteArray)(v:Bool)(w:World)(hs:s.size≤100000)(hV:Vars w):Calls Tryz.prog 116 #[.string s,.bool v] w (aek (abH v (aad s)) w):=by
 have HV:=aac hV;clear hV;go_enter Tryz.func116,Tryz.ntmps116;go_wp2_with fail;go_loopw [8] (fun i wr=>a3f s v w i wr) (fun i _=>s.size - (intOf i).toNat)
 case atStart=>
  exact⟨0,[],Nat.zero_le _,rfl,awU w v,(Below.refl _ w).alloc (Nat.le_refl _) _,by simp,by simp⟩
 case round=>
  obtain⟨k,bs,hk,rfl,hg,hb,hl,hr⟩:=hrel;by_cases hlt:k < s.size
  · have hsz:=hb.size
    have hne:(aad s).drop k≠[]:=by
     intro e;have:=congrArg List.length e;rw[List.length_drop,aae,List.length_nil] at this;omega
    have hnn:NN ((aad s).drop k):=(acS s).drop k;have C:=aac (atM w.heap.size w.heap.size v bs s k wr hlt (by omega) hg hsz (by omega) (HV.out.keep hb HV.out.1));have S1:=ahw v _ hne hnn;have S2:=ams v ((aad s).drop k);have R1:=agC v _ hne;have R2:=afT v _ hne hnn;rw[List.drop_drop] at R2;rw[List.length_drop,aae] at S1;generalize aaA v ((aad s).drop k)=x at *;obtain⟨er,o,n⟩:=x;simp only at S1 S2 R1 R2;by_cases he:er=0
    · subst he;have S1:=S1 rfl;have S2:=S2 rfl;rw[R2 rfl] at hr
      have HR:Hid (aaY v (aad s)=(bs++o++(aaY v ((aad s).drop (k+n))).1,k+n+(aaY v ((aad s).drop (k+n))).2.1,(aaY v ((aad s).drop (k+n))).2.2)):=aac (by
       rw[hr];simp only[List.append_assoc,Nat.add_assoc])
      clear R1 R2 hr hg hne hnn;go_wp2_with fail;refine C.out.mono ?_;rintro e w1 ⟨rfl,h1,hb1⟩;have HG:=aac (h1 rfl);clear h1 C;have q2:IntKind.i64.wrap ((k:Int)+(n:Int))=(k:Int)+(n:Int):=IntWalk.i64_in _ (by omega);go_wp2_with fail;go_roundw;case rel=>exact⟨k+n,bs++o,by omega,by rw[Int.natCast_add],HG.out,hb.trans hb1,by rw[List.length_append];omega,HR.out⟩
      case measure=>simp only[intOf];omega
    · have t1:(er != 0)=true:=(by simpa using he);rw[R1 he] at hr
      have HA:Hid (abH v (aad s)=([],(k:Int),er)):=aac (by
       have:=ard hr he;rw[this];simp)
      clear R1 R2 hr hg hne hnn S1 S2 he;go_wp2_with fail;refine C.out.mono ?_;rintro e w1 ⟨rfl,h1,hb1⟩;clear h1 C;go_wp2;go_ret3;exact akR HA.out ⟨by rw[acj];rfl,hb.trans hb1⟩
  · have hkk:k=s.size:=(by omega);subst hkk;rw[List.drop_of_length_le (by rw[aae];omega),ahi] at hr
    have HA:Hid (abH v (aad s)=(bs,0,0)):=aac (by
     have:=avN hr;rw[this];simp)
    have CS:=aac (ayp w.heap.size w.heap.size v bs wr hg);clear hr hg;go_wp2_with fail;refine CS.out.mono ?_;rintro e w1 ⟨rfl,hb1⟩;go_wp2;go_ret3;exact akR HA.out ⟨rfl,hb.trans hb1⟩
theorem azG (s:ByteArray)(x:List Int × Int × Int)(w:World)(C:Hid (Calls Tryz.prog 116 #[.string s,.bool false] w (aek x w))):Calls Tryz.prog 89 #[.string s] w (aek x w):=by
 go_enter Tryz.func89,Tryz.ntmps89;go_wp2_with fail;refine C.out.mono ?_;rintro e w1 ⟨rfl,hb⟩;go_wp2;go_ret3;exact⟨rfl,hb⟩
theorem avc (s:ByteArray)(w:World)(hs:s.size≤100000)(hV:Vars w):Calls Tryz.prog 89 #[.string s] w (aek (abH false (aad s)) w):=azG s _ w (aac (agq s false w hs hV))
theorem value_of (s:ByteArray)(x:List Int × Int × Int)(w:World)(C:Hid (Calls Tryz.prog 116 #[.string s,.bool true] w (aek x w))):Calls Tryz.prog 152 #[.string s] w (aek x w):=by
 go_enter Tryz.func152,Tryz.ntmps152;go_wp2_with fail;refine C.out.mono ?_;rintro e w1 ⟨rfl,hb⟩;go_wp2;go_ret3;exact⟨rfl,hb⟩
theorem auQ (s:ByteArray)(w:World)(hs:s.size≤100000)(hV:Vars w):Calls Tryz.prog 152 #[.string s] w (aek (abH true (aad s)) w):=value_of s _ w (aac (agq s true w hs hV))
end Go.Proofs.YtnomcldpbkinmaaGreatDoor
namespace Go.Proofs.YtnomcldpbkinmaaGreatDoor
open Go.RowKit
theorem aaJ {s:ByteArray}{l:List Int}(h:aad s=l):s=strOfNums l:=by
 refine abu ?_;subst h;rw[agr _ (acS s) fun x hx=>(Byt.aad s x hx).2]
theorem aeQ (s t:ByteArray):aad (s++t)=aad s++aad t:=by
 unfold aad;rw[ByteArray.data_append,Array.toList_append,List.map_append]
theorem avJ (s t:ByteArray):(s++t).size=s.size+t.size:=by rw[← aae,aeQ,List.length_append,aae,aae]
end Go.Proofs.YtnomcldpbkinmaaGreatDoor
namespace Go.Proofs.YtnomcldpbkinmaaGreatDoor
theorem amG {r:Int}(h:Chr r):¬ Bad r:=by unfold Chr Btw at h;unfold Bad;omega
def Rt (l:List Int):Prop:=(acV l).2.2=0∧∀ r∈(acV l).1,Chr r
theorem aiD (a b:List Int)(h:a≠[]):(a++b).getD 0 0=a.getD 0 0:=by
 cases a with
 | nil=>exact absurd rfl h
 | cons x y=>simp
theorem aiP (r:Int)(h:¬ Bad r)(h1:128≤r):128≤(aaR r).getD 0 0∧∀ x∈aaR r,128≤x:=by
 unfold Bad at h;by_cases h2:r < 2048
 · rw[enc2 h1 h2];refine⟨by simp;omega,fun x hx=> ?_⟩;simp at hx;omega
 by_cases h3:r < 65536
 · rw[enc3 (by omega) h3];refine⟨by simp;omega,fun x hx=> ?_⟩;simp at hx;omega
 · rw[enc4 (by omega)];refine⟨by simp;omega,fun x hx=> ?_⟩;simp at hx;omega
theorem aqz (v:Bool)(r:Int)(T:List Int)(hc:Chr r)(h1:r≠38)(h2:r≠13)(h3:v=true→r≠9∧r≠10):aaA v (aaR r++T)=(0,aaR r,(aaR r).length):=by
 have hb:=amG hc;have hd:(aaR r++T).getD 0 0=(aaR r).getD 0 0:=aiD _ _ (aft r);have D:=akZ r T hb
 have g38:(aaR r).getD 0 0≠38:=by
  by_cases h:r < 128
  · rw[enc1 h];simpa using h1
  · have:=(aiP r hb (by omega)).1;omega
 have g13:(aaR r).getD 0 0≠13:=by
  by_cases h:r < 128
  · rw[enc1 h];simpa using h2
  · have:=(aiP r hb (by omega)).1;omega
 unfold aaA;rw[hd,if_neg g38,if_neg g13];by_cases h4:(aaR r).getD 0 0=9∨(aaR r).getD 0 0=10
 · rw[if_pos h4]
   have hr:r < 128:=by
    by_cases h:r < 128
    · exact h
    · have:=(aiP r hb (by omega)).1;omega
   rw[enc1 hr] at h4 ⊢;simp only[List.getD_cons_zero] at h4 ⊢
   have hv:v=false:=by
    cases v with
    | false=>rfl
    | true=>have:=h3 rfl;omega
   subst hv;rfl
 · rw[if_neg h4,D];simp[hc]
theorem ata (a T:List Int)(h:59 ∉ a):abg (a++59 :: T)=a:=by
 unfold abg
 induction a with
 | nil=>simp
 | cons x a ih=>
   rw[List.cons_append,List.takeWhile_cons,if_pos (by simp only[decide_eq_true_eq];intro e;exact h (by simp[e]))];rw[ih (fun hh=>h (by simp[hh]))]
theorem aia (v:Bool)(f:Int→List Int):∀ (l:List Int),(∀ r∈l,f r≠[]∧NN (f r)∧∀ T,aaA v (f r++T)=(0,aaR r,(f r).length))→
 NN (l.flatMap f)∧aaY v (l.flatMap f)=(l.flatMap aaR,(l.flatMap f).length,0)
 | [],_=>⟨fun x hx=>by simp at hx,rfl⟩
 | r :: l,h=>by
   obtain⟨h1,h2,h3⟩:=h r (by simp);obtain⟨i1,i2⟩:=aia v f l fun x hx=>h x (by simp[hx])
   have hnn:NN (f r++l.flatMap f):=fun x hx=>by
    rcases List.mem_append.1 hx with hx | hx
    · exact h2 x hx
    · exact i1 x hx
   have hne:f r++l.flatMap f≠[]:=by
    intro e;exact h1 (List.append_eq_nil_iff.1 e).1
   rw[List.flatMap_cons];refine⟨hnn,?_⟩;have hs:=h3 (l.flatMap f);rw[afT v _ hne hnn (by rw[hs]),hs];simp only[List.drop_left];rw[i2];simp
theorem avh {l:List Int}(hn:NN l)(h:Rt l):l=(acV l).1.flatMap aaR∧∀ r∈(acV l).1,Chr r:=by
 obtain⟨hg,hp,_,h4,_⟩:=ags l.length l (Nat.le_refl _) hn;rw[h4 h.1,List.take_length] at hp;refine⟨?_,h.2⟩
 conv=>lhs;rw[← hp]
 have:∀ (m:List Int),Good m→m.flatMap auw=m.flatMap aaR:=by
  intro m
  induction m with
  | nil=>intro _;rfl
  | cons x m ih=>
    intro hm;rw[List.flatMap_cons,List.flatMap_cons,apo (hm x (by simp)),ih fun y hy=>hm y (by simp[hy])]
 exact this _ hg
theorem a0a (v:Bool)(l:List Int)(hn:NN l)(h:Rt l)(h1:38 ∉ l)(h2:13 ∉ l)(h3:v=true→9 ∉ l∧10 ∉ l):aaY v l=(l,l.length,0):=by
 obtain⟨e,hc⟩:=avh hn h
 have M:∀ r∈(acV l).1,r < 128→r∈l:=fun r hr hlt=>by
  rw[e];exact List.mem_flatMap.2 ⟨r,hr,by rw[enc1 hlt];simp⟩
 have R:=(aia v aaR (acV l).1 fun r hr=>⟨aft r,(afu r (amG (hc r hr))).1,fun T=>aqz v r T (hc r hr)
  (fun h=>h1 (h ▸ M r hr (by omega))) (fun h=>h2 (h ▸ M r hr (by omega)))
  (fun hv=>⟨fun h=>(h3 hv).1 (h ▸ M r hr (by omega)),fun h=>(h3 hv).2 (h ▸ M r hr (by omega))⟩)⟩).2
 rw[← e] at R;exact R
end Go.Proofs.YtnomcldpbkinmaaGreatDoor
