/- Lemmas of the claim. -/
import Derived.Test.YtnomcldpbkinmaaGreatDoorG32
import Derived.Test.YtnomcldpbkinmaaGreatDoorG26
import Derived.Test.YtnomcldpbkinmaaGreatDoorG27
import Derived.Test.YtnomcldpbkinmaaGreatDoorG21
set_option maxHeartbeats 8000000
set_option maxRecDepth 100000
set_option linter.unusedSimpArgs false
set_option linter.unusedVariables false
namespace Go.Proofs.YtnomcldpbkinmaaGreatDoor
open Go.RowKit
theorem aak {w w2 w3:World}(h:w.heap.size < w2.heap.size∧Below w.heap.size w w2∧aiF w2 w.heap.size)(hb3:Below w2.heap.size w2 w3):w.heap.size < w3.heap.size∧Below w.heap.size w w3∧aiF w3 w.heap.size:=
 ⟨Nat.lt_of_lt_of_le h.1 hb3.size,h.2.1.trans (hb3.mono h.2.1.size),h.2.2.keep hb3 h.1⟩
theorem abt (w:World):w.heap.size < (w.alloc (.cells #[.int .i64 0,.string ⟨#[]⟩,.bool false,.bool false] 42)).heap.size∧Below w.heap.size w (w.alloc (.cells #[.int .i64 0,.string ⟨#[]⟩,.bool false,.bool false] 42))∧aiF (w.alloc (.cells #[.int .i64 0,.string ⟨#[]⟩,.bool false,.bool false] 42)) w.heap.size:=
 ⟨by rw[aaC];omega,(Below.refl _ w).alloc (Nat.le_refl _) _,acd w⟩
def IxC (s:ByteArray)(x:Int):Prop:=∀ W,Gl W→Calls Tryz.prog 86 #[.string s,.string ⟨#[60]⟩] W fun e w'=>e=.returned (.int .i64 x)∧W=w'
def CoC (s:ByteArray)(b:Bool):Prop:=∀ W,Gl W→Calls Tryz.prog 88 #[.string s,.string ⟨#[93,93,62]⟩] W fun e w'=>e=.returned (.bool b)∧W=w'
def TxC (s t:ByteArray)(m er:Int):Prop:=∀ W,Gl W→Calls Tryz.prog 89 #[.string s] W fun e w'=>e=.returned (.tuple #[.string t,.int .i64 m,.int .i64 er])∧Below W.heap.size W w'
theorem a1A (s:ByteArray)(more:Bool)(C1:Hid (IxC s (-1)))(hm:more=true)(w:World)(hG:Gl w):Calls Tryz.prog 71 #[.string s,.bool more] w (aaI (T0,0,7) w):=by
 subst hm;have HN:=aac (abt w);have HG:=aac (hG.after HN.out.2.1);clear hG;go_enter Tryz.func71,Tryz.ntmps71;go_wp2_with fail;refine(C1.out _ HG.out).mono ?_;rintro e w1 ⟨rfl,rfl⟩;obtain⟨hz,hb,⟨c0,c1,c2,c3,f0,f1,f2,f3⟩⟩:=HN.out;have HB:=aac hb;clear hb;go_wp2_with fail;exact bodyPost_ret (v:=.tuple #[tkV T0,.int .i64 0,.int .i64 7]) (by rw[tk0];simp[results,Tryz.results71,go_sem,c0,c1,c2,c3,hz]) rfl ⟨T0,0,rfl,fun _=>⟨rfl,rfl⟩,HB.out⟩
theorem a1b (s:ByteArray)(more:Bool)(x:Int)(n:Nat)(hs:s.size≤10000)(hn:n≤s.size)(hx:x=(n:Int)∨(x= -1∧more=false∧n=s.size))(C1:Hid (IxC s x))(er:Int)(her:er≠0)(C2:Hid (SoC (s.extract 0 n) er))(w:World)(hG:Gl w):Calls Tryz.prog 71 #[.string s,.bool more] w (aaI (T0,0,er) w):=by
 have HN:=aac (abt w);have HG:=aac (hG.after HN.out.2.1);clear hG;have d1:(0:Int)≤(n:Int):=(by omega);have d2:(n:Int)≤(s.size:Int):=(by omega);have d3:¬ (n:Int) < 0:=(by omega);have t1:(er != 0)=true:=by rw[bne_iff_ne];exact her
 clear her;rcases hx with rfl | ⟨rfl,rfl,rfl⟩
 · clear hn;go_enter Tryz.func71,Tryz.ntmps71;go_wp2_with fail;refine(C1.out _ HG.out).mono ?_;rintro e w1 ⟨rfl,rfl⟩;go_wp2_with fail;refine(C2.out _).mono ?_;rintro e w2 ⟨rfl,hb2⟩;have h2:=aak HN.out hb2;have HG2:=aac (HG.out.after hb2);clear hb2;obtain⟨hz,hb,⟨c0,c1,c2,c3,f0,f1,f2,f3⟩⟩:=h2;have HB:=aac hb;clear hb;go_wp2_with fail;exact bodyPost_ret (v:=.tuple #[tkV T0,.int .i64 0,.int .i64 er]) (by rw[tk0];simp[results,Tryz.results71,go_sem,c0,c1,c2,c3,hz]) rfl ⟨T0,0,rfl,fun _=>⟨rfl,rfl⟩,aag HB.out (Nat.le_refl _) _ _ _ _⟩
 · rw[Nz.aht s s.size (Nat.le_refl _)] at C2;clear d3 d2 hn;go_enter Tryz.func71,Tryz.ntmps71;go_wp2_with fail;refine(C1.out _ HG.out).mono ?_;rintro e w1 ⟨rfl,rfl⟩;go_wp2_with fail;refine(C2.out _).mono ?_;rintro e w2 ⟨rfl,hb2⟩;have h2:=aak HN.out hb2;have HG2:=aac (HG.out.after hb2);clear hb2;obtain⟨hz,hb,⟨c0,c1,c2,c3,f0,f1,f2,f3⟩⟩:=h2;have HB:=aac hb;clear hb;go_wp2_with fail;exact bodyPost_ret (v:=.tuple #[tkV T0,.int .i64 0,.int .i64 er]) (by rw[tk0];simp[results,Tryz.results71,go_sem,c0,c1,c2,c3,hz]) rfl ⟨T0,0,rfl,fun _=>⟨rfl,rfl⟩,aag HB.out (Nat.le_refl _) _ _ _ _⟩
theorem azp (s:ByteArray)(more:Bool)(x:Int)(n:Nat)(hs:s.size≤10000)(hn:n≤s.size)(hx:x=(n:Int)∨(x= -1∧more=false∧n=s.size))(C1:Hid (IxC s x))(C2:Hid (SoC (s.extract 0 n) 0))(C3:Hid (CoC (s.extract 0 n) true))(w:World)(hG:Gl w):Calls Tryz.prog 71 #[.string s,.bool more] w (aaI (T0,0,6) w):=by
 have HN:=aac (abt w);have HG:=aac (hG.after HN.out.2.1);clear hG;have d1:(0:Int)≤(n:Int):=(by omega);have d2:(n:Int)≤(s.size:Int):=(by omega);have d3:¬ (n:Int) < 0:=(by omega);rcases hx with rfl | ⟨rfl,rfl,rfl⟩
 · clear hn;go_enter Tryz.func71,Tryz.ntmps71;go_wp2_with fail;refine(C1.out _ HG.out).mono ?_;rintro e w1 ⟨rfl,rfl⟩;go_wp2_with fail;refine(C2.out _).mono ?_;rintro e w2 ⟨rfl,hb2⟩;have h2:=aak HN.out hb2;have HG2:=aac (HG.out.after hb2);clear hb2;go_wp2_with fail;refine(C3.out _ HG2.out).mono ?_;rintro e w3 ⟨rfl,rfl⟩;obtain⟨hz,hb,⟨c0,c1,c2,c3,f0,f1,f2,f3⟩⟩:=h2;have HB:=aac hb;clear hb;go_wp2_with fail;exact bodyPost_ret (v:=.tuple #[tkV T0,.int .i64 0,.int .i64 6]) (by rw[tk0];simp[results,Tryz.results71,go_sem,c0,c1,c2,c3,hz]) rfl ⟨T0,0,rfl,fun _=>⟨rfl,rfl⟩,aag HB.out (Nat.le_refl _) _ _ _ _⟩
 · rw[Nz.aht s s.size (Nat.le_refl _)] at C2 C3;clear d3 d2 hn;go_enter Tryz.func71,Tryz.ntmps71;go_wp2_with fail;refine(C1.out _ HG.out).mono ?_;rintro e w1 ⟨rfl,rfl⟩;go_wp2_with fail;refine(C2.out _).mono ?_;rintro e w2 ⟨rfl,hb2⟩;have h2:=aak HN.out hb2;have HG2:=aac (HG.out.after hb2);clear hb2;go_wp2_with fail;refine(C3.out _ HG2.out).mono ?_;rintro e w3 ⟨rfl,rfl⟩;obtain⟨hz,hb,⟨c0,c1,c2,c3,f0,f1,f2,f3⟩⟩:=h2;have HB:=aac hb;clear hb;go_wp2_with fail;exact bodyPost_ret (v:=.tuple #[tkV T0,.int .i64 0,.int .i64 6]) (by rw[tk0];simp[results,Tryz.results71,go_sem,c0,c1,c2,c3,hz]) rfl ⟨T0,0,rfl,fun _=>⟨rfl,rfl⟩,aag HB.out (Nat.le_refl _) _ _ _ _⟩
theorem azW (s:ByteArray)(more:Bool)(x:Int)(n:Nat)(hs:s.size≤10000)(hn:n≤s.size)(hx:x=(n:Int)∨(x= -1∧more=false∧n=s.size))(C1:Hid (IxC s x))(t:ByteArray)(m er:Int)(her:er≠0)(C2:Hid (SoC (s.extract 0 n) 0))(C3:Hid (CoC (s.extract 0 n) false))(C4:Hid (TxC (s.extract 0 n) t m er))(w:World)(hG:Gl w):Calls Tryz.prog 71 #[.string s,.bool more] w (aaI (T0,0,er) w):=by
 have HN:=aac (abt w);have HG:=aac (hG.after HN.out.2.1);clear hG;have d1:(0:Int)≤(n:Int):=(by omega);have d2:(n:Int)≤(s.size:Int):=(by omega);have d3:¬ (n:Int) < 0:=(by omega);have t1:(er != 0)=true:=by rw[bne_iff_ne];exact her
 clear her;rcases hx with rfl | ⟨rfl,rfl,rfl⟩
 · clear hn;go_enter Tryz.func71,Tryz.ntmps71;go_wp2_with fail;refine(C1.out _ HG.out).mono ?_;rintro e w1 ⟨rfl,rfl⟩;go_wp2_with fail;refine(C2.out _).mono ?_;rintro e w2 ⟨rfl,hb2⟩;have h2:=aak HN.out hb2;have HG2:=aac (HG.out.after hb2);clear hb2;go_wp2_with fail;refine(C3.out _ HG2.out).mono ?_;rintro e w3 ⟨rfl,rfl⟩;go_wp2_with fail;refine(C4.out _ HG2.out).mono ?_;rintro e w4 ⟨rfl,hb4⟩;have h4:=aak h2 hb4;clear hb4 h2 HG2;obtain⟨hz,hb,⟨c0,c1,c2,c3,f0,f1,f2,f3⟩⟩:=h4;have HB:=aac hb;clear hb;go_wp2_with fail;exact bodyPost_ret (v:=.tuple #[tkV T0,.int .i64 0,.int .i64 er]) (by rw[tk0];simp[results,Tryz.results71,go_sem,c0,c1,c2,c3,hz]) rfl ⟨T0,0,rfl,fun _=>⟨rfl,rfl⟩,aag HB.out (Nat.le_refl _) _ _ _ _⟩
 · rw[Nz.aht s s.size (Nat.le_refl _)] at C2 C3 C4;clear d3 d2 hn;go_enter Tryz.func71,Tryz.ntmps71;go_wp2_with fail;refine(C1.out _ HG.out).mono ?_;rintro e w1 ⟨rfl,rfl⟩;go_wp2_with fail;refine(C2.out _).mono ?_;rintro e w2 ⟨rfl,hb2⟩;have h2:=aak HN.out hb2;have HG2:=aac (HG.out.after hb2);clear hb2;go_wp2_with fail;refine(C3.out _ HG2.out).mono ?_;rintro e w3 ⟨rfl,rfl⟩;go_wp2_with fail;refine(C4.out _ HG2.out).mono ?_;rintro e w4 ⟨rfl,hb4⟩;have h4:=aak h2 hb4;clear hb4 h2 HG2;obtain⟨hz,hb,⟨c0,c1,c2,c3,f0,f1,f2,f3⟩⟩:=h4;have HB:=aac hb;clear hb;go_wp2_with fail;exact bodyPost_ret (v:=.tuple #[tkV T0,.int .i64 0,.int .i64 er]) (by rw[tk0];simp[results,Tryz.results71,go_sem,c0,c1,c2,c3,hz]) rfl ⟨T0,0,rfl,fun _=>⟨rfl,rfl⟩,aag HB.out (Nat.le_refl _) _ _ _ _⟩
theorem auy (s:ByteArray)(more:Bool)(x:Int)(n:Nat)(hs:s.size≤10000)(hn:n≤s.size)(hx:x=(n:Int)∨(x= -1∧more=false∧n=s.size))(C1:Hid (IxC s x))(t:ByteArray)(m:Int)(b:Bool)(l:List Int)(ht:t=strOfNums l)(C2:Hid (SoC (s.extract 0 n) 0))(C3:Hid (CoC (s.extract 0 n) false))(C4:Hid (TxC (s.extract 0 n) t m 0))(C5:Hid (a2c (s.extract 0 n) b))(w:World)(hG:Gl w):Calls Tryz.prog 71 #[.string s,.bool more] w (aaI (⟨3,l,false,b⟩,n,0) w):=by
 have HN:=aac (abt w);have HG:=aac (hG.after HN.out.2.1);clear hG;have d1:(0:Int)≤(n:Int):=(by omega);have d2:(n:Int)≤(s.size:Int):=(by omega);have d3:¬ (n:Int) < 0:=(by omega);have HT:=aac ht;clear ht;rcases hx with rfl | ⟨rfl,rfl,rfl⟩
 · clear hn;go_enter Tryz.func71,Tryz.ntmps71;go_wp2_with fail;refine(C1.out _ HG.out).mono ?_;rintro e w1 ⟨rfl,rfl⟩;go_wp2_with fail;refine(C2.out _).mono ?_;rintro e w2 ⟨rfl,hb2⟩;have h2:=aak HN.out hb2;have HG2:=aac (HG.out.after hb2);clear hb2;go_wp2_with fail;refine(C3.out _ HG2.out).mono ?_;rintro e w3 ⟨rfl,rfl⟩;go_wp2_with fail;refine(C4.out _ HG2.out).mono ?_;rintro e w4 ⟨rfl,hb4⟩;have h4:=aak h2 hb4;clear hb4 h2 HG2;go_wp2_with fail;refine(C5.out _).mono ?_;rintro e w5 ⟨rfl,hb5⟩;have h5:=aak h4 hb5;clear hb5 h4;obtain⟨hz,hb,⟨c0,c1,c2,c3,f0,f1,f2,f3⟩⟩:=h5;have HB:=aac hb;clear hb;go_wp2_with fail;exact bodyPost_ret (v:=.tuple #[.agg #[.int .i64 3,.string t,.bool false,.bool b],.int .i64 (n:Int),.int .i64 0]) (by simp[results,Tryz.results71,go_sem,c0,c1,c2,c3,hz]) rfl ⟨⟨3,l,false,b⟩,(n:Int),by unfold tkV;rw[HT.out],fun _=>⟨rfl,rfl⟩,aag HB.out (Nat.le_refl _) _ _ _ _⟩
 · rw[Nz.aht s s.size (Nat.le_refl _)] at C2 C3 C4 C5;clear d3 d2 hn;go_enter Tryz.func71,Tryz.ntmps71;go_wp2_with fail;refine(C1.out _ HG.out).mono ?_;rintro e w1 ⟨rfl,rfl⟩;go_wp2_with fail;refine(C2.out _).mono ?_;rintro e w2 ⟨rfl,hb2⟩;have h2:=aak HN.out hb2;have HG2:=aac (HG.out.after hb2);clear hb2;go_wp2_with fail;refine(C3.out _ HG2.out).mono ?_;rintro e w3 ⟨rfl,rfl⟩;go_wp2_with fail;refine(C4.out _ HG2.out).mono ?_;rintro e w4 ⟨rfl,hb4⟩;have h4:=aak h2 hb4;clear hb4 h2 HG2;go_wp2_with fail;refine(C5.out _).mono ?_;rintro e w5 ⟨rfl,hb5⟩;have h5:=aak h4 hb5;clear hb5 h4;obtain⟨hz,hb,⟨c0,c1,c2,c3,f0,f1,f2,f3⟩⟩:=h5;have HB:=aac hb;clear hb;go_wp2_with fail;exact bodyPost_ret (v:=.tuple #[.agg #[.int .i64 3,.string t,.bool false,.bool b],.int .i64 (s.size:Int),.int .i64 0]) (by simp[results,Tryz.results71,go_sem,c0,c1,c2,c3,hz]) rfl ⟨⟨3,l,false,b⟩,(s.size:Int),by unfold tkV;rw[HT.out],fun _=>⟨rfl,rfl⟩,aag HB.out (Nat.le_refl _) _ _ _ _⟩
theorem aqj (s:ByteArray)(more:Bool)(w:World)(hG:Gl w)(hs:s.size≤10000):Calls Tryz.prog 71 #[.string s,.bool more] w (aaI (afC more (aad s)) w):=by
 have C1:IxC s (aiQ [60] (aad s)):=fun W hW=>ajz s ⟨#[60]⟩ W (by omega) hW
 have key:∀ (x:Int) (n:Nat),n≤s.size→(x=(n:Int)∨(x= -1∧more=false∧n=s.size))→IxC s x→Calls Tryz.prog 71 #[.string s,.bool more] w (aaI (ade (aad s) n) w):=fun x n hn hx C1=>by
  have hsz:(s.extract 0 n).size≤10000:=by rw[ByteArray.size_extract];omega
  have C2:=ala s n hs;have C3:CoC (s.extract 0 n) (fnd adJ ((aad s).take n)).isSome:=fun W hW=>aff (s.extract 0 n) ⟨#[93,93,62]⟩ W (by omega) hW _ (by rw[aeO];rfl)
  have C4:TxC (s.extract 0 n) (strOfNums (abH false ((aad s).take n)).1) (abH false ((aad s).take n)).2.1 (abH false ((aad s).take n)).2.2:=fun W hW=>by
   have:=avc (s.extract 0 n) W (by omega) hW.vars;rw[aeO] at this;exact this
  have C5:a2c (s.extract 0 n) (((aad s).take n).all abf):=by
   have:=ani (s.extract 0 n);rw[aeO] at this;exact this
  unfold ade;by_cases h1:aaz ((aad s).take n)≠0
  · rw[if_pos h1];exact a1b s more x n hs hn hx (aac C1) _ h1 (aac C2) w hG
  rw[if_neg h1];have h1':aaz ((aad s).take n)=0:=(by simpa using h1);rw[h1'] at C2
  cases h2:(fnd adJ ((aad s).take n)).isSome with
  | true=>
    rw[h2] at C3;rw[if_pos rfl];exact azp s more x n hs hn hx (aac C1) (aac C2) (aac C3) w hG
  | false=>
    rw[h2] at C3;rw[if_neg (by simp)];by_cases h3:(abH false ((aad s).take n)).2.2≠0
    · rw[if_pos h3];exact azW s more x n hs hn hx (aac C1) _ _ _ h3 (aac C2) (aac C3) (aac C4) w hG
    · rw[if_neg h3];have h3':(abH false ((aad s).take n)).2.2=0:=(by simpa using h3);rw[h3'] at C4;exact auy s more x n hs hn hx (aac C1) _ _ _ _ rfl (aac C2) (aac C3) (aac C4) (aac C5) w hG
 unfold afC
 cases hf:fnd [60] (aad s) with
 | some n=>
   rw[acy hf] at C1;have hb:=(abG hf).1;rw[aae,List.length_singleton] at hb;exact key n n (by omega) (.inl rfl) C1
 | none=>
   rw[acW hf] at C1
   cases more with
   | true=>exact a1A s true (aac C1) rfl w hG
   | false=>
     show Calls _ _ _ _ (aaI (ade (aad s) (aad s).length) w);rw[aae];exact key (-1) s.size (Nat.le_refl _) (.inr ⟨rfl,rfl,rfl⟩) C1
end Go.Proofs.YtnomcldpbkinmaaGreatDoor
namespace Go.Proofs.YtnomcldpbkinmaaGreatDoor
open Go.RowKit
theorem ahy (s:ByteArray)(at_:Int)(w:World)(he:s.toList.isEmpty=true):Calls Tryz.prog 50 #[.string s,.int .i64 at_,.bool true] w (aaI (T0,0,7) w):=by
 have HN:=aac (abt w);go_enter Tryz.func50,Tryz.ntmps50;go_wp2_with fail;exact bodyPost_ret (v:=.tuple #[tkV T0,.int .i64 0,.int .i64 7]) (by rw[tk0];simp[results,Tryz.results50,go_sem]) rfl ⟨T0,0,rfl,fun _=>⟨rfl,rfl⟩,HN.out.2.1⟩
theorem ahz (s:ByteArray)(at_:Int)(w:World)(he:s.toList.isEmpty=true):Calls Tryz.prog 50 #[.string s,.int .i64 at_,.bool false] w (aaI (⟨6,[],false,false⟩,0,0) w):=by
 go_enter Tryz.func50,Tryz.ntmps50;go_wp2_with fail;exact bodyPost_ret (v:=.tuple #[tkV ⟨6,[],false,false⟩,.int .i64 0,.int .i64 0]) (by unfold tkV;rw[acj];simp[results,Tryz.results50,go_sem]) rfl ⟨⟨6,[],false,false⟩,0,rfl,fun _=>⟨rfl,rfl⟩,(Below.refl _ w).alloc (Nat.le_refl _) _⟩
def ToC (f:Nat)(args:Array Value)(x:Tk × Nat × Int):Prop:=∀ W,Gl W→Calls Tryz.prog f args W (aaI x W)
theorem aoH (s:ByteArray)(at_:Int)(more:Bool)(x:Tk × Nat × Int)(w:World)(hG:Gl w)(he:s.toList.isEmpty=false)(h1:0 < s.size)(h0:(((s[0]).toNat:Int) == 60)=true)(C:Hid (ToC 70 #[.string s,.int .i64 at_] x)):
 Calls Tryz.prog 50 #[.string s,.int .i64 at_,.bool more] w (aaI x w):=by
 have HN:=aac (abt w);have HG:=aac (hG.after HN.out.2.1);clear hG;go_enter Tryz.func50,Tryz.ntmps50;go_wp2_with fail;refine(C.out _ HG.out).mono ?_;rintro e w3 ⟨⟨kd,tx,em,bk⟩,n,rfl,hx,hb3⟩;have HX:=aac hx;obtain⟨hz,hb,⟨c0,c1,c2,c3,f0,f1,f2,f3⟩⟩:=aak HN.out hb3;have HB:=aac hb;clear hb3 hb hx;unfold tkV;dsimp only;generalize hst:strOfNums tx=str;have HS:=aac hst;clear hst;go_wp2_with fail;exact bodyPost_ret (v:=.tuple #[.agg #[.int .i64 kd,.string str,.bool em,.bool bk],.int .i64 n,.int .i64 x.2.2]) (by simp[results,Tryz.results50,go_sem,c0,c1,c2,c3,hz]) rfl ⟨⟨kd,tx,em,bk⟩,n,by rw[← HS.out];rfl,HX.out,aag HB.out (Nat.le_refl _) _ _ _ _⟩
theorem aey (s:ByteArray)(at_:Int)(more:Bool)(x:Tk × Nat × Int)(w:World)(hG:Gl w)(he:s.toList.isEmpty=false)(h1:0 < s.size)(h0:(((s[0]).toNat:Int) == 60)=false)(C:Hid (ToC 71 #[.string s,.bool more] x)):
 Calls Tryz.prog 50 #[.string s,.int .i64 at_,.bool more] w (aaI x w):=by
 have HN:=aac (abt w);have HG:=aac (hG.after HN.out.2.1);clear hG;go_enter Tryz.func50,Tryz.ntmps50;go_wp2_with fail;refine(C.out _ HG.out).mono ?_;rintro e w3 ⟨⟨kd,tx,em,bk⟩,n,rfl,hx,hb3⟩;have HX:=aac hx;obtain⟨hz,hb,⟨c0,c1,c2,c3,f0,f1,f2,f3⟩⟩:=aak HN.out hb3;have HB:=aac hb;clear hb3 hb hx;unfold tkV;dsimp only;generalize hst:strOfNums tx=str;have HS:=aac hst;clear hst;go_wp2_with fail;exact bodyPost_ret (v:=.tuple #[.agg #[.int .i64 kd,.string str,.bool em,.bool bk],.int .i64 n,.int .i64 x.2.2]) (by simp[results,Tryz.results50,go_sem,c0,c1,c2,c3,hz]) rfl ⟨⟨kd,tx,em,bk⟩,n,by rw[← HS.out];rfl,HX.out,aag HB.out (Nat.le_refl _) _ _ _ _⟩
theorem aqO (s:ByteArray)(a:Nat)(more:Bool)(w:World)(hG:Gl w)(hs:s.size≤10000):Calls Tryz.prog 50 #[.string s,.int .i64 (a:Int),.bool more] w (aaI (abm (decide (a=0)) more (aad s)) w):=by
 have hE:=Nz.isE s;unfold abm;by_cases h0:s.size=0
 · have hn:aad s=[]:=List.eq_nil_of_length_eq_zero (by rw[aae];exact h0);rw[if_pos hn];rw[decide_eq_true h0] at hE
   cases more with
   | true=>exact ahy s a w hE
   | false=>exact ahz s a w hE
 · rw[decide_eq_false h0] at hE;rw[if_neg (fun h=>h0 (by rw[← aae,h];rfl))];have h1:0 < s.size:=(by omega);have hb:=aaG s 0 h1;by_cases h2:(aad s).getD 0 0=60
   · rw[if_pos h2];exact aoH s a more _ w hG hE h1 (by rw[hb,h2];rfl) (aac fun W hW=>aoS s a W hW hs h2)
   · rw[if_neg h2];exact aey s a more _ w hG hE h1 (by rw[hb,beq_eq_false_iff_ne];exact h2) (aac fun W hW=>aqj s more W hW hs)
def abh (x:Tk × Nat × Int)(a:Nat)(w:World)(e:Ending)(w':World):Prop:=
 e=.returned (.tuple #[tkV x.1,.int .i64 ((a:Int)+(x.2.1:Int)),.int .i64 x.2.2])∧Below w.heap.size w w'
theorem ahO (z more:Bool)(l:List Int)(h:(abm z more l).2.2≠0):abm z more l=(T0,0,(abm z more l).2.2):=by
 by_cases hl:l=[]
 · subst hl
   cases more with
   | true=>rfl
   | false=>exact absurd rfl h
 · obtain⟨h1,h2⟩:=(ahk z more l hl).zero h;rw[← h1,← h2]
theorem aro (z more:Bool)(l:List Int):(abm z more l).2.1≤l.length:=by
 by_cases h:(abm z more l).2.2=0
 · by_cases hl:l=[]
   · subst hl
     cases more with
     | true=>exact Nat.le_refl _
     | false=>exact Nat.le_refl _
   · exact((ahk z more l hl).size h).2.1
 · rw[ahO z more l h];exact Nat.zero_le _
theorem auL (s:ByteArray)(a:Nat)(more:Bool)(m:Nat)(er:Int)(w:World)(hG:Gl w)(hs:s.size≤10000)(ha:a≤s.size)(her:er≠0)(y:Tk)(C:Hid (ToC 50 #[.string (s.extract a s.size),.int .i64 (a:Int),.bool more] (y,m,er))):
 Calls Tryz.prog 32 #[.string s,.int .i64 (a:Int),.bool more] w (abh (T0,0,er) a w):=by
 have HN:=aac (abt w);have HG:=aac (hG.after HN.out.2.1);have t1:(er != 0)=true:=by rw[bne_iff_ne];exact her
 have d1:¬ (a:Int) < 0:=(by omega);have d2:¬ (s.size:Int) < (a:Int):=(by omega);have d3:(0:Int)≤(a:Int):=(by omega);have d4:(a:Int)≤(s.size:Int):=(by omega);have d5:¬ s.size < a:=(by omega);clear hG her;go_enter Tryz.func32,Tryz.ntmps32;go_wp2_with fail;refine(C.out _ HG.out).mono ?_;rintro e w3 ⟨⟨kd,tx,em,bk⟩,n,rfl,hx,hb3⟩;have h3:=aak HN.out hb3;clear hx hb3;unfold tkV;dsimp only;generalize strOfNums tx=str;have hA:=(Below.refl w3.heap.size w3).alloc (Nat.le_refl _) (.cells #[.int .i64 kd,.string str,.bool em,.bool bk] 42);obtain⟨hz,hb,⟨c0,c1,c2,c3,f0,f1,f2,f3⟩⟩:=aak h3 hA;have HB:=aac hb;clear hb h3 hA;go_wp2_with fail;exact bodyPost_ret (v:=.tuple #[tkV T0,.int .i64 (a:Int),.int .i64 er]) (by rw[tk0];simp[results,Tryz.results32,go_sem,c0,c1,c2,c3,hz]) rfl ⟨by show _=Ending.returned (.tuple #[tkV T0,.int .i64 ((a:Int)+((0:Nat):Int)),.int .i64 er]);rw[show (a:Int)+((0:Nat):Int)=a by omega],aag HB.out (Nat.le_refl _) _ _ _ _⟩
theorem awW (s:ByteArray)(a:Nat)(more:Bool)(m:Nat)(w:World)(hG:Gl w)(hs:s.size≤10000)(ha:a≤s.size)(hm:m≤10000)(y:Tk)(C:Hid (ToC 50 #[.string (s.extract a s.size),.int .i64 (a:Int),.bool more] (y,m,0))):
 Calls Tryz.prog 32 #[.string s,.int .i64 (a:Int),.bool more] w (abh (y,m,0) a w):=by
 have HN:=aac (abt w);have HG:=aac (hG.after HN.out.2.1);have d1:¬ (a:Int) < 0:=(by omega);have d2:¬ (s.size:Int) < (a:Int):=(by omega);have d3:(0:Int)≤(a:Int):=(by omega);have d4:(a:Int)≤(s.size:Int):=(by omega);have d5:¬ s.size < a:=(by omega);have q1:IntKind.i64.wrap ((a:Int)+(m:Int))=(a:Int)+(m:Int):=IntWalk.i64_in _ (by omega);clear hG;obtain⟨kd,tx,em,bk⟩:=y;go_enter Tryz.func32,Tryz.ntmps32;go_wp2_with fail;refine(C.out _ HG.out).mono ?_;rintro e w3 ⟨y',n,rfl,hx,hb3⟩;obtain⟨rfl,rfl⟩:=hx rfl;have h3:=aak HN.out hb3;clear hx hb3;unfold tkV;dsimp only;generalize hst:strOfNums tx=str;have HS:=aac hst;clear hst;have hA:=(Below.refl w3.heap.size w3).alloc (Nat.le_refl _) (.cells #[.int .i64 kd,.string str,.bool em,.bool bk] 42);obtain⟨hz,hb,⟨c0,c1,c2,c3,f0,f1,f2,f3⟩⟩:=aak h3 hA;have HB:=aac hb;clear hb h3 hA;go_wp2_with fail;exact bodyPost_ret (v:=.tuple #[.agg #[.int .i64 kd,.string str,.bool em,.bool bk],.int .i64 ((a:Int)+(m:Int)),.int .i64 0]) (by simp[results,Tryz.results32,go_sem,c0,c1,c2,c3,hz]) rfl ⟨by rw[← HS.out];rfl,aag HB.out (Nat.le_refl _) _ _ _ _⟩
theorem aqS (s:ByteArray)(a:Nat)(more:Bool)(w:World)(hG:Gl w)(hs:s.size≤10000)(ha:a≤s.size):Calls Tryz.prog 32 #[.string s,.int .i64 (a:Int),.bool more] w (abh (abm (decide (a=0)) more ((aad s).drop a)) a w):=by
 have e:aad (s.extract a s.size)=(aad s).drop a:=by rw[aal,List.take_of_length_le (by rw[aae];omega)]
 have C:ToC 50 #[.string (s.extract a s.size),.int .i64 (a:Int),.bool more] (abm (decide (a=0)) more ((aad s).drop a)):=fun W hW=>by
  have:=aqO (s.extract a s.size) a more W hW (by rw[ByteArray.size_extract];omega);rw[e] at this;exact this
 have hl:=aro (decide (a=0)) more ((aad s).drop a);rw[List.length_drop,aae] at hl;by_cases h:(abm (decide (a=0)) more ((aad s).drop a)).2.2=0
 · obtain⟨y,m,er,hx⟩:∃ y m er,abm (decide (a=0)) more ((aad s).drop a)=(y,m,er):=⟨_,_,_,rfl⟩;rw[hx] at C hl h ⊢;have h':er=0:=h;subst h';exact awW s a more m w hG hs ha (by have:m≤s.size - a:=hl;omega) y (aac C)
 · rw[ahO _ _ _ h] at C ⊢;exact auL s a more 0 _ w hG hs ha h T0 (aac C)
theorem ayJ (s:ByteArray)(a:Nat)(x:Tk × Nat × Int)(w:World)(hG:Gl w)(C:Hid (∀ W,Gl W→Calls Tryz.prog 32 #[.string s,.int .i64 (a:Int),.bool false] W (abh x a W))):
 Calls Tryz.prog 22 #[.string s,.int .i64 (a:Int)] w (abh x a w):=by
 have HN:=aac (abt w);have HG:=aac (hG.after HN.out.2.1);clear hG;obtain⟨⟨kd,tx,em,bk⟩,m,er⟩:=x;go_enter Tryz.func22,Tryz.ntmps22;go_wp2_with fail;refine(C.out _ HG.out).mono ?_;rintro e w3 ⟨rfl,hb3⟩;obtain⟨hz,hb,⟨c0,c1,c2,c3,f0,f1,f2,f3⟩⟩:=aak HN.out hb3;have HB:=aac hb;clear hb hb3;unfold tkV;dsimp only;generalize hst:strOfNums tx=str;have HS:=aac hst;clear hst;generalize hmm:(a:Int)+(m:Int)=k;have HM:=aac hmm;clear hmm;go_wp2_with fail;exact bodyPost_ret (v:=.tuple #[.agg #[.int .i64 kd,.string str,.bool em,.bool bk],.int .i64 k,.int .i64 er]) (by simp[results,Tryz.results22,go_sem,c0,c1,c2,c3,hz]) rfl ⟨by rw[← HS.out,← HM.out];rfl,aag HB.out (Nat.le_refl _) _ _ _ _⟩
theorem atC (s:ByteArray)(a:Nat)(w:World)(hG:Gl w)(hs:s.size≤10000)(ha:a≤s.size):Calls Tryz.prog 22 #[.string s,.int .i64 (a:Int)] w (abh (nx (aad s) a) a w):=
 ayJ s a _ w hG (aac fun W hW=>aqS s a false W hW hs ha)
end Go.Proofs.YtnomcldpbkinmaaGreatDoor
namespace Go.Proofs.YtnomcldpbkinmaaGreatDoor.Wl
open Go.RowKit
theorem aaB {P:Program}{w:World}{ops:Array Oper}{rest:List Oper}{o:Oper}{a:Act}{Q:Exit→Act→World→Prop}(hgd:o.guard=none)(s x:Operand)(t:TypeId)
 (ho:o.op=.call { callee:=.builtin .append,args:= #[s,x],argTypes:= #[t,t] })
 (base:Nat) (e:TypeId) (i:TypeInfo) (z:Value) (size bytes:Nat) (ht:P.underlying t=some (.slice e)) (hi:P.info? e=some i) (hz:i.zero=some z) (hsize:i.size=size) (hby:i.bytes=bytes) (hzs:z.cells.size=size) (hsz:0 < size)
 (v:Value) (n:Nat) (xs:List Value) (hs:a.eval s=v) (hown:w.ownsRow base e size v n xs)
 (A:Option Addr) (m c:Nat) (news:List Value) (hx:a.eval x=.slice A m c) (hnil:A=none→m=0∧c=0) (hl:news.length=m * size) (hnews:∀ ad,A=some ad→∀ j u,news[j]?=some u→w.cell? (ad.add j)=some u) (h1:∀ u∈news,u.oneCell'=true)
 (h63:n+m≤maxLen) (hbytes:(n+m) * bytes≤140737488355328) (hbase:base≤w.heap.size)
 (h:∀ v' w',w'.ownsRow base e size v' (n+m) (xs++news)→w.grownBy w' v.ownBlock→wpList P ops Q rest (a.put o.dst v') w'):
 wpList P ops Q (o :: rest) a w:=by
 cases A with
 | some ad=>exact wpList_append_own w hgd s x t ho base e i z size bytes ht hi hz hsize hby hzs hsz v n xs hs hown ad m c news hx hl (hnews ad rfl) h1 h63 hbytes hbase (fun v' w' a1 a2 _=>h v' w' a1 a2)
 | none=>
   obtain⟨rfl,rfl⟩:=hnil rfl;have hnw:news=[]:=List.eq_nil_of_length_eq_zero (by rw[hl,Nat.zero_mul]);subst hnw;refine wpList_plain hgd fun K hK=> ?_;have hr:=run_append_owned_none (P:=P) (w:=w) base t o.type e i size ht hi v n xs hown;unfold Oper.wp execOp;simp only[ho,resolve,invoke,builtin,Sem.run_bind,Sem.run_pure,Result.andThen_ok,List.map_toArray,List.map_cons,List.map_nil,hs,hx,hr];exact hK _ _ (h v w (by rw[List.append_nil];exact hown) ⟨rfl,rfl,rfl,Nat.le_refl _,fun _ _ _=>rfl⟩)
structure EW (w:World)(rb:Nat)(v:Value)(st:St)(out:List Ev)(a:Nat)(W:World):Prop where
 rs:RS w.heap.size rb st W
 ev:aax W w.heap.size v out
 bel:Below w.heap.size w W
 gl0:Gl w
 gd:Gd st
 wt:st.wait.size≤10000 * a
 jn:Jn st out
 len:out.length≤3 * a
theorem EW.gl {w W:World}{rb a:Nat}{v:Value}{st:St}{out:List Ev}(h:EW w rb v st out a W):Gl W:=h.gl0.after h.bel
theorem EW.after {w W W':World}{rb a:Nat}{v:Value}{st:St}{out:List Ev}(h:EW w rb v st out a W)(hb:Below W.heap.size W W'):EW w rb v st out a W':=by
 obtain⟨vw,vo,es,hr⟩:=h.rs;exact⟨⟨vw,vo,es,hr.after hb⟩,h.ev.keep hb,h.bel.trans (hb.mono h.bel.size),h.gl0,h.gd,h.wt,h.jn,h.len⟩
def a2n (s:ByteArray)(w:World)(rb:Nat)(v i:Value)(wr:World):Prop:=
 ∃ (a:Nat) (st:St) (out:List Ev),a≤s.size∧i=.int .i64 a∧Hid (EW w rb v st out a wr)∧Hid (evF (aad s)=evR (aad s) a st out)
def afb (x:List Ev × Nat × Int)(w:World)(e:Ending)(w':World):Prop:=
 ∃ v,e=.returned (.tuple #[v,.int .i64 (x.2.1:Int),.int .i64 x.2.2])∧aax w' w.heap.size v x.1∧Below w.heap.size w w'
theorem aoO {x y:List Ev × Nat × Int}{w w':World}{e:Ending}(h:x=y)(hp:afb y w e w'):afb x w e w':=by rw[h];exact hp
theorem acR {W:World}{B n c z:Nat}{e:TypeId}{A:Option Addr}{xs:List Value}(h:W.ownsRow B e z (.slice A n c) n xs):(A=none→n=0∧c=0)∧∀ ad,A=some ad→∀ j u,xs[j]?=some u→W.cell? (ad.add j)=some u:=by
 rcases h.2 with ⟨q,h0⟩ | ⟨g,cap,cur,q,hB,hh,hr⟩
 · injection q with q1 q2 q3
   refine⟨fun _=>⟨h0,q3⟩,fun ad e=> ?_⟩;rw[q1] at e;cases e
 · injection q with q1 q2 q3
   subst q1;refine⟨(fun e=>by cases e),fun ad e j u hu=> ?_⟩;cases e;exact h.cells rfl j u hu
theorem amY {W w3:World}{B:Nat}{v v':Value}{xs ys:List EvP}{l m:List Ev}(h1:xs.map (·.1)=l)(h2:ys.map (·.1)=m)(ho:W.ownsRow B 50 5 v xs.length (evL xs))(hX:EvO W B xs)(hY:EvO W B ys)(hg:W.grownBy w3 v.ownBlock)(hn:w3.ownsRow B 50 5 v' (xs.length+ys.length) (evL xs++evL ys)):aax w3 B v' (l++m):=by
 refine⟨xs++ys,by rw[List.map_append,h1,h2],?_,(hX.grown ho hg (by decide)).app (hY.grown ho hg (by decide))⟩;rw[asv,List.length_append];exact hn
theorem adX (s:ByteArray)(w:World)(hG:Gl w)(hs:s.size≤5000):Calls Tryz.prog 10 #[.string s] w (afb (evF (aad s)) w):=by
 obtain⟨i0,hi,hz0,hz1,hz2⟩:=info_parts Tryz.info50;have HC:Hid (∀ (a:Nat) W,a≤s.size→Gl W→Calls Tryz.prog 22 #[.string s,.int .i64 (a:Int)] W (abh (nx (aad s) a) a W)):=aac fun a W ha hW=>atC s a W hW (by omega) ha;have CN:=aac (aiW w);have HGl:=aac hG;clear hG;go_enter Tryz.func10,Tryz.ntmps10;go_wp2_with fail;refine CN.out.mono ?_;rintro e w0 ⟨rfl,r0,b0⟩;have HE0:Hid (EW w w.heap.size (.slice none 0 0) st0 [] 0 w0):=aac ⟨⟨_,_,_,r0⟩,aax.nil _ _,b0,HGl.out,gd0,Nat.zero_le _,jn0,Nat.zero_le _⟩;clear r0 b0 CN HGl;go_wp2_with fail;go_loopw [5,7] (fun v i wr=>a2n s w w.heap.size v i wr) (fun _ i _=>s.size - (intOf i).toNat);case atStart=>exact⟨0,st0,[],Nat.zero_le _,rfl,HE0,aac rfl⟩
 case round=>
  obtain⟨a,st,out,ha,rfl,hE,hA⟩:=hrel;have C:=aac (HC.out a wr ha hE.out.gl);have hal:a≤(aad s).length:=by rw[aae];exact ha
  obtain⟨Av,cv,hv⟩:=hE.out.ev.slc;subst hv;by_cases he:(nx (aad s) a).2.2=0
  · have hT:=apY (aad s) a (acS s);rw[aae] at hT;have hKd:=apQ (aad s) a he;have hFt:=fun h=>(ajE (aad s) a h).size he;have G1:=arQ (L:=aad s) (s:=st) out hal he;have G2:=fun h=>alq (L:=aad s) (a:=a) (s:=st) out h he;have G3:=fun h=>ayG (L:=aad s) (a:=a) (s:=st) out h he;obtain⟨⟨kd,tx,em,bk⟩,n,er,hx⟩:∃ y n er,nx (aad s) a=(y,n,er):=⟨_,_,_,rfl⟩;rw[hx] at C hT hKd hFt G1 G2 G3 he;dsimp only at C hT hKd hFt G1 G2 G3 he;subst he;unfold afo at G1 G2 G3;dsimp only at G1 G2 G3;rw[List.length_drop,aae] at hFt;rw[aae] at hKd G2 G3;have hsz:(strOfNums tx).size≤10000:=by rw[aci];omega
    have hJ:=arJ (t:=⟨kd,strOfNums tx,em,bk⟩) hE.out.jn;have hGd:=akI hE.out.gd ⟨kd,strOfNums tx,em,bk⟩ hsz;have hWt:=agJ (s:=st) ⟨kd,strOfNums tx,em,bk⟩;have hLn:=take_len (s:=st) ⟨kd,strOfNums tx,em,bk⟩;have hw0:=hE.out.wt;have hl0:=hE.out.len;dsimp only at hJ hWt;have CT:Hid (∀ W,EW w w.heap.size (.slice Av out.length cv) st out a W→Calls Tryz.prog 15 #[.pointer (some ⟨w.heap.size,0,none⟩),.agg #[.int .i64 kd,.string (strOfNums tx),.bool em,.bool bk]] W (TkP w.heap.size w.heap.size (aaP st ⟨kd,strOfNums tx,em,bk⟩) (aaP st ⟨kd,strOfNums tx,em,bk⟩).1 W)):=aac fun W hW=>amP hW.rs hW.gl kd _ em bk hsz hW.gd (by omega);have HJ:=aac hJ;have HGd:=aac hGd;have HG1:=aac G1;have HG2:=aac G2;have HG3:=aac G3;clear hJ hGd G1 G2 G3 hx HC HE0
    revert C
    unfold abh tkV;dsimp only;intro C;generalize strOfNums tx=str at *;generalize aaP st ⟨kd,str,em,bk⟩=x at *;obtain⟨st2,ev2,e2⟩:=x;dsimp only at HJ HGd HG1 HG2 HG3 hWt hLn CT;by_cases he2:e2=0
    · subst he2;have HJ:=aac (HJ.out rfl);by_cases hend:a=s.size
      · skip
        have HA2:Hid (evF (aad s)=(out++ev2,a,0)):=aac (hA.out.trans (HG2.out hend rfl));have hOv:st2.over=true:=by rw[HJ.out.2.1];exact decide_eq_true (hKd.2 (by omega))
        have HOv:=aac hOv;clear HG1 HG2 HG3 HJ HGd hA hFt hKd hend hOv;go_wp2_with fail;refine C.out.mono ?_;rintro e w1 ⟨rfl,hb1⟩;have HE2:=aac ((hE.out.after hb1).after ((Below.refl _ w1).alloc (Nat.le_refl _) (.cells #[.int .i64 kd,.string str,.bool em,.bool bk] 42)));clear hb1 hE C;go_wp2_with fail;refine(CT.out _ HE2.out).mono ?_;rintro e w2 ⟨v2,rfl,x2,⟨vw2,vo2,es2,r2⟩,x4,x5⟩;obtain⟨xs,a1,a2,a3⟩:=HE2.out.ev.frm x4;obtain⟨ys,y1,y2,y3⟩:=x2.mono HE2.out.bel.size;obtain⟨A2,c2,rfl⟩:=Nz.Sc.aah y2;obtain⟨sn,sc⟩:=acR y2;have hxl:out.length=xs.length:=(by rw[← a1,List.length_map]);have hyl:ys.length≤3:=by rw[← List.length_map (f:=(·.1)),y1];exact hLn
        have hx3:xs.length≤15000:=(by omega);have HB:=aac (HE2.out.bel.trans x5);have hzz:=HB.out.size;have hYl:=ajj ys;have hY1:=ail y3;have HA1:=aac a1;have HA3:=aac a3;have HY1:=aac y1;have HY3:=aac y3;have HR2:=aac r2;rw[hxl] at a2 ⊢;have HXL:=aac hxl;clear x2 x4 x5 HE2 CT a1 a3 y1 y2 y3 r2 hxl;go_wp2_with (at_builtin;refine aaB (w:=w2) rfl _ _ 23 rfl w.heap.size 50 i0 (.agg #[.int .i64 0,.string ⟨#[]⟩,.string ⟨#[]⟩,.slice none 0 0,.string ⟨#[]⟩]) 5 80 Tryz.underlying23 hi hz0 hz1 hz2 rfl (by decide) _ xs.length (evL xs) rfl a2 A2 ys.length c2 (evL ys) rfl sn hYl sc hY1 (by unfold maxLen;omega) (by omega) hzz ?_);intro v3 w3 n1 n2;obtain⟨A3,c3,rfl⟩:=Nz.Sc.aah n1;have HE3:=aac (amY HA1.out HY1.out a2 HA3.out HY3.out n2 n1);have HR3:=aac (HR2.out.grown a2 n2);have HB3:=aac (HB.out.grown n2 hzz (fun j hj=>(World.ownsRow.lt a2 j hj).1));have CO:=aac (ajh HR3.out);clear n1 n2 a2 sn sc hYl hY1 HA1 HA3 HY1 HY3 HR2 HB hzz;rw[HOv.out] at CO;go_wp2_with fail;refine CO.out.mono ?_;rintro e w4 ⟨rfl,rfl⟩;go_wp2;go_ret3;exact aoO HA2.out ⟨_,rfl,HE3.out,HB3.out⟩
      · skip
        have hlt:a < s.size:=(by omega);have hF:=hFt hlt;have HA2:Hid (evF (aad s)=evR (aad s) (a+n) st2 (out++ev2)):=aac (hA.out.trans (HG3.out hlt rfl));have hOv:st2.over=false:=by rw[HJ.out.2.1];exact decide_eq_false hF.2.2.1
        have HJn:=aac HJ.out.1;have hgl:=aac hE.out.gl0;have HOv:=aac hOv;have hF1:=hF.1;have hF2:=hF.2.1;clear HG1 HG2 HG3 HJ hA hFt hKd hOv hF hend;go_wp2_with fail;refine C.out.mono ?_;rintro e w1 ⟨rfl,hb1⟩;have HE2:=aac ((hE.out.after hb1).after ((Below.refl _ w1).alloc (Nat.le_refl _) (.cells #[.int .i64 kd,.string str,.bool em,.bool bk] 42)));clear hb1 hE C;go_wp2_with fail;refine(CT.out _ HE2.out).mono ?_;rintro e w2 ⟨v2,rfl,x2,⟨vw2,vo2,es2,r2⟩,x4,x5⟩;obtain⟨xs,a1,a2,a3⟩:=HE2.out.ev.frm x4;obtain⟨ys,y1,y2,y3⟩:=x2.mono HE2.out.bel.size;obtain⟨A2,c2,rfl⟩:=Nz.Sc.aah y2;obtain⟨sn,sc⟩:=acR y2;have hxl:out.length=xs.length:=(by rw[← a1,List.length_map]);have hyl:ys.length≤3:=by rw[← List.length_map (f:=(·.1)),y1];exact hLn
        have hx3:xs.length≤15000:=(by omega);have HB:=aac (HE2.out.bel.trans x5);have hzz:=HB.out.size;have hYl:=ajj ys;have hY1:=ail y3;have HA1:=aac a1;have HA3:=aac a3;have HY1:=aac y1;have HY3:=aac y3;have HR2:=aac r2;rw[hxl] at a2 ⊢;have HXL:=aac hxl;clear x2 x4 x5 HE2 CT a1 a3 y1 y2 y3 r2 hxl;go_wp2_with (at_builtin;refine aaB (w:=w2) rfl _ _ 23 rfl w.heap.size 50 i0 (.agg #[.int .i64 0,.string ⟨#[]⟩,.string ⟨#[]⟩,.slice none 0 0,.string ⟨#[]⟩]) 5 80 Tryz.underlying23 hi hz0 hz1 hz2 rfl (by decide) _ xs.length (evL xs) rfl a2 A2 ys.length c2 (evL ys) rfl sn hYl sc hY1 (by unfold maxLen;omega) (by omega) hzz ?_);intro v3 w3 n1 n2;obtain⟨A3,c3,rfl⟩:=Nz.Sc.aah n1;have HE3:=aac (amY HA1.out HY1.out a2 HA3.out HY3.out n2 n1);have HR3:=aac (HR2.out.grown a2 n2);have HB3:=aac (HB.out.grown n2 hzz (fun j hj=>(World.ownsRow.lt a2 j hj).1));have CO:=aac (ajh HR3.out);clear n1 n2 a2 sn sc hYl hY1 HA1 HA3 HY1 HY3 HR2 HB hzz;rw[HOv.out] at CO;go_wp2_with fail;refine CO.out.mono ?_;rintro e w4 ⟨rfl,rfl⟩;go_wp2;go_roundw;case rel=>exact⟨a+n,st2,out++ev2,by omega,by go_num,aac ⟨⟨_,_,_,HR3.out⟩,HE3.out,HB3.out,hgl.out,HGd.out,by omega,HJn.out,by rw[List.length_append];omega⟩,HA2⟩
        case measure=>simp only[intOf];omega
    · have t2:(e2 != 0)=true:=bne_iff_ne.2 he2;have HA2:Hid (evF (aad s)=(out,a,e2)):=aac (hA.out.trans (HG1.out he2));clear HG1 HG2 HG3 HJ HGd hA hFt hKd he2;go_wp2_with fail;refine C.out.mono ?_;rintro e w1 ⟨rfl,hb1⟩;have HE2:=aac ((hE.out.after hb1).after ((Below.refl _ w1).alloc (Nat.le_refl _) (.cells #[.int .i64 kd,.string str,.bool em,.bool bk] 42)));clear hb1 hE C;go_wp2_with fail;refine(CT.out _ HE2.out).mono ?_;rintro e w2 ⟨v2,rfl,x2,x3,x4,x5⟩;obtain⟨A2,c2,rfl⟩:=x2.slc;have HV:=aac (HE2.out.ev.frm x4);have HB:=aac (HE2.out.bel.trans x5);clear x2 x3 x4 x5 HE2 CT;go_wp2;go_ret3;exact aoO HA2.out ⟨_,rfl,HV.out,HB.out⟩
  · have hA2:=hA.out;rw[awk st out hal he] at hA2;obtain⟨⟨kd,tx,em,bk⟩,n,er,hx⟩:∃ y n er,nx (aad s) a=(y,n,er):=⟨_,_,_,rfl⟩;rw[hx] at C hA2 he;dsimp only at hA2 he;have t1:(er != 0)=true:=bne_iff_ne.2 he;have HA2:=aac hA2;clear hx hA2 HC HE0 hA he;go_wp2_with fail;refine C.out.mono ?_;rintro e w1 ⟨rfl,hb1⟩;unfold tkV;dsimp only;generalize strOfNums tx=str;have HE2:=aac ((hE.out.after hb1).after ((Below.refl _ w1).alloc (Nat.le_refl _) (.cells #[.int .i64 kd,.string str,.bool em,.bool bk] 42)));clear hb1 hE C;go_wp2;go_ret3;exact aoO HA2.out ⟨_,rfl,HE2.out.ev,HE2.out.bel⟩
end Go.Proofs.YtnomcldpbkinmaaGreatDoor.Wl
namespace Go.Proofs.YtnomcldpbkinmaaGreatDoor.Nz.Sc
open Go.RowKit
def a2X (n:Nat)(c1 c2:Value)(w:World)(i:Value)(wr:World):Prop:=∃ k:Nat,i=.int .i64 k∧k≤n∧Hid (Below w.heap.size w wr)∧wr.cell? ⟨w.heap.size,3,none⟩=some c1∧wr.cell? ⟨w.heap.size+1,3,none⟩=some c2
theorem ayI (kd:Int)(na nb tx:ByteArray)(f:List P3)(n:Nat)(A1 A2:Option Addr)(k1 k2:Nat)(w:World)(hn:n=f.length)(hl:n≤maxLen)(h1:RdT w A1 f)(h2:RdT w A2 f):
 Calls Tryz.prog 24 #[.agg #[.int .i64 kd,.string na,.string nb,.slice A1 n k1,.string tx],.agg #[.int .i64 kd,.string na,.string nb,.slice A2 n k2,.string tx]] w fun e w'=>e=.returned (.bool true)∧Below w.heap.size w w':=by
 unfold maxLen at hl;have H1:=aac h1;have H2:=aac h2;have HN:=aac hn;have B1:=(Below.refl w.heap.size w).alloc (Nat.le_refl _) (.cells #[.int .i64 kd,.string na,.string nb,.slice A1 n k1,.string tx] 50);have HB:=aac (B1.alloc B1.size (.cells #[.int .i64 kd,.string na,.string nb,.slice A2 n k2,.string tx] 50));have q1:(na.toList == na.toList)=true:=beq_self_eq_true _;have q2:(nb.toList == nb.toList)=true:=beq_self_eq_true _;have q3:(tx.toList == tx.toList)=true:=beq_self_eq_true _;have q4:(tx.toList != tx.toList)=false:=bne_self_eq_false _;clear h1 h2 hn B1;go_enter Tryz.func24,Tryz.ntmps24;go_wp2_with fail;go_loopw [5] (fun i wr=>a2X n (.slice A1 n k1) (.slice A2 n k2) w i wr) (fun i _=>n - (intOf i).toNat);case atStart=>exact⟨0,rfl,Nat.zero_le _,HB,by simp,by simp⟩
 case round=>
  clear HB;obtain⟨k,rfl,hk,hB,g1,g2⟩:=hrel;by_cases hlt:k < n
  · have hkl:k < f.length:=by rw[← HN.out];exact hlt
    obtain⟨b1,o1,rfl,hb1,x0,x1,x2⟩:=(H1.out.keep hB.out) k _ (List.getElem?_eq_getElem hkl);obtain⟨b2,o2,rfl,hb2,y0,y1,y2⟩:=(H2.out.keep hB.out) k _ (List.getElem?_eq_getElem hkl);have d1:(k:Int) < (n:Int):=(by omega);have d0:(0:Int)≤(k:Int):=(by omega);generalize f[k]=t at *;obtain⟨⟨ta,tb⟩,tv⟩:=t;dsimp only at x0 x1 x2 y0 y1 y2;go_wp2_with fail;go_quiet (fail);go_wp2;go_roundw;case rel=>exact⟨k+1,by go_num,by omega,aac (below_drewN hB.out _),g1,g2⟩
    case measure=>simp only[intOf];omega
  · have d1:¬ (k:Int) < (n:Int):=(by omega);go_wp2_with fail;go_ret;exact⟨rfl,hB.out⟩
end Go.Proofs.YtnomcldpbkinmaaGreatDoor.Nz.Sc
