/- Lemmas of the claim. -/
import Derived.Test.YtnomcldpbkinmaaGreatDoorG38
import Derived.Test.YtnomcldpbkinmaaGreatDoorG12
import Derived.Test.YtnomcldpbkinmaaGreatDoorG06
import Derived.Test.YtnomcldpbkinmaaGreatDoorG02
import Derived.Test.YtnomcldpbkinmaaGreatDoorG33
set_option maxHeartbeats 4000000
set_option maxRecDepth 100000
set_option linter.unusedSimpArgs false
set_option linter.unusedVariables false
namespace Go.Proofs.YtnomcldpbkinmaaGreatDoor
open Go.RowKit
def CuC (s t:ByteArray)(n:Nat):Prop:=∀ W,Calls Tryz.prog 43 #[.string s,.int .i64 0] W fun e w'=>e=.returned (.tuple #[.string t,.int .i64 (n:Int)])∧Below W.heap.size W w'
def RpC (t:ByteArray)(b:Bool):Prop:=∀ W,Calls Tryz.prog 47 #[.string t] W fun e w'=>e=.returned (.bool b)∧Below W.heap.size W w'
def BlC (s:ByteArray)(n:Nat)(h:n < s.size)(b:Bool):Prop:=∀ W,Calls Tryz.prog 56 #[.int .u8 ((s[n]).toNat:Int)] W fun e w'=>e=.returned (.bool b)∧W=w'
def a3s (s:ByteArray)(n:Nat)(b:Bool):Prop:=∀ W,Calls Tryz.prog 58 #[.string (s.extract n s.size)] W fun e w'=>e=.returned (.bool b)∧Below W.heap.size W w'
theorem a3t (s t:ByteArray)(n:Nat)(at_:Int)(w:World)(hs:s.size≤10000)(C1:Hid (CuC s t n))(C2:Hid (RpC t false)):Calls Tryz.prog 38 #[.int .i64 2,.string s,.int .i64 at_] w (aaQ (T0,4) w):=by
 go_enter Tryz.func38,Tryz.ntmps38;go_wp2_with fail;refine(C1.out _).mono ?_;rintro e w1 ⟨rfl,hb1⟩;have h1:=abw hb1;clear hb1;go_wp2_with fail;refine(C2.out _).mono ?_;rintro e w2 ⟨rfl,hb2⟩;obtain⟨hz,hb,⟨c0,c1,c2,c3,f0,f1,f2,f3⟩⟩:=aaq h1 hb2;have HB:=aac hb;clear hb2 hb h1;go_wp2_with fail;exact bodyPost_ret (v:=.tuple #[tkV T0,.int .i64 4]) (by rw[tk0];simp[results,Tryz.results38,go_sem,c0,c1,c2,c3,hz]) rfl ⟨rfl,aag HB.out (Nat.le_refl _) _ _ _ _⟩
theorem a3j (s t:ByteArray)(n:Nat)(at_:Int)(w:World)(hs:s.size≤10000)(hn:n < s.size)(C1:Hid (CuC s t n))(C2:Hid (RpC t true))(C3:Hid (BlC s n hn false)):Calls Tryz.prog 38 #[.int .i64 2,.string s,.int .i64 at_] w (aaQ (T0,4) w):=by
 have d1:(n:Int) < (s.size:Int):=(by omega);go_enter Tryz.func38,Tryz.ntmps38;go_wp2_with fail;refine(C1.out _).mono ?_;rintro e w1 ⟨rfl,hb1⟩;have h1:=abw hb1;clear hb1;go_wp2_with fail;refine(C2.out _).mono ?_;rintro e w2 ⟨rfl,hb2⟩;obtain⟨hz,hb,⟨c0,c1,c2,c3,f0,f1,f2,f3⟩⟩:=aaq h1 hb2;have HB:=aac hb;clear hb2 hb h1;go_wp2_with fail;refine(C3.out _).mono ?_;rintro e w3 ⟨rfl,rfl⟩;go_wp2_with fail;exact bodyPost_ret (v:=.tuple #[tkV T0,.int .i64 4]) (by rw[tk0];simp[results,Tryz.results38,go_sem,c0,c1,c2,c3,hz]) rfl ⟨rfl,aag HB.out (Nat.le_refl _) _ _ _ _⟩
inductive Rest (s t v:ByteArray)(n:Nat)(at_:Int):Tk × Int→Prop
 | plain (h:(v.toList == [120,109,108])=false):Rest s t v n at_ (⟨5,aad s,false,false⟩,0)
 | far (h:(v.toList == [120,109,108])=true) (h2:(at_ != 0)=true):Rest s t v n at_ (T0,12)
 | other (h:(v.toList == [120,109,108])=true) (h2:(at_ != 0)=false) (h3:(t.toList == [120,109,108])=false):Rest s t v n at_ (T0,12)
 | no (h:(v.toList == [120,109,108])=true) (h2:(at_ != 0)=false) (h3:(t.toList == [120,109,108])=true) (h4:Hid (a3s s n false)):Rest s t v n at_ (T0,12)
 | yes (h:(v.toList == [120,109,108])=true) (h2:(at_ != 0)=false) (h3:(t.toList == [120,109,108])=true) (h4:Hid (a3s s n true)):Rest s t v n at_ (⟨5,aad s,false,false⟩,0)
theorem a2V (s t v:ByteArray)(n:Nat)(at_:Int)(x:Tk × Int)(w:World)(hs:s.size≤10000)(hn:n=s.size)(C1:Hid (CuC s t n))(C2:Hid (RpC t true))(C4:Hid (SmC t v))(hx:Rest s t v n at_ x):Calls Tryz.prog 38 #[.int .i64 2,.string s,.int .i64 at_] w (aaQ x w):=by
 have d1:¬ (n:Int) < (s.size:Int):=(by omega);have d2:(0:Int)≤(n:Int):=(by omega);have d3:(n:Int)≤(s.size:Int):=(by omega);clear hn
 cases hx with
 | plain h=>
   go_enter Tryz.func38,Tryz.ntmps38;go_wp2_with fail;refine(C1.out _).mono ?_;rintro e w1 ⟨rfl,hb1⟩;have h1:=abw hb1;clear hb1;go_wp2_with fail;refine(C2.out _).mono ?_;rintro e w2 ⟨rfl,hb2⟩;have h5:=aaq h1 hb2;clear h1 hb2;go_wp2_with fail;refine(C4.out _).mono ?_;rintro e w3 ⟨rfl,hb3⟩;obtain⟨hz,hb,⟨c0,c1,c2,c3,f0,f1,f2,f3⟩⟩:=aaq h5 hb3;have HB:=aac hb;clear hb3 hb h5;go_wp2_with fail;exact bodyPost_ret (v:=.tuple #[tkV ⟨5,aad s,false,false⟩,.int .i64 0]) (by unfold tkV;rw[abe];simp[results,Tryz.results38,go_sem,c0,c1,c2,c3,hz]) rfl ⟨rfl,aag HB.out (Nat.le_refl _) _ _ _ _⟩
 | far h h2=>
   go_enter Tryz.func38,Tryz.ntmps38;go_wp2_with fail;refine(C1.out _).mono ?_;rintro e w1 ⟨rfl,hb1⟩;have h1:=abw hb1;clear hb1;go_wp2_with fail;refine(C2.out _).mono ?_;rintro e w2 ⟨rfl,hb2⟩;have h5:=aaq h1 hb2;clear h1 hb2;go_wp2_with fail;refine(C4.out _).mono ?_;rintro e w3 ⟨rfl,hb3⟩;obtain⟨hz,hb,⟨c0,c1,c2,c3,f0,f1,f2,f3⟩⟩:=aaq h5 hb3;have HB:=aac hb;clear hb3 hb h5;go_wp2_with fail;exact bodyPost_ret (v:=.tuple #[tkV T0,.int .i64 12]) (by rw[tk0];simp[results,Tryz.results38,go_sem,c0,c1,c2,c3,hz]) rfl ⟨rfl,aag HB.out (Nat.le_refl _) _ _ _ _⟩
 | other h h2 h3=>
   go_enter Tryz.func38,Tryz.ntmps38;go_wp2_with fail;refine(C1.out _).mono ?_;rintro e w1 ⟨rfl,hb1⟩;have h1:=abw hb1;clear hb1;go_wp2_with fail;refine(C2.out _).mono ?_;rintro e w2 ⟨rfl,hb2⟩;have h5:=aaq h1 hb2;clear h1 hb2;go_wp2_with fail;refine(C4.out _).mono ?_;rintro e w3 ⟨rfl,hb3⟩;obtain⟨hz,hb,⟨c0,c1,c2,c3,f0,f1,f2,f3⟩⟩:=aaq h5 hb3;have HB:=aac hb;clear hb3 hb h5;go_wp2_with fail;exact bodyPost_ret (v:=.tuple #[tkV T0,.int .i64 12]) (by rw[tk0];simp[results,Tryz.results38,go_sem,c0,c1,c2,c3,hz]) rfl ⟨rfl,aag HB.out (Nat.le_refl _) _ _ _ _⟩
 | no h h2 h3 h4=>
   go_enter Tryz.func38,Tryz.ntmps38;go_wp2_with fail;refine(C1.out _).mono ?_;rintro e w1 ⟨rfl,hb1⟩;have h1:=abw hb1;clear hb1;go_wp2_with fail;refine(C2.out _).mono ?_;rintro e w2 ⟨rfl,hb2⟩;have h5:=aaq h1 hb2;clear h1 hb2;go_wp2_with fail;refine(C4.out _).mono ?_;rintro e w3 ⟨rfl,hb3⟩;have h6:=aaq h5 hb3;clear hb3 h5;go_wp2_with fail;refine(h4.out _).mono ?_;rintro e w4 ⟨rfl,hb4⟩;obtain⟨hz,hb,⟨c0,c1,c2,c3,f0,f1,f2,f3⟩⟩:=aaq h6 hb4;have HB:=aac hb;clear hb4 hb h6;go_wp2_with fail;exact bodyPost_ret (v:=.tuple #[tkV T0,.int .i64 12]) (by rw[tk0];simp[results,Tryz.results38,go_sem,c0,c1,c2,c3,hz]) rfl ⟨rfl,aag HB.out (Nat.le_refl _) _ _ _ _⟩
 | yes h h2 h3 h4=>
   go_enter Tryz.func38,Tryz.ntmps38;go_wp2_with fail;refine(C1.out _).mono ?_;rintro e w1 ⟨rfl,hb1⟩;have h1:=abw hb1;clear hb1;go_wp2_with fail;refine(C2.out _).mono ?_;rintro e w2 ⟨rfl,hb2⟩;have h5:=aaq h1 hb2;clear h1 hb2;go_wp2_with fail;refine(C4.out _).mono ?_;rintro e w3 ⟨rfl,hb3⟩;have h6:=aaq h5 hb3;clear hb3 h5;go_wp2_with fail;refine(h4.out _).mono ?_;rintro e w4 ⟨rfl,hb4⟩;obtain⟨hz,hb,⟨c0,c1,c2,c3,f0,f1,f2,f3⟩⟩:=aaq h6 hb4;have HB:=aac hb;clear hb4 hb h6;go_wp2_with fail;exact bodyPost_ret (v:=.tuple #[tkV ⟨5,aad s,false,false⟩,.int .i64 0]) (by unfold tkV;rw[abe];simp[results,Tryz.results38,go_sem,c0,c1,c2,c3,hz]) rfl ⟨rfl,aag HB.out (Nat.le_refl _) _ _ _ _⟩
theorem a2q (s t v:ByteArray)(n:Nat)(at_:Int)(x:Tk × Int)(w:World)(hs:s.size≤10000)(hn:n < s.size)(C1:Hid (CuC s t n))(C2:Hid (RpC t true))(C3:Hid (BlC s n hn true))(C4:Hid (SmC t v))(hx:Rest s t v n at_ x):Calls Tryz.prog 38 #[.int .i64 2,.string s,.int .i64 at_] w (aaQ x w):=by
 have d1:(n:Int) < (s.size:Int):=(by omega);have d2:(0:Int)≤(n:Int):=(by omega);have d3:(n:Int)≤(s.size:Int):=by omega
 cases hx with
 | plain h=>
   go_enter Tryz.func38,Tryz.ntmps38;go_wp2_with fail;refine(C1.out _).mono ?_;rintro e w1 ⟨rfl,hb1⟩;have h1:=abw hb1;clear hb1;go_wp2_with fail;refine(C2.out _).mono ?_;rintro e w2 ⟨rfl,hb2⟩;have h5:=aaq h1 hb2;clear h1 hb2;go_wp2_with fail;refine(C3.out _).mono ?_;rintro e w9 ⟨rfl,rfl⟩;go_wp2_with fail;refine(C4.out _).mono ?_;rintro e w3 ⟨rfl,hb3⟩;obtain⟨hz,hb,⟨c0,c1,c2,c3,f0,f1,f2,f3⟩⟩:=aaq h5 hb3;have HB:=aac hb;clear hb3 hb h5;go_wp2_with fail;exact bodyPost_ret (v:=.tuple #[tkV ⟨5,aad s,false,false⟩,.int .i64 0]) (by unfold tkV;rw[abe];simp[results,Tryz.results38,go_sem,c0,c1,c2,c3,hz]) rfl ⟨rfl,aag HB.out (Nat.le_refl _) _ _ _ _⟩
 | far h h2=>
   go_enter Tryz.func38,Tryz.ntmps38;go_wp2_with fail;refine(C1.out _).mono ?_;rintro e w1 ⟨rfl,hb1⟩;have h1:=abw hb1;clear hb1;go_wp2_with fail;refine(C2.out _).mono ?_;rintro e w2 ⟨rfl,hb2⟩;have h5:=aaq h1 hb2;clear h1 hb2;go_wp2_with fail;refine(C3.out _).mono ?_;rintro e w9 ⟨rfl,rfl⟩;go_wp2_with fail;refine(C4.out _).mono ?_;rintro e w3 ⟨rfl,hb3⟩;obtain⟨hz,hb,⟨c0,c1,c2,c3,f0,f1,f2,f3⟩⟩:=aaq h5 hb3;have HB:=aac hb;clear hb3 hb h5;go_wp2_with fail;exact bodyPost_ret (v:=.tuple #[tkV T0,.int .i64 12]) (by rw[tk0];simp[results,Tryz.results38,go_sem,c0,c1,c2,c3,hz]) rfl ⟨rfl,aag HB.out (Nat.le_refl _) _ _ _ _⟩
 | other h h2 h3=>
   go_enter Tryz.func38,Tryz.ntmps38;go_wp2_with fail;refine(C1.out _).mono ?_;rintro e w1 ⟨rfl,hb1⟩;have h1:=abw hb1;clear hb1;go_wp2_with fail;refine(C2.out _).mono ?_;rintro e w2 ⟨rfl,hb2⟩;have h5:=aaq h1 hb2;clear h1 hb2;go_wp2_with fail;refine(C3.out _).mono ?_;rintro e w9 ⟨rfl,rfl⟩;go_wp2_with fail;refine(C4.out _).mono ?_;rintro e w3 ⟨rfl,hb3⟩;obtain⟨hz,hb,⟨c0,c1,c2,c3,f0,f1,f2,f3⟩⟩:=aaq h5 hb3;have HB:=aac hb;clear hb3 hb h5;go_wp2_with fail;exact bodyPost_ret (v:=.tuple #[tkV T0,.int .i64 12]) (by rw[tk0];simp[results,Tryz.results38,go_sem,c0,c1,c2,c3,hz]) rfl ⟨rfl,aag HB.out (Nat.le_refl _) _ _ _ _⟩
 | no h h2 h3 h4=>
   go_enter Tryz.func38,Tryz.ntmps38;go_wp2_with fail;refine(C1.out _).mono ?_;rintro e w1 ⟨rfl,hb1⟩;have h1:=abw hb1;clear hb1;go_wp2_with fail;refine(C2.out _).mono ?_;rintro e w2 ⟨rfl,hb2⟩;have h5:=aaq h1 hb2;clear h1 hb2;go_wp2_with fail;refine(C3.out _).mono ?_;rintro e w9 ⟨rfl,rfl⟩;go_wp2_with fail;refine(C4.out _).mono ?_;rintro e w3 ⟨rfl,hb3⟩;have h6:=aaq h5 hb3;clear hb3 h5;go_wp2_with fail;refine(h4.out _).mono ?_;rintro e w4 ⟨rfl,hb4⟩;obtain⟨hz,hb,⟨c0,c1,c2,c3,f0,f1,f2,f3⟩⟩:=aaq h6 hb4;have HB:=aac hb;clear hb4 hb h6;go_wp2_with fail;exact bodyPost_ret (v:=.tuple #[tkV T0,.int .i64 12]) (by rw[tk0];simp[results,Tryz.results38,go_sem,c0,c1,c2,c3,hz]) rfl ⟨rfl,aag HB.out (Nat.le_refl _) _ _ _ _⟩
 | yes h h2 h3 h4=>
   go_enter Tryz.func38,Tryz.ntmps38;go_wp2_with fail;refine(C1.out _).mono ?_;rintro e w1 ⟨rfl,hb1⟩;have h1:=abw hb1;clear hb1;go_wp2_with fail;refine(C2.out _).mono ?_;rintro e w2 ⟨rfl,hb2⟩;have h5:=aaq h1 hb2;clear h1 hb2;go_wp2_with fail;refine(C3.out _).mono ?_;rintro e w9 ⟨rfl,rfl⟩;go_wp2_with fail;refine(C4.out _).mono ?_;rintro e w3 ⟨rfl,hb3⟩;have h6:=aaq h5 hb3;clear hb3 h5;go_wp2_with fail;refine(h4.out _).mono ?_;rintro e w4 ⟨rfl,hb4⟩;obtain⟨hz,hb,⟨c0,c1,c2,c3,f0,f1,f2,f3⟩⟩:=aaq h6 hb4;have HB:=aac hb;clear hb4 hb h6;go_wp2_with fail;exact bodyPost_ret (v:=.tuple #[tkV ⟨5,aad s,false,false⟩,.int .i64 0]) (by unfold tkV;rw[abe];simp[results,Tryz.results38,go_sem,c0,c1,c2,c3,hz]) rfl ⟨rfl,aag HB.out (Nat.le_refl _) _ _ _ _⟩
theorem ayO (s:ByteArray)(a:Nat)(w:World)(hs:s.size≤10000):Calls Tryz.prog 38 #[.int .i64 2,.string s,.int .i64 (a:Int)] w (aaQ (aee (decide (a=0)) (aad s)) w):=by
 have hn0:Nz.sn s 0=stL (aad s):=by
  unfold Nz.sn stL;rw[agE,List.drop_zero]
 have hle:=avS (aad s);rw[aae] at hle
 have ht:aad (Nz.sx s 0)=(aad s).take (stL (aad s)):=by
  unfold Nz.sx Nz.fr;rw[aal,aal,List.drop_zero,List.drop_zero,hn0,show (aad s).take s.size=aad s from List.take_of_length_le (by rw[aae];omega)]
 rw[← arD _ _ (fun x hx=>(acO s x hx).1)]
 have C1:CuC s (Nz.sx s 0) (stL (aad s)):=fun W=>by
  have:=Nz.agn s 0 hs (Nat.zero_le _) W;rw[hn0] at this
  simpa using this
 generalize Nz.sx s 0=t at *
 have hts:t.size≤10000:=by
  rw[← aae,ht,List.length_take,aae];omega
 have C2:RpC t (plB ((aad s).take (stL (aad s)))):=fun W=>by
  have:=Nz.adU t hts W;unfold plB;rw[← ht,agE];exact this
 have C4:SmC t (strOfNums (aau (aad t))):=fun W=>ahE t W hts
 have hv:((strOfNums (aau (aad t))).toList == [120,109,108])=decide (aau (aad t)=agx):=by
  have:=eqB (strOfNums (aau (aad t))) [120,109,108] agx rfl;rw[this,(ajS (acO t)).str]
 have htx:(t.toList == [120,109,108])=decide (aad t=agx):=eqB t [120,109,108] agx rfl
 have C5:a3s s (stL (aad s)) (air ((aad s).drop (stL (aad s)))):=fun W=>by
  have e:aad (s.extract (stL (aad s)) s.size)=(aad s).drop (stL (aad s)):=by
   rw[aal,List.take_of_length_le (by rw[aae];omega)]
  have:=aqK (s.extract (stL (aad s)) s.size) W (by rw[ByteArray.size_extract];omega);rw[e] at this;exact this
 have hbn:=fun h:stL (aad s) < s.size=>aaG s (stL (aad s)) h;unfold azJ
 cases hp:plB ((aad s).take (stL (aad s))) with
 | false=>
   rw[hp] at C2;rw[if_pos (.inl rfl)];exact a3t s t _ _ w hs (aac C1) (aac C2)
 | true=>
   rw[hp] at C2
   have key:Rest s t (strOfNums (aau (aad t))) (stL (aad s)) (a:Int) (if aau ((aad s).take (stL (aad s)))=agx∧(decide (a=0)=false∨(aad s).take (stL (aad s))≠agx∨air ((aad s).drop (stL (aad s)))=false) then (T0,12) else (⟨5,aad s,false,false⟩,0)):=by
    rw[← ht];by_cases g1:aau (aad t)=agx
    · have h1:=hv;rw[decide_eq_true g1] at h1;by_cases g2:a=0
      · have h2:(((a:Int)) != 0)=false:=by rw[g2];rfl
        by_cases g3:aad t=agx
        · have h3:=htx;rw[decide_eq_true g3] at h3
          cases g4:air ((aad s).drop (stL (aad s))) with
          | false=>
            rw[g4] at C5;rw[if_pos ⟨g1,.inr (.inr rfl)⟩];exact .no h1 h2 h3 (aac C5)
          | true=>
            rw[g4] at C5;rw[if_neg (by rintro ⟨_,h | h | h⟩;exact absurd h (by simp[g2]);exact h g3;exact absurd h (by simp))];exact .yes h1 h2 h3 (aac C5)
        · have h3:=htx;rw[decide_eq_false g3] at h3;rw[if_pos ⟨g1,.inr (.inl g3)⟩];exact .other h1 h2 h3
      · rw[if_pos ⟨g1,.inl (decide_eq_false g2)⟩];exact .far h1 (by rw[bne_iff_ne];omega)
    · have h1:=hv;rw[decide_eq_false g1] at h1;rw[if_neg (fun h=>g1 h.1)];exact .plain h1
   by_cases hlt:stL (aad s) < s.size
   · have hb:=hbn hlt
     cases hq:abf ((aad s).getD (stL (aad s)) 0) with
     | false=>
       rw[if_pos (.inr ⟨by rw[aae];exact hlt,rfl⟩)];have C3:BlC s _ hlt false:=fun W=>by rw[hb];exact axK hq W
       exact a3j s t _ _ w hs hlt (aac C1) (aac C2) (aac C3)
     | true=>
       rw[if_neg (by rintro (h | ⟨_,h⟩) <;> simp at h)];have C3:BlC s _ hlt true:=fun W=>by rw[hb];exact azr hq W
       exact a2q s t _ _ _ _ w hs hlt (aac C1) (aac C2) (aac C3) (aac C4) key
   · rw[if_neg (by rintro (h | ⟨h,_⟩);simp at h;exact hlt (by rw[← aae];exact h))];exact a2V s t _ _ _ _ w hs (by omega) (aac C1) (aac C2) (aac C4) key
end Go.Proofs.YtnomcldpbkinmaaGreatDoor
namespace Go.Proofs.YtnomcldpbkinmaaGreatDoor
open Go.RowKit
def ajV (x:Int)(w:World)(e:Ending)(w':World):Prop:=e=.returned (.int .i64 x)∧Below w.heap.size w w'
theorem a0g {x y:Int}{w w':World}{e:Ending}(h:x=y)(hp:ajV y w e w'):ajV x w e w':=by rw[h];exact hp
theorem amW {l:List Int}{k:Nat}(h:∀ x∈l.take k,Chr x)(hk:k < l.length)(hc:Chr (l.getD k 0)):∀ x∈l.take (k+1),Chr x:=by
 intro x hx;rw[List.take_succ_eq_append_getElem hk] at hx;rcases List.mem_append.1 hx with hx | hx
 · exact h x hx
 · simp only[List.mem_singleton] at hx;rw[hx]
   simpa [List.getElem?_eq_getElem hk] using hc
theorem ajb {l:List Int}{k:Nat}(hk:k < l.length):l.getD k 0∈l:=by
 simp[List.getElem?_eq_getElem hk]
theorem aum (s:ByteArray)(l:List Int)(at_ res:Int)(w:World)(hg:Good l)(hn:l.length≤100000)(H0:Hid ((∀ r∈l,Chr r)→res=0))(H3:Hid (∀ r∈l,¬ Chr r→res=3))
 (C:Hid (Calls Tryz.prog 48 #[.string s] w (ahm s w (l,at_,0)))):
 Calls Tryz.prog 34 #[.string s] w (ajV res w):=by
 go_enter Tryz.func34,Tryz.ntmps34;go_wp2_with fail;refine C.out.mono ?_;rintro e w1 ⟨v,rfl,hown,hb⟩;obtain⟨A,c,hv,hrd⟩:=aeH (k:=.i32) hown;simp only at hv hrd;subst hv;clear hown C;obtain⟨n,hnl⟩:∃ n,n=l.length:=⟨_,rfl⟩;rw[← hnl];have HN:=aac hnl;have hn2:n≤100000:=(by omega);clear hnl;go_wp2_with fail;go_loop [6] (fun vi=>∃ k:Nat,vi=.int .i64 k∧k≤n∧Hid (∀ x∈l.take k,Chr x)) (fun vi=>n - (intOf vi).toNat);case atStart=>exact⟨0,rfl,by omega,aac fun x hx=>by simp at hx⟩
 case round=>
  obtain⟨k,rfl,hk,hR⟩:=hrel;by_cases hlt:k < n
  · have hkl:k < l.length:=by rw[← HN.out];exact hlt
    obtain⟨b,off,rfl,hbl,hc⟩:=hrd.at_ (j:=k) hkl;have hgd:=hg _ (ajb hkl);have hm:=ajb hkl;have hct:=aac (amW hR.out hkl);have x0:0≤l.getD k 0:=by unfold Bad at hgd;omega
    have x1:l.getD k 0≤1114111:=by unfold Bad at hgd;omega
    have hi2:(k:Int) < (n:Int):=(by omega);have CC:=abp (l.getD k 0);have HM:=aac hm;clear hm hgd hkl;by_cases hch:Chr (l.getD k 0)
    · have HR:=aac (hct.out hch);rw[decide_eq_true hch] at CC;have CCH:=aac CC;clear hch hct hR CC HM;generalize l.getD k 0=x at *;go_wp2_with (go_at_call 49;refine(CCH.out _).mono ?_;rintro e w' ⟨rfl,rfl⟩);refine⟨⟨k+1,by rw[Int.natCast_add];rfl,by omega,HR⟩,by simp only[intOf];omega⟩
    · rw[decide_eq_false hch] at CC;have CCH:=aac CC;have HX:=aac (H3.out _ HM.out hch);clear hch hct hR CC HM;generalize l.getD k 0=x at *;go_wp2_with (go_at_call 49;refine(CCH.out _).mono ?_;rintro e w' ⟨rfl,rfl⟩);go_ret;exact a0g HX.out ⟨rfl,hb⟩
  · have hkk:k=n:=(by omega);subst hkk
    have HX:=aac (H0.out (by
     have:=hR.out;rw[HN.out,List.take_length] at this;exact this))
    clear hR;go_wp2;go_ret;exact a0g HX.out ⟨rfl,hb⟩
theorem aqd (s:ByteArray)(l:List Int)(at_ er:Int)(w:World)(he:er≠0)
 (C:Hid (Calls Tryz.prog 48 #[.string s] w (ahm s w (l,at_,er)))):Calls Tryz.prog 34 #[.string s] w (ajV 2 w):=by
 have t1:(er != 0)=true:=by rw[bne_iff_ne];exact he
 clear he;go_enter Tryz.func34,Tryz.ntmps34;go_wp2_with fail;refine C.out.mono ?_;rintro e w1 ⟨v,rfl,hown,hb1⟩;clear hown;go_wp2_with fail;go_ret;exact⟨rfl,hb1⟩
theorem afy (s:ByteArray)(w:World)(hs:s.size≤10000):Calls Tryz.prog 34 #[.string s] w (ajV (aaz (aad s)) w):=by
 have C:=alb s w hs;rw[anq] at C;have B:=ags (aad s).length (aad s) (Nat.le_refl _) (acS s)
 have hlen:(acV (aad s)).1.length≤100000:=by
  obtain⟨_,hp,h3,_,_⟩:=B;rw[aae] at h3
  have:∀ (m:List Int),m.length≤(m.flatMap auw).length:=by
   intro m
   induction m with
   | nil=>simp
   | cons x m ih=>
     have:=(atY x).1;rw[List.flatMap_cons,List.length_append,List.length_cons];omega
  have:=this (acV (aad s)).1;rw[hp,List.length_take] at this;omega
 by_cases h0:(acV (aad s)).2.2=0
 · rw[h0] at C;refine aum s _ _ _ w B.1 hlen (aac fun h=> ?_) (aac fun r hr h=> ?_) (aac C)
   · unfold aaz;rw[if_neg (by rw[h0];simp),if_pos h]
   · unfold aaz;rw[if_neg (by rw[h0];simp),if_neg (fun g=>h (g r hr))]
 · have e:aaz (aad s)=2:=by unfold aaz;rw[if_pos h0]
   rw[e];exact aqd s _ _ _ w h0 (aac C)
end Go.Proofs.YtnomcldpbkinmaaGreatDoor
namespace Go.Proofs.YtnomcldpbkinmaaGreatDoor
open Go.RowKit
theorem abY {x:Tk × Nat × Int}{y:Tk}{a m:Nat}{k er:Int}{w w':World}{e:Ending}(hx:x=(y,m,er))(hk:k=(a:Int)+(m:Int))(he:e=.returned (.tuple #[tkV y,.int .i64 k,.int .i64 er]))(hb:Below w.heap.size w w'):abh x a w e w':=by
 subst hx hk;exact⟨he,hb⟩
def WrC (t:ByteArray)(er:Int):Prop:=∀ W,Calls Tryz.prog 34 #[.string t] W fun e w'=>e=.returned (.int .i64 er)∧Below W.heap.size W w'
def DrC (s t:ByteArray)(m er:Int):Prop:=∀ W,Calls Tryz.prog 35 #[.string s,.bool false] W fun e w'=>e=.returned (.tuple #[.string t,.int .i64 m,.int .i64 er])∧Below W.heap.size W w'
def RbC (s:ByteArray)(b:Bool):Prop:=∀ W,Calls Tryz.prog 36 #[.string s] W fun e w'=>e=.returned (.bool b)∧W=w'
theorem a1o (s:ByteArray)(a:Nat)(more:Bool)(w:World)(ha:a=s.size):Calls Tryz.prog 23 #[.string s,.int .i64 (a:Int),.bool more] w (abh (if more=true then (T0,0,7) else (⟨6,[],false,false⟩,0,0)) a w):=by
 have t1:((a:Int) == (s.size:Int))=true:=by rw[beq_iff_eq];omega
 clear ha;cases more
 · go_enter Tryz.func23,Tryz.ntmps23;go_wp2_with fail;exact bodyPost_ret (v:=.tuple #[tkV ⟨6,[],false,false⟩,.int .i64 (a:Int),.int .i64 0]) (by unfold tkV;rw[acj];simp[results,Tryz.results23,go_sem]) rfl (abY (m:=0) rfl (by omega) rfl ((Below.refl _ w).alloc (Nat.le_refl _) _))
 · have HN:=aac (abt w);go_enter Tryz.func23,Tryz.ntmps23;go_wp2_with fail;exact bodyPost_ret (v:=.tuple #[tkV T0,.int .i64 (a:Int),.int .i64 7]) (by rw[tk0];simp[results,Tryz.results23,go_sem]) rfl (abY (m:=0) rfl (by omega) rfl HN.out.2.1)
theorem azx (s:ByteArray)(a:Nat)(more:Bool)(hs:s.size≤10000)(ha:a < s.size)(h6:(aad s).getD a 0≠60)(hm:more=true)(C1:Hid (FdC s a ⟨#[60]⟩ (-1)))(w:World):Calls Tryz.prog 23 #[.string s,.int .i64 (a:Int),.bool more] w (abh (T0,0,7) a w):=by
 subst hm;have HN:=aac (abt w);have hbb:=aaG s a ha;have t0:((a:Int) == (s.size:Int))=false:=by rw[beq_eq_false_iff_ne];omega
 have t6:(((s[a]).toNat:Int) != 60)=true:=by rw[hbb,bne_iff_ne];exact h6
 have e0:(0:Int)≤(a:Int):=(by omega);have e1:(a:Int) < (s.size:Int):=(by omega);clear hbb h6;go_enter Tryz.func23,Tryz.ntmps23;go_wp2_with fail;refine(C1.out _).mono ?_;rintro e w1 ⟨rfl,rfl⟩;go_wp2_with fail;exact bodyPost_ret (v:=.tuple #[tkV T0,.int .i64 (a:Int),.int .i64 7]) (by rw[tk0];simp[results,Tryz.results23,go_sem]) rfl (abY (m:=0) rfl (by omega) rfl HN.out.2.1)
theorem azh (s:ByteArray)(a:Nat)(more:Bool)(hs:s.size≤10000)(ha:a < s.size)(h6:(aad s).getD a 0≠60)(x:Int)(t:Nat)(hat:a≤t)(ht:t≤s.size)(hx:x=(t:Int)∨(x= -1∧more=false∧t=s.size))(C1:Hid (FdC s a ⟨#[60]⟩ x))(er:Int)(her:er≠0)(C2:Hid (WrC (s.extract a t) er))(w:World):Calls Tryz.prog 23 #[.string s,.int .i64 (a:Int),.bool more] w (abh (T0,0,er) a w):=by
 have HN:=aac (abt w);have hbb:=aaG s a ha;have t0:((a:Int) == (s.size:Int))=false:=by rw[beq_eq_false_iff_ne];omega
 have t6:(((s[a]).toNat:Int) != 60)=true:=by rw[hbb,bne_iff_ne];exact h6
 have e0:(0:Int)≤(a:Int):=(by omega);have e1:(a:Int) < (s.size:Int):=(by omega);clear hbb h6;have d1:(a:Int)≤(t:Int):=(by omega);have d2:(t:Int)≤(s.size:Int):=(by omega);have d3:¬ (t:Int) < 0:=(by omega);have t1:(er != 0)=true:=by rw[bne_iff_ne];exact her
 clear her;rcases hx with rfl | ⟨rfl,rfl,rfl⟩
 · clear ht;go_enter Tryz.func23,Tryz.ntmps23;go_wp2_with fail;refine(C1.out _).mono ?_;rintro e w1 ⟨rfl,rfl⟩;go_wp2_with fail;refine(C2.out _).mono ?_;rintro e w2 ⟨rfl,hb2⟩;have h2:=aak HN.out hb2;clear hb2;go_wp2_with fail;refine(C2.out _).mono ?_;rintro e w3 ⟨rfl,hb3⟩;have h3:=aak h2 hb3;clear hb3;clear h2;obtain⟨hz,hb,⟨c0,c1,c2,c3,f0,f1,f2,f3⟩⟩:=h3;have HB:=aac hb;clear hb;go_wp2_with fail;exact bodyPost_ret (v:=.tuple #[tkV T0,.int .i64 (a:Int),.int .i64 er]) (by rw[tk0];simp[results,Tryz.results23,go_sem,c0,c1,c2,c3,hz]) rfl (abY (m:=0) rfl (by omega) rfl (aag HB.out (Nat.le_refl _) _ _ _ _))
 · clear d3 d2 ht;go_enter Tryz.func23,Tryz.ntmps23;go_wp2_with fail;refine(C1.out _).mono ?_;rintro e w1 ⟨rfl,rfl⟩;go_wp2_with fail;refine(C2.out _).mono ?_;rintro e w2 ⟨rfl,hb2⟩;have h2:=aak HN.out hb2;clear hb2;go_wp2_with fail;refine(C2.out _).mono ?_;rintro e w3 ⟨rfl,hb3⟩;have h3:=aak h2 hb3;clear hb3;clear h2;obtain⟨hz,hb,⟨c0,c1,c2,c3,f0,f1,f2,f3⟩⟩:=h3;have HB:=aac hb;clear hb;go_wp2_with fail;exact bodyPost_ret (v:=.tuple #[tkV T0,.int .i64 (a:Int),.int .i64 er]) (by rw[tk0];simp[results,Tryz.results23,go_sem,c0,c1,c2,c3,hz]) rfl (abY (m:=0) rfl (by omega) rfl (aag HB.out (Nat.le_refl _) _ _ _ _))
theorem auI (s:ByteArray)(a:Nat)(more:Bool)(hs:s.size≤10000)(ha:a < s.size)(h6:(aad s).getD a 0≠60)(x:Int)(t:Nat)(hat:a≤t)(ht:t≤s.size)(hx:x=(t:Int)∨(x= -1∧more=false∧t=s.size))(C1:Hid (FdC s a ⟨#[60]⟩ x))(y:Int)(hy:0≤y)(C2:Hid (WrC (s.extract a t) 0))(C3:Hid (FdC (s.extract a t) 0 ⟨#[93,93,62]⟩ y))(w:World):Calls Tryz.prog 23 #[.string s,.int .i64 (a:Int),.bool more] w (abh (T0,0,6) a w):=by
 have HN:=aac (abt w);have hbb:=aaG s a ha;have t0:((a:Int) == (s.size:Int))=false:=by rw[beq_eq_false_iff_ne];omega
 have t6:(((s[a]).toNat:Int) != 60)=true:=by rw[hbb,bne_iff_ne];exact h6
 have e0:(0:Int)≤(a:Int):=(by omega);have e1:(a:Int) < (s.size:Int):=(by omega);clear hbb h6;have d1:(a:Int)≤(t:Int):=(by omega);have d2:(t:Int)≤(s.size:Int):=(by omega);have d3:¬ (t:Int) < 0:=(by omega);rcases hx with rfl | ⟨rfl,rfl,rfl⟩
 · clear ht;go_enter Tryz.func23,Tryz.ntmps23;go_wp2_with fail;refine(C1.out _).mono ?_;rintro e w1 ⟨rfl,rfl⟩;go_wp2_with fail;refine(C2.out _).mono ?_;rintro e w2 ⟨rfl,hb2⟩;have h2:=aak HN.out hb2;clear hb2;go_wp2_with fail;refine(C3.out _).mono ?_;rintro e w3 ⟨rfl,rfl⟩;obtain⟨hz,hb,⟨c0,c1,c2,c3,f0,f1,f2,f3⟩⟩:=h2;have HB:=aac hb;clear hb;go_wp2_with fail;exact bodyPost_ret (v:=.tuple #[tkV T0,.int .i64 (a:Int),.int .i64 6]) (by rw[tk0];simp[results,Tryz.results23,go_sem,c0,c1,c2,c3,hz]) rfl (abY (m:=0) rfl (by omega) rfl (aag HB.out (Nat.le_refl _) _ _ _ _))
 · clear d3 d2 ht;go_enter Tryz.func23,Tryz.ntmps23;go_wp2_with fail;refine(C1.out _).mono ?_;rintro e w1 ⟨rfl,rfl⟩;go_wp2_with fail;refine(C2.out _).mono ?_;rintro e w2 ⟨rfl,hb2⟩;have h2:=aak HN.out hb2;clear hb2;go_wp2_with fail;refine(C3.out _).mono ?_;rintro e w3 ⟨rfl,rfl⟩;obtain⟨hz,hb,⟨c0,c1,c2,c3,f0,f1,f2,f3⟩⟩:=h2;have HB:=aac hb;clear hb;go_wp2_with fail;exact bodyPost_ret (v:=.tuple #[tkV T0,.int .i64 (a:Int),.int .i64 6]) (by rw[tk0];simp[results,Tryz.results23,go_sem,c0,c1,c2,c3,hz]) rfl (abY (m:=0) rfl (by omega) rfl (aag HB.out (Nat.le_refl _) _ _ _ _))
theorem ayQ (s:ByteArray)(a:Nat)(more:Bool)(hs:s.size≤10000)(ha:a < s.size)(h6:(aad s).getD a 0≠60)(x:Int)(t:Nat)(hat:a≤t)(ht:t≤s.size)(hx:x=(t:Int)∨(x= -1∧more=false∧t=s.size))(C1:Hid (FdC s a ⟨#[60]⟩ x))(u:ByteArray)(m er:Int)(her:er≠0)(C2:Hid (WrC (s.extract a t) 0))(C3:Hid (FdC (s.extract a t) 0 ⟨#[93,93,62]⟩ (-1)))(C4:Hid (DrC (s.extract a t) u m er))(w:World):Calls Tryz.prog 23 #[.string s,.int .i64 (a:Int),.bool more] w (abh (T0,0,er) a w):=by
 have HN:=aac (abt w);have hbb:=aaG s a ha;have t0:((a:Int) == (s.size:Int))=false:=by rw[beq_eq_false_iff_ne];omega
 have t6:(((s[a]).toNat:Int) != 60)=true:=by rw[hbb,bne_iff_ne];exact h6
 have e0:(0:Int)≤(a:Int):=(by omega);have e1:(a:Int) < (s.size:Int):=(by omega);clear hbb h6;have d1:(a:Int)≤(t:Int):=(by omega);have d2:(t:Int)≤(s.size:Int):=(by omega);have d3:¬ (t:Int) < 0:=(by omega);have t1:(er != 0)=true:=by rw[bne_iff_ne];exact her
 clear her;rcases hx with rfl | ⟨rfl,rfl,rfl⟩
 · clear ht;go_enter Tryz.func23,Tryz.ntmps23;go_wp2_with fail;refine(C1.out _).mono ?_;rintro e w1 ⟨rfl,rfl⟩;go_wp2_with fail;refine(C2.out _).mono ?_;rintro e w2 ⟨rfl,hb2⟩;have h2:=aak HN.out hb2;clear hb2;go_wp2_with fail;refine(C3.out _).mono ?_;rintro e w3 ⟨rfl,rfl⟩;go_wp2_with fail;refine(C4.out _).mono ?_;rintro e w4 ⟨rfl,hb4⟩;have h4:=aak h2 hb4;clear hb4;clear h2;obtain⟨hz,hb,⟨c0,c1,c2,c3,f0,f1,f2,f3⟩⟩:=h4;have HB:=aac hb;clear hb;go_wp2_with fail;exact bodyPost_ret (v:=.tuple #[tkV T0,.int .i64 (a:Int),.int .i64 er]) (by rw[tk0];simp[results,Tryz.results23,go_sem,c0,c1,c2,c3,hz]) rfl (abY (m:=0) rfl (by omega) rfl (aag HB.out (Nat.le_refl _) _ _ _ _))
 · clear d3 d2 ht;go_enter Tryz.func23,Tryz.ntmps23;go_wp2_with fail;refine(C1.out _).mono ?_;rintro e w1 ⟨rfl,rfl⟩;go_wp2_with fail;refine(C2.out _).mono ?_;rintro e w2 ⟨rfl,hb2⟩;have h2:=aak HN.out hb2;clear hb2;go_wp2_with fail;refine(C3.out _).mono ?_;rintro e w3 ⟨rfl,rfl⟩;go_wp2_with fail;refine(C4.out _).mono ?_;rintro e w4 ⟨rfl,hb4⟩;have h4:=aak h2 hb4;clear hb4;clear h2;obtain⟨hz,hb,⟨c0,c1,c2,c3,f0,f1,f2,f3⟩⟩:=h4;have HB:=aac hb;clear hb;go_wp2_with fail;exact bodyPost_ret (v:=.tuple #[tkV T0,.int .i64 (a:Int),.int .i64 er]) (by rw[tk0];simp[results,Tryz.results23,go_sem,c0,c1,c2,c3,hz]) rfl (abY (m:=0) rfl (by omega) rfl (aag HB.out (Nat.le_refl _) _ _ _ _))
theorem a0L (s:ByteArray)(a:Nat)(more:Bool)(hs:s.size≤10000)(ha:a < s.size)(h6:(aad s).getD a 0≠60)(x:Int)(t:Nat)(hat:a≤t)(ht:t≤s.size)(hx:x=(t:Int)∨(x= -1∧more=false∧t=s.size))(C1:Hid (FdC s a ⟨#[60]⟩ x))(u:ByteArray)(m:Int)(b:Bool)(l:List Int)(hu:u=strOfNums l)(C2:Hid (WrC (s.extract a t) 0))(C3:Hid (FdC (s.extract a t) 0 ⟨#[93,93,62]⟩ (-1)))(C4:Hid (DrC (s.extract a t) u m 0))(C5:Hid (RbC (s.extract a t) b))(w:World):Calls Tryz.prog 23 #[.string s,.int .i64 (a:Int),.bool more] w (abh (⟨3,l,false,b⟩,t - a,0) a w):=by
 have HN:=aac (abt w);have hbb:=aaG s a ha;have t0:((a:Int) == (s.size:Int))=false:=by rw[beq_eq_false_iff_ne];omega
 have t6:(((s[a]).toNat:Int) != 60)=true:=by rw[hbb,bne_iff_ne];exact h6
 have e0:(0:Int)≤(a:Int):=(by omega);have e1:(a:Int) < (s.size:Int):=(by omega);clear hbb h6;have d1:(a:Int)≤(t:Int):=(by omega);have d2:(t:Int)≤(s.size:Int):=(by omega);have d3:¬ (t:Int) < 0:=(by omega);have HU:=aac hu;clear hu;rcases hx with rfl | ⟨rfl,rfl,rfl⟩
 · clear ht;go_enter Tryz.func23,Tryz.ntmps23;go_wp2_with fail;refine(C1.out _).mono ?_;rintro e w1 ⟨rfl,rfl⟩;go_wp2_with fail;refine(C2.out _).mono ?_;rintro e w2 ⟨rfl,hb2⟩;have h2:=aak HN.out hb2;clear hb2;go_wp2_with fail;refine(C3.out _).mono ?_;rintro e w3 ⟨rfl,rfl⟩;go_wp2_with fail;refine(C4.out _).mono ?_;rintro e w4 ⟨rfl,hb4⟩;have h4:=aak h2 hb4;clear hb4;clear h2;go_wp2_with fail;refine(C5.out _).mono ?_;rintro e w5 ⟨rfl,rfl⟩;obtain⟨hz,hb,⟨c0,c1,c2,c3,f0,f1,f2,f3⟩⟩:=h4;have HB:=aac hb;clear hb;go_wp2_with fail;exact bodyPost_ret (v:=.tuple #[.agg #[.int .i64 3,.string u,.bool false,.bool b],.int .i64 (t:Int),.int .i64 0]) (by simp[results,Tryz.results23,go_sem,c0,c1,c2,c3,hz]) rfl (abY (y:=⟨3,l,false,b⟩) (k:=(t:Int)) rfl (by omega) (by unfold tkV;rw[HU.out]) (aag HB.out (Nat.le_refl _) _ _ _ _))
 · clear d3 d2 ht;go_enter Tryz.func23,Tryz.ntmps23;go_wp2_with fail;refine(C1.out _).mono ?_;rintro e w1 ⟨rfl,rfl⟩;go_wp2_with fail;refine(C2.out _).mono ?_;rintro e w2 ⟨rfl,hb2⟩;have h2:=aak HN.out hb2;clear hb2;go_wp2_with fail;refine(C3.out _).mono ?_;rintro e w3 ⟨rfl,rfl⟩;go_wp2_with fail;refine(C4.out _).mono ?_;rintro e w4 ⟨rfl,hb4⟩;have h4:=aak h2 hb4;clear hb4;clear h2;go_wp2_with fail;refine(C5.out _).mono ?_;rintro e w5 ⟨rfl,rfl⟩;obtain⟨hz,hb,⟨c0,c1,c2,c3,f0,f1,f2,f3⟩⟩:=h4;have HB:=aac hb;clear hb;go_wp2_with fail;exact bodyPost_ret (v:=.tuple #[.agg #[.int .i64 3,.string u,.bool false,.bool b],.int .i64 (s.size:Int),.int .i64 0]) (by simp[results,Tryz.results23,go_sem,c0,c1,c2,c3,hz]) rfl (abY (y:=⟨3,l,false,b⟩) (k:=(s.size:Int)) rfl (by omega) (by unfold tkV;rw[HU.out]) (aag HB.out (Nat.le_refl _) _ _ _ _))
theorem afi (s:ByteArray)(a t:Nat):aad (s.extract a t)=((aad s).drop a).take (t - a):=by rw[aal,List.drop_take]
theorem aoj (s:ByteArray)(a:Nat)(more:Bool)(w:World)(hs:s.size≤10000)(ha:a < s.size)(h6:(aad s).getD a 0≠60):Calls Tryz.prog 23 #[.string s,.int .i64 (a:Int),.bool more] w (abh (afC more ((aad s).drop a)) a w):=by
 have C1:FdC s a ⟨#[60]⟩ (aez [60] (aad s) a):=fun W=>acp s ⟨#[60]⟩ a W (by omega) (by decide) (by omega)
 have key:∀ (x:Int) (t:Nat),a≤t→t≤s.size→(x=(t:Int)∨(x= -1∧more=false∧t=s.size))→FdC s a ⟨#[60]⟩ x→Calls Tryz.prog 23 #[.string s,.int .i64 (a:Int),.bool more] w (abh (ade ((aad s).drop a) (t - a)) a w):=fun x t hat ht hx C1=>by
  have hsz:(s.extract a t).size≤10000:=by rw[ByteArray.size_extract];omega
  have hE:=afi s a t
  have C2:WrC (s.extract a t) (aaz (((aad s).drop a).take (t - a))):=fun W=>by
   have:=afy (s.extract a t) W hsz;rw[hE] at this;exact this
  have C3:FdC (s.extract a t) 0 ⟨#[93,93,62]⟩ (aez adJ (((aad s).drop a).take (t - a)) 0):=fun W=>by
   have:=acp (s.extract a t) ⟨#[93,93,62]⟩ 0 W (by omega) (by decide) (Nat.zero_le _);rw[hE] at this;exact this
  have C4:DrC (s.extract a t) (strOfNums (abH false (((aad s).drop a).take (t - a))).1) (abH false (((aad s).drop a).take (t - a))).2.1 (abH false (((aad s).drop a).take (t - a))).2.2:=fun W=>by
   have:=agw (s.extract a t) false W hsz;rw[hE] at this;exact this
  have C5:RbC (s.extract a t) ((((aad s).drop a).take (t - a)).all abf):=fun W=>by
   have:=alc (s.extract a t) W (by omega);rw[hE] at this;exact this
  unfold ade;by_cases h1:aaz (((aad s).drop a).take (t - a))≠0
  · rw[if_pos h1];exact azh s a more hs ha h6 x t hat ht hx (aac C1) _ h1 (aac C2) w
  rw[if_neg h1];have h1':aaz (((aad s).drop a).take (t - a))=0:=(by simpa using h1);rw[h1'] at C2;unfold aez at C3;rw[List.drop_zero] at C3
  cases h2:fnd adJ (((aad s).drop a).take (t - a)) with
  | some n=>
    rw[h2] at C3;rw[if_pos (show (some n).isSome=true from rfl)];exact auI s a more hs ha h6 x t hat ht hx (aac C1) _ (by show (0:Int)≤((0+n:Nat):Int);omega) (aac C2) (aac C3) w
  | none=>
    rw[h2] at C3;rw[if_neg (by simp)];by_cases h3:(abH false (((aad s).drop a).take (t - a))).2.2≠0
    · rw[if_pos h3];exact ayQ s a more hs ha h6 x t hat ht hx (aac C1) _ _ _ h3 (aac C2) (aac C3) (aac C4) w
    · rw[if_neg h3];have h3':(abH false (((aad s).drop a).take (t - a))).2.2=0:=(by simpa using h3);rw[h3'] at C4;exact a0L s a more hs ha h6 x t hat ht hx (aac C1) _ _ _ _ rfl (aac C2) (aac C3) (aac C4) (aac C5) w
 unfold aez at C1;unfold afC
 cases hf:fnd [60] ((aad s).drop a) with
 | some n=>
   rw[hf] at C1;have hb:=(abG hf).1;rw[List.length_drop,aae,List.length_singleton] at hb;have:=key ((a+n:Nat):Int) (a+n) (by omega) (by omega) (.inl rfl) C1;rw[show a+n - a=n by omega] at this;exact this
 | none=>
   rw[hf] at C1
   cases more with
   | true=>exact azx s a true hs ha h6 rfl (aac C1) w
   | false=>
     show Calls _ _ _ _ (abh (ade ((aad s).drop a) ((aad s).drop a).length) a w);rw[List.length_drop,aae];exact key (-1) s.size (by omega) (Nat.le_refl _) (.inr ⟨rfl,rfl,rfl⟩) C1
end Go.Proofs.YtnomcldpbkinmaaGreatDoor
