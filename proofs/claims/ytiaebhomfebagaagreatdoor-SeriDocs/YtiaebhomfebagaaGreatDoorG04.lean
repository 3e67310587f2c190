/- Lemmas of the claim. -/
import Derived.Test.YtiaebhomfebagaaGreatDoorG03
import Derived.Test.YtiaebhomfebagaaGreatDoorG02
import Derived.Test.YtiaebhomfebagaaGreatDoorProg
import Derived.WalkKit
import Derived.WalkSpells
import Derived.WalkLawsBesides
import Derived.Laws.RangeAny
import Derived.Laws.Cover4
import Derived.Lib.Hide
import Derived.Lib.DecodeN
import Derived.Lib.Bytealg
set_option maxHeartbeats 4000000
set_option maxRecDepth 100000
set_option linter.unusedSimpArgs false
set_option linter.unusedVariables false
namespace Go.Proofs.YtiaebhomfebagaaGreatDoor
open Go.RowKit
theorem aiR {r:Int}(h:Chr r):¬ Bad r:=by unfold Chr Btw at h;unfold Bad;omega
theorem aov {x:Int}(h:0≤acj x):Chr (acj x):=by
 have:=apO (n:=x) (by omega);rw[this.2];exact this.1
theorem amJ (b:Int)(l:List Int)(h:0≤asH b l):Chr (asH b l):=by
 unfold asH at h ⊢;split at h
 · omega
 · rw[if_neg (by assumption)];exact aov h
theorem ate (l:List Int)(h:0≤nrV l):Chr (nrV l):=by
 unfold nrV at h ⊢;by_cases h1:l.getD 0 0≠35
 · rw[if_pos h1] at h;omega
 rw[if_neg h1] at h ⊢;by_cases h2:l.getD 1 0=120
 · rw[if_pos h2] at h ⊢;exact amJ _ _ h
 · rw[if_neg h2] at h ⊢;exact amJ _ _ h
theorem arn (l:List Int)(h:0≤nmV l):Chr (nmV l):=by
 unfold nmV at h ⊢
 repeat' split
 all_goals first
  | (unfold Chr Btw;omega)
  | (exfalso;simp[*] at h)
theorem atB (l:List Int)(h:0≤agX l):Chr (agX l):=by
 rw[alG] at h ⊢;by_cases h1:0≤nmV l
 · rw[if_pos h1];exact arn l h1
 · rw[if_neg h1] at h ⊢;exact ate l h
def adD (B b:Nat)(v:Bool)(bs:List Int)(x:Int × List Int × Nat)(w:World)(e:Ending)(w':World):Prop:=
 e=.returned (.tuple #[.int .i64 x.2.2,.int .i64 x.1])∧(x.1=0→Gat B b v (bs++x.2.1) w')∧Below B w w'
def rfF (rest:List Int):Int × List Int × Nat:=
 if 59∈rest∧0≤agX (abj rest) then (0,aat (agX (abj rest)),(abj rest).length+2) else (5,[],0)
theorem atK (b:Nat)(s:ByteArray)(w:World)(C1:Hid (∀ w,Calls Tryz.prog 128 #[.string s,.string ⟨#[59]⟩] w fun e w'=>e=.returned (.tuple #[.string s,.string ⟨#[]⟩,.bool false])∧Below w.heap.size w w')):
 Calls Tryz.prog 145 #[.pointer (some ⟨b,0,none⟩),.string s] w fun e w'=>e=.returned (.tuple #[.int .i64 0,.int .i64 5])∧Below w.heap.size w w':=by
 go_enter Tryz.func145,Tryz.ntmps145;go_wp2_with fail;refine(C1.out _).mono ?_;rintro e w1 ⟨rfl,hb⟩;go_wp2;go_ret2;exact⟨rfl,hb⟩
theorem awE (B b:Nat)(v:Bool)(bs:List Int)(s t u:ByteArray)(r:Int)(w:World)(hg:Gat B b v bs w)(hB:B≤w.heap.size)(hl:bs.length≤1000000000000)(ht:t.size≤1000000000000)(hr:¬ Bad r)
 (C1:Hid (∀ w,Calls Tryz.prog 128 #[.string s,.string ⟨#[59]⟩] w fun e w'=>e=.returned (.tuple #[.string t,.string u,.bool true])∧Below w.heap.size w w'))
 (C2:Hid (∀ w,Calls Tryz.prog 169 #[.string t] w fun e w'=>e=.returned (.tuple #[.int .i32 r,.bool true])∧w=w')):
 Calls Tryz.prog 145 #[.pointer (some ⟨b,0,none⟩),.string s] w (adD B b v bs (0,aat r,t.size+2) w):=by
 go_enter Tryz.func145,Tryz.ntmps145;go_wp2_with fail;refine(C1.out _).mono ?_;rintro e w1 ⟨rfl,hb⟩;go_wp2_with fail;refine(C2.out _).mono ?_;rintro e w1' ⟨rfl,rfl⟩;have CW:=aac (ajJ B b v bs r w1 (hg.keep hb) (Nat.le_trans hB hb.size) hl hr);clear C1 C2 hg;go_wp2_with fail;refine CW.out.mono ?_;rintro e w2 ⟨⟨n,rfl⟩,h2,hb2⟩;clear CW;go_wp2;go_ret2;exact⟨afh (by simp;omega) rfl,fun _=>h2,(hb.mono hB).trans hb2⟩
def rnF (r:Int)(n:Nat):Int × List Int × Nat:=if 0≤r then (0,aat r,n+2) else (5,[],0)
theorem a2h {B b:Nat}{v:Bool}{bs:List Int}{x y:Int × List Int × Nat}{w w':World}{e:Ending}(h:x=y)(hp:adD B b v bs y w e w'):adD B b v bs x w e w':=by rw[h];exact hp
theorem asU {r:Int}(n:Nat)(h:0≤r):rnF r n=(0,aat r,n+2):=if_pos h
theorem awV {r:Int}(n:Nat)(h:¬ 0≤r):rnF r n=(5,[],0):=if_neg h
theorem ayu (B b:Nat)(v:Bool)(bs:List Int)(s t u:ByteArray)(r:Int)(w:World)(hg:Gat B b v bs w)(hB:B≤w.heap.size)(hl:bs.length≤1000000000000)(ht:t.size≤1000000000000)(hr:0≤r→¬ Bad r)
 (C1:Hid (∀ w,Calls Tryz.prog 128 #[.string s,.string ⟨#[59]⟩] w fun e w'=>e=.returned (.tuple #[.string t,.string u,.bool true])∧Below w.heap.size w w'))
 (C2:Hid (∀ w,Calls Tryz.prog 169 #[.string t] w fun e w'=>e=.returned (.tuple #[.int .i32 0,.bool false])∧w=w'))
 (C3:Hid (∀ w1,Below w.heap.size w w1→Calls Tryz.prog 170 #[.string t] w1 (afy r w1))):
 Calls Tryz.prog 145 #[.pointer (some ⟨b,0,none⟩),.string s] w (adD B b v bs (rnF r t.size) w):=by
 go_enter Tryz.func145,Tryz.ntmps145;go_wp2_with fail;refine(C1.out _).mono ?_;rintro e w1 ⟨rfl,hb⟩;go_wp2_with fail;refine(C2.out _).mono ?_;rintro e w1' ⟨rfl,rfl⟩;go_wp2_with fail;refine(C3.out _ hb).mono ?_;rintro e w2 ⟨h,hb2⟩;have hb3:Below w.heap.size w w2:=hb.trans (hb2.mono hb.size);rcases h with ⟨h0,rfl⟩ | ⟨h0,rfl⟩
 · have CW:=aac (ajJ B b v bs r w2 (hg.keep hb3) (Nat.le_trans hB hb3.size) hl (hr h0));have HR:=aac (asU t.size h0);clear C1 C2 C3 hg hb hb2 h0 hr;go_wp2_with fail;refine CW.out.mono ?_;rintro e w4 ⟨⟨n,rfl⟩,h2,hb4⟩;clear CW;go_wp2;go_ret2;exact a2h HR.out ⟨afh (by simp;omega) rfl,fun _=>h2,(hb3.mono hB).trans hb4⟩
 · have HR:=aac (awV t.size (show ¬ 0≤r by omega));clear C1 C2 C3 hg hb hb2 h0 hr;go_wp2;go_ret2;exact a2h HR.out ⟨rfl,fun h=>absurd h (by decide),hb3.mono hB⟩
theorem a1e (B b:Nat)(v:Bool)(bs:List Int)(s:ByteArray)(w:World)(hg:Gat B b v bs w)(hB:B≤w.heap.size)(hl:bs.length≤1000000000000)(hs:s.size≤1000000000000)(hV:Vars w):
 Calls Tryz.prog 145 #[.pointer (some ⟨b,0,none⟩),.string s] w (adD B b v bs (rfF (aad s)) w):=by
 unfold rfF;rcases avE s with ⟨h1,h2⟩ | ⟨i,h1,h2,h3,h4⟩
 · rw[if_neg (fun h=>h2 h.1)];refine(atK b s w (aac (agj s h1))).mono ?_;rintro e w' ⟨rfl,hb⟩;exact⟨rfl,fun h=>absurd h (by decide),hb.mono hB⟩
 · have C1:=aac (afV s i h1 h2 hs);have hbody:abj (aad s)=aad (s.extract 0 i):=by rw[h4,abV]
   have hsz:(s.extract 0 i).size≤1000000000000:=by
    rw[← aae,abV,List.length_take,aae];omega
   rw[hbody,aae];by_cases hn:0≤nmV (aad (s.extract 0 i))
   · have e:agX (aad (s.extract 0 i))=nmV (aad (s.extract 0 i)):=(by rw[alG,if_pos hn]);rw[e,if_pos ⟨h3,hn⟩];exact awE B b v bs s _ _ _ w hg hB hl hsz (aiR (arn _ hn)) C1 (aac (aoT _ _ rfl hn))
   · have e:agX (aad (s.extract 0 i))=nrV (aad (s.extract 0 i)):=(by rw[alG,if_neg hn]);rw[e];have:=ayu B b v bs s _ _ (nrV (aad (s.extract 0 i))) w hg hB hl hsz (fun h=>aiR (ate _ h)) C1 (aac (avN _ hn)) (aac fun w1 hb=>ajC _ w1 hsz (hV.keep hb hV.1));by_cases h0:0≤nrV (aad (s.extract 0 i))
     · rw[asU _ h0] at this;rw[if_pos ⟨h3,h0⟩];exact this
     · rw[awV _ h0] at this;rw[if_neg (fun h=>h0 h.2)];exact this
theorem alk (B b:Nat)(v:Bool)(bs:List Int)(c:Int)(w:World)(hg:Gat B b v bs w)(hB:B≤w.heap.size)(hl:bs.length≤1000000000000)(h0:0≤c)(h1:c≤255):
 Calls Tryz.prog 146 #[.pointer (some ⟨b,0,none⟩),.int .u8 c] w fun e w'=>e=.returned (.tuple #[])∧Gat B b v (bs++[blk v c]) w'∧Below B w w':=by
 have hv:=hg.value;cases v
 · have CW:=aac (aeZ B b false bs c w hg hB hl h0 h1);clear hg;go_enter Tryz.func146,Tryz.ntmps146;go_wp2_with fail;refine CW.out.mono ?_;rintro e w1 ⟨rfl,h2,hb⟩;go_wp2
   go_end0
   exact⟨rfl,h2,hb⟩
 · have CW:=aac (aeZ B b true bs 32 w hg hB hl (by omega) (by omega));clear hg;go_enter Tryz.func146,Tryz.ntmps146;go_wp2_with fail;refine CW.out.mono ?_;rintro e w1 ⟨rfl,h2,hb⟩;go_wp2
   go_end0
   exact⟨rfl,h2,hb⟩
def plF (l:List Int):Int × List Int × Nat:=
 if (aaX l).2.2≠0 then ((aaX l).2.2,[],0) else if Chr (aaX l).1 then (0,aat (aaX l).1,(aaX l).2.1.toNat) else (3,[],0)
theorem apf (B b:Nat)(s:ByteArray)(k:Nat)(er r n:Int)(w:World)(hne:er≠0)(C1:Hid (Calls Tryz.prog 39 #[.string s,.int .i64 k] w fun e w'=>e=.returned (.tuple #[.int .i32 r,.int .i64 n,.int .i64 er])∧w=w')):
 Calls Tryz.prog 147 #[.pointer (some ⟨b,0,none⟩),.string s,.int .i64 k] w fun e w'=>e=.returned (.tuple #[.int .i64 0,.int .i64 er])∧Below B w w':=by
 have t1:(er != 0)=true:=(by simpa using hne);clear hne;go_enter Tryz.func147,Tryz.ntmps147;go_wp2_with fail;refine C1.out.mono ?_;rintro e w1 ⟨rfl,rfl⟩;go_wp2;go_ret2;exact⟨rfl,Below.refl _ _⟩
theorem aoH (B b:Nat)(s:ByteArray)(k:Nat)(r n:Int)(w:World)(hc:¬ Chr r)(C1:Hid (Calls Tryz.prog 39 #[.string s,.int .i64 k] w fun e w'=>e=.returned (.tuple #[.int .i32 r,.int .i64 n,.int .i64 0])∧w=w')):
 Calls Tryz.prog 147 #[.pointer (some ⟨b,0,none⟩),.string s,.int .i64 k] w fun e w'=>e=.returned (.tuple #[.int .i64 0,.int .i64 3])∧Below B w w':=by
 have CC:Hid (∀ w,Calls Tryz.prog 40 #[.int .i32 r] w fun e w'=>e=.returned (.bool false)∧w=w'):=aac fun w=>by
  have:=adB r w;rw[decide_eq_false hc] at this;exact this
 clear hc;go_enter Tryz.func147,Tryz.ntmps147;go_wp2_with fail;refine C1.out.mono ?_;rintro e w1 ⟨rfl,rfl⟩;go_wp2_with fail;refine(CC.out _).mono ?_;rintro e w1 ⟨rfl,rfl⟩;go_wp2;go_ret2;exact⟨rfl,Below.refl _ _⟩
theorem auT (B b:Nat)(v:Bool)(bs:List Int)(s:ByteArray)(k n:Nat)(r:Int)(w:World)(hc:Chr r)(hkn:k+n≤s.size)(hs:s.size≤1000000000000)(C1:Hid (Calls Tryz.prog 39 #[.string s,.int .i64 k] w fun e w'=>e=.returned (.tuple #[.int .i32 r,.int .i64 n,.int .i64 0])∧w=w'))
 (CW:Hid (Calls Tryz.prog 41 #[.pointer (some ⟨b,0,none⟩),.string (s.extract k (k+n))] w.drew fun e w'=>e=.returned (.tuple #[.int .i64 n,.nilIface])∧Gat B b v bs w'∧Below B w.drew w')):
 Calls Tryz.prog 147 #[.pointer (some ⟨b,0,none⟩),.string s,.int .i64 k] w fun e w'=>e=.returned (.tuple #[.int .i64 n,.int .i64 0])∧Gat B b v bs w'∧Below B w w':=by
 have CC:Hid (∀ w,Calls Tryz.prog 40 #[.int .i32 r] w fun e w'=>e=.returned (.bool true)∧w=w'):=aac fun w=>by
  have:=adB r w;rw[decide_eq_true hc] at this;exact this
 have c1:(0:Int)≤(k:Int)+(n:Int):=(by omega);have c2:(k:Int)+(n:Int)≤(s.size:Int):=(by omega);have c3:(k:Int)≤(k:Int)+(n:Int):=(by omega);have q2:IntKind.i64.wrap ((k:Int)+(n:Int))=(k:Int)+(n:Int):=IntWalk.i64_in _ (by omega);have q3:((k:Int)+(n:Int)).toNat=k+n:=(by omega);clear hc;go_enter Tryz.func147,Tryz.ntmps147;go_wp2_with fail;refine C1.out.mono ?_;rintro e w1 ⟨rfl,rfl⟩;go_wp2_with fail;refine(CC.out _).mono ?_;rintro e w1 ⟨rfl,rfl⟩;go_wp2_with fail
 go_region_held3 (fun _=>True) (trivial) (first | (go_at_call 41;refine CW.out.mono ?_;rintro e w2 ⟨rfl,h2,hb2⟩))
 go_wp2;go_ret2;exact⟨rfl,h2,(Below.drew (Below.refl _ _)).trans hb2⟩
theorem aww (l:List Int)(hl:l≠[])(hn:NN l)(h:(aaX l).2.2=0):(aaX l).2.1=((aat (aaX l).1).length:Int)∧l.take (aat (aaX l).1).length=aat (aaX l).1∧(aat (aaX l).1).length≤l.length:=by
 have:=aiK l hl hn.getD h;exact⟨this.2.1,this.2.2.1,this.2.2.2⟩
theorem ace (B b:Nat)(v:Bool)(bs:List Int)(s:ByteArray)(k:Nat)(w:World)(hk:k < s.size)(hs:s.size≤1000000000000)(hg:Gat B b v bs w)(hB:B≤w.heap.size)(hl:bs.length≤1000000000000):
 Calls Tryz.prog 147 #[.pointer (some ⟨b,0,none⟩),.string s,.int .i64 k] w (adD B b v bs (plF ((aad s).drop k)) w):=by
 have C1:=akT s k w (by unfold maxLen;omega);rw[adH s k hk] at C1
 have hne:(aad s).drop k≠[]:=by
  intro e;have:=congrArg List.length e;rw[List.length_drop,aae,List.length_nil] at this;omega
 have hnn:NN ((aad s).drop k):=(abn s).drop k;have D:=aww _ hne hnn;have hle:((aad s).drop k).length=s.size - k:=(by rw[List.length_drop,aae]);unfold plF;generalize hL:(aad s).drop k=L at *
 revert C1 D
 generalize aaX L=x;obtain⟨r,n,er⟩:=x;intro C1 D;simp only at C1 D ⊢;by_cases he:er=0
 · subst he;obtain⟨d1,d2,d3⟩:=D rfl;have h1:=abT r;rw[if_neg (by simp)];by_cases hc:Chr r
   · rw[if_pos hc];obtain⟨m,hm⟩:∃ m,m=(aat r).length:=⟨_,rfl⟩;rw[← hm] at d1 d2 d3 h1;subst d1
     have hext:aad (s.extract k (k+m))=aat r:=by
      rw[aal,List.drop_take,hL,Nat.add_sub_cancel_left,d2]
     have hsz:(s.extract k (k+m)).size=m:=by rw[← aae,hext,hm]
     have CW:=acw B b v bs (s.extract k (k+m)) w.drew (by
      rcases hg with h | h
      · exact .inl h
      · exact .inr h) hB hl (by omega) (by omega)
     rw[hsz,hext] at CW;refine(auT B b v _ s k m r w hc (by omega) hs (aac C1) (aac CW)).mono ?_;rintro e w' ⟨rfl,h2,hb⟩;exact⟨by simp,fun _=>h2,hb⟩
   · rw[if_neg hc];refine(aoH B b s k r n w hc (aac C1)).mono ?_;rintro e w' ⟨rfl,hb⟩;exact⟨rfl,fun h=>absurd h (by decide),hb⟩
 · rw[if_pos he];refine(apf B b s k er r n w he (aac C1)).mono ?_;rintro e w' ⟨rfl,hb⟩;exact⟨rfl,fun h=>absurd h he,hb⟩
end Go.Proofs.YtiaebhomfebagaaGreatDoor
namespace Go.Proofs.YtiaebhomfebagaaGreatDoor
open Go.RowKit
theorem tail_drop (l:List Int)(k:Nat):(l.drop k).tail=l.drop (k+1):=by rw[List.tail_drop]
theorem getD_drop (l:List Int)(k j:Nat):(l.drop k).getD j 0=l.getD (k+j) 0:=by simp[List.getD_eq_getElem?_getD,List.getElem?_drop]
theorem asO (s:ByteArray)(k:Nat)(h:k < s.size):((s[k]).toNat:Int)=(aad s).getD k 0:=by rw[ajc s k h,acT]
theorem awp (B b:Nat)(v:Bool)(bs:List Int)(s:ByteArray)(k:Nat)(x:Int × List Int × Nat)(w:World)(hk:k < s.size)(hs:s.size≤1000000000000)(hc:((s[k]).toNat:Int)=38)
 (C:Hid (Calls Tryz.prog 145 #[.pointer (some ⟨b,0,none⟩),.string (s.extract (k+1) s.size)] w (adD B b v bs x w))):
 Calls Tryz.prog 122 #[.pointer (some ⟨b,0,none⟩),.string s,.int .i64 k] w (adD B b v bs x w):=by
 have c1:(k:Int) < (s.size:Int):=(by omega);have c2:(0:Int)≤(k:Int)+1:=(by omega);have c3:(k:Int)+1≤(s.size:Int):=(by omega);have q2:IntKind.i64.wrap ((k:Int)+1)=(k:Int)+1:=IntWalk.i64_in _ (by omega);have q3:((k:Int)+1).toNat=k+1:=(by omega);go_enter Tryz.func122,Tryz.ntmps122;go_wp2_with fail;refine C.out.mono ?_;rintro e w1 ⟨rfl,h⟩;have H:=aac h;clear h C;go_wp2;go_ret2;exact⟨rfl,H.out⟩
theorem asF (B b:Nat)(v:Bool)(bs:List Int)(s:ByteArray)(k:Nat)(lf:Bool)(w:World)(hk:k < s.size)(hs:s.size≤1000000000000)(hc:((s[k]).toNat:Int)=13)
 (C:Hid (Calls Tryz.prog 146 #[.pointer (some ⟨b,0,none⟩),.int .u8 10] w fun e w'=>e=.returned (.tuple #[])∧Gat B b v bs w'∧Below B w w'))
 (C2:Hid (∀ w,Calls Tryz.prog 68 #[.string (s.extract (k+1) s.size),.string ⟨#[10]⟩] w fun e w'=>e=.returned (.bool lf)∧w=w')):
 Calls Tryz.prog 122 #[.pointer (some ⟨b,0,none⟩),.string s,.int .i64 k] w fun e w'=>e=.returned (.tuple #[.int .i64 (if lf=true then 2 else 1),.int .i64 0])∧Gat B b v bs w'∧Below B w w':=by
 have c1:(k:Int) < (s.size:Int):=(by omega);have c2:(0:Int)≤(k:Int)+1:=(by omega);have c3:(k:Int)+1≤(s.size:Int):=(by omega);have q2:IntKind.i64.wrap ((k:Int)+1)=(k:Int)+1:=IntWalk.i64_in _ (by omega);have q3:((k:Int)+1).toNat=k+1:=(by omega);cases lf
 all_goals
  go_enter Tryz.func122,Tryz.ntmps122;go_wp2_with fail;refine C.out.mono ?_;rintro e w1 ⟨rfl,h,hb⟩;have H:=aac h;clear h C;go_wp2_with fail;refine(C2.out _).mono ?_;rintro e w2 ⟨rfl,rfl⟩;go_wp2;go_ret2;exact⟨rfl,H.out,hb⟩
theorem a2A (B b:Nat)(v:Bool)(bs:List Int)(s:ByteArray)(k:Nat)(w:World)(hk:k < s.size)(hs:s.size≤1000000000000)(hc:((s[k]).toNat:Int)=9)
 (C:Hid (Calls Tryz.prog 146 #[.pointer (some ⟨b,0,none⟩),.int .u8 9] w fun e w'=>e=.returned (.tuple #[])∧Gat B b v bs w'∧Below B w w')):
 Calls Tryz.prog 122 #[.pointer (some ⟨b,0,none⟩),.string s,.int .i64 k] w fun e w'=>e=.returned (.tuple #[.int .i64 1,.int .i64 0])∧Gat B b v bs w'∧Below B w w':=by
 have c1:(k:Int) < (s.size:Int):=(by omega);go_enter Tryz.func122,Tryz.ntmps122;go_wp2_with fail;refine C.out.mono ?_;rintro e w1 ⟨rfl,h,hb⟩;have H:=aac h;clear h C;go_wp2;go_ret2;exact⟨rfl,H.out,hb⟩
theorem ayE (B b:Nat)(v:Bool)(bs:List Int)(s:ByteArray)(k:Nat)(w:World)(hk:k < s.size)(hs:s.size≤1000000000000)(hc:((s[k]).toNat:Int)=10)
 (C:Hid (Calls Tryz.prog 146 #[.pointer (some ⟨b,0,none⟩),.int .u8 10] w fun e w'=>e=.returned (.tuple #[])∧Gat B b v bs w'∧Below B w w')):
 Calls Tryz.prog 122 #[.pointer (some ⟨b,0,none⟩),.string s,.int .i64 k] w fun e w'=>e=.returned (.tuple #[.int .i64 1,.int .i64 0])∧Gat B b v bs w'∧Below B w w':=by
 have c1:(k:Int) < (s.size:Int):=(by omega);go_enter Tryz.func122,Tryz.ntmps122;go_wp2_with fail;refine C.out.mono ?_;rintro e w1 ⟨rfl,h,hb⟩;have H:=aac h;clear h C;go_wp2;go_ret2;exact⟨rfl,H.out,hb⟩
theorem a0U (B b:Nat)(v:Bool)(bs:List Int)(s:ByteArray)(k:Nat)(x:Int × List Int × Nat)(w:World)(hk:k < s.size)(hs:s.size≤1000000000000)
 (t1:(((s[k]).toNat:Int) == 38)=false) (t2:(((s[k]).toNat:Int) == 13)=false) (t3:(((s[k]).toNat:Int) == 9)=false) (t4:(((s[k]).toNat:Int) == 10)=false)
 (C:Hid (Calls Tryz.prog 147 #[.pointer (some ⟨b,0,none⟩),.string s,.int .i64 k] w (adD B b v bs x w))):
 Calls Tryz.prog 122 #[.pointer (some ⟨b,0,none⟩),.string s,.int .i64 k] w (adD B b v bs x w):=by
 have c1:(k:Int) < (s.size:Int):=(by omega);go_enter Tryz.func122,Tryz.ntmps122;go_wp2_with fail;refine C.out.mono ?_;rintro e w1 ⟨rfl,h⟩;have H:=aac h;clear h C;go_wp2;go_ret2;exact⟨rfl,H.out⟩
theorem avL (B b:Nat)(v:Bool)(bs:List Int)(s:ByteArray)(k:Nat)(w:World)(hk:k < s.size)(hs:s.size≤1000000000000)(hg:Gat B b v bs w)(hB:B≤w.heap.size)(hl:bs.length≤1000000000000)(hV:Vars w):
 Calls Tryz.prog 122 #[.pointer (some ⟨b,0,none⟩),.string s,.int .i64 k] w (adD B b v bs (aaR v ((aad s).drop k)) w):=by
 have hb:=asO s k hk;have hz:(s.extract (k+1) s.size).size≤1000000000000:=by rw[agA];omega
 unfold aaR;rw[tail_drop,getD_drop,getD_drop,Nat.add_zero];by_cases h1:(aad s).getD k 0=38
 · rw[if_pos h1];have:=a1e B b v bs (s.extract (k+1) s.size) w hg hB hl hz hV;rw[abD] at this;exact awp B b v bs s k _ w hk hs (hb.trans h1) (aac this)
 rw[if_neg h1];by_cases h2:(aad s).getD k 0=13
 · rw[if_pos h2];have C:=aac (alk B b v bs 10 w hg hB hl (by omega) (by omega));have hd:(aad (s.extract (k+1) s.size)).getD 0 0=(aad s).getD (k+1) 0:=(by rw[abD,getD_drop]);by_cases h3:(aad s).getD (k+1) 0=10
   · rw[if_pos h3];refine(asF B b v _ s k true w hk hs (hb.trans h2) C (aac (a0Z _ 10 (by decide) (by rw[hd];exact h3)))).mono ?_;rintro e w' ⟨rfl,hg2,hb2⟩;exact⟨rfl,fun _=>hg2,hb2⟩
   · rw[if_neg h3];refine(asF B b v _ s k false w hk hs (hb.trans h2) C (aac (a3t _ 10 (by rw[hd];exact h3)))).mono ?_;rintro e w' ⟨rfl,hg2,hb2⟩;exact⟨rfl,fun _=>hg2,hb2⟩
 rw[if_neg h2];by_cases h3:(aad s).getD k 0=9
 · rw[if_pos (.inl h3),h3];refine(a2A B b v _ s k w hk hs (hb.trans h3) (aac (alk B b v bs 9 w hg hB hl (by omega) (by omega)))).mono ?_;rintro e w' ⟨rfl,hg2,hb2⟩;exact⟨rfl,fun _=>hg2,hb2⟩
 by_cases h4:(aad s).getD k 0=10
 · rw[if_pos (.inr h4),h4];refine(ayE B b v _ s k w hk hs (hb.trans h4) (aac (alk B b v bs 10 w hg hB hl (by omega) (by omega)))).mono ?_;rintro e w' ⟨rfl,hg2,hb2⟩;exact⟨rfl,fun _=>hg2,hb2⟩
 rw[if_neg (by omega)];exact a0U B b v bs s k _ w hk hs (by rw[hb];simpa using h1) (by rw[hb];simpa using h2) (by rw[hb];simpa using h3) (by rw[hb];simpa using h4) (aac (ace B b v bs s k w hk hs hg hB hl))
end Go.Proofs.YtiaebhomfebagaaGreatDoor
namespace Go.Proofs.YtiaebhomfebagaaGreatDoor
open Go.RowKit
theorem aur (v:Bool)(l:List Int)(h:(aaR v l).1=0):(aaR v l).2.1.length≤4:=by
 unfold aaR
 repeat' split
 all_goals simp
 all_goals exact(abT _).2
def a5R (s:ByteArray)(v:Bool)(w:World)(i:Value)(wr:World):Prop:=
 ∃ (k:Nat) (bs:List Int),k≤s.size∧i=.int .i64 k∧Gat w.heap.size w.heap.size v bs wr∧Below w.heap.size w wr∧bs.length≤4 * k∧
   aaY v (aad s)=(bs++(aaY v ((aad s).drop k)).1,k+(aaY v ((aad s).drop k)).2.1,(aaY v ((aad s).drop k)).2.2)
def aeK (x:List Int × Int × Int)(w:World)(e:Ending)(w':World):Prop:=
 e=.returned (.tuple #[.string (strOfNums x.1),.int .i64 x.2.1,.int .i64 x.2.2])∧Below w.heap.size w w'
theorem a2v {x y:List Int × Int × Int}{w w':World}{e:Ending}(h:x=y)(hp:aeK y w e w'):aeK x w e w':=by rw[h];exact hp
theorem aib:strOfNums []=⟨#[]⟩:=by rw[aeV];rfl
theorem apH {v:Bool}{l:List Int}{g:List Int}{n:Nat}(h:aaY v l=(g,n,0)):acF v l=(g,0,0):=by
 unfold acF;rw[h];simp
theorem ayY {v:Bool}{l:List Int}{g:List Int}{n:Nat}{er:Int}(h:aaY v l=(g,n,er))(he:er≠0):acF v l=([],(n:Int),er):=by
 unfold acF;rw[h];simp[he]
theorem afG (s:ByteArray)(v:Bool)(w:World)(hs:s.size≤4000000000)(hV:Vars w):Calls Tryz.prog 95 #[.string s,.bool v] w (aeK (acF v (aad s)) w):=by
 have HV:=aac hV;clear hV;go_enter Tryz.func95,Tryz.ntmps95;go_wp2_with fail;go_loopw [8] (fun i wr=>a5R s v w i wr) (fun i _=>s.size - (intOf i).toNat)
 case atStart=>
  exact⟨0,[],Nat.zero_le _,rfl,aqe w v,(Below.refl _ w).alloc (Nat.le_refl _) _,by simp,by simp⟩
 case round=>
  obtain⟨k,bs,hk,rfl,hg,hb,hl,hr⟩:=hrel;by_cases hlt:k < s.size
  · have hsz:=hb.size
    have hne:(aad s).drop k≠[]:=by
     intro e;have:=congrArg List.length e;rw[List.length_drop,aae,List.length_nil] at this;omega
    have hnn:NN ((aad s).drop k):=(abn s).drop k;have C:=aac (avL w.heap.size w.heap.size v bs s k wr hlt (by omega) hg hsz (by omega) (HV.out.keep hb HV.out.1));have S1:=ahT v _ hne hnn;have S2:=aur v ((aad s).drop k);have R1:=ajk v _ hne;have R2:=aix v _ hne hnn;rw[List.drop_drop] at R2;rw[List.length_drop,aae] at S1;generalize aaR v ((aad s).drop k)=x at *;obtain⟨er,o,n⟩:=x;simp only at S1 S2 R1 R2;by_cases he:er=0
    · subst he;have S1:=S1 rfl;have S2:=S2 rfl;rw[R2 rfl] at hr
      have HR:Hid (aaY v (aad s)=(bs++o++(aaY v ((aad s).drop (k+n))).1,k+n+(aaY v ((aad s).drop (k+n))).2.1,(aaY v ((aad s).drop (k+n))).2.2)):=aac (by
       rw[hr];simp only[List.append_assoc,Nat.add_assoc])
      clear R1 R2 hr hg hne hnn;go_wp2_with fail;refine C.out.mono ?_;rintro e w1 ⟨rfl,h1,hb1⟩;have HG:=aac (h1 rfl);clear h1 C;have q2:IntKind.i64.wrap ((k:Int)+(n:Int))=(k:Int)+(n:Int):=IntWalk.i64_in _ (by omega);go_wp2_with fail;go_roundw;case rel=>exact⟨k+n,bs++o,by omega,by rw[Int.natCast_add],HG.out,hb.trans hb1,by rw[List.length_append];omega,HR.out⟩
      case measure=>simp only[intOf];omega
    · have t1:(er != 0)=true:=(by simpa using he);rw[R1 he] at hr
      have HA:Hid (acF v (aad s)=([],(k:Int),er)):=aac (by
       have:=ayY hr he;rw[this];simp)
      clear R1 R2 hr hg hne hnn S1 S2 he;go_wp2_with fail;refine C.out.mono ?_;rintro e w1 ⟨rfl,h1,hb1⟩;clear h1 C;go_wp2;go_ret3;exact a2v HA.out ⟨by rw[aib];rfl,hb.trans hb1⟩
  · have hkk:k=s.size:=(by omega);subst hkk;rw[List.drop_of_length_le (by rw[aae];omega),ajI] at hr
    have HA:Hid (acF v (aad s)=(bs,0,0)):=aac (by
     have:=apH hr;rw[this];simp)
    have CS:=aac (arF w.heap.size w.heap.size v bs wr hg);clear hr hg;go_wp2_with fail;refine CS.out.mono ?_;rintro e w1 ⟨rfl,hb1⟩;go_wp2;go_ret3;exact a2v HA.out ⟨rfl,hb.trans hb1⟩
theorem ayO (s:ByteArray)(x:List Int × Int × Int)(w:World)(C:Hid (Calls Tryz.prog 95 #[.string s,.bool false] w (aeK x w))):Calls Tryz.prog 72 #[.string s] w (aeK x w):=by
 go_enter Tryz.func72,Tryz.ntmps72;go_wp2_with fail;refine C.out.mono ?_;rintro e w1 ⟨rfl,hb⟩;go_wp2;go_ret3;exact⟨rfl,hb⟩
theorem avt (s:ByteArray)(w:World)(hs:s.size≤4000000000)(hV:Vars w):Calls Tryz.prog 72 #[.string s] w (aeK (acF false (aad s)) w):=ayO s _ w (aac (afG s false w hs hV))
theorem value_of (s:ByteArray)(x:List Int × Int × Int)(w:World)(C:Hid (Calls Tryz.prog 95 #[.string s,.bool true] w (aeK x w))):Calls Tryz.prog 154 #[.string s] w (aeK x w):=by
 go_enter Tryz.func154,Tryz.ntmps154;go_wp2_with fail;refine C.out.mono ?_;rintro e w1 ⟨rfl,hb⟩;go_wp2;go_ret3;exact⟨rfl,hb⟩
theorem auE (s:ByteArray)(w:World)(hs:s.size≤4000000000)(hV:Vars w):Calls Tryz.prog 154 #[.string s] w (aeK (acF true (aad s)) w):=value_of s _ w (aac (afG s true w hs hV))
end Go.Proofs.YtiaebhomfebagaaGreatDoor
namespace Go.Proofs.YtiaebhomfebagaaGreatDoor
open Go.RowKit
theorem aas {s:ByteArray}{l:List Int}(h:aad s=l):s=strOfNums l:=by
 refine aaW ?_;subst h;rw[aeo _ (abn s) fun x hx=>(Byt.aad s x hx).2]
theorem aaq (s t:ByteArray):aad (s++t)=aad s++aad t:=by
 unfold aad;rw[ByteArray.data_append,Array.toList_append,List.map_append]
theorem abS (s t:ByteArray):(s++t).size=s.size+t.size:=by rw[← aae,aaq,List.length_append,aae,aae]
end Go.Proofs.YtiaebhomfebagaaGreatDoor
namespace Go.Proofs.YtiaebhomfebagaaGreatDoor
theorem acv {r:Int}(h:Chr r):¬ Bad r:=by unfold Chr Btw at h;unfold Bad;omega
def Rt (l:List Int):Prop:=(acX l).2.2=0∧∀ r∈(acX l).1,Chr r
theorem aeX (r:Int)(h:¬ Bad r)(h1:128≤r):128≤(aat r).getD 0 0∧∀ x∈aat r,128≤x:=by
 unfold Bad at h;by_cases h2:r < 2048
 · rw[enc2 h1 h2];refine⟨by simp;omega,fun x hx=> ?_⟩;simp at hx;omega
 by_cases h3:r < 65536
 · rw[enc3 (by omega) h3];refine⟨by simp;omega,fun x hx=> ?_⟩;simp at hx;omega
 · rw[enc4 (by omega)];refine⟨by simp;omega,fun x hx=> ?_⟩;simp at hx;omega
theorem adO {l:List Int}(hn:NN l)(h:Rt l):l=(acX l).1.flatMap aat∧∀ r∈(acX l).1,Chr r:=by
 obtain⟨hg,hp,_,h4,_⟩:=ajB l.length l (Nat.le_refl _) hn;rw[h4 h.1,List.take_length] at hp;refine⟨?_,h.2⟩
 conv=>lhs;rw[← hp]
 have:∀ (m:List Int),Good m→m.flatMap a2r=m.flatMap aat:=by
  intro m
  induction m with
  | nil=>intro _;rfl
  | cons x m ih=>
    intro hm;rw[List.flatMap_cons,List.flatMap_cons,aqn (hm x (by simp)),ih fun y hy=>hm y (by simp[hy])]
 exact this _ hg
end Go.Proofs.YtiaebhomfebagaaGreatDoor
namespace Go.Proofs.YtiaebhomfebagaaGreatDoor
def fnd (m:List Int):List Int→Option Nat
 | []=>if m=[] then some 0 else none
 | c :: l=>if m.isPrefixOf (c :: l)=true then some 0 else (fnd m l).map (· +1)
def Occ (m l:List Int)(j:Nat):Prop:=m <+:l.drop j
theorem auA {m l:List Int}{j:Nat}(h:Occ m l j)(hj:j≤l.length):j+m.length≤l.length:=by
 have:=h.length_le;rw[List.length_drop] at this;omega
theorem aeS (m:List Int):∀ (l:List Int),(fnd m l=none∧∀ j,j≤l.length→¬ Occ m l j)∨∃ n,fnd m l=some n∧n+m.length≤l.length∧Occ m l n∧∀ j,j < n→¬ Occ m l j
 | []=>by
   by_cases h:m=[]
   · subst h;exact .inr ⟨0,rfl,by simp,by simp[Occ],fun j hj=>by omega⟩
   · refine .inl ⟨by simp[fnd,h],fun j hj ho=> ?_⟩;have:=auA ho hj
     cases m with
     | nil=>exact h rfl
     | cons a b=>simp at this
 | c :: l=>by
   by_cases h:m.isPrefixOf (c :: l)=true
   · have hp:=List.isPrefixOf_iff_prefix.1 h;refine .inr ⟨0,by simp[fnd,h],by simpa using hp.length_le,by simpa [Occ] using hp,fun j hj=>by omega⟩
   · have h0:¬ Occ m (c :: l) 0:=fun ho=>h (List.isPrefixOf_iff_prefix.2 (by simpa [Occ] using ho));rcases aeS m l with ⟨h1,h2⟩ | ⟨n,h1,h2,h3,h4⟩
     · refine .inl ⟨by simp[fnd,h,h1],fun j hj=> ?_⟩
       cases j with
       | zero=>exact h0
       | succ j=>exact fun ho=>h2 j (by simpa using hj) (by simpa [Occ] using ho)
     · refine .inr ⟨n+1,by simp[fnd,h,h1],by simp;omega,by simpa [Occ] using h3,fun j hj=> ?_⟩
       cases j with
       | zero=>exact h0
       | succ j=>exact fun ho=>h4 j (by omega) (by simpa [Occ] using ho)
theorem acu {m l:List Int}{n:Nat}(h:fnd m l=some n):n+m.length≤l.length∧Occ m l n∧∀ j,j < n→¬ Occ m l j:=by
 rcases aeS m l with ⟨h1,h2⟩ | ⟨k,h1,h2,h3,h4⟩
 · rw[h1] at h;cases h
 · rw[h1] at h;cases h;exact⟨h2,h3,h4⟩
theorem ame {m l:List Int}(h:fnd m l=none):∀ j,j≤l.length→¬ Occ m l j:=by
 rcases aeS m l with ⟨h1,h2⟩ | ⟨k,h1,h2,h3,h4⟩
 · exact h2
 · rw[h1] at h;cases h
theorem axV {m l:List Int}{n:Nat}(hn:n≤l.length)(h:Occ m l n)(h2:∀ j,j < n→¬ Occ m l j):fnd m l=some n:=by
 rcases aeS m l with ⟨h1,h3⟩ | ⟨k,h1,h3,h4,h5⟩
 · exact absurd h (h3 n hn)
 · rw[h1];rcases Nat.lt_trichotomy k n with g | g | g
   · exact absurd h4 (h2 k g)
   · rw[g]
   · exact absurd h (h5 n g)
theorem ayI {m l:List Int}{j:Nat}(t:List Int)(hj:j≤l.length)(h:Occ m l j):Occ m (l++t) j:=by
 unfold Occ at *;rw[List.drop_append_of_le_length hj];exact h.trans (List.prefix_append _ _)
theorem awe {m l t:List Int}{j:Nat}(hj:j+m.length≤l.length)(h:Occ m (l++t) j):Occ m l j:=by
 unfold Occ at *;rw[List.drop_append_of_le_length (by omega)] at h;have:(l.drop j).length=l.length - j:=List.length_drop ..;exact List.prefix_of_prefix_length_le h (List.prefix_append _ _) (by omega)
theorem adJ {m l:List Int}{n:Nat}(t:List Int)(h:fnd m l=some n):fnd m (l++t)=some n:=by
 obtain⟨h1,h2,h3⟩:=acu h;refine axV (by simp;omega) (ayI t (by omega) h2) fun j hj ho=>h3 j hj (awe (by omega) ho)
theorem amY {m l:List Int}{n:Nat}(h:fnd m l=some n):(l.drop n).take m.length=m:=by
 obtain⟨h1,h2,h3⟩:=acu h;exact(List.prefix_iff_eq_take.1 h2).symm
theorem occ_one (c:Int)(l:List Int)(j:Nat)(hj:j < l.length):Occ [c] l j↔l.getD j 0=c:=by
 unfold Occ;rw[List.drop_eq_getElem_cons hj,List.getD_eq_getElem?_getD,List.getElem?_eq_getElem hj,Option.getD_some,List.cons_prefix_cons];simp only[List.nil_prefix,and_true];exact eq_comm
theorem aqI (c:Int)(l:List Int):(fnd [c] l).isSome=true↔c∈l:=by
 rcases aeS [c] l with ⟨h1,h2⟩ | ⟨k,h1,h3,h4,h5⟩
 · rw[h1];simp only[Option.isSome_none,Bool.false_eq_true,false_iff];intro hm;obtain⟨j,hj,he⟩:=List.getElem_of_mem hm;exact h2 j (by omega) ((occ_one c l j hj).2 (by simp[List.getElem?_eq_getElem hj,he]))
 · rw[h1];simp only[Option.isSome_some,true_iff];simp only[List.length_singleton] at h3;have:=(occ_one c l k (by omega)).1 h4;rw[← this,List.getD_eq_getElem?_getD,List.getElem?_eq_getElem (by omega)];exact List.getElem_mem _
def ahD (m l:List Int):Int:=match fnd m l with | some n=>(n:Int) | none=> -1
theorem acd {m l:List Int}{n:Nat}(h:fnd m l=some n):ahD m l=n:=by unfold ahD;rw[h]
theorem acB {m l:List Int}(h:fnd m l=none):ahD m l= -1:=by unfold ahD;rw[h]
def abh (l:List Int):Int:=if (acX l).2.2≠0 then 2 else if ∀ r∈(acX l).1,Chr r then 0 else 3
theorem aod:abh []=0:=by simp[abh,ade]
theorem anC (c:Int)(l:List Int)(hc:c < 128):aaX (c :: l)=(c,1,0):=by
 unfold aaX canon;simp[hc]
theorem amK (c:Int)(l:List Int)(h0:0≤c)(hc:c < 128)(hl:NN l):acX (c :: l)=(c :: (acX l).1,1+(acX l).2.1,(acX l).2.2):=by
 have h:=agL (c :: l) (by simp) (fun x hx=>(List.mem_cons.1 hx).elim (fun e=>e ▸ h0) (hl x)) (by rw[anC c l hc]);rw[anC c l hc] at h
 simpa using h
def unq:Int→List Int→Option Nat
 | _,[]=>none
 | q,c :: l=>if q≠0 then (unq (if c=q then 0 else q) l).map (· +1) else if c=34∨c=39 then (unq c l).map (· +1) else if c=62 then some 0 else (unq 0 l).map (· +1)
theorem akU:∀ (l:List Int) (q:Int) (n:Nat) (t:List Int),unq q l=some n→unq q (l++t)=some n∧n < l.length
 | [],q,n,t,h=>by simp[unq] at h
 | c :: l,q,n,t,h=>by
   have key:∀ q',(unq q' l).map (· +1)=some n→(unq q' (l++t)).map (· +1)=some n∧n < (c :: l).length:=fun q' hq=>by
    obtain⟨m,hm,rfl⟩:=Option.map_eq_some_iff.1 hq;obtain⟨h1,h2⟩:=akU l q' m t hm;exact⟨by rw[h1];rfl,by simp;omega⟩
   rw[List.cons_append];unfold unq at h ⊢;split at h
   · rename_i hq;rw[if_pos hq];exact key _ h
   · rename_i hq;rw[if_neg hq];split at h
     · rename_i hc;rw[if_pos hc];exact key _ h
     · rename_i hc;rw[if_neg hc];split at h
       · rename_i h6;rw[if_pos h6];cases h;exact⟨rfl,by simp⟩
       · rename_i h6;rw[if_neg h6];exact key _ h
def acU:List Int→List Int
 | []=>[]
 | c :: l=>(if c=13 then (if l.head?=some 10 then [] else [10]) else [c])++acU l
def aaZ (c:Int):Bool:=decide (Blank c)
def aeW (l:List Int):List Int:=(l.reverse.dropWhile aaZ).reverse
def aaQ (c:Int):Int:=if 65≤c∧c≤90 then c+32 else c
def abz (l:List Int):List Int:=l.map aaQ
end Go.Proofs.YtiaebhomfebagaaGreatDoor
namespace Go.Proofs.YtiaebhomfebagaaGreatDoor.Nz
open Go.RowKit
theorem acs {a b:Bool}(h:a=b):Ending.returned (.bool a)=.returned (.bool b):=by rw[h]
theorem bt {p:Prop} [Decidable p](h:p):true=decide p:=(decide_eq_true h).symm
theorem bf {p:Prop} [Decidable p](h:¬ p):false=decide p:=(decide_eq_false h).symm
theorem acM (r a b:Int)(w:World):Calls Tryz.prog 60 #[.int .i32 r,.int .i32 a,.int .i32 b] w fun e w'=>e=.returned (.bool (decide (Btw r a b)))∧w=w':=by
 go_enter Tryz.func60,Tryz.ntmps60;go_wp2
 all_goals
  go_ret;refine⟨acs ?_,rfl⟩
  first
   | refine bt ?_
   | refine bf ?_
   | (refine Bool.eq_iff_iff.2 ?_;simp only[decide_eq_true_eq,Bool.or_eq_true,beq_iff_eq])
  simp only[Part,Start,Chr,Blank,Btw] at *
  first
   | omega
   | (constructor <;> intro hq <;> omega)
theorem adG (r:Int)(w:World):Calls Tryz.prog 55 #[.int .i32 r] w fun e w'=>e=.returned (.bool (decide (Start r)))∧w=w':=by
 go_enter Tryz.func55,Tryz.ntmps55;go_wp2_with (first | (go_at_call 60;refine(acM _ _ _ _).mono ?_;rintro e w' ⟨rfl,rfl⟩))
 all_goals
  go_ret;refine⟨acs ?_,rfl⟩
  first
   | refine bt ?_
   | refine bf ?_
   | (refine Bool.eq_iff_iff.2 ?_;simp only[decide_eq_true_eq,Bool.or_eq_true,beq_iff_eq])
  simp only[Part,Start,Chr,Blank,Btw] at *
  first
   | omega
   | (constructor <;> intro hq <;> omega)
theorem afX (r:Int)(w:World):Calls Tryz.prog 56 #[.int .i32 r] w fun e w'=>e=.returned (.bool (decide (Part r)))∧w=w':=by
 go_enter Tryz.func56,Tryz.ntmps56;go_wp2_with (first | (go_at_call 55;refine(adG _ _).mono ?_;rintro e w' ⟨rfl,rfl⟩) | (go_at_call 60;refine(acM _ _ _ _).mono ?_;rintro e w' ⟨rfl,rfl⟩))
 all_goals
  go_ret;refine⟨acs ?_,rfl⟩
  first
   | refine bt ?_
   | refine bf ?_
   | (refine Bool.eq_iff_iff.2 ?_;simp only[decide_eq_true_eq,Bool.or_eq_true,beq_iff_eq])
  simp only[Part,Start,Chr,Blank,Btw] at *
  first
   | omega
   | (constructor <;> intro hq <;> omega)
end Go.Proofs.YtiaebhomfebagaaGreatDoor.Nz
namespace Go.Proofs.YtiaebhomfebagaaGreatDoor.Nz
open Go.RowKit
def rgo (s:ByteArray):Nat→Nat→List Int
 | 0,_=>[]
 | f+1,i=>if i < s.size then ((Utf8.decode s i).1:Int) :: rgo s f (i+(Utf8.decode s i).2) else []
def runes (s:ByteArray):List Int:=rgo s s.size 0
theorem width_pos (s:ByteArray)(pos:Nat)(h:pos < s.size):1≤(Utf8.decode s pos).2:=by
 by_cases ha:(s[pos]'h).toNat < 128
 · rw[decode_ascii s pos h ha];exact Nat.le_refl _
 · exact(decode_high s pos h (by omega)).2
theorem aso (s:ByteArray)(b pos:Nat)(h:¬ pos < s.size):rgo s b pos=[]:=by
 cases b with
 | zero=>rfl
 | succ b=>simp[rgo,h]
theorem apn (w:World)(t:TypeId)(cs:Array Value)(i:Nat):(w.alloc (.cells cs t)).cell? ⟨w.heap.size,i,none⟩=cs[i]?:=World.cell?_alloc_mark w cs t (0,0) i
end Go.Proofs.YtiaebhomfebagaaGreatDoor.Nz
namespace Go.Proofs.YtiaebhomfebagaaGreatDoor.Nz
open Go.RowKit
def bl (s:ByteArray):List Nat:=s.data.toList.map UInt8.toNat
def dN (L:List Nat):Nat × Nat:=Lib.decodeN L.length (L.getD 0 0) (L.getD 1 0) (L.getD 2 0) (L.getD 3 0)
def rl:Nat→List Nat→List Int
 | 0,_=>[]
 | f+1,L=>if L=[] then [] else ((dN L).1:Int) :: rl f (L.drop (dN L).2)
def Rn (L:List Nat):List Int:=rl L.length L
theorem aau (s:ByteArray):(bl s).length=s.size:=by simp[bl]
theorem amX (s:ByteArray)(i k:Nat):(s.get! (i+k)).toNat=((bl s).drop i).getD k 0:=by
 rw[List.getD_eq_getElem?_getD,List.getElem?_drop];unfold bl;rw[List.getElem?_map];show (s.data[i+k]!).toNat=_;by_cases h:i+k < s.data.size
 · rw[getElem!_pos s.data (i+k) h];rw[Array.getElem?_toList,Array.getElem?_eq_getElem h];rfl
 · rw[getElem!_neg s.data (i+k) h,Array.getElem?_toList,Array.getElem?_eq_none (by omega)];rfl
theorem adh (s:ByteArray)(i:Nat):Utf8.decode s i=dN ((bl s).drop i):=by
 rw[Lib.decode_at];unfold dN;rw[List.length_drop,aau,← amX s i 0,← amX s i 1,← amX s i 2,← amX s i 3];rfl
theorem aaV (L:List Nat)(h:L≠[]):1≤(dN L).2∧(dN L).2≤L.length:=by
 have hl:1≤L.length:=List.length_pos_iff.2 h;unfold dN Lib.decodeN
 repeat' split
 all_goals refine⟨?_,?_⟩ <;> simp <;> omega
theorem ahw (f:Nat):rl f []=[]:=by cases f <;> simp[rl]
theorem arh:∀ (f g:Nat) (L:List Nat),L.length≤f→L.length≤g→rl f L=rl g L
 | 0,g,L,h1,h2=>by
   have:L=[]:=List.eq_nil_of_length_eq_zero (by omega);subst this;rw[ahw,ahw]
 | f+1,0,L,h1,h2=>by
   have:L=[]:=List.eq_nil_of_length_eq_zero (by omega);subst this;rw[ahw,ahw]
 | f+1,g+1,L,h1,h2=>by
   by_cases h:L=[]
   · subst h;rw[ahw,ahw]
   · have hw:=aaV L h;simp only[rl,h,if_false];rw[arh f g (L.drop (dN L).2) (by simp;omega) (by simp;omega)]
theorem a4a:Rn []=[]:=rfl
theorem adq (L:List Nat)(h:L≠[]):Rn L=((dN L).1:Int) :: Rn (L.drop (dN L).2):=by
 have hl:1≤L.length:=List.length_pos_iff.2 h;have hw:=aaV L h;unfold Rn;obtain⟨f,hf⟩:∃ f,L.length=f+1:=⟨L.length - 1,by omega⟩;rw[hf];simp only[rl,h,if_false];rw[arh f (L.drop (dN L).2).length (L.drop (dN L).2) (by simp;omega) (Nat.le_refl _)]
theorem awK (s:ByteArray):∀ (b i:Nat),rgo s b i=rl b ((bl s).drop i)
 | 0,i=>rfl
 | b+1,i=>by
   unfold rgo rl;by_cases h:i < s.size
   · have hne:(bl s).drop i≠[]:=by
      intro h2;have:=congrArg List.length h2;simp[aau] at this;omega
     rw[if_pos h,if_neg hne,awK s b,adh,List.drop_drop]
   · have he:(bl s).drop i=[]:=by
      rw[List.drop_eq_nil_iff,aau];omega
     rw[if_neg h,if_pos he]
theorem anI (s:ByteArray):runes s=Rn (bl s):=by
 unfold runes Rn;rw[awK,List.drop_zero,aau]
end Go.Proofs.YtiaebhomfebagaaGreatDoor.Nz
namespace Go.Proofs.YtiaebhomfebagaaGreatDoor.Nz
open Go.RowKit
def Ok (r:Int):Prop:=r=58∨Part r
instance (r:Int):Decidable (Ok r):=inferInstanceAs (Decidable (r=58∨Part r))
def plR:List Int→Bool
 | []=>false
 | x :: l=>decide (Start x) && (x :: l).all (fun r=>decide (Part r))
def pl (L:List Nat):Bool:=plR (Rn L)
def sp:Nat→List Nat→Nat
 | 0,_=>0
 | f+1,L=>if L=[] then 0 else if Ok ((dN L).1:Int) then (dN L).2+sp f (L.drop (dN L).2) else 0
def St (L:List Nat):Nat:=sp L.length L
theorem ahe (f:Nat):sp f []=0:=by cases f <;> simp[sp]
theorem aqO:∀ (f g:Nat) (L:List Nat),L.length≤f→L.length≤g→sp f L=sp g L
 | 0,g,L,h1,h2=>by
   have:L=[]:=List.eq_nil_of_length_eq_zero (by omega);subst this;rw[ahe,ahe]
 | f+1,0,L,h1,h2=>by
   have:L=[]:=List.eq_nil_of_length_eq_zero (by omega);subst this;rw[ahe,ahe]
 | f+1,g+1,L,h1,h2=>by
   by_cases h:L=[]
   · subst h;rw[ahe,ahe]
   · have hw:=aaV L h;simp only[sp,h,if_false];rw[aqO f g (L.drop (dN L).2) (by simp;omega) (by simp;omega)]
theorem a3I:St []=0:=rfl
theorem adI (L:List Nat)(h:L≠[]):St L=if Ok ((dN L).1:Int) then (dN L).2+St (L.drop (dN L).2) else 0:=by
 have hl:1≤L.length:=List.length_pos_iff.2 h;have hw:=aaV L h;unfold St;obtain⟨f,hf⟩:∃ f,L.length=f+1:=⟨L.length - 1,by omega⟩;rw[hf];simp only[sp,h,if_false];rw[aqO f (L.drop (dN L).2).length (L.drop (dN L).2) (by simp;omega) (Nat.le_refl _)]
theorem a0y:∀ (n:Nat) (L:List Nat),L.length≤n→St L≤L.length
 | n,L,hn=>by
   by_cases h:L=[]
   · subst h;rw[a3I];exact Nat.zero_le _
   · have hl:1≤L.length:=List.length_pos_iff.2 h;have hw:=aaV L h
     match n with
     | 0=>omega
     | n+1=>
       rw[adI L h];split
       · have:=a0y n (L.drop (dN L).2) (by simp;omega);simp at this;omega
       · omega
theorem anx (A B:List Nat)(c:Nat)(hc:c < 128)(h:A≠[]):dN (A++c :: B)=dN A:=by
 match A,h with
 | [a],_=>
   simp only[dN,Lib.decodeN,List.cons_append,List.nil_append,List.getD_cons_zero,List.getD_cons_succ,List.length_cons,List.length_nil,List.getD_nil]
   repeat' split
   all_goals first | (exfalso;omega) | rfl
 | [a,b],_=>
   simp only[dN,Lib.decodeN,List.cons_append,List.nil_append,List.getD_cons_zero,List.getD_cons_succ,List.length_cons,List.length_nil,List.getD_nil]
   repeat' split
   all_goals first | (exfalso;omega) | rfl
 | [a,b,d],_=>
   simp only[dN,Lib.decodeN,List.cons_append,List.nil_append,List.getD_cons_zero,List.getD_cons_succ,List.length_cons,List.length_nil,List.getD_nil]
   repeat' split
   all_goals first | (exfalso;omega) | rfl
 | a :: b :: d :: e :: A',_=>
   simp only[dN,Lib.decodeN,List.cons_append,List.nil_append,List.getD_cons_zero,List.getD_cons_succ,List.length_cons,List.length_append]
   repeat' split
   all_goals first | (exfalso;omega) | rfl
theorem agF (B:List Nat)(c:Nat)(hc:c < 128):dN (c :: B)=(c,1):=by simp[dN,Lib.decodeN,hc]
theorem amf:∀ (n:Nat) (A B:List Nat) (c:Nat),c < 128→A.length≤n→Rn (A++c :: B)=Rn A++(c:Int) :: Rn B
 | n,A,B,c,hc,hn=>by
   by_cases h:A=[]
   · subst h;rw[List.nil_append,a4a,List.nil_append,adq _ (by simp),agF B c hc];rfl
   · have hl:1≤A.length:=List.length_pos_iff.2 h;have hw:=aaV A h
     match n with
     | 0=>omega
     | n+1=>
       rw[adq (A++c :: B) (by simp),anx A B c hc h,adq A h,List.drop_append_of_le_length hw.2,amf n (A.drop (dN A).2) B c hc (by simp;omega)];rfl
theorem a2W:¬ Part 58:=by decide
theorem amA (A B:List Nat):pl (A++58 :: B)=false:=by
 unfold pl;rw[amf _ A B 58 (by omega) (Nat.le_refl _)]
 have key:(Rn A++(58:Int) :: Rn B).all (fun r=>decide (Part r))=false:=by
  rw[List.all_append,List.all_cons,decide_eq_false a2W];simp
 have h58:((58:Nat):Int)=58:=rfl;rw[h58]
 cases hR:Rn A++(58:Int) :: Rn B with
 | nil=>rfl
 | cons x l=>
   rw[hR] at key;simp only[plR,key,Bool.and_false]
theorem a3X (L:List Nat)(h:58∈L):pl L=false:=by
 obtain⟨A,B,rfl⟩:=List.append_of_mem h;exact amA A B
theorem aph {L:List Nat}(h:pl L=true):∀ x∈Rn L,Part x:=by
 unfold pl at h;intro x hx
 cases hR:Rn L with
 | nil=>rw[hR] at hx;simp at hx
 | cons y l=>
   rw[hR] at h hx;simp only[plR,Bool.and_eq_true,List.all_eq_true,decide_eq_true_eq] at h;exact h.2 x hx
theorem aqN:∀ (n:Nat) (L:List Nat),L.length≤n→St (L.drop (St L))=0
 | n,L,hn=>by
   by_cases h:L=[]
   · subst h;rfl
   · have hl:1≤L.length:=List.length_pos_iff.2 h;have hw:=aaV L h
     match n with
     | 0=>omega
     | n+1=>
       have hc:=adI L h;by_cases hk:Ok ((dN L).1:Int)
       · rw[if_pos hk] at hc;rw[hc,← List.drop_drop];exact aqN n (L.drop (dN L).2) (by simp;omega)
       · rw[if_neg hk] at hc;rw[hc,List.drop_zero,hc]
end Go.Proofs.YtiaebhomfebagaaGreatDoor.Nz
namespace Go.Proofs.YtiaebhomfebagaaGreatDoor.Nz
open Go.RowKit
def aP (l:List Int):Bool:=l.all (fun r=>decide (Part r))
theorem adx (s:ByteArray)(pos:Nat)(h:pos < s.size):(bl s).drop pos≠[]:=by
 intro h2;have:=congrArg List.length h2;simp[aau] at this;omega
theorem a3M (s:ByteArray)(pos:Nat)(h:pos < s.size):Rn ((bl s).drop pos)=((Utf8.decode s pos).1:Int) :: Rn ((bl s).drop (pos+(Utf8.decode s pos).2)):=by
 rw[adq _ (adx s pos h),← adh,List.drop_drop]
theorem a1o (s:ByteArray)(pos:Nat)(h:¬ pos < s.size):Rn ((bl s).drop pos)=[]:=by
 rw[List.drop_of_length_le (by rw[aau];omega)];rfl
theorem auw (s:ByteArray)(h:0 < s.size):pl (bl s)=(decide (Start ((Utf8.decode s 0).1:Int)) && (decide (Part ((Utf8.decode s 0).1:Int)) && aP (Rn ((bl s).drop (0+(Utf8.decode s 0).2))))):=by
 have:=a3M s 0 h;rw[List.drop_zero] at this;unfold pl aP;rw[this];simp only[plR,List.all_cons]
theorem isE (s:ByteArray):s.toList.isEmpty=decide (s.size=0):=by
 rw[Lib.toList_data,Lib.size_eq];cases s.data.toList <;> simp
def a5c (s:ByteArray)(w:World)(wr:World):Prop:=
 ∃ pos:Nat,wr=w.iter s pos∧(pos=0∨(pos≠0∧s.size≠0∧pl (bl s)=aP (Rn ((bl s).drop pos))))
theorem ace (s:ByteArray)(w:World):
 Calls Tryz.prog 38 #[.string s] w fun e w'=>e=.returned (.bool (pl (bl s)))∧Below w.heap.size w w':=by
 have HB:=aac (fun pos=>(Below.refl w.heap.size w).alloc (Nat.le_refl _) (.stringIter s pos));have HF:=aac (auw s);have HA:=aac (a3M s);have HE:=aac (a1o s)
 have HZ:Hid (s.size=0→pl (bl s)=false):=aac (fun h=>by
  have:bl s=[]:=List.eq_nil_of_length_eq_zero (by rw[aau];exact h);rw[this];rfl)
 obtain⟨res,hres⟩:∃ res,res=pl (bl s):=⟨_,rfl⟩;have HRES:=aac hres;rw[← hres];clear hres;go_enter Tryz.func38,Tryz.ntmps38;go_wp2_with fail;go_loopw [3,4] (fun _ _ wr=>a5c s w wr) (fun _ _ wr=>s.size - wr.iterPos w.heap.size);case atStart=>exact⟨0,rfl,.inl rfl⟩
 case round=>
  obtain⟨pos,rfl,hq⟩:=hrel;have HQ:=aac hq;clear hq;by_cases hp:pos < s.size
  · have hnx:∀ ty,(Instr.next (.pointer (some ⟨w.heap.size,0,none⟩)) true ty).run Tryz.prog (w.iter s pos)=_:=fun ty=>run_next_any w s pos ty hp;have hwd:=width_pos s pos hp;have HR:=aac (HA.out pos hp);by_cases h0:pos=0
    · have F0:=aac (HF.out (by omega));have c0:((pos:Int) == 0)=true:=(by simp[h0]);have H0:=aac h0;rw[← h0] at F0;clear h0 HA HQ;generalize (Utf8.decode s pos).1=r at *;generalize (Utf8.decode s pos).2=d at *;go_wp2_with (first | (go_at_call 55;refine(adG _ _).mono ?_;rintro e w' ⟨rfl,rfl⟩) | (go_at_call 56;refine(afX _ _).mono ?_;rintro e w' ⟨rfl,rfl⟩))
      all_goals first
       | (go_ret;refine⟨acs ?_,HB.out _⟩;have f0:=F0.out
          try rw[HR.out] at f0
          rw[HRES.out,f0];simp_all [aP])
       | (refine⟨⟨pos+d,rfl,.inr ⟨by omega,by omega,?_⟩⟩,by simp;omega⟩;have f0:=F0.out
          try rw[HR.out] at f0
          rw[f0];simp_all [aP])
    · have Q:=HQ.out;have c0:((pos:Int) == 0)=false:=by simp;omega
      have F0:Hid (pl (bl s)=aP (Rn ((bl s).drop pos))):=aac (by rcases Q with h | h;exact absurd h h0;exact h.2.2);clear Q HA HQ;generalize (Utf8.decode s pos).1=r at *;generalize (Utf8.decode s pos).2=d at *;go_wp2_with (first | (go_at_call 55;refine(adG _ _).mono ?_;rintro e w' ⟨rfl,rfl⟩) | (go_at_call 56;refine(afX _ _).mono ?_;rintro e w' ⟨rfl,rfl⟩))
      all_goals first
       | (go_ret;refine⟨acs ?_,HB.out _⟩;have f0:=F0.out
          try rw[HR.out] at f0
          rw[HRES.out,f0];simp_all [aP])
       | (refine⟨⟨pos+d,rfl,.inr ⟨by omega,by omega,?_⟩⟩,by simp;omega⟩;have f0:=F0.out
          try rw[HR.out] at f0
          rw[f0];simp_all [aP])
  · have hnx:∀ ty,(Instr.next (.pointer (some ⟨w.heap.size,0,none⟩)) true ty).run Tryz.prog (w.iter s pos)=_:=fun ty=>run_next_end w s pos ty hp;go_wp2;go_ret;refine⟨acs ?_,HB.out pos⟩;rw[HRES.out,isE];by_cases hz:s.size=0
    · rw[HZ.out hz];simp[hz]
    · rcases HQ.out with h | h
      · omega
      · rw[h.2.2,HE.out pos hp];simp[hz,aP]
end Go.Proofs.YtiaebhomfebagaaGreatDoor.Nz
