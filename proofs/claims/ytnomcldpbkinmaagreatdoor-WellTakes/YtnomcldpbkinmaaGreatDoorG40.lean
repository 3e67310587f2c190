/- Lemmas of the claim. -/
import Derived.Test.YtnomcldpbkinmaaGreatDoorG39
set_option maxHeartbeats 8000000
set_option maxRecDepth 100000
set_option linter.unusedSimpArgs false
set_option linter.unusedVariables false
namespace Go.Proofs.YtnomcldpbkinmaaGreatDoor
open Go.RowKit
def akC:Array Value:= #[.string ⟨#[60,33,91,67,68,65,84,65,91]⟩,.string ⟨#[60,33,45,45]⟩,.string ⟨#[60,63]⟩,.string ⟨#[60,47]⟩]
def aoZ:Array Value:= #[.string ⟨#[93,93,62]⟩,.string ⟨#[45,45,62]⟩,.string ⟨#[63,62]⟩,.string ⟨#[62]⟩]
def bgK (k:Nat):ByteArray:=match akC[k]? with | some (.string s)=>s | _=>⟨#[]⟩
def stK (k:Nat):ByteArray:=match aoZ[k]? with | some (.string s)=>s | _=>⟨#[]⟩
theorem arK (k:Nat)(hk:k < 4):akC[k]?=some (.string (bgK k))∧aoZ[k]?=some (.string (stK k))∧(bgK k).size≤100∧(stK k).size≤100:=by
 rcases(show k=0∨k=1∨k=2∨k=3 by omega) with rfl | rfl | rfl | rfl;all_goals exact⟨rfl,rfl,by decide,by decide⟩
structure RW (B:Nat)(w wr:World):Prop where
 end_:w.heap.size < wr.heap.size∧Below w.heap.size w wr∧aiF wr w.heap.size
 beg:∀ k,k < 4→wr.cell? ⟨B,k,none⟩=some (.string (bgK k))
 stp:∀ k,k < 4→wr.cell? ⟨B+1,k,none⟩=some (.string (stK k))
 lt:B+1 < wr.heap.size
theorem agZ (w:World):RW (w.heap.size+1) w (((w.alloc (.cells #[.int .i64 0,.string ⟨#[]⟩,.bool false,.bool false] 42)).alloc (.cells akC 9)).alloc (.cells aoZ 9)):=by
 have h0:=abt w;generalize hw0:w.alloc (.cells #[.int .i64 0,.string ⟨#[]⟩,.bool false,.bool false] 42)=w0 at *;have s0:w0.heap.size=w.heap.size+1:=(by rw[← hw0,aaC]);have b1:=(Below.refl w0.heap.size w0).alloc (Nat.le_refl _) (.cells akC 9);have s1:(w0.alloc (.cells akC 9)).heap.size=w.heap.size+2:=(by rw[aaC,s0]);have b2:=(Below.refl (w0.alloc (.cells akC 9)).heap.size (w0.alloc (.cells akC 9))).alloc (Nat.le_refl _) (.cells aoZ 9);refine⟨aak (aak h0 b1) b2,fun k hk=> ?_,fun k hk=> ?_,?_⟩
 · have:=amo w0 9 akC k;rw[s0,(arK k hk).1] at this;exact abC _ this
 · have:=amo (w0.alloc (.cells akC 9)) 9 aoZ k;rw[s1,(arK k hk).2.1] at this;exact this
 · rw[aaC,s1];omega
theorem RW.keep {B:Nat}{w wr w':World}(h:RW B w wr)(hb:Below wr.heap.size wr w'):RW B w w':=
 ⟨aak h.end_ hb,fun k hk=>(hb.cell (p:=⟨B,k,none⟩) (by show B < wr.heap.size;have:=h.lt;omega)).trans (h.beg k hk),fun k hk=>(hb.cell (p:=⟨B+1,k,none⟩) h.lt).trans (h.stp k hk),Nat.lt_of_lt_of_le h.lt hb.size⟩
def InC (k:Nat)(t:ByteArray)(a:Nat)(y:Tk × Int):Prop:=∀ W,Calls Tryz.prog 38 #[.int .i64 (k:Int),.string t,.int .i64 (a:Int)] W (aaQ y W)
inductive RM (s:ByteArray)(a m:Nat):Tk × Nat × Int→Prop
 | cut (C:Hid (FdC s (a+(bgK m).size) (stK m) (-1))):RM s a m (T0,0,7)
 | bad (t:Nat) (er:Int) (h1:a+(bgK m).size≤t) (h2:t+(stK m).size≤s.size) (he:er≠0) (C:Hid (FdC s (a+(bgK m).size) (stK m) t)) (C2:Hid (WrC (s.extract a (t+(stK m).size)) er)):RM s a m (T0,0,er)
 | err (t:Nat) (y:Tk) (er:Int) (h1:a+(bgK m).size≤t) (h2:t+(stK m).size≤s.size) (he:er≠0) (C:Hid (FdC s (a+(bgK m).size) (stK m) t)) (C2:Hid (WrC (s.extract a (t+(stK m).size)) 0)) (C3:Hid (InC m (s.extract (a+(bgK m).size) t) a (y,er))):RM s a m (T0,0,er)
 | ok (t:Nat) (y:Tk) (h1:a+(bgK m).size≤t) (h2:t+(stK m).size≤s.size) (C:Hid (FdC s (a+(bgK m).size) (stK m) t)) (C2:Hid (WrC (s.extract a (t+(stK m).size)) 0)) (C3:Hid (InC m (s.extract (a+(bgK m).size) t) a (y,0))):RM s a m (y,t+(stK m).size - a,0)
theorem aeP (s:ByteArray)(a m:Nat)(more:Bool)(x:Tk × Nat × Int)(w:World)(hs:s.size≤10000)(ha:a < s.size)(h6:(aad s).getD a 0=60)(hm:m < 4)(HN:Hid (∀ j,j < m→AtC s a (bgK j) false))(HM:Hid (AtC s a (bgK m) true))(hx:RM s a m x):
 Calls Tryz.prog 23 #[.string s,.int .i64 (a:Int),.bool more] w (abh x a w):=by
 have HW:=aac (agZ w);have hbb:=aaG s a ha;have t0:((a:Int) == (s.size:Int))=false:=by rw[beq_eq_false_iff_ne];omega
 have t6:(((s[a]).toNat:Int) != 60)=false:=by rw[hbb,h6];rfl
 have e0:(0:Int)≤(a:Int):=(by omega);have e1:(a:Int) < (s.size:Int):=(by omega);clear hbb h6;unfold akC aoZ at HW;go_enter Tryz.func23,Tryz.ntmps23;go_wp2_with fail;generalize hw2:World.alloc (World.alloc (World.alloc w _) _) _=w2 at *;clear hw2;go_loop [15] (fun i=>∃ k:Nat,i=.int .i64 k∧k≤m) (fun i=>m - (intOf i).toNat);case atStart=>exact⟨0,rfl,Nat.zero_le _⟩
 case round=>
  obtain⟨k,rfl,hk⟩:=hrel;have hk4:k < 4:=(by omega);have d1:(k:Int) < 4:=(by omega);have d0:(0:Int)≤(k:Int):=(by omega);have p2:=HW.out.beg k hk4;have r2:=HW.out.stp k hk4;by_cases hlt:k < m
  · have C:=aac (HN.out k hlt);clear hx HN HM;generalize bgK k=bg at *;go_wp2_with fail;refine(C.out _).mono ?_;rintro e wf ⟨rfl,rfl⟩;go_wp2_with fail;go_round;case rel=>exact⟨k+1,by go_num,by omega⟩
    case measure=>simp only[intOf];omega
  · obtain rfl:m=k:=(by omega);obtain⟨_,_,hz1,hz2⟩:=arK m hk4;have q1:IntKind.i64.wrap ((a:Int)+((bgK m).size:Int))=((a+(bgK m).size:Nat):Int):=by rw[IntWalk.i64_in _ (by omega)];omega
    clear hlt HN hm hk
    cases hx with
    | cut C=>
      generalize bgK m=bg at *;generalize stK m=st at *;generalize hfr:a+bg.size=fr at *;go_wp2_with fail;refine(HM.out _).mono ?_;rintro e wg ⟨rfl,rfl⟩;go_wp2_with fail;refine(C.out _).mono ?_;rintro e wf ⟨rfl,rfl⟩;obtain⟨hz,hb,⟨c0,c1,c2,c3,f0,f1,f2,f3⟩⟩:=HW.out.end_;have HB:=aac hb;clear hb;go_wp2_with fail;exact bodyPost_ret (v:=.tuple #[tkV T0,.int .i64 (a:Int),.int .i64 7]) (by rw[tk0];simp[results,Tryz.results23,go_sem,c0,c1,c2,c3,hz]) rfl (abY (m:=0) rfl (by omega) rfl (aag HB.out (Nat.le_refl _) _ _ _ _))
    | bad t er h1 h2 he C C2=>
      have t1:(er != 0)=true:=by rw[bne_iff_ne];exact he
      have q2:IntKind.i64.wrap ((t:Int)+((stK m).size:Int))=((t+(stK m).size:Nat):Int):=by rw[IntWalk.i64_in _ (by omega)];omega
      have g1:¬ (t:Int) < 0:=(by omega);have g2:(a:Int)≤((t+(stK m).size:Nat):Int):=(by omega);have g3:((t+(stK m).size:Nat):Int)≤(s.size:Int):=(by omega);clear he;generalize bgK m=bg at *;generalize stK m=st at *;generalize hfr:a+bg.size=fr at *;generalize hto:t+st.size=n at *;go_wp2_with fail;refine(HM.out _).mono ?_;rintro e wg ⟨rfl,rfl⟩;go_wp2_with fail;refine(C.out _).mono ?_;rintro e wf ⟨rfl,rfl⟩;go_wp2_with fail;refine(C2.out _).mono ?_;rintro e w4 ⟨rfl,hb4⟩;have h4:=aak HW.out.end_ hb4;clear hb4;go_wp2_with fail;refine(C2.out _).mono ?_;rintro e w5 ⟨rfl,hb5⟩;have h5:=aak h4 hb5;clear hb5 h4;obtain⟨hz,hb,⟨c0,c1,c2,c3,f0,f1,f2,f3⟩⟩:=h5;have HB:=aac hb;clear hb;go_wp2_with fail;exact bodyPost_ret (v:=.tuple #[tkV T0,.int .i64 (a:Int),.int .i64 er]) (by rw[tk0];simp[results,Tryz.results23,go_sem,c0,c1,c2,c3,hz]) rfl (abY (m:=0) rfl (by omega) rfl (aag HB.out (Nat.le_refl _) _ _ _ _))
    | err t y er h1 h2 he C C2 C3=>
      have t1:(er != 0)=true:=by rw[bne_iff_ne];exact he
      have q2:IntKind.i64.wrap ((t:Int)+((stK m).size:Int))=((t+(stK m).size:Nat):Int):=by rw[IntWalk.i64_in _ (by omega)];omega
      have g1:¬ (t:Int) < 0:=(by omega);have g2:(a:Int)≤((t+(stK m).size:Nat):Int):=(by omega);have g3:((t+(stK m).size:Nat):Int)≤(s.size:Int):=(by omega);have g4:((a+(bgK m).size:Nat):Int)≤(t:Int):=(by omega);have g5:(t:Int)≤(s.size:Int):=(by omega);have g6:(0:Int)≤((a+(bgK m).size:Nat):Int):=(by omega);clear he;generalize bgK m=bg at *;generalize stK m=st at *;generalize hfr:a+bg.size=fr at *;generalize hto:t+st.size=n at *;go_wp2_with fail;refine(HM.out _).mono ?_;rintro e wg ⟨rfl,rfl⟩;go_wp2_with fail;refine(C.out _).mono ?_;rintro e wf ⟨rfl,rfl⟩;go_wp2_with fail;refine(C2.out _).mono ?_;rintro e w4 ⟨rfl,hb4⟩;have h4:=aak HW.out.end_ hb4;clear hb4;go_wp2_with fail;refine(C3.out _).mono ?_;rintro e w5 ⟨rfl,hb5⟩;have h5:=aak h4 hb5;clear hb5 h4;obtain⟨kd,tx,em,bk⟩:=y;unfold tkV;dsimp only;generalize strOfNums tx=str;have hA:=(Below.refl w5.heap.size w5).alloc (Nat.le_refl _) (.cells #[.int .i64 kd,.string str,.bool em,.bool bk] 42);have h6:=aak h5 hA;clear hA h5;obtain⟨hz,hb,⟨c0,c1,c2,c3,f0,f1,f2,f3⟩⟩:=h6;have HB:=aac hb;clear hb;go_wp2_with fail;exact bodyPost_ret (v:=.tuple #[tkV T0,.int .i64 (a:Int),.int .i64 er]) (by rw[tk0];simp[results,Tryz.results23,go_sem,c0,c1,c2,c3,hz]) rfl (abY (m:=0) rfl (by omega) rfl (aag HB.out (Nat.le_refl _) _ _ _ _))
    | ok t y h1 h2 C C2 C3=>
      have q2:IntKind.i64.wrap ((t:Int)+((stK m).size:Int))=((t+(stK m).size:Nat):Int):=by rw[IntWalk.i64_in _ (by omega)];omega
      have g1:¬ (t:Int) < 0:=(by omega);have g2:(a:Int)≤((t+(stK m).size:Nat):Int):=(by omega);have g3:((t+(stK m).size:Nat):Int)≤(s.size:Int):=(by omega);have g4:((a+(bgK m).size:Nat):Int)≤(t:Int):=(by omega);have g5:(t:Int)≤(s.size:Int):=(by omega);have g6:(0:Int)≤((a+(bgK m).size:Nat):Int):=(by omega);have HNN:=aac h1;have HN2:=aac h2;generalize bgK m=bg at *;generalize stK m=st at *;generalize hfr:a+bg.size=fr at *;generalize hto:t+st.size=n at *;go_wp2_with fail;refine(HM.out _).mono ?_;rintro e wg ⟨rfl,rfl⟩;go_wp2_with fail;refine(C.out _).mono ?_;rintro e wf ⟨rfl,rfl⟩;go_wp2_with fail;refine(C2.out _).mono ?_;rintro e w4 ⟨rfl,hb4⟩;have h4:=aak HW.out.end_ hb4;clear hb4;go_wp2_with fail;refine(C3.out _).mono ?_;rintro e w5 ⟨rfl,hb5⟩;have h5:=aak h4 hb5;clear hb5 h4;obtain⟨kd,tx,em,bk⟩:=y;unfold tkV;dsimp only;generalize hst:strOfNums tx=str;have HS:=aac hst;clear hst;have hA:=(Below.refl w5.heap.size w5).alloc (Nat.le_refl _) (.cells #[.int .i64 kd,.string str,.bool em,.bool bk] 42);have h6:=aak h5 hA;clear hA h5;obtain⟨hz,hb,⟨c0,c1,c2,c3,f0,f1,f2,f3⟩⟩:=h6;have HB:=aac hb;clear hb;go_wp2_with fail;exact bodyPost_ret (v:=.tuple #[.agg #[.int .i64 kd,.string str,.bool em,.bool bk],.int .i64 (n:Int),.int .i64 0]) (by simp[results,Tryz.results23,go_sem,c0,c1,c2,c3,hz]) rfl (abY (y:=⟨kd,tx,em,bk⟩) (k:=(n:Int)) rfl (by omega) (by rw[← HS.out];rfl) (aag HB.out (Nat.le_refl _) _ _ _ _))
end Go.Proofs.YtnomcldpbkinmaaGreatDoor
namespace Go.Proofs.YtnomcldpbkinmaaGreatDoor
open Go.RowKit
theorem apF (s:ByteArray)(a:Nat)(more:Bool)(w:World)(hs:s.size≤10000)(ha:a < s.size)(h6:(aad s).getD a 0=60)(HN:Hid (∀ j,j < 4→AtC s a (bgK j) false))(C1:Hid (AtC s a ⟨#[60,33]⟩ true))(C2:Hid (AtC s a ⟨#[60,33,68,79,67,84,89,80,69]⟩ true)):
 Calls Tryz.prog 23 #[.string s,.int .i64 (a:Int),.bool more] w (abh (T0,0,12) a w):=by
 have HW:=aac (agZ w);have hbb:=aaG s a ha;have t0:((a:Int) == (s.size:Int))=false:=by rw[beq_eq_false_iff_ne];omega
 have t6:(((s[a]).toNat:Int) != 60)=false:=by rw[hbb,h6];rfl
 have e0:(0:Int)≤(a:Int):=(by omega);have e1:(a:Int) < (s.size:Int):=(by omega);clear hbb h6;unfold akC aoZ at HW;go_enter Tryz.func23,Tryz.ntmps23;go_wp2_with fail;generalize hw2:World.alloc (World.alloc (World.alloc w _) _) _=w2 at *;clear hw2;go_loop [15] (fun i=>∃ k:Nat,i=.int .i64 k∧k≤4) (fun i=>4 - (intOf i).toNat);case atStart=>exact⟨0,rfl,Nat.zero_le _⟩
 case round=>
  obtain⟨k,rfl,hk⟩:=hrel;have d0:(0:Int)≤(k:Int):=(by omega);by_cases hk4:k < 4
  · have d1:(k:Int) < 4:=(by omega);have p2:=HW.out.beg k hk4;have C:=aac (HN.out k hk4);clear HN C1 C2;generalize bgK k=bg at *;go_wp2_with fail;refine(C.out _).mono ?_;rintro e wf ⟨rfl,rfl⟩;go_wp2_with fail;go_round;case rel=>exact⟨k+1,by go_num,by omega⟩
    case measure=>simp only[intOf];omega
  · have d1:¬ (k:Int) < 4:=(by omega);clear HN;go_wp2_with fail;refine(C1.out _).mono ?_;rintro e wg ⟨rfl,rfl⟩;go_wp2_with fail;refine(C2.out _).mono ?_;rintro e wg ⟨rfl,rfl⟩;obtain⟨hz,hb,⟨c0,c1,c2,c3,f0,f1,f2,f3⟩⟩:=HW.out.end_;have HB:=aac hb;clear hb;go_wp2_with fail;exact bodyPost_ret (v:=.tuple #[tkV T0,.int .i64 (a:Int),.int .i64 12]) (by rw[tk0];simp[results,Tryz.results23,go_sem,c0,c1,c2,c3,hz]) rfl (abY (m:=0) rfl (by omega) rfl (aag HB.out (Nat.le_refl _) _ _ _ _))
theorem awS (s:ByteArray)(a:Nat)(more:Bool)(w:World)(hs:s.size≤10000)(ha:a < s.size)(h6:(aad s).getD a 0=60)(HN:Hid (∀ j,j < 4→AtC s a (bgK j) false))(C1:Hid (AtC s a ⟨#[60,33]⟩ true))(C2:Hid (AtC s a ⟨#[60,33,68,79,67,84,89,80,69]⟩ false))(C3:Hid (AtC ⟨#[60,33,91,67,68,65,84,65,91]⟩ 0 (s.extract a s.size) true)):
 Calls Tryz.prog 23 #[.string s,.int .i64 (a:Int),.bool more] w (abh (T0,0,7) a w):=by
 have g1:(a:Int)≤(s.size:Int):=(by omega);have HW:=aac (agZ w);have hbb:=aaG s a ha;have t0:((a:Int) == (s.size:Int))=false:=by rw[beq_eq_false_iff_ne];omega
 have t6:(((s[a]).toNat:Int) != 60)=false:=by rw[hbb,h6];rfl
 have e0:(0:Int)≤(a:Int):=(by omega);have e1:(a:Int) < (s.size:Int):=(by omega);clear hbb h6;unfold akC aoZ at HW;go_enter Tryz.func23,Tryz.ntmps23;go_wp2_with fail;generalize hw2:World.alloc (World.alloc (World.alloc w _) _) _=w2 at *;clear hw2;go_loop [15] (fun i=>∃ k:Nat,i=.int .i64 k∧k≤4) (fun i=>4 - (intOf i).toNat);case atStart=>exact⟨0,rfl,Nat.zero_le _⟩
 case round=>
  obtain⟨k,rfl,hk⟩:=hrel;have d0:(0:Int)≤(k:Int):=(by omega);by_cases hk4:k < 4
  · have d1:(k:Int) < 4:=(by omega);have p2:=HW.out.beg k hk4;have C:=aac (HN.out k hk4);clear HN C1 C2 C3;generalize bgK k=bg at *;go_wp2_with fail;refine(C.out _).mono ?_;rintro e wf ⟨rfl,rfl⟩;go_wp2_with fail;go_round;case rel=>exact⟨k+1,by go_num,by omega⟩
    case measure=>simp only[intOf];omega
  · have d1:¬ (k:Int) < 4:=(by omega);clear HN;go_wp2_with fail;refine(C1.out _).mono ?_;rintro e wg ⟨rfl,rfl⟩;go_wp2_with fail;refine(C2.out _).mono ?_;rintro e wg ⟨rfl,rfl⟩;go_wp2_with fail;refine(C3.out _).mono ?_;rintro e wg ⟨rfl,rfl⟩;obtain⟨hz,hb,⟨c0,c1,c2,c3,f0,f1,f2,f3⟩⟩:=HW.out.end_;have HB:=aac hb;clear hb;go_wp2_with fail;exact bodyPost_ret (v:=.tuple #[tkV T0,.int .i64 (a:Int),.int .i64 7]) (by rw[tk0];simp[results,Tryz.results23,go_sem,c0,c1,c2,c3,hz]) rfl (abY (m:=0) rfl (by omega) rfl (aag HB.out (Nat.le_refl _) _ _ _ _))
theorem axn (s:ByteArray)(a:Nat)(more:Bool)(w:World)(hs:s.size≤10000)(ha:a < s.size)(h6:(aad s).getD a 0=60)(HN:Hid (∀ j,j < 4→AtC s a (bgK j) false))(C1:Hid (AtC s a ⟨#[60,33]⟩ true))(C2:Hid (AtC s a ⟨#[60,33,68,79,67,84,89,80,69]⟩ false))(C3:Hid (AtC ⟨#[60,33,91,67,68,65,84,65,91]⟩ 0 (s.extract a s.size) false))(C4:Hid (AtC ⟨#[60,33,45,45]⟩ 0 (s.extract a s.size) true)):
 Calls Tryz.prog 23 #[.string s,.int .i64 (a:Int),.bool more] w (abh (T0,0,7) a w):=by
 have g1:(a:Int)≤(s.size:Int):=(by omega);have HW:=aac (agZ w);have hbb:=aaG s a ha;have t0:((a:Int) == (s.size:Int))=false:=by rw[beq_eq_false_iff_ne];omega
 have t6:(((s[a]).toNat:Int) != 60)=false:=by rw[hbb,h6];rfl
 have e0:(0:Int)≤(a:Int):=(by omega);have e1:(a:Int) < (s.size:Int):=(by omega);clear hbb h6;unfold akC aoZ at HW;go_enter Tryz.func23,Tryz.ntmps23;go_wp2_with fail;generalize hw2:World.alloc (World.alloc (World.alloc w _) _) _=w2 at *;clear hw2;go_loop [15] (fun i=>∃ k:Nat,i=.int .i64 k∧k≤4) (fun i=>4 - (intOf i).toNat);case atStart=>exact⟨0,rfl,Nat.zero_le _⟩
 case round=>
  obtain⟨k,rfl,hk⟩:=hrel;have d0:(0:Int)≤(k:Int):=(by omega);by_cases hk4:k < 4
  · have d1:(k:Int) < 4:=(by omega);have p2:=HW.out.beg k hk4;have C:=aac (HN.out k hk4);clear HN C1 C2 C3 C4;generalize bgK k=bg at *;go_wp2_with fail;refine(C.out _).mono ?_;rintro e wf ⟨rfl,rfl⟩;go_wp2_with fail;go_round;case rel=>exact⟨k+1,by go_num,by omega⟩
    case measure=>simp only[intOf];omega
  · have d1:¬ (k:Int) < 4:=(by omega);clear HN;go_wp2_with fail;refine(C1.out _).mono ?_;rintro e wg ⟨rfl,rfl⟩;go_wp2_with fail;refine(C2.out _).mono ?_;rintro e wg ⟨rfl,rfl⟩;go_wp2_with fail;refine(C3.out _).mono ?_;rintro e wg ⟨rfl,rfl⟩;go_wp2_with fail;refine(C4.out _).mono ?_;rintro e wg ⟨rfl,rfl⟩;obtain⟨hz,hb,⟨c0,c1,c2,c3,f0,f1,f2,f3⟩⟩:=HW.out.end_;have HB:=aac hb;clear hb;go_wp2_with fail;exact bodyPost_ret (v:=.tuple #[tkV T0,.int .i64 (a:Int),.int .i64 7]) (by rw[tk0];simp[results,Tryz.results23,go_sem,c0,c1,c2,c3,hz]) rfl (abY (m:=0) rfl (by omega) rfl (aag HB.out (Nat.le_refl _) _ _ _ _))
theorem ayX (s:ByteArray)(a:Nat)(more:Bool)(w:World)(hs:s.size≤10000)(ha:a < s.size)(h6:(aad s).getD a 0=60)(HN:Hid (∀ j,j < 4→AtC s a (bgK j) false))(C1:Hid (AtC s a ⟨#[60,33]⟩ true))(C2:Hid (AtC s a ⟨#[60,33,68,79,67,84,89,80,69]⟩ false))(C3:Hid (AtC ⟨#[60,33,91,67,68,65,84,65,91]⟩ 0 (s.extract a s.size) false))(C4:Hid (AtC ⟨#[60,33,45,45]⟩ 0 (s.extract a s.size) false))(C5:Hid (AtC ⟨#[60,33,68,79,67,84,89,80,69]⟩ 0 (s.extract a s.size) true)):
 Calls Tryz.prog 23 #[.string s,.int .i64 (a:Int),.bool more] w (abh (T0,0,7) a w):=by
 have g1:(a:Int)≤(s.size:Int):=(by omega);have HW:=aac (agZ w);have hbb:=aaG s a ha;have t0:((a:Int) == (s.size:Int))=false:=by rw[beq_eq_false_iff_ne];omega
 have t6:(((s[a]).toNat:Int) != 60)=false:=by rw[hbb,h6];rfl
 have e0:(0:Int)≤(a:Int):=(by omega);have e1:(a:Int) < (s.size:Int):=(by omega);clear hbb h6;unfold akC aoZ at HW;go_enter Tryz.func23,Tryz.ntmps23;go_wp2_with fail;generalize hw2:World.alloc (World.alloc (World.alloc w _) _) _=w2 at *;clear hw2;go_loop [15] (fun i=>∃ k:Nat,i=.int .i64 k∧k≤4) (fun i=>4 - (intOf i).toNat);case atStart=>exact⟨0,rfl,Nat.zero_le _⟩
 case round=>
  obtain⟨k,rfl,hk⟩:=hrel;have d0:(0:Int)≤(k:Int):=(by omega);by_cases hk4:k < 4
  · have d1:(k:Int) < 4:=(by omega);have p2:=HW.out.beg k hk4;have C:=aac (HN.out k hk4);clear HN C1 C2 C3 C4 C5;generalize bgK k=bg at *;go_wp2_with fail;refine(C.out _).mono ?_;rintro e wf ⟨rfl,rfl⟩;go_wp2_with fail;go_round;case rel=>exact⟨k+1,by go_num,by omega⟩
    case measure=>simp only[intOf];omega
  · have d1:¬ (k:Int) < 4:=(by omega);clear HN;go_wp2_with fail;refine(C1.out _).mono ?_;rintro e wg ⟨rfl,rfl⟩;go_wp2_with fail;refine(C2.out _).mono ?_;rintro e wg ⟨rfl,rfl⟩;go_wp2_with fail;refine(C3.out _).mono ?_;rintro e wg ⟨rfl,rfl⟩;go_wp2_with fail;refine(C4.out _).mono ?_;rintro e wg ⟨rfl,rfl⟩;go_wp2_with fail;refine(C5.out _).mono ?_;rintro e wg ⟨rfl,rfl⟩;obtain⟨hz,hb,⟨c0,c1,c2,c3,f0,f1,f2,f3⟩⟩:=HW.out.end_;have HB:=aac hb;clear hb;go_wp2_with fail;exact bodyPost_ret (v:=.tuple #[tkV T0,.int .i64 (a:Int),.int .i64 7]) (by rw[tk0];simp[results,Tryz.results23,go_sem,c0,c1,c2,c3,hz]) rfl (abY (m:=0) rfl (by omega) rfl (aag HB.out (Nat.le_refl _) _ _ _ _))
theorem azm (s:ByteArray)(a:Nat)(more:Bool)(w:World)(hs:s.size≤10000)(ha:a < s.size)(h6:(aad s).getD a 0=60)(HN:Hid (∀ j,j < 4→AtC s a (bgK j) false))(C1:Hid (AtC s a ⟨#[60,33]⟩ true))(C2:Hid (AtC s a ⟨#[60,33,68,79,67,84,89,80,69]⟩ false))(C3:Hid (AtC ⟨#[60,33,91,67,68,65,84,65,91]⟩ 0 (s.extract a s.size) false))(C4:Hid (AtC ⟨#[60,33,45,45]⟩ 0 (s.extract a s.size) false))(C5:Hid (AtC ⟨#[60,33,68,79,67,84,89,80,69]⟩ 0 (s.extract a s.size) false)):
 Calls Tryz.prog 23 #[.string s,.int .i64 (a:Int),.bool more] w (abh (T0,0,6) a w):=by
 have g1:(a:Int)≤(s.size:Int):=(by omega);have HW:=aac (agZ w);have hbb:=aaG s a ha;have t0:((a:Int) == (s.size:Int))=false:=by rw[beq_eq_false_iff_ne];omega
 have t6:(((s[a]).toNat:Int) != 60)=false:=by rw[hbb,h6];rfl
 have e0:(0:Int)≤(a:Int):=(by omega);have e1:(a:Int) < (s.size:Int):=(by omega);clear hbb h6;unfold akC aoZ at HW;go_enter Tryz.func23,Tryz.ntmps23;go_wp2_with fail;generalize hw2:World.alloc (World.alloc (World.alloc w _) _) _=w2 at *;clear hw2;go_loop [15] (fun i=>∃ k:Nat,i=.int .i64 k∧k≤4) (fun i=>4 - (intOf i).toNat);case atStart=>exact⟨0,rfl,Nat.zero_le _⟩
 case round=>
  obtain⟨k,rfl,hk⟩:=hrel;have d0:(0:Int)≤(k:Int):=(by omega);by_cases hk4:k < 4
  · have d1:(k:Int) < 4:=(by omega);have p2:=HW.out.beg k hk4;have C:=aac (HN.out k hk4);clear HN C1 C2 C3 C4 C5;generalize bgK k=bg at *;go_wp2_with fail;refine(C.out _).mono ?_;rintro e wf ⟨rfl,rfl⟩;go_wp2_with fail;go_round;case rel=>exact⟨k+1,by go_num,by omega⟩
    case measure=>simp only[intOf];omega
  · have d1:¬ (k:Int) < 4:=(by omega);clear HN;go_wp2_with fail;refine(C1.out _).mono ?_;rintro e wg ⟨rfl,rfl⟩;go_wp2_with fail;refine(C2.out _).mono ?_;rintro e wg ⟨rfl,rfl⟩;go_wp2_with fail;refine(C3.out _).mono ?_;rintro e wg ⟨rfl,rfl⟩;go_wp2_with fail;refine(C4.out _).mono ?_;rintro e wg ⟨rfl,rfl⟩;go_wp2_with fail;refine(C5.out _).mono ?_;rintro e wg ⟨rfl,rfl⟩;obtain⟨hz,hb,⟨c0,c1,c2,c3,f0,f1,f2,f3⟩⟩:=HW.out.end_;have HB:=aac hb;clear hb;go_wp2_with fail;exact bodyPost_ret (v:=.tuple #[tkV T0,.int .i64 (a:Int),.int .i64 6]) (by rw[tk0];simp[results,Tryz.results23,go_sem,c0,c1,c2,c3,hz]) rfl (abY (m:=0) rfl (by omega) rfl (aag HB.out (Nat.le_refl _) _ _ _ _))
inductive SE (s:ByteArray)(a t:Nat):Tk × Nat × Int→Prop
 | bad (er:Int) (he:er≠0) (C:Hid (WrC (s.extract a (t+1)) er)):SE s a t (T0,0,er)
 | emp (h1:a+1 < t) (h2:(aad s).getD (t - 1) 0=47) (C:Hid (WrC (s.extract a (t+1)) 0)) (y:Int) (hy:0≤y) (C2:Hid (FdC (s.extract (a+1) (t - 1)) 0 ⟨#[60]⟩ y)):SE s a t (T0,0,6)
 | empok (h1:a+1 < t) (h2:(aad s).getD (t - 1) 0=47) (C:Hid (WrC (s.extract a (t+1)) 0)) (C2:Hid (FdC (s.extract (a+1) (t - 1)) 0 ⟨#[60]⟩ (-1))) (l:List Int) (hl:s.extract (a+1) (t - 1)=strOfNums l):SE s a t (⟨1,l,true,false⟩,t+1 - a,0)
 | one (h1:a+1=t) (C:Hid (WrC (s.extract a (t+1)) 0)) (y:Int) (hy:0≤y) (C2:Hid (FdC (s.extract (a+1) t) 0 ⟨#[60]⟩ y)):SE s a t (T0,0,6)
 | oneok (h1:a+1=t) (C:Hid (WrC (s.extract a (t+1)) 0)) (C2:Hid (FdC (s.extract (a+1) t) 0 ⟨#[60]⟩ (-1))) (l:List Int) (hl:s.extract (a+1) t=strOfNums l):SE s a t (⟨1,l,false,false⟩,t+1 - a,0)
 | two (h1:a+1 < t) (h2:(aad s).getD (t - 1) 0≠47) (C:Hid (WrC (s.extract a (t+1)) 0)) (y:Int) (hy:0≤y) (C2:Hid (FdC (s.extract (a+1) t) 0 ⟨#[60]⟩ y)):SE s a t (T0,0,6)
 | twook (h1:a+1 < t) (h2:(aad s).getD (t - 1) 0≠47) (C:Hid (WrC (s.extract a (t+1)) 0)) (C2:Hid (FdC (s.extract (a+1) t) 0 ⟨#[60]⟩ (-1))) (l:List Int) (hl:s.extract (a+1) t=strOfNums l):SE s a t (⟨1,l,false,false⟩,t+1 - a,0)
def a3i (s:ByteArray)(a:Nat)(vt vq:Value):Prop:=
 ∃ (t:Nat) (q:Int),a+1≤t∧t≤s.size∧0≤q∧q < 256∧vt=.int .i64 t∧vq=.int .u8 q∧Hid (unq 0 ((aad s).drop (a+1))=(unq q ((aad s).drop t)).map (· +(t - (a+1))))
end Go.Proofs.YtnomcldpbkinmaaGreatDoor
namespace Go.Proofs.YtnomcldpbkinmaaGreatDoor
open Go.RowKit
theorem apK (s:ByteArray)(a:Nat)(more:Bool)(w:World)(hs:s.size≤10000)(ha:a < s.size)(h6:(aad s).getD a 0=60)(HN:Hid (∀ j,j < 4→AtC s a (bgK j) false))(x:Tk × Nat × Int)(C1:Hid (AtC s a ⟨#[60,33]⟩ false))(HC:Hid (unq 0 ((aad s).drop (a+1))=none→x=(T0,0,7)))(HS:Hid (∀ t,a+1≤t→t < s.size→unq 0 ((aad s).drop (a+1))=some (t - (a+1))→SE s a t x)):
 Calls Tryz.prog 23 #[.string s,.int .i64 (a:Int),.bool more] w (abh x a w):=by
 have HW:=aac (agZ w);have hbb:=aaG s a ha;have t0:((a:Int) == (s.size:Int))=false:=by rw[beq_eq_false_iff_ne];omega
 have t6:(((s[a]).toNat:Int) != 60)=false:=by rw[hbb,h6];rfl
 have e0:(0:Int)≤(a:Int):=(by omega);have e1:(a:Int) < (s.size:Int):=(by omega);clear hbb h6;unfold akC aoZ at HW;go_enter Tryz.func23,Tryz.ntmps23;go_wp2_with fail;generalize hw2:World.alloc (World.alloc (World.alloc w _) _) _=w2 at *;clear hw2;go_loop [15] (fun i=>∃ k:Nat,i=.int .i64 k∧k≤4) (fun i=>4 - (intOf i).toNat);case atStart=>exact⟨0,rfl,Nat.zero_le _⟩
 case round=>
  obtain⟨k,rfl,hk⟩:=hrel;have d0:(0:Int)≤(k:Int):=(by omega);by_cases hk4:k < 4
  · have d1:(k:Int) < 4:=(by omega);have p2:=HW.out.beg k hk4;have C:=aac (HN.out k hk4);clear HN C1 HC HS;generalize bgK k=bg at *;go_wp2_with fail;refine(C.out _).mono ?_;rintro e wf ⟨rfl,rfl⟩;go_wp2_with fail;go_round;case rel=>exact⟨k+1,by go_num,by omega⟩
    case measure=>simp only[intOf];omega
  · have d1:¬ (k:Int) < 4:=(by omega);clear HN;go_wp2_with fail;refine(C1.out _).mono ?_;rintro e wg ⟨rfl,rfl⟩;go_wp2_with fail;go_loop [22,23] (fun vt vq=>a3i s a vt vq) (fun vt _=>s.size - (intOf vt).toNat);case atStart=>exact⟨a+1,0,Nat.le_refl _,by omega,by omega,by omega,by go_num,rfl,aac (by simp)⟩
    case round=>
     obtain⟨t,q,ht1,ht2,hq0,hq1,rfl,rfl,hU⟩:=hrel;have q3:IntKind.i64.wrap ((a:Int)+1)=((a+1:Nat):Int):=by rw[IntWalk.i64_in _ (by omega)];omega
     have q4:IntKind.i64.wrap ((t:Int)+1)=((t+1:Nat):Int):=by rw[IntWalk.i64_in _ (by omega)];omega
     have y0:(0:Int)≤(t:Int):=(by omega);by_cases hlt:t < s.size
     · have y1:(t:Int) < (s.size:Int):=(by omega);have y2:¬ (s.size:Int)≤(t:Int):=(by omega);have hb:=afv s t hlt;have hb0:=afI s t;have hb1:=ahA s t;have hu:=hU.out;rw[amm (aad s) q t (by rw[aae];exact hlt),← abx] at hu;have key:t+1 - (a+1)=t - (a+1)+1:=(by omega);clear hU;by_cases hqz:q=0
       · subst hqz;rw[if_neg (by omega)] at hu;by_cases h1:bt s t=34∨bt s t=39
         · rw[if_pos h1,aea,← key] at hu;have HU:=aac hu;clear hu HS HC key;have x1:(((s[t]).toNat:Int) != 62)=true:=by rw[hb,bne_iff_ne];omega
           have hbb:((s[t]).toNat:Int)=bt s t:=hb;generalize bt s t=c at *;rcases h1 with h1 | h1
           · have x2:(((s[t]).toNat:Int) == 34)=true:=by rw[hbb,h1];rfl
             have H9:=aac hbb;clear hb hbb h1;go_wp2_with fail;go_round;case rel=>exact⟨t+1,c,by omega,by omega,by omega,by omega,by go_num,by rw[← H9.out],HU⟩
             case measure=>simp only[intOf];omega
           · have x2:(((s[t]).toNat:Int) == 34)=false:=by rw[hbb,h1];rfl
             have x3:(((s[t]).toNat:Int) == 39)=true:=by rw[hbb,h1];rfl
             have H9:=aac hbb;clear hb hbb h1;go_wp2_with fail;go_round;case rel=>exact⟨t+1,c,by omega,by omega,by omega,by omega,by go_num,by rw[← H9.out],HU⟩
             case measure=>simp only[intOf];omega
         · rw[if_neg h1] at hu;by_cases h2:bt s t=62
           · rw[if_pos h2] at hu;have hS:=HS.out t ht1 hlt (by rw[hu];simp);have x1:(((s[t]).toNat:Int) != 62)=false:=by rw[hb,h2];rfl
             clear hu HS HC key hb hb0 hb1 h1 h2;have g2:(a:Int)≤((t+1:Nat):Int):=(by omega);have g3:((t+1:Nat):Int)≤(s.size:Int):=(by omega);have g4:((a+1:Nat):Int)≤(t:Int):=(by omega);have g5:(t:Int)≤(s.size:Int):=(by omega);have g6:(0:Int)≤((a+1:Nat):Int):=by omega
             cases hS with
             | bad er he C=>
               have z1:(er != 0)=true:=by rw[bne_iff_ne];exact he
               clear he;go_wp2_with fail;refine(C.out _).mono ?_;rintro e w4 ⟨rfl,hb4⟩;have h4:=aak HW.out.end_ hb4;clear hb4;go_wp2_with fail;refine(C.out _).mono ?_;rintro e w5 ⟨rfl,hb5⟩;have h5:=aak h4 hb5;clear hb5 h4;obtain⟨hz,hb,⟨c0,c1,c2,c3,f0,f1,f2,f3⟩⟩:=h5;have HB:=aac hb;clear hb;go_wp2_with fail;exact bodyPost_ret (v:=.tuple #[tkV T0,.int .i64 (a:Int),.int .i64 er]) (by rw[tk0];simp[results,Tryz.results23,go_sem,c0,c1,c2,c3,hz]) rfl (abY (m:=0) rfl (by omega) rfl (aag HB.out (Nat.le_refl _) _ _ _ _))
             | emp h1 h2 C y hy C2=>
               have z2:((a+1:Nat):Int) < (t:Int):=(by omega);have z3:IntKind.i64.wrap ((t:Int) - 1)=((t - 1:Nat):Int):=by rw[IntWalk.i64_in _ (by omega)];omega
               have z4:t - 1 < s.size:=(by omega);have z5:((t - 1:Nat):Int) < (s.size:Int):=(by omega);have z9:(0:Int)≤((t - 1:Nat):Int):=(by omega);have hb9:=aaG s (t - 1) z4;have z6:(((s[t - 1]).toNat:Int) == 47)=true:=by rw[hb9];simpa using h2
               have z7:((a+1:Nat):Int)≤((t - 1:Nat):Int):=(by omega);have z8:((t - 1:Nat):Int)≤(s.size:Int):=(by omega);clear hb9 h2;go_wp2_with fail;refine(C.out _).mono ?_;rintro e w4 ⟨rfl,hb4⟩;have h4:=aak HW.out.end_ hb4;clear hb4;have hA:=(Below.refl w4.heap.size w4).alloc (Nat.le_refl _) (.cells #[.int .i64 1,.string (s.extract (a+1) (t - 1)),.bool true,.bool false] 42);have h6:=aak h4 hA;clear hA h4;go_wp2_with fail;refine(C2.out _).mono ?_;rintro e wf ⟨rfl,rfl⟩;obtain⟨hz,hb,⟨c0,c1,c2,c3,f0,f1,f2,f3⟩⟩:=h6;have HB:=aac hb;clear hb;go_wp2_with fail;exact bodyPost_ret (v:=.tuple #[tkV T0,.int .i64 (a:Int),.int .i64 6]) (by rw[tk0];simp[results,Tryz.results23,go_sem,c0,c1,c2,c3,hz]) rfl (abY (m:=0) rfl (by omega) rfl (aag HB.out (Nat.le_refl _) _ _ _ _))
             | empok h1 h2 C C2 l hl=>
               have HL:=aac hl;clear hl;have z2:((a+1:Nat):Int) < (t:Int):=(by omega);have z3:IntKind.i64.wrap ((t:Int) - 1)=((t - 1:Nat):Int):=by rw[IntWalk.i64_in _ (by omega)];omega
               have z4:t - 1 < s.size:=(by omega);have z5:((t - 1:Nat):Int) < (s.size:Int):=(by omega);have z9:(0:Int)≤((t - 1:Nat):Int):=(by omega);have hb9:=aaG s (t - 1) z4;have z6:(((s[t - 1]).toNat:Int) == 47)=true:=by rw[hb9];simpa using h2
               have z7:((a+1:Nat):Int)≤((t - 1:Nat):Int):=(by omega);have z8:((t - 1:Nat):Int)≤(s.size:Int):=(by omega);clear hb9 h2;go_wp2_with fail;refine(C.out _).mono ?_;rintro e w4 ⟨rfl,hb4⟩;have h4:=aak HW.out.end_ hb4;clear hb4;have hA:=(Below.refl w4.heap.size w4).alloc (Nat.le_refl _) (.cells #[.int .i64 1,.string (s.extract (a+1) (t - 1)),.bool true,.bool false] 42);have h6:=aak h4 hA;clear hA h4;go_wp2_with fail;refine(C2.out _).mono ?_;rintro e wf ⟨rfl,rfl⟩;obtain⟨hz,hb,⟨c0,c1,c2,c3,f0,f1,f2,f3⟩⟩:=h6;have HB:=aac hb;clear hb;go_wp2_with fail;exact bodyPost_ret (v:=.tuple #[.agg #[.int .i64 1,.string (s.extract (a+1) (t - 1)),.bool true,.bool false],.int .i64 ((t+1:Nat):Int),.int .i64 0]) (by simp[results,Tryz.results23,go_sem,c0,c1,c2,c3,hz]) rfl (abY (y:=⟨1,l,true,false⟩) (k:=((t+1:Nat):Int)) rfl (by omega) (by unfold tkV;rw[HL.out]) (aag HB.out (Nat.le_refl _) _ _ _ _))
             | one h1 C y hy C2=>
               have z2:¬ ((a+1:Nat):Int) < (t:Int):=(by omega);clear h1;go_wp2_with fail;refine(C.out _).mono ?_;rintro e w4 ⟨rfl,hb4⟩;have h4:=aak HW.out.end_ hb4;clear hb4;have hA:=(Below.refl w4.heap.size w4).alloc (Nat.le_refl _) (.cells #[.int .i64 1,.string (s.extract (a+1) t),.bool false,.bool false] 42);have h6:=aak h4 hA;clear hA h4;go_wp2_with fail;refine(C2.out _).mono ?_;rintro e wf ⟨rfl,rfl⟩;obtain⟨hz,hb,⟨c0,c1,c2,c3,f0,f1,f2,f3⟩⟩:=h6;have HB:=aac hb;clear hb;go_wp2_with fail;exact bodyPost_ret (v:=.tuple #[tkV T0,.int .i64 (a:Int),.int .i64 6]) (by rw[tk0];simp[results,Tryz.results23,go_sem,c0,c1,c2,c3,hz]) rfl (abY (m:=0) rfl (by omega) rfl (aag HB.out (Nat.le_refl _) _ _ _ _))
             | oneok h1 C C2 l hl=>
               have HL:=aac hl;clear hl;have z2:¬ ((a+1:Nat):Int) < (t:Int):=(by omega);clear h1;go_wp2_with fail;refine(C.out _).mono ?_;rintro e w4 ⟨rfl,hb4⟩;have h4:=aak HW.out.end_ hb4;clear hb4;have hA:=(Below.refl w4.heap.size w4).alloc (Nat.le_refl _) (.cells #[.int .i64 1,.string (s.extract (a+1) t),.bool false,.bool false] 42);have h6:=aak h4 hA;clear hA h4;go_wp2_with fail;refine(C2.out _).mono ?_;rintro e wf ⟨rfl,rfl⟩;obtain⟨hz,hb,⟨c0,c1,c2,c3,f0,f1,f2,f3⟩⟩:=h6;have HB:=aac hb;clear hb;go_wp2_with fail;exact bodyPost_ret (v:=.tuple #[.agg #[.int .i64 1,.string (s.extract (a+1) t),.bool false,.bool false],.int .i64 ((t+1:Nat):Int),.int .i64 0]) (by simp[results,Tryz.results23,go_sem,c0,c1,c2,c3,hz]) rfl (abY (y:=⟨1,l,false,false⟩) (k:=((t+1:Nat):Int)) rfl (by omega) (by unfold tkV;rw[HL.out]) (aag HB.out (Nat.le_refl _) _ _ _ _))
             | two h1 h2 C y hy C2=>
               have z2:((a+1:Nat):Int) < (t:Int):=(by omega);have z3:IntKind.i64.wrap ((t:Int) - 1)=((t - 1:Nat):Int):=by rw[IntWalk.i64_in _ (by omega)];omega
               have z4:t - 1 < s.size:=(by omega);have z5:((t - 1:Nat):Int) < (s.size:Int):=(by omega);have z9:(0:Int)≤((t - 1:Nat):Int):=(by omega);have hb9:=aaG s (t - 1) z4;have z6:(((s[t - 1]).toNat:Int) == 47)=false:=by rw[hb9];simpa using h2
               have z7:((a+1:Nat):Int)≤((t - 1:Nat):Int):=(by omega);have z8:((t - 1:Nat):Int)≤(s.size:Int):=(by omega);clear hb9 h2;go_wp2_with fail;refine(C.out _).mono ?_;rintro e w4 ⟨rfl,hb4⟩;have h4:=aak HW.out.end_ hb4;clear hb4;have hA:=(Below.refl w4.heap.size w4).alloc (Nat.le_refl _) (.cells #[.int .i64 1,.string (s.extract (a+1) t),.bool false,.bool false] 42);have h6:=aak h4 hA;clear hA h4;go_wp2_with fail;refine(C2.out _).mono ?_;rintro e wf ⟨rfl,rfl⟩;obtain⟨hz,hb,⟨c0,c1,c2,c3,f0,f1,f2,f3⟩⟩:=h6;have HB:=aac hb;clear hb;go_wp2_with fail;exact bodyPost_ret (v:=.tuple #[tkV T0,.int .i64 (a:Int),.int .i64 6]) (by rw[tk0];simp[results,Tryz.results23,go_sem,c0,c1,c2,c3,hz]) rfl (abY (m:=0) rfl (by omega) rfl (aag HB.out (Nat.le_refl _) _ _ _ _))
             | twook h1 h2 C C2 l hl=>
               have HL:=aac hl;clear hl;have z2:((a+1:Nat):Int) < (t:Int):=(by omega);have z3:IntKind.i64.wrap ((t:Int) - 1)=((t - 1:Nat):Int):=by rw[IntWalk.i64_in _ (by omega)];omega
               have z4:t - 1 < s.size:=(by omega);have z5:((t - 1:Nat):Int) < (s.size:Int):=(by omega);have z9:(0:Int)≤((t - 1:Nat):Int):=(by omega);have hb9:=aaG s (t - 1) z4;have z6:(((s[t - 1]).toNat:Int) == 47)=false:=by rw[hb9];simpa using h2
               have z7:((a+1:Nat):Int)≤((t - 1:Nat):Int):=(by omega);have z8:((t - 1:Nat):Int)≤(s.size:Int):=(by omega);clear hb9 h2;go_wp2_with fail;refine(C.out _).mono ?_;rintro e w4 ⟨rfl,hb4⟩;have h4:=aak HW.out.end_ hb4;clear hb4;have hA:=(Below.refl w4.heap.size w4).alloc (Nat.le_refl _) (.cells #[.int .i64 1,.string (s.extract (a+1) t),.bool false,.bool false] 42);have h6:=aak h4 hA;clear hA h4;go_wp2_with fail;refine(C2.out _).mono ?_;rintro e wf ⟨rfl,rfl⟩;obtain⟨hz,hb,⟨c0,c1,c2,c3,f0,f1,f2,f3⟩⟩:=h6;have HB:=aac hb;clear hb;go_wp2_with fail;exact bodyPost_ret (v:=.tuple #[.agg #[.int .i64 1,.string (s.extract (a+1) t),.bool false,.bool false],.int .i64 ((t+1:Nat):Int),.int .i64 0]) (by simp[results,Tryz.results23,go_sem,c0,c1,c2,c3,hz]) rfl (abY (y:=⟨1,l,false,false⟩) (k:=((t+1:Nat):Int)) rfl (by omega) (by unfold tkV;rw[HL.out]) (aag HB.out (Nat.le_refl _) _ _ _ _))
           · rw[if_neg h2,aea,← key] at hu;have HU:=aac hu;have x1:(((s[t]).toNat:Int) != 62)=true:=by rw[hb,bne_iff_ne];exact h2
             have x2:(((s[t]).toNat:Int) == 34)=false:=by rw[hb,beq_eq_false_iff_ne];omega
             have x3:(((s[t]).toNat:Int) == 39)=false:=by rw[hb,beq_eq_false_iff_ne];omega
             clear hu HS HC key hb hb0 hb1 h1 h2;go_wp2_with fail;go_round;case rel=>exact⟨t+1,0,by omega,by omega,by omega,by omega,by go_num,rfl,HU⟩
             case measure=>simp only[intOf];omega
       · rw[if_pos hqz,aea,← key] at hu;have x0:(q != 0)=true:=by rw[bne_iff_ne];exact hqz
         have x0':(q == 0)=false:=by rw[beq_eq_false_iff_ne];exact hqz
         by_cases h1:bt s t=q
         · rw[if_pos h1] at hu;have HU:=aac hu;have x1:(((s[t]).toNat:Int) == q)=true:=by rw[hb,h1];simp
           clear hu HS HC key hb hb0 hb1 h1;go_wp2_with fail;go_round;case rel=>exact⟨t+1,0,by omega,by omega,by omega,by omega,by go_num,rfl,HU⟩
           case measure=>simp only[intOf];omega
         · rw[if_neg h1] at hu;have HU:=aac hu;have x1:(((s[t]).toNat:Int) == q)=false:=by rw[hb,beq_eq_false_iff_ne];exact h1
           clear hu HS HC key hb hb0 hb1 h1;go_wp2_with fail;go_round;case rel=>exact⟨t+1,q,by omega,by omega,by omega,by omega,by go_num,rfl,HU⟩
           case measure=>simp only[intOf];omega
     · have y1:¬ (t:Int) < (s.size:Int):=(by omega);have y2:(s.size:Int)≤(t:Int):=by omega
       have HX:=aac (HC.out (by
        rw[hU.out,List.drop_of_length_le (by rw[aae];omega)];rfl))
       clear hU HS HC;obtain⟨hz,hb,⟨c0,c1,c2,c3,f0,f1,f2,f3⟩⟩:=HW.out.end_;have HB:=aac hb;clear hb;go_wp2_with fail;exact bodyPost_ret (v:=.tuple #[tkV T0,.int .i64 (a:Int),.int .i64 7]) (by rw[tk0];simp[results,Tryz.results23,go_sem,c0,c1,c2,c3,hz]) rfl (abY (m:=0) HX.out (by omega) rfl (aag HB.out (Nat.le_refl _) _ _ _ _))
end Go.Proofs.YtnomcldpbkinmaaGreatDoor
