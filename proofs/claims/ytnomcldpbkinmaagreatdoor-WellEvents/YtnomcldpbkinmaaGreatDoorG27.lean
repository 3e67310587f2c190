/- Lemmas of the claim. -/
import Derived.Test.YtnomcldpbkinmaaGreatDoorG24
import Derived.Test.YtnomcldpbkinmaaGreatDoorG26
import Derived.Test.YtnomcldpbkinmaaGreatDoorG07
set_option maxHeartbeats 4000000
set_option maxRecDepth 100000
set_option linter.unusedSimpArgs false
set_option linter.unusedVariables false
namespace Go.Proofs.YtnomcldpbkinmaaGreatDoor.Wl
open Go.RowKit
def ScL (w:World)(gs k:Nat)(AS:Option Addr)(mS cS:Nat)(L:List Pr):Prop:=∀ W,Below w.heap.size w W→W.cell? ⟨gs,k,none⟩=some (.slice AS mS cS)∧Nz.Sc.adC 75 W 0 (.slice AS mS cS) L
theorem acY {L R:List Pr}{nm:ByteArray}(hL:L.length≤10000)(hR:R.length≤10000)(hn:nm.size≤10000)(h1:Nz.Sc.adF L)(h2:Nz.Sc.adF R)(h3:∀ x∈R,x.1.size≤10000)(h4:∀ x∈R,(Nz.aao x.1).2.2=true)(W:World)(AS:Option Addr)(mS cS:Nat)(A2:Option Addr)(M c2:Nat)(hv:Nz.Sc.adC 75 W 0 (.slice AS mS cS) L)(hr:Nz.Sc.RdR W A2 R)(hM:M=R.length):
 Calls Tryz.prog 28 #[.slice AS mS cS,.agg #[.string nm,.slice A2 M c2]] W (Nz.Sc.acs W (Nz.Sc.acM L nm R)):=by
 obtain⟨A,c,e,hv2,hv3,_⟩:=Nz.Sc.abr hv;injection e with e1 e2 e3
 subst e1 e2 e3;exact Nz.Sc.aov AS A2 L.length M cS c2 nm L R W ⟨rfl,hM,hL,by omega,hn,h1,h2,h3,hv2,hr⟩ hv3 h4
theorem agG {u:ByteArray}(h:(Tg.aar u).1=0)(hu:u.size≤10000):(Tg.aar u).2.2.length≤10000∧(Tg.aar u).2.1.size≤10000∧Nz.Sc.adF (Tg.aar u).2.2∧(∀ x∈(Tg.aar u).2.2,x.1.size≤10000)∧∀ x∈(Tg.aar u).2.2,(Nz.aao x.1).2.2=true:=by
 obtain⟨p1,p2,p3,p4⟩:=ahe h hu;obtain⟨h1,_,_⟩:=Tg.azU u h;refine⟨by omega,p1,p3,p4,fun x hx=> ?_⟩;obtain⟨k,hk⟩:=List.getElem?_of_mem hx;exact(h1.2.2 k x hk).1
section
variable {A1 A2:Option Addr} {n c1 c2:Nat} {rt ov:Bool} {u m:ByteArray} {er k:Int} {em bk:Bool} {w:World}
theorem adn {W:World}{B:Nat}{v:Value}{l:List Pr}(h:Tg.aky W B v l):∃ A c,v=.slice A l.length c∧Nz.Sc.RdR W A l:=by
 obtain⟨A,c,h1,h2⟩:=Tg.abr h;exact⟨A,c,h1,h2⟩
theorem aku (hm:m.size≤10000)(hp:(Tg.aar m).1≠0):
 Calls Tryz.prog 16 #[.agg #[.slice A1 n c1,.slice A2 n c2,.bool false,.string u,.bool false,.int .i64 0],.agg #[.int .i64 1,.string m,.bool em,.bool bk]] w (RsP A1 n c1 A2 n c2 false u false (Tg.aar m).1 (Tg.aar m).1 w):=by
 have H0:=aac (db0 w #[.slice A1 n c1,.slice A2 n c2,.bool false,.string u,.bool false,.int .i64 0] #[.int .i64 1,.string m,.bool em,.bool bk]);have CP:Hid (∀ W,Calls Tryz.prog 27 #[.string m] W (Tg.aco (Tg.aar m) W)):=aac fun W=>Tg.ace m W hm;have t1:((Tg.aar m).1 != 0)=true:=bne_iff_ne.2 hp;clear hp;generalize Tg.aar m=q at *;obtain⟨eq,pn,pa⟩:=q;dsimp only at t1 ⊢;go_enter Tryz.func16,Tryz.ntmps16;go_wp2_with fail;refine(CP.out _).mono ?_;rintro e w1 ⟨v1,rfl,ho1,hb1⟩;dsimp only;obtain⟨A3,c3,rfl,R3⟩:=adn ho1;have HD1:=aac (H0.out.keep hb1);have HD2:=aac (HD1.out.keep ((Below.refl _ w1).alloc (Nat.le_refl _) (.cells #[.string pn,.slice A3 pa.length c3] 53)));obtain⟨y0,y1,y2,y3,y4,y5⟩:=Nz.Sc.cells6 HD2.out.st;clear ho1 hb1 R3 CP H0 HD1;go_wp2_with fail;refine(aby A1 A2 n c1 n c2 false false u 0 eq _).mono ?_;rintro e wf ⟨rfl,hf⟩;have HD:=aac (HD2.out.keep hf);clear hf HD2 y0 y1 y2 y3 y4 y5;obtain⟨z0,z1,z2,z3,z4,z5⟩:=Nz.Sc.cells6 HD.out.rs;obtain⟨g0,g1,g2,g3,g4,g5⟩:=Nz.Sc.adi HD.out.rs;go_wp2;have HS:=aac (akG HD.out.rs (.slice A1 n c1) (.slice A2 n c2) (.bool false) (.string u) (.bool false) (.int .i64 eq));obtain⟨r0,r1,r2,r3,r4,r5⟩:=Nz.Sc.cells6 HS.out;exact bodyPost_ret (v:=.tuple #[.agg #[.slice A1 n c1,.slice A2 n c2,.bool false,.string u,.bool false,.int .i64 eq],.slice none 0 0,.int .i64 eq]) (by simp[results,Tryz.results16,go_sem,r0,r1,r2,r3,r4,r5]) rfl ⟨rfl,akB HD.out.bel (by omega) _ _ _ _ _ _⟩
theorem amb (hm:m.size≤10000)(hn:n≠0)(hp:(Tg.aar m).1≠0):
 Calls Tryz.prog 16 #[.agg #[.slice A1 n c1,.slice A2 n c2,.bool true,.string u,.bool false,.int .i64 0],.agg #[.int .i64 1,.string m,.bool em,.bool bk]] w (RsP A1 n c1 A2 n c2 true u false (Tg.aar m).1 (Tg.aar m).1 w):=by
 have H0:=aac (db0 w #[.slice A1 n c1,.slice A2 n c2,.bool true,.string u,.bool false,.int .i64 0] #[.int .i64 1,.string m,.bool em,.bool bk]);have CP:Hid (∀ W,Calls Tryz.prog 27 #[.string m] W (Tg.aco (Tg.aar m) W)):=aac fun W=>Tg.ace m W hm;have t1:((Tg.aar m).1 != 0)=true:=bne_iff_ne.2 hp;have q0:((n:Int) == 0)=false:=by rw[beq_eq_false_iff_ne];omega
 clear hp;generalize Tg.aar m=q at *;obtain⟨eq,pn,pa⟩:=q;dsimp only at t1 ⊢;go_enter Tryz.func16,Tryz.ntmps16;go_wp2_with fail;refine(CP.out _).mono ?_;rintro e w1 ⟨v1,rfl,ho1,hb1⟩;dsimp only;obtain⟨A3,c3,rfl,R3⟩:=adn ho1;have HD1:=aac (H0.out.keep hb1);have HD2:=aac (HD1.out.keep ((Below.refl _ w1).alloc (Nat.le_refl _) (.cells #[.string pn,.slice A3 pa.length c3] 53)));obtain⟨y0,y1,y2,y3,y4,y5⟩:=Nz.Sc.cells6 HD2.out.st;clear ho1 hb1 R3 CP H0 HD1;go_wp2_with fail;refine(aby A1 A2 n c1 n c2 true false u 0 eq _).mono ?_;rintro e wf ⟨rfl,hf⟩;have HD:=aac (HD2.out.keep hf);clear hf HD2 y0 y1 y2 y3 y4 y5;obtain⟨z0,z1,z2,z3,z4,z5⟩:=Nz.Sc.cells6 HD.out.rs;obtain⟨g0,g1,g2,g3,g4,g5⟩:=Nz.Sc.adi HD.out.rs;go_wp2;have HS:=aac (akG HD.out.rs (.slice A1 n c1) (.slice A2 n c2) (.bool true) (.string u) (.bool false) (.int .i64 eq));obtain⟨r0,r1,r2,r3,r4,r5⟩:=Nz.Sc.cells6 HS.out;exact bodyPost_ret (v:=.tuple #[.agg #[.slice A1 n c1,.slice A2 n c2,.bool true,.string u,.bool false,.int .i64 eq],.slice none 0 0,.int .i64 eq]) (by simp[results,Tryz.results16,go_sem,r0,r1,r2,r3,r4,r5]) rfl ⟨rfl,akB HD.out.bel (by omega) _ _ _ _ _ _⟩
theorem ahx (hm:m.size≤10000)(hp:(Tg.aar m).1=0)(ho:Nz.Sc.acM adB (Tg.aar m).2.1 (Tg.aar m).2.2=.error er)(he:er≠0):
 Calls Tryz.prog 16 #[.agg #[.slice A1 0 c1,.slice A2 0 c2,.bool false,.string u,.bool false,.int .i64 0],.agg #[.int .i64 1,.string m,.bool em,.bool bk]] w (RsP A1 0 c1 A2 0 c2 false u false er er w):=by
 have t9:(er != 0)=true:=bne_iff_ne.2 he;clear he;have H0:=aac (db0 w #[.slice A1 0 c1,.slice A2 0 c2,.bool false,.string u,.bool false,.int .i64 0] #[.int .i64 1,.string m,.bool em,.bool bk]);have CP:Hid (∀ W,Calls Tryz.prog 27 #[.string m] W (Tg.aco (Tg.aar m) W)):=aac fun W=>Tg.ace m W hm;obtain⟨g1,g2,g3,g4,g5⟩:=agG hp hm;have CE:Hid (∀ W AS mS cS A3 M c3,Nz.Sc.adC 75 W 0 (.slice AS mS cS) adB→Nz.Sc.RdR W A3 (Tg.aar m).2.2→M=(Tg.aar m).2.2.length→Calls Tryz.prog 28 #[.slice AS mS cS,.agg #[.string (Tg.aar m).2.1,.slice A3 M c3]] W (Nz.Sc.acs W (Nz.Sc.acM adB (Tg.aar m).2.1 (Tg.aar m).2.2))):=aac fun W AS mS cS A3 M c3 h1 h2 h3=>acY (by decide) g1 g2 a2M g3 g4 g5 W AS mS cS A3 M c3 h1 h2 h3;clear g1 g2 g3 g4 g5;generalize Tg.aar m=q at *;obtain⟨eq,pn,pa⟩:=q;dsimp only at hp CE ho;subst hp;rw[ho] at CE;clear ho;go_enter Tryz.func16,Tryz.ntmps16;go_wp2_with fail;refine(CP.out _).mono ?_;rintro e w1 ⟨v1,rfl,ho1,hb1⟩;dsimp only;obtain⟨A3,c3,rfl,R3⟩:=adn ho1;have HD1:=aac (H0.out.keep hb1);have B2:=((Below.refl w1.heap.size w1).alloc (Nat.le_refl _) (.cells #[.string pn,.slice A3 pa.length c3] 53));have B3:=B2.alloc B2.size (.cells #[.string ⟨#[120,109,108]⟩,.string ⟨#[104,116,116,112,58,47,47,119,119,119,46,119,51,46,111,114,103,47,88,77,76,47,49,57,57,56,47,110,97,109,101,115,112,97,99,101]⟩] 75);have HD3:=aac (HD1.out.keep B3);have R4:=aac (R3.keep B3);have OB:=aac (aam (agz (W:=w1.alloc (.cells #[.string pn,.slice A3 pa.length c3] 53)) (Nat.le_refl _)) (Nat.zero_le _))
 have OB':Hid (Nz.Sc.adC 75 ((w1.alloc (.cells #[.string pn,.slice A3 pa.length c3] 53)).alloc (.cells #[.string ⟨#[120,109,108]⟩,.string ⟨#[104,116,116,112,58,47,47,119,119,119,46,119,51,46,111,114,103,47,88,77,76,47,49,57,57,56,47,110,97,109,101,115,112,97,99,101]⟩] 75)) 0 (.slice (some ⟨w1.heap.size+1,0,none⟩) 1 1) adB):=aac (by
  have:=OB.out;rw[World.size_alloc] at this;exact this)
 clear ho1 hb1 R3 CP H0 HD1 B2 B3;go_wp2_with fail;refine(CE.out _ _ _ _ _ _ _ OB'.out R4.out rfl).mono ?_;rintro e w5 ⟨h5,_,hb5⟩;obtain rfl:=h5 er rfl;have HD5:=aac ((HD3.out.keep hb5).keep ((Below.refl _ w5).alloc (Nat.le_refl _) (.cells #[.int .i64 0,.string ⟨#[]⟩,.string ⟨#[]⟩,.slice none 0 0,.string ⟨#[]⟩] 50)));obtain⟨y0,y1,y2,y3,y4,y5⟩:=Nz.Sc.cells6 HD5.out.st;clear h5 hb5 CE HD3 R4 OB';unfold Nz.Sc.evZ;go_wp2_with fail;refine(aby A1 A2 0 c1 0 c2 false false u 0 er _).mono ?_;rintro e wf ⟨rfl,hf⟩;have HD:=aac (HD5.out.keep hf);clear hf HD5 y0 y1 y2 y3 y4 y5;obtain⟨z0,z1,z2,z3,z4,z5⟩:=Nz.Sc.cells6 HD.out.rs;obtain⟨g0,g1,g2,g3,g4,g5⟩:=Nz.Sc.adi HD.out.rs;go_wp2;have HS:=aac (akG HD.out.rs (.slice A1 0 c1) (.slice A2 0 c2) (.bool false) (.string u) (.bool false) (.int .i64 er));obtain⟨r0,r1,r2,r3,r4,r5⟩:=Nz.Sc.cells6 HS.out;exact bodyPost_ret (v:=.tuple #[.agg #[.slice A1 0 c1,.slice A2 0 c2,.bool false,.string u,.bool false,.int .i64 er],.slice none 0 0,.int .i64 er]) (by simp[results,Tryz.results16,go_sem,r0,r1,r2,r3,r4,r5]) rfl ⟨rfl,akB HD.out.bel (by omega) _ _ _ _ _ _⟩
theorem aiG (hm:m.size≤10000)(hp:(Tg.aar m).1=0)(gs kn:Nat)(AS:Option Addr)(mS cS:Nat)(L:List Pr)(hL1:L.length≤10000)(hL2:Nz.Sc.adF L)(hkn:kn≤100)(hSL:ScL w gs kn AS mS cS L)(ho:Nz.Sc.acM L (Tg.aar m).2.1 (Tg.aar m).2.2=.error er)(he:er≠0):
 Calls Tryz.prog 16 #[.agg #[.slice A1 (kn+1) c1,.slice (some ⟨gs,0,none⟩) (kn+1) c2,.bool true,.string u,.bool false,.int .i64 0],.agg #[.int .i64 1,.string m,.bool em,.bool bk]] w (RsP A1 (kn+1) c1 (some ⟨gs,0,none⟩) (kn+1) c2 true u false er er w):=by
 have t9:(er != 0)=true:=bne_iff_ne.2 he;clear he;have H0:=aac (db0 w #[.slice A1 (kn+1) c1,.slice (some ⟨gs,0,none⟩) (kn+1) c2,.bool true,.string u,.bool false,.int .i64 0] #[.int .i64 1,.string m,.bool em,.bool bk]);have CP:Hid (∀ W,Calls Tryz.prog 27 #[.string m] W (Tg.aco (Tg.aar m) W)):=aac fun W=>Tg.ace m W hm;obtain⟨g1,g2,g3,g4,g5⟩:=agG hp hm;have CE:Hid (∀ W AS mS cS A3 M c3,Nz.Sc.adC 75 W 0 (.slice AS mS cS) L→Nz.Sc.RdR W A3 (Tg.aar m).2.2→M=(Tg.aar m).2.2.length→Calls Tryz.prog 28 #[.slice AS mS cS,.agg #[.string (Tg.aar m).2.1,.slice A3 M c3]] W (Nz.Sc.acs W (Nz.Sc.acM L (Tg.aar m).2.1 (Tg.aar m).2.2))):=aac fun W AS mS cS A3 M c3 h1 h2 h3=>acY hL1 g1 g2 hL2 g3 g4 g5 W AS mS cS A3 M c3 h1 h2 h3;have q0:(((kn+1:Nat):Int) == 0)=false:=by rw[beq_eq_false_iff_ne];omega
 have q1:(0:Int) < ((kn+1:Nat):Int):=(by omega);have q2:IntKind.i64.wrap (((kn+1:Nat):Int) - 1)=(kn:Int):=by rw[IntWalk.i64_in _ (by omega)];omega
 have q3:(0:Int)≤(kn:Int):=(by omega);have q4:(kn:Int) < ((kn+1:Nat):Int):=(by omega);have HSL:=aac hSL;clear hSL;clear g1 g2 g3 g4 g5;generalize Tg.aar m=q at *;obtain⟨eq,pn,pa⟩:=q;dsimp only at hp CE ho;subst hp;rw[ho] at CE;clear ho;go_enter Tryz.func16,Tryz.ntmps16;go_wp2_with fail;refine(CP.out _).mono ?_;rintro e w1 ⟨v1,rfl,ho1,hb1⟩;dsimp only;obtain⟨A3,c3,rfl,R3⟩:=adn ho1;have HD1:=aac (H0.out.keep hb1);have B2:=((Below.refl w1.heap.size w1).alloc (Nat.le_refl _) (.cells #[.string pn,.slice A3 pa.length c3] 53));have B3:=B2.alloc B2.size (.cells #[.string ⟨#[120,109,108]⟩,.string ⟨#[104,116,116,112,58,47,47,119,119,119,46,119,51,46,111,114,103,47,88,77,76,47,49,57,57,56,47,110,97,109,101,115,112,97,99,101]⟩] 75);have HD3:=aac (HD1.out.keep B3);have R4:=aac (R3.keep B3);obtain⟨x1,x2⟩:=HSL.out _ HD3.out.bel;have OB':=aac x2;clear x2;obtain⟨y0,y1,y2,y3,y4,y5⟩:=Nz.Sc.cells6 HD3.out.st;clear ho1 hb1 R3 CP H0 HD1 B2 B3;go_wp2_with fail;clear y0 y1 y2 y3 y4 y5;refine(CE.out _ _ _ _ _ _ _ OB'.out R4.out rfl).mono ?_;rintro e w5 ⟨h5,_,hb5⟩;obtain rfl:=h5 er rfl;have HD5:=aac ((HD3.out.keep hb5).keep ((Below.refl _ w5).alloc (Nat.le_refl _) (.cells #[.int .i64 0,.string ⟨#[]⟩,.string ⟨#[]⟩,.slice none 0 0,.string ⟨#[]⟩] 50)));obtain⟨y0,y1,y2,y3,y4,y5⟩:=Nz.Sc.cells6 HD5.out.st;clear h5 hb5 CE HD3 R4 OB';unfold Nz.Sc.evZ;go_wp2_with fail;refine(aby A1 (some ⟨gs,0,none⟩) (kn+1) c1 (kn+1) c2 true false u 0 er _).mono ?_;rintro e wf ⟨rfl,hf⟩;have HD:=aac (HD5.out.keep hf);clear hf HD5 y0 y1 y2 y3 y4 y5;obtain⟨z0,z1,z2,z3,z4,z5⟩:=Nz.Sc.cells6 HD.out.rs;obtain⟨g0,g1,g2,g3,g4,g5⟩:=Nz.Sc.adi HD.out.rs;go_wp2;have HS:=aac (akG HD.out.rs (.slice A1 (kn+1) c1) (.slice (some ⟨gs,0,none⟩) (kn+1) c2) (.bool true) (.string u) (.bool false) (.int .i64 er));obtain⟨r0,r1,r2,r3,r4,r5⟩:=Nz.Sc.cells6 HS.out;exact bodyPost_ret (v:=.tuple #[.agg #[.slice A1 (kn+1) c1,.slice (some ⟨gs,0,none⟩) (kn+1) c2,.bool true,.string u,.bool false,.int .i64 er],.slice none 0 0,.int .i64 er]) (by simp[results,Tryz.results16,go_sem,r0,r1,r2,r3,r4,r5]) rfl ⟨rfl,akB HD.out.bel (by omega) _ _ _ _ _ _⟩
theorem atq (hm:m.size≤10000)(hp:(Tg.aar m).1=0)(Wn:List Pr)(na nb:ByteArray)(ff:List Tr)(gs kn:Nat)(AS:Option Addr)(mS cS:Nat)(L:List Pr)(hL1:L.length≤10000)(hL2:Nz.Sc.adF L)(hkn:kn≤100)(hSL:ScL w gs kn AS mS cS L)(ho:Nz.Sc.acM L (Tg.aar m).2.1 (Tg.aar m).2.2=.ok (Wn,(na,nb),ff))(h64:64≤kn+1):
 Calls Tryz.prog 16 #[.agg #[.slice A1 (kn+1) c1,.slice (some ⟨gs,0,none⟩) (kn+1) c2,.bool true,.string u,.bool false,.int .i64 0],.agg #[.int .i64 1,.string m,.bool em,.bool bk]] w (RsP A1 (kn+1) c1 (some ⟨gs,0,none⟩) (kn+1) c2 true u false 13 13 w):=by
 have t9:(64:Int)≤((kn+1:Nat):Int):=(by omega);have H0:=aac (db0 w #[.slice A1 (kn+1) c1,.slice (some ⟨gs,0,none⟩) (kn+1) c2,.bool true,.string u,.bool false,.int .i64 0] #[.int .i64 1,.string m,.bool em,.bool bk]);have CP:Hid (∀ W,Calls Tryz.prog 27 #[.string m] W (Tg.aco (Tg.aar m) W)):=aac fun W=>Tg.ace m W hm;obtain⟨g1,g2,g3,g4,g5⟩:=agG hp hm;have CE:Hid (∀ W AS mS cS A3 M c3,Nz.Sc.adC 75 W 0 (.slice AS mS cS) L→Nz.Sc.RdR W A3 (Tg.aar m).2.2→M=(Tg.aar m).2.2.length→Calls Tryz.prog 28 #[.slice AS mS cS,.agg #[.string (Tg.aar m).2.1,.slice A3 M c3]] W (Nz.Sc.acs W (Nz.Sc.acM L (Tg.aar m).2.1 (Tg.aar m).2.2))):=aac fun W AS mS cS A3 M c3 h1 h2 h3=>acY hL1 g1 g2 hL2 g3 g4 g5 W AS mS cS A3 M c3 h1 h2 h3;have q0:(((kn+1:Nat):Int) == 0)=false:=by rw[beq_eq_false_iff_ne];omega
 have q1:(0:Int) < ((kn+1:Nat):Int):=(by omega);have q2:IntKind.i64.wrap (((kn+1:Nat):Int) - 1)=(kn:Int):=by rw[IntWalk.i64_in _ (by omega)];omega
 have q3:(0:Int)≤(kn:Int):=(by omega);have q4:(kn:Int) < ((kn+1:Nat):Int):=(by omega);have HSL:=aac hSL;clear hSL;clear g1 g2 g3 g4 g5;generalize Tg.aar m=q at *;obtain⟨eq,pn,pa⟩:=q;dsimp only at hp CE ho;subst hp;rw[ho] at CE;clear ho;go_enter Tryz.func16,Tryz.ntmps16;go_wp2_with fail;refine(CP.out _).mono ?_;rintro e w1 ⟨v1,rfl,ho1,hb1⟩;dsimp only;obtain⟨A3,c3,rfl,R3⟩:=adn ho1;have HD1:=aac (H0.out.keep hb1);have B2:=((Below.refl w1.heap.size w1).alloc (Nat.le_refl _) (.cells #[.string pn,.slice A3 pa.length c3] 53));have B3:=B2.alloc B2.size (.cells #[.string ⟨#[120,109,108]⟩,.string ⟨#[104,116,116,112,58,47,47,119,119,119,46,119,51,46,111,114,103,47,88,77,76,47,49,57,57,56,47,110,97,109,101,115,112,97,99,101]⟩] 75);have HD3:=aac (HD1.out.keep B3);have R4:=aac (R3.keep B3);obtain⟨x1,x2⟩:=HSL.out _ HD3.out.bel;have OB':=aac x2;clear x2;obtain⟨y0,y1,y2,y3,y4,y5⟩:=Nz.Sc.cells6 HD3.out.st;clear ho1 hb1 R3 CP H0 HD1 B2 B3;go_wp2_with fail;clear y0 y1 y2 y3 y4 y5;refine(CE.out _ _ _ _ _ _ _ OB'.out R4.out rfl).mono ?_;rintro e w5 ⟨_,h5,hb5⟩;obtain⟨v5,va5,h6,P5,T5⟩:=h5 Wn (na,nb) ff rfl;unfold Nz.Sc.evV at h6;dsimp only at h6;obtain⟨AW,cW,rfl⟩:=Nz.Sc.aah P5;obtain⟨AF,cF,rfl⟩:=Nz.Sc.aah T5;subst h6;have HD5:=aac ((HD3.out.keep hb5).keep ((Below.refl _ w5).alloc (Nat.le_refl _) (.cells #[.int .i64 1,.string na,.string nb,.slice AF ff.length cF,.string ⟨#[]⟩] 50)));obtain⟨y0,y1,y2,y3,y4,y5⟩:=Nz.Sc.cells6 HD5.out.st;clear h5 hb5 P5 T5 CE HD3 R4 OB';go_wp2_with fail;refine(aby A1 (some ⟨gs,0,none⟩) (kn+1) c1 (kn+1) c2 true false u 0 13 _).mono ?_;rintro e wf ⟨rfl,hf⟩;have HD:=aac (HD5.out.keep hf);clear hf HD5 y0 y1 y2 y3 y4 y5;obtain⟨z0,z1,z2,z3,z4,z5⟩:=Nz.Sc.cells6 HD.out.rs;obtain⟨g0,g1,g2,g3,g4,g5⟩:=Nz.Sc.adi HD.out.rs;go_wp2;have HS:=aac (akG HD.out.rs (.slice A1 (kn+1) c1) (.slice (some ⟨gs,0,none⟩) (kn+1) c2) (.bool true) (.string u) (.bool false) (.int .i64 13));obtain⟨r0,r1,r2,r3,r4,r5⟩:=Nz.Sc.cells6 HS.out;exact bodyPost_ret (v:=.tuple #[.agg #[.slice A1 (kn+1) c1,.slice (some ⟨gs,0,none⟩) (kn+1) c2,.bool true,.string u,.bool false,.int .i64 13],.slice none 0 0,.int .i64 13]) (by simp[results,Tryz.results16,go_sem,r0,r1,r2,r3,r4,r5]) rfl ⟨rfl,akB HD.out.bel (by omega) _ _ _ _ _ _⟩
theorem aqM (gn kn:Nat)(xn:ByteArray)(hkn:kn≤100)(hlt:gn < w.heap.size)(hx:w.cell? ⟨gn,kn,none⟩=some (.string xn))(hne:xn≠m):
 Calls Tryz.prog 16 #[.agg #[.slice (some ⟨gn,0,none⟩) (kn+1) c1,.slice A2 (kn+1) c2,.bool rt,.string u,.bool false,.int .i64 0],.agg #[.int .i64 2,.string m,.bool em,.bool bk]] w (RsP (some ⟨gn,0,none⟩) (kn+1) c1 A2 (kn+1) c2 rt u false 10 10 w):=by
 have H0:=aac (db0 w #[.slice (some ⟨gn,0,none⟩) (kn+1) c1,.slice A2 (kn+1) c2,.bool rt,.string u,.bool false,.int .i64 0] #[.int .i64 2,.string m,.bool em,.bool bk]);have hb:=al3 w (.cells #[.slice (some ⟨gn,0,none⟩) (kn+1) c1,.slice A2 (kn+1) c2,.bool rt,.string u,.bool false,.int .i64 0] 38) (.cells #[.int .i64 2,.string m,.bool em,.bool bk] 42) (.cells #[.slice none 0 0,.slice none 0 0,.bool false,.string ⟨#[]⟩,.bool false,.int .i64 0] 38);have x1:=(hb.cell (p:=⟨gn,kn,none⟩) hlt).trans hx;have q0:(((kn+1:Nat):Int) == 0)=false:=by rw[beq_eq_false_iff_ne];omega
 have q2:IntKind.i64.wrap (((kn+1:Nat):Int) - 1)=(kn:Int):=by rw[IntWalk.i64_in _ (by omega)];omega
 have q3:(0:Int)≤(kn:Int):=(by omega);have q4:(kn:Int) < ((kn+1:Nat):Int):=(by omega);have t2:(xn.toList != m.toList)=true:=by rw[bne_iff_ne];exact fun e=>hne (Nz.Sc.toList_inj e)
 have t3:(xn.toList == m.toList)=false:=by rw[beq_eq_false_iff_ne];exact fun e=>hne (Nz.Sc.toList_inj e)
 clear hne hx hb;go_enter Tryz.func16,Tryz.ntmps16;go_wp2_with fail;have qa:((kn:Int)+1 == 0)=false:=by rw[beq_eq_false_iff_ne];omega
 have q7:IntKind.i64.wrap (kn:Int)=(kn:Int):=IntWalk.i64_in _ (by omega);have q8:(kn:Int) < (kn:Int)+1:=(by omega);have q9:kn < kn+1:=(by omega);go_quiet (fail);clear q7;go_wp2_with fail;refine(aby (some ⟨gn,0,none⟩) A2 (kn+1) c1 (kn+1) c2 rt false u 0 10 _).mono ?_;rintro e wf ⟨rfl,hf⟩;have HD:=aac ((H0.out.keep (below_drewN (Below.refl _ _) _)).keep hf);clear hf H0;obtain⟨z0,z1,z2,z3,z4,z5⟩:=Nz.Sc.cells6 HD.out.rs;obtain⟨g0,g1,g2,g3,g4,g5⟩:=Nz.Sc.adi HD.out.rs;go_wp2;have HS:=aac (akG HD.out.rs (.slice (some ⟨gn,0,none⟩) (kn+1) c1) (.slice A2 (kn+1) c2) (.bool rt) (.string u) (.bool false) (.int .i64 10));obtain⟨r0,r1,r2,r3,r4,r5⟩:=Nz.Sc.cells6 HS.out;exact bodyPost_ret (v:=.tuple #[.agg #[.slice (some ⟨gn,0,none⟩) (kn+1) c1,.slice A2 (kn+1) c2,.bool rt,.string u,.bool false,.int .i64 10],.slice none 0 0,.int .i64 10]) (by simp[results,Tryz.results16,go_sem,r0,r1,r2,r3,r4,r5]) rfl ⟨rfl,akB HD.out.bel (by omega) _ _ _ _ _ _⟩
end
end Go.Proofs.YtnomcldpbkinmaaGreatDoor.Wl
namespace Go.Proofs.YtnomcldpbkinmaaGreatDoor.Wl
open Go.RowKit
def Tl (rd:List Int→Tk × Int):Prop:=∀ l,(rd l).1.text.length≤l.length
theorem amZ:∀ (l:List Int),(acB l).length≤l.length
 | []=>Nat.le_refl _
 | c :: l=>by
   have:=amZ l;unfold acB;rw[List.length_append,List.length_cons]
   repeat' split
   all_goals simp
   all_goals omega
theorem axX:Tl aeA:=fun l=>amZ l
theorem ayi:Tl acg:=fun l=>by
 unfold acg;split
 · exact Nat.zero_le _
 · exact Nat.le_refl _
theorem ayR (z:Bool):Tl (aee z):=fun l=>by
 unfold aee;split
 · exact Nat.zero_le _
 · split
   · exact Nat.zero_le _
   · exact Nat.le_refl _
theorem a0T:Tl akE:=fun l=>by
 unfold akE;split
 · exact Nat.zero_le _
 · show (adE l).length≤_;unfold adE;rw[List.length_reverse];have:=(List.dropWhile_suffix abf (l:=l.reverse)).length_le;rw[List.length_reverse] at this;exact this
theorem ath:Tl abZ:=fun l=>by
 unfold abZ;split
 · exact Nat.zero_le _
 · split
   · show l.dropLast.length≤_;rw[List.length_dropLast];omega
   · exact Nat.le_refl _
theorem anD {b n m:Nat}{rd:List Int→Tk × Int}{r:List Int}(h:Tl rd):(fin b n m rd r).1.text.length≤r.length:=by
 unfold fin;split
 · exact Nat.zero_le _
 · split
   · exact Nat.zero_le _
   · refine Nat.le_trans (h _) ?_;rw[List.length_take];omega
theorem aeM {b:Nat}{stop:List Int}{rd:List Int→Tk × Int}{l:List Int}(h:Tl rd):(span b stop rd l).1.text.length≤l.length:=by
 unfold span;split
 · exact Nat.zero_le _
 · refine Nat.le_trans (anD h) ?_;rw[List.length_drop];omega
theorem apG (z:Bool)(l:List Int):(ahC z l).1.text.length≤l.length:=by
 unfold ahC;split
 · exact aeM axX
 split
 · exact aeM ayi
 split
 · exact aeM (ayR z)
 split
 · exact aeM a0T
 split
 · split
   · exact Nat.zero_le _
   · split
     · exact Nat.zero_le _
     · exact Nat.zero_le _
 · unfold aeX;split
   · exact Nat.zero_le _
   · refine Nat.le_trans (anD ath) ?_;rw[List.length_drop];omega
theorem ahU (l:List Int)(n:Nat)(hn:NN l):(ade l n).1.text.length≤2 * l.length:=by
 unfold ade;split
 · exact Nat.zero_le _
 split
 · exact Nat.zero_le _
 split
 · exact Nat.zero_le _
 · rename_i h;show (abH false (l.take n)).1.length≤_;unfold abH at h ⊢;by_cases c:(aaY false (l.take n)).2.2=0
   · rw[if_pos c];have:=(Tg.als false _ (l.take n) (Nat.le_refl _) (fun x hx=>hn x (List.mem_of_mem_take hx)) c).2.2.2;refine Nat.le_trans this ?_;rw[List.length_take];omega
   · rw[if_neg c];exact Nat.zero_le _
theorem apY (L:List Int)(a:Nat)(hn:NN L):(nx L a).1.text.length≤2 * L.length:=by
 have hd:(L.drop a).length≤L.length:=by rw[List.length_drop];omega
 have hnd:NN (L.drop a):=fun x hx=>hn x (List.mem_of_mem_drop hx);unfold nx abm;split
 · exact Nat.zero_le _
 split
 · have:=apG (decide (a=0)) (L.drop a);omega
 · unfold afC;split
   · rename_i n _;have:=ahU (L.drop a) n hnd;omega
   · have:=ahU (L.drop a) (L.drop a).length hnd;exact Nat.le_trans this (by omega)
theorem atK {l:List Pr}{nm:ByteArray}{r W:List Pr}{n:Pr}{f:List Tr}(h:Nz.Sc.acM l nm r=.ok (W,n,f)):Nz.Sc.abQ l r=some W:=by
 unfold Nz.Sc.acM at h;split at h
 · cases h
 · rename_i W' hW;split at h
   · cases h
   · split at h
     · cases h
     · injection h with h
       injection h with h _
       rw[hW,h]
theorem adP {s:St}(h:Gd s){x:St}(hx:x.op=s.op):Gd x:=⟨by rw[hx];exact h.dep,fun k y hk=>h.len k y (by rw[← hx];exact hk)⟩
theorem asx {s:St}{t:Tok}(c:(aaw s t).2.2≠0):(aaw s t).1.op=s.op:=by
 unfold aaw at c ⊢;by_cases c1:s.root=true∧s.op=[]
 · rw[if_pos c1];rfl
 rw[if_neg c1] at c ⊢;by_cases c2:(Tg.aar t.text).1≠0
 · rw[if_pos c2];rfl
 rw[if_neg c2] at c ⊢
 cases ho:Nz.Sc.acM (aeo s) (Tg.aar t.text).2.1 (Tg.aar t.text).2.2 with
 | error e=>rfl
 | ok q=>
   obtain⟨W,n,f⟩:=q;rw[ho] at c;unfold adx at c ⊢;dsimp only at c ⊢;by_cases c3:64≤s.op.length
   · rw[if_pos c3];rfl
   · rw[if_neg c3] at c;exfalso;apply c;unfold opened;split <;> rfl
theorem akI {s:St}(h:Gd s)(t:Tok)(ht:t.text.size≤10000):Gd (aaP s t).1:=by
 unfold aaP;split
 · exact h
 split
 · exact h
 unfold adD;split
 · by_cases c:(aaw s t).2.2=0
   · obtain⟨a1,a2,W,n,f,a3,a4,a5⟩:=anF c;rw[a5];unfold opened;split
     · exact adP h rfl
     · obtain⟨p1,p2,p3,p4⟩:=ahe a2 ht;obtain⟨q1,q2⟩:=h.scp;have hb:=atK a3;have hl:=Nz.Sc.agd _ _ hb;have hm:=Nz.Sc.afZ _ _ q2 p3 hb;refine⟨by show (s.op++[_]).length≤64;rw[List.length_append];show s.op.length+1≤64;omega,fun k x hk=> ?_⟩;have hk':(s.op++[((Tg.aar t.text).2.1,W)])[k]?=some x:=hk;rcases Nat.lt_or_ge k s.op.length with g | g
       · rw[List.getElem?_append_left g] at hk';exact h.len k x hk'
       · rw[List.getElem?_append_right g] at hk'
         have hk0:k - s.op.length=0:=by
          have:=(List.getElem?_eq_some_iff.1 hk').1;simp at this;omega
         rw[hk0] at hk';have:((Tg.aar t.text).2.1,W)=x:=(by simpa using hk');subst this;exact⟨by show W.length≤_;omega,hm⟩
   · exact adP h (asx c)
 split
 · unfold adR;split
   · refine⟨by show s.op.dropLast.length≤64;rw[List.length_dropLast];have:=h.dep;omega,fun k x hk=>h.len k x ?_⟩;have hk':s.op.dropLast[k]?=some x:=hk;have hlt:=(List.getElem?_eq_some_iff.1 hk').1;rw[List.getElem?_dropLast] at hk';split at hk'
     · exact hk'
     · cases hk'
   · exact adP h rfl
 split
 · unfold acK;split
   · exact adP h rfl
   · split
     · exact h
     · exact adP h rfl
 split
 · unfold lastT;split
   · exact adP h rfl
   · split
     · exact adP h rfl
     · exact adP h rfl
 · exact h
theorem agJ {s:St}(t:Tok):(aaP s t).1.wait.size≤s.wait.size+t.text.size:=by
 unfold aaP adD aaw adR acK lastT adx opened bad
 repeat' split
 all_goals first | (show s.wait.size≤_;omega) | (show Nz.em.size≤_;exact Nat.zero_le _) | (show (s.wait++t.text).size≤_;rw[avJ];omega)
theorem a0j (u:ByteArray):(aaX u).length≤1:=by unfold aaX;split <;> simp
theorem take_len {s:St}(t:Tok):(aaP s t).2.1.length≤3:=by
 have h:=a0j s.wait;unfold aaP adD aaw adR acK lastT adx opened bad
 repeat' split
 all_goals first | (show ([]:List Ev).length≤3;decide) | (show (aaX s.wait++_).length≤3;rw[List.length_append];simp;omega)
end Go.Proofs.YtnomcldpbkinmaaGreatDoor.Wl
namespace Go.Proofs.YtnomcldpbkinmaaGreatDoor
open Go.RowKit Go.Lib
def RA (old new s:List UInt8):List UInt8:=replaceK old new (count s old) s
theorem azk (s old new:List UInt8)(h:old≠new):replaceAll s old new=RA old new s:=by
 unfold replaceAll replace replaceNum RA;rw[if_neg (by simpa using h),if_pos (.inl (by omega))]
theorem akl (old new:List UInt8)(h:old≠[]):RA old new []=[]:=by
 have hi:index [] old= -1:=by
  unfold index
  cases old with
  | nil=>exact absurd rfl h
  | cons a b=>rfl
 unfold RA;rw[count_miss hi];rfl
theorem amq (old new:List UInt8)(c:UInt8)(l:List UInt8)(h:old≠[])(hp:old.isPrefixOf (c :: l)=true):RA old new (c :: l)=new++RA old new ((c :: l).drop old.length):=by
 have hi:index (c :: l) old=((0:Nat):Int):=by
  unfold index;rw[if_pos hp];rfl
 unfold RA;rw[count_hit h hi,Nat.add_comm 1,replaceK_hit old new _ _ 0 hi];simp
theorem arG (old new:List UInt8)(c:UInt8)(l:List UInt8)(h:old≠[])(hp:¬ old.isPrefixOf (c :: l)=true):RA old new (c :: l)=c :: RA old new l:=by
 have hi:index (c :: l) old=if index l old == -1 then -1 else index l old+1:=by
  conv=>lhs;unfold index
  rw[if_neg hp]
 by_cases hm:index l old= -1
 · rw[hm] at hi;have hi':index (c :: l) old= -1:=by rw[hi];rfl
   unfold RA;rw[count_miss hm,count_miss hi'];rfl
 · have hg:=index_ge l old;obtain⟨i,hl⟩:∃ i:Nat,index l old=i:=⟨(index l old).toNat,by omega⟩
   have hi':index (c :: l) old=((i+1:Nat):Int):=by
    rw[hi,hl,if_neg (by simp)];rfl
   have hd:(c :: l).drop (i+1+old.length)=l.drop (i+old.length):=by
    rw[show i+1+old.length=(i+old.length)+1 by omega];rfl
   unfold RA;rw[count_hit h hl,count_hit h hi',hd,Nat.add_comm 1,replaceK_hit old new _ _ i hl,replaceK_hit old new _ _ (i+1) hi',hd];rfl
theorem agu:∀ (n:Nat) (s:List UInt8),s.length≤n→(RA [13] [10] (RA [13,10] [10] s)).map (fun b=>(b.toNat:Int))=acB (s.map fun b=>(b.toNat:Int))
 | n,[],_=>by
   rw[akl _ _ (by simp),akl _ _ (by simp)];rfl
 | n+1,c :: l,h=>by
   have key:∀ (x:UInt8) (t:List UInt8),RA [13] [10] (x :: t)=(if x=13 then 10 else x) :: RA [13] [10] t:=fun x t=>by
    by_cases hx:x=13
    · rw[if_pos hx,amq _ _ _ _ (by simp) (by rw[hx];rfl)];rfl
    · rw[if_neg hx,arG _ _ _ _ (by simp) (by simp[List.isPrefixOf];exact fun e=>hx e.symm)]
   have hi:∀ x:UInt8,(x.toNat:Int)=13↔x=13:=fun x=>⟨fun e=>a2I (b:=13) (by rw[e];rfl),fun e=>by rw[e];rfl⟩;by_cases hc:c=13
   · subst hc
     match l,h with
     | 10 :: l,h=>
       rw[amq _ _ _ _ (by simp) rfl];show List.map _ (RA [13] [10] (10 :: RA [13,10] [10] l))=_;have ih:=agu n l (by simp at h;omega);rw[key 10 _];simp only[List.map_cons,ih];rw[if_neg (by decide),acB,acB];simp
     | [],h=>
       rw[arG _ _ _ _ (by simp) (by decide),akl _ _ (by simp),key,akl _ _ (by simp)];rfl
     | d :: l,h=>
       by_cases hd:d=10
       · subst hd;rw[amq _ _ _ _ (by simp) rfl];show List.map _ (RA [13] [10] (10 :: RA [13,10] [10] l))=_;have ih:=agu n l (by simp at h;omega);rw[key 10 _];simp only[List.map_cons,ih];rw[if_neg (by decide),acB,acB];simp
       · have hd':¬ (d.toNat:Int)=10:=fun e=>hd (a2I (b:=10) (by rw[e];rfl));rw[arG _ _ _ _ (by simp) (by simp[List.isPrefixOf];exact fun e=>hd e.symm),key];have ih:=agu n (d :: l) (by simpa using h);rw[List.map_cons,ih,if_pos rfl]
         conv=>rhs;rw[List.map_cons];unfold acB
         simp[hd']
   · have hc':¬ (c.toNat:Int)=13:=fun e=>hc ((hi c).1 e);rw[arG _ _ _ _ (by simp) (by simp[List.isPrefixOf];exact fun e=>absurd e.symm hc),key,if_neg hc];have ih:=agu n l (by simpa using h);rw[List.map_cons,ih]
     conv=>rhs;rw[List.map_cons];unfold acB
     rw[if_neg hc'];rfl
theorem atl (s:ByteArray):(⟨(replaceAll (ByteArray.mk (replaceAll s.data.toList [13,10] [10]).toArray).data.toList [13] [10]).toArray⟩:ByteArray)=strOfNums (acB (aad s)):=by
 refine aaJ ?_;rw[afp,azk _ _ _ (by decide),azk _ _ _ (by decide)];exact agu _ _ (Nat.le_refl _)
theorem apJ (old new:List UInt8)(h:new.length≤old.length)(h0:old≠[]):∀ (n:Nat) (s:List UInt8),s.length≤n→(RA old new s).length≤s.length
 | n,[],_=>by rw[akl _ _ h0];simp
 | n+1,c :: l,hn=>by
   by_cases hp:old.isPrefixOf (c :: l)=true
   · have hl:=(List.isPrefixOf_iff_prefix.1 hp).length_le;have h1:1≤old.length:=List.length_pos_iff.2 h0;have hd:((c :: l).drop old.length).length=(c :: l).length - old.length:=List.length_drop ..;have ih:=apJ old new h h0 n ((c :: l).drop old.length) (by simp only[List.length_cons] at hd hn ⊢;omega);rw[amq _ _ _ _ h0 hp,List.length_append];omega
   · have ih:=apJ old new h h0 n l (by simpa using hn);rw[arG _ _ _ _ h0 hp]
     simpa using ih
def tkV (t:Tk):Value:=.agg #[.int .i64 t.kind,.string (strOfNums t.text),.bool t.empty,.bool t.blank]
def aaQ (x:Tk × Int)(w:World)(e:Ending)(w':World):Prop:=e=.returned (.tuple #[tkV x.1,.int .i64 x.2])∧Below w.heap.size w w'
structure aiF (w:World)(B:Nat):Prop where
 c0:w.cell? ⟨B,0,none⟩=some (.int .i64 0)
 c1:w.cell? ⟨B,1,none⟩=some (.string ⟨#[]⟩)
 c2:w.cell? ⟨B,2,none⟩=some (.bool false)
 c3:w.cell? ⟨B,3,none⟩=some (.bool false)
 f0:w.frozen? ⟨B,0,none⟩=false
 f1:w.frozen? ⟨B,1,none⟩=false
 f2:w.frozen? ⟨B,2,none⟩=false
 f3:w.frozen? ⟨B,3,none⟩=false
theorem acd (w:World):aiF (w.alloc (.cells #[.int .i64 0,.string ⟨#[]⟩,.bool false,.bool false] 42)) w.heap.size:=by
 constructor;all_goals simp[go_sem]
theorem aiF.keep {w w':World}{B n:Nat}(h:aiF w B)(hb:Below n w w')(hB:B < n):aiF w' B:=
 ⟨(hb.cell (p:=⟨B,0,none⟩) hB).trans h.c0,(hb.cell (p:=⟨B,1,none⟩) hB).trans h.c1,(hb.cell (p:=⟨B,2,none⟩) hB).trans h.c2,(hb.cell (p:=⟨B,3,none⟩) hB).trans h.c3,
  (hb.frozen (p:=⟨B,0,none⟩) hB).trans h.f0,(hb.frozen (p:=⟨B,1,none⟩) hB).trans h.f1,(hb.frozen (p:=⟨B,2,none⟩) hB).trans h.f2,(hb.frozen (p:=⟨B,3,none⟩) hB).trans h.f3⟩
theorem aag {w w2:World}{n B:Nat}(h:Below n w w2)(hB:n≤B)(a b c d:Value):
 Below n w ((((w2.setCell ⟨B,0,none⟩ a).setCell ⟨B,1,none⟩ b).setCell ⟨B,2,none⟩ c).setCell ⟨B,3,none⟩ d):=
 (((h.setCell (p:=⟨B,0,none⟩) hB a).setCell (p:=⟨B,1,none⟩) hB b).setCell (p:=⟨B,2,none⟩) hB c).setCell (p:=⟨B,3,none⟩) hB d
theorem avi (s:ByteArray)(at_:Int)(w:World)(hs:s.size≤10000)(hG:Gl w):Calls Tryz.prog 104 #[.string s,.int .i64 at_] w (aaQ (aeA (aad s)) w):=by
 have HG:=aac hG;have HB:=aac ((Below.refl w.heap.size w).alloc (Nat.le_refl _) (.cells #[.int .i64 0,.string ⟨#[]⟩,.bool false,.bool false] 42));have c1:=countB_le ⟨#[13,10]⟩ (by decide) s.size s (Nat.le_refl _);obtain⟨s1,hs1⟩:∃ s1:ByteArray,s1=⟨(replaceAll s.data.toList [13,10] [10]).toArray⟩:=⟨_,rfl⟩
 have l1:s1.size≤s.size:=by
  rw[hs1,← aae,afp,List.length_map,azk _ _ _ (by decide)];have:=apJ [13,10] [10] (by simp) (by simp) _ s.data.toList (Nat.le_refl _);rw[← size_eq] at this;exact this
 have c2:=countB_le ⟨#[13]⟩ (by decide) s1.size s1 (Nat.le_refl _);have HE:=aac (atl s);rw[← hs1] at HE;have C1:=aac (fun (W:World) (hW:Gl W)=>let ⟨m,hm⟩:=hW.max;Tryz.strings_ReplaceAll s ⟨#[13,10]⟩ ⟨#[10]⟩ m W (by omega) hm (by decide) (by have:(ByteArray.mk #[10]).size=1:=rfl;rw[this];omega));have C2:=aac (fun (W:World) (hW:Gl W)=>let ⟨m,hm⟩:=hW.max;Tryz.strings_ReplaceAll s1 ⟨#[13]⟩ ⟨#[10]⟩ m W (by omega) hm (by decide) (by have:(ByteArray.mk #[10]).size=1:=rfl;rw[this];omega));have e1:(ByteArray.mk (replaceAll s.data.toList (ByteArray.mk #[13,10]).data.toList (ByteArray.mk #[10]).data.toList).toArray)=s1:=hs1.symm;rw[e1] at C1;have e2:(ByteArray.mk (replaceAll s1.data.toList (ByteArray.mk #[13]).data.toList (ByteArray.mk #[10]).data.toList).toArray)=strOfNums (acB (aad s)):=HE.out;rw[e2] at C2;clear e1 e2 HE hs1 c1 c2 hG;go_enter Tryz.func104,Tryz.ntmps104;go_wp2_with fail;refine(C1.out _ (HG.out.alloc _)).mono ?_;rintro e w1 ⟨rfl,hb1⟩;have HG1:=aac ((HG.out.alloc _).after hb1);go_wp2_with fail;refine(C2.out _ HG1.out).mono ?_;rintro e w2 ⟨rfl,hb2⟩;have hb:=HB.out.trans (hb1.mono (by simp));have hb':=hb.trans (hb2.mono hb.size);have hz1:w.heap.size < w1.heap.size:=by have:=hb1.size;simp at this;omega
 have hz2:w.heap.size < w2.heap.size:=Nat.lt_of_lt_of_le hz1 hb2.size;obtain⟨c0,c1,c2,c3,f0,f1,f2,f3⟩:=((acd w).keep hb1 (by simp)).keep hb2 hz1;go_wp2_with fail;refine bodyPost_ret (v:=.tuple #[tkV (aeA (aad s)).1,.int .i64 0]) (by simp[results,Tryz.results104,go_sem,c0,c1,c2,c3,hz2,tkV,aeA]) rfl ⟨rfl,aag hb' (Nat.le_refl _) _ _ _ _⟩
end Go.Proofs.YtnomcldpbkinmaaGreatDoor
