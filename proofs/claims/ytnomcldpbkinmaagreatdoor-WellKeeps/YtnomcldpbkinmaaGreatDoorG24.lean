/- Lemmas of the claim. -/
import Derived.Test.YtnomcldpbkinmaaGreatDoorG22
import Derived.Test.YtnomcldpbkinmaaGreatDoorG16
import Derived.Test.YtnomcldpbkinmaaGreatDoorG23
import Derived.Test.YtnomcldpbkinmaaGreatDoorG07
set_option maxHeartbeats 4000000
set_option maxRecDepth 100000
set_option linter.unusedSimpArgs false
set_option linter.unusedVariables false
namespace Go.Proofs.YtnomcldpbkinmaaGreatDoor.Wl
open Go.RowKit
theorem Tryz.results16:Tryz.f16.results= #[ResultVar.cell 4 38,ResultVar.tmp 5,ResultVar.tmp 6]:=by kernel_rfl
structure DB (w:World)(sc tk:Array Value)(W:World):Prop where
 st:W.heap[w.heap.size]?=some (.cells sc 38 (0,0))
 tk:W.heap[w.heap.size+1]?=some (.cells tk 42 (0,0))
 rs:W.heap[w.heap.size+1+1]?=some (.cells #[.slice none 0 0,.slice none 0 0,.bool false,.string ⟨#[]⟩,.bool false,.int .i64 0] 38 (0,0))
 bel:Below w.heap.size w W
theorem db0 (w:World)(sc tk:Array Value):DB w sc tk (((w.alloc (.cells sc 38)).alloc (.cells tk 42)).alloc (.cells #[.slice none 0 0,.slice none 0 0,.bool false,.string ⟨#[]⟩,.bool false,.int .i64 0] 38)):=by
 have n1:=Nz.Sc.abM w 38 sc;have n2:=Nz.Sc.abM (w.alloc (.cells sc 38)) 42 tk;have n3:=Nz.Sc.abM ((w.alloc (.cells sc 38)).alloc (.cells tk 42)) 38 #[.slice none 0 0,.slice none 0 0,.bool false,.string ⟨#[]⟩,.bool false,.int .i64 0];have b1:=(Below.refl w.heap.size w).alloc (Nat.le_refl _) (.cells sc 38);rw[World.size_alloc] at n2;rw[World.size_alloc,World.size_alloc] at n3;exact⟨(Below.heap_alloc _ _ _ (by simp;omega)).trans ((Below.heap_alloc _ _ _ (by simp)).trans n1),(Below.heap_alloc _ _ _ (by simp)).trans n2,n3,(b1.alloc b1.size _).alloc (b1.alloc b1.size _).size _⟩
section
variable {w W W':World} {sc tk:Array Value}
theorem DB.lt (h:DB w sc tk W):w.heap.size+1+1 < W.heap.size:=(Array.getElem?_eq_some_iff.1 h.rs).1
theorem DB.keep (h:DB w sc tk W)(hb:Below W.heap.size W W'):DB w sc tk W':=
 ⟨(hb.block _ (by have:=h.lt;omega)).trans h.st,(hb.block _ (by have:=h.lt;omega)).trans h.tk,(hb.block _ h.lt).trans h.rs,h.bel.trans (hb.mono h.bel.size)⟩
end
theorem al3 (w:World)(a b c:Obj):Below w.heap.size w (((w.alloc a).alloc b).alloc c):=(((Below.refl _ w).alloc (Nat.le_refl _) a).alloc (by simp) b).alloc (by simp;omega) c
def RsP (A1:Option Addr)(n1 c1:Nat)(A2:Option Addr)(n2 c2:Nat)(rt:Bool)(u:ByteArray)(ov:Bool)(er why:Int)(w:World)(e:Ending)(w':World):Prop:=
 e=.returned (.tuple #[.agg #[.slice A1 n1 c1,.slice A2 n2 c2,.bool rt,.string u,.bool ov,.int .i64 er],.slice none 0 0,.int .i64 why])∧Below w.heap.size w w'
section
variable {A1 A2:Option Addr} {n c1 c2:Nat} {rt ov:Bool} {u m:ByteArray} {er k:Int} {em bk:Bool} {w:World}
theorem a0V (he:er≠0):
 Calls Tryz.prog 16 #[.agg #[.slice A1 n c1,.slice A2 n c2,.bool rt,.string u,.bool ov,.int .i64 er],.agg #[.int .i64 k,.string m,.bool em,.bool bk]] w (RsP A1 n c1 A2 n c2 rt u ov er er w):=by
 have t1:(er != 0)=true:=bne_iff_ne.2 he;clear he;go_enter Tryz.func16,Tryz.ntmps16;go_wp2_with fail;go_region;go_wp2;exact bodyPost_ret (v:=.tuple #[.agg #[.slice A1 n c1,.slice A2 n c2,.bool rt,.string u,.bool ov,.int .i64 er],.slice none 0 0,.int .i64 er]) (by simp[results,Tryz.results16,go_sem]) rfl ⟨rfl,(al3 _ _ _ _).drew⟩
theorem azl:
 Calls Tryz.prog 16 #[.agg #[.slice A1 n c1,.slice A2 n c2,.bool rt,.string u,.bool true,.int .i64 0],.agg #[.int .i64 k,.string m,.bool em,.bool bk]] w (RsP A1 n c1 A2 n c2 rt u true 0 15 w):=by
 have HD:=aac (db0 w #[.slice A1 n c1,.slice A2 n c2,.bool rt,.string u,.bool true,.int .i64 0] #[.int .i64 k,.string m,.bool em,.bool bk]);go_enter Tryz.func16,Tryz.ntmps16;go_wp2;exact bodyPost_ret (v:=.tuple #[.agg #[.slice A1 n c1,.slice A2 n c2,.bool rt,.string u,.bool true,.int .i64 0],.slice none 0 0,.int .i64 15]) (by simp[results,Tryz.results16,go_sem]) rfl ⟨rfl,al3 _ _ _ _⟩
theorem a0H (hn:0 < n):
 Calls Tryz.prog 16 #[.agg #[.slice A1 n c1,.slice A2 n c2,.bool rt,.string u,.bool false,.int .i64 0],.agg #[.int .i64 6,.string m,.bool em,.bool bk]] w (RsP A1 n c1 A2 n c2 rt u false 7 7 w):=by
 have H0:=aac (db0 w #[.slice A1 n c1,.slice A2 n c2,.bool rt,.string u,.bool false,.int .i64 0] #[.int .i64 6,.string m,.bool em,.bool bk]);have d1:(0:Int) < (n:Int):=(by omega);go_enter Tryz.func16,Tryz.ntmps16;go_wp2_with fail;refine(aby A1 A2 n c1 n c2 rt false u 0 7 _).mono ?_;rintro e wf ⟨rfl,hf⟩;have HD:=aac (H0.out.keep hf);clear hf H0;obtain⟨z0,z1,z2,z3,z4,z5⟩:=Nz.Sc.cells6 HD.out.rs;obtain⟨g0,g1,g2,g3,g4,g5⟩:=Nz.Sc.adi HD.out.rs;go_wp2;have HS:=aac (akG HD.out.rs (.slice A1 n c1) (.slice A2 n c2) (.bool rt) (.string u) (.bool false) (.int .i64 7));obtain⟨r0,r1,r2,r3,r4,r5⟩:=Nz.Sc.cells6 HS.out;exact bodyPost_ret (v:=.tuple #[.agg #[.slice A1 n c1,.slice A2 n c2,.bool rt,.string u,.bool false,.int .i64 7],.slice none 0 0,.int .i64 7]) (by simp[results,Tryz.results16,go_sem,r0,r1,r2,r3,r4,r5]) rfl ⟨rfl,akB HD.out.bel (by omega) _ _ _ _ _ _⟩
theorem azE:
 Calls Tryz.prog 16 #[.agg #[.slice A1 0 c1,.slice A2 0 c2,.bool false,.string u,.bool false,.int .i64 0],.agg #[.int .i64 6,.string m,.bool em,.bool bk]] w (RsP A1 0 c1 A2 0 c2 false u false 11 11 w):=by
 have H0:=aac (db0 w #[.slice A1 0 c1,.slice A2 0 c2,.bool false,.string u,.bool false,.int .i64 0] #[.int .i64 6,.string m,.bool em,.bool bk]);go_enter Tryz.func16,Tryz.ntmps16;go_wp2_with fail;refine(aby A1 A2 0 c1 0 c2 false false u 0 11 _).mono ?_;rintro e wf ⟨rfl,hf⟩;have HD:=aac (H0.out.keep hf);clear hf H0;obtain⟨z0,z1,z2,z3,z4,z5⟩:=Nz.Sc.cells6 HD.out.rs;obtain⟨g0,g1,g2,g3,g4,g5⟩:=Nz.Sc.adi HD.out.rs;go_wp2;have HS:=aac (akG HD.out.rs (.slice A1 0 c1) (.slice A2 0 c2) (.bool false) (.string u) (.bool false) (.int .i64 11));obtain⟨r0,r1,r2,r3,r4,r5⟩:=Nz.Sc.cells6 HS.out;exact bodyPost_ret (v:=.tuple #[.agg #[.slice A1 0 c1,.slice A2 0 c2,.bool false,.string u,.bool false,.int .i64 11],.slice none 0 0,.int .i64 11]) (by simp[results,Tryz.results16,go_sem,r0,r1,r2,r3,r4,r5]) rfl ⟨rfl,akB HD.out.bel (by omega) _ _ _ _ _ _⟩
theorem azC:
 Calls Tryz.prog 16 #[.agg #[.slice A1 0 c1,.slice A2 0 c2,.bool true,.string u,.bool false,.int .i64 0],.agg #[.int .i64 6,.string m,.bool em,.bool bk]] w (RsP A1 0 c1 A2 0 c2 true u true 0 0 w):=by
 go_enter Tryz.func16,Tryz.ntmps16;go_wp2;exact bodyPost_ret (v:=.tuple #[.agg #[.slice A1 0 c1,.slice A2 0 c2,.bool true,.string u,.bool true,.int .i64 0],.slice none 0 0,.int .i64 0]) (by simp[results,Tryz.results16,go_sem]) rfl ⟨rfl,al3 _ _ _ _⟩
theorem alQ:
 Calls Tryz.prog 16 #[.agg #[.slice A1 0 c1,.slice A2 0 c2,.bool rt,.string u,.bool false,.int .i64 0],.agg #[.int .i64 3,.string m,.bool em,.bool false]] w (RsP A1 0 c1 A2 0 c2 rt u false 11 11 w):=by
 have H0:=aac (db0 w #[.slice A1 0 c1,.slice A2 0 c2,.bool rt,.string u,.bool false,.int .i64 0] #[.int .i64 3,.string m,.bool em,.bool false]);go_enter Tryz.func16,Tryz.ntmps16;go_wp2_with fail;refine(aby A1 A2 0 c1 0 c2 rt false u 0 11 _).mono ?_;rintro e wf ⟨rfl,hf⟩;have HD:=aac (H0.out.keep hf);clear hf H0;obtain⟨z0,z1,z2,z3,z4,z5⟩:=Nz.Sc.cells6 HD.out.rs;obtain⟨g0,g1,g2,g3,g4,g5⟩:=Nz.Sc.adi HD.out.rs;go_wp2;have HS:=aac (akG HD.out.rs (.slice A1 0 c1) (.slice A2 0 c2) (.bool rt) (.string u) (.bool false) (.int .i64 11));obtain⟨r0,r1,r2,r3,r4,r5⟩:=Nz.Sc.cells6 HS.out;exact bodyPost_ret (v:=.tuple #[.agg #[.slice A1 0 c1,.slice A2 0 c2,.bool rt,.string u,.bool false,.int .i64 11],.slice none 0 0,.int .i64 11]) (by simp[results,Tryz.results16,go_sem,r0,r1,r2,r3,r4,r5]) rfl ⟨rfl,akB HD.out.bel (by omega) _ _ _ _ _ _⟩
theorem alo:
 Calls Tryz.prog 16 #[.agg #[.slice A1 0 c1,.slice A2 0 c2,.bool rt,.string u,.bool false,.int .i64 0],.agg #[.int .i64 3,.string m,.bool em,.bool true]] w (RsP A1 0 c1 A2 0 c2 rt u false 0 0 w):=by
 go_enter Tryz.func16,Tryz.ntmps16;go_wp2;exact bodyPost_ret (v:=.tuple #[.agg #[.slice A1 0 c1,.slice A2 0 c2,.bool rt,.string u,.bool false,.int .i64 0],.slice none 0 0,.int .i64 0]) (by simp[results,Tryz.results16,go_sem]) rfl ⟨rfl,al3 _ _ _ _⟩
theorem aue (hn:0 < n)(hu:u.size≤1000000000)(hm:m.size≤1000000):
 Calls Tryz.prog 16 #[.agg #[.slice A1 n c1,.slice A2 n c2,.bool rt,.string u,.bool false,.int .i64 0],.agg #[.int .i64 3,.string m,.bool em,.bool bk]] w (RsP A1 n c1 A2 n c2 rt (u++m) false 0 0 w):=by
 have HD:=aac (db0 w #[.slice A1 n c1,.slice A2 n c2,.bool rt,.string u,.bool false,.int .i64 0] #[.int .i64 3,.string m,.bool em,.bool bk]);have d1:(0:Int) < (n:Int):=(by omega);go_enter Tryz.func16,Tryz.ntmps16;go_wp2;exact bodyPost_ret (v:=.tuple #[.agg #[.slice A1 n c1,.slice A2 n c2,.bool rt,.string (u++m),.bool false,.int .i64 0],.slice none 0 0,.int .i64 0]) (by simp[results,Tryz.results16,go_sem]) rfl ⟨rfl,al3 _ _ _ _⟩
theorem atH (h1:k≠1)(h2:k≠2)(h3:k≠3)(h6:k≠6):
 Calls Tryz.prog 16 #[.agg #[.slice A1 n c1,.slice A2 n c2,.bool rt,.string u,.bool false,.int .i64 0],.agg #[.int .i64 k,.string m,.bool em,.bool bk]] w (RsP A1 n c1 A2 n c2 rt u false 0 0 w):=by
 have HD:=aac (db0 w #[.slice A1 n c1,.slice A2 n c2,.bool rt,.string u,.bool false,.int .i64 0] #[.int .i64 k,.string m,.bool em,.bool bk]);have k1:(k == 1)=false:=beq_eq_false_iff_ne.2 h1;have k2:(k == 2)=false:=beq_eq_false_iff_ne.2 h2;have k3:(k == 3)=false:=beq_eq_false_iff_ne.2 h3;have k6:(k == 6)=false:=beq_eq_false_iff_ne.2 h6;clear h1 h2 h3 h6;go_enter Tryz.func16,Tryz.ntmps16;go_wp2;exact bodyPost_ret (v:=.tuple #[.agg #[.slice A1 n c1,.slice A2 n c2,.bool rt,.string u,.bool false,.int .i64 0],.slice none 0 0,.int .i64 0]) (by simp[results,Tryz.results16,go_sem]) rfl ⟨rfl,al3 _ _ _ _⟩
theorem axz:
 Calls Tryz.prog 16 #[.agg #[.slice A1 0 c1,.slice A2 0 c2,.bool true,.string u,.bool false,.int .i64 0],.agg #[.int .i64 1,.string m,.bool em,.bool bk]] w (RsP A1 0 c1 A2 0 c2 true u false 11 11 w):=by
 have H0:=aac (db0 w #[.slice A1 0 c1,.slice A2 0 c2,.bool true,.string u,.bool false,.int .i64 0] #[.int .i64 1,.string m,.bool em,.bool bk]);go_enter Tryz.func16,Tryz.ntmps16;go_wp2_with fail;refine(aby A1 A2 0 c1 0 c2 true false u 0 11 _).mono ?_;rintro e wf ⟨rfl,hf⟩;have HD:=aac (H0.out.keep hf);clear hf H0;obtain⟨z0,z1,z2,z3,z4,z5⟩:=Nz.Sc.cells6 HD.out.rs;obtain⟨g0,g1,g2,g3,g4,g5⟩:=Nz.Sc.adi HD.out.rs;go_wp2;have HS:=aac (akG HD.out.rs (.slice A1 0 c1) (.slice A2 0 c2) (.bool true) (.string u) (.bool false) (.int .i64 11));obtain⟨r0,r1,r2,r3,r4,r5⟩:=Nz.Sc.cells6 HS.out;exact bodyPost_ret (v:=.tuple #[.agg #[.slice A1 0 c1,.slice A2 0 c2,.bool true,.string u,.bool false,.int .i64 11],.slice none 0 0,.int .i64 11]) (by simp[results,Tryz.results16,go_sem,r0,r1,r2,r3,r4,r5]) rfl ⟨rfl,akB HD.out.bel (by omega) _ _ _ _ _ _⟩
theorem axP:
 Calls Tryz.prog 16 #[.agg #[.slice A1 0 c1,.slice A2 0 c2,.bool rt,.string u,.bool false,.int .i64 0],.agg #[.int .i64 2,.string m,.bool em,.bool bk]] w (RsP A1 0 c1 A2 0 c2 rt u false 10 10 w):=by
 have H0:=aac (db0 w #[.slice A1 0 c1,.slice A2 0 c2,.bool rt,.string u,.bool false,.int .i64 0] #[.int .i64 2,.string m,.bool em,.bool bk]);go_enter Tryz.func16,Tryz.ntmps16;go_wp2_with fail;go_quiet (fail);go_wp2_with fail;refine(aby A1 A2 0 c1 0 c2 rt false u 0 10 _).mono ?_;rintro e wf ⟨rfl,hf⟩;have HD:=aac ((H0.out.keep (below_drewN (Below.refl _ _) _)).keep hf);clear hf H0;obtain⟨z0,z1,z2,z3,z4,z5⟩:=Nz.Sc.cells6 HD.out.rs;obtain⟨g0,g1,g2,g3,g4,g5⟩:=Nz.Sc.adi HD.out.rs;go_wp2;have HS:=aac (akG HD.out.rs (.slice A1 0 c1) (.slice A2 0 c2) (.bool rt) (.string u) (.bool false) (.int .i64 10));obtain⟨r0,r1,r2,r3,r4,r5⟩:=Nz.Sc.cells6 HS.out;exact bodyPost_ret (v:=.tuple #[.agg #[.slice A1 0 c1,.slice A2 0 c2,.bool rt,.string u,.bool false,.int .i64 10],.slice none 0 0,.int .i64 10]) (by simp[results,Tryz.results16,go_sem,r0,r1,r2,r3,r4,r5]) rfl ⟨rfl,akB HD.out.bel (by omega) _ _ _ _ _ _⟩
end
end Go.Proofs.YtnomcldpbkinmaaGreatDoor.Wl
namespace Go.Proofs.YtnomcldpbkinmaaGreatDoor.Wl
open Go.RowKit
structure Gd (s:St):Prop where
 dep:s.op.length≤64
 len:∀ (k:Nat) (x:ByteArray × List Pr),s.op[k]?=some x→x.2.length≤1+32 * (k+1)∧Nz.Sc.adF x.2
theorem gd0:Gd st0:=⟨by decide,fun k x h=>by simp[st0] at h⟩
theorem a2M:Nz.Sc.adF adB:=by
 intro x hx;unfold adB at hx;rw[List.mem_singleton] at hx;subst hx;exact⟨by decide,by decide⟩
theorem Gd.scp {s:St}(h:Gd s):(aeo s).length≤1+32 * s.op.length∧Nz.Sc.adF (aeo s):=by
 unfold aeo
 cases hl:s.op.getLast? with
 | none=>exact⟨by show 1≤_;omega,a2M⟩
 | some x=>
   rw[List.getLast?_eq_getElem?] at hl;have:=h.len _ _ hl;have hlt:=(List.getElem?_eq_some_iff.1 hl).1;exact⟨by show x.2.length≤_;omega,this.2⟩
theorem ahe {u:ByteArray}(h:(Tg.aar u).1=0)(hu:u.size≤10000):(Tg.aar u).2.1.size≤10000∧(Tg.aar u).2.2.length≤32∧Nz.Sc.adF (Tg.aar u).2.2∧∀ x∈(Tg.aar u).2.2,x.1.size≤10000:=by
 obtain⟨h1,h2,h3⟩:=Tg.azU u h;refine⟨by omega,h1.2.1,fun x hx=> ?_,fun x hx=>by have:=(h3 x hx).1;omega⟩;have:=h3 x hx;unfold Nz.Sc.Lim;omega
section
variable {B rb:Nat} {vw vo:Value} {es:List OpP} {s:St} {w w':World}
theorem auJ (h:RW B rb vw vo es s w)(he:s.err=0)(k:Int)(m:ByteArray)(em bk:Bool)(hr:s.root=true)(hn:s.op=[]):
 Calls Tryz.prog 39 #[.pointer (some ⟨rb,0,none⟩),.agg #[.int .i64 k,.string m,.bool em,.bool bk]] w (TkP B rb (aaw s ⟨k,m,em,bk⟩) (clr (aaw s ⟨k,m,em,bk⟩).1) w):=by
 have HW:=aac h;have HR:=aac (h.box (.cells #[.int .i64 k,.string m,.bool em,.bool bk] 42));have CD:=aac (abb HR.out);have HX:Hid (aaw s ⟨k,m,em,bk⟩=bad s 11):=aac (by unfold aaw;rw[if_pos ⟨hr,hn⟩]);have c2:=HR.out.c2;rw[hr] at c2;have k0:s.op.length=0:=by rw[hn];rfl
 rw[k0] at CD;clear h hn;generalize aaw s ⟨k,m,em,bk⟩=x at *;go_enter Tryz.func39,Tryz.ntmps39;go_wp2_with fail;refine CD.out.mono ?_;rintro e w1 ⟨rfl,rfl⟩;go_wp2;go_ret2;exact aen HX.out he HR.out (aaK w _) (abk HW.out _)
theorem RW.call (h:RW B rb vw vo es s w)(hb:Below w.heap.size w w'):Below B w w':=hb.mono h.siz
theorem arI (h:RW B rb vw vo es s w)(hG:Gl w)(he:s.err=0)(k:Int)(m:ByteArray)(em bk:Bool)(hm:m.size≤10000)(hd:s.op.length≤64)(hr:¬ (s.root=true∧s.op=[]))(hp:(Tg.aar m).1≠0):
 Calls Tryz.prog 39 #[.pointer (some ⟨rb,0,none⟩),.agg #[.int .i64 k,.string m,.bool em,.bool bk]] w (TkP B rb (aaw s ⟨k,m,em,bk⟩) (clr (aaw s ⟨k,m,em,bk⟩).1) w):=by
 have HW:=aac h;have HR:=aac (h.box (.cells #[.int .i64 k,.string m,.bool em,.bool bk] 42));have CD:=aac (abb HR.out);have HX:Hid (aaw s ⟨k,m,em,bk⟩=bad s (Tg.aar m).1):=aac (by unfold aaw;rw[if_neg hr,if_pos hp]);have CP:=aac (Tg.aeb m (w.alloc (.cells #[.int .i64 k,.string m,.bool em,.bool bk] 42)) (hG.alloc _).vars (by omega));have c2:=HR.out.c2;have t1:((Tg.aar m).1 != 0)=true:=bne_iff_ne.2 hp
 have hq:s.root=true→((s.op.length:Int) == 0)=false:=fun e=>by
  rw[beq_eq_false_iff_ne];intro e2;exact hr ⟨e,List.eq_nil_of_length_eq_zero (by omega)⟩
 clear h hp hr hG;generalize aaw s ⟨k,m,em,bk⟩=y at *;generalize s.op.length=n at *;generalize Tg.aar m=q at *;obtain⟨er,pn,pa⟩:=q;dsimp only at t1 HX;cases hroot:s.root
 · rw[hroot] at c2;go_enter Tryz.func39,Tryz.ntmps39;go_wp2_with fail;refine CP.out.mono ?_;rintro e w1 ⟨v,rfl,ho,hb⟩;obtain⟨A2,m2,k2,rfl⟩:=ait ho;have HR1:=aac (HR.out.after hb);have HB1:=aac ((abk HW.out (.cells #[.int .i64 k,.string m,.bool em,.bool bk] 42)).trans (HR.out.call hb));have HF1:=aac ((aaK w (.cells #[.int .i64 k,.string m,.bool em,.bool bk] 42)).trans (Frm.of_below hb));clear hb ho CP CD c2 HR;dsimp only;go_wp2;go_ret2;exact aen HX.out he (HR1.out.box _) (HF1.out.trans (aaK w1 _)) (HB1.out.trans (abk HR1.out _))
 · rw[hroot] at c2;have hq1:=hq hroot;go_enter Tryz.func39,Tryz.ntmps39;go_wp2_with fail;refine CD.out.mono ?_;rintro e w1 ⟨rfl,rfl⟩;go_wp2_with fail;refine CP.out.mono ?_;rintro e w1 ⟨v,rfl,ho,hb⟩;obtain⟨A2,m2,k2,rfl⟩:=ait ho;have HR1:=aac (HR.out.after hb);have HB1:=aac ((abk HW.out (.cells #[.int .i64 k,.string m,.bool em,.bool bk] 42)).trans (HR.out.call hb));have HF1:=aac ((aaK w (.cells #[.int .i64 k,.string m,.bool em,.bool bk] 42)).trans (Frm.of_below hb));clear hb ho CP CD c2 HR;dsimp only;go_wp2;go_ret2;exact aen HX.out he (HR1.out.box _) (HF1.out.trans (aaK w1 _)) (HB1.out.trans (abk HR1.out _))
end
end Go.Proofs.YtnomcldpbkinmaaGreatDoor.Wl
