/- Lemmas of the claim. -/
import Derived.Test.YtiaebhomfebagaaGreatDoorG24
import Derived.Test.YtiaebhomfebagaaGreatDoorG18
import Derived.Test.YtiaebhomfebagaaGreatDoorG19
import Derived.Test.YtiaebhomfebagaaGreatDoorG05
import Derived.Test.YtiaebhomfebagaaGreatDoorG04
import Derived.Test.YtiaebhomfebagaaGreatDoorG12
import Derived.Test.YtiaebhomfebagaaGreatDoorG02
import Derived.Test.YtiaebhomfebagaaGreatDoorG06
set_option maxHeartbeats 8000000
set_option maxRecDepth 100000
set_option linter.unusedSimpArgs false
set_option linter.unusedVariables false
namespace Go.Proofs.YtiaebhomfebagaaGreatDoor
open Go.RowKit
theorem agW (s:ByteArray)(at_:Int)(w:World)(he:s.toList.isEmpty=true):Calls Tryz.prog 31 #[.string s,.int .i64 at_,.bool true] w (aav (T0,0,7) w):=by
 have HN:=aac (abW w);go_enter Tryz.func31,Tryz.ntmps31;go_wp2_with fail;exact bodyPost_ret (v:=.tuple #[tkV T0,.int .i64 0,.int .i64 7]) (by rw[tk0];simp[results,Tryz.results31,go_sem]) rfl ⟨T0,0,rfl,fun _=>⟨rfl,rfl⟩,HN.out.2.1⟩
theorem agY (s:ByteArray)(at_:Int)(w:World)(he:s.toList.isEmpty=true):Calls Tryz.prog 31 #[.string s,.int .i64 at_,.bool false] w (aav (⟨6,[],false,false⟩,0,0) w):=by
 go_enter Tryz.func31,Tryz.ntmps31;go_wp2_with fail;exact bodyPost_ret (v:=.tuple #[tkV ⟨6,[],false,false⟩,.int .i64 0,.int .i64 0]) (by unfold tkV;rw[aib];simp[results,Tryz.results31,go_sem]) rfl ⟨⟨6,[],false,false⟩,0,rfl,fun _=>⟨rfl,rfl⟩,(Below.refl _ w).alloc (Nat.le_refl _) _⟩
def ToC (f:Nat)(args:Array Value)(x:Tk × Nat × Int):Prop:=∀ W,Gl W→Calls Tryz.prog f args W (aav x W)
theorem adM (s:ByteArray)(at_:Int)(more:Bool)(x:Tk × Nat × Int)(w:World)(hG:Gl w)(he:s.toList.isEmpty=false)(h1:0 < s.size)(h0:(((s[0]).toNat:Int) == 60)=true)(C:Hid (ToC 45 #[.string s,.int .i64 at_] x)):
 Calls Tryz.prog 31 #[.string s,.int .i64 at_,.bool more] w (aav x w):=by
 have HN:=aac (abW w);have HG:=aac (hG.after HN.out.2.1);clear hG;go_enter Tryz.func31,Tryz.ntmps31;go_wp2_with fail;refine(C.out _ HG.out).mono ?_;rintro e w3 ⟨⟨kd,tx,em,bk⟩,n,rfl,hx,hb3⟩;have HX:=aac hx;obtain⟨hz,hb,⟨c0,c1,c2,c3,f0,f1,f2,f3⟩⟩:=aax HN.out hb3;have HB:=aac hb;clear hb3 hb hx;unfold tkV;dsimp only;generalize hst:strOfNums tx=str;have HS:=aac hst;clear hst;go_wp2_with fail;exact bodyPost_ret (v:=.tuple #[.agg #[.int .i64 kd,.string str,.bool em,.bool bk],.int .i64 n,.int .i64 x.2.2]) (by simp[results,Tryz.results31,go_sem,c0,c1,c2,c3,hz]) rfl ⟨⟨kd,tx,em,bk⟩,n,by rw[← HS.out];rfl,HX.out,aah HB.out (Nat.le_refl _) _ _ _ _⟩
theorem akC (s:ByteArray)(at_:Int)(more:Bool)(x:Tk × Nat × Int)(w:World)(hG:Gl w)(he:s.toList.isEmpty=false)(h1:0 < s.size)(h0:(((s[0]).toNat:Int) == 60)=false)(C:Hid (ToC 46 #[.string s,.bool more] x)):
 Calls Tryz.prog 31 #[.string s,.int .i64 at_,.bool more] w (aav x w):=by
 have HN:=aac (abW w);have HG:=aac (hG.after HN.out.2.1);clear hG;go_enter Tryz.func31,Tryz.ntmps31;go_wp2_with fail;refine(C.out _ HG.out).mono ?_;rintro e w3 ⟨⟨kd,tx,em,bk⟩,n,rfl,hx,hb3⟩;have HX:=aac hx;obtain⟨hz,hb,⟨c0,c1,c2,c3,f0,f1,f2,f3⟩⟩:=aax HN.out hb3;have HB:=aac hb;clear hb3 hb hx;unfold tkV;dsimp only;generalize hst:strOfNums tx=str;have HS:=aac hst;clear hst;go_wp2_with fail;exact bodyPost_ret (v:=.tuple #[.agg #[.int .i64 kd,.string str,.bool em,.bool bk],.int .i64 n,.int .i64 x.2.2]) (by simp[results,Tryz.results31,go_sem,c0,c1,c2,c3,hz]) rfl ⟨⟨kd,tx,em,bk⟩,n,by rw[← HS.out];rfl,HX.out,aah HB.out (Nat.le_refl _) _ _ _ _⟩
theorem ath (s:ByteArray)(a:Nat)(more:Bool)(w:World)(hG:Gl w)(hs:s.size≤2000000000):Calls Tryz.prog 31 #[.string s,.int .i64 (a:Int),.bool more] w (aav (aaT (decide (a=0)) more (aad s)) w):=by
 have hE:=Nz.isE s;unfold aaT;by_cases h0:s.size=0
 · have hn:aad s=[]:=List.eq_nil_of_length_eq_zero (by rw[aae];exact h0);rw[if_pos hn];rw[decide_eq_true h0] at hE
   cases more with
   | true=>exact agW s a w hE
   | false=>exact agY s a w hE
 · rw[decide_eq_false h0] at hE;rw[if_neg (fun h=>h0 (by rw[← aae,h];rfl))];have h1:0 < s.size:=(by omega);have hb:=asO s 0 h1;by_cases h2:(aad s).getD 0 0=60
   · rw[if_pos h2];exact adM s a more _ w hG hE h1 (by rw[hb,h2];rfl) (aac fun W hW=>aoE s a W hW hs h2)
   · rw[if_neg h2];exact akC s a more _ w hG hE h1 (by rw[hb,beq_eq_false_iff_ne];exact h2) (aac fun W hW=>atl s more W hW hs)
def afA (x:Tk × Nat × Int)(a:Nat)(w:World)(e:Ending)(w':World):Prop:=
 e=.returned (.tuple #[tkV x.1,.int .i64 ((a:Int)+(x.2.1:Int)),.int .i64 x.2.2])∧Below w.heap.size w w'
theorem ahq (z more:Bool)(l:List Int)(h:(aaT z more l).2.2≠0):aaT z more l=(T0,0,(aaT z more l).2.2):=by
 by_cases hl:l=[]
 · subst hl
   cases more with
   | true=>rfl
   | false=>exact absurd rfl h
 · obtain⟨h1,h2⟩:=(agx z more l hl).zero h;rw[← h1,← h2]
theorem apx (z more:Bool)(l:List Int):(aaT z more l).2.1≤l.length:=by
 by_cases h:(aaT z more l).2.2=0
 · by_cases hl:l=[]
   · subst hl
     cases more with
     | true=>exact Nat.le_refl _
     | false=>exact Nat.le_refl _
   · exact((agx z more l hl).size h).2.1
 · rw[ahq z more l h];exact Nat.zero_le _
theorem avq (s:ByteArray)(a:Nat)(more:Bool)(m:Nat)(er:Int)(w:World)(hG:Gl w)(hs:s.size≤2000000000)(ha:a≤s.size)(her:er≠0)(y:Tk)(C:Hid (ToC 31 #[.string (s.extract a s.size),.int .i64 (a:Int),.bool more] (y,m,er))):
 Calls Tryz.prog 19 #[.string s,.int .i64 (a:Int),.bool more] w (afA (T0,0,er) a w):=by
 have HN:=aac (abW w);have HG:=aac (hG.after HN.out.2.1);have t1:(er != 0)=true:=by rw[bne_iff_ne];exact her
 have d1:¬ (a:Int) < 0:=(by omega);have d2:¬ (s.size:Int) < (a:Int):=(by omega);have d3:(0:Int)≤(a:Int):=(by omega);have d4:(a:Int)≤(s.size:Int):=(by omega);have d5:¬ s.size < a:=(by omega);clear hG her;go_enter Tryz.func19,Tryz.ntmps19;go_wp2_with fail;refine(C.out _ HG.out).mono ?_;rintro e w3 ⟨⟨kd,tx,em,bk⟩,n,rfl,hx,hb3⟩;have h3:=aax HN.out hb3;clear hx hb3;unfold tkV;dsimp only;generalize strOfNums tx=str;have hA:=(Below.refl w3.heap.size w3).alloc (Nat.le_refl _) (.cells #[.int .i64 kd,.string str,.bool em,.bool bk] 44);obtain⟨hz,hb,⟨c0,c1,c2,c3,f0,f1,f2,f3⟩⟩:=aax h3 hA;have HB:=aac hb;clear hb h3 hA;go_wp2_with fail;exact bodyPost_ret (v:=.tuple #[tkV T0,.int .i64 (a:Int),.int .i64 er]) (by rw[tk0];simp[results,Tryz.results19,go_sem,c0,c1,c2,c3,hz]) rfl ⟨by show _=Ending.returned (.tuple #[tkV T0,.int .i64 ((a:Int)+((0:Nat):Int)),.int .i64 er]);rw[show (a:Int)+((0:Nat):Int)=a by omega],aah HB.out (Nat.le_refl _) _ _ _ _⟩
theorem a0x (s:ByteArray)(a:Nat)(more:Bool)(m:Nat)(w:World)(hG:Gl w)(hs:s.size≤2000000000)(ha:a≤s.size)(hm:m≤2000000000)(y:Tk)(C:Hid (ToC 31 #[.string (s.extract a s.size),.int .i64 (a:Int),.bool more] (y,m,0))):
 Calls Tryz.prog 19 #[.string s,.int .i64 (a:Int),.bool more] w (afA (y,m,0) a w):=by
 have HN:=aac (abW w);have HG:=aac (hG.after HN.out.2.1);have d1:¬ (a:Int) < 0:=(by omega);have d2:¬ (s.size:Int) < (a:Int):=(by omega);have d3:(0:Int)≤(a:Int):=(by omega);have d4:(a:Int)≤(s.size:Int):=(by omega);have d5:¬ s.size < a:=(by omega);have q1:IntKind.i64.wrap ((a:Int)+(m:Int))=(a:Int)+(m:Int):=IntWalk.i64_in _ (by omega);clear hG;obtain⟨kd,tx,em,bk⟩:=y;go_enter Tryz.func19,Tryz.ntmps19;go_wp2_with fail;refine(C.out _ HG.out).mono ?_;rintro e w3 ⟨y',n,rfl,hx,hb3⟩;obtain⟨rfl,rfl⟩:=hx rfl;have h3:=aax HN.out hb3;clear hx hb3;unfold tkV;dsimp only;generalize hst:strOfNums tx=str;have HS:=aac hst;clear hst;have hA:=(Below.refl w3.heap.size w3).alloc (Nat.le_refl _) (.cells #[.int .i64 kd,.string str,.bool em,.bool bk] 44);obtain⟨hz,hb,⟨c0,c1,c2,c3,f0,f1,f2,f3⟩⟩:=aax h3 hA;have HB:=aac hb;clear hb h3 hA;go_wp2_with fail;exact bodyPost_ret (v:=.tuple #[.agg #[.int .i64 kd,.string str,.bool em,.bool bk],.int .i64 ((a:Int)+(m:Int)),.int .i64 0]) (by simp[results,Tryz.results19,go_sem,c0,c1,c2,c3,hz]) rfl ⟨by rw[← HS.out];rfl,aah HB.out (Nat.le_refl _) _ _ _ _⟩
theorem apD (s:ByteArray)(a:Nat)(more:Bool)(w:World)(hG:Gl w)(hs:s.size≤2000000000)(ha:a≤s.size):Calls Tryz.prog 19 #[.string s,.int .i64 (a:Int),.bool more] w (afA (aaT (decide (a=0)) more ((aad s).drop a)) a w):=by
 have e:aad (s.extract a s.size)=(aad s).drop a:=by rw[aal,List.take_of_length_le (by rw[aae];omega)]
 have C:ToC 31 #[.string (s.extract a s.size),.int .i64 (a:Int),.bool more] (aaT (decide (a=0)) more ((aad s).drop a)):=fun W hW=>by
  have:=ath (s.extract a s.size) a more W hW (by rw[ByteArray.size_extract];omega);rw[e] at this;exact this
 have hl:=apx (decide (a=0)) more ((aad s).drop a);rw[List.length_drop,aae] at hl;by_cases h:(aaT (decide (a=0)) more ((aad s).drop a)).2.2=0
 · obtain⟨y,m,er,hx⟩:∃ y m er,aaT (decide (a=0)) more ((aad s).drop a)=(y,m,er):=⟨_,_,_,rfl⟩;rw[hx] at C hl h ⊢;have h':er=0:=h;subst h';exact a0x s a more m w hG hs ha (by have:m≤s.size - a:=hl;omega) y (aac C)
 · rw[ahq _ _ _ h] at C ⊢;exact avq s a more 0 _ w hG hs ha h T0 (aac C)
theorem ayn (s:ByteArray)(a:Nat)(x:Tk × Nat × Int)(w:World)(hG:Gl w)(C:Hid (∀ W,Gl W→Calls Tryz.prog 19 #[.string s,.int .i64 (a:Int),.bool false] W (afA x a W))):
 Calls Tryz.prog 11 #[.string s,.int .i64 (a:Int)] w (afA x a w):=by
 have HN:=aac (abW w);have HG:=aac (hG.after HN.out.2.1);clear hG;obtain⟨⟨kd,tx,em,bk⟩,m,er⟩:=x;go_enter Tryz.func11,Tryz.ntmps11;go_wp2_with fail;refine(C.out _ HG.out).mono ?_;rintro e w3 ⟨rfl,hb3⟩;obtain⟨hz,hb,⟨c0,c1,c2,c3,f0,f1,f2,f3⟩⟩:=aax HN.out hb3;have HB:=aac hb;clear hb hb3;unfold tkV;dsimp only;generalize hst:strOfNums tx=str;have HS:=aac hst;clear hst;generalize hmm:(a:Int)+(m:Int)=k;have HM:=aac hmm;clear hmm;go_wp2_with fail;exact bodyPost_ret (v:=.tuple #[.agg #[.int .i64 kd,.string str,.bool em,.bool bk],.int .i64 k,.int .i64 er]) (by simp[results,Tryz.results11,go_sem,c0,c1,c2,c3,hz]) rfl ⟨by rw[← HS.out,← HM.out];rfl,aah HB.out (Nat.le_refl _) _ _ _ _⟩
theorem avU (s:ByteArray)(a:Nat)(w:World)(hG:Gl w)(hs:s.size≤2000000000)(ha:a≤s.size):Calls Tryz.prog 11 #[.string s,.int .i64 (a:Int)] w (afA (nx (aad s) a) a w):=
 ayn s a _ w hG (aac fun W hW=>apD s a false W hW hs ha)
end Go.Proofs.YtiaebhomfebagaaGreatDoor
namespace Go.Proofs.YtiaebhomfebagaaGreatDoor.Wl
open Go.RowKit
theorem abG {P:Program}{w:World}{ops:Array Oper}{rest:List Oper}{o:Oper}{a:Act}{Q:Exit→Act→World→Prop}(hgd:o.guard=none)(s x:Operand)(t:TypeId)
 (ho:o.op=.call { callee:=.builtin .append,args:= #[s,x],argTypes:= #[t,t] })
 (base:Nat) (e:TypeId) (i:TypeInfo) (z:Value) (size bytes:Nat) (ht:P.underlying t=some (.slice e)) (hi:P.info? e=some i) (hz:i.zero=some z) (hsize:i.size=size) (hby:i.bytes=bytes) (hzs:z.cells.size=size) (hsz:0 < size)
 (v:Value) (n:Nat) (xs:List Value) (hs:a.eval s=v) (hown:w.ownsRow base e size v n xs)
 (A:Option Addr) (m c:Nat) (news:List Value) (hx:a.eval x=.slice A m c) (hnil:A=none→m=0∧c=0) (hl:news.length=m * size) (hnews:∀ ad,A=some ad→∀ j u,news[j]?=some u→w.cell? (ad.add j)=some u) (h1:∀ u∈news,u.oneCell'=true)
 (h63:n+m≤maxLen) (hbytes:(n+m) * bytes≤140737488355328) (hbase:base≤w.heap.size)
 (h:∀ v' w',w'.ownsRow base e size v' (n+m) (xs++news)→w.grownBy w' v.ownBlock→wpList P ops Q rest (a.put o.dst v') w'):
 wpList P ops Q (o :: rest) a w:=by
 cases A with
 | some ad=>exact wpList_append_own w hgd s x t ho base e i z size bytes ht hi hz hsize hby hzs hsz v n xs hs hown ad m c news hx hl (hnews ad rfl) h1 h63 hbytes hbase (fun v' w' a1 a2 _=>h v' w' a1 a2)
 | none=>
   obtain⟨rfl,rfl⟩:=hnil rfl;have hnw:news=[]:=List.eq_nil_of_length_eq_zero (by rw[hl,Nat.zero_mul]);subst hnw;refine wpList_plain hgd fun K hK=> ?_;have hr:=run_append_owned_none (P:=P) (w:=w) base t o.type e i size ht hi v n xs hown;unfold Oper.wp execOp;simp only[ho,resolve,invoke,builtin,Sem.run_bind,Sem.run_pure,Result.andThen_ok,List.map_toArray,List.map_cons,List.map_nil,hs,hx,hr];exact hK _ _ (h v w (by rw[List.append_nil];exact hown) ⟨rfl,rfl,rfl,Nat.le_refl _,fun _ _ _=>rfl⟩)
structure EW (w:World)(rb:Nat)(v:Value)(st:St)(out:List Ev)(a:Nat)(W:World):Prop where
 rs:RS w.heap.size rb st W
 ev:abv W w.heap.size v out
 bel:Below w.heap.size w W
 gl0:Gl w
 gd:Gd st
 wt:st.wait.size≤2 * a
 jn:Jn st out
 len:out.length≤3 * a
theorem EW.gl {w W:World}{rb a:Nat}{v:Value}{st:St}{out:List Ev}(h:EW w rb v st out a W):Gl W:=h.gl0.after h.bel
theorem EW.after {w W W':World}{rb a:Nat}{v:Value}{st:St}{out:List Ev}(h:EW w rb v st out a W)(hb:Below W.heap.size W W'):EW w rb v st out a W':=by
 obtain⟨vw,vo,es,hr⟩:=h.rs;exact⟨⟨vw,vo,es,hr.after hb⟩,h.ev.keep hb,h.bel.trans (hb.mono h.bel.size),h.gl0,h.gd,h.wt,h.jn,h.len⟩
def a5B (s:ByteArray)(w:World)(rb:Nat)(v i:Value)(wr:World):Prop:=
 ∃ (a:Nat) (st:St) (out:List Ev),a≤s.size∧i=.int .i64 a∧Hid (EW w rb v st out a wr)∧Hid (evF (aad s)=evR (aad s) a st out)
def asx (x:List Ev × Nat × Int)(w:World)(e:Ending)(w':World):Prop:=
 ∃ v,e=.returned (.tuple #[v,.int .i64 (x.2.1:Int),.int .i64 x.2.2])∧abv w' w.heap.size v x.1∧Below w.heap.size w w'
theorem azr {x y:List Ev × Nat × Int}{w w':World}{e:Ending}(h:x=y)(hp:asx y w e w'):asx x w e w':=by rw[h];exact hp
theorem afi {W:World}{B n c z:Nat}{e:TypeId}{A:Option Addr}{xs:List Value}(h:W.ownsRow B e z (.slice A n c) n xs):(A=none→n=0∧c=0)∧∀ ad,A=some ad→∀ j u,xs[j]?=some u→W.cell? (ad.add j)=some u:=by
 rcases h.2 with ⟨q,h0⟩ | ⟨g,cap,cur,q,hB,hh,hr⟩
 · injection q with q1 q2 q3
   refine⟨fun _=>⟨h0,q3⟩,fun ad e=> ?_⟩;rw[q1] at e;cases e
 · injection q with q1 q2 q3
   subst q1;refine⟨(fun e=>by cases e),fun ad e j u hu=> ?_⟩;cases e;exact h.cells rfl j u hu
theorem axy {W w3:World}{B:Nat}{v v':Value}{xs ys:List EvP}{l m:List Ev}(h1:xs.map (·.1)=l)(h2:ys.map (·.1)=m)(ho:W.ownsRow B 54 5 v xs.length (evL xs))(hX:EvO W B xs)(hY:EvO W B ys)(hg:W.grownBy w3 v.ownBlock)(hn:w3.ownsRow B 54 5 v' (xs.length+ys.length) (evL xs++evL ys)):abv w3 B v' (l++m):=by
 refine⟨xs++ys,by rw[List.map_append,h1,h2],?_,(hX.grown ho hg (by decide)).app (hY.grown ho hg (by decide))⟩;rw[aqY,List.length_append];exact hn
theorem aog (s:ByteArray)(w:World)(hG:Gl w)(hs:s.size≤1000000000):Calls Tryz.prog 5 #[.string s] w (asx (evF (aad s)) w):=by
 obtain⟨i0,hi,hz0,hz1,hz2⟩:=info_parts Tryz.info54;have HC:Hid (∀ (a:Nat) W,a≤s.size→Gl W→Calls Tryz.prog 11 #[.string s,.int .i64 (a:Int)] W (afA (nx (aad s) a) a W)):=aac fun a W ha hW=>avU s a W hW (by omega) ha;have CN:=aac (akl w);have HGl:=aac hG
 have HBy:Hid (By (aad s)):=aac fun x hx=>by
  obtain⟨b,_,rfl⟩:=List.mem_map.1 hx;have:=b.toNat_lt;omega
 clear hG;go_enter Tryz.func5,Tryz.ntmps5;go_wp2_with fail;refine CN.out.mono ?_;rintro e w0 ⟨rfl,r0,b0⟩;have HE0:Hid (EW w w.heap.size (.slice none 0 0) st0 [] 0 w0):=aac ⟨⟨_,_,_,r0⟩,abv.nil _ _,b0,HGl.out,gd0,Nat.zero_le _,jn0,Nat.zero_le _⟩;clear r0 b0 CN HGl;go_wp2_with fail;go_loopw [5,7] (fun v i wr=>a5B s w w.heap.size v i wr) (fun _ i _=>s.size - (intOf i).toNat);case atStart=>exact⟨0,st0,[],Nat.zero_le _,rfl,HE0,aac rfl⟩
 case round=>
  obtain⟨a,st,out,ha,rfl,hE,hA⟩:=hrel;have C:=aac (HC.out a wr ha hE.out.gl);have hal:a≤(aad s).length:=by rw[aae];exact ha
  obtain⟨Av,cv,hv⟩:=hE.out.ev.slc;subst hv;by_cases he:(nx (aad s) a).2.2=0
  · have hT:=ayh (aad s) a (abn s);rw[aae] at hT;have hKd:=asj (aad s) a he;have hZ:=a6a (aad s) a HBy.out;unfold TkZ at hZ;have hFt:=fun h=>(ahh (aad s) a h).size he;have G1:=awX (L:=aad s) (s:=st) out hal he;have G2:=fun h=>akD (L:=aad s) (a:=a) (s:=st) out h he;have G3:=fun h=>ayG (L:=aad s) (a:=a) (s:=st) out h he;obtain⟨⟨kd,tx,em,bk⟩,n,er,hx⟩:∃ y n er,nx (aad s) a=(y,n,er):=⟨_,_,_,rfl⟩;rw[hx] at C hT hKd hFt G1 G2 G3 he hZ;dsimp only at C hT hKd hFt G1 G2 G3 he hZ;subst he;unfold afo at G1 G2 G3;dsimp only at G1 G2 G3;rw[List.length_drop,aae] at hFt;rw[aae] at hKd G2 G3;have hsz:(strOfNums tx).size≤2000000000:=by rw[abL];omega
    have hsz3:(strOfNums tx).size≤2 * n:=by rw[abL];exact hZ
    clear hZ;have hJ:=ari (t:=⟨kd,strOfNums tx,em,bk⟩) hE.out.jn;have hGd:=a0A hE.out.gd ⟨kd,strOfNums tx,em,bk⟩ hsz;have hWt:=arM (s:=st) ⟨kd,strOfNums tx,em,bk⟩;have hLn:=take_len (s:=st) ⟨kd,strOfNums tx,em,bk⟩;have hw0:=hE.out.wt;have hl0:=hE.out.len;dsimp only at hJ hWt;have CT:Hid (∀ W,EW w w.heap.size (.slice Av out.length cv) st out a W→Calls Tryz.prog 12 #[.pointer (some ⟨w.heap.size,0,none⟩),.agg #[.int .i64 kd,.string (strOfNums tx),.bool em,.bool bk]] W (TkP w.heap.size w.heap.size (aaF st ⟨kd,strOfNums tx,em,bk⟩) (aaF st ⟨kd,strOfNums tx,em,bk⟩).1 W)):=aac fun W hW=>auq hW.rs hW.gl kd _ em bk hsz hW.gd (by omega);have HJ:=aac hJ;have HGd:=aac hGd;have HG1:=aac G1;have HG2:=aac G2;have HG3:=aac G3;clear hJ hGd G1 G2 G3 hx HC HE0
    revert C
    unfold afA tkV;dsimp only;intro C;generalize strOfNums tx=str at *;generalize aaF st ⟨kd,str,em,bk⟩=x at *;obtain⟨st2,ev2,e2⟩:=x;dsimp only at HJ HGd HG1 HG2 HG3 hWt hLn CT;by_cases he2:e2=0
    · subst he2;have HJ:=aac (HJ.out rfl);by_cases hend:a=s.size
      · skip
        have HA2:Hid (evF (aad s)=(out++ev2,a,0)):=aac (hA.out.trans (HG2.out hend rfl));have hOv:st2.over=true:=by rw[HJ.out.2.1];exact decide_eq_true (hKd.2 (by omega))
        have HOv:=aac hOv;clear HG1 HG2 HG3 HJ HGd hA hFt hKd hend hOv;go_wp2_with fail;refine C.out.mono ?_;rintro e w1 ⟨rfl,hb1⟩;have HE2:=aac ((hE.out.after hb1).after ((Below.refl _ w1).alloc (Nat.le_refl _) (.cells #[.int .i64 kd,.string str,.bool em,.bool bk] 44)));clear hb1 hE C;go_wp2_with fail;refine(CT.out _ HE2.out).mono ?_;rintro e w2 ⟨v2,rfl,x2,⟨vw2,vo2,es2,r2⟩,x4,x5⟩;obtain⟨xs,a1,a2,a3⟩:=HE2.out.ev.frm x4;obtain⟨ys,y1,y2,y3⟩:=x2.mono HE2.out.bel.size;obtain⟨A2,c2,rfl⟩:=Nz.Sc.aai y2;obtain⟨sn,sc⟩:=afi y2;have hxl:out.length=xs.length:=(by rw[← a1,List.length_map]);have hyl:ys.length≤3:=by rw[← List.length_map (f:=(·.1)),y1];exact hLn
        have hx3:xs.length≤3000000000:=(by omega);have HB:=aac (HE2.out.bel.trans x5);have hzz:=HB.out.size;have hYl:=asr ys;have hY1:=arP y3;have HA1:=aac a1;have HA3:=aac a3;have HY1:=aac y1;have HY3:=aac y3;have HR2:=aac r2;rw[hxl] at a2 ⊢;have HXL:=aac hxl;clear x2 x4 x5 HE2 CT a1 a3 y1 y2 y3 r2 hxl;go_wp2_with (at_builtin;refine abG (w:=w2) rfl _ _ 23 rfl w.heap.size 54 i0 (.agg #[.int .i64 0,.string ⟨#[]⟩,.string ⟨#[]⟩,.slice none 0 0,.string ⟨#[]⟩]) 5 80 Tryz.underlying23 hi hz0 hz1 hz2 rfl (by decide) _ xs.length (evL xs) rfl a2 A2 ys.length c2 (evL ys) rfl sn hYl sc hY1 (by unfold maxLen;omega) (by omega) hzz ?_);intro v3 w3 n1 n2;obtain⟨A3,c3,rfl⟩:=Nz.Sc.aai n1;have HE3:=aac (axy HA1.out HY1.out a2 HA3.out HY3.out n2 n1);have HR3:=aac (HR2.out.grown a2 n2);have HB3:=aac (HB.out.grown n2 hzz (fun j hj=>(World.ownsRow.lt a2 j hj).1));have CO:=aac (alQ HR3.out);clear n1 n2 a2 sn sc hYl hY1 HA1 HA3 HY1 HY3 HR2 HB hzz;rw[HOv.out] at CO;go_wp2_with fail;refine CO.out.mono ?_;rintro e w4 ⟨rfl,rfl⟩;go_wp2;go_ret3;exact azr HA2.out ⟨_,rfl,HE3.out,HB3.out⟩
      · skip
        have hlt:a < s.size:=(by omega);have hF:=hFt hlt;have HA2:Hid (evF (aad s)=evR (aad s) (a+n) st2 (out++ev2)):=aac (hA.out.trans (HG3.out hlt rfl));have hOv:st2.over=false:=by rw[HJ.out.2.1];exact decide_eq_false hF.2.2.1
        have HJn:=aac HJ.out.1;have hgl:=aac hE.out.gl0;have HOv:=aac hOv;have hF1:=hF.1;have hF2:=hF.2.1;clear HG1 HG2 HG3 HJ hA hFt hKd hOv hF hend;go_wp2_with fail;refine C.out.mono ?_;rintro e w1 ⟨rfl,hb1⟩;have HE2:=aac ((hE.out.after hb1).after ((Below.refl _ w1).alloc (Nat.le_refl _) (.cells #[.int .i64 kd,.string str,.bool em,.bool bk] 44)));clear hb1 hE C;go_wp2_with fail;refine(CT.out _ HE2.out).mono ?_;rintro e w2 ⟨v2,rfl,x2,⟨vw2,vo2,es2,r2⟩,x4,x5⟩;obtain⟨xs,a1,a2,a3⟩:=HE2.out.ev.frm x4;obtain⟨ys,y1,y2,y3⟩:=x2.mono HE2.out.bel.size;obtain⟨A2,c2,rfl⟩:=Nz.Sc.aai y2;obtain⟨sn,sc⟩:=afi y2;have hxl:out.length=xs.length:=(by rw[← a1,List.length_map]);have hyl:ys.length≤3:=by rw[← List.length_map (f:=(·.1)),y1];exact hLn
        have hx3:xs.length≤3000000000:=(by omega);have HB:=aac (HE2.out.bel.trans x5);have hzz:=HB.out.size;have hYl:=asr ys;have hY1:=arP y3;have HA1:=aac a1;have HA3:=aac a3;have HY1:=aac y1;have HY3:=aac y3;have HR2:=aac r2;rw[hxl] at a2 ⊢;have HXL:=aac hxl;clear x2 x4 x5 HE2 CT a1 a3 y1 y2 y3 r2 hxl;go_wp2_with (at_builtin;refine abG (w:=w2) rfl _ _ 23 rfl w.heap.size 54 i0 (.agg #[.int .i64 0,.string ⟨#[]⟩,.string ⟨#[]⟩,.slice none 0 0,.string ⟨#[]⟩]) 5 80 Tryz.underlying23 hi hz0 hz1 hz2 rfl (by decide) _ xs.length (evL xs) rfl a2 A2 ys.length c2 (evL ys) rfl sn hYl sc hY1 (by unfold maxLen;omega) (by omega) hzz ?_);intro v3 w3 n1 n2;obtain⟨A3,c3,rfl⟩:=Nz.Sc.aai n1;have HE3:=aac (axy HA1.out HY1.out a2 HA3.out HY3.out n2 n1);have HR3:=aac (HR2.out.grown a2 n2);have HB3:=aac (HB.out.grown n2 hzz (fun j hj=>(World.ownsRow.lt a2 j hj).1));have CO:=aac (alQ HR3.out);clear n1 n2 a2 sn sc hYl hY1 HA1 HA3 HY1 HY3 HR2 HB hzz;rw[HOv.out] at CO;go_wp2_with fail;refine CO.out.mono ?_;rintro e w4 ⟨rfl,rfl⟩;go_wp2;go_roundw;case rel=>exact⟨a+n,st2,out++ev2,by omega,by go_num,aac ⟨⟨_,_,_,HR3.out⟩,HE3.out,HB3.out,hgl.out,HGd.out,by omega,HJn.out,by rw[List.length_append];omega⟩,HA2⟩
        case measure=>simp only[intOf];omega
    · have t2:(e2 != 0)=true:=bne_iff_ne.2 he2;have HA2:Hid (evF (aad s)=(out,a,e2)):=aac (hA.out.trans (HG1.out he2));clear HG1 HG2 HG3 HJ HGd hA hFt hKd he2;go_wp2_with fail;refine C.out.mono ?_;rintro e w1 ⟨rfl,hb1⟩;have HE2:=aac ((hE.out.after hb1).after ((Below.refl _ w1).alloc (Nat.le_refl _) (.cells #[.int .i64 kd,.string str,.bool em,.bool bk] 44)));clear hb1 hE C;go_wp2_with fail;refine(CT.out _ HE2.out).mono ?_;rintro e w2 ⟨v2,rfl,x2,x3,x4,x5⟩;obtain⟨A2,c2,rfl⟩:=x2.slc;have HV:=aac (HE2.out.ev.frm x4);have HB:=aac (HE2.out.bel.trans x5);clear x2 x3 x4 x5 HE2 CT;go_wp2;go_ret3;exact azr HA2.out ⟨_,rfl,HV.out,HB.out⟩
  · have hA2:=hA.out;rw[axL st out hal he] at hA2;obtain⟨⟨kd,tx,em,bk⟩,n,er,hx⟩:∃ y n er,nx (aad s) a=(y,n,er):=⟨_,_,_,rfl⟩;rw[hx] at C hA2 he;dsimp only at hA2 he;have t1:(er != 0)=true:=bne_iff_ne.2 he;have HA2:=aac hA2;clear hx hA2 HC HE0 hA he;go_wp2_with fail;refine C.out.mono ?_;rintro e w1 ⟨rfl,hb1⟩;unfold tkV;dsimp only;generalize strOfNums tx=str;have HE2:=aac ((hE.out.after hb1).after ((Below.refl _ w1).alloc (Nat.le_refl _) (.cells #[.int .i64 kd,.string str,.bool em,.bool bk] 44)));clear hb1 hE C;go_wp2;go_ret3;exact azr HA2.out ⟨_,rfl,HE2.out.ev,HE2.out.bel⟩
end Go.Proofs.YtiaebhomfebagaaGreatDoor.Wl
namespace Go.Proofs.YtiaebhomfebagaaGreatDoor.Ev
open Go.RowKit
def plF (s:ByteArray):Bool:=Nz.pl (Nz.bl s)
noncomputable def rtF (s:ByteArray):Bool:= @decide (Rt (aad s)) (Classical.propDecidable _)
end Go.Proofs.YtiaebhomfebagaaGreatDoor.Ev
namespace Go.Proofs.YtiaebhomfebagaaGreatDoor.Wl
open Go.RowKit
def toR:Ev→Ev.RE
 | .opn n f=>⟨1,n.1,n.2,f,Ev.emB⟩
 | .txt s=>⟨2,Ev.emB,Ev.emB,[],s⟩
 | .cls=>⟨3,Ev.emB,Ev.emB,[],Ev.emB⟩
theorem asE:Ev.emp Ev.emB=true:=by unfold Ev.emp;rw[Lib.toList_data];rfl
theorem a2Y {s:ByteArray}(h:s.size≠0):Ev.emp s=false:=by
 unfold Ev.emp;rw[Lib.toList_data];rw[Lib.size_eq] at h
 cases hl:s.data.toList with
 | nil=>rw[hl] at h;exact absurd rfl h
 | cons a b=>rfl
theorem a4y {s:ByteArray}(h:Rg s):Ev.rtF s=true:=by
 unfold Ev.rtF;exact @decide_eq_true _ (Classical.propDecidable _) h
theorem a5Z {n:Pr}(h:Nmd n):Ev.nmF Ev.plF Ev.rtF n=true:=by
 unfold Ev.nmF;have h1:Ev.plF n.2=true:=h.2.1;rw[h1,a4y h.2.2,a4y h.1.1];simp only[Bool.true_and,bne_iff_ne,ne_eq];intro e;apply h.1.2;apply Nz.Sc.toList_inj;rw[e,Lib.toList_data];rfl
theorem a1w {x y:Pr}(h:x≠y):Ev.eqn x y=false:=by
 rw[← Bool.not_eq_true];unfold Ev.eqn;rw[Bool.and_eq_true,beq_iff_eq,beq_iff_eq];rintro ⟨h1,h2⟩;exact h (Prod.ext (Nz.Sc.toList_inj h1) (Nz.Sc.toList_inj h2))
theorem a2Z:∀ (f:List Tr) (seen:List Pr),(∀ x∈f,Nmd x.1∧Rg x.2)→(seen++f.map (·.1)).Nodup→Ev.goA (Ev.nmF Ev.plF Ev.rtF) Ev.rtF seen f=true
 | [],_,_,_=>rfl
 | x :: f,seen,h,hd=>by
   have hx:=h x List.mem_cons_self;unfold Ev.goA;rw[a5Z hx.1,a4y hx.2,a2Z f (seen++[x.1]) (fun y hy=>h y (List.mem_cons_of_mem _ hy)) (by rw[List.append_assoc];exact hd)];simp only[Bool.true_and,Bool.and_true,Bool.not_eq_true',List.any_eq_false,Bool.not_eq_true];intro y hy;refine a1w fun e=> ?_;rw[List.nodup_append] at hd;exact hd.2.2 y hy x.1 (by simp) e
theorem a0z {e:Ev}(h:EvG e):Ev.aao Ev.plF Ev.rtF (toR e)=true:=by
 unfold Ev.aao
 cases e with
 | opn n f=>
   obtain⟨h1,h2,h3⟩:=h;show (if (1:Int)=2 then _ else _)=true;rw[if_neg (by decide)];show (if (1:Int)=3 then _ else _)=true;rw[if_neg (by decide),if_neg]
   · exact a2Z f [] h2.1 h2.2
   · rintro (g | g | g | g)
     · exact g rfl
     · rw[show Ev.emp (toR (.opn n f)).tx=true from asE] at g;cases g
     · rw[show Ev.nmF Ev.plF Ev.rtF ((toR (.opn n f)).sp,(toR (.opn n f)).lo)=true from a5Z h1] at g;cases g
     · have g:32 < f.length:=g;omega
 | txt s=>
   show (if (2:Int)=2 then _ else _)=true;rw[if_pos rfl];show (Ev.emp Ev.emB && Ev.emp Ev.emB && true && !Ev.emp s && Ev.rtF s)=true;rw[asE,a2Y h.2,a4y h.1];rfl
 | cls=>
   show (if (3:Int)=2 then _ else _)=true;rw[if_neg (by decide)];show (if (3:Int)=3 then _ else _)=true;rw[if_pos rfl];show (Ev.emp Ev.emB && Ev.emp Ev.emB && true && Ev.emp Ev.emB)=true;rw[asE];rfl
theorem acL (R:Ev.RE→Bool)(x:Ev.RE)(r:List Ev.RE)(z:Bool)(pk n m:Int)(hR:R x=true)(hz:(n == 0)=z)(h1:z=true→x.kind=1)(h2:¬ (x.kind=2∧pk=2))(hm:m=if x.kind=1 then n+1 else if x.kind=3 then n - 1 else n)(hl:m≤64):
 Ev.ady R z pk n (x :: r)=Ev.ady R false x.kind m r:=by
 rw[Ev.ady,if_neg,if_neg h2]
 · dsimp only;rw[← hm,if_neg (by omega)]
 · rintro (g | g | g)
   · rw[hR] at g;cases g
   · exact g hz
   · exact g.2 (h1 g.1)
theorem awt:∀ (l:List Ev) (d:Nat) (z p:Bool) (pk:Int) (n:Nat) (z' p':Bool),(∀ e∈l,EvG e)→(z=true→d=0)→(pk=2→p=true)→d≤64→
 l.foldl stepW (some (d,z,p))=some (n,z',p')→Ev.ady (Ev.aao Ev.plF Ev.rtF) z pk d (l.map toR)=n
 | [],d,z,p,pk,n,z',p',_,_,_,_,h=>by
   have h:some (d,z,p)=some (n,z',p'):=h;injection h with h
   injection h with h _
   rw[h];rfl
 | e :: l,d,z,p,pk,n,z',p',hg,hz,hp,hd,h=>by
   have he:=a0z (hg e List.mem_cons_self);have hg':∀ x∈l,EvG x:=fun x hx=>hg x (List.mem_cons_of_mem _ hx);rw[List.foldl_cons] at h;rw[List.map_cons]
   cases e with
   | opn nm f=>
     by_cases c1:d=0∧z=false
     · rw[show stepW (some (d,z,p)) (.opn nm f)=none by unfold stepW;exact if_pos c1,afd] at h;cases h
     by_cases c2:64≤d
     · rw[show stepW (some (d,z,p)) (.opn nm f)=none by unfold stepW;dsimp only;rw[if_neg c1,if_pos c2],afd] at h;cases h
     rw[show stepW (some (d,z,p)) (.opn nm f)=some (d+1,false,false) by unfold stepW;dsimp only;rw[if_neg c1,if_neg c2]] at h;rw[acL _ _ _ z pk d ((d+1:Nat):Int) he ?_ (fun _=>rfl) (fun g=>absurd g.1 (by show ¬ ((1:Int)=2);decide)) (by show _=if (1:Int)=1 then _ else _;rw[if_pos rfl];omega) (by omega)]
     · exact awt l (d+1) false false _ n z' p' hg' (fun e=>by cases e) (fun e=>absurd e (by show ¬ ((1:Int)=2);decide)) (by omega) h
     · by_cases c3:d=0
       · have:z=true:=by cases z with
          | true=>rfl
          | false=>exact absurd ⟨c3,rfl⟩ c1
         rw[this,c3];rfl
       · cases z with
         | true=>exact absurd (hz rfl) c3
         | false=>rw[beq_eq_false_iff_ne];omega
   | txt s=>
     by_cases c1:d=0
     · rw[show stepW (some (d,z,p)) (.txt s)=none by unfold stepW;exact if_pos c1,afd] at h;cases h
     by_cases c2:s.size=0∨p=true
     · rw[show stepW (some (d,z,p)) (.txt s)=none by unfold stepW;dsimp only;rw[if_neg c1,if_pos c2],afd] at h;cases h
     rw[show stepW (some (d,z,p)) (.txt s)=some (d,false,true) by unfold stepW;dsimp only;rw[if_neg c1,if_neg c2]] at h
     have hzf:z=false:=by cases z with
      | true=>exact absurd (hz rfl) c1
      | false=>rfl
     rw[acL _ _ _ z pk d (d:Int) he (by rw[hzf,beq_eq_false_iff_ne];omega) (fun e=>by rw[hzf] at e;cases e) (fun g=>c2 (.inr (hp g.2))) (by show _=if (2:Int)=1 then _ else if (2:Int)=3 then _ else _;rw[if_neg (by decide),if_neg (by decide)]) (by omega)];exact awt l d false true _ n z' p' hg' (fun e=>by cases e) (fun _=>rfl) hd h
   | cls=>
     by_cases c1:d=0
     · rw[show stepW (some (d,z,p)) .cls=none by unfold stepW;exact if_pos c1,afd] at h;cases h
     rw[show stepW (some (d,z,p)) .cls=some (d - 1,false,false) by unfold stepW;dsimp only;rw[if_neg c1]] at h
     have hzf:z=false:=by cases z with
      | true=>exact absurd (hz rfl) c1
      | false=>rfl
     rw[acL _ _ _ z pk d ((d - 1:Nat):Int) he (by rw[hzf,beq_eq_false_iff_ne];omega) (fun e=>by rw[hzf] at e;cases e) (fun g=>absurd g.1 (by show ¬ ((3:Int)=2);decide)) (by show _=if (3:Int)=1 then _ else if (3:Int)=3 then _ else _;rw[if_neg (by decide),if_pos rfl];omega) (by omega)];exact awt l (d - 1) false false _ n z' p' hg' (fun e=>by cases e) (fun e=>absurd e (by show ¬ ((3:Int)=2);decide)) (by omega) h
theorem azy (L:List Int)(hb:By L):0≤Ev.aha Ev.plF Ev.rtF ((evF L).1.map toR)∧((evF L).2.2=0→Ev.aha Ev.plF Ev.rtF ((evF L).1.map toR)=0∧(evF L).1≠[]):=by
 obtain⟨n,z,p,h,h0⟩:=atu L;have hd:Ev.aha Ev.plF Ev.rtF ((evF L).1.map toR)=n:=awt _ 0 true false 0 n z p (a3y L hb) (fun _=>rfl) (fun e=>absurd e (by decide)) (by decide) h;refine⟨by omega,fun he=> ?_⟩;obtain⟨rfl,rfl⟩:=h0 he;refine⟨hd,fun e=> ?_⟩;rw[e] at h;have h:some (0,true,false)=some (0,false,p):=h;injection h with h
 injection h with _ h
 injection h with h
 cases h
end Go.Proofs.YtiaebhomfebagaaGreatDoor.Wl
namespace Go.Proofs.YtiaebhomfebagaaGreatDoor.Ev
open Go.RowKit
def anQ (k0:Bool)(p m kd:Int):Bool:=if k0=true then kd == 1 else if kd=1 then decide (0 < m) && decide (m < 64) else if kd=2 then decide (0 < m) && (p != 2) else decide (0 < m)
theorem akr (A:Option Addr)(k c:Nat)(p m:Int)(Aa:Option Addr)(na ca:Nat)(kind:Int)(sp lo tx:ByteArray)(w:World)(hk:k≤100000)
 (hp:0 < k→∃ b off,A=some ⟨b,off,none⟩∧b < w.heap.size∧w.cell? ⟨b,off+(k - 1) * 5,none⟩=some (.int .i64 p)):
 Calls Tryz.prog 36 #[.slice A k c,.int .i64 m,.agg #[.int .i64 kind,.string sp,.string lo,.slice Aa na ca,.string tx]] w fun e w'=>e=.returned (.bool (anQ (decide (k=0)) p m kind))∧Below w.heap.size w w':=by
 have HB0:=aac ((Below.refl w.heap.size w).alloc (Nat.le_refl _) (.cells #[.int .i64 kind,.string sp,.string lo,.slice Aa na ca,.string tx] 54));obtain⟨F,hF⟩:∃ F,F=anQ (decide (k=0)) p m kind:=⟨_,rfl⟩;rw[← hF];have HF:=aac hF;clear hF;by_cases h0:k=0
 · have HE:Hid (F=(kind == 1)):=aac (by rw[HF.out];unfold anQ;rw[decide_eq_true h0,if_pos rfl]);subst h0;clear HF hp;go_enter Tryz.func36,Tryz.ntmps36;go_wp2;go_ret;exact⟨by rw[HE.out] <;> rfl,HB0.out⟩
 have z0:((k:Int) == 0)=false:=by rw[beq_eq_false_iff_ne];omega
 have HF2:Hid (F=if kind=1 then decide (0 < m) && decide (m < 64) else if kind=2 then decide (0 < m) && (p != 2) else decide (0 < m)):=aac (by rw[HF.out];unfold anQ;rw[decide_eq_false h0,if_neg (by decide)]);clear HF;obtain⟨b,off,rfl,hb,hcp⟩:=hp (by omega);obtain⟨kp,rfl⟩:∃ kp,k=kp+1:=⟨k - 1,by omega⟩;have hcp2:(w.alloc (.cells #[.int .i64 kind,.string sp,.string lo,.slice Aa na ca,.string tx] 54)).cell? ⟨b,off+kp * 5,none⟩=some (.int .i64 p):=by rw[World.cell?_alloc_lt _ _ _ (by exact hb)];exact hcp
 clear hcp hb h0;have g0:(0:Int)≤(kp:Int):=(by omega);have g1:(kp:Int) < ((kp+1:Nat):Int):=(by omega);by_cases k1:kind=1
 · have HE:Hid (F=(decide (0 < m) && decide (m < 64))):=aac (by rw[HF2.out,if_pos k1]);subst k1;clear HF2 hcp2;by_cases m0:0 < m
   · have m0':decide (0 < m)=true:=decide_eq_true m0;have HE2:Hid (F=decide (m < 64)):=aac (by rw[HE.out,m0'];rfl);clear HE;go_enter Tryz.func36,Tryz.ntmps36;go_wp2;go_ret;exact⟨by rw[HE2.out] <;> rfl,HB0.out⟩
   · have m0':decide (0 < m)=false:=decide_eq_false m0;have HE2:Hid (F=false):=aac (by rw[HE.out,m0'];rfl);clear HE;go_enter Tryz.func36,Tryz.ntmps36;go_wp2;go_ret;exact⟨by rw[HE2.out] <;> rfl,HB0.out⟩
 have e1:(kind == 1)=false:=(by simpa using k1);by_cases k2:kind=2
 · have HE:Hid (F=(decide (0 < m) && (p != 2))):=aac (by rw[HF2.out,if_neg k1,if_pos k2]);subst k2;clear HF2 k1 e1;by_cases m0:0 < m
   · have m0':decide (0 < m)=true:=decide_eq_true m0;have HE2:Hid (F=(p != 2)):=aac (by rw[HE.out,m0'];rfl);clear HE;go_enter Tryz.func36,Tryz.ntmps36;go_wp2;go_ret;exact⟨by rw[HE2.out] <;> rfl,HB0.out⟩
   · have m0':decide (0 < m)=false:=decide_eq_false m0;have HE2:Hid (F=false):=aac (by rw[HE.out,m0'];rfl);clear HE;go_enter Tryz.func36,Tryz.ntmps36;go_wp2;go_ret;exact⟨by rw[HE2.out] <;> rfl,HB0.out⟩
 have e2:(kind == 2)=false:=(by simpa using k2);have HE:Hid (F=decide (0 < m)):=aac (by rw[HF2.out,if_neg k1,if_neg k2]);clear HF2 k1 k2 hcp2;go_enter Tryz.func36,Tryz.ntmps36;go_wp2;go_ret;exact⟨by rw[HE.out] <;> rfl,HB0.out⟩
end Go.Proofs.YtiaebhomfebagaaGreatDoor.Ev
