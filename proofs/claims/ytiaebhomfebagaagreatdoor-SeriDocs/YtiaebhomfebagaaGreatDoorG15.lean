/- Lemmas of the claim. -/
import Derived.Test.YtiaebhomfebagaaGreatDoorG13
import Derived.Test.YtiaebhomfebagaaGreatDoorG14
import Derived.WideKeyEntry
import Derived.DeepKeys4
set_option maxHeartbeats 4000000
set_option maxRecDepth 100000
set_option linter.unusedSimpArgs false
set_option linter.unusedVariables false
namespace Go.Proofs.YtiaebhomfebagaaGreatDoor.Nz.Sc
open Go.RowKit Go.ChangeMaps
theorem Tryz.laidOut:laidOutB Tryz.prog=true:=by kernel_rfl
theorem Tryz.azD:(28:TypeId) < Tryz.prog.types.size:=of_decide_eq_true (by kernel_rfl)
theorem Tryz.a2F:(match Tryz.prog.underlying 28 with | some (.array _ _) | some (.struct _)=>true | _=>false)=true:=by rw[Tryz.underlying28]
theorem ajE:WideMaps.KeyLaw Tryz.prog 28:=deep_law_laid Tryz.laidOut (m:=2) (by omega) Tryz.azD (by kernel_rfl) Tryz.a2F
theorem Tryz.cells28:Tryz.prog.cellsOf 28=2:=by kernel_rfl
theorem Tryz.cells9:Tryz.prog.cellsOf 9=1:=by kernel_rfl
theorem Tryz.agw:Tryz.prog.keyType 28=true:=by kernel_rfl
theorem Tryz.ayj:Tryz.prog.types.size+1=283+1+1:=by kernel_rfl
def kv (n:P2):Value:=.agg #[.string n.1,.string n.2]
theorem aeI (d:Nat)(s:ByteArray)(h:s.size≤maxLen):Tryz.prog.keyLits (d+1) 9 [.string s]=some [.string s.data.toList]:=by
 unfold Program.keyLits;rw[Tryz.underlying9];simp only[h,if_true]
theorem aek (P:Program)(d:Nat)(t:TypeId)(fs:Array Field)(cs:List Value)(h:P.underlying t=some (.struct fs))(hl:cs.length=P.cellsOf t)(hn:fs.all (·.name != "_")=true):
 P.keyLits (d+1) t cs=(fs.toList.mapM fun f=>P.keyLits d f.type ((cs.drop f.offset).take (P.cellsOf f.type))).map List.flatten:=by
 conv=>lhs;unfold Program.keyLits
 rw[h];simp only[hl,hn,and_self,if_true]
theorem agm (d:Nat)(a b:ByteArray)(g1:a.size≤maxLen)(g2:b.size≤maxLen):Tryz.prog.keyLits (d+1+1) 28 [.string a,.string b]=some [.string a.data.toList,.string b.data.toList]:=by
 have e1:=aeI d a g1;have e2:=aeI d b g2;rw[aek Tryz.prog (d+1) 28 _ _ Tryz.underlying28 (by rw[Tryz.cells28];rfl) (by simp)];generalize hq:Tryz.prog.keyLits (d+1)=q at *;simp[Tryz.cells28,Tryz.cells9,e1,e2]
theorem aeG (n:P2)(h1:n.1.size≤Lim)(h2:n.2.size≤Lim):∃ kl,keyOf Tryz.prog 28 (kv n)=some kl:=by
 have g1:n.1.size≤maxLen:=Nat.le_trans h1 (by unfold Lim maxLen;omega);have g2:n.2.size≤maxLen:=Nat.le_trans h2 (by unfold Lim maxLen;omega);have hf:(kv n).formed Tryz.prog 28=true:=(by simp[Value.formed,kv,Tryz.underlying28,Tryz.cells28]);obtain⟨d,hd⟩:∃ d,Tryz.prog.types.size+1=d+1+1:=⟨_,Tryz.ayj⟩;have hl:=agm d n.1 n.2 g1 g2;rw[← hd] at hl;have hc:(kv n).cells.toList=[.string n.1,.string n.2]:=rfl;refine⟨.string (keyBytes [.string n.1.data.toList,.string n.2.data.toList]),?_⟩;unfold keyOf;rw[Tryz.underlying28];show (if (Tryz.prog.keyType 28 && (kv n).formed Tryz.prog 28)=true then _ else _)=_;rw[Tryz.agw,hf,Bool.and_self,if_pos rfl,hc,hl];rfl
theorem asZ {a b:P2}(h:kv a=kv b):a=b:=by
 unfold kv at h;injection h with h
 have:=congrArg Array.toList h;simp at this;exact Prod.ext this.1 this.2
def aaL (w:World)(b:Nat)(l:List P2):Prop:=
 (∀ n∈l,n.1.size≤Lim∧n.2.size≤Lim)∧∃ es clock,w.heap[b]?=some (.map es clock)∧es.toList.map (·.key)=l.map kv∧(∀ e∈es.toList,e.val=.int .i64 1)∧(∀ e∈es.toList,e.born < clock)
theorem aia (w:World):aaL (w.alloc (.map #[] 0)) w.heap.size []:=
 ⟨fun n hn=>by simp at hn,#[],0,heap_alloc_new w _,rfl,fun e he=>by simp at he,fun e he=>by simp at he⟩
theorem aaL.lt {w:World}{b:Nat}{l:List P2}(h:aaL w b l):b < w.heap.size:=by
 obtain⟨_,es,clock,h,_⟩:=h;exact(Array.getElem?_eq_some_iff.1 h).1
theorem aaL.keep {w w':World}{b:Nat}{l:List P2}(h:aaL w b l)(hb:Below w.heap.size w w'):aaL w' b l:=by
 have hlt:=h.lt;obtain⟨h1,es,clock,h2,h3⟩:=h;exact⟨h1,es,clock,(hb.block b hlt).trans h2,h3⟩
theorem aaL.ajL {w w':World}{b:Nat}{l:List P2}{row:Option Nat}(h:aaL w b l)(hb:w.grownBy w' row)(hne:some b≠row):aaL w' b l:=by
 have hlt:=h.lt;obtain⟨h1,es,clock,h2,h3⟩:=h;exact⟨h1,es,clock,(hb.block b hlt hne).trans h2,h3⟩
theorem aaL.ne {w:World}{b:Nat}{l:List P2}(h:aaL w b l){B:Nat}{e:TypeId}{z n:Nat}{v:Value}{xs:List Value}(ho:w.ownsRow B e z v n xs):some b≠v.ownBlock:=by
 obtain⟨_,es,clock,h2,_⟩:=h;rcases ho.2 with ⟨rfl,_⟩ | ⟨g,cap,cur,rfl,_,hg,_⟩
 · simp[Value.ownBlock]
 · intro hh;simp only[Value.ownBlock,Option.some.injEq] at hh;subst hh;rw[hg] at h2;cases h2
theorem aaA (w:World)(b:Nat)(o:Obj):w.grownBy (setBlock w b o) (some b):=
 ⟨rfl,rfl,rfl,by simp[setBlock],fun k hk hne=>by
  have:k≠b:=fun e=>hne (by rw[e]);simp[setBlock,Array.getElem?_setIfInBounds,Ne.symm this]⟩
theorem anN (w:World):(zeroValue 3).run Tryz.prog w=.ok (.int .i64 0) w:=by kernel_rfl
theorem aed {es:Array MapEntry}{l:List P2}(h:es.toList.map (·.key)=l.map kv){n:P2}:(∃ e∈es.toList,e.key=kv n)↔n∈l:=by
 constructor
 · rintro ⟨e,he,hk⟩;have:kv n∈l.map kv:=by rw[← h,← hk];exact List.mem_map_of_mem he
   obtain⟨m,hm,hh⟩:=List.mem_map.1 this;rw[← asZ hh];exact hm
 · intro hn;have:kv n∈es.toList.map (·.key):=by rw[h];exact List.mem_map_of_mem hn
   obtain⟨e,he,hh⟩:=List.mem_map.1 this;exact⟨e,he,hh⟩
theorem adf {es:Array MapEntry}{l:List P2}(h:es.toList.map (·.key)=l.map kv)(hl:∀ n∈l,n.1.size≤Lim∧n.2.size≤Lim):∀ e∈es.toList,∃ kl,keyOf Tryz.prog 28 e.key=some kl:=fun e he=>by
 have:e.key∈l.map kv:=by rw[← h];exact List.mem_map_of_mem he
 obtain⟨m,hm,hh⟩:=List.mem_map.1 this;rw[← hh];exact aeG m (hl m hm).1 (hl m hm).2
theorem aiD {w:World}{b:Nat}{l:List P2}(h:aaL w b l){n:P2}(hn:n∈l):(Instr.lookup 80 (.map (some b)) (.agg #[.string n.1,.string n.2]) false).run Tryz.prog w=.ok (.int .i64 1) w:=by
 obtain⟨hl,es,clock,hb,hk,hv,_⟩:=h;obtain⟨kl,hkl⟩:=aeG n (hl n hn).1 (hl n hn).2;show (Instr.lookup 80 (.map (some b)) (kv n) false).run Tryz.prog w=_;rcases ajE.find w hkl es.toList (adf hk hl) with ⟨_,h2⟩ | ⟨j,e0,h1,h2,h3⟩
 · obtain⟨e,he,hh⟩:=(aed hk).2 hn;exact absurd hh (h2 e he)
 · have:=hv e0 (List.mem_of_getElem? h2);simp[Instr.lookup,run_underlying Tryz.underlying80,MapKept.run_getObj_map hb,ajE.check w _ hkl,h1,this,Result.andThen]
theorem akx {w:World}{b:Nat}{l:List P2}(h:aaL w b l){n:P2}(hn:¬ n∈l)(z1:n.1.size≤Lim)(z2:n.2.size≤Lim):(Instr.lookup 80 (.map (some b)) (.agg #[.string n.1,.string n.2]) false).run Tryz.prog w=.ok (.int .i64 0) w:=by
 obtain⟨hl,es,clock,hb,hk,hv,_⟩:=h;obtain⟨kl,hkl⟩:=aeG n z1 z2;show (Instr.lookup 80 (.map (some b)) (kv n) false).run Tryz.prog w=_;rcases ajE.find w hkl es.toList (adf hk hl) with ⟨h1,h2⟩ | ⟨j,e0,h1,h2,h3⟩
 · simp[Instr.lookup,run_underlying Tryz.underlying80,MapKept.run_getObj_map hb,ajE.check w _ hkl,h1,anN,Result.andThen]
 · exact absurd ((aed hk).1 ⟨e0,List.mem_of_getElem? h2,h3⟩) hn
theorem ahI {w:World}{b:Nat}{l:List P2}(h:aaL w b l){n:P2}(hn:¬ n∈l)(z1:n.1.size≤Lim)(z2:n.2.size≤Lim):
 ∃ (st:Nat) (W1 W2:World),(Instr.mapEntry 80 (.map (some b)) (.agg #[.string n.1,.string n.2])).run Tryz.prog w=.ok (.tuple #[.int .i64 0,.int .i64 (st:Int)]) W1∧
   (Instr.lookup 80 (.map (some b)) (.agg #[.string n.1,.string n.2]) false).run Tryz.prog W1=.ok (.int .i64 0) W1∧
   (Instr.entryStore 80 (.map (some b)) (.int .i64 (st:Int)) (.int .i64 1)).run Tryz.prog W1=.ok () W2∧aaL W2 b (l++[n])∧w.grownBy W1 (some b)∧w.grownBy W2 (some b):=by
 obtain⟨hl,es,clock,hb,hk,hv,hbo⟩:=h;obtain⟨kl,hkl⟩:=aeG n z1 z2;have hn2:∀ e∈es.toList,e.key≠kv n:=fun e he hh=>hn ((aed hk).1 ⟨e,he,hh⟩)
 have h1:(Instr.findKey 28 (kv n) es.toList).run Tryz.prog w=.ok none w:=by
  rcases ajE.find w hkl es.toList (adf hk hl) with ⟨h1,_⟩ | ⟨j,e0,_,h2,h3⟩
  · exact h1
  · exact absurd h3 (hn2 e0 (List.mem_of_getElem? h2))
 have hb1:(setBlock w b (.map (es.push ⟨kv n,.int .i64 0,clock⟩) (clock+1))).heap[b]?=some (.map (es.push ⟨kv n,.int .i64 0,clock⟩) (clock+1)):=heap_setBlock_same hb _;have hk1:(es.push ⟨kv n,.int .i64 0,clock⟩).toList.map (·.key)=(l++[n]).map kv:=by simp[hk]
 have hl1:∀ m∈l++[n],m.1.size≤Lim∧m.2.size≤Lim:=fun m hm=>by
  rcases List.mem_append.1 hm with hm | hm
  · exact hl m hm
  · rw[List.mem_singleton] at hm;subst hm;exact⟨z1,z2⟩
 refine⟨clock,setBlock w b (.map (es.push ⟨kv n,.int .i64 0,clock⟩) (clock+1)),setBlock (setBlock w b (.map (es.push ⟨kv n,.int .i64 0,clock⟩) (clock+1))) b (.map (es.push ⟨kv n,.int .i64 1,clock⟩) (clock+1)),?_,?_,?_,⟨hl1,es.push ⟨kv n,.int .i64 1,clock⟩,clock+1,heap_setBlock_same hb1 _,by simp[hk],?_,?_⟩,aaA _ _ _,?_⟩
 · show (Instr.mapEntry 80 (.map (some b)) (kv n)).run Tryz.prog w=_;simp[Instr.mapEntry,run_underlying Tryz.underlying80,MapKept.run_getObj_map hb,ajE.check w false hkl,h1,anN,MapKept.run_setObj_map _ hb,Result.andThen,setBlock,goInt]
 · show (Instr.lookup 80 (.map (some b)) (kv n) false).run Tryz.prog _=_;rcases ajE.find (setBlock w b (.map (es.push ⟨kv n,.int .i64 0,clock⟩) (clock+1))) hkl (es.push ⟨kv n,.int .i64 0,clock⟩).toList (adf hk1 hl1) with ⟨_,h2⟩ | ⟨j,e0,g1,g2,g3⟩
   · exact absurd rfl (h2 ⟨kv n,.int .i64 0,clock⟩ (by simp))
   · have:e0.val=.int .i64 0:=by
      have hm:=List.mem_of_getElem? g2;rw[Array.toList_push,List.mem_append,List.mem_singleton] at hm;rcases hm with hm | hm
      · exact absurd g3 (hn2 e0 hm)
      · rw[hm]
     rw[this,Array.toList_push] at g1;simp[Instr.lookup,run_underlying Tryz.underlying80,MapKept.run_getObj_map hb1,ajE.check _ _ hkl,g1,Result.andThen]
 · have hidx:(es.push ⟨kv n,.int .i64 0,clock⟩).findIdx? (fun e=>((e.born:Nat):Int) == ((clock:Nat):Int))=some es.size:=by
    rw[WideElems.findIdx_arr,Array.toList_push,List.findIdx?_append]
    have e1:es.toList.findIdx? (fun e=>((e.born:Nat):Int) == ((clock:Nat):Int))=none:=by
     rw[List.findIdx?_eq_none_iff];intro e he;have:=hbo e he;rw[beq_eq_false_iff_ne];omega
    rw[e1];simp
   have hmod:(es.push ⟨kv n,.int .i64 0,clock⟩).modify es.size (fun e=>{ e with val:=.int .i64 1 })=es.push ⟨kv n,.int .i64 1,clock⟩:=by
    apply Array.ext';rw[Array.toList_modify,Array.toList_push,Array.toList_push,← Array.length_toList,WideElems.modify_last]
   simp[Instr.entryStore,MapKept.run_getObj_map hb1,asInt,asIntOf,hidx,hmod,MapKept.run_setObj_map _ hb1,Result.andThen];rfl
 · intro e he;rw[Array.toList_push,List.mem_append,List.mem_singleton] at he;rcases he with he | he
   · exact hv e he
   · rw[he]
 · intro e he;rw[Array.toList_push,List.mem_append,List.mem_singleton] at he;rcases he with he | he
   · have:=hbo e he;omega
   · rw[he];exact Nat.lt_succ_self _
 · have g1:=aaA w b (.map (es.push ⟨kv n,.int .i64 0,clock⟩) (clock+1));have g2:=aaA (setBlock w b (.map (es.push ⟨kv n,.int .i64 0,clock⟩) (clock+1))) b (.map (es.push ⟨kv n,.int .i64 1,clock⟩) (clock+1));exact⟨g2.os.trans g1.os,g2.tape.trans g1.tape,g2.output.trans g1.output,Nat.le_trans g1.size g2.size,fun i hi hne=>(g2.block i (Nat.lt_of_lt_of_le hi g1.size) hne).trans (g1.block i hi hne)⟩
end Go.Proofs.YtiaebhomfebagaaGreatDoor.Nz.Sc
namespace Go.Proofs.YtiaebhomfebagaaGreatDoor.Nz.Sc
open Go.RowKit
def AtC (A:Option Addr)(N cap:Nat)(s:ByteArray)(v:Value)(w:World):Prop:=∀ W,Below w.heap.size w W→Calls Tryz.prog 106 #[.slice A N cap,.string s] W fun e w'=>e=.returned v∧Below W.heap.size W w'
def aeb (w:World)(o:Except Int (List P3))(e:Ending)(w':World):Prop:=
 (∀ c,o=.error c→e=.returned (.tuple #[.slice none 0 0,.int .i64 c]))∧(∀ f,o=.ok f→∃ v,e=.returned (.tuple #[v,.int .i64 0])∧apz w' w.heap.size v f)∧Below w.heap.size w w'
def AtRel (L R:List P2)(M:Nat)(w:World)(v i:Value)(wr:World):Prop:=
 ∃ (k m:Nat) (f:List P3),i=.int .i64 k∧k≤M∧m≤k∧Hid (m=f.length)∧Hid (wr.ownsRow w.heap.size 40 3 v m (tL f))∧Hid (aaL wr w.heap.size (f.map (·.1)))∧Hid (Below w.heap.size w wr)∧Hid (adl L [] R=adl L f (R.drop k))
theorem avP {L R:List P2}{f:List P3}{k:Nat}{x:P2}{p:ByteArray}(h:R[k]?=some x)(hb:aeR x.1=some p):adl L f (R.drop k)=adl L f (R.drop (k+1)):=by
 rw[drop_cons h,adl,hb]
theorem awH {L R:List P2}{f:List P3}{k:Nat}{x:P2}(h:R[k]?=some x)(hb:aeR x.1=none)(hn:ano L x.1=none):adl L f (R.drop k)=.error 9:=by
 rw[drop_cons h,adl,hb];dsimp only;rw[hn]
theorem apP {L R:List P2}{f:List P3}{k:Nat}{x n:P2}(h:R[k]?=some x)(hb:aeR x.1=none)(hn:ano L x.1=some n)(hh:adK n f=true):adl L f (R.drop k)=.error 8:=by
 rw[drop_cons h,adl,hb];dsimp only;rw[hn];dsimp only;rw[if_pos hh]
theorem ana {L R:List P2}{f:List P3}{k:Nat}{x n:P2}(h:R[k]?=some x)(hb:aeR x.1=none)(hn:ano L x.1=some n)(hh:adK n f=false):adl L f (R.drop k)=adl L (f++[(n,x.2)]) (R.drop (k+1)):=by
 rw[drop_cons h,adl,hb];dsimp only;rw[hn];dsimp only;rw[if_neg (by rw[hh];simp)]
theorem avm {L:List P2}{p l:ByteArray}{n:P2}(hl:aeA L)(hz:l.size≤Lim)(h:aoi L p l=some n):n.1.size≤Lim∧n.2.size≤Lim:=by
 unfold aoi at h;split at h
 · cases h
 · injection h with h
   rw[← h];exact⟨atH hl p,hz⟩
theorem aup {L:List P2}{s:ByteArray}{n:P2}(hl:aeA L)(hz:s.size≤Lim)(h:ano L s=some n):n.1.size≤Lim∧n.2.size≤Lim:=by
 have h2:(aak s).2.1.size≤Lim:=Nat.le_trans (abH s).2 hz;unfold ano at h;split at h
 · cases h
 · split at h
   · injection h with h
     rw[← h];exact⟨by rw[aeh];exact Nat.zero_le _,h2⟩
   · exact avm hl h2 h
theorem auL (a b c:ByteArray):∀ u∈[Value.string a,Value.string b,Value.string c],u.oneCell'=true:=a5q ((a,b),c)
theorem apT (A A2:Option Addr)(N M cap cap2:Nat)(L R:List P2)(w:World)(hN:N=L.length)(hM:M=R.length)(hN1:N≤1000000000000)(hM1:M≤2000000000)(hlim:aeA L)(hlimR:aeA R)(hsz:∀ x∈R,x.1.size≤2000000000)(hR:RdR w A L)(hR2:RdR w A2 R):
 Calls Tryz.prog 77 #[.slice A N cap,.slice A2 M cap2] w (aeb w (adl L [] R)):=by
 obtain⟨i0,hi,hz0,hz1,hz2⟩:=info_parts Tryz.info40;have HT:=aac (fun (s:ByteArray) (hs:s.size≤2000000000) (W:World) (hW:Below w.heap.size w W)=>a0O A N cap s L W hN hlim hN1 (hR.keep hW) hs);have HM:=aac hM;have HL:=aac hlim;have HLR:=aac hlimR;have HS:=aac hsz;have HR2:=aac hR2;have hmm:= @run_makeMap Tryz.prog;clear hN hM hlim hlimR hsz hR hR2;go_enter Tryz.func77,Tryz.ntmps77;go_wp2_with fail;go_loopw [6,17] (fun v i wr=>AtRel L R M w v i wr) (fun _ i _=>M - (intOf i).toNat);case atStart=>exact⟨0,0,[],rfl,Nat.zero_le _,Nat.le_refl _,aac rfl,aac ⟨by simp[tL],.inl ⟨rfl,rfl⟩⟩,aac (aia w),aac ((Below.refl _ w).alloc (Nat.le_refl _) _),aac rfl⟩
 case round=>
  clear hmm;obtain⟨k,m,f,rfl,hk,hm,HF,hO,hM0,hB,HI⟩:=hrel;obtain⟨A1,c1,rfl⟩:=aai hO.out;by_cases hlt:k < M
  · have hkl:k < R.length:=by rw[← HM.out];exact hlt
    have hx:=List.getElem?_eq_getElem hkl;obtain⟨b1,o1,rfl,hb1,x0,x1⟩:=(HR2.out.keep hB.out) k _ hx;have hz:=HLR.out _ (List.getElem_mem hkl);have hs:=HS.out _ (List.getElem_mem hkl);have HX:=aac hx;have d1:(k:Int) < (M:Int):=(by omega);have d0:(0:Int)≤(k:Int):=(by omega);clear hx;generalize R[k]=t at *;obtain⟨an,av⟩:=t;dsimp only at x0 x1 hz hs
    cases hbn:aeR an with
    | some p=>
      have CB:=aac (amy hs hbn);have HE:=aac (avP (L:=L) (f:=f) HX.out hbn);clear hbn hz hs;go_wp2_with (go_at_call 102;refine(CB.out _).mono ?_;rintro e w1 ⟨rfl,hb⟩);go_roundw;case rel=>exact⟨k+1,m,f,by go_num,by omega,by omega,HF,aac (aaj (hO.out.alloc _) hb),aac ((hM0.out.keep ((Below.refl _ wr).alloc (Nat.le_refl _) _)).keep hb),aac ((hB.out.alloc hB.out.size _).trans (hb.mono (Nat.le_trans hB.out.size (by simp)))),aac (HI.out.trans HE.out)⟩
      case measure=>simp only[intOf];omega
    | none=>
      have CB:=aac (anq hs hbn)
      cases hat:ano L an with
      | none=>
        have CT:Hid (AtC A N cap an (.tuple #[.agg #[.string ⟨#[]⟩,.string ⟨#[]⟩],.int .i64 9]) w):=aac (fun W hW=>(HT.out an hs W hW).mono fun e w' ⟨h1,h2⟩=>⟨by rw[h1,hat];rfl,h2⟩);have HE:=aac (awH (f:=f) HX.out hbn hat);clear hbn hz hs hat
        go_wp2_with (first
         | (go_at_call 102;refine(CB.out _).mono ?_;rintro e w1 ⟨rfl,hb⟩;have hB1:=aac ((hB.out.alloc hB.out.size _).trans (hb.mono (Nat.le_trans hB.out.size (by simp))));have q0:w1.cell? ⟨wr.heap.size,0,none⟩=some (.string an):=(hb.cell (p:=⟨wr.heap.size,0,none⟩) (by simp)).trans (by simp))
         | (go_at_call 106;refine(CT.out _ hB1.out).mono ?_;rintro e w2 ⟨rfl,hb2⟩;have hB2:=aac (hB1.out.trans (hb2.mono hB1.out.size))))
        go_ret2;refine⟨fun c hc=> ?_,fun f' hf'=> ?_,hB2.out.alloc hB2.out.size _⟩
        · rw[HI.out.trans HE.out] at hc;cases hc;rfl
        · rw[HI.out.trans HE.out] at hf';cases hf'
      | some x=>
        obtain⟨xa,xb⟩:=x;have hxz:=aup HL.out (Nat.le_trans hs (by unfold Lim;omega)) hat;have CT:Hid (AtC A N cap an (.tuple #[.agg #[.string xa,.string xb],.int .i64 0]) w):=aac (fun W hW=>(HT.out an hs W hW).mono fun e w' ⟨h1,h2⟩=>⟨by rw[h1,hat];rfl,h2⟩)
        cases hh:adK (xa,xb) f with
        | true=>
          have HE:=aac (apP (f:=f) HX.out hbn hat hh);have HY:Hid (∀ W,aaL W w.heap.size (f.map (·.1))→(Instr.lookup 80 (.map (some w.heap.size)) (.agg #[.string xa,.string xb]) false).run Tryz.prog W=.ok (.int .i64 1) W):=aac (fun W hW=>aiD hW (afR.1 hh));clear hbn hz hs hat hh hxz
          go_wp2_with (first
           | (go_at_call 102;refine(CB.out _).mono ?_;rintro e w1 ⟨rfl,hb⟩;have hB1:=aac ((hB.out.alloc hB.out.size _).trans (hb.mono (Nat.le_trans hB.out.size (by simp))));have q0:w1.cell? ⟨wr.heap.size,0,none⟩=some (.string an):=(hb.cell (p:=⟨wr.heap.size,0,none⟩) (by simp)).trans (by simp);have hM1:=aac ((hM0.out.keep ((Below.refl _ wr).alloc (Nat.le_refl _) _)).keep hb))
           | (go_at_call 106;refine(CT.out _ hB1.out).mono ?_;rintro e w2 ⟨rfl,hb2⟩;have hB2:=aac (hB1.out.trans (hb2.mono hB1.out.size));have hlk:=HY.out _ ((hM1.out.keep hb2).keep ((Below.refl _ w2).alloc (Nat.le_refl _) (.cells #[.string xa,.string xb] 28)))))
          go_ret2;refine⟨fun c hc=> ?_,fun f' hf'=> ?_,hB2.out.alloc hB2.out.size _⟩
          · rw[HI.out.trans HE.out] at hc;cases hc;rfl
          · rw[HI.out.trans HE.out] at hf';cases hf'
        | false=>
          have HE:=aac (ana (f:=f) HX.out hbn hat hh);have hnm:¬ (xa,xb)∈f.map (·.1):=fun hc=>by rw[afR.2 hc] at hh;cases hh
          have HY:Hid (∀ W,aaL W w.heap.size (f.map (·.1))→(Instr.lookup 80 (.map (some w.heap.size)) (.agg #[.string xa,.string xb]) false).run Tryz.prog W=.ok (.int .i64 0) W):=aac (fun W hW=>akx hW hnm hxz.1 hxz.2);have HP:=aac (fun W (hW:aaL W w.heap.size (f.map (·.1)))=>ahI hW hnm hxz.1 hxz.2);have C:=aac (fun W=>aaB av W hz.2);clear hbn hz hs hat hh hxz hnm
          go_wp2_with (first
           | (go_at_call 102;refine(CB.out _).mono ?_;rintro e w1 ⟨rfl,hb⟩;have hB1:=aac ((hB.out.alloc hB.out.size _).trans (hb.mono (Nat.le_trans hB.out.size (by simp))));have q0:w1.cell? ⟨wr.heap.size,0,none⟩=some (.string an):=(hb.cell (p:=⟨wr.heap.size,0,none⟩) (by simp)).trans (by simp);have q1:w1.cell? ⟨wr.heap.size,1,none⟩=some (.string av):=(hb.cell (p:=⟨wr.heap.size,1,none⟩) (by simp)).trans (by simp);have hl1:wr.heap.size < w1.heap.size:=Nat.lt_of_lt_of_le (by simp) hb.size;have ty1:=aac ((hb.block wr.heap.size (by simp)).trans (abJ wr 167 #[.string an,.string av]));have ho1:=aac (aaj (hO.out.alloc _) hb);have hM1:=aac ((hM0.out.keep ((Below.refl _ wr).alloc (Nat.le_refl _) _)).keep hb))
           | (go_at_call 106;refine(CT.out _ hB1.out).mono ?_;rintro e w2 ⟨rfl,hb2⟩;have hB2:=aac (hB1.out.trans (hb2.mono hB1.out.size));have q2:w2.cell? ⟨wr.heap.size,1,none⟩=some (.string av):=(hb2.cell (p:=⟨wr.heap.size,1,none⟩) hl1).trans q1;have hl2:wr.heap.size < w2.heap.size:=Nat.lt_of_lt_of_le hl1 hb2.size;have ty2:=aac ((hb2.block wr.heap.size hl1).trans ty1.out);have ho2:=aac ((aaj ho1.out hb2).alloc (.cells #[.string xa,.string xb] 28));have hM2:=aac ((hM1.out.keep hb2).keep ((Below.refl _ w2).alloc (Nat.le_refl _) (.cells #[.string xa,.string xb] 28)));have hB3:=aac (hB2.out.alloc hB2.out.size (.cells #[.string xa,.string xb] 28));have hlk:=HY.out _ hM2.out;clear hM1 ho1 q0 q1 hb hb2 ty1))
          obtain⟨st,V1,V2,e1,e2,e3,hS2,g1,g2⟩:=HP.out (w2.alloc (.cells #[.string xa,.string xb] 28)).drew hM2.out;have e0:=HY.out (w2.alloc (.cells #[.string xa,.string xb] 28)).drew hM2.out;have hlw:=hM0.out.lt
          have hne:some w2.heap.size≠some w.heap.size:=fun e=>by
           injection e with e
           omega
          have hne2:some wr.heap.size≠some w.heap.size:=fun e=>by
           injection e with e
           omega
          have y0:V1.cell? ⟨w2.heap.size,0,none⟩=some (.string xa):=g1.cell (show (w2.alloc (.cells #[.string xa,.string xb] 28)).drew.cell? ⟨w2.heap.size,0,none⟩=some (.string xa) by simp) hne;have y1:V1.cell? ⟨w2.heap.size,1,none⟩=some (.string xb):=g1.cell (show (w2.alloc (.cells #[.string xa,.string xb] 28)).drew.cell? ⟨w2.heap.size,1,none⟩=some (.string xb) by simp) hne;have p0:V2.cell? ⟨w2.heap.size,0,none⟩=some (.string xa):=g2.cell (show (w2.alloc (.cells #[.string xa,.string xb] 28)).drew.cell? ⟨w2.heap.size,0,none⟩=some (.string xa) by simp) hne;have p1:V2.cell? ⟨w2.heap.size,1,none⟩=some (.string xb):=g2.cell (show (w2.alloc (.cells #[.string xa,.string xb] 28)).drew.cell? ⟨w2.heap.size,1,none⟩=some (.string xb) by simp) hne;have p2:V2.cell? ⟨wr.heap.size,1,none⟩=some (.string av):=g2.cell (show (w2.alloc (.cells #[.string xa,.string xb] 28)).drew.cell? ⟨wr.heap.size,1,none⟩=some (.string av) by rw[World.cell?_drew,World.cell?_alloc_lt _ _ _ (by exact hl2)];exact q2) hne2;have HO:Hid (V2.drew.ownsRow w.heap.size 40 3 (.slice A1 m c1) m (tL f)):=aac (World.ownsRow.kept (w':=V2) (row:=some w.heap.size) (w:=(w2.alloc (.cells #[.string xa,.string xb] 28)).drew) ho2.out g2 (.inr (hM2.out.ne ho2.out).symm));have HB:Hid (Below w.heap.size w V2.drew):=aac (Below.drew (Below.grown (Below.drew hB3.out) g2 hB3.out.size (fun j hj=>by injection hj with hj;omega)));have HQ:Hid (aaL V2.drew w.heap.size (f.map (·.1)++[(xa,xb)])):=aac hS2;have lt2:w2.heap.size < V2.heap.size:=Nat.lt_of_lt_of_le (show w2.heap.size < (w2.alloc (.cells #[.string xa,.string xb] 28)).drew.heap.size by simp) g2.size;have tyn:V2.heap[w2.heap.size]?=some (.cells #[.string xa,.string xb] 28 (0,0)):=(g2.block _ (by simp) hne).trans (abJ w2 28 _);have HTy:=aac tyn;have HTa:=aac ((g2.block wr.heap.size (show wr.heap.size < (w2.alloc (.cells #[.string xa,.string xb] 28)).drew.heap.size by simp;omega) hne2).trans ((Below.heap_alloc w2 (.cells #[.string xa,.string xb] 28) _ hl2).trans ty2.out));clear ty2 tyn hS2 g1 g2 hM2 ho2 hB3;generalize hbn':w2.heap.size=bn at *;generalize hba':wr.heap.size=ba at *;go_region
          all_goals
           clear e0 e1 e2 e3 y0 y1 hlk q2;go_wp2_with fail
          go_region_held3 (fun W=>W.cell? ⟨bn,0,none⟩=some (.string xa)∧W.cell? ⟨bn,1,none⟩=some (.string xb)∧W.cell? ⟨ba,1,none⟩=some (.string av))
           (first
             | exact⟨p0,p1,p2⟩
             | (refine⟨?_,?_,?_⟩ <;> assumption))
           (first
             | (go_at_call 22;refine(C.out _).mono ?_;rintro e w5 ⟨rfl,hb5⟩;have l5:ba < w5.heap.size∧bn < w5.heap.size:=⟨Nat.lt_of_lt_of_le (Nat.lt_trans hl2 lt2) hb5.size,Nat.lt_of_lt_of_le lt2 hb5.size⟩;have s0:w5.cell? ⟨bn,0,none⟩=some (.string xa):=(hb5.cell (p:=⟨bn,0,none⟩) lt2).trans p0;have s1:w5.cell? ⟨bn,1,none⟩=some (.string xb):=(hb5.cell (p:=⟨bn,1,none⟩) lt2).trans p1;have s2:w5.cell? ⟨ba,1,none⟩=some (.string av):=(hb5.cell (p:=⟨ba,1,none⟩) (Nat.lt_trans hl2 lt2)).trans p2;have s3:(w5.alloc (.cells #[.string xa,.string xb,.string av] 40)).cell? ⟨bn,0,none⟩=some (.string xa):=(World.cell?_alloc_lt _ _ _ l5.2).trans s0;have s4:(w5.alloc (.cells #[.string xa,.string xb,.string av] 40)).cell? ⟨bn,1,none⟩=some (.string xb):=(World.cell?_alloc_lt _ _ _ l5.2).trans s1;have s5:(w5.alloc (.cells #[.string xa,.string xb,.string av] 40)).cell? ⟨ba,1,none⟩=some (.string av):=(World.cell?_alloc_lt _ _ _ l5.1).trans s2;have ho5:=aac ((aaj HO.out hb5).alloc (.cells #[.string xa,.string xb,.string av] 40));have hB5:=aac (HB.out.trans (hb5.mono HB.out.size));have hB6:=aac (hB5.out.alloc hB5.out.size (.cells #[.string xa,.string xb,.string av] 40));have hQ5:=aac ((HQ.out.keep hb5).keep ((Below.refl _ w5).alloc (Nat.le_refl _) (.cells #[.string xa,.string xb,.string av] 40)));have hnew:=aac (abN w5 #[.string xa,.string xb,.string av] 40))
             | (refine aaN (by rfl) (.tmp 48) (.tmp 54) 29 (by rfl) w.heap.size 40 i0 (.agg #[.string ⟨#[]⟩,.string ⟨#[]⟩,.string ⟨#[]⟩]) 3 48 Tryz.underlying29 hi hz0 hz1 hz2 rfl (by decide) (.slice A1 m c1) m (tL f) (by rfl) ho5.out ⟨w5.heap.size,0,none⟩ 1 1 [.string xa,.string xb,.string av] (by rfl) rfl hnew.out (auL xa xb av) (by unfold maxLen;omega) (by omega) hB6.out.size ?_;intro v' w6 hown' hgrow;have tn5:(w5.alloc (.cells #[.string xa,.string xb,.string av] 40)).heap[bn]?=some (.cells #[.string xa,.string xb] 28 (0,0)):=(Below.heap_alloc w5 _ _ l5.2).trans ((hb5.block bn lt2).trans HTy.out);have ta5:(w5.alloc (.cells #[.string xa,.string xb,.string av] 40)).heap[ba]?=some (.cells #[.string an,.string av] 167 (0,0)):=(Below.heap_alloc w5 _ _ l5.1).trans ((hb5.block ba (Nat.lt_trans hl2 lt2)).trans HTa.out);have r0:w6.cell? ⟨bn,0,none⟩=some (.string xa):=hgrow.cell s3 (own_ne ho5.out tn5 (by decide)).symm;have r1:w6.cell? ⟨bn,1,none⟩=some (.string xb):=hgrow.cell s4 (own_ne ho5.out tn5 (by decide)).symm;have r2:w6.cell? ⟨ba,1,none⟩=some (.string av):=hgrow.cell s5 (own_ne ho5.out ta5 (by decide)).symm;have hQ6:=aac (hQ5.out.ajL hgrow (hQ5.out.ne ho5.out));have hB7:=aac (hB6.out.grown hgrow hB6.out.size (fun j hj=>(World.ownsRow.lt ho5.out j hj).1));have hO6:=aac hown';obtain⟨g',cap',rfl⟩:=aaU hown';clear hown' hgrow tn5 ta5)
             | fail)
          go_wp2_with fail;go_roundw;case rel=>exact⟨k+1,m+1,f++[((xa,xb),av)],by go_num,by omega,by omega,aac (by rw[List.length_append,← HF.out];rfl),aac (by rw[a3N];exact hO6.out),aac (by rw[List.map_append];exact hQ6.out),hB7,aac (HI.out.trans HE.out)⟩
          case measure=>simp only[intOf];omega
  · have d1:¬ (k:Int) < (M:Int):=(by omega);have HD:Hid (R.drop k=[]):=aac (List.drop_of_length_le (by rw[← HM.out];omega));go_wp2_with fail;go_ret2
    have hf:adl L [] R=.ok f:=by
     rw[HI.out,HD.out];rfl
    refine⟨fun c h=> ?_,fun f' hf'=>⟨_,rfl,?_⟩,hB.out⟩
    · rw[hf] at h;cases h
    · rw[hf] at hf';injection hf' with hf'
      subst hf';unfold apz;rw[← HF.out];exact hO.out
end Go.Proofs.YtiaebhomfebagaaGreatDoor.Nz.Sc
namespace Go.Proofs.YtiaebhomfebagaaGreatDoor.Nz.Sc
open Go.RowKit
def evZ:Value:=.agg #[.int .i64 0,.string ⟨#[]⟩,.string ⟨#[]⟩,.slice none 0 0,.string ⟨#[]⟩]
def evV (n:P2)(va:Value):Value:=.agg #[.int .i64 1,.string n.1,.string n.2,va,.string ⟨#[]⟩]
def aez (w:World)(o:Except Int (List P2 × P2 × List P3))(e:Ending)(w':World):Prop:=
 (∀ c,o=.error c→e=.returned (.tuple #[.slice none 0 0,evZ,.int .i64 c]))∧
 (∀ W n f,o=.ok (W,n,f)→∃ v va,e=.returned (.tuple #[v,evV n va,.int .i64 0])∧agQ 164 w' w.heap.size v W∧apz w' w.heap.size va f)∧Below w.heap.size w w'
theorem apF {w w':World}{o:Except Int (List P2 × P2 × List P3)}{c:Int}{e:Ending}(ho:o=.error c)(he:e=.returned (.tuple #[.slice none 0 0,evZ,.int .i64 c]))(hb:Below w.heap.size w w'):aez w o e w':=
 ⟨(fun c' hc=>by rw[ho] at hc;cases hc;exact he),(fun W n f hc=>by rw[ho] at hc;cases hc),hb⟩
theorem Tryz.results49:Tryz.f49.results= #[ResultVar.tmp 4,ResultVar.cell 5 54,ResultVar.tmp 6]:=by kernel_rfl
theorem aam {e:TypeId}{z n B B':Nat}{w:World}{v:Value}{xs:List Value}(h:w.ownsRow B e z v n xs)(hB:B'≤B):w.ownsRow B' e z v n xs:=by
 refine⟨h.1,?_⟩;rcases h.2 with h | ⟨g,cap,cur,h1,h2,h3⟩
 · exact .inl h
 · exact .inr ⟨g,cap,cur,h1,Nat.le_trans hB h2,h3⟩
structure EnB (w:World)(nm:ByteArray)(A2:Option Addr)(M cap2:Nat)(W:World):Prop where
 tag:W.heap[w.heap.size]?=some (.cells #[.string nm,.slice A2 M cap2] 96 (0,0))
 ev:W.heap[w.heap.size+1]?=some (.cells #[.int .i64 0,.string ⟨#[]⟩,.string ⟨#[]⟩,.slice none 0 0,.string ⟨#[]⟩] 54 (0,0))
 bel:Below w.heap.size w W
theorem EnB.lt {w:World}{nm:ByteArray}{A2:Option Addr}{M cap2:Nat}{W:World}(h:EnB w nm A2 M cap2 W):w.heap.size+1 < W.heap.size:=(Array.getElem?_eq_some_iff.1 h.ev).1
theorem EnB.keep {w:World}{nm:ByteArray}{A2:Option Addr}{M cap2:Nat}{W W':World}(h:EnB w nm A2 M cap2 W)(hb:Below W.heap.size W W'):EnB w nm A2 M cap2 W':=
 ⟨(hb.block _ (by have:=h.lt;omega)).trans h.tag,(hb.block _ h.lt).trans h.ev,h.bel.trans (hb.mono h.bel.size)⟩
theorem aeY (w:World)(nm:ByteArray)(A2:Option Addr)(M cap2:Nat):EnB w nm A2 M cap2 ((w.alloc (.cells #[.string nm,.slice A2 M cap2] 96)).alloc (.cells #[.int .i64 0,.string ⟨#[]⟩,.string ⟨#[]⟩,.slice none 0 0,.string ⟨#[]⟩] 54)):=by
 refine⟨(Below.heap_alloc _ _ _ (by simp)).trans (abJ w 96 _),?_,((Below.refl _ w).alloc (Nat.le_refl _) _).alloc (by simp) _⟩;have:=abJ (w.alloc (.cells #[.string nm,.slice A2 M cap2] 96)) 54 #[.int .i64 0,.string ⟨#[]⟩,.string ⟨#[]⟩,.slice none 0 0,.string ⟨#[]⟩];rw[World.size_alloc] at this;exact this
theorem aiU {W:World}{b:Nat}{a0 a1 a2 a3 a4:Value}(h:W.heap[b]?=some (.cells #[a0,a1,a2,a3,a4] 54 (0,0)))(x0 x1 x2 x3 x4:Value):
 (((((W.setCell ⟨b,0,none⟩ x0).setCell ⟨b,1,none⟩ x1).setCell ⟨b,2,none⟩ x2).setCell ⟨b,3,none⟩ x3).setCell ⟨b,4,none⟩ x4).heap[b]?=some (.cells #[x0,x1,x2,x3,x4] 54 (0,0)):=by
 simp[World.setCell,Array.getElem?_modify,h]
theorem a4w {w W:World}{b:Nat}(h:Below w.heap.size w W)(hb:w.heap.size≤b)(x0 x1 x2 x3 x4:Value):
 Below w.heap.size w (((((W.setCell ⟨b,0,none⟩ x0).setCell ⟨b,1,none⟩ x1).setCell ⟨b,2,none⟩ x2).setCell ⟨b,3,none⟩ x3).setCell ⟨b,4,none⟩ x4):=
 ((((h.setCell (p:=⟨b,0,none⟩) hb _).setCell (p:=⟨b,1,none⟩) hb _).setCell (p:=⟨b,2,none⟩) hb _).setCell (p:=⟨b,3,none⟩) hb _).setCell (p:=⟨b,4,none⟩) hb _
theorem a3G (W:World)(b:Nat)(x0 x1 x2 x3 x4:Value):W.grownBy (((((W.setCell ⟨b,0,none⟩ x0).setCell ⟨b,1,none⟩ x1).setCell ⟨b,2,none⟩ x2).setCell ⟨b,3,none⟩ x3).setCell ⟨b,4,none⟩ x4) (some b):=by
 have one:∀ (X:World) (j:Nat) (x:Value),X.grownBy (X.setCell ⟨b,j,none⟩ x) (some b):=fun X j x=>⟨rfl,rfl,rfl,by simp[World.setCell],fun k _ hk=>Below.heap_setCell _ _ _ _ (fun e=>hk (by simp[e]))⟩;have tr:∀ {X Y Z:World},X.grownBy Y (some b)→Y.grownBy Z (some b)→X.grownBy Z (some b):=fun g1 g2=>⟨g2.os.trans g1.os,g2.tape.trans g1.tape,g2.output.trans g1.output,Nat.le_trans g1.size g2.size,fun i hi hne=>(g2.block i (Nat.lt_of_lt_of_le hi g1.size) hne).trans (g1.block i hi hne)⟩;exact tr (tr (tr (tr (one _ _ _) (one _ _ _)) (one _ _ _)) (one _ _ _)) (one _ _ _)
theorem avw (A A2:Option Addr)(N M cap cap2:Nat)(nm:ByteArray)(w:World)(o:Except Int (List P2 × P2 × List P3))(ho:o=.error 9)
 (CB:Hid (∀ W,Below w.heap.size w W→Calls Tryz.prog 75 #[.slice A N cap,.slice A2 M cap2] W (amu W none))):
 Calls Tryz.prog 49 #[.slice A N cap,.agg #[.string nm,.slice A2 M cap2]] w (aez w o):=by
 have H0:=aac (aeY w nm A2 M cap2);have HO:=aac ho;clear ho;go_enter Tryz.func49,Tryz.ntmps49;go_wp2_with fail;refine(CB.out _ H0.out.bel).mono ?_;rintro e w1 ⟨h1,-,hb⟩;obtain rfl:=h1 rfl;have HK:=aac (H0.out.keep hb);obtain⟨z0,z1,z2,z3,z4⟩:=cells5 HK.out.ev;obtain⟨f0,f1,f2,f3,f4⟩:=auR HK.out.ev;clear CB H0 hb h1;go_wp2;have HS:=aac (aiU HK.out.ev (.int .i64 0) (.string ⟨#[]⟩) (.string ⟨#[]⟩) (.slice none 0 0) (.string ⟨#[]⟩));obtain⟨c0,c1,c2,c3,c4⟩:=cells5 HS.out;exact bodyPost_ret (v:=.tuple #[.slice none 0 0,evZ,.int .i64 9]) (by simp[results,Tryz.results49,go_sem,c0,c1,c2,c3,c4,evZ]) rfl (apF HO.out rfl (a4w HK.out.bel (Nat.le_succ _) _ _ _ _ _))
theorem aew {e:TypeId}{w:World}{B n:Nat}{v:Value}{l:List P2}(h:agQ e w B v l)(hn:n=l.length):∃ A c,v=.slice A n c∧RdR w A l:=by
 obtain⟨A,c,h1,h2,_⟩:=abI h;exact⟨A,c,by rw[h1,hn],h2⟩
theorem aks (W:World)(nm:ByteArray):RdS (W.alloc (.cells #[.string nm] 9)) (some ⟨W.heap.size,0,none⟩) [nm]:=fun k x hk=>by
 have hk0:k=0:=by
  have:=(List.getElem?_eq_some_iff.1 hk).1;simp at this;exact this
 subst hk0;have:nm=x:=(by simpa using hk);subst this;exact⟨_,_,rfl,by simp,by simp⟩
def BdC (A A2:Option Addr)(N M cap cap2:Nat)(Ws:List P2)(w:World):Prop:=∀ W,Below w.heap.size w W→Calls Tryz.prog 75 #[.slice A N cap,.slice A2 M cap2] W (amu W (some Ws))
def NmC (NW:Nat)(Ws:List P2)(nm:ByteArray)(o:Option (List P2)):Prop:=∀ (A':Option Addr) (c':Nat) (AS:Option Addr) (cS:Nat) (W:World),RdR W A' Ws→RdS W AS [nm]→Calls Tryz.prog 76 #[.slice A' NW c',.slice AS 1 cS] W (afy W o)
def a5M (NW:Nat)(Ws:List P2)(A2:Option Addr)(M cap2:Nat)(w:World)(o:Except Int (List P3)):Prop:=∀ (A':Option Addr) (c':Nat) (W:World),RdR W A' Ws→Below w.heap.size w W→Calls Tryz.prog 77 #[.slice A' NW c',.slice A2 M cap2] W (aeb W o)
theorem auV (A A2:Option Addr)(N M cap cap2 NW:Nat)(nm:ByteArray)(Ws:List P2)(w:World)(o:Except Int (List P2 × P2 × List P3))(ho:o=.error 9)(hNW:NW=Ws.length)
 (CB:Hid (BdC A A2 N M cap cap2 Ws w)) (CN:Hid (NmC NW Ws nm none)):
 Calls Tryz.prog 49 #[.slice A N cap,.agg #[.string nm,.slice A2 M cap2]] w (aez w o):=by
 have H0:=aac (aeY w nm A2 M cap2);have HO:=aac ho;have HNW:=aac hNW;clear ho hNW;go_enter Tryz.func49,Tryz.ntmps49;go_wp2_with fail;refine(CB.out _ H0.out.bel).mono ?_;rintro e w1 ⟨-,h2,hb⟩;obtain⟨v,rfl,hv⟩:=h2 _ rfl;obtain⟨A',c',rfl,hrd⟩:=aew hv HNW.out;have HK1:=aac (H0.out.keep hb);have HR1:=aac hrd;have t0:=aaf HK1.out.tag 0 (u:=.string nm) rfl;have t1:=aaf HK1.out.tag 1 (u:=.slice A2 M cap2) rfl;clear CB H0 hb h2 hv hrd;go_wp2_with fail;refine(CN.out A' c' (some ⟨w1.heap.size,0,none⟩) 1 _ (HR1.out.keep ((Below.refl _ w1).alloc (Nat.le_refl _) _)) (aks w1 nm)).mono ?_;rintro e w2 ⟨h1,-,hb2⟩;obtain rfl:=h1 rfl;have HK:=aac ((HK1.out.keep ((Below.refl _ w1).alloc (Nat.le_refl _) _)).keep hb2);obtain⟨z0,z1,z2,z3,z4⟩:=cells5 HK.out.ev;obtain⟨f0,f1,f2,f3,f4⟩:=auR HK.out.ev;clear CN HK1 HR1 h1 hb2;go_wp2;have HS:=aac (aiU HK.out.ev (.int .i64 0) (.string ⟨#[]⟩) (.string ⟨#[]⟩) (.slice none 0 0) (.string ⟨#[]⟩));obtain⟨c0,c1,c2,c3,c4⟩:=cells5 HS.out;exact bodyPost_ret (v:=.tuple #[.slice none 0 0,evZ,.int .i64 9]) (by simp[results,Tryz.results49,go_sem,c0,c1,c2,c3,c4,evZ]) rfl (apF HO.out rfl (a4w HK.out.bel (Nat.le_succ _) _ _ _ _ _))
theorem avO (A A2:Option Addr)(N M cap cap2 NW:Nat)(nm:ByteArray)(Ws:List P2)(n:P2)(c:Int)(w:World)(o:Except Int (List P2 × P2 × List P3))(ho:o=.error c)(hNW:NW=Ws.length)(hc0:c=8∨c=9)
 (CB:Hid (BdC A A2 N M cap cap2 Ws w)) (CN:Hid (NmC NW Ws nm (some [n]))) (CA:Hid (a5M NW Ws A2 M cap2 w (.error c))):
 Calls Tryz.prog 49 #[.slice A N cap,.agg #[.string nm,.slice A2 M cap2]] w (aez w o):=by
 have H0:=aac (aeY w nm A2 M cap2);have HO:=aac ho;have HNW:=aac hNW;have hc1:(c == 0)=false:=by rw[beq_eq_false_iff_ne];omega
 have hc2:¬ c=0:=(by omega);clear ho hNW hc0;go_enter Tryz.func49,Tryz.ntmps49;go_wp2_with fail;refine(CB.out _ H0.out.bel).mono ?_;rintro e w1 ⟨-,h2,hb⟩;obtain⟨v,rfl,hv⟩:=h2 _ rfl;obtain⟨A',c',rfl,hrd⟩:=aew hv HNW.out;have HK1:=aac (H0.out.keep hb);have HR1:=aac hrd;have t0:=aaf HK1.out.tag 0 (u:=.string nm) rfl;have t1:=aaf HK1.out.tag 1 (u:=.slice A2 M cap2) rfl;clear CB H0 hb h2 hv hrd;go_wp2_with fail;refine(CN.out A' c' (some ⟨w1.heap.size,0,none⟩) 1 _ (HR1.out.keep ((Below.refl _ w1).alloc (Nat.le_refl _) _)) (aks w1 nm)).mono ?_;rintro e w2 ⟨-,h2,hb2⟩;obtain⟨vn,rfl,hvn⟩:=h2 _ rfl;have HK2:=aac ((HK1.out.keep ((Below.refl _ w1).alloc (Nat.le_refl _) _)).keep hb2);have HR2:=aac ((HR1.out.keep ((Below.refl _ w1).alloc (Nat.le_refl _) _)).keep hb2);obtain⟨An,cn,rfl,hrn⟩:=aew (n:=1) hvn rfl;have u0:=aaf HK2.out.tag 0 (u:=.string nm) rfl;have u1:=aaf HK2.out.tag 1 (u:=.slice A2 M cap2) rfl;clear CN HK1 HR1 h2 hb2 hvn hrn t0 t1;go_wp2_with fail;refine(CA.out A' c' _ HR2.out HK2.out.bel).mono ?_;rintro e w3 ⟨h1,-,hb3⟩;obtain rfl:=h1 _ rfl;have HK:=aac (HK2.out.keep hb3);obtain⟨z0,z1,z2,z3,z4⟩:=cells5 HK.out.ev;obtain⟨f0,f1,f2,f3,f4⟩:=auR HK.out.ev;clear CA HK2 HR2 h1 hb3 u0 u1;go_wp2;have HS:=aac (aiU HK.out.ev (.int .i64 0) (.string ⟨#[]⟩) (.string ⟨#[]⟩) (.slice none 0 0) (.string ⟨#[]⟩));obtain⟨c0,c1,c2,c3,c4⟩:=cells5 HS.out;exact bodyPost_ret (v:=.tuple #[.slice none 0 0,evZ,.int .i64 c]) (by simp[results,Tryz.results49,go_sem,c0,c1,c2,c3,c4,evZ]) rfl (apF HO.out rfl (a4w HK.out.bel (Nat.le_succ _) _ _ _ _ _))
end Go.Proofs.YtiaebhomfebagaaGreatDoor.Nz.Sc
namespace Go.Proofs.YtiaebhomfebagaaGreatDoor.Nz.Sc
open Go.RowKit
theorem auC (A A2:Option Addr)(N M cap cap2 NW NF:Nat)(nm na nb:ByteArray)(Ws:List P2)(f:List P3)(w:World)(o:Except Int (List P2 × P2 × List P3))(ho:o=.ok (Ws,(na,nb),f))(hNW:NW=Ws.length)(hNF:NF=f.length)
 (CB:Hid (BdC A A2 N M cap cap2 Ws w)) (CN:Hid (NmC NW Ws nm (some [(na,nb)]))) (CA:Hid (a5M NW Ws A2 M cap2 w (.ok f))):
 Calls Tryz.prog 49 #[.slice A N cap,.agg #[.string nm,.slice A2 M cap2]] w (aez w o):=by
 have H0:=aac (aeY w nm A2 M cap2);have HO:=aac ho;have HNW:=aac hNW;have HNF:=aac hNF;clear ho hNW hNF;go_enter Tryz.func49,Tryz.ntmps49;go_wp2_with fail;refine(CB.out _ H0.out.bel).mono ?_;rintro e w1 ⟨-,h2,hb⟩;obtain⟨v,rfl,hv⟩:=h2 _ rfl;obtain⟨A',c',rfl,hrd⟩:=aew hv HNW.out;have HK1:=aac (H0.out.keep hb);have HR1:=aac hrd;have HV1:=aac (aam hv H0.out.bel.size);have t0:=aaf HK1.out.tag 0 (u:=.string nm) rfl;have t1:=aaf HK1.out.tag 1 (u:=.slice A2 M cap2) rfl;clear CB H0 hb h2 hv hrd;go_wp2_with fail;refine(CN.out A' c' (some ⟨w1.heap.size,0,none⟩) 1 _ (HR1.out.keep ((Below.refl _ w1).alloc (Nat.le_refl _) _)) (aks w1 nm)).mono ?_;rintro e w2 ⟨-,h2,hb2⟩;obtain⟨vn,rfl,hvn⟩:=h2 _ rfl;have HK2:=aac ((HK1.out.keep ((Below.refl _ w1).alloc (Nat.le_refl _) _)).keep hb2);have HR2:=aac ((HR1.out.keep ((Below.refl _ w1).alloc (Nat.le_refl _) _)).keep hb2);have HV2:=aac (aaj (aaj HV1.out ((Below.refl _ w1).alloc (Nat.le_refl _) _)) hb2);obtain⟨An,cn,rfl,hrn⟩:=aew (n:=1) hvn rfl;have HN2:=aac hrn;have u0:=aaf HK2.out.tag 0 (u:=.string nm) rfl;have u1:=aaf HK2.out.tag 1 (u:=.slice A2 M cap2) rfl;clear CN HK1 HR1 HV1 h2 hb2 hvn hrn t0 t1;go_wp2_with fail;refine(CA.out A' c' _ HR2.out HK2.out.bel).mono ?_;rintro e w3 ⟨-,h2,hb3⟩;obtain⟨va,rfl,hva⟩:=h2 _ rfl;have HK:=aac (HK2.out.keep hb3);have HV:=aac (aaj HV2.out hb3);have HA:=aac (aam hva HK2.out.bel.size);obtain⟨bn,on,rfl,hbn,n0,n1⟩:=(HN2.out.keep hb3) 0 (na,nb) rfl;obtain⟨Aa,ca,ea⟩:=aai hva;rw[← HNF.out] at ea;subst ea;rw[Nat.zero_mul,Nat.add_zero] at n0 n1;dsimp only at n0 n1;obtain⟨z0,z1,z2,z3,z4⟩:=cells5 HK.out.ev;obtain⟨f0,f1,f2,f3,f4⟩:=auR HK.out.ev;clear CA HK2 HR2 HV2 HN2 h2 hb3 u0 u1 hva hbn;go_wp2_with fail;go_region;go_wp2;have HS:=aac (aiU HK.out.ev (.int .i64 1) (.string na) (.string nb) (.slice Aa NF ca) (.string ⟨#[]⟩));obtain⟨c0,c1,c2,c3,c4⟩:=cells5 HS.out;refine bodyPost_ret (v:=.tuple #[.slice A' NW c',evV (na,nb) (.slice Aa NF ca),.int .i64 0]) (by simp[results,Tryz.results49,go_sem,c0,c1,c2,c3,c4,evV]) rfl ⟨fun c hc=> ?_,fun W n f' hc=> ?_,(a4w HK.out.bel (Nat.le_succ _) _ _ _ _ _).drew⟩
 · rw[HO.out] at hc;cases hc
 · rw[HO.out] at hc;cases hc;have g:=a3G w3 (w.heap.size+1) (.int .i64 1) (.string na) (.string nb) (.slice Aa NF ca) (.string ⟨#[]⟩);exact⟨_,_,rfl,World.ownsRow.drew (HV.out.kept g (.inr (own_ne HV.out HK.out.ev (by decide)))),World.ownsRow.drew (HA.out.kept g (.inr (own_ne HA.out HK.out.ev (by decide))))⟩
end Go.Proofs.YtiaebhomfebagaaGreatDoor.Nz.Sc
namespace Go.Proofs.YtiaebhomfebagaaGreatDoor.Nz.Sc
open Go.RowKit
theorem aec (W:List P2):∀ (r:List P2) (f:List P3) {c:Int},adl W f r=.error c→c=8∨c=9
 | [],f,c,h=>by cases h
 | a :: r,f,c,h=>by
   unfold adl at h;split at h
   · exact aec W r f h
   · split at h
     · injection h with h
       exact .inr h.symm
     · split at h
       · injection h with h
         exact .inl h.symm
       · exact aec W r _ h
structure Ent (w:World)(A A2:Option Addr)(N M:Nat)(nm:ByteArray)(L R:List P2):Prop where
 hN:N=L.length
 hM:M=R.length
 hN1:N≤2000000000
 hM1:M≤2000000000
 hm:nm.size≤2000000000
 hlim:aeA L
 hlimR:aeA R
 hsz:∀ x∈R,x.1.size≤2000000000
 hR:RdR w A L
 hR2:RdR w A2 R
theorem Ent.keep {w w':World}{A A2:Option Addr}{N M:Nat}{nm:ByteArray}{L R:List P2}(h:Ent w A A2 N M nm L R)(hb:Below w.heap.size w w'):Ent w' A A2 N M nm L R:=
 ⟨h.hN,h.hM,h.hN1,h.hM1,h.hm,h.hlim,h.hlimR,h.hsz,h.hR.keep hb,h.hR2.keep hb⟩
theorem agM {A A2:Option Addr}{N M:Nat}{nm:ByteArray}{L R:List P2}{w:World}(cap cap2:Nat)(h:Ent w A A2 N M nm L R):
 Calls Tryz.prog 49 #[.slice A N cap,.agg #[.string nm,.slice A2 M cap2]] w (aez w (afq L nm R)):=by
 have CB:∀ W,Below w.heap.size w W→Calls Tryz.prog 75 #[.slice A N cap,.slice A2 M cap2] W (amu W (aaM L R)):=fun W hW=>aeT A A2 N M cap cap2 L R W h.hN h.hM h.hN1 h.hM1 h.hlim h.hlimR h.hsz (h.hR.keep hW) (h.hR2.keep hW)
 cases hb:aaM L R with
 | none=>
   rw[hb] at CB;exact avw A A2 N M cap cap2 nm w _ (by unfold afq;rw[hb]) (aac CB)
 | some Ws=>
   rw[hb] at CB;have hl:=afF R L hb;have hWl:Ws.length≤1000000000000:=by have:=h.hN;have:=h.hM;have:=h.hN1;have:=h.hM1;omega
   have hWm:aeA Ws:=afM R L h.hlim h.hlimR hb;have CN:NmC Ws.length Ws nm (akI Ws [] [nm]):=fun A' c' AS cS W h1 h2=>apG A' AS Ws.length 1 c' cS Ws [nm] W rfl rfl hWl (by omega) hWm (fun x hx=>by rw[List.mem_singleton] at hx;rw[hx];exact h.hm) h1 h2;have CA:a5M Ws.length Ws A2 M cap2 w (adl Ws [] R):=fun A' c' W h1 h2=>apT A' A2 Ws.length M c' cap2 Ws R W rfl h.hM hWl h.hM1 hWm h.hlimR h.hsz h1 (h.hR2.keep h2)
   cases hn:alJ Ws nm with
   | none=>
     have e:akI Ws [] [nm]=none:=(by rw[akI,hn]);rw[e] at CN;exact auV A A2 N M cap cap2 Ws.length nm Ws w _ (by unfold afq;rw[hb];dsimp only;rw[hn]) rfl (aac CB) (aac CN)
   | some n=>
     have e:akI Ws [] [nm]=some [n]:=by rw[akI,hn];rfl
     rw[e] at CN
     cases ha:adl Ws [] R with
     | error c=>
       rw[ha] at CA;exact avO A A2 N M cap cap2 Ws.length nm Ws n c w _ (by unfold afq;rw[hb];dsimp only;rw[hn];dsimp only;rw[ha]) rfl (aec Ws R [] ha) (aac CB) (aac CN) (aac CA)
     | ok f=>
       rw[ha] at CA;obtain⟨na,nb⟩:=n;exact auC A A2 N M cap cap2 Ws.length f.length nm na nb Ws f w _ (by unfold afq;rw[hb];dsimp only;rw[hn];dsimp only;rw[ha]) rfl rfl (aac CB) (aac CN) (aac CA)
end Go.Proofs.YtiaebhomfebagaaGreatDoor.Nz.Sc
