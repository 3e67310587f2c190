/- Lemmas of the claim. -/
import Derived.Test.YtnomcldpbkinmaaGreatDoorG37
import Derived.Test.YtnomcldpbkinmaaGreatDoorG07
import Derived.Test.YtnomcldpbkinmaaGreatDoorG30
import Derived.Test.YtnomcldpbkinmaaGreatDoorG28
import Derived.Test.YtnomcldpbkinmaaGreatDoorG12
import Derived.Test.YtnomcldpbkinmaaGreatDoorG13
set_option maxHeartbeats 2000000
set_option maxRecDepth 100000
set_option linter.unusedSimpArgs false
set_option linter.unusedVariables false
namespace Go.Proofs.YtnomcldpbkinmaaGreatDoor
open Go.RowKit
def enF (en:Bool)(l:List Int):List Int:=if en=true then aau l else l
theorem aqu (s:ByteArray)(i n:Nat):aad (s.extract i (i+n))=((aad s).drop i).take n:=by
 rw[aal,List.drop_take,show i+n - i=n by omega]
theorem awy (v x y:ByteArray)(ok:Bool)(h:ok=decide (aad v=aad x∨aad v=aad y)):((v.toList == x.toList)=true∧ok=true)∨((v.toList == x.toList)=false∧(v.toList == y.toList)=ok):=by
 rw[ba_eq,ba_eq,h];by_cases g:aad v=aad x
 · exact .inl ⟨decide_eq_true g,decide_eq_true (.inl g)⟩
 · refine .inr ⟨decide_eq_false g,?_⟩;rw[Bool.eq_iff_iff,decide_eq_true_eq,decide_eq_true_eq];exact⟨.inr,fun h=>h.elim (fun k=>absurd k g) id⟩
theorem ajS {l:List Int}(h:Bts l):Bts (aau l):=fun x hx=>by
 obtain⟨y,hy,rfl⟩:=List.mem_map.1 hx;have:=h y hy;unfold aaU;split <;> omega
theorem aob (s word x y:ByteArray)(a:Nat)(okp:List Int→Bool)(en:Bool)(w:World)(hs:s.size≤10000)(ha:a≤s.size)(hw:word.size≤100)(hn:(word.toList == [101,110,99,111,100,105,110,103])=en)
 (hok:∀ l,okp l=decide (enF en l=aad x∨enF en l=aad y)):Calls Tryz.prog 76 #[.string s,.int .i64 a,.string word,.string x,.string y] w (aeD (amw (aad s) (aad word) okp (skp (aad s) a) a) w):=by
 have hfl:=avR (aad s) a (by rw[aae];exact ha);rw[aae] at hfl;have C1:SkC s a (skp (aad s) a):=fun W=>acG s a W (by omega) ha;generalize hf:skp (aad s) a=f at *;unfold amw;by_cases h1:f=a
 · rw[if_pos h1];rw[h1] at C1;exact a2D s word x y a w (aac C1)
 rw[if_neg h1];have hK:aad (word++⟨#[61]⟩)=aad word++[61]:=by rw[adv];rfl
 have hKs:(word++(⟨#[61]⟩:ByteArray)).size≤1000000:=by rw[ByteArray.size_append];show word.size+1≤_;omega
 have C2:AtC s f (word++⟨#[61]⟩) ((aad word++[61]).isPrefixOf ((aad s).drop f)):=fun W=>agX s _ f W (by omega) hKs hfl _ (by rw[hK]);rw[aae word];cases h2:(aad word++[61]).isPrefixOf ((aad s).drop f)
 · rw[h2] at C2;rw[if_pos rfl];exact a2R s word x y a f w hw h1 (aac C1) (aac C2)
 rw[if_neg (by simp)];rw[h2] at C2;by_cases h3:s.size≤f+word.size+1
 · rw[if_pos (by rw[aae];exact h3)];exact a3I s word x y a f _ w hs (by omega) hw h1 rfl h3 (aac C1) (aac C2)
 rw[if_neg (by rw[aae];exact h3)];generalize hq:f+word.size+1=q at *;by_cases h4:quo ((aad s).getD q 0)
 · rw[if_neg (fun g=>g h4)]
   have hx:aad (s.extract q (q+1))=[(aad s).getD q 0]:=by
    rw[aqu,List.drop_eq_getElem_cons (by rw[aae];omega),List.getD_eq_getElem?_getD,List.getElem?_eq_getElem (by rw[aae];omega)];rfl
   have C3:FdC s (q+1) (s.extract q (q+1)) (aez [(aad s).getD q 0] (aad s) (q+1)):=fun W=>by
    have:=acp s (s.extract q (q+1)) (q+1) W (by omega) (by rw[← aae,hx];simp) (by omega);rw[hx] at this;exact this
   unfold aez at C3
   cases hfd:fnd [(aad s).getD q 0] ((aad s).drop (q+1)) with
   | none=>
     rw[hfd] at C3;exact a2E s word x y a f q w hs (by omega) hw h1 hq.symm (by omega) h4 (aac C1) (aac C2) (aac C3)
   | some n=>
     rw[hfd] at C3;have hb:=(abG hfd).1;rw[List.length_drop,aae,List.length_singleton] at hb;have hV:=aqu s (q+1) n;have e:q+1+n+1=(q+1+n)+1:=rfl;show Calls _ _ _ _ (aeD (if okp (((aad s).drop (q+1)).take n)=true then some (q+1+n+1) else none) w)
     cases en with
     | false=>
       refine a3x s word x y a f q (q+1+n) _ w hs (by omega) hw h1 hq.symm (by omega) h4 (aac C1) (aac C2) (aac C3) (by omega) (by omega) hn ?_;refine awy _ x y _ ?_;rw[hV,hok];rfl
     | true=>
       have hVb:Bts (((aad s).drop (q+1)).take n):=((acO s).drop _).take _
       have C4:SmC (s.extract (q+1) (q+1+n)) (strOfNums (aau (((aad s).drop (q+1)).take n))):=fun W=>by
        have:=ahE (s.extract (q+1) (q+1+n)) W (by rw[ByteArray.size_extract];omega);rw[hV] at this;exact this
       refine a2Q s word x y _ a f q (q+1+n) _ w hs (by omega) hw h1 hq.symm (by omega) h4 (aac C1) (aac C2) (aac C3) (by omega) (by omega) hn (aac C4) ?_;refine awy _ x y _ ?_;rw[(ajS hVb).str,hok];rfl
 · rw[if_pos h4];exact a3p s word x y a f q w hs (by omega) hw h1 hq.symm (by omega) h4 (aac C1) (aac C2)
def FlC (s:ByteArray)(a:Nat)(word x y:ByteArray)(r:Int):Prop:=∀ W,Calls Tryz.prog 76 #[.string s,.int .i64 a,.string word,.string x,.string y] W fun e w'=>e=.returned (.int .i64 r)∧Below W.heap.size W w'
theorem atQ (s:ByteArray)(w:World)(C1:Hid (FlC s 0 ⟨#[118,101,114,115,105,111,110]⟩ ⟨#[49,46,48]⟩ ⟨#[49,46,48]⟩ (-1))):Calls Tryz.prog 58 #[.string s] w (ahB false w):=by
 go_enter Tryz.func58,Tryz.ntmps58;go_wp2_with fail;refine(C1.out _).mono ?_;rintro e w1 ⟨rfl,hb1⟩;go_wp2;go_ret;exact⟨rfl,hb1⟩
theorem asG (s:ByteArray)(w:World)(a1 a2 a3 f:Nat)(x2 x3:Int)(hs:s.size≤10000)(C1:Hid (FlC s 0 ⟨#[118,101,114,115,105,111,110]⟩ ⟨#[49,46,48]⟩ ⟨#[49,46,48]⟩ a1))
 (C2:Hid (FlC s a1 ⟨#[101,110,99,111,100,105,110,103]⟩ ⟨#[117,116,102,45,56]⟩ ⟨#[117,116,102,45,56]⟩ x2)) (C3:Hid (FlC s a2 ⟨#[115,116,97,110,100,97,108,111,110,101]⟩ ⟨#[121,101,115]⟩ ⟨#[110,111]⟩ x3))
 (C4:Hid (SkC s a3 f)) (h2:(x2= -1∧a2=a1)∨x2=a2) (h3:(x3= -1∧a3=a2)∨x3=a3) (ok:Bool) (hok:((f:Int) == (s.size:Int))=ok):Calls Tryz.prog 58 #[.string s] w (ahB ok w):=by
 have d1:¬ (a1:Int) < 0:=(by omega);have d2:(0:Int)≤(a2:Int):=(by omega);have d3:(0:Int)≤(a3:Int):=(by omega);rcases h2 with ⟨rfl,rfl⟩ | rfl
 all_goals
  rcases h3 with ⟨rfl,rfl⟩ | rfl
  all_goals
   go_enter Tryz.func58,Tryz.ntmps58;go_wp2_with fail;refine(C1.out _).mono ?_;rintro e w1 ⟨rfl,hb1⟩;go_wp2_with fail;refine(C2.out _).mono ?_;rintro e w2 ⟨rfl,hb2⟩;have HB2:=aac (hb1.trans (hb2.mono hb1.size));clear hb1 hb2;go_wp2_with fail;refine(C3.out _).mono ?_;rintro e w3 ⟨rfl,hb3⟩;have HB3:=aac (HB2.out.trans (hb3.mono HB2.out.size));clear hb3;go_wp2_with fail;refine(C4.out _).mono ?_;rintro e w4 ⟨rfl,rfl⟩;go_wp2;go_ret;exact⟨rfl,HB3.out⟩
theorem alT (s word x y:ByteArray)(a:Nat)(okp:List Int→Bool)(en:Bool)(hs:s.size≤10000)(ha:a≤s.size)(hw:word.size≤100)(hn:(word.toList == [101,110,99,111,100,105,110,103])=en)
 (hok:∀ l,okp l=decide (enF en l=aad x∨enF en l=aad y)):FlC s a word x y (ayn (amw (aad s) (aad word) okp (skp (aad s) a) a)):=fun W=>aob s word x y a okp en W hs ha hw hn hok
theorem awd (l key:List Int)(okp:List Int→Bool)(a:Nat)(ha:a≤l.length):∃ a2,a2≤l.length∧((ayn (amw l key okp (skp l a) a)= -1∧a2=a)∨ayn (amw l key okp (skp l a) a)=a2)∧orF (afK (l.drop a) key okp) (l.drop a)=l.drop a2:=by
 have hS:=aqP l key okp a ha
 cases hF:amw l key okp (skp l a) a with
 | none=>rw[hF] at hS;exact⟨a,ha,.inl ⟨rfl,rfl⟩,by rw[hS];rfl⟩
 | some r=>
   rw[hF] at hS;exact⟨r,(awH l key okp _ a r (arY l a) hF).2,.inr rfl,by rw[hS];rfl⟩
theorem auU (l:List Int)(a:Nat)(ha:a≤l.length):(skp l a=l.length)↔(l.drop a).all abf=true:=by
 have:=aqg (l.drop a);rw[← this];unfold skp;rw[List.drop_zero,List.length_drop];omega
theorem aqK (s:ByteArray)(w:World)(hs:s.size≤10000):Calls Tryz.prog 58 #[.string s] w (ahB (air (aad s)) w):=by
 have hl:=aae s
 have C1:=alT s ⟨#[118,101,114,115,105,111,110]⟩ ⟨#[49,46,48]⟩ ⟨#[49,46,48]⟩ 0 abn false hs (Nat.zero_le _) (by decide) (by rw[Lib.toList_data];decide) (fun l=>by
  unfold abn enF;rw[Bool.eq_iff_iff,decide_eq_true_eq,decide_eq_true_eq];simp;rfl)
 have hS:=aqP (aad s) acJ abn 0 (Nat.zero_le _);rw[List.drop_zero] at hS;have C1':FlC s 0 ⟨#[118,101,114,115,105,111,110]⟩ ⟨#[49,46,48]⟩ ⟨#[49,46,48]⟩ (ayn (amw (aad s) acJ abn (skp (aad s) 0) 0)):=C1;unfold air;rw[hS]
 cases hF:amw (aad s) acJ abn (skp (aad s) 0) 0 with
 | none=>
   rw[hF] at C1';exact atQ s w (aac C1')
 | some a1=>
   rw[hF] at C1';have hb1:=(awH (aad s) _ _ _ _ _ (arY _ _) hF).2;obtain⟨a2,hb2,h2,e2⟩:=awd (aad s) abX aaW a1 hb1;obtain⟨a3,hb3,h3,e3⟩:=awd (aad s) abI aaH a2 hb2
   have C2:FlC s a1 ⟨#[101,110,99,111,100,105,110,103]⟩ ⟨#[117,116,102,45,56]⟩ ⟨#[117,116,102,45,56]⟩ (ayn (amw (aad s) abX aaW (skp (aad s) a1) a1)):=
    alT s ⟨#[101,110,99,111,100,105,110,103]⟩ ⟨#[117,116,102,45,56]⟩ ⟨#[117,116,102,45,56]⟩ a1 aaW true hs (by omega) (by decide) (by rw[Lib.toList_data];decide) (fun l=>by
     unfold aaW enF;rw[Bool.eq_iff_iff,decide_eq_true_eq,decide_eq_true_eq];simp;rfl)
   have C3:FlC s a2 ⟨#[115,116,97,110,100,97,108,111,110,101]⟩ ⟨#[121,101,115]⟩ ⟨#[110,111]⟩ (ayn (amw (aad s) abI aaH (skp (aad s) a2) a2)):=
    alT s ⟨#[115,116,97,110,100,97,108,111,110,101]⟩ ⟨#[121,101,115]⟩ ⟨#[110,111]⟩ a2 aaH false hs (by omega) (by decide) (by rw[Lib.toList_data];decide) (fun l=>by
     unfold aaH enF;rw[Bool.eq_iff_iff,decide_eq_true_eq,decide_eq_true_eq];simp;rfl)
   have C4:SkC s a3 (skp (aad s) a3):=fun W=>acG s a3 W (by omega) (by omega);show Calls _ _ _ _ (ahB (a2h (orF (afK ((aad s).drop a1) abX aaW) ((aad s).drop a1))) w);rw[e2];unfold a2h;rw[e3];refine asG s w a1 a2 a3 _ _ _ hs (aac C1') (aac C2) (aac C3) (aac C4) h2 h3 _ ?_;rw[Bool.eq_iff_iff,beq_iff_eq,← auU (aad s) a3 hb3,hl];omega
end Go.Proofs.YtnomcldpbkinmaaGreatDoor
namespace Go.Proofs.YtnomcldpbkinmaaGreatDoor
theorem not_true {b:Bool}(h:¬ b=true):b=false:=by cases b <;> simp_all
theorem avZ:∀ (n:Nat) (A:List Nat),A.length≤n→(∀ x∈Nz.Rn A,Nz.Ok x)→Nz.St A=A.length
 | n,A,hn,hA=>by
   by_cases h:A=[]
   · subst h;rfl
   · have hl:1≤A.length:=List.length_pos_iff.2 h;have hw:=Nz.abD A h
     match n with
     | 0=>omega
     | n+1=>
       have hR:=Nz.adM A h;rw[Nz.agT A h,if_pos (hA _ (by rw[hR];simp)),avZ n (A.drop (Nz.dN A).2) (by simp;omega) (fun x hx=>hA x (by rw[hR];simp[hx]))];simp;omega
theorem awG {L:List Nat}(h:Nz.pl L=true):∀ x∈Nz.Rn L,Nz.Ok x:=fun x hx=>.inr (Nz.auy h x hx)
theorem aqA {c:Nat}(h:Blank (c:Int)):¬ Nz.Ok (c:Int):=by
 rintro (h2 | h2)
 · unfold Blank at h;omega
 · exact ahR h h2
theorem anA {c:Nat}(h:Blank (c:Int)):c < 128:=by unfold Blank at h;omega
theorem aoa {L:List Nat}(h:Nz.pl L=true):∀ c∈L,¬ Blank (c:Int):=fun c hc hb=>by
 obtain⟨A,B,rfl⟩:=List.append_of_mem hc;have h1:=Nz.auy h;rw[Nz.apv _ A B c (anA hb) (Nat.le_refl _)] at h1;exact ahR hb (h1 _ (by simp))
theorem arz (l:List Int)(n:Nat):aiy (l.take n)=(aiy l).take n:=by unfold aiy;rw[List.map_take]
theorem afM (l:List Int):(aiy l).length=l.length:=by unfold aiy;simp
theorem amO (p:Int→Bool):∀ (l:List Int),(l.takeWhile p=l∧l.all p=true)∨∃ k,k < l.length∧l.takeWhile p=l.take k∧p (l.getD k 0)=false
 | []=>.inl ⟨rfl,rfl⟩
 | a :: l=>by
   by_cases h:p a=true
   · rcases amO p l with ⟨h1,h2⟩ | ⟨k,h1,h2,h3⟩
     · exact .inl ⟨by rw[List.takeWhile_cons_of_pos h,h1],by simp[h,h2]⟩
     · exact .inr ⟨k+1,by simpa using h1,by rw[List.takeWhile_cons_of_pos h,h2];rfl,by simpa using h3⟩
   · exact .inr ⟨0,by simp,by rw[List.takeWhile_cons_of_neg h];rfl,by simpa using h⟩
theorem a0J (p:Int→Bool):∀ (l:List Int) (k:Nat),(∀ x∈l.take k,p x=true)→(k < l.length→p (l.getD k 0)=false)→l.takeWhile p=l.take k
 | [],k,_,_=>by simp
 | a :: l,0,_,h2=>by
   have:=h2 (by simp);rw[List.takeWhile_cons_of_neg (by simpa using this)];rfl
 | a :: l,k+1,h1,h2=>by
   rw[List.takeWhile_cons_of_pos (h1 a (by simp)),a0J p l k (fun x hx=>h1 x (by simp[hx])) (fun h=>by simpa using h2 (by simpa using h))];rfl
def stL (l:List Int):Nat:=Nz.St (aiy l)
theorem avS (l:List Int):stL l≤l.length:=by
 have:=Nz.axU _ (aiy l) (Nat.le_refl _);rw[afM] at this;exact this
theorem atE (l:List Int)(k:Nat):(aiy l).getD k 0=(l.getD k 0).toNat:=by
 unfold aiy;rw[List.getD_eq_getElem?_getD,List.getD_eq_getElem?_getD,List.getElem?_map];cases l[k]? <;> simp
theorem awT {c:Int}(h:abf c=true):Blank ((c.toNat:Nat):Int):=by
 have h1:Blank c:=of_decide_eq_true h;unfold Blank at *;omega
theorem a0p (l:List Int)(h:plB (tgt l)=true):tgt l=l.take (stL l)∧(stL l < l.length→abf (l.getD (stL l) 0)=true):=by
 rcases amO (fun c=> !abf c) l with ⟨h1,h2⟩ | ⟨k,h1,h2,h3⟩
 · have e:tgt l=l:=h1;rw[e] at h
   have:stL l=l.length:=by
    unfold stL;rw[avZ _ (aiy l) (Nat.le_refl _) (awG h),afM]
   rw[this,e,List.take_length];exact⟨rfl,fun h=>by omega⟩
 · have e:tgt l=l.take k:=h2;have hb:abf (l.getD k 0)=true:=(by simpa using h3);have hbn:=awT hb
   have hk:stL l=k:=by
    unfold stL
    have hs:aiy l=(aiy l).take k++(l.getD k 0).toNat :: (aiy l).drop (k+1):=by
     conv=>lhs;rw[← List.take_append_drop k (aiy l)]
     congr 1
     rw[← atE,List.getD_eq_getElem?_getD,List.getElem?_eq_getElem (by rw[afM];exact h1),Option.getD_some,← List.drop_eq_getElem_cons]
    rw[e] at h;unfold plB at h;rw[arz] at h;have:=Nz.aqB _ ((aiy l).take k) ((aiy l).drop (k+1)) (l.getD k 0).toNat (anA hbn) (aqA hbn) (Nat.le_refl _) (awG h);rw[← hs,List.length_take,afM] at this;omega
   rw[hk];exact⟨e,fun _=>hb⟩
theorem awq (l:List Int)(hl:∀ x∈l,0≤x)(h:plB (l.take (stL l))=true)(h2:stL l < l.length→abf (l.getD (stL l) 0)=true):tgt l=l.take (stL l):=by
 refine a0J _ l (stL l) (fun x hx=> ?_) (fun hk=>by show (!abf _)=false;rw[h2 hk];rfl);have hx0:=hl x (List.mem_of_mem_take hx);have:=aoa h x.toNat (List.mem_map.2 ⟨x,hx,rfl⟩);have e:((x.toNat:Nat):Int)=x:=(by omega);rw[e] at this;simp only[Bool.not_eq_true',abf];exact decide_eq_false this
theorem aoE (l:List Int):(aau l).length=l.length:=by unfold aau;simp
def azJ (z:Bool)(l:List Int):Tk × Int:=
 if plB (l.take (stL l))=false∨(stL l < l.length∧abf (l.getD (stL l) 0)=false) then (T0,4)
 else if aau (l.take (stL l))=agx∧(z=false∨l.take (stL l)≠agx∨air (l.drop (stL l))=false) then (T0,12) else (⟨5,l,false,false⟩,0)
theorem arD (z:Bool)(l:List Int)(hl:∀ x∈l,0≤x):azJ z l=aee z l:=by
 unfold azJ aee;by_cases h:plB (tgt l)=true
 · obtain⟨h1,h2⟩:=a0p l h
   have h3:¬ (plB (l.take (stL l))=false∨(stL l < l.length∧abf (l.getD (stL l) 0)=false)):=by
    rintro (h3 | ⟨h3,h4⟩)
    · rw[← h1,h] at h3;cases h3
    · rw[h2 h3] at h4;cases h4
   rw[if_neg h3,if_neg (show ¬ plB (tgt l)=false by rw[h];simp),← h1];by_cases h4:aau (tgt l)=agx
   · have h5:stL l=3:=by
      have e:=congrArg List.length h4;rw[aoE,h1,List.length_take] at e;have:=avS l;have e2:agx.length=3:=rfl;omega
     have h6:tgt l=agx↔agx.isPrefixOf l=true:=by
      rw[h1,h5,List.isPrefixOf_iff_prefix,List.prefix_iff_eq_take];exact eq_comm
     have h7:(z=false∨tgt l≠agx∨air (l.drop (stL l))=false)↔(z=false∨ajN l=false):=by
      rw[h5];unfold ajN;by_cases g:tgt l=agx
      · rw[h6.1 g];simp[g]
      · rw[not_true (fun g2=>g (h6.2 g2))];simp[g]
     by_cases h8:z=false∨ajN l=false
     · rw[if_pos ⟨h4,h7.2 h8⟩,if_pos ⟨h4,h8⟩]
     · rw[if_neg (fun g=>h8 (h7.1 g.2)),if_neg (fun g=>h8 g.2)]
   · rw[if_neg (fun g=>h4 g.1),if_neg (fun g=>h4 g.1)]
 · have h0:=not_true h;rw[if_pos h0,if_pos];by_cases g:plB (l.take (stL l))=true
   · right;by_cases g2:stL l < l.length
     · refine⟨g2,not_true fun g3=>h ?_⟩;rw[awq l hl g (fun _=>g3)];exact g
     · exfalso;refine h ?_;rw[awq l hl g (fun g3=>absurd g3 g2)];exact g
   · exact .inl (not_true g)
def ady (l:List Int):Tk × Int:=
 if l.getLast?=some 47 then (if (60:Int)∈l.dropLast then (T0,6) else (⟨1,l.dropLast,true,false⟩,0)) else (if (60:Int)∈l then (T0,6) else (⟨1,l,false,false⟩,0))
theorem aoy (l:List Int):ady l=abZ l:=by
 unfold ady abZ;by_cases h:l.getLast?=some 47
 · have hm:(60:Int)∈l.dropLast↔(60:Int)∈l:=by
    obtain⟨y,hy⟩:=List.getLast?_eq_some_iff.1 h;rw[hy,List.dropLast_concat];simp
   rw[if_pos h];by_cases h2:(60:Int)∈l
   · rw[if_pos (hm.2 h2),if_pos h2]
   · rw[if_neg (fun g=>h2 (hm.1 g)),if_neg h2,if_pos h]
 · rw[if_neg h];by_cases h2:(60:Int)∈l
   · rw[if_pos h2,if_pos h2]
   · rw[if_neg h2,if_neg h2,if_neg h]
end Go.Proofs.YtnomcldpbkinmaaGreatDoor
namespace Go.Proofs.YtnomcldpbkinmaaGreatDoor
open Go.RowKit
theorem abw {w w1:World}(hb1:Below (w.alloc (.cells #[.int .i64 0,.string ⟨#[]⟩,.bool false,.bool false] 42)).heap.size (w.alloc (.cells #[.int .i64 0,.string ⟨#[]⟩,.bool false,.bool false] 42)) w1):
 w.heap.size < w1.heap.size∧Below w.heap.size w w1∧aiF w1 w.heap.size:=by
 have hz1:w.heap.size < w1.heap.size:=by have:=hb1.size;simp at this;omega
 have hb:=((Below.refl w.heap.size w).alloc (Nat.le_refl _) (.cells #[.int .i64 0,.string ⟨#[]⟩,.bool false,.bool false] 42)).trans (hb1.mono (by simp));exact⟨hz1,hb,(acd w).keep hb1 (by simp)⟩
theorem afG {x y:Tk × Int}{w w':World}{e:Ending}(h:x=y)(hp:aaQ y w e w'):aaQ x w e w':=by rw[h];exact hp
theorem a1v (s t:ByteArray)(at_:Int)(w:World)(C:Hid (∀ W,Calls Tryz.prog 55 #[.string s] W fun e w'=>e=.returned (.string t)∧Below W.heap.size W w')):
 Calls Tryz.prog 38 #[.int .i64 0,.string s,.int .i64 at_] w fun e w'=>e=.returned (.tuple #[.agg #[.int .i64 3,.string t,.bool false,.bool false],.int .i64 0])∧Below w.heap.size w w':=by
 go_enter Tryz.func38,Tryz.ntmps38;go_wp2_with fail;refine(C.out _).mono ?_;rintro e w1 ⟨rfl,hb1⟩;obtain⟨hz,hb,⟨c0,c1,c2,c3,f0,f1,f2,f3⟩⟩:=abw hb1;have HB:=aac hb;clear hb1 hb;go_wp2_with fail;exact bodyPost_ret (v:=.tuple #[.agg #[.int .i64 3,.string t,.bool false,.bool false],.int .i64 0]) (by simp[results,Tryz.results38,go_sem,c0,c1,c2,c3,hz]) rfl ⟨rfl,aag HB.out (Nat.le_refl _) _ _ _ _⟩
theorem ayy (s:ByteArray)(at_:Int)(w:World)(hs:s.size≤10000):Calls Tryz.prog 38 #[.int .i64 0,.string s,.int .i64 at_] w (aaQ (aeA (aad s)) w):=
 a1v s _ at_ w (aac fun W=>apx s W hs)
theorem ane (l:List Int)(h:1≤l.length):l.getLast?=some (l.getD (l.length - 1) 0):=by
 rw[List.getLast?_eq_getElem?,List.getD_eq_getElem?_getD,List.getElem?_eq_getElem (by omega)];rfl
theorem axw (s:ByteArray)(at_:Int)(w:World)(hs:s.size≤10000):Calls Tryz.prog 38 #[.int .i64 1,.string s,.int .i64 at_] w (aaQ (acg (aad s)) w):=by
 have C0:=acp s ⟨#[45,45]⟩ 0;have hq:aad ⟨#[45,45]⟩=[45,45]:=rfl;have HB:=aac ((Below.refl w.heap.size w).alloc (Nat.le_refl _) (.cells #[.int .i64 0,.string ⟨#[]⟩,.bool false,.bool false] 42));rw[hq] at C0;unfold aez at C0;rw[List.drop_zero] at C0;have C0':∀ W,Calls Tryz.prog 33 #[.string s,.int .i64 0,.string ⟨#[45,45]⟩] W _:=fun W=>C0 W (by omega) (by decide) (Nat.zero_le _);clear C0
 cases hf:fnd [45,45] (aad s) with
 | some n=>
   rw[hf] at C0';have C:=aac C0';clear C0';have HR:Hid (acg (aad s)=(T0,6)):=aac (by unfold acg;rw[if_pos (.inl (by rw[hf];rfl))]);have hn:=(abG hf).1;rw[aae] at hn;have t1:(0:Int)≤((0+n:Nat):Int):=(by omega);clear hf;generalize (0+n:Nat)=m at *;go_enter Tryz.func38,Tryz.ntmps38;go_wp2_with fail;refine(C.out _).mono ?_;rintro e w1 ⟨rfl,rfl⟩;go_wp2_with fail;refine bodyPost_ret (v:=.tuple #[tkV T0,.int .i64 6]) (by rw[tk0];simp[results,Tryz.results38,go_sem]) rfl (afG HR.out ⟨rfl,HB.out⟩)
 | none=>
   rw[hf] at C0';have C:=aac C0';clear C0';by_cases h0:s.size=0
   · have HR:Hid (acg (aad s)=(⟨4,aad s,false,false⟩,0)):=aac (by
      have:aad s=[]:=List.eq_nil_of_length_eq_zero (by rw[aae];exact h0);unfold acg;rw[if_neg (by rw[hf,this];simp)])
     have t1:¬ (0:Int) < (s.size:Int):=(by omega);have t1':¬ 0 < s.size:=(by omega);clear hf h0;go_enter Tryz.func38,Tryz.ntmps38;go_wp2_with fail;refine(C.out _).mono ?_;rintro e w1 ⟨rfl,rfl⟩;go_wp2_with fail;refine bodyPost_ret (v:=.tuple #[tkV ⟨4,aad s,false,false⟩,.int .i64 0]) (by unfold tkV;rw[abe];simp[results,Tryz.results38,go_sem]) rfl (afG HR.out ⟨rfl,(Below.refl w.heap.size w).alloc (Nat.le_refl _) _⟩)
   · have hl:=ane (aad s) (by rw[aae];omega);rw[aae] at hl;have hb:=aaG s (s.size - 1) (by omega);have t1:(0:Int) < (s.size:Int):=(by omega);have q1:IntKind.i64.wrap ((s.size:Int) - 1)=((s.size - 1:Nat):Int):=by rw[IntWalk.i64_in _ (by omega)];omega
     have d1:((s.size - 1:Nat):Int) < (s.size:Int):=(by omega);have d2:s.size - 1 < s.size:=(by omega);by_cases h45:(aad s).getD (s.size - 1) 0=45
     · have HR:Hid (acg (aad s)=(T0,6)):=aac (by unfold acg;rw[if_pos (.inr (by rw[hl,h45]))]);have t2:(((s[s.size - 1]).toNat:Int) == 45)=true:=by rw[hb];simpa using h45
       clear hf hl hb h45 h0;go_enter Tryz.func38,Tryz.ntmps38;go_wp2_with fail;refine(C.out _).mono ?_;rintro e w1 ⟨rfl,rfl⟩;go_wp2_with fail;refine bodyPost_ret (v:=.tuple #[tkV T0,.int .i64 6]) (by rw[tk0];simp[results,Tryz.results38,go_sem]) rfl (afG HR.out ⟨rfl,HB.out⟩)
     · have HR:Hid (acg (aad s)=(⟨4,aad s,false,false⟩,0)):=aac (by
        unfold acg;rw[if_neg (by rw[hf,hl];simp;intro h;exact h45 (by rw[List.getD_eq_getElem?_getD];exact h))])
       have t2:(((s[s.size - 1]).toNat:Int) == 45)=false:=by rw[hb];simpa using h45
       clear hf hl hb h45 h0;go_enter Tryz.func38,Tryz.ntmps38;go_wp2_with fail;refine(C.out _).mono ?_;rintro e w1 ⟨rfl,rfl⟩;go_wp2_with fail;refine bodyPost_ret (v:=.tuple #[tkV ⟨4,aad s,false,false⟩,.int .i64 0]) (by unfold tkV;rw[abe];simp[results,Tryz.results38,go_sem]) rfl (afG HR.out ⟨rfl,(Below.refl w.heap.size w).alloc (Nat.le_refl _) _⟩)
def RsC (s:ByteArray)(n:Nat)(b:Bool):Prop:=∀ W,Calls Tryz.prog 30 #[.string (s.extract 0 n)] W fun e w'=>(∃ a c,e=.returned (.tuple #[.string a,.string c,.bool b]))∧Below W.heap.size W w'
theorem azM (s:ByteArray)(at_:Int)(w:World)(hs:s.size≤10000):Calls Tryz.prog 38 #[.int .i64 3,.string s,.int .i64 at_] w (aaQ (akE (aad s)) w):=by
 have HE:Hid (∀ k,a2m (aad s) k→k≤s.size∧aad (s.extract 0 k)=adE (aad s)∧∃ b,RsC s k b∧akE (aad s)=if b=true then (⟨2,adE (aad s),false,false⟩,0) else (T0,4)):=aac fun k hk=>by
  have h1:=ahq hk;have h2:=hk.1;rw[aae] at h2;have h3:aad (s.extract 0 k)=adE (aad s):=(by rw[aal,h1,List.drop_zero]);have h4:s.extract 0 k=strOfNums (adE (aad s)):=aaJ h3;refine⟨h2,h3,(Nz.aao (s.extract 0 k)).2.2,fun W=>(Nz.afl (s.extract 0 k) (by rw[ByteArray.size_extract];omega) W).mono fun e w' ⟨a,b⟩=>⟨⟨_,_,a⟩,b⟩,?_⟩;unfold akE nmB;rw[← h4];cases (Nz.aao (s.extract 0 k)).2.2 <;> rfl
 have HS:=aac (fun k (h:k < s.size)=>aaG s k h);go_enter Tryz.func38,Tryz.ntmps38;go_wp2_with fail;go_loop [10] (fun i=>∃ k:Nat,i=.int .i64 k∧k≤s.size∧Hid (∀ j,k≤j→j < s.size→abf ((aad s).getD j 0)=true)) (fun i=>(intOf i).toNat);case atStart=>exact⟨s.size,rfl,Nat.le_refl _,aac fun j h1 h2=>by omega⟩
 case round=>
  obtain⟨k,rfl,hk,ho⟩:=hrel;by_cases h0:k=0
  · have t1:¬ (0:Int) < (k:Int):=(by omega);obtain⟨h2,h3,b,hC,hR⟩:=HE.out k ⟨by rw[aae];exact hk,fun j h1 h2=>ho.out j h1 (by rw[← aae];exact h2),.inl h0⟩;have C:=aac hC;have HR:=aac hR;have H3:=aac h3;clear HE HS ho hC hR h3 h0;have d0:(0:Int)≤(k:Int):=(by omega);have d1:(k:Int)≤(s.size:Int):=(by omega);cases b
    · go_wp2_with fail;refine(C.out _).mono ?_;rintro e w1 ⟨⟨a,c,rfl⟩,hb1⟩;obtain⟨hz,hb,⟨c0,c1,c2,c3,f0,f1,f2,f3⟩⟩:=abw hb1;have HB:=aac hb;clear hb1 hb;go_wp2_with fail;exact bodyPost_ret (v:=.tuple #[tkV T0,.int .i64 4]) (by rw[tk0];simp[results,Tryz.results38,go_sem,c0,c1,c2,c3,hz]) rfl (afG HR.out ⟨rfl,aag HB.out (Nat.le_refl _) _ _ _ _⟩)
    · go_wp2_with fail;refine(C.out _).mono ?_;rintro e w1 ⟨⟨a,c,rfl⟩,hb1⟩;obtain⟨hz,hb,⟨c0,c1,c2,c3,f0,f1,f2,f3⟩⟩:=abw hb1;have HB:=aac hb;clear hb1 hb;go_wp2_with fail;exact bodyPost_ret (v:=.tuple #[tkV ⟨2,adE (aad s),false,false⟩,.int .i64 0]) (by unfold tkV;rw[← H3.out,abe];simp[results,Tryz.results38,go_sem,c0,c1,c2,c3,hz]) rfl (afG HR.out ⟨rfl,aag HB.out (Nat.le_refl _) _ _ _ _⟩)
  · have t1:(0:Int) < (k:Int):=(by omega);have q1:IntKind.i64.wrap ((k:Int) - 1)=((k - 1:Nat):Int):=by rw[IntWalk.i64_in _ (by omega)];omega
    have d3:((k - 1:Nat):Int) < (s.size:Int):=(by omega);have d4:k - 1 < s.size:=(by omega);have hbb:=HS.out (k - 1) d4
    cases hq:abf ((aad s).getD (k - 1) 0) with
    | true=>
      have HO:Hid (∀ j,k - 1≤j→j < s.size→abf ((aad s).getD j 0)=true):=aac fun j h1 h2=>by
       by_cases e:j=k - 1
       · rw[e];exact hq
       · exact ho.out j (by omega) h2
      have C:=aac (azr hq);rw[← hbb] at C;clear HE HS ho hq hbb;go_wp2_with fail;refine(C.out _).mono ?_;rintro e w1 ⟨rfl,rfl⟩;go_wp2_with fail;go_round;case rel=>exact⟨k - 1,rfl,by omega,HO⟩
      case measure=>simp only[intOf];omega
    | false=>
      have C0:=aac (axK hq);rw[← hbb] at C0;obtain⟨h2,h3,b,hC,hR⟩:=HE.out k ⟨by rw[aae];exact hk,fun j h1 h2=>ho.out j h1 (by rw[← aae];exact h2),.inr hq⟩;have C:=aac hC;have HR:=aac hR;have H3:=aac h3;clear HE HS ho hC hR h3 hq hbb;have d0:(0:Int)≤(k:Int):=(by omega);have d1:(k:Int)≤(s.size:Int):=(by omega);cases b
      · go_wp2_with fail;refine(C0.out _).mono ?_;rintro e w1 ⟨rfl,rfl⟩;go_wp2_with fail;refine(C.out _).mono ?_;rintro e w1 ⟨⟨a,c,rfl⟩,hb1⟩;obtain⟨hz,hb,⟨c0,c1,c2,c3,f0,f1,f2,f3⟩⟩:=abw hb1;have HB:=aac hb;clear hb1 hb;go_wp2_with fail;exact bodyPost_ret (v:=.tuple #[tkV T0,.int .i64 4]) (by rw[tk0];simp[results,Tryz.results38,go_sem,c0,c1,c2,c3,hz]) rfl (afG HR.out ⟨rfl,aag HB.out (Nat.le_refl _) _ _ _ _⟩)
      · go_wp2_with fail;refine(C0.out _).mono ?_;rintro e w1 ⟨rfl,rfl⟩;go_wp2_with fail;refine(C.out _).mono ?_;rintro e w1 ⟨⟨a,c,rfl⟩,hb1⟩;obtain⟨hz,hb,⟨c0,c1,c2,c3,f0,f1,f2,f3⟩⟩:=abw hb1;have HB:=aac hb;clear hb1 hb;go_wp2_with fail;exact bodyPost_ret (v:=.tuple #[tkV ⟨2,adE (aad s),false,false⟩,.int .i64 0]) (by unfold tkV;rw[← H3.out,abe];simp[results,Tryz.results38,go_sem,c0,c1,c2,c3,hz]) rfl (afG HR.out ⟨rfl,aag HB.out (Nat.le_refl _) _ _ _ _⟩)
end Go.Proofs.YtnomcldpbkinmaaGreatDoor
