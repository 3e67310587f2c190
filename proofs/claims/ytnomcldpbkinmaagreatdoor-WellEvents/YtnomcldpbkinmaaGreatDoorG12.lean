/- Lemmas of the claim. -/
import Derived.Test.YtnomcldpbkinmaaGreatDoorG11
import Derived.Test.YtnomcldpbkinmaaGreatDoorG02
import Derived.Test.YtnomcldpbkinmaaGreatDoorG05
import Derived.Test.YtnomcldpbkinmaaGreatDoorG09
import Derived.Test.YtnomcldpbkinmaaGreatDoorG06
import Derived.Laws.AppendOwn
set_option maxHeartbeats 4000000
set_option maxRecDepth 100000
set_option linter.unusedSimpArgs false
set_option linter.unusedVariables false
namespace Go.Proofs.YtnomcldpbkinmaaGreatDoor
open Go.RowKit
theorem atT (s:ByteArray)(a:Nat)(w:World)(hs:s.size≤10000)(h:a+4≤s.size):
 Calls Tryz.prog 75 #[.string s,.int .i64 a] w fun e w'=>e=.returned (.bool false)∧Below w.heap.size w w':=by
 have t1:decide ((s.size:Int) - (a:Int) < 1)=false:=by simp;omega
 have t2:decide ((3:Int) < (s.size:Int) - (a:Int))=true:=by simp;omega
 go_enter Tryz.func75,Tryz.ntmps75;go_wp2;go_ret;exact⟨rfl,Below.refl _ _⟩
theorem ahV (s:ByteArray)(a:Nat)(w:World)(hs:s.size≤10000)(h:a < s.size):Calls Tryz.prog 75 #[.string s,.int .i64 a] w (arN ((aad s).drop a) w):=by
 have hl:((aad s).drop a).length=s.size - a:=(by rw[List.length_drop,aae]);by_cases h4:s.size - a≤3
 · exact aiu s a _ w hs rfl (by omega) (by omega)
 · exact(atT s a w hs (by omega)).mono fun e w' ⟨h1,h2⟩=>⟨false,h1,⟨(fun h=>by cases h),fun h=>absurd h (a3P _ (by omega))⟩,h2⟩
theorem apL (s:ByteArray)(a:Nat)(w:World)(hs:s.size≤10000)(h:a < s.size)(h7:(abd s a).2.2=7):Calls Tryz.prog 75 #[.string s,.int .i64 a] w fun e w'=>e=.returned (.bool true)∧Below w.heap.size w w':=
 (ahV s a w hs h).mono fun e w' ⟨b,h1,h2,h3⟩=>⟨by rw[h1,h2.2 (by rw[← acw s a h];exact h7)],h3⟩
theorem awc (s:ByteArray)(a:Nat)(w:World)(hs:s.size≤10000)(h:a < s.size)(h7:(abd s a).2.2≠7):Calls Tryz.prog 75 #[.string s,.int .i64 a] w fun e w'=>e=.returned (.bool false)∧Below w.heap.size w w':=
 (ahV s a w hs h).mono fun e w' ⟨b,h1,h2,h3⟩=>by
   have hb:b=false:=Bool.eq_false_iff.2 fun hb=>h7 (by rw[acw s a h];exact h2.1 hb);exact⟨by rw[h1,hb],h3⟩
def R3i (x:Int × Int × Int):Value:=.tuple #[.int .i64 x.1,.int .i64 x.2.1,.int .i64 x.2.2]
def adT (x:Int × Int × Int)(w:World)(e:Ending)(w':World):Prop:=e=.returned (R3i x)∧Below w.heap.size w w'
def azR (L:List Int)(w:World)(i:Value)(wr:World):Prop:=
 ∃ n:Nat,1≤n∧n≤5∧n≤L.length+1∧i=.int .i64 n∧(∀ m,1≤m→m < n→¬ aoc L m)∧Below w.heap.size w wr
theorem aqT (s:ByteArray)(a:Nat)(q:List Int)(hq:0 < q.length)(h:a+q.length≤s.size):asK s a q↔((aad s).drop a).take q.length=q:=by
 have hg:∀ j,bt s (a+j)=((aad s).drop a).getD j 0:=fun j=>by
  rw[abx];simp[List.getD_eq_getElem?_getD,List.getElem?_drop]
 have hl:((aad s).drop a).length=s.size - a:=(by rw[List.length_drop,aae]);generalize (aad s).drop a=L at *;refine⟨fun ⟨_,_,h1⟩=> ?_,fun h1=>⟨hq,h,fun j hj=> ?_⟩⟩
 · refine List.ext_getElem (by rw[List.length_take];omega) fun i i1 i2=> ?_;have:=h1 i i2;rw[hg i] at this;simp only[List.getD_eq_getElem?_getD,List.getElem?_eq_getElem i2,List.getElem?_eq_getElem (show i < L.length by omega),Option.getD_some] at this;rw[List.getElem_take];exact this
 · rw[hg j];have:=congrArg (fun l=>l.getD j 0) h1;simp only[List.getD_eq_getElem?_getD,List.getElem?_take,hj,if_true] at this ⊢;exact this
theorem aga {L:List Int}{n:Nat}(h:∀ m,1≤m→m < n→¬ aoc L m)(hn:¬ aoc L n):∀ m,1≤m→m < n+1→¬ aoc L m:=fun j j1 j2=>by
 rcases Nat.lt_or_ge j n with h' | h'
 · exact h j j1 h'
 · obtain rfl:j=n:=(by omega);exact hn
theorem asV (s:ByteArray)(a n:Nat)(h2:2≤n):akD (fun i=>bt s (a+i)) n n=vAt ((aad s).drop a) n:=by
 rw[vAt,if_neg (by omega)];unfold amf
 congr 1
 funext j
 rw[abx];simp[List.getD_eq_getElem?_getD,List.getElem?_drop]
theorem azS {L:List Int}(hl:L≠[])(hn:NN L)(h:∀ m,1≤m→m≤4→m≤L.length→¬ aoc L m):(aaO L).2.2≠0:=fun h0=>by
 obtain⟨n,n1,n4,nl,ht⟩:=axD L hl hn h0;exact h n n1 n4 nl ht
theorem alh (s:ByteArray)(a:Nat)(L:List Int)(w:World)(hs:s.size≤10000)(ha:a < s.size)(hL:L=(aad s).drop a):
 Calls Tryz.prog 53 #[.string s,.int .i64 a] w (adT (abd s a) w):=by
 have hlen:L.length=s.size - a:=(by rw[hL,List.length_drop,aae]);have hdec:=acw s a ha;rw[← hL] at hdec;have hne:L≠[]:=fun e=>by rw[e] at hlen;simp at hlen;omega
 have hnn:NN L:=by rw[hL];exact(acS s).drop a
 have hk:=acv s a ha;have HL:=aac hL;have HD:=aac hdec;have HE:=aac (fun h=>azS hne hnn h);have HK:=aac hk;have hl1:L.length≤s.size - a:=(by omega);have hl2:s.size - a≤L.length:=(by omega);clear hlen hdec hne hnn hk hL;have t1:decide ((a:Int) < 0)=false:=(by simp);have t2:decide (s.size≤a)=false:=by simp;omega
 go_enter Tryz.func53,Tryz.ntmps53;go_wp2_with fail;go_loopw [7] (fun i wr=>azR L w i wr) (fun i _=>5 - (intOf i).toNat);case atStart=>exact⟨1,by omega,by omega,by omega,rfl,fun m m1 m2=>by omega,Below.refl _ _⟩
 case round=>
  obtain⟨n,hn1,hn5,hnl,rfl,hno,hbel⟩:=hrel;have HNO:=aac hno;clear hno;have hsz:=hbel.size;by_cases h4:n≤4
  · have t4:decide ((n:Int)≤4)=true:=by simp;omega
    by_cases hfit:a+n≤s.size
    · have t5:decide ((a:Int)+(n:Int)≤(s.size:Int))=true:=by simp;omega
      have hx:=afv s a ha;have HX:=aac hx;clear hx;by_cases hone:n=1
      · have tgt:decide ((1:Int) < (n:Int))=false:=by simp;omega
        have hv:((s[a].toNat:Nat):Int)=vAt L n:=by
         rw[HX.out,abx,hone,vAt,if_pos rfl,HL.out];simp[List.getD_eq_getElem?_getD,List.getElem?_drop]
        have HV:=aac hv;have hby:(s[a].toNat:Int) < 256:=by have:=s[a].toNat_lt;omega
        clear hv hone;go_wp2_with fail;rw[HV.out];clear HV;have HT:=aac (show aoc L n↔((aaL (vAt L n)).length=n∧L.take n=aaL (vAt L n)) from Iff.rfl);have HTD:=aac (fun h=>aqk L n hn1 h);generalize vAt L n=V at *;have C1:=aac (fun W=>aaE V W);generalize aaL V=q at HT C1;refine(C1.out _).mono ?_;rintro e w5 ⟨p,rfl,hown5,hbel5⟩;obtain⟨A5,c5,rfl,rd5⟩:=aeH hown5;clear hown5 C1;have hb6:Below w.heap.size w w5:=hbel.trans (hbel5.mono hsz);by_cases hql:q.length=n
        · have tq:((q.length:Int) == (n:Int))=true:=by simp;omega
          have HP:=aac (aqT s a q (by omega) (by omega));by_cases hit:L.take n=q
          · have CB:=afw s a A5 c5 q w5 rd5 (by omega) (by omega) (by omega) (by rw[HP.out,← HL.out,hql];exact hit);have HB:=aac CB;have HR:Hid (abd s a=(V,(n:Int),0)):=by show _=_;rw[HD.out];exact HTD.out (HT.out.2 ⟨hql,hit⟩)
            have HQ:=aac hql;clear CB hit hql HT HTD;go_wp2_with (go_at_call 74;refine HB.out.mono ?_;rintro e w9 ⟨rfl,hb9⟩);go_ret3;exact⟨by rw[HR.out];rfl,hb6.trans (hb9.mono hb6.size)⟩
          · have CB:=ahb s a A5 c5 q w5 rd5 (by omega) (by omega) (by omega) (by rw[HP.out,← HL.out,hql];exact hit);have HB:=aac CB;have HNT:Hid (∀ m,1≤m→m < n+1→¬ aoc L m):=aga HNO.out fun h=>hit (HT.out.1 h).2;have HQ:=aac hql;clear CB hit hql HT HTD HNO;go_wp2_with (go_at_call 74;refine HB.out.mono ?_;rintro e w9 ⟨rfl,hb9⟩);go_roundw;case rel=>exact⟨n+1,by omega,by omega,by omega,by go_num,HNT.out,hb6.trans (hb9.mono hb6.size)⟩
            case measure=>simp[intOf];omega
        · have tq:((q.length:Int) == (n:Int))=false:=by simp;omega
          have HNT:Hid (∀ m,1≤m→m < n+1→¬ aoc L m):=aga HNO.out fun h=>hql (HT.out.1 h).1;clear hql HT HTD HNO;go_wp2;go_roundw;case rel=>exact⟨n+1,by omega,by omega,by omega,by go_num,HNT.out,hb6⟩
          case measure=>simp[intOf];omega
      · have tgt:decide ((1:Int) < (n:Int))=true:=by simp;omega
        have CV:=akm s a n wr (by omega) hfit (by omega) h4;rw[asV s a n (by omega),← HL.out] at CV;have HV:=aac CV;clear CV hone;go_wp2_with fail;refine HV.out.mono ?_;rintro e w4 ⟨rfl,rfl⟩;clear HV;go_wp2_with fail;have HT:=aac (show aoc L n↔((aaL (vAt L n)).length=n∧L.take n=aaL (vAt L n)) from Iff.rfl);have HTD:=aac (fun h=>aqk L n hn1 h);generalize vAt L n=V at *;have C1:=aac (fun W=>aaE V W);generalize aaL V=q at HT C1;refine(C1.out _).mono ?_;rintro e w5 ⟨p,rfl,hown5,hbel5⟩;obtain⟨A5,c5,rfl,rd5⟩:=aeH hown5;clear hown5 C1;have hb6:Below w.heap.size w w5:=hbel.trans (hbel5.mono hsz);by_cases hql:q.length=n
        · have tq:((q.length:Int) == (n:Int))=true:=by simp;omega
          have HP:=aac (aqT s a q (by omega) (by omega));by_cases hit:L.take n=q
          · have CB:=afw s a A5 c5 q w5 rd5 (by omega) (by omega) (by omega) (by rw[HP.out,← HL.out,hql];exact hit);have HB:=aac CB;have HR:Hid (abd s a=(V,(n:Int),0)):=by show _=_;rw[HD.out];exact HTD.out (HT.out.2 ⟨hql,hit⟩)
            have HQ:=aac hql;clear CB hit hql HT HTD;go_wp2_with (go_at_call 74;refine HB.out.mono ?_;rintro e w9 ⟨rfl,hb9⟩);go_ret3;exact⟨by rw[HR.out];rfl,hb6.trans (hb9.mono hb6.size)⟩
          · have CB:=ahb s a A5 c5 q w5 rd5 (by omega) (by omega) (by omega) (by rw[HP.out,← HL.out,hql];exact hit);have HB:=aac CB;have HNT:Hid (∀ m,1≤m→m < n+1→¬ aoc L m):=aga HNO.out fun h=>hit (HT.out.1 h).2;have HQ:=aac hql;clear CB hit hql HT HTD HNO;go_wp2_with (go_at_call 74;refine HB.out.mono ?_;rintro e w9 ⟨rfl,hb9⟩);go_roundw;case rel=>exact⟨n+1,by omega,by omega,by omega,by go_num,HNT.out,hb6.trans (hb9.mono hb6.size)⟩
            case measure=>simp[intOf];omega
        · have tq:((q.length:Int) == (n:Int))=false:=by simp;omega
          have HNT:Hid (∀ m,1≤m→m < n+1→¬ aoc L m):=aga HNO.out fun h=>hql (HT.out.1 h).1;clear hql HT HTD HNO;go_wp2;go_roundw;case rel=>exact⟨n+1,by omega,by omega,by omega,by go_num,HNT.out,hb6⟩
          case measure=>simp[intOf];omega
    · have t5:decide ((a:Int)+(n:Int)≤(s.size:Int))=false:=by simp;omega
      have HR:Hid ((abd s a).2.2≠0):=by
       show _≠_;rw[HD.out];exact HE.out fun m m1 m4 ml=>HNO.out m m1 (by omega)
      have hk:=HK.out;have hr2:=HR.out;clear HR HK HNO HE HD;obtain⟨x1,x2,x3,hx⟩:∃ x1 x2 x3,abd s a=(x1,x2,x3):=⟨_,_,_,rfl⟩;rw[hx] at hk hr2;unfold aoY at hk;dsimp only at hk hr2;have z1:x1=0:=(by omega);have z2:x2=0:=(by omega);have z3:x3=2∨x3=7:=(by omega);subst z1 z2;clear hk hr2;rcases z3 with rfl | rfl
      · have CC:=awc s a wr hs ha (by rw[hx];simp);have HC:=aac CC;have HXX:=aac hx;clear CC hx;go_wp2_with (go_at_call 75;refine HC.out.mono ?_;rintro e w9 ⟨rfl,hb9⟩);go_ret3;exact⟨by rw[HXX.out];rfl,hbel.trans (hb9.mono hsz)⟩
      · have CC:=apL s a wr hs ha (by rw[hx]);have HC:=aac CC;have HXX:=aac hx;clear CC hx;go_wp2_with (go_at_call 75;refine HC.out.mono ?_;rintro e w9 ⟨rfl,hb9⟩);go_ret3;exact⟨by rw[HXX.out];rfl,hbel.trans (hb9.mono hsz)⟩
  · have t4:decide ((n:Int)≤4)=false:=by simp;omega
    have HR:Hid ((abd s a).2.2≠0):=by
     show _≠_;rw[HD.out];exact HE.out fun m m1 m4 ml=>HNO.out m m1 (by omega)
    have hk:=HK.out;have hr2:=HR.out;clear HR HK HNO HE HD;obtain⟨x1,x2,x3,hx⟩:∃ x1 x2 x3,abd s a=(x1,x2,x3):=⟨_,_,_,rfl⟩;rw[hx] at hk hr2;unfold aoY at hk;dsimp only at hk hr2;have z1:x1=0:=(by omega);have z2:x2=0:=(by omega);have z3:x3=2∨x3=7:=(by omega);subst z1 z2;clear hk hr2;rcases z3 with rfl | rfl
    · have CC:=awc s a wr hs ha (by rw[hx];simp);have HC:=aac CC;have HXX:=aac hx;clear CC hx;go_wp2_with (go_at_call 75;refine HC.out.mono ?_;rintro e w9 ⟨rfl,hb9⟩);go_ret3;exact⟨by rw[HXX.out];rfl,hbel.trans (hb9.mono hsz)⟩
    · have CC:=apL s a wr hs ha (by rw[hx]);have HC:=aac CC;have HXX:=aac hx;clear CC hx;go_wp2_with (go_at_call 75;refine HC.out.mono ?_;rintro e w9 ⟨rfl,hb9⟩);go_ret3;exact⟨by rw[HXX.out];rfl,hbel.trans (hb9.mono hsz)⟩
theorem akn (s:ByteArray)(a:Int)(w:World)(hs:s.size≤10000)(ha:a < 0∨(s.size:Int)≤a):
 Calls Tryz.prog 53 #[.string s,.int .i64 a] w (adT (0,0,7) w):=by
 by_cases h:a < 0
 · clear ha;go_enter Tryz.func53,Tryz.ntmps53;go_wp2;go_ret3;exact⟨rfl,Below.refl _ _⟩
 · have h2:(s.size:Int)≤a:=(by omega);clear ha;go_enter Tryz.func53,Tryz.ntmps53;go_wp2;go_ret3;exact⟨rfl,Below.refl _ _⟩
theorem afE (s:ByteArray)(a:Int)(w:World)(hs:s.size≤10000):
 Calls Tryz.prog 53 #[.string s,.int .i64 a] w (adT (abd s a) w):=by
 by_cases h:a < 0∨(s.size:Int)≤a
 · have:abd s a=(0,0,7):=by unfold abd;rw[if_pos h]
   rw[this];exact akn s a w hs h
 · obtain⟨n,rfl⟩:=Int.eq_ofNat_of_zero_le (show 0≤a by omega);exact alh s n _ w hs (by omega) rfl
end Go.Proofs.YtnomcldpbkinmaaGreatDoor
namespace Go.Proofs.YtnomcldpbkinmaaGreatDoor
open Go.RowKit
theorem Tryz.info21:(Tryz.prog.info? 21).map (fun i=>(i.zero,i.size,i.bytes))=some (some (.int .i32 0),1,4):=by kernel_rfl
def Own (w:World)(B:Nat)(v:Value)(l:List Int):Prop:=w.ownsRow B 21 1 v l.length (l.map (Value.int .i32))
def ahm (s:ByteArray)(w:World)(x:List Int × Int × Int)(e:Ending)(w':World):Prop:=
 ∃ v,e=.returned (.tuple #[v,.int .i64 x.2.1,.int .i64 x.2.2])∧Own w' w.heap.size v x.1∧Below w.heap.size w w'
def akg (s:ByteArray)(w:World)(v i:Value)(wr:World):Prop:=
 ∃ (a:Nat) (pre:List Int),a≤s.size∧i=.int .i64 a∧Own wr w.heap.size v pre∧Below w.heap.size w wr∧pre.length≤a∧aiV s=(pre++(aef s a).1,(aef s a).2)
theorem ajZ {w w':World}{B:Nat}{e:TypeId}{size:Nat}{v:Value}{n:Nat}{xs:List Value}(h:w.ownsRow B e size v n xs)(hb:Below w.heap.size w w'):w'.ownsRow B e size v n xs:=by
 rcases h with ⟨h1,⟨rfl,h0⟩ | ⟨g,cap,cur,rfl,hg,hh,h3,h4,h5,h6⟩⟩
 · exact⟨h1,.inl ⟨rfl,h0⟩⟩
 · refine⟨h1,.inr ⟨g,cap,cur,rfl,hg,?_,h3,h4,h5,h6⟩⟩
   rw[hb.block g (by
    rcases Nat.lt_or_ge g w.heap.size with hlt | hge
    · exact hlt
    · rw[Array.getElem?_eq_none hge] at hh;cases hh)]
   exact hh
theorem alb (s:ByteArray)(w:World)(hs:s.size≤10000):
 Calls Tryz.prog 48 #[.string s] w (ahm s w (aiV s)):=by
 obtain⟨i0,hi,hz0,hz1,hz2⟩:=info_parts Tryz.info21;go_enter Tryz.func48,Tryz.ntmps48;go_wp2_with fail;go_loopw [5,6] (fun v i wr=>akg s w v i wr) (fun _ i _=>s.size - (intOf i).toNat);case atStart=>exact⟨0,[],Nat.zero_le _,rfl,World.ownsRow_nil _ _ _ _,Below.refl _ _,Nat.le_refl _,by simp[aqQ]⟩
 case round=>
  obtain⟨a,pre,ha,rfl,hown,hbel,hpre,hall⟩:=hrel;by_cases hlt:a < s.size
  · have hk:=acv s a hlt;obtain⟨r,n,er,hx⟩:∃ r n er,abd s a=(r,n,er):=⟨_,_,_,rfl⟩;have hc:=afE s a wr hs;have H0:=ake s a hlt;have H1:=amt s a hlt;rw[hx] at hk hc H0 H1;clear hx;unfold aoY at hk;unfold adT R3i at hc;dsimp only at hk hc H0 H1;have HC:=aac hc;clear hc;by_cases he:er=0
    · subst he;have hn:1≤n∧n≤(s.size - a:Nat):=(by omega);have hr1:0≤r∧r≤1114111:=by omega
      have HF:Hid (aiV s=((pre++[r])++(aef s (a+n.toNat)).1,(aef s (a+n.toNat)).2)):=by
       rw[H1 rfl] at hall;show aiV s=_;rw[hall];simp
      obtain⟨n,rfl⟩:=Int.eq_ofNat_of_zero_le (show 0≤n by omega);rw[Int.toNat_natCast] at HF;have hl2:=hbel.size;clear H0 H1 hall hk;go_wp2_with fail;refine HC.out.mono ?_;rintro e w1 ⟨rfl,hb1⟩;have hown1:=ajZ hown hb1;have hbel1:=hbel.trans (hb1.mono hl2);have hl3:=hbel1.size;have hown':=hown1.alloc (.cells #[.int .i32 r] 21);go_wp2_with (at_builtin;refine wpList_append_own _ rfl _ _ 101 rfl w.heap.size 21 i0 (.int .i32 0) 1 4 Tryz.underlying101 hi hz0 hz1 hz2 rfl (by decide) _ _ _ rfl hown' ⟨w1.heap.size,0,none⟩ 1 1 [.int .i32 r] rfl rfl (aaT w1 #[.int .i32 r] 21) (ints_oneCell .i32 [r]) (by unfold maxLen;omega) (by omega) (by simp;omega) ?_);intro v' w2 hown2 hgrow _;go_wp2;go_roundw
      case rel=>
       refine⟨a+n,pre++[r],by omega,by go_num,?_,?_,by simp;omega,HF.out⟩
       · unfold Own;rw[List.map_append,List.length_append];exact hown2
       · exact(hbel1.alloc hl3 _).grown hgrow (by simp;omega) (fun g hg=>(hown.lt g hg).1)
      case measure=>simp[intOf];omega
    · have HF:Hid (aiV s=(pre,(a:Int),er)):=by
       rw[H0 he] at hall;show aiV s=_;rw[hall];simp
      have te:(er != 0)=true:=(by simpa using he);clear H0 H1 hall hk he;go_wp2_with fail;refine HC.out.mono ?_;rintro e w1 ⟨rfl,hb1⟩;have hown1:=ajZ hown hb1;have hbel1:=hbel.trans (hb1.mono hbel.size);go_wp2;go_ret3;rw[HF.out];exact⟨_,rfl,hown1,hbel1⟩
  · have HF:Hid (aiV s=(pre,(a:Int),0)):=by
     rw[ahK s a (by omega)] at hall;show aiV s=_;rw[hall];simp
    clear hall;go_wp2;go_ret3;rw[HF.out];exact⟨_,rfl,hown,hbel⟩
end Go.Proofs.YtnomcldpbkinmaaGreatDoor
namespace Go.Proofs.YtnomcldpbkinmaaGreatDoor
open Go.RowKit
theorem anZ (r:Int)(w:World):Calls Tryz.prog 69 #[.int .i64 r] w fun e w'=>e=.returned (.bool (decide (Blank r)))∧w=w':=by
 go_enter Tryz.func69,Tryz.ntmps69;go_wp2
 all_goals
  go_ret;refine⟨abT ?_,rfl⟩
  first
   | refine cbt ?_
   | refine cbf ?_
   | (refine Bool.eq_iff_iff.2 ?_;simp only[decide_eq_true_eq,Bool.or_eq_true,beq_iff_eq])
  try simp only[beq_iff_eq,Bool.or_eq_true,Bool.and_eq_true,decide_eq_true_eq,decide_eq_false_iff_not,beq_eq_false_iff_ne] at *
  simp only[Part,Start,Chr,Blank,Btw] at *
  first
   | omega
   | (constructor <;> intro hq <;> omega)
theorem abp (r:Int)(w:World):Calls Tryz.prog 49 #[.int .i64 r] w fun e w'=>e=.returned (.bool (decide (Chr r)))∧w=w':=by
 go_enter Tryz.func49,Tryz.ntmps49;go_wp2_with (first | (go_at_call 69;refine(anZ _ _).mono ?_;rintro e w' ⟨rfl,rfl⟩))
 all_goals
  go_ret;refine⟨abT ?_,rfl⟩
  first
   | refine cbt ?_
   | refine cbf ?_
   | (refine Bool.eq_iff_iff.2 ?_;simp only[decide_eq_true_eq,Bool.or_eq_true,beq_iff_eq])
  try simp only[beq_iff_eq,Bool.or_eq_true,Bool.and_eq_true,decide_eq_true_eq,decide_eq_false_iff_not,beq_eq_false_iff_ne] at *
  simp only[Part,Start,Chr,Blank,Btw] at *
  first
   | omega
   | (constructor <;> intro hq <;> omega)
end Go.Proofs.YtnomcldpbkinmaaGreatDoor
namespace Go.Proofs.YtnomcldpbkinmaaGreatDoor.Tg
open Go.RowKit
theorem amW {l:List Int}{k:Nat}(h:∀ x∈l.take k,Chr x)(hk:k < l.length)(hc:Chr (l.getD k 0)):∀ x∈l.take (k+1),Chr x:=by
 intro x hx;rw[List.take_succ_eq_append_getElem hk] at hx;rcases List.mem_append.1 hx with hx | hx
 · exact h x hx
 · simp only[List.mem_singleton] at hx;rw[hx]
   simpa [List.getElem?_eq_getElem hk] using hc
theorem ajb {l:List Int}{k:Nat}(hk:k < l.length):l.getD k 0∈l:=by
 simp[List.getElem?_eq_getElem hk]
end Go.Proofs.YtnomcldpbkinmaaGreatDoor.Tg
namespace Go.Proofs.YtnomcldpbkinmaaGreatDoor.Tg
open Go.RowKit
def pk (s:ByteArray)(k:Nat):Nat:=k+bk (Nz.fr s k)
theorem drop_at (l:List Int)(k:Nat)(h:k < l.length):l.drop k=l.getD k 0 :: l.drop (k+1):=by
 rw[List.drop_eq_getElem_cons h,List.getD_eq_getElem?_getD,List.getElem?_eq_getElem h];rfl
theorem a1e (s:ByteArray)(k:Nat)(h:k < s.size)(hb:abf ((aad s).getD k 0)=true):pk s k=pk s (k+1):=by
 unfold pk bk;rw[acf,acf,drop_at (aad s) k (by rw[aae];exact h),List.takeWhile_cons_of_pos hb,List.length_cons];omega
theorem a2G (s:ByteArray)(k:Nat)(h:k < s.size)(hb:abf ((aad s).getD k 0)=false):pk s k=k:=by
 unfold pk bk;rw[acf,drop_at (aad s) k (by rw[aae];exact h),List.takeWhile_cons_of_neg (by rw[hb];decide),List.length_nil];omega
theorem a1p (s:ByteArray):pk s s.size=s.size:=by
 unfold pk bk;rw[acf,List.drop_of_length_le (by rw[aae];omega)];rfl
theorem auh (s:ByteArray)(k:Nat)(h:k≤s.size):pk s k≤s.size:=by
 unfold pk;have:=a1E (Nz.fr s k);rw[Nz.aaN] at this;omega
theorem acG (s:ByteArray)(a:Nat)(w:World)(hs:s.size≤1000000)(ha:a≤s.size):
 Calls Tryz.prog 44 #[.string s,.int .i64 a] w fun e w'=>e=.returned (.int .i64 (pk s a:Int))∧w=w':=by
 have HY:=aac (a1e s);have HO:=aac (a2G s);have HE:=aac (a1p s);obtain⟨res,hres⟩:∃ res,res=pk s a:=⟨_,rfl⟩;rw[← hres];have HQ:=aac hres;clear hres;go_enter Tryz.func44,Tryz.ntmps44;go_wp2_with fail;go_loop [1] (fun i=>∃ k:Nat,i=.int .i64 k∧k≤s.size∧Hid (res=pk s k)) (fun i=>s.size - (intOf i).toNat);case atStart=>exact⟨a,rfl,ha,HQ⟩
 case round=>
  obtain⟨k,rfl,hk,hr⟩:=hrel;by_cases hlt:k < s.size
  · have hb:=aaG s k hlt;have d1:(k:Int) < (s.size:Int):=(by omega);have d0:(0:Int)≤(k:Int):=(by omega);have hY:=HY.out k hlt;have hO:=HO.out k hlt;rw[← hb] at hY hO;by_cases h9:((s[k].toNat:Nat):Int)=9
    · have HR:Hid (res=pk s (k+1)):=aac (by rw[hr.out,hY (by rw[h9];rfl)]);have t9:(((s[k].toNat:Nat):Int) == 9)=true:=by rw[beq_iff_eq];exact h9
      clear hY hO hr hb HY HO HE HQ h9;go_wp2_with fail;go_round;case rel=>exact⟨k+1,by go_num,by omega,HR⟩
      case measure=>simp only[intOf];omega
    have t9:(((s[k].toNat:Nat):Int) == 9)=false:=by rw[beq_eq_false_iff_ne];exact h9
    by_cases h10:((s[k].toNat:Nat):Int)=10
    · have HR:Hid (res=pk s (k+1)):=aac (by rw[hr.out,hY (by rw[h10];rfl)]);have t10:(((s[k].toNat:Nat):Int) == 10)=true:=by rw[beq_iff_eq];exact h10
      clear hY hO hr hb HY HO HE HQ h9 h10;go_wp2_with fail;go_round;case rel=>exact⟨k+1,by go_num,by omega,HR⟩
      case measure=>simp only[intOf];omega
    have t10:(((s[k].toNat:Nat):Int) == 10)=false:=by rw[beq_eq_false_iff_ne];exact h10
    by_cases h13:((s[k].toNat:Nat):Int)=13
    · have HR:Hid (res=pk s (k+1)):=aac (by rw[hr.out,hY (by rw[h13];rfl)]);have t13:(((s[k].toNat:Nat):Int) == 13)=true:=by rw[beq_iff_eq];exact h13
      clear hY hO hr hb HY HO HE HQ h9 h10 h13;go_wp2_with fail;go_round;case rel=>exact⟨k+1,by go_num,by omega,HR⟩
      case measure=>simp only[intOf];omega
    have t13:(((s[k].toNat:Nat):Int) == 13)=false:=by rw[beq_eq_false_iff_ne];exact h13
    by_cases h32:((s[k].toNat:Nat):Int)=32
    · have HR:Hid (res=pk s (k+1)):=aac (by rw[hr.out,hY (by rw[h32];rfl)]);have t32:(((s[k].toNat:Nat):Int) == 32)=true:=by rw[beq_iff_eq];exact h32
      clear hY hO hr hb HY HO HE HQ h9 h10 h13 h32;go_wp2_with fail;go_round;case rel=>exact⟨k+1,by go_num,by omega,HR⟩
      case measure=>simp only[intOf];omega
    have t32:(((s[k].toNat:Nat):Int) == 32)=false:=by rw[beq_eq_false_iff_ne];exact h32
    have HR:Hid (res=k):=aac (by
     rw[hr.out,hO (by unfold abf;rw[decide_eq_false_iff_not];unfold Blank;omega)])
    clear hY hO hr hb HY HO HE HQ h9 h10 h13 h32;go_wp2_with fail;go_ret;exact⟨by rw[HR.out];rfl,rfl⟩
  · have d1:¬ (k:Int) < (s.size:Int):=(by omega);have HR:Hid (res=k):=aac (by rw[hr.out,show k=s.size by omega,HE.out]);clear hr HY HO HE HQ;go_wp2_with fail;go_ret;exact⟨by rw[HR.out];rfl,rfl⟩
end Go.Proofs.YtnomcldpbkinmaaGreatDoor.Tg
namespace Go.Proofs.YtnomcldpbkinmaaGreatDoor.Nz
open Go.RowKit
def eS (c:Nat):Nat:=if c < 128 then 1 else if c < 2048 then 2 else if c < 65536 then 3 else 4
theorem avB (c:Nat)(h:Val (c:Int)):(Utf8.encode (c:Int)).size=eS c:=by
 have hv:=ayA h;unfold Utf8.encode eS;simp only[hv,if_true,Int.toNat_natCast];by_cases h1:c < 128
 · simp only[h1,if_true];rfl
 · by_cases h2:c < 2048
   · simp only[h1,h2,if_true,if_false];rfl
   · by_cases h3:c < 65536
     · simp only[h1,h2,h3,if_true,if_false];rfl
     · simp only[h1,h2,h3,if_true,if_false];rfl
def Fd (n b0 b1 b2:Nat):Prop:=3≤n∧b0=239∧b1=191∧b2=189
instance (n b0 b1 b2:Nat):Decidable (Fd n b0 b1 b2):=inferInstanceAs (Decidable (3≤n∧b0=239∧b1=191∧b2=189))
theorem azT (n b0 b1 b2 b3:Nat)(h0:b0 < 256):(Lib.decodeN n b0 b1 b2 b3).2=if (Lib.decodeN n b0 b1 b2 b3).1=65533∧¬ Fd n b0 b1 b2 then 1 else eS (Lib.decodeN n b0 b1 b2 b3).1:=by
 have hfd:∀ {α:Type} (p:Prop) [Decidable p] (x y:α),(if p∧¬ Fd n b0 b1 b2 then x else y)=if p∧¬ (3≤n∧b0=239∧b1=191∧b2=189) then x else y:=fun p _ x y=>rfl
 rw[hfd];unfold Lib.decodeN eS;by_cases g0:b0 < 128
 · simp only[g0,if_true];rw[if_neg (by omega)]
 · simp only[g0,if_false];by_cases g1:b0 / 32=6∧(1 < n∧b1 / 64=2)
   · rw[if_pos g1];by_cases v1:b0 % 32 * 64+b1 % 64 ≥ 128
     · rw[if_pos v1];dsimp only;rw[if_neg (by omega),if_neg (by omega),if_pos (by omega)]
     · rw[if_neg v1];dsimp only;rw[if_pos ⟨rfl,by omega⟩]
   · rw[if_neg g1];by_cases g2:b0 / 16=14∧(1 < n∧b1 / 64=2)∧(2 < n∧b2 / 64=2)
     · rw[if_pos g2];by_cases v2:b0 % 16 * 4096+b1 % 64 * 64+b2 % 64 ≥ 2048∧(b0 % 16 * 4096+b1 % 64 * 64+b2 % 64 < 55296∨(57344≤b0 % 16 * 4096+b1 % 64 * 64+b2 % 64∧b0 % 16 * 4096+b1 % 64 * 64+b2 % 64≤1114111))
       · rw[if_pos v2];dsimp only;rw[if_neg (by omega),if_neg (by omega),if_neg (by omega),if_pos (by omega)]
       · rw[if_neg v2];dsimp only;rw[if_pos ⟨rfl,by omega⟩]
     · rw[if_neg g2];have nf:¬ (3≤n∧b0=239∧b1=191∧b2=189):=(by omega);by_cases g3:b0 / 8=30∧(1 < n∧b1 / 64=2)∧(2 < n∧b2 / 64=2)∧(3 < n∧b3 / 64=2)
       · rw[if_pos g3];by_cases v3:b0 % 8 * 262144+b1 % 64 * 4096+b2 % 64 * 64+b3 % 64 ≥ 65536∧(b0 % 8 * 262144+b1 % 64 * 4096+b2 % 64 * 64+b3 % 64 < 55296∨(57344≤b0 % 8 * 262144+b1 % 64 * 4096+b2 % 64 * 64+b3 % 64∧b0 % 8 * 262144+b1 % 64 * 4096+b2 % 64 * 64+b3 % 64≤1114111))
         · rw[if_pos v3];dsimp only;rw[if_neg (by omega),if_neg (by omega),if_neg (by omega),if_neg (by omega)]
         · rw[if_neg v3];dsimp only;rw[if_pos ⟨rfl,nf⟩]
       · rw[if_neg g3];dsimp only;rw[if_pos ⟨rfl,nf⟩]
theorem a2t (s:ByteArray):∀ x∈bl s,x < 256:=by
 intro x hx;unfold bl at hx;obtain⟨y,_,rfl⟩:=List.mem_map.1 hx;exact y.toNat_lt
theorem take3 (L:List Nat):(L.take 3=[239,191,189])↔Fd L.length (L.getD 0 0) (L.getD 1 0) (L.getD 2 0):=by
 unfold Fd
 match L with
 | []=>simp
 | [a]=>simp
 | [a,b]=>simp
 | a :: b :: c :: L=>simp
theorem a4r (L:List Nat)(h:∀ x∈L,x < 256):(dN L).2=if (dN L).1=65533∧¬ L.take 3=[239,191,189] then 1 else eS (dN L).1:=by
 have h0:L.getD 0 0 < 256:=by
  match L with
  | []=>decide
  | a :: L=>exact h a (by simp)
 have:=azT L.length (L.getD 0 0) (L.getD 1 0) (L.getD 2 0) (L.getD 3 0) h0
 have e:(if (dN L).1=65533∧¬ L.take 3=[239,191,189] then 1 else eS (dN L).1)=if (dN L).1=65533∧¬ Fd L.length (L.getD 0 0) (L.getD 1 0) (L.getD 2 0) then 1 else eS (dN L).1:=by
  by_cases hf:Fd L.length (L.getD 0 0) (L.getD 1 0) (L.getD 2 0)
  · rw[if_neg (fun h=>h.2 ((take3 L).2 hf)),if_neg (fun h=>h.2 hf)]
  · by_cases hr:(dN L).1=65533
    · rw[if_pos ⟨hr,fun h=>hf ((take3 L).1 h)⟩,if_pos ⟨hr,hf⟩]
    · rw[if_neg (fun h=>hr h.1),if_neg (fun h=>hr h.1)]
 rw[e];exact this
theorem atW (w:World)(s:ByteArray)(hs:s.size≤10000):∃ c w1,anb w s c w1∧(runes s).length≤c:=by
 have hl:=aeK s;have hrun:=run_runes_of_string (P:=Tryz.prog) w 9 101 21 s Tryz.underlying9 Tryz.underlying101 Tryz.underlying21 (by rw[abU];simp;omega);rw[abU] at hrun;have hz:((runes s).map (Value.int .i32)).toArray.size=(runes s).length:=(by simp);rw[hz] at hrun;obtain⟨c,w1,h1,h2⟩:=aii w s hs;refine⟨c,w1,⟨h1,h2⟩,?_⟩;rw[h1] at hrun
 have hc:c=grownCap w (runes s).length 0 21:=by
  injection hrun with e1 e2
  injection e1
 rw[hc];exact grownCap_ge _ _ _ _
theorem auA (w:World)(b j c:Nat)(x:Int)(h:w.cell? ⟨b,j,none⟩=some (.int .i32 x)):
 (convert 101 9 (.slice (some ⟨b,j,none⟩) 1 c)).run Tryz.prog w=.ok (.string (Utf8.encode x)) w:=by
 have hc:=run_convert_runes (P:=Tryz.prog) w 101 9 21 ⟨b,j,none⟩ 1 c [x] (by simp) Tryz.underlying101 Tryz.underlying21 Tryz.underlying9 (fun i hi=>by
  obtain rfl:i=0:=by simpa using hi
  simpa [Addr.add] using h)
 rw[hc]
 have:runesBytes ([x].take 1)=Utf8.encode x:=by
  apply aks;rw[aiT];simp
 rw[this]
end Go.Proofs.YtnomcldpbkinmaaGreatDoor.Nz
namespace Go.Proofs.YtnomcldpbkinmaaGreatDoor.Nz
open Go.RowKit
theorem a2p (s:ByteArray)(k:Nat):bl (sx s k)=((bl s).drop k).take (sn s k):=by
 unfold sx;rw[aho,ajI];simp
theorem a1h (s:ByteArray)(k:Nat):s.extract k (k+sn s k)=sx s k:=by
 apply aks;rw[aho,a2p,Nat.add_sub_cancel_left]
def a3d (u:ByteArray)(l:List Int)(M:Nat)(nv iv:Value):Prop:=
 ∃ m j:Nat,nv=.int .i64 m∧iv=.int .i64 j∧j≤l.length∧m≤u.size∧l.drop j=Rn ((bl u).drop m)∧m+St ((bl u).drop m)=M
theorem axC (u:ByteArray)(l:List Int)(m j:Nat)(hj:j < l.length)(h:l.drop j=Rn ((bl u).drop m)):
 m < u.size∧l.getD j 0=((Utf8.decode u m).1:Int)∧l.drop (j+1)=Rn ((bl u).drop (m+(Utf8.decode u m).2)):=by
 have hm:m < u.size:=by
  rcases Nat.lt_or_ge m u.size with h1 | h1
  · exact h1
  · rw[awD u m (by omega)] at h;have:=congrArg List.length h;simp at this;omega
 have hd:=List.drop_eq_getElem_cons hj;rw[h,asM u m hm] at hd;injection hd with h1 h2
 refine⟨hm,?_,h2.symm⟩;rw[List.getD_eq_getElem?_getD,List.getElem?_eq_getElem hj,h1];rfl
theorem at_end (u:ByteArray)(l:List Int)(m j:Nat)(hj:¬ j < l.length)(hm:m≤u.size)(h:l.drop j=Rn ((bl u).drop m)):m=u.size:=by
 rcases Nat.lt_or_ge m u.size with h1 | h1
 · rw[List.drop_of_length_le (by omega),asM u m h1] at h;exact absurd h (by simp)
 · omega
theorem a3N {r:Int}(h:Part r)(w:World):Calls Tryz.prog 66 #[.int .i64 r] w fun e w'=>e=.returned (.bool true)∧w=w':=(agR r w).mono fun e w' ⟨h1,h2⟩=>⟨by rw[h1,decide_eq_true h],h2⟩
theorem a3F {r:Int}(h:¬ Part r)(w:World):Calls Tryz.prog 66 #[.int .i64 r] w fun e w'=>e=.returned (.bool false)∧w=w':=(agR r w).mono fun e w' ⟨h1,h2⟩=>⟨by rw[h1,decide_eq_false h],h2⟩
theorem a1G {z:ByteArray}(h:¬ z=⟨#[239,191,189]⟩):(z.toList == [239,191,189])=false:=by
 rw[beq_eq_false_iff_ne,Lib.toList_data];intro h2;apply h;have h3:z.data= #[239,191,189]:=(by rw[← Array.toArray_toList (xs:=z.data),h2]);cases z;simp at h3;rw[h3]
theorem agn (s:ByteArray)(k:Nat)(hs:s.size≤10000)(hk:k≤s.size)(w:World):
 Calls Tryz.prog 43 #[.string s,.int .i64 k] w fun e w'=>e=.returned (.tuple #[.string (sx s k),.int .i64 ((k:Int)+(sn s k:Int))])∧Below w.heap.size w w':=by
 have b1:decide ((k:Int) < 0)=false:=(by simp);have b2:decide ((s.size:Int) < (k:Int))=false:=by simp;omega
 have b3:decide (s.size < k)=false:=by simp;omega
 have i1:(0:Int)≤(k:Int):=(by omega);have i2:(k:Int)≤(s.size:Int):=(by omega);have hz:=aaN s k;obtain⟨c,w1,⟨hcv,hb1,hzz,hcell⟩,hcap⟩:=atW w (fr s k) (by omega);have hu:fr s k=s.extract k s.size:=rfl;have HM:Hid (sn s k=St (bl (fr s k))):=aac (by rw[sn,ajI]);have HX:Hid (s.extract k (k+sn s k)=sx s k):=aac (a1h s k);have HL:Hid (runes (fr s k)=Rn (bl (fr s k))):=aac (afQ _);have hln:=aeK (fr s k);have HRG:=aac (fun x (hx:x∈runes (fr s k))=>ahd (fr s k) (fr s k).size 0 x hx);have HB:=aac hb1;have hsz:=hb1.size
 have H3:Hid (∀ m,s.extract (k+m) (k+m+3)=⟨#[239,191,189]⟩↔((bl (fr s k)).drop m).take 3=[239,191,189]):=aac (fun m=>by
  rw[ajI,List.drop_drop];have e:=aho s (k+m) (k+m+3);rw[show k+m+3 - (k+m)=3 by omega] at e;rw[← e];exact⟨fun h=>by rw[h];rfl,fun h=>aks (by rw[h];rfl)⟩)
 generalize sx s k=res at *;generalize sn s k=M at *;clear hzz hb1;generalize runes (fr s k)=l at *;rw[hu] at hcv;obtain⟨n,hn⟩:∃ n,n=l.length:=⟨_,rfl⟩;rw[← hn] at hcv;have hn1:n≤l.length:=(by omega);have hn2:l.length≤n:=(by omega);have hn3:n≤10000:=(by omega);clear hn;have HCELL:=aac hcell;clear hcell;go_enter Tryz.func43,Tryz.ntmps43;go_wp2_with fail;clear hcv;generalize fr s k=u at *;go_loop [7,8,9] (fun nv iv _=>a3d u l M nv iv) (fun _ iv _=>l.length - (intOf iv).toNat);case atStart=>exact⟨0,0,rfl,rfl,Nat.zero_le _,Nat.zero_le _,by rw[HL.out];rfl,by rw[HM.out,List.drop_zero];omega⟩
 case round=>
  obtain⟨m,j,rfl,rfl,hj,hm,hd,hst⟩:=hrel;have HD:=aac hd;have HST:=aac hst;clear hd hst;by_cases hlt:j < n
  · obtain⟨g1,g2,g3⟩:=axC u l m j (by omega) HD.out;have hc:=HCELL.out j (by omega);rw[g2] at hc;have G3:=aac g3;have GS:=aac (a0X u m g1);have hwl:=awF u m g1;have GW:=aac (a4r ((bl u).drop m) (fun x hx=>a2t u x (List.mem_of_mem_drop hx)));rw[← acL] at GW;have hr1:=decode_le u m
    have hv:Val ((Utf8.decode u m).1:Int):=by
     have:=atA ((bl u).drop m);rw[← acL] at this;unfold Val;omega
    have hes:=avB _ hv;have hcv1:=fun c'=>auA w1 w.heap.size j c' _ hc;have hwd:=width_pos u m g1;clear g2 g3 hv;generalize (Utf8.decode u m).1=r at *;generalize (Utf8.decode u m).2=d at *;generalize Utf8.encode (r:Int)=y at *;have hck:¬ c=j:=(by omega);have j1:(0:Int)≤(j:Int):=(by omega);have j2:(j:Int)≤(j:Int)+1:=(by omega);have j3:(j:Int)+1≤(c:Int):=(by omega);have q3:((j:Int)+1).toNat=j+1:=(by omega);have hub:u.size≤10000:=(by omega);by_cases h58:(r:Int)=58
    · have c1:((r:Int) != 58)=false:=(by simp[h58]);have c2:((r:Int) == 65533)=false:=(by simp[h58]);have HO:Hid (Ok (r:Int)):=aac (.inl h58);have hyd:y.size=d:=(by rw[hes,GW.out,if_neg (by omega)]);clear h58 hes;go_wp2_with fail;refine⟨⟨m+d,j+1,by go_num,by go_num,by omega,hwl,G3.out,?_⟩,by simp[intOf];omega⟩;have q:=HST.out;rw[GS.out,if_pos HO.out] at q;omega
    · have c1:((r:Int) != 58)=true:=(by simp[h58]);by_cases hP:Part (r:Int)
      · have HO:Hid (Ok (r:Int)):=aac (.inr hP);have CP:=aac (fun W=>a3N hP W);by_cases hF:(r:Int)=65533
        · have c2:((r:Int) == 65533)=true:=(by simp[hF]);have hr2:r=65533:=(by omega);have hy3:y.size=3:=by rw[hes,hr2];rfl
          have m1:(0:Int)≤(k:Int)+(m:Int):=(by omega);have m2:(k:Int)+(m:Int)≤(k:Int)+(m:Int)+3:=(by omega);have q4:((k:Int)+(m:Int)).toNat=k+m:=(by omega);have q5:((k:Int)+(m:Int)+3).toNat=k+m+3:=(by omega);by_cases h3:s.size < k+m+3
          · have c3:decide ((s.size:Int) < (k:Int)+(m:Int)+3)=true:=by simp;omega
            have hnt:¬ ((bl u).drop m).take 3=[239,191,189]:=by
             intro h;have h4:=congrArg List.length h;rw[List.length_take,List.length_drop,aaS] at h4;have h5:[239,191,189].length=3:=rfl;omega
            have HD1:Hid (d=1):=aac (by rw[GW.out,if_pos ⟨hr2,hnt⟩]);clear h58 hP hF hes hr2 h3 hnt;go_wp2_with (first | (go_at_call 66;refine(CP.out _).mono ?_;rintro e w' ⟨rfl,rfl⟩));have hd1:=HD1.out;refine⟨⟨m+1,j+1,by go_num,by go_num,by omega,by omega,by have g:=G3.out;rw[hd1] at g;exact g,?_⟩,by simp[intOf];omega⟩;have q:=HST.out;rw[GS.out,if_pos HO.out,hd1] at q;omega
          · have c3:decide ((s.size:Int) < (k:Int)+(m:Int)+3)=false:=by simp;omega
            have m3:(k:Int)+(m:Int)+3≤(s.size:Int):=(by omega);by_cases hE:s.extract (k+m) (k+m+3)=⟨#[239,191,189]⟩
            · have HD3:Hid (d=3):=aac (by
               rw[GW.out,if_neg (fun h=>h.2 ((H3.out m).1 hE)),hr2];rfl)
              clear h58 hP hF hes hr2 h3;go_wp2_with (first | (go_at_call 66;refine(CP.out _).mono ?_;rintro e w' ⟨rfl,rfl⟩));have hd3:=HD3.out;refine⟨⟨m+3,j+1,by go_num,by go_num,by omega,by omega,by have g:=G3.out;rw[hd3] at g;exact g,?_⟩,by simp[intOf];omega⟩;have q:=HST.out;rw[GS.out,if_pos HO.out,hd3] at q;omega
            · have HD1:Hid (d=1):=aac (by rw[GW.out,if_pos ⟨hr2,fun h=>hE ((H3.out m).2 h)⟩]);have hne:=a1G hE;clear h58 hP hF hes hr2 h3 hE;go_wp2_with (first | (go_at_call 66;refine(CP.out _).mono ?_;rintro e w' ⟨rfl,rfl⟩));have hd1:=HD1.out;refine⟨⟨m+1,j+1,by go_num,by go_num,by omega,by omega,by have g:=G3.out;rw[hd1] at g;exact g,?_⟩,by simp[intOf];omega⟩;have q:=HST.out;rw[GS.out,if_pos HO.out,hd1] at q;omega
        · have c2:((r:Int) == 65533)=false:=(by simp[hF]);have hyd:y.size=d:=(by rw[hes,GW.out,if_neg (by omega)]);clear h58 hP hF hes;go_wp2_with (first | (go_at_call 66;refine(CP.out _).mono ?_;rintro e w' ⟨rfl,rfl⟩));refine⟨⟨m+d,j+1,by go_num,by go_num,by omega,hwl,G3.out,?_⟩,by simp[intOf];omega⟩;have q:=HST.out;rw[GS.out,if_pos HO.out] at q;omega
      · have HO:Hid (¬ Ok (r:Int)):=aac (by rintro (h | h);exact h58 h;exact hP h);have CP:=aac (fun W=>a3F hP W);have m1:(0:Int)≤(k:Int)+(m:Int):=(by omega);have m2:(k:Int)≤(k:Int)+(m:Int):=(by omega);have m3:(k:Int)+(m:Int)≤(s.size:Int):=(by omega);have q4:((k:Int)+(m:Int)).toNat=k+m:=(by omega);clear h58 hP;go_wp2_with (first | (go_at_call 66;refine(CP.out _).mono ?_;rintro e w' ⟨rfl,rfl⟩));go_ret2;have q:=HST.out;rw[GS.out,if_neg HO.out] at q;refine⟨adI ?_ ?_,HB.out⟩
        · rw[← HX.out,← q];rfl
        · omega
  · have HEN:=aac (at_end u l m j (by omega) hm HD.out);go_wp2_with fail;go_ret2;have q:=HST.out;have he:=HEN.out;rw[avY u m (by omega)] at q;refine⟨adI ?_ ?_,HB.out⟩
    · rw[← HX.out]
      congr 1
      omega
    · omega
end Go.Proofs.YtnomcldpbkinmaaGreatDoor.Nz
