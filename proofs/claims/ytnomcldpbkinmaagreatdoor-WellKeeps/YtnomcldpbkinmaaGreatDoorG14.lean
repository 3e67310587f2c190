/- Lemmas of the claim. -/
import Derived.Test.YtnomcldpbkinmaaGreatDoorG13
import Derived.Test.YtnomcldpbkinmaaGreatDoorG12
import Derived.Test.YtnomcldpbkinmaaGreatDoorG05
set_option maxHeartbeats 16000000
set_option maxRecDepth 100000
set_option linter.unusedSimpArgs false
set_option linter.unusedVariables false
namespace Go.Proofs.YtnomcldpbkinmaaGreatDoor
open Go.RowKit
theorem abq {w:World}{B:Nat}{v:Value}{l:List Int}(h:afz w B v l)(hne:l≠[]):
 ∃ g cap,v=.slice (some ⟨g,0,none⟩) l.length cap∧∀ j u,(l.map (Value.int .u8))[j]?=some u→w.cell? ((⟨g,0,none⟩:Addr).add j)=some u:=by
 rcases h.2 with ⟨_,h0⟩ | ⟨g,cap,cur,rfl,_⟩
 · exact absurd (List.eq_nil_of_length_eq_zero h0) hne
 · exact⟨g,cap,rfl,World.ownsRow.cells h rfl⟩
theorem adz {w w1 w2:World}{B:Nat}{v v':Value}{bs l:List Int}(hB:B≤w1.heap.size)(hown:afz w1 B v bs)
 (h2:w2.ownsRow B 5 1 v' (bs.length+l.length) (bs.map (Value.int .u8)++l.map (Value.int .u8))) (hg:w1.grownBy w2 v.ownBlock) (hbel:Below B w w1):afz w2 B v' (bs++l)∧Below B w w2:=by
 refine⟨?_,hbel.grown hg hB fun g hg=>(World.ownsRow.lt hown g hg).1⟩;unfold afz;rw[List.map_append,List.length_append];exact h2
def a3w (s:ByteArray)(v:Bool)(w:World)(vo vi:Value)(wr:World):Prop:=
 ∃ (k:Nat) (bs:List Int),k≤s.size∧vi=.int .i64 k∧afz wr w.heap.size vo bs∧Below w.heap.size w wr∧bs.length≤4 * k∧
   aaY v (aad s)=(bs++(aaY v ((aad s).drop k)).1,k+(aaY v ((aad s).drop k)).2.1,(aaY v ((aad s).drop k)).2.2)
theorem a2y {v:Bool}{s:ByteArray}{k:Nat}{bs l:List Int}{n:Nat}(hr:aaY v (aad s)=(bs++(aaY v ((aad s).drop k)).1,k+(aaY v ((aad s).drop k)).2.1,(aaY v ((aad s).drop k)).2.2))(hk:k < s.size)
 (h:aaA v ((aad s).drop k)=(0,l,n)):(aaY v (aad s)=(bs++l++(aaY v ((aad s).drop (k+n))).1,k+n+(aaY v ((aad s).drop (k+n))).2.1,(aaY v ((aad s).drop (k+n))).2.2))∧1≤n∧k+n≤s.size∧l.length≤4:=by
 have hne:=acE s k hk;have hnn:NN ((aad s).drop k):=(acS s).drop k;have h0:(aaA v ((aad s).drop k)).1=0:=(by rw[h]);have S1:=ahw v _ hne hnn h0;have S2:=ams v ((aad s).drop k) h0;have R:=afT v _ hne hnn h0;rw[h] at S1 S2 R;rw[List.drop_drop] at R;rw[List.length_drop,aae] at S1;simp only at S1 S2 R;refine⟨?_,S1.1,by omega,S2⟩;rw[hr,R];simp only[List.append_assoc,Nat.add_assoc]
theorem a0b {v:Bool}{s:ByteArray}{k:Nat}{bs l:List Int}{n:Nat}{er:Int}(hr:aaY v (aad s)=(bs++(aaY v ((aad s).drop k)).1,k+(aaY v ((aad s).drop k)).2.1,(aaY v ((aad s).drop k)).2.2))(hk:k < s.size)
 (h:aaA v ((aad s).drop k)=(er,l,n)) (he:er≠0):abH v (aad s)=([],(k:Int),er):=by
 have R:=agC v _ (acE s k hk) (by rw[h];exact he);rw[h] at R;rw[R] at hr;have:=ard hr he;rw[this];simp
theorem apq {l:List Int}{a j:Nat}{x:Int}(hx:x∈(l.take j).drop a):∃ i,a≤i∧i < j∧i < l.length∧l.getD i 0=x:=by
 obtain⟨i,hi,e⟩:=List.getElem_of_mem hx;rw[List.length_drop,List.length_take] at hi;refine⟨a+i,by omega,by omega,by omega,?_⟩;rw[List.getElem_drop,List.getElem_take] at e;simp[List.getElem?_eq_getElem (show a+i < l.length by omega),e]
theorem ayZ {l:List Int}{a j:Nat}(ha:a≤j)(hj:j < l.length)(h59:l.getD j 0=59)(hno:∀ i,a≤i→i < j→l.getD i 0≠59):abg (l.drop a)=(l.take j).drop a∧59∈l.drop a:=by
 have e:l.drop a=(l.take j).drop a++59 :: l.drop (j+1):=by
  conv=>lhs;rw[← List.take_append_drop j l]
  rw[List.drop_append_of_le_length (by rw[List.length_take];omega),drop_cons l j hj,h59]
 have hn:(59:Int) ∉ (l.take j).drop a:=fun hx=>by
  obtain⟨i,h1,h2,_,h4⟩:=apq hx;exact hno i h1 h2 h4
 refine⟨by rw[e,ata _ _ hn],?_⟩;rw[e];simp
theorem azA {l:List Int}{a:Nat}(hno:∀ i,a≤i→i < l.length→l.getD i 0≠59):(59:Int) ∉ l.drop a:=fun hx=>by
 have:(59:Int)∈(l.take l.length).drop a:=by rw[List.take_length];exact hx
 obtain⟨i,h1,h2,_,h4⟩:=apq this;exact hno i h1 h2 h4
theorem aln (L:List Int)(h1:L.getD 0 0 < 128):aaO L=(L.getD 0 0,1,0):=by
 unfold aaO canon;rw[if_pos h1]
theorem azZ {L:List Int}(hl:L≠[])(hn:NN L)(h:(aaO L).2.2=0):L.getD 0 0=(aaR (aaO L).1).getD 0 0:=by
 obtain⟨_,h2,h3⟩:=ajg L hl hn h
 have e:L=aaR (aaO L).1++L.drop (aaR (aaO L).1).length:=by
  conv=>lhs;rw[← List.take_append_drop (aaR (aaO L).1).length L,h2]
 have:=aiD (aaR (aaO L).1) (L.drop (aaR (aaO L).1).length) (aft _);rw[← e] at this;exact this
theorem aqa {r:Int}(h:¬ Bad r):aaL r=aaR r:=if_neg h
theorem agw (s:ByteArray)(v:Bool)(w:World)(hs:s.size≤10000):Calls Tryz.prog 35 #[.string s,.bool v] w (aek (abH v (aad s)) w):=by
 obtain⟨i0,hi,hz0,hz1,hz2⟩:=info_parts Tryz.info5;go_enter Tryz.func35,Tryz.ntmps35;go_wp2_with fail;go_loopw [7,8] (fun vo vi wr=>a3w s v w vo vi wr) (fun _ vi _=>s.size - (intOf vi).toNat);case atStart=>exact⟨0,[],Nat.zero_le _,rfl,World.ownsRow_nil _ _ _ _,Below.refl _ _,by simp,by simp⟩
 case round=>
  obtain⟨k,bs,hk,rfl,hown,hbel,hlen,hr⟩:=hrel;by_cases hlt:k < s.size
  · have hl2:=hbel.size;have hb:=aaG s k hlt;have hgd:((aad s).drop k).getD 0 0=(aad s).getD k 0:=by rw[getD_drop];rfl
    have htl:=tail_drop (aad s) k;have hgd1:((aad s).drop k).getD 1 0=(aad s).getD (k+1) 0:=(by rw[getD_drop]);have c1:(k:Int) < (s.size:Int):=(by omega);have DOK:=aac (fun l n h=>a2y (l:=l) (n:=n) hr hlt h);have DER:=aac (fun er h he=>a0b (l:=[]) (n:=0) (er:=er) hr hlt h he);clear hr;by_cases h38:(aad s).getD k 0=38
    · have hc:((s[k]).toNat:Int)=38:=hb.trans h38;have H38:=aac h38
      have ST:Hid (aaA v ((aad s).drop k)=if 59∈(aad s).drop (k+1)∧0≤ajm (abg ((aad s).drop (k+1))) then (0,aaR (ajm (abg ((aad s).drop (k+1)))),(abg ((aad s).drop (k+1))).length+2) else (5,[],0)):=aac (by
       unfold aaA;rw[hgd,htl,if_pos h38])
      clear hb hgd htl hgd1 h38;go_wp2_with fail;go_loop [9] (fun vi=>∃ j:Nat,vi=.int .i64 j∧k≤j∧j≤s.size∧Hid (∀ i,k≤i→i < j→(aad s).getD i 0≠59)) (fun vi=>s.size - (intOf vi).toNat);case atStart=>exact⟨k,rfl,Nat.le_refl _,by omega,aac fun i h1 h2=>by omega⟩
      case round=>
       obtain⟨j,rfl,hkj,hj,hno⟩:=hrel;by_cases hjs:j < s.size
       · have hbj:=aaG s j hjs;have d1:(j:Int) < (s.size:Int):=(by omega);by_cases h59:(aad s).getD j 0=59
         · have t59:(((s[j]).toNat:Int) != 59)=false:=by rw[hbj];simpa using h59
           have hkj1:k+1≤j:=by
            rcases Nat.lt_or_ge k j with h | h
            · exact h
            · have:j=k:=(by omega);subst this;rw[H38.out] at h59;omega
           obtain⟨B1,B2⟩:=ayZ (l:=aad s) hkj1 (by rw[aae];exact hjs) h59 (fun i h1 h2=>hno.out i (by omega) h2);have hBd:aad (s.extract (k+1) j)=abg ((aad s).drop (k+1)):=by rw[aal,B1]
           have hBl:(abg ((aad s).drop (k+1))).length+2=j+1 - k:=by
            rw[B1,List.length_drop,List.length_take,aae];omega
           have hBs:(s.extract (k+1) j).size≤10000:=by
            rw[← aae,hBd];omega
           have CR:=aac (fun w=>auq (s.extract (k+1) j) w hBs);rw[hBd] at CR;have ST2:=ST.out;rw[hBl] at ST2;have hgood:=anf (abg ((aad s).drop (k+1)));clear hbj h59 hno ST hBd hBl hBs B1 H38;generalize ajm (abg ((aad s).drop (k+1)))=r at *;have tj:((j:Int) == (s.size:Int))=false:=by rw[beq_eq_false_iff_ne];omega
           have d2:(0:Int)≤(k:Int)+1:=(by omega);have d3:(k:Int)+1≤(j:Int):=(by omega);have d4:(j:Int)≤(s.size:Int):=(by omega);have q2:IntKind.i64.wrap ((k:Int)+1)=(k:Int)+1:=IntWalk.i64_in _ (by omega);have q3:((k:Int)+1).toNat=k+1:=(by omega);by_cases hr0:0≤r
           · rw[if_pos ⟨B2,hr0⟩] at ST2;have tr:decide (r < 0)=false:=by rw[decide_eq_false_iff_not];omega
             have hrb:=aeE (hgood hr0)
             have CP:Hid (∀ w,Calls Tryz.prog 52 #[.int .i64 r] w (aat w (aaR r))):=aac fun w=>by
              have:=aaE r w;rw[aqa hrb] at this;exact this
             obtain⟨HR0,_,n2,n3⟩:=DOK.out _ _ ST2;have hlne:=aft r;rw[show k+(j+1 - k)=j+1 by omega] at HR0;have HR:=aac HR0;clear HR0 ST2 B2 DOK DER hgood hrb hr0;generalize aaR r=l at *;go_wp2_with fail;refine(CR.out _).mono ?_;rintro e wx ⟨rfl,rfl⟩;go_wp2_with fail;refine(CR.out _).mono ?_;rintro e wx ⟨rfl,rfl⟩;clear CR;go_wp2_with fail;refine(CP.out _).mono ?_;rintro e wp ⟨vp,rfl,hop,hbp⟩;have hownp:=aai hown hbp;have hbelp:=hbel.trans (hbp.mono hl2);have hlp:=hbelp.size;obtain⟨g,cap,rfl,hcells⟩:=abq hop hlne;clear CP hop hbp hlne;go_wp2_with (at_builtin;refine wpList_append_own _ rfl _ _ 65 rfl w.heap.size 5 i0 (.int .u8 0) 1 1 Tryz.underlying65 hi hz0 hz1 hz2 rfl (by decide) _ _ _ rfl hownp ⟨g,0,none⟩ l.length cap (l.map (Value.int .u8)) rfl (by simp) hcells (ints_oneCell .u8 l) (by unfold maxLen;omega) (by omega) hlp ?_);intro v' w2 hown2 hgrow _;have R:=aac (adz hlp hownp hown2 hgrow hbelp);clear hown2 hgrow hownp hbelp hcells;go_wp2;go_roundw;case rel=>exact⟨j+1,bs++l,by omega,by go_num,R.out.1,R.out.2,by rw[List.length_append];omega,HR.out⟩
             case measure=>simp only[intOf];omega
           · rw[if_neg (fun h=>hr0 h.2)] at ST2;have tr:decide (r < 0)=true:=by rw[decide_eq_true_eq];omega
             have HA:=aac (DER.out 5 ST2 (by decide));clear ST2 B2 DOK DER hgood hr0 hown;go_wp2_with fail;refine(CR.out _).mono ?_;rintro e wx ⟨rfl,rfl⟩;go_wp2;go_ret3;exact akR HA.out ⟨by rw[acj];rfl,hbel⟩
         · have t59:(((s[j]).toNat:Int) != 59)=true:=by rw[hbj];simpa using h59
           have HN:Hid (∀ i,k≤i→i < j+1→(aad s).getD i 0≠59):=aac fun i h1 h2=>by
            by_cases e:i=j
            · rw[e];exact h59
            · exact hno.out i h1 (by omega)
           clear hbj h59 hno ST DOK DER hown H38;go_wp2;refine⟨⟨j+1,by rw[Int.natCast_add];rfl,by omega,by omega,HN⟩,by simp only[intOf];omega⟩
       · have hjj:j=s.size:=(by omega);subst hjj;have ST2:=ST.out;rw[if_neg (fun h=>azA (l:=aad s) (a:=k+1) (fun i h1 h2=>hno.out i (by omega) (by rw[← aae];exact h2)) h.1)] at ST2;have HA:=aac (DER.out 5 ST2 (by decide));clear ST2 ST DOK DER hno hown H38;go_wp2;go_ret3;exact akR HA.out ⟨by rw[acj];rfl,hbel⟩
    have t38:(((s[k]).toNat:Int) == 38)=false:=by rw[hb];simpa using h38
    have hRu:=afE s k wr hs;rw[acw s k hlt] at hRu;have hne:=acE s k hlt;have hnn:NN ((aad s).drop k):=(acS s).drop k;by_cases h13:(aad s).getD k 0=13
    · rw[aln _ (by rw[hgd];omega),hgd,h13] at hRu;unfold adT R3i at hRu;dsimp only at hRu;by_cases hlast:k+1 < s.size
      · have hb1:=aaG s (k+1) hlast;have e1:((k:Int)+1) < (s.size:Int):=(by omega);have e2:(0:Int)≤(k:Int)+1:=(by omega);have q2:IntKind.i64.wrap ((k:Int)+1)=(k:Int)+1:=IntWalk.i64_in _ (by omega);have q3:((k:Int)+1).toNat=k+1:=(by omega);have q4:IntKind.i64.wrap ((k:Int)+1+1)=(k:Int)+1+1:=IntWalk.i64_in _ (by omega);by_cases h10:(aad s).getD (k+1) 0=10
        · have t10:(((s[k+1]).toNat:Int) == 10)=true:=by rw[hb1];simpa using h10
          cases v
          · have ST:aaA false ((aad s).drop k)=(0,[10],2):=by
             unfold aaA;rw[hgd,hgd1,if_neg h38,if_pos h13,if_pos h10];rfl
            obtain⟨HR0,_,n2,n3⟩:=DOK.out _ _ ST;have HR:=aac HR0
            have CP:Hid (∀ w,Calls Tryz.prog 52 #[.int .i64 10] w (aat w [10])):=aac fun w=>by
             have:=aaE 10 w;rw[show aaL 10=[10] by decide] at this;exact this
            obtain⟨l,hl⟩:∃ l:List Int,l=[10]:=⟨_,rfl⟩;rw[← hl] at HR CP n3;have hlne:l≠[]:=by rw[hl];simp
            clear HR0 ST DOK DER hgd htl hgd1 hne hnn hl hb hb1 h38 h13 h10;have CRH:=aac hRu;clear hRu;go_wp2_with fail;refine CRH.out.mono ?_;rintro e wx ⟨rfl,hbx⟩;have hownx:=aai hown hbx;have hbelx:=hbel.trans (hbx.mono hl2);have hlx:=hbelx.size;clear CRH hown hbel hbx;have CC:=aac (abp 13);go_wp2_with fail;refine(CC.out _).mono ?_;rintro e wy ⟨rfl,rfl⟩;clear CC;go_wp2_with fail;refine(CP.out _).mono ?_;rintro e wp ⟨vp,rfl,hop,hbp⟩;have hownp:=aai hownx hbp;have hbelp:=hbelx.trans (hbp.mono hlx);have hlp:=hbelp.size;obtain⟨g,cap,rfl,hcells⟩:=abq hop hlne;clear CP hop hbp hlne;go_wp2_with (at_builtin;refine wpList_append_own _ rfl _ _ 65 rfl w.heap.size 5 i0 (.int .u8 0) 1 1 Tryz.underlying65 hi hz0 hz1 hz2 rfl (by decide) _ _ _ rfl hownp ⟨g,0,none⟩ l.length cap (l.map (Value.int .u8)) rfl (by simp) hcells (ints_oneCell .u8 l) (by unfold maxLen;omega) (by omega) hlp ?_);intro v' w2 hown2 hgrow _;have R:=aac (adz hlp hownp hown2 hgrow hbelp);clear hown2 hgrow hownp hbelp hcells;go_wp2;go_roundw;case rel=>exact⟨k+2,bs++l,by omega,by go_num,R.out.1,R.out.2,by rw[List.length_append];omega,HR.out⟩
            case measure=>simp only[intOf];omega
          · have ST:aaA true ((aad s).drop k)=(0,[32],2):=by
             unfold aaA;rw[hgd,hgd1,if_neg h38,if_pos h13,if_pos h10];rfl
            obtain⟨HR0,_,n2,n3⟩:=DOK.out _ _ ST;have HR:=aac HR0
            have CP:Hid (∀ w,Calls Tryz.prog 52 #[.int .i64 32] w (aat w [32])):=aac fun w=>by
             have:=aaE 32 w;rw[show aaL 32=[32] by decide] at this;exact this
            obtain⟨l,hl⟩:∃ l:List Int,l=[32]:=⟨_,rfl⟩;rw[← hl] at HR CP n3;have hlne:l≠[]:=by rw[hl];simp
            clear HR0 ST DOK DER hgd htl hgd1 hne hnn hl hb hb1 h38 h13 h10;have CRH:=aac hRu;clear hRu;go_wp2_with fail;refine CRH.out.mono ?_;rintro e wx ⟨rfl,hbx⟩;have hownx:=aai hown hbx;have hbelx:=hbel.trans (hbx.mono hl2);have hlx:=hbelx.size;clear CRH hown hbel hbx;have CC:=aac (abp 13);go_wp2_with fail;refine(CC.out _).mono ?_;rintro e wy ⟨rfl,rfl⟩;clear CC;go_wp2_with fail;refine(CP.out _).mono ?_;rintro e wp ⟨vp,rfl,hop,hbp⟩;have hownp:=aai hownx hbp;have hbelp:=hbelx.trans (hbp.mono hlx);have hlp:=hbelp.size;obtain⟨g,cap,rfl,hcells⟩:=abq hop hlne;clear CP hop hbp hlne;go_wp2_with (at_builtin;refine wpList_append_own _ rfl _ _ 65 rfl w.heap.size 5 i0 (.int .u8 0) 1 1 Tryz.underlying65 hi hz0 hz1 hz2 rfl (by decide) _ _ _ rfl hownp ⟨g,0,none⟩ l.length cap (l.map (Value.int .u8)) rfl (by simp) hcells (ints_oneCell .u8 l) (by unfold maxLen;omega) (by omega) hlp ?_);intro v' w2 hown2 hgrow _;have R:=aac (adz hlp hownp hown2 hgrow hbelp);clear hown2 hgrow hownp hbelp hcells;go_wp2;go_roundw;case rel=>exact⟨k+2,bs++l,by omega,by go_num,R.out.1,R.out.2,by rw[List.length_append];omega,HR.out⟩
            case measure=>simp only[intOf];omega
        · have t10:(((s[k+1]).toNat:Int) == 10)=false:=by rw[hb1];simpa using h10
          cases v
          · have ST:aaA false ((aad s).drop k)=(0,[10],1):=by
             unfold aaA;rw[hgd,hgd1,if_neg h38,if_pos h13,if_neg h10];rfl
            obtain⟨HR0,_,n2,n3⟩:=DOK.out _ _ ST;have HR:=aac HR0
            have CP:Hid (∀ w,Calls Tryz.prog 52 #[.int .i64 10] w (aat w [10])):=aac fun w=>by
             have:=aaE 10 w;rw[show aaL 10=[10] by decide] at this;exact this
            obtain⟨l,hl⟩:∃ l:List Int,l=[10]:=⟨_,rfl⟩;rw[← hl] at HR CP n3;have hlne:l≠[]:=by rw[hl];simp
            clear HR0 ST DOK DER hgd htl hgd1 hne hnn hl hb hb1 h38 h13 h10;have CRH:=aac hRu;clear hRu;go_wp2_with fail;refine CRH.out.mono ?_;rintro e wx ⟨rfl,hbx⟩;have hownx:=aai hown hbx;have hbelx:=hbel.trans (hbx.mono hl2);have hlx:=hbelx.size;clear CRH hown hbel hbx;have CC:=aac (abp 13);go_wp2_with fail;refine(CC.out _).mono ?_;rintro e wy ⟨rfl,rfl⟩;clear CC;go_wp2_with fail;refine(CP.out _).mono ?_;rintro e wp ⟨vp,rfl,hop,hbp⟩;have hownp:=aai hownx hbp;have hbelp:=hbelx.trans (hbp.mono hlx);have hlp:=hbelp.size;obtain⟨g,cap,rfl,hcells⟩:=abq hop hlne;clear CP hop hbp hlne;go_wp2_with (at_builtin;refine wpList_append_own _ rfl _ _ 65 rfl w.heap.size 5 i0 (.int .u8 0) 1 1 Tryz.underlying65 hi hz0 hz1 hz2 rfl (by decide) _ _ _ rfl hownp ⟨g,0,none⟩ l.length cap (l.map (Value.int .u8)) rfl (by simp) hcells (ints_oneCell .u8 l) (by unfold maxLen;omega) (by omega) hlp ?_);intro v' w2 hown2 hgrow _;have R:=aac (adz hlp hownp hown2 hgrow hbelp);clear hown2 hgrow hownp hbelp hcells;go_wp2;go_roundw;case rel=>exact⟨k+1,bs++l,by omega,by go_num,R.out.1,R.out.2,by rw[List.length_append];omega,HR.out⟩
            case measure=>simp only[intOf];omega
          · have ST:aaA true ((aad s).drop k)=(0,[32],1):=by
             unfold aaA;rw[hgd,hgd1,if_neg h38,if_pos h13,if_neg h10];rfl
            obtain⟨HR0,_,n2,n3⟩:=DOK.out _ _ ST;have HR:=aac HR0
            have CP:Hid (∀ w,Calls Tryz.prog 52 #[.int .i64 32] w (aat w [32])):=aac fun w=>by
             have:=aaE 32 w;rw[show aaL 32=[32] by decide] at this;exact this
            obtain⟨l,hl⟩:∃ l:List Int,l=[32]:=⟨_,rfl⟩;rw[← hl] at HR CP n3;have hlne:l≠[]:=by rw[hl];simp
            clear HR0 ST DOK DER hgd htl hgd1 hne hnn hl hb hb1 h38 h13 h10;have CRH:=aac hRu;clear hRu;go_wp2_with fail;refine CRH.out.mono ?_;rintro e wx ⟨rfl,hbx⟩;have hownx:=aai hown hbx;have hbelx:=hbel.trans (hbx.mono hl2);have hlx:=hbelx.size;clear CRH hown hbel hbx;have CC:=aac (abp 13);go_wp2_with fail;refine(CC.out _).mono ?_;rintro e wy ⟨rfl,rfl⟩;clear CC;go_wp2_with fail;refine(CP.out _).mono ?_;rintro e wp ⟨vp,rfl,hop,hbp⟩;have hownp:=aai hownx hbp;have hbelp:=hbelx.trans (hbp.mono hlx);have hlp:=hbelp.size;obtain⟨g,cap,rfl,hcells⟩:=abq hop hlne;clear CP hop hbp hlne;go_wp2_with (at_builtin;refine wpList_append_own _ rfl _ _ 65 rfl w.heap.size 5 i0 (.int .u8 0) 1 1 Tryz.underlying65 hi hz0 hz1 hz2 rfl (by decide) _ _ _ rfl hownp ⟨g,0,none⟩ l.length cap (l.map (Value.int .u8)) rfl (by simp) hcells (ints_oneCell .u8 l) (by unfold maxLen;omega) (by omega) hlp ?_);intro v' w2 hown2 hgrow _;have R:=aac (adz hlp hownp hown2 hgrow hbelp);clear hown2 hgrow hownp hbelp hcells;go_wp2;go_roundw;case rel=>exact⟨k+1,bs++l,by omega,by go_num,R.out.1,R.out.2,by rw[List.length_append];omega,HR.out⟩
            case measure=>simp only[intOf];omega
      · have h10:(aad s).getD (k+1) 0≠10:=by
         have hkk:(aad s).length≤k+1:=by rw[aae];omega
         simp[List.getElem?_eq_none hkk]
        have e1:decide ((k:Int)+1 < (s.size:Int))=false:=by rw[decide_eq_false_iff_not];omega
        have e1':decide (k+1 < s.size)=false:=by rw[decide_eq_false_iff_not];omega
        have q2:IntKind.i64.wrap ((k:Int)+1)=(k:Int)+1:=IntWalk.i64_in _ (by omega);cases v
        · have ST:aaA false ((aad s).drop k)=(0,[10],1):=by
           unfold aaA;rw[hgd,hgd1,if_neg h38,if_pos h13,if_neg h10];rfl
          obtain⟨HR0,_,n2,n3⟩:=DOK.out _ _ ST;have HR:=aac HR0
          have CP:Hid (∀ w,Calls Tryz.prog 52 #[.int .i64 10] w (aat w [10])):=aac fun w=>by
           have:=aaE 10 w;rw[show aaL 10=[10] by decide] at this;exact this
          obtain⟨l,hl⟩:∃ l:List Int,l=[10]:=⟨_,rfl⟩;rw[← hl] at HR CP n3;have hlne:l≠[]:=by rw[hl];simp
          clear HR0 ST DOK DER hgd htl hgd1 hne hnn hl hb h38 h13 h10;have CRH:=aac hRu;clear hRu;go_wp2_with fail;refine CRH.out.mono ?_;rintro e wx ⟨rfl,hbx⟩;have hownx:=aai hown hbx;have hbelx:=hbel.trans (hbx.mono hl2);have hlx:=hbelx.size;clear CRH hown hbel hbx;have CC:=aac (abp 13);go_wp2_with fail;refine(CC.out _).mono ?_;rintro e wy ⟨rfl,rfl⟩;clear CC;go_wp2_with fail;refine(CP.out _).mono ?_;rintro e wp ⟨vp,rfl,hop,hbp⟩;have hownp:=aai hownx hbp;have hbelp:=hbelx.trans (hbp.mono hlx);have hlp:=hbelp.size;obtain⟨g,cap,rfl,hcells⟩:=abq hop hlne;clear CP hop hbp hlne;go_wp2_with (at_builtin;refine wpList_append_own _ rfl _ _ 65 rfl w.heap.size 5 i0 (.int .u8 0) 1 1 Tryz.underlying65 hi hz0 hz1 hz2 rfl (by decide) _ _ _ rfl hownp ⟨g,0,none⟩ l.length cap (l.map (Value.int .u8)) rfl (by simp) hcells (ints_oneCell .u8 l) (by unfold maxLen;omega) (by omega) hlp ?_);intro v' w2 hown2 hgrow _;have R:=aac (adz hlp hownp hown2 hgrow hbelp);clear hown2 hgrow hownp hbelp hcells;go_wp2;go_roundw;case rel=>exact⟨k+1,bs++l,by omega,by go_num,R.out.1,R.out.2,by rw[List.length_append];omega,HR.out⟩
          case measure=>simp only[intOf];omega
        · have ST:aaA true ((aad s).drop k)=(0,[32],1):=by
           unfold aaA;rw[hgd,hgd1,if_neg h38,if_pos h13,if_neg h10];rfl
          obtain⟨HR0,_,n2,n3⟩:=DOK.out _ _ ST;have HR:=aac HR0
          have CP:Hid (∀ w,Calls Tryz.prog 52 #[.int .i64 32] w (aat w [32])):=aac fun w=>by
           have:=aaE 32 w;rw[show aaL 32=[32] by decide] at this;exact this
          obtain⟨l,hl⟩:∃ l:List Int,l=[32]:=⟨_,rfl⟩;rw[← hl] at HR CP n3;have hlne:l≠[]:=by rw[hl];simp
          clear HR0 ST DOK DER hgd htl hgd1 hne hnn hl hb h38 h13 h10;have CRH:=aac hRu;clear hRu;go_wp2_with fail;refine CRH.out.mono ?_;rintro e wx ⟨rfl,hbx⟩;have hownx:=aai hown hbx;have hbelx:=hbel.trans (hbx.mono hl2);have hlx:=hbelx.size;clear CRH hown hbel hbx;have CC:=aac (abp 13);go_wp2_with fail;refine(CC.out _).mono ?_;rintro e wy ⟨rfl,rfl⟩;clear CC;go_wp2_with fail;refine(CP.out _).mono ?_;rintro e wp ⟨vp,rfl,hop,hbp⟩;have hownp:=aai hownx hbp;have hbelp:=hbelx.trans (hbp.mono hlx);have hlp:=hbelp.size;obtain⟨g,cap,rfl,hcells⟩:=abq hop hlne;clear CP hop hbp hlne;go_wp2_with (at_builtin;refine wpList_append_own _ rfl _ _ 65 rfl w.heap.size 5 i0 (.int .u8 0) 1 1 Tryz.underlying65 hi hz0 hz1 hz2 rfl (by decide) _ _ _ rfl hownp ⟨g,0,none⟩ l.length cap (l.map (Value.int .u8)) rfl (by simp) hcells (ints_oneCell .u8 l) (by unfold maxLen;omega) (by omega) hlp ?_);intro v' w2 hown2 hgrow _;have R:=aac (adz hlp hownp hown2 hgrow hbelp);clear hown2 hgrow hownp hbelp hcells;go_wp2;go_roundw;case rel=>exact⟨k+1,bs++l,by omega,by go_num,R.out.1,R.out.2,by rw[List.length_append];omega,HR.out⟩
          case measure=>simp only[intOf];omega
    by_cases h9:(aad s).getD k 0=9
    · rw[aln _ (by rw[hgd];omega),hgd,h9] at hRu;unfold adT R3i at hRu;dsimp only at hRu;have q2:IntKind.i64.wrap ((k:Int)+1)=(k:Int)+1:=IntWalk.i64_in _ (by omega);cases v
      · have ST:aaA false ((aad s).drop k)=(0,[9],1):=by
         unfold aaA;rw[hgd,hgd1,if_neg h38,if_neg h13,if_pos (.inl h9),h9];rfl
        obtain⟨HR0,_,n2,n3⟩:=DOK.out _ _ ST;have HR:=aac HR0
        have CP:Hid (∀ w,Calls Tryz.prog 52 #[.int .i64 9] w (aat w [9])):=aac fun w=>by
         have:=aaE 9 w;rw[show aaL 9=[9] by decide] at this;exact this
        obtain⟨l,hl⟩:∃ l:List Int,l=[9]:=⟨_,rfl⟩;rw[← hl] at HR CP n3;have hlne:l≠[]:=by rw[hl];simp
        clear HR0 ST DOK DER hgd htl hgd1 hne hnn hl hb h38 h13 h9;have CRH:=aac hRu;clear hRu;go_wp2_with fail;refine CRH.out.mono ?_;rintro e wx ⟨rfl,hbx⟩;have hownx:=aai hown hbx;have hbelx:=hbel.trans (hbx.mono hl2);have hlx:=hbelx.size;clear CRH hown hbel hbx;have CC:=aac (abp 9);go_wp2_with fail;refine(CC.out _).mono ?_;rintro e wy ⟨rfl,rfl⟩;clear CC;go_wp2_with fail;refine(CP.out _).mono ?_;rintro e wp ⟨vp,rfl,hop,hbp⟩;have hownp:=aai hownx hbp;have hbelp:=hbelx.trans (hbp.mono hlx);have hlp:=hbelp.size;obtain⟨g,cap,rfl,hcells⟩:=abq hop hlne;clear CP hop hbp hlne;go_wp2_with (at_builtin;refine wpList_append_own _ rfl _ _ 65 rfl w.heap.size 5 i0 (.int .u8 0) 1 1 Tryz.underlying65 hi hz0 hz1 hz2 rfl (by decide) _ _ _ rfl hownp ⟨g,0,none⟩ l.length cap (l.map (Value.int .u8)) rfl (by simp) hcells (ints_oneCell .u8 l) (by unfold maxLen;omega) (by omega) hlp ?_);intro v' w2 hown2 hgrow _;have R:=aac (adz hlp hownp hown2 hgrow hbelp);clear hown2 hgrow hownp hbelp hcells;go_wp2;go_roundw;case rel=>exact⟨k+1,bs++l,by omega,by go_num,R.out.1,R.out.2,by rw[List.length_append];omega,HR.out⟩
        case measure=>simp only[intOf];omega
      · have ST:aaA true ((aad s).drop k)=(0,[32],1):=by
         unfold aaA;rw[hgd,hgd1,if_neg h38,if_neg h13,if_pos (.inl h9),h9];rfl
        obtain⟨HR0,_,n2,n3⟩:=DOK.out _ _ ST;have HR:=aac HR0
        have CP:Hid (∀ w,Calls Tryz.prog 52 #[.int .i64 32] w (aat w [32])):=aac fun w=>by
         have:=aaE 32 w;rw[show aaL 32=[32] by decide] at this;exact this
        obtain⟨l,hl⟩:∃ l:List Int,l=[32]:=⟨_,rfl⟩;rw[← hl] at HR CP n3;have hlne:l≠[]:=by rw[hl];simp
        clear HR0 ST DOK DER hgd htl hgd1 hne hnn hl hb h38 h13 h9;have CRH:=aac hRu;clear hRu;go_wp2_with fail;refine CRH.out.mono ?_;rintro e wx ⟨rfl,hbx⟩;have hownx:=aai hown hbx;have hbelx:=hbel.trans (hbx.mono hl2);have hlx:=hbelx.size;clear CRH hown hbel hbx;have CC:=aac (abp 9);go_wp2_with fail;refine(CC.out _).mono ?_;rintro e wy ⟨rfl,rfl⟩;clear CC;go_wp2_with fail;refine(CP.out _).mono ?_;rintro e wp ⟨vp,rfl,hop,hbp⟩;have hownp:=aai hownx hbp;have hbelp:=hbelx.trans (hbp.mono hlx);have hlp:=hbelp.size;obtain⟨g,cap,rfl,hcells⟩:=abq hop hlne;clear CP hop hbp hlne;go_wp2_with (at_builtin;refine wpList_append_own _ rfl _ _ 65 rfl w.heap.size 5 i0 (.int .u8 0) 1 1 Tryz.underlying65 hi hz0 hz1 hz2 rfl (by decide) _ _ _ rfl hownp ⟨g,0,none⟩ l.length cap (l.map (Value.int .u8)) rfl (by simp) hcells (ints_oneCell .u8 l) (by unfold maxLen;omega) (by omega) hlp ?_);intro v' w2 hown2 hgrow _;have R:=aac (adz hlp hownp hown2 hgrow hbelp);clear hown2 hgrow hownp hbelp hcells;go_wp2;go_roundw;case rel=>exact⟨k+1,bs++l,by omega,by go_num,R.out.1,R.out.2,by rw[List.length_append];omega,HR.out⟩
        case measure=>simp only[intOf];omega
    by_cases h10:(aad s).getD k 0=10
    · rw[aln _ (by rw[hgd];omega),hgd,h10] at hRu;unfold adT R3i at hRu;dsimp only at hRu;have q2:IntKind.i64.wrap ((k:Int)+1)=(k:Int)+1:=IntWalk.i64_in _ (by omega);cases v
      · have ST:aaA false ((aad s).drop k)=(0,[10],1):=by
         unfold aaA;rw[hgd,hgd1,if_neg h38,if_neg h13,if_pos (.inr h10),h10];rfl
        obtain⟨HR0,_,n2,n3⟩:=DOK.out _ _ ST;have HR:=aac HR0
        have CP:Hid (∀ w,Calls Tryz.prog 52 #[.int .i64 10] w (aat w [10])):=aac fun w=>by
         have:=aaE 10 w;rw[show aaL 10=[10] by decide] at this;exact this
        obtain⟨l,hl⟩:∃ l:List Int,l=[10]:=⟨_,rfl⟩;rw[← hl] at HR CP n3;have hlne:l≠[]:=by rw[hl];simp
        clear HR0 ST DOK DER hgd htl hgd1 hne hnn hl hb h38 h13 h9 h10;have CRH:=aac hRu;clear hRu;go_wp2_with fail;refine CRH.out.mono ?_;rintro e wx ⟨rfl,hbx⟩;have hownx:=aai hown hbx;have hbelx:=hbel.trans (hbx.mono hl2);have hlx:=hbelx.size;clear CRH hown hbel hbx;have CC:=aac (abp 10);go_wp2_with fail;refine(CC.out _).mono ?_;rintro e wy ⟨rfl,rfl⟩;clear CC;go_wp2_with fail;refine(CP.out _).mono ?_;rintro e wp ⟨vp,rfl,hop,hbp⟩;have hownp:=aai hownx hbp;have hbelp:=hbelx.trans (hbp.mono hlx);have hlp:=hbelp.size;obtain⟨g,cap,rfl,hcells⟩:=abq hop hlne;clear CP hop hbp hlne;go_wp2_with (at_builtin;refine wpList_append_own _ rfl _ _ 65 rfl w.heap.size 5 i0 (.int .u8 0) 1 1 Tryz.underlying65 hi hz0 hz1 hz2 rfl (by decide) _ _ _ rfl hownp ⟨g,0,none⟩ l.length cap (l.map (Value.int .u8)) rfl (by simp) hcells (ints_oneCell .u8 l) (by unfold maxLen;omega) (by omega) hlp ?_);intro v' w2 hown2 hgrow _;have R:=aac (adz hlp hownp hown2 hgrow hbelp);clear hown2 hgrow hownp hbelp hcells;go_wp2;go_roundw;case rel=>exact⟨k+1,bs++l,by omega,by go_num,R.out.1,R.out.2,by rw[List.length_append];omega,HR.out⟩
        case measure=>simp only[intOf];omega
      · have ST:aaA true ((aad s).drop k)=(0,[32],1):=by
         unfold aaA;rw[hgd,hgd1,if_neg h38,if_neg h13,if_pos (.inr h10),h10];rfl
        obtain⟨HR0,_,n2,n3⟩:=DOK.out _ _ ST;have HR:=aac HR0
        have CP:Hid (∀ w,Calls Tryz.prog 52 #[.int .i64 32] w (aat w [32])):=aac fun w=>by
         have:=aaE 32 w;rw[show aaL 32=[32] by decide] at this;exact this
        obtain⟨l,hl⟩:∃ l:List Int,l=[32]:=⟨_,rfl⟩;rw[← hl] at HR CP n3;have hlne:l≠[]:=by rw[hl];simp
        clear HR0 ST DOK DER hgd htl hgd1 hne hnn hl hb h38 h13 h9 h10;have CRH:=aac hRu;clear hRu;go_wp2_with fail;refine CRH.out.mono ?_;rintro e wx ⟨rfl,hbx⟩;have hownx:=aai hown hbx;have hbelx:=hbel.trans (hbx.mono hl2);have hlx:=hbelx.size;clear CRH hown hbel hbx;have CC:=aac (abp 10);go_wp2_with fail;refine(CC.out _).mono ?_;rintro e wy ⟨rfl,rfl⟩;clear CC;go_wp2_with fail;refine(CP.out _).mono ?_;rintro e wp ⟨vp,rfl,hop,hbp⟩;have hownp:=aai hownx hbp;have hbelp:=hbelx.trans (hbp.mono hlx);have hlp:=hbelp.size;obtain⟨g,cap,rfl,hcells⟩:=abq hop hlne;clear CP hop hbp hlne;go_wp2_with (at_builtin;refine wpList_append_own _ rfl _ _ 65 rfl w.heap.size 5 i0 (.int .u8 0) 1 1 Tryz.underlying65 hi hz0 hz1 hz2 rfl (by decide) _ _ _ rfl hownp ⟨g,0,none⟩ l.length cap (l.map (Value.int .u8)) rfl (by simp) hcells (ints_oneCell .u8 l) (by unfold maxLen;omega) (by omega) hlp ?_);intro v' w2 hown2 hgrow _;have R:=aac (adz hlp hownp hown2 hgrow hbelp);clear hown2 hgrow hownp hbelp hcells;go_wp2;go_roundw;case rel=>exact⟨k+1,bs++l,by omega,by go_num,R.out.1,R.out.2,by rw[List.length_append];omega,HR.out⟩
        case measure=>simp only[intOf];omega
    have ST0:aaA v ((aad s).drop k)=plF ((aad s).drop k):=by
     unfold aaA plF;rw[hgd,if_neg h38,if_neg h13,if_neg (by omega)]
    unfold plF at ST0;have DN:=ajg _ hne hnn;have EI:=azZ hne hnn;rw[hgd] at EI
    have hkey:∀ r:Int,(aad s).getD k 0=(aaR r).getD 0 0→r≠13∧r≠9∧r≠10:=fun r hr=>
     ⟨fun e=>by subst e;exact h13 hr,fun e=>by subst e;exact h9 hr,fun e=>by subst e;exact h10 hr⟩
    clear hgd htl hgd1 hb h38 h13 h9 h10;unfold adT R3i at hRu;generalize aaO ((aad s).drop k)=x at *;obtain⟨r,n,er⟩:=x;dsimp only at hRu ST0 DN EI;have CRH:=aac hRu;clear hRu;by_cases he:er=0
    · subst he;obtain⟨dn1,dn2,dn3⟩:=DN rfl;obtain⟨x13,x9,x10⟩:=hkey r (EI rfl);rw[if_neg (by simp)] at ST0;by_cases hch:Chr r
      · rw[if_pos hch] at ST0;have hrb:=aeE hch
        have CP:Hid (∀ w,Calls Tryz.prog 52 #[.int .i64 r] w (aat w (aaR r))):=aac fun w=>by
         have:=aaE r w;rw[aqa hrb] at this;exact this
        have CC:=abp r;rw[decide_eq_true hch] at CC;have CCH:=aac CC;obtain⟨m,hm⟩:∃ m:Nat,m=(aaR r).length:=⟨_,rfl⟩;rw[← hm] at dn1;subst dn1;rw[Int.toNat_natCast] at ST0;obtain⟨HR0,n1,n2,n3⟩:=DOK.out _ _ ST0;have HR:=aac HR0;have hlne:=aft r;have t13:(r == 13)=false:=(by simpa using x13);have t9:(r == 9)=false:=(by simpa using x9);have t10:(r == 10)=false:=(by simpa using x10);have q2:IntKind.i64.wrap ((k:Int)+(m:Int))=(k:Int)+(m:Int):=IntWalk.i64_in _ (by omega);clear HR0 ST0 DOK DER DN EI hkey CC hch hrb dn2 dn3 hm x13 x9 x10 hne hnn;generalize aaR r=l at *;cases v
        all_goals
         go_wp2_with fail;refine CRH.out.mono ?_;rintro e wx ⟨rfl,hbx⟩;have hownx:=aai hown hbx;have hbelx:=hbel.trans (hbx.mono hl2);have hlx:=hbelx.size;clear CRH hown hbel hbx;go_wp2_with fail;refine(CCH.out _).mono ?_;rintro e wy ⟨rfl,rfl⟩;clear CCH;go_wp2_with fail;refine(CP.out _).mono ?_;rintro e wp ⟨vp,rfl,hop,hbp⟩;have hownp:=aai hownx hbp;have hbelp:=hbelx.trans (hbp.mono hlx);have hlp:=hbelp.size;obtain⟨g,cap,rfl,hcells⟩:=abq hop hlne;clear CP hop hbp hlne;go_wp2_with (at_builtin;refine wpList_append_own _ rfl _ _ 65 rfl w.heap.size 5 i0 (.int .u8 0) 1 1 Tryz.underlying65 hi hz0 hz1 hz2 rfl (by decide) _ _ _ rfl hownp ⟨g,0,none⟩ l.length cap (l.map (Value.int .u8)) rfl (by simp) hcells (ints_oneCell .u8 l) (by unfold maxLen;omega) (by omega) hlp ?_);intro v' w2 hown2 hgrow _;have R:=aac (adz hlp hownp hown2 hgrow hbelp);clear hown2 hgrow hownp hbelp hcells;go_wp2;go_roundw;case rel=>exact⟨k+m,bs++l,by omega,by go_num,R.out.1,R.out.2,by rw[List.length_append];omega,HR.out⟩
         case measure=>simp only[intOf];omega
      · rw[if_neg hch] at ST0;have HA:=aac (DER.out 3 ST0 (by decide));have CC:=abp r;rw[decide_eq_false hch] at CC;have CCH:=aac CC;clear ST0 DOK DER DN EI hkey CC hch dn1 dn2 dn3 x13 x9 x10 hne hnn hown;go_wp2_with fail;refine CRH.out.mono ?_;rintro e wx ⟨rfl,hbx⟩;have hbelx:=hbel.trans (hbx.mono hl2);clear CRH hbel hbx;go_wp2_with fail;refine(CCH.out _).mono ?_;rintro e wy ⟨rfl,rfl⟩;go_wp2;go_ret3;exact akR HA.out ⟨by rw[acj];rfl,hbelx⟩
    · rw[if_pos he] at ST0;have HA:=aac (DER.out er ST0 he);have te:(er != 0)=true:=(by simpa using he);clear ST0 DOK DER DN EI hkey he hne hnn hown;go_wp2_with fail;refine CRH.out.mono ?_;rintro e wx ⟨rfl,hbx⟩;have hbelx:=hbel.trans (hbx.mono hl2);clear CRH hbel hbx;go_wp2;go_ret3;exact akR HA.out ⟨by rw[acj];rfl,hbelx⟩
  · have hkk:k=s.size:=(by omega);subst hkk;rw[List.drop_of_length_le (by rw[aae];omega),ahi] at hr
    have HA:Hid (abH v (aad s)=(bs,0,0)):=aac (by
     have:=avN hr;rw[this];simp)
    obtain⟨A2,cc2,rfl,hrd⟩:=aeH hown;have hcv:=afj (c:=cc2) hrd;clear hr hown hrd;go_wp2;go_ret3;exact akR HA.out ⟨rfl,hbel⟩
end Go.Proofs.YtnomcldpbkinmaaGreatDoor
