/- Lemmas of the claim. -/
import Derived.Test.YtnomcldpbkinmaaGreatDoorG10
import Derived.Test.YtnomcldpbkinmaaGreatDoorG02
import Derived.Deep.DeepCutAuto
set_option maxHeartbeats 8000000
set_option maxRecDepth 100000
set_option linter.unusedSimpArgs false
set_option linter.unusedVariables false
namespace Go.Proofs.YtnomcldpbkinmaaGreatDoor
open Go.RowKit
def arN (F:List Int)(w:World)(e:Ending)(w':World):Prop:=
 ∃ b:Bool,e=.returned (.bool b)∧(b=true↔(aaO F).2.2=7)∧Below w.heap.size w w'
def asr (F:List Int)(w:World)(t:Value)(wr:World):Prop:=
 ∃ k:Nat,F.length < k∧k≤5∧t=.int .i64 k∧(∀ j,F.length < j→j < k→¬ awf F j)∧Below w.heap.size w wr
def a0O (F:List Int)(t:Nat)(l h:Value):Prop:=
 ∃ (j:Nat) (lo hi:ByteArray),F.length+j≤t∧l=.string lo∧h=.string hi∧aad lo=F++List.replicate j 128∧aad hi=F++List.replicate j 191
theorem adv (a b:ByteArray):aad (a++b)=aad a++aad b:=by
 unfold aad;rw[ByteArray.data_append,Array.toList_append,List.map_append]
theorem amI (j:Nat)(x:Int):List.replicate j x++[x]=List.replicate (j+1) x:=by
 rw[List.replicate_succ']
theorem awL (s:ByteArray)(n:Nat):akD (bt s) n n=amf (aad s) n:=by
 unfold amf
 congr 1
 funext k
 exact abx s k
theorem a1a {s:ByteArray}{a:Nat}{F:List Int}(h:F=(aad s).drop a)(k:Nat)(hk:a+k < s.size):((s[a+k]'hk).toNat:Int)=F.getD k 0:=by
 rw[afv s (a+k) hk,abx,h];simp[List.getD_eq_getElem?_getD,List.getElem?_drop]
theorem aiN {F:List Int}{k:Nat}{c d:Bool}(hc:c=true↔∀ j,1≤j→j < k→128≤F.getD j 0∧F.getD j 0≤191)(hk:1≤k)
 (hd:d=true↔c=true∧128≤F.getD k 0∧F.getD k 0≤191):d=true↔∀ j,1≤j→j < k+1→128≤F.getD j 0∧F.getD j 0≤191:=by
 rw[hd,hc];refine⟨fun ⟨h1,h2⟩ j j1 j2=> ?_,fun h=>⟨fun j j1 j2=>h j j1 (by omega),h k hk (by omega)⟩⟩;rcases Nat.lt_or_ge j k with h | h
 · exact h1 j j1 h
 · obtain rfl:j=k:=(by omega);exact h2
theorem a0I {s:ByteArray}{a:Nat}{F:List Int}(h:F=(aad s).drop a)(hk:a < s.size):((s[a]'hk).toNat:Int)=F.getD 0 0:=a1a h 0 hk
def a3H (F:List Int)(b i:Value):Prop:=
 ∃ (k:Nat) (c:Bool),1≤k∧k≤F.length∧i=.int .i64 k∧b=.bool c∧(c=true↔∀ j,1≤j→j < k→128≤F.getD j 0∧F.getD j 0≤191)
theorem awl (j:Nat):1≤stp j∧stp j≤4161:=by unfold stp;repeat' split <;> omega
theorem azn (j k:Nat)(hk:k≤64):0≤stp j * (k:Int)∧stp j * (k:Int)≤300000:=by
 have h:=awl j;refine⟨Int.mul_nonneg (by omega) (by omega),?_⟩;have:stp j * (k:Int)≤4161 * 64:=Int.mul_le_mul h.2 (by omega) (by omega) (by omega);omega
theorem anI (q F:List Int)(h0:NN q)(h1:∀ x∈q,x≤255)(hF:0 < F.length)(hlt:F.length < q.length):
 asK (strOfNums q++⟨#[120]⟩) 0 F↔q.take F.length=F:=by
 have hb:aad (strOfNums q++(⟨#[120]⟩:ByteArray))=q++[120]:=by rw[adv,agr q h0 h1];rfl
 have hz:(strOfNums q++(⟨#[120]⟩:ByteArray)).size=q.length+1:=by rw[← aae,hb];simp
 have hg:∀ j,j < F.length→bt (strOfNums q++(⟨#[120]⟩:ByteArray)) (0+j)=q.getD j 0:=fun j hj=>by
  rw[abx,hb,Nat.zero_add];rw[List.getD_eq_getElem?_getD,List.getElem?_append_left (by omega),List.getD_eq_getElem?_getD]
 refine⟨fun ⟨_,_,h⟩=> ?_,fun h=>⟨hF,by omega,fun j hj=> ?_⟩⟩
 · refine List.ext_getElem (by rw[List.length_take];omega) fun i i1 i2=> ?_;have:=h i i2;rw[hg i i2] at this;simp only[List.getD_eq_getElem?_getD,List.getElem?_eq_getElem i2,List.getElem?_eq_getElem (show i < q.length by omega),Option.getD_some] at this;rw[List.getElem_take];exact this
 · rw[hg j hj];have:=congrArg (fun l=>l.getD j 0) h;simp only[List.getD_eq_getElem?_getD,List.getElem?_take,hj,if_true] at this ⊢;exact this
theorem aiB (s:ByteArray)(A:Option Addr)(c m:Nat)(L:List Int)(w:World)(h:Rd .u8 w w.heap.size A L)(hs:s.size≤100000)(hL:L.length≤100000)(hm:m=L.length)(b:Bool)(hp:b=true↔asK s 0 L):
 Calls Tryz.prog 74 #[.string s,.int .i64 0,.slice A m c] w fun e w'=>e=.returned (.bool b)∧Below w.heap.size w w':=by
 subst hm
 cases b with
 | true=>exact afw s 0 A c L w h hs hL (by omega) (hp.1 rfl)
 | false=>exact ahb s 0 A c L w h hs hL (by omega) fun hq=>by cases hp.2 hq
theorem amV (w:World)(E:ByteArray)(c:Nat)(fr:Nat × Nat):Rd .u8 (w.alloc (.cells (bytesRow E c) 5 fr)) (w.alloc (.cells (bytesRow E c) 5 fr)).heap.size (some ⟨w.heap.size,0,none⟩) (aad E):=by
 refine .inr ⟨w.heap.size,0,rfl,by simp,fun j hj=> ?_⟩;rw[Nat.zero_add];have:=cell_of_row (w.alloc (.cells (bytesRow E c) 5 fr)) w.heap.size j (bytesRow E c) 5 fr (heap_alloc_new w _);rw[this];rw[aae] at hj;have hj':j < E.data.size:=hj;simp only[bytesRow,aad,Array.getElem?_append,List.getD_eq_getElem?_getD,Array.size_map,hj',if_true,Array.getElem?_map,List.getElem?_map,Array.getElem?_toList,Array.getElem?_eq_getElem hj',Option.map_some,Option.getD_some]
def a2S (F:List Int)(t:Nat)(w:World)(i:Value)(wr:World):Prop:=
 ∃ k:Nat,k≤64∧i=.int .i64 k∧(∀ j,j < k→¬ Hit F t j)∧Below w.heap.size w wr
theorem akY {F:List Int}{t:Nat}(h:∀ j,F.length < j→j < t→¬ awf F j)(hn:¬ awf F t):∀ j,F.length < j→j < t+1→¬ awf F j:=fun j j1 j2=>by
 rcases Nat.lt_or_ge j t with h' | h'
 · exact h j j1 h'
 · obtain rfl:j=t:=(by omega);exact hn
theorem ajt (r:Int):NN (aaL r)∧∀ x∈aaL r,x≤255:=by
 by_cases h:Bad r
 · rw[aaL,if_pos h];exact⟨fun x hx=>by simp at hx,fun x hx=>by simp at hx⟩
 · rw[abA h];exact afu r h
theorem afP {F:List Int}{t k:Nat}(h:∀ j,j < k→¬ Hit F t j)(hn:¬ Hit F t k):∀ j,j < k+1→¬ Hit F t j:=fun j j2=>by
 rcases Nat.lt_or_ge j k with h' | h'
 · exact h j h'
 · obtain rfl:j=k:=(by omega);exact hn
end Go.Proofs.YtnomcldpbkinmaaGreatDoor
namespace Go.Proofs.YtnomcldpbkinmaaGreatDoor
open Go.RowKit
theorem aiu (s:ByteArray)(a:Nat)(F:List Int)(w:World)(hs:s.size≤10000)(hF:F=(aad s).drop a)(h1:1≤F.length)(h3:F.length≤3):
 Calls Tryz.prog 75 #[.string s,.int .i64 a] w (arN F w):=by
 obtain⟨n,hn⟩:∃ n,n=F.length:=⟨_,rfl⟩;have hlen:n=s.size - a:=(by rw[hn,hF,List.length_drop,aae]);have hE:aad (s.extract a s.size)=F:=(by rw[aal,List.take_of_length_le (by rw[aae];exact Nat.le_refl _),hF]);have hz:(s.extract a s.size).size=n:=(by rw[← aae,hE,hn]);have HN:=aac hn;have HL:=aac hlen;have HE:=aac hE;have HF:=aac hF;have HZ:=aac hz;have g1:1≤n:=(by omega);have g3:n≤3:=(by omega);have ha:a+n≤s.size:=(by omega);have ha2:s.size≤a+n:=(by omega);have gn1:n≤F.length:=(by omega);have gn2:F.length≤n:=(by omega);clear hn hlen hE hF hz h1 h3;have t1:decide ((s.size:Int) - (a:Int) < 1)=false:=by simp;omega
 have t2:decide ((3:Int) < (s.size:Int) - (a:Int))=false:=by simp;omega
 go_enter Tryz.func75,Tryz.ntmps75;go_wp2_with fail;go_loopw [6] (fun t wr=>asr F w t wr) (fun t _=>5 - (intOf t).toNat);case atStart=>exact⟨n+1,by omega,by omega,by first | go_num | (congr 1;omega),fun j h1 h2=>by omega,Below.refl _ _⟩
 case round=>
  obtain⟨t,ht1,ht5,rfl,hno,hbel⟩:=hrel;have HNO:=aac hno;clear hno;by_cases h4:t≤4
  · have t4:decide ((t:Int)≤4)=true:=by simp;omega
    go_wp2_with fail;generalize s.extract a s.size=E at *;go_loop [8,9] (fun l h=>a0O F t l h) (fun l _=>t - (match l with | .string q=>q.size | _=>0));case atStart=>exact⟨0,E,E,by omega,rfl,rfl,by rw[HE.out];simp,by rw[HE.out];simp⟩
    case round=>
     obtain⟨j,lo,hi,hj,rfl,rfl,hlo,hhi⟩:=hrel;have hls:lo.size=F.length+j:=by rw[← aae,hlo];simp
     have hhs:hi.size=F.length+j:=by rw[← aae,hhi];simp
     by_cases hlt:F.length+j < t
     · have tl:decide (lo.size < t)=true:=by simp;omega
       have hb1:lo.size≤10000:=(by omega);have hb2:hi.size≤10000:=(by omega);have HLo:=aac hlo;have HHi:=aac hhi;have HLs:=aac hls;clear hlo hhi hls hhs;go_wp2;go_round
       case rel=>
        refine⟨j+1,_,_,by omega,rfl,rfl,?_,?_⟩
        · rw[adv,HLo.out,← amI,List.append_assoc];rfl
        · rw[adv,HHi.out,← amI,List.append_assoc];rfl
       case measure=>
        have e1:(lo++(⟨#[128]⟩:ByteArray)).size=lo.size+1:=by rw[← aae,adv,List.length_append,aae];rfl
        have:=HLs.out;show t - (lo++(⟨#[128]⟩:ByteArray)).size < t - lo.size;omega
     · have tl:decide (lo.size < t)=false:=by simp;omega
       have ej:j=t - F.length:=(by omega);subst ej;have hv1:=ahS lo t wr (by omega) (by omega) (by omega) h4;have hv2:=ahS hi t wr (by omega) (by omega) (by omega) h4;have vb1:=alx (bt lo) t (fun k=>afI lo k) (fun k=>ahA lo k) t h4;have vb2:=alx (bt hi) t (fun k=>afI hi k) (fun k=>ahA hi k) t h4;rw[awL,hlo] at hv1 vb1;rw[awL,hhi] at hv2 vb2;have hhl:=a2u F t (by omega) ht1 h4;unfold hiV loV at hhl;have HRK:=aac (show ∀ k,rK F t k=amf (F++List.replicate (t - F.length) 128) t+stp (t - F.length) * k from fun k=>rfl);generalize amf (F++List.replicate (t - F.length) 128) t=av at *;generalize amf (F++List.replicate (t - F.length) 191) t=bv at *;have HV1:=aac hv1;have HV2:=aac hv2;have HHL:=aac hhl;clear hv1 hv2 hhl hlo hhi hls hhs hj hlt;go_wp2_with fail;refine HV1.out.mono ?_;rintro e w1 ⟨rfl,rfl⟩;go_wp2_with fail;refine HV2.out.mono ?_;rintro e w1 ⟨rfl,rfl⟩;clear HV1 HV2;go_wp2_with fail;go_loop [12,13] (fun b i=>a3H F b i) (fun _ i=>F.length - (intOf i).toNat);case atStart=>exact⟨1,true,Nat.le_refl _,by omega,rfl,rfl,by simp;omega⟩
       case round=>
        obtain⟨k,c,hk1,hk2,rfl,rfl,hc⟩:=hrel;have HC:=aac hc;clear hc;by_cases hkl:k < F.length
        · have tk:decide ((k:Int) < (s.size:Int) - (a:Int))=true:=by simp;omega
          have hx:=a1a HF.out k (by omega);have HX:=aac hx;clear hx;have hi0:(a:Int)+(k:Int) < (s.size:Int):=(by omega);have hi1:a+k < s.size:=by omega
          cases c with
          | false=>
            go_wp2;go_round;case rel=>exact⟨k+1,false,by omega,by omega,by go_num,rfl,aiN HC.out hk1 (by simp)⟩
            case measure=>simp[intOf];omega
          | true=>
            by_cases c1:(128:Int)≤(s[a+k].toNat:Int)
            · have d1:decide ((128:Int)≤(s[a+k].toNat:Int))=true:=(by simpa using c1);by_cases c2:(s[a+k].toNat:Int)≤191
              · have d2:decide ((s[a+k].toNat:Int)≤191)=true:=(by simpa using c2);have HD:Hid (true=true↔true=true∧128≤F.getD k 0∧F.getD k 0≤191):=by rw[HX.out] at c1 c2;show _↔_;simp;exact⟨by simpa using c1,by simpa using c2⟩
                have HR:Hid (∀ j,1≤j→j < k+1→128≤F.getD j 0∧F.getD j 0≤191):=(aiN HC.out hk1 HD.out).1 rfl;clear c1 c2 HC HD;go_wp2;go_round;case rel=>exact⟨k+1,true,by omega,by omega,by go_num,rfl,⟨fun _=>HR.out,fun _=>rfl⟩⟩
                case measure=>simp[intOf];omega
              · have d2:decide ((s[a+k].toNat:Int)≤191)=false:=(by simpa using c2);have HD:Hid (false=true↔true=true∧128≤F.getD k 0∧F.getD k 0≤191):=by rw[HX.out] at c2;show _↔_;constructor;(intro h;cases h);(intro h;exact absurd h.2.2 c2)
                have HR:Hid (¬ ∀ j,1≤j→j < k+1→128≤F.getD j 0∧F.getD j 0≤191):=fun h=>by cases (aiN HC.out hk1 HD.out).2 h
                clear c1 c2 HC HD;go_wp2;go_round;case rel=>exact⟨k+1,false,by omega,by omega,by go_num,rfl,⟨(fun h=>by cases h),fun h=>absurd h HR.out⟩⟩
                case measure=>simp[intOf];omega
            · have d1:decide ((128:Int)≤(s[a+k].toNat:Int))=false:=(by simpa using c1);have HD:Hid (false=true↔true=true∧128≤F.getD k 0∧F.getD k 0≤191):=by rw[HX.out] at c1;show _↔_;constructor;(intro h;cases h);(intro h;exact absurd h.2.1 c1)
              have HR:Hid (¬ ∀ j,1≤j→j < k+1→128≤F.getD j 0∧F.getD j 0≤191):=fun h=>by cases (aiN HC.out hk1 HD.out).2 h
              clear c1 HC HD;go_wp2;go_round;case rel=>exact⟨k+1,false,by omega,by omega,by go_num,rfl,⟨(fun h=>by cases h),fun h=>absurd h HR.out⟩⟩
              case measure=>simp[intOf];omega
        · have tk:decide ((k:Int) < (s.size:Int) - (a:Int))=false:=by simp;omega
          have ht:c=true↔Tl F:=by
           rw[HC.out];have:k=F.length:=(by omega);rw[this];rfl
          have HT:=aac ht;clear HC ht;have hx0:=a0I HF.out (by omega);have HX0:=aac hx0;clear hx0;have hi1:a < s.size:=(by omega);go_upto_region 20 with fail
          go_cut [14] (fun f wx=>wx=wr∧∃ fb:Bool,f=.bool fb∧(fb=true↔Fst F t))
          case first=>
           have htt:t=2∨t=3∨t=4:=(by omega);rcases htt with htt | htt | htt
           · have HT2:Hid (t=2):=htt;have n2:((t:Int) == 2)=true:=by simp;omega
             have n3:((t:Int) == 3)=false:=by simp;omega
             have n4:((t:Int) == 4)=false:=by simp;omega
             clear htt;by_cases c1:(192:Int)≤(s[a].toNat:Int)
             · have d1:decide ((192:Int)≤(s[a].toNat:Int))=true:=(by simpa using c1);by_cases c2:(s[a].toNat:Int) < 224
               · have d2:decide ((s[a].toNat:Int) < 224)=true:=(by simpa using c2);have HR:Hid (Fst F t):=by rw[HX0.out] at c1 c2;have:=HT2.out;show Fst F t;unfold Fst;omega
                 clear c1 c2;go_wp2_with fail;go_meet;exact⟨rfl,true,rfl,⟨fun _=>HR.out,fun _=>rfl⟩⟩
               · have d2:decide ((s[a].toNat:Int) < 224)=false:=(by simpa using c2);have HR:Hid (¬ Fst F t):=by rw[HX0.out] at c1 c2;have:=HT2.out;show ¬ Fst F t;unfold Fst;omega
                 clear c1 c2;go_wp2_with fail;go_meet;exact⟨rfl,false,rfl,⟨(fun h=>by cases h),fun h=>absurd h HR.out⟩⟩
             · have d1:decide ((192:Int)≤(s[a].toNat:Int))=false:=(by simpa using c1);have HR:Hid (¬ Fst F t):=by rw[HX0.out] at c1;have:=HT2.out;show ¬ Fst F t;unfold Fst;omega
               clear c1;go_wp2_with fail;go_meet;exact⟨rfl,false,rfl,⟨(fun h=>by cases h),fun h=>absurd h HR.out⟩⟩
           · have HT2:Hid (t=3):=htt;have n2:((t:Int) == 2)=false:=by simp;omega
             have n3:((t:Int) == 3)=true:=by simp;omega
             have n4:((t:Int) == 4)=false:=by simp;omega
             clear htt;by_cases c1:(224:Int)≤(s[a].toNat:Int)
             · have d1:decide ((224:Int)≤(s[a].toNat:Int))=true:=(by simpa using c1);by_cases c2:(s[a].toNat:Int) < 240
               · have d2:decide ((s[a].toNat:Int) < 240)=true:=(by simpa using c2);have HR:Hid (Fst F t):=by rw[HX0.out] at c1 c2;have:=HT2.out;show Fst F t;unfold Fst;omega
                 clear c1 c2;go_wp2_with fail;go_meet;exact⟨rfl,true,rfl,⟨fun _=>HR.out,fun _=>rfl⟩⟩
               · have d2:decide ((s[a].toNat:Int) < 240)=false:=(by simpa using c2);have HR:Hid (¬ Fst F t):=by rw[HX0.out] at c1 c2;have:=HT2.out;show ¬ Fst F t;unfold Fst;omega
                 clear c1 c2;go_wp2_with fail;go_meet;exact⟨rfl,false,rfl,⟨(fun h=>by cases h),fun h=>absurd h HR.out⟩⟩
             · have d1:decide ((224:Int)≤(s[a].toNat:Int))=false:=(by simpa using c1);have HR:Hid (¬ Fst F t):=by rw[HX0.out] at c1;have:=HT2.out;show ¬ Fst F t;unfold Fst;omega
               clear c1;go_wp2_with fail;go_meet;exact⟨rfl,false,rfl,⟨(fun h=>by cases h),fun h=>absurd h HR.out⟩⟩
           · have HT2:Hid (t=4):=htt;have n2:((t:Int) == 2)=false:=by simp;omega
             have n3:((t:Int) == 3)=false:=by simp;omega
             have n4:((t:Int) == 4)=true:=by simp;omega
             clear htt;by_cases c1:(240:Int)≤(s[a].toNat:Int)
             · have d1:decide ((240:Int)≤(s[a].toNat:Int))=true:=(by simpa using c1);by_cases c2:(s[a].toNat:Int) < 248
               · have d2:decide ((s[a].toNat:Int) < 248)=true:=(by simpa using c2);have HR:Hid (Fst F t):=by rw[HX0.out] at c1 c2;have:=HT2.out;show Fst F t;unfold Fst;omega
                 clear c1 c2;go_wp2_with fail;go_meet;exact⟨rfl,true,rfl,⟨fun _=>HR.out,fun _=>rfl⟩⟩
               · have d2:decide ((s[a].toNat:Int) < 248)=false:=(by simpa using c2);have HR:Hid (¬ Fst F t):=by rw[HX0.out] at c1 c2;have:=HT2.out;show ¬ Fst F t;unfold Fst;omega
                 clear c1 c2;go_wp2_with fail;go_meet;exact⟨rfl,false,rfl,⟨(fun h=>by cases h),fun h=>absurd h HR.out⟩⟩
             · have d1:decide ((240:Int)≤(s[a].toNat:Int))=false:=(by simpa using c1);have HR:Hid (¬ Fst F t):=by rw[HX0.out] at c1;have:=HT2.out;show ¬ Fst F t;unfold Fst;omega
               clear c1;go_wp2_with fail;go_meet;exact⟨rfl,false,rfl,⟨(fun h=>by cases h),fun h=>absurd h HR.out⟩⟩
          case rest=>
           obtain⟨rfl,fb,rfl,hf⟩:=hcut;have HFS:=aac hf;clear hf
           cases c with
           | false=>
             have HNS:Hid (∀ j,F.length < j→j < t+1→¬ awf F j):=akY HNO.out fun h=>by cases HT.out.2 h.1
             clear HNO HT HFS;go_wp2;go_roundw;case rel=>exact⟨t+1,by omega,by omega,by go_num,HNS.out,hbel⟩
             case measure=>simp[intOf];omega
           | true=>
             cases fb with
             | false=>
               have HNS:Hid (∀ j,F.length < j→j < t+1→¬ awf F j):=akY HNO.out fun h=>by cases HFS.out.2 h.2.1
               clear HNO HT HFS;go_wp2;go_roundw;case rel=>exact⟨t+1,by omega,by omega,by go_num,HNS.out,hbel⟩
               case measure=>simp[intOf];omega
             | true=>
               have HTL:Hid (Tl F):=HT.out.1 rfl;have HFT:Hid (Fst F t):=HFS.out.1 rfl;clear HT HFS;have hst:=awl (t - F.length);have HM:=aac (fun k hk=>azn (t - F.length) k hk);generalize stp (t - F.length)=st at *;have hq:(bv - av) / 63=st:=by have:=HHL.out;omega
               have hd:0≤bv - av:=by have:=HHL.out;omega
               go_wp2_with fail;go_loopw [15] (fun i wr=>a2S F t w i wr) (fun i _=>64 - (intOf i).toNat);case atStart=>exact⟨0,by omega,rfl,fun j hj=>by omega,hbel⟩
               case round=>
                obtain⟨k2,hk64,rfl,hmiss,hbel2⟩:=hrel;have HMS:=aac hmiss;clear hmiss;by_cases hlt:k2 < 64
                · have tk2:decide ((k2:Int) < 64)=true:=by simp;omega
                  have hm:=HM.out k2 (by omega);obtain⟨hm1,hm2⟩:=hm;have hrk:=HRK.out k2;have HHIT:=aac (show Hit F t k2↔((aaL (rK F t k2)).length=t∧(aaL (rK F t k2)).take F.length=F) from Iff.rfl);rw[hrk] at HHIT;clear hrk;by_cases h63:k2=63
                  · have t63:((k2:Int) == 63)=true:=by simp;omega
                    have hbk:bv=av+st * (k2:Int):=by have:=HHL.out;rw[h63];exact this
                    rw[← hbk] at HHIT;clear hbk h63;have C1:=aac (fun W=>aaE (bv) W);have hqb:=ajt (bv);generalize aaL (bv)=q at HHIT C1 hqb;have HQB:=aac hqb;clear hqb;go_wp2_with fail;refine(C1.out _).mono ?_;rintro e w5 ⟨p,rfl,hown5,hbel5⟩;obtain⟨A5,c5,rfl,rd5⟩:=aeH hown5;clear hown5 C1;have hb6:Below w.heap.size w w5:=hbel2.trans (hbel5.mono hbel2.size);by_cases hql:q.length=t
                    · have tq:((q.length:Int) == (t:Int))=true:=by simp;omega
                      have hcv:=afj (c:=c5) rd5;have hbs:=run_bytes_of_string (P:=Tryz.prog) w5 9 65 5 E Tryz.underlying9 Tryz.underlying65 Tryz.underlying5;have hrb:=amV w5.drew E (grownCap w5 E.size 0 5) ((bytesRow E (grownCap w5 E.size 0 5)).size,(bytesRow E (grownCap w5 E.size 0 5)).size+1);rw[HE.out] at hrb;have hb8:Below w.heap.size w (w5.drew.alloc (.cells (bytesRow E (grownCap w5 E.size 0 5)) 5 ((bytesRow E (grownCap w5 E.size 0 5)).size,(bytesRow E (grownCap w5 E.size 0 5)).size+1))):=(hb6.drew).alloc hb6.size _;have hss:(strOfNums q).size≤10000:=by rw[strOfNums_size];omega
                      have hsq:(strOfNums q++(⟨#[120]⟩:ByteArray)).size≤100000:=by rw[← aae,adv,List.length_append,aae,strOfNums_size];show q.length+1≤_;omega
                      have HP:=aac (anI q F HQB.out.1 HQB.out.2 (by omega) (by omega));have heF:E.size=F.length:=by have:=HZ.out;have:=HN.out;omega
                      have hEs:E.size≤3:=(by omega);by_cases hit:q.take F.length=F
                      · have CB:=aiB (strOfNums q++(⟨#[120]⟩:ByteArray)) (some ⟨w5.heap.size,0,none⟩) (grownCap w5 E.size 0 5) E.size F _ hrb hsq (by omega) heF true (by rw[HP.out];simp;exact hit);have HB:=aac CB;have HY:Hid ((aaO F).2.2=7):=(aiO F (by omega) (by omega)).1 ⟨t,ht1,h4,HTL.out,HFT.out,k2,hlt,HHIT.out.2 ⟨hql,hit⟩⟩;have HQ:=aac hql;clear CB hit hql heF hrb HHIT;go_wp2_with (go_at_call 74;refine HB.out.mono ?_;rintro e w9 ⟨rfl,hb9⟩);go_ret;exact⟨true,rfl,⟨fun _=>HY.out,fun _=>rfl⟩,hb8.trans (hb9.mono hb8.size)⟩
                      · have CB:=aiB (strOfNums q++(⟨#[120]⟩:ByteArray)) (some ⟨w5.heap.size,0,none⟩) (grownCap w5 E.size 0 5) E.size F _ hrb hsq (by omega) heF false (by rw[HP.out];simp;exact hit);have HB:=aac CB;have HNH:Hid (∀ j,j < k2+1→¬ Hit F t j):=afP HMS.out fun h=>hit (HHIT.out.1 h).2;have HQ:=aac hql;clear CB hit hql heF hrb HHIT HMS;go_wp2_with (go_at_call 74;refine HB.out.mono ?_;rintro e w9 ⟨rfl,hb9⟩);go_roundw;case rel=>exact⟨k2+1,by omega,by go_num,HNH.out,hb8.trans (hb9.mono hb8.size)⟩
                        case measure=>simp[intOf];omega
                    · have tq:((q.length:Int) == (t:Int))=false:=by simp;omega
                      have HNH:Hid (∀ j,j < k2+1→¬ Hit F t j):=afP HMS.out fun h=>hql (HHIT.out.1 h).1;clear hql HHIT HMS;go_wp2;go_roundw;case rel=>exact⟨k2+1,by omega,by go_num,HNH.out,hb6⟩
                      case measure=>simp[intOf];omega
                  · have t63:((k2:Int) == 63)=false:=by simp;omega
                    clear h63;have C1:=aac (fun W=>aaE (av+st * (k2:Int)) W);have hqb:=ajt (av+st * (k2:Int));generalize aaL (av+st * (k2:Int))=q at HHIT C1 hqb;have HQB:=aac hqb;clear hqb;go_wp2_with fail;refine(C1.out _).mono ?_;rintro e w5 ⟨p,rfl,hown5,hbel5⟩;obtain⟨A5,c5,rfl,rd5⟩:=aeH hown5;clear hown5 C1;have hb6:Below w.heap.size w w5:=hbel2.trans (hbel5.mono hbel2.size);by_cases hql:q.length=t
                    · have tq:((q.length:Int) == (t:Int))=true:=by simp;omega
                      have hcv:=afj (c:=c5) rd5;have hbs:=run_bytes_of_string (P:=Tryz.prog) w5 9 65 5 E Tryz.underlying9 Tryz.underlying65 Tryz.underlying5;have hrb:=amV w5.drew E (grownCap w5 E.size 0 5) ((bytesRow E (grownCap w5 E.size 0 5)).size,(bytesRow E (grownCap w5 E.size 0 5)).size+1);rw[HE.out] at hrb;have hb8:Below w.heap.size w (w5.drew.alloc (.cells (bytesRow E (grownCap w5 E.size 0 5)) 5 ((bytesRow E (grownCap w5 E.size 0 5)).size,(bytesRow E (grownCap w5 E.size 0 5)).size+1))):=(hb6.drew).alloc hb6.size _;have hss:(strOfNums q).size≤10000:=by rw[strOfNums_size];omega
                      have hsq:(strOfNums q++(⟨#[120]⟩:ByteArray)).size≤100000:=by rw[← aae,adv,List.length_append,aae,strOfNums_size];show q.length+1≤_;omega
                      have HP:=aac (anI q F HQB.out.1 HQB.out.2 (by omega) (by omega));have heF:E.size=F.length:=by have:=HZ.out;have:=HN.out;omega
                      have hEs:E.size≤3:=(by omega);by_cases hit:q.take F.length=F
                      · have CB:=aiB (strOfNums q++(⟨#[120]⟩:ByteArray)) (some ⟨w5.heap.size,0,none⟩) (grownCap w5 E.size 0 5) E.size F _ hrb hsq (by omega) heF true (by rw[HP.out];simp;exact hit);have HB:=aac CB;have HY:Hid ((aaO F).2.2=7):=(aiO F (by omega) (by omega)).1 ⟨t,ht1,h4,HTL.out,HFT.out,k2,hlt,HHIT.out.2 ⟨hql,hit⟩⟩;have HQ:=aac hql;clear CB hit hql heF hrb HHIT;go_wp2_with (go_at_call 74;refine HB.out.mono ?_;rintro e w9 ⟨rfl,hb9⟩);go_ret;exact⟨true,rfl,⟨fun _=>HY.out,fun _=>rfl⟩,hb8.trans (hb9.mono hb8.size)⟩
                      · have CB:=aiB (strOfNums q++(⟨#[120]⟩:ByteArray)) (some ⟨w5.heap.size,0,none⟩) (grownCap w5 E.size 0 5) E.size F _ hrb hsq (by omega) heF false (by rw[HP.out];simp;exact hit);have HB:=aac CB;have HNH:Hid (∀ j,j < k2+1→¬ Hit F t j):=afP HMS.out fun h=>hit (HHIT.out.1 h).2;have HQ:=aac hql;clear CB hit hql heF hrb HHIT HMS;go_wp2_with (go_at_call 74;refine HB.out.mono ?_;rintro e w9 ⟨rfl,hb9⟩);go_roundw;case rel=>exact⟨k2+1,by omega,by go_num,HNH.out,hb8.trans (hb9.mono hb8.size)⟩
                        case measure=>simp[intOf];omega
                    · have tq:((q.length:Int) == (t:Int))=false:=by simp;omega
                      have HNH:Hid (∀ j,j < k2+1→¬ Hit F t j):=afP HMS.out fun h=>hql (HHIT.out.1 h).1;clear hql HHIT HMS;go_wp2;go_roundw;case rel=>exact⟨k2+1,by omega,by go_num,HNH.out,hb6⟩
                      case measure=>simp[intOf];omega
                · have tk2:decide ((k2:Int) < 64)=false:=by simp;omega
                  have HNS:Hid (∀ j,F.length < j→j < t+1→¬ awf F j):=akY HNO.out fun ⟨_,_,k3,h3,h4⟩=>HMS.out k3 (by omega) h4;clear HMS;go_wp2;go_roundw;case rel=>exact⟨t+1,by omega,by omega,by go_num,HNS.out,hbel2⟩
                  case measure=>simp[intOf];omega
  · have t4:decide ((t:Int)≤4)=false:=by simp;omega
    have HY:Hid (¬ (aaO F).2.2=7):=fun h=>by
     obtain⟨j,j1,j2,j3⟩:=(aiO F (by omega) (by omega)).2 h;exact HNO.out j j1 (by omega) j3
    go_wp2;go_ret;exact⟨false,rfl,⟨(fun h=>by cases h),fun h=>absurd h HY.out⟩,hbel⟩
end Go.Proofs.YtnomcldpbkinmaaGreatDoor
