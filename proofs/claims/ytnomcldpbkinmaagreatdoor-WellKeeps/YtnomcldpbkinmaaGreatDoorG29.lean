/- Lemmas of the claim. -/
import Derived.Test.YtnomcldpbkinmaaGreatDoorG07
import Derived.Test.YtnomcldpbkinmaaGreatDoorG06
import Derived.Test.YtnomcldpbkinmaaGreatDoorG28
import Derived.Test.YtnomcldpbkinmaaGreatDoorG02
import Derived.ScopeJumps
import Derived.WalkMore
set_option maxHeartbeats 4000000
set_option maxRecDepth 100000
set_option linter.unusedSimpArgs false
set_option linter.unusedVariables false
namespace Go.Proofs.YtnomcldpbkinmaaGreatDoor
open Go.RowKit
theorem ajc {P:Program}{a:Act}{w:World}{Q:Exit→Act→World→Prop}{c rest:Code}(l:Nat)(hf:findLabel c l=some rest)
 (first:c.wp P (Exit.jump l (fun a w=>rest.wp P (Exit.noGoto Q) a w) Q) a w):(Code.scope c).wp P Q a w:=
 wp_scope_jumps l (fun a w=>rest.wp P (Exit.noGoto Q) a w) (fun _ _=>0) hf first fun a w h=>wp_mono h fun e a w he=>by
  cases e with
  | goto l'=>exact he.elim
  | _=>exact he
theorem aiz {l:Nat}{J:Act→World→Prop}{Q:Exit→Act→World→Prop}{a:Act}{w:World}:Exit.jump l J Q .ret a w=Q .ret a w:=rfl
theorem anM (c:Nat)(h:c < 128):0≤afJ c∧afJ c≤8490:=by
 unfold afJ
 repeat' split
 all_goals omega
theorem a0S (c:Nat)(w:World)(h:c < 128)(hG:Gl w):Calls Tryz.prog 161 #[.int .i32 c] w fun e w'=>e=.returned (.int .i32 (afJ c))∧w=w':=by
 have hc:=hG.fold c h;have hb:=anM c h;generalize afJ c=f at *;clear hG;go_enter Tryz.func161,Tryz.ntmps161;go_wp2;go_ret;exact⟨rfl,rfl⟩
theorem a0r (t:ByteArray)(w:World)(h0:0 < t.size)(ht:t.size≤1000000)(h:bt t 0 < 128):Calls Tryz.prog 160 #[.string t] w fun e w'=>e=.returned (.tuple #[.int .i32 (bt t 0),.int .i64 1])∧w=w':=by
 have hb:=afv t 0 h0;have h1:=afI t 0;generalize bt t 0=x at *;have hne:t.toList.isEmpty=false:=by rw[Nz.isE];exact decide_eq_false (by omega)
 go_enter Tryz.func160,Tryz.ntmps160;go_wp2;go_ret2;exact⟨rfl,rfl⟩
def FO (c:Int):Prop:=0≤c∧c < 128∧afJ c.toNat < 128∧afJ (afJ c.toNat).toNat=c
theorem arq {c:Int}(h:128≤c):aaU c=c:=by unfold aaU;rw[if_neg (by omega)]
theorem aqr {c:Int}(h:c < 128):aaU c < 128:=by
 unfold aaU;split;all_goals omega
theorem afc (s:ByteArray)(k:Nat)(h:k < s.size):(aau (aad s))[k]?=some (aaU (bt s k)):=by
 unfold aau;rw[List.getElem?_map,abx,List.getD_eq_getElem?_getD,List.getElem?_eq_getElem (by rw[aae];exact h)];rfl
theorem amx {s t:ByteArray}{k:Nat}(hs:k < s.size)(ht:k < t.size)(h:aaU (bt s k)≠aaU (bt t k)):decide (aau (aad s)=aau (aad t))=false:=by
 refine decide_eq_false fun e=>h ?_;have:=congrArg (·[k]?) e;simp only[afc s k hs,afc t k ht,Option.some.injEq] at this;exact this
theorem aqL {s t:ByteArray}(h:s.size≠t.size):decide (aau (aad s)=aau (aad t))=false:=by
 refine decide_eq_false fun e=>h ?_;have:=congrArg List.length e;unfold aau at this
 simpa [aae] using this
theorem aoP {s t:ByteArray}(h:s.size=t.size)(ha:∀ j,j < s.size→aaU (bt s j)=aaU (bt t j)):decide (aau (aad s)=aau (aad t))=true:=by
 refine decide_eq_true ?_;apply List.ext_getElem?;intro i;rcases Nat.lt_or_ge i s.size with g | g
 · rw[afc s i g,afc t i (by omega),ha i g]
 · rw[List.getElem?_eq_none (by unfold aau;rw[List.length_map,aae];omega),List.getElem?_eq_none (by unfold aau;rw[List.length_map,aae];omega)]
theorem aqX (t:ByteArray)(k:Nat):bt (t.extract k t.size) 0=bt t k:=by
 rw[abx,abx,aal,List.take_of_length_le (by rw[aae];omega),List.getD_eq_getElem?_getD,List.getElem?_drop,Nat.add_zero,← List.getD_eq_getElem?_getD]
theorem ext_size (t:ByteArray)(k:Nat):(t.extract k t.size).size=t.size - k:=by rw[← aae,aal,List.length_drop,List.length_take,aae];omega
theorem aeJ {a b:Bool}(h:b=a):Ending.returned (.bool a)=.returned (.bool b):=by rw[h]
theorem avD {x y:Nat}(h:x=y∨(65≤x∧x≤90∧y=x+32)∨(65≤y∧y≤90∧x=y+32)):aaU (x:Int)=aaU (y:Int):=by
 unfold aaU
 repeat' split
 all_goals omega
theorem azF {x y:Nat}(h0:x < 128)(h1:y < 128)(h:¬ (x=y∨(65≤x∧x≤90∧y=x+32)∨(65≤y∧y≤90∧x=y+32))):aaU (x:Int)≠aaU (y:Int):=by
 unfold aaU
 repeat' split
 all_goals omega
theorem aoU {s t:ByteArray}{k x y:Nat}(ha:∀ j,j < k→aaU (bt s j)=aaU (bt t j))(hx:bt s k=x∧bt t k=y)(h:aaU (x:Int)=aaU (y:Int)):∀ j,j < k+1→aaU (bt s j)=aaU (bt t j):=fun j hj=>by
 rcases Nat.lt_or_eq_of_le (Nat.le_of_lt_succ hj) with e | e
 · exact ha j e
 · rw[e,hx.1,hx.2,h]
def a3m (s t:ByteArray)(i:Value):Prop:=∃ k:Nat,k≤s.size∧k≤t.size∧i=.int .i64 k∧∀ j,j < k→aaU (bt s j)=aaU (bt t j)
theorem anm (s t:ByteArray)(w:World)(hs:s.size≤1000000)(ht:t.size≤100)(hF:∀ j,j < t.size→FO (bt t j))(hG:Gl w):
 Calls Tryz.prog 133 #[.string s,.string t] w fun e w'=>e=.returned (.bool (decide (aau (aad s)=aau (aad t))))∧Below w.heap.size w w':=by
 obtain⟨M,hM⟩:∃ M:Nat,min (s.size:Int) (t.size:Int)=(M:Int):=⟨min s.size t.size,by omega⟩;have hMs:M≤s.size:=(by omega);have hMt:M≤t.size:=(by omega);have hMe:M=s.size∨M=t.size:=(by omega);have HG:=aac hG;have HF:=aac hF;clear hG hF;go_enter Tryz.func133,Tryz.ntmps133;go_wp2_with fail;refine ajc 0 rfl ?_;go_wp2_with fail;go_loop [5] (fun i=>a3m s t i) (fun i=>M - (intOf i).toNat);case atStart=>exact⟨0,Nat.zero_le _,Nat.zero_le _,rfl,fun j hj=>by omega⟩
 case round=>
  obtain⟨k,hks,hkt,rfl,hall⟩:=hrel;have HA:=aac hall;clear hall hM;by_cases hlt:k < M
  · obtain⟨x,hx⟩:∃ x:UInt8,s[k]'(by omega)=x:=⟨_,rfl⟩;obtain⟨y,hy⟩:∃ y:UInt8,t[k]'(by omega)=y:=⟨_,rfl⟩;have HX:Hid (bt s k=(x.toNat:Int)∧bt t k=(y.toNat:Int)):=aac ⟨by rw[← afv s k (by omega),hx],by rw[← afv t k (by omega),hy]⟩;have hfo:=HF.out k (by omega);rw[HX.out.2] at hfo;have hy128:y.toNat < 128:=by have:=hfo.2.1;omega
    have hor:bits .or .u8 (x.toNat:Int) (y.toNat:Int)=((x.toNat ||| y.toNat:Nat):Int):=u8_or_nat _ _ (by have:=x.toNat_lt;omega) (by omega);have hkM:(k:Int) < (M:Int):=(by omega);have hk1:(k:Int) < (s.size:Int):=(by omega);have hk2:(k:Int) < (t.size:Int):=(by omega);have HFO:=aac hfo;clear hfo;by_cases hx128:x.toNat < 128
    · have hor128:¬ ((128:Int)≤((x.toNat ||| y.toNat:Nat):Int)):=by have:=Nat.or_lt_two_pow (n:=7) hx128 hy128;omega
      go_wp2_with fail;all_goals (try simp only[beq_iff_eq,beq_eq_false_iff_ne,ne_eq] at *)
      all_goals first
       | (go_round;case rel=>exact⟨k+1,by omega,by omega,by go_num,aoU HA.out HX.out (avD (by omega))⟩
          case measure=>simp only[intOf];omega)
       | (rw[aiz];go_ret;exact⟨aeJ (amx (k:=k) (by omega) (by omega) (by rw[HX.out.1,HX.out.2];exact azF (by omega) (by omega) (by omega))),Below.refl _ _⟩)
    · have hor128:(128:Int)≤((x.toNat ||| y.toNat:Nat):Int):=by have:=Nat.left_le_or (n:=x.toNat) (m:=y.toNat);omega
      have hS0:0 < (s.extract k s.size).size:=by rw[← aae,aal,List.length_drop,List.length_take,aae];omega
      have hT0:0 < (t.extract k t.size).size:=by rw[← aae,aal,List.length_drop,List.length_take,aae];omega
      have hnx:∀ ty,(Instr.next (.pointer (some ⟨w.heap.size,0,none⟩)) true ty).run Tryz.prog (w.iter (s.extract k s.size) 0)=_:=fun ty=>run_next_any w (s.extract k s.size) 0 ty hS0
      have hR:128≤(Utf8.decode (s.extract k s.size) 0).1:=by
       refine(decode_high _ 0 hS0 ?_).1;have:=aqX s k;rw[← afv _ 0 hS0,HX.out.1] at this;omega
      have hR2:(Utf8.decode (s.extract k s.size) 0).1≤1114111:=Lib.rune_le _ _;generalize (Utf8.decode (s.extract k s.size) 0).1=r at *;generalize (Utf8.decode (s.extract k s.size) 0).2=d at *;go_wp2_with fail
      go_step3
      refine⟨rfl,?_⟩;go_wp2_with fail;go_loopw [1] (fun v wr=>wr=w.iter (s.extract k s.size) 0∧v=.string (t.extract k t.size)) (fun _ _=>0);case atStart=>exact⟨rfl,rfl⟩
      case round=>
       obtain⟨rfl,rfl⟩:=hrel;have HD:=aac (fun W=>a0r (t.extract k t.size) W hT0 (by rw[ext_size];omega) (by rw[aqX,HX.out.2];omega));rw[aqX,HX.out.2] at HD
       have HN:Hid (aaU (bt s k)≠aaU (bt t k)):=aac (by
        rw[HX.out.1,HX.out.2,arq (by omega)];have:=aqr (c:=(y.toNat:Int)) (by omega);omega)
       have HSF:=aac (fun c (hc:c < 128) p=>a0S c (w.iter (s.extract k s.size) p) hc (HG.out.alloc _));obtain⟨f,hf⟩:∃ f:Nat,afJ y.toNat=f:=⟨(afJ y.toNat).toNat,by have:=anM y.toNat hy128;omega⟩;have hfo:=HFO.out;unfold FO at hfo;rw[Int.toNat_natCast,hf,Int.toNat_natCast] at hfo;have hf1:f < 128:=(by omega);have HS1:=aac (HSF.out y.toNat hy128);have HS2:=aac (HSF.out f hf1);rw[hf] at HS1;rw[hfo.2.2.2] at HS2;clear hf hfo HSF;have hT1:(1:Int)≤((t.extract k t.size).size:Int):=(by omega);have t1:((y.toNat:Int) == (r:Int))=false:=by rw[beq_eq_false_iff_ne];omega
       go_wp2_with fail;refine(HD.out _).mono ?_;rintro e w1 ⟨rfl,rfl⟩;go_wp2_with fail;refine(HS1.out _).mono ?_;rintro e w1 ⟨rfl,rfl⟩;go_wp2_with fail;go_loop [13] (fun z=>z=.int .i32 (y.toNat:Int)∨(z=.int .i32 (f:Int)∧f≠y.toNat)) (fun z=>if intOf z=(y.toNat:Int) then 0 else 1)
       case atStart=>
        by_cases e:f=y.toNat
        · exact .inl (by rw[e])
        · exact .inr ⟨rfl,e⟩
       case round=>
        rcases hrel with rfl | ⟨rfl,hne⟩
        · go_wp2_with fail;go_ret;exact⟨aeJ (amx (k:=k) (by omega) (by omega) HN.out),(Below.refl _ w).alloc (Nat.le_refl _) _⟩
        · have t2:((f:Int) == (y.toNat:Int))=false:=by rw[beq_eq_false_iff_ne];omega
          have t3:((f:Int) != (y.toNat:Int))=true:=by rw[bne_iff_ne];omega
          have t4:(f:Int) < (r:Int):=(by omega);go_wp2_with fail;refine(HS2.out _).mono ?_;rintro e w1 ⟨rfl,rfl⟩;go_wp2_with fail;go_round;case rel=>exact .inl rfl
          case measure=>
           have hn2:¬ ((f:Int)=(y.toNat:Int)):=(by omega);simp[intOf,hne,hn2]
  · have hkM:¬ (k:Int) < (M:Int):=(by omega);obtain rfl:k=M:=(by omega);by_cases hst:s.size=t.size
    · have hb:((s.size:Int) == (t.size:Int))=true:=beq_iff_eq.2 (by omega);go_wp2_with fail;rw[aiz];go_ret;exact⟨aeJ (aoP hst fun j hj=>HA.out j (by omega)),Below.refl _ _⟩
    · have hb:((s.size:Int) == (t.size:Int))=false:=beq_eq_false_iff_ne.2 (by omega);go_wp2_with fail;rw[aiz];go_ret;exact⟨aeJ (aqL hst),Below.refl _ _⟩
end Go.Proofs.YtnomcldpbkinmaaGreatDoor
namespace Go.Proofs.YtnomcldpbkinmaaGreatDoor
open Go.RowKit
theorem ahf (s p:ByteArray):Lib.hasPrefix s.data.toList p.data.toList=(aad p).isPrefixOf (aad s):=(ajd p.data.toList s.data.toList).symm
theorem ahP (s p:ByteArray)(w:World)(b:Bool)(h:(aad p).isPrefixOf (aad s)=b):Calls Tryz.prog 85 #[.string s,.string p] w fun e w'=>e=.returned (.bool b)∧w=w':=by
 refine(Tryz.strings_HasPrefix s p w).mono ?_;rintro e w' ⟨rfl,rfl⟩;exact⟨by rw[ahf,h],rfl⟩
theorem afr (s p:ByteArray)(w:World)(h:(aad p).isPrefixOf (aad s)=true):Calls Tryz.prog 83 #[.string s,.string p] w fun e w'=>e=.returned (.tuple #[.string (strOfNums ((aad s).drop (aad p).length)),.bool true])∧w=w':=by
 refine(Tryz.strings_CutPrefix s p w).mono ?_;rintro e w' ⟨rfl,rfl⟩;refine⟨?_,rfl⟩;unfold Lib.trimPrefix;rw[ahf,h,if_pos rfl]
 have:(⟨(s.data.toList.drop p.data.toList.length).toArray⟩:ByteArray)=strOfNums ((aad s).drop (aad p).length):=by
  refine aaJ ?_;rw[afp,List.map_drop];unfold aad;rw[List.length_map]
 rw[this]
theorem agA (s p:ByteArray)(w:World)(h:(aad p).isPrefixOf (aad s)=false):Calls Tryz.prog 83 #[.string s,.string p] w fun e w'=>e=.returned (.tuple #[.string s,.bool false])∧w=w':=by
 refine(Tryz.strings_CutPrefix s p w).mono ?_;rintro e w' ⟨rfl,rfl⟩;refine⟨?_,rfl⟩;unfold Lib.trimPrefix;rw[ahf,h];simp
theorem asR (t p:ByteArray)(w:World)(ht:t.size≤1000000)(hG:Gl w)(h:fnd (aad p) (aad t)=none):Calls Tryz.prog 123 #[.string t,.string p] w fun e w'=>e=.returned (.tuple #[.string t,.string ⟨#[]⟩,.bool false])∧Below w.heap.size w w':=by
 obtain⟨m,hm⟩:=hG.max;refine(Tryz.strings_Cut t p m w (by omega) hm).mono ?_;rintro e w' ⟨rfl,n,rfl⟩;refine⟨?_,below_drewNg w n⟩;unfold Lib.cut;rw[adZ,acW h,if_neg (by omega)]
theorem avF (t p:ByteArray)(w:World)(ht:t.size≤1000000)(hG:Gl w)(n:Nat)(h:fnd (aad p) (aad t)=some n):
 Calls Tryz.prog 123 #[.string t,.string p] w fun e w'=>e=.returned (.tuple #[.string (strOfNums ((aad t).take n)),.string (strOfNums ((aad t).drop (n+(aad p).length))),.bool true])∧Below w.heap.size w w':=by
 obtain⟨m,hm⟩:=hG.max;refine(Tryz.strings_Cut t p m w (by omega) hm).mono ?_;rintro e w' ⟨rfl,k,rfl⟩;refine⟨?_,below_drewNg w k⟩;unfold Lib.cut;rw[adZ,acy h,if_pos (by omega),Int.toNat_natCast];have e1:(⟨(t.data.toList.take n).toArray⟩:ByteArray)=strOfNums ((aad t).take n):=aaJ (by rw[afp,List.map_take];rfl);have e2:(⟨(t.data.toList.drop (n+p.data.toList.length)).toArray⟩:ByteArray)=strOfNums ((aad t).drop (n+(aad p).length)):=aaJ (by rw[afp,List.map_drop];unfold aad;rw[List.length_map]);rw[e1,e2]
def aoz (s U:ByteArray):Prop:=∀ W,Calls Tryz.prog 184 #[.string s,.func (.func 91) #[] #[]] W fun e w'=>e=.returned (.string U)∧Below W.heap.size W w'
def asF (U K R:ByteArray)(b:Bool):Prop:=∀ W,Calls Tryz.prog 83 #[.string U,.string K] W fun e w'=>e=.returned (.tuple #[.string R,.bool b])∧W=w'
def ado (r:ByteArray)(b:Bool)(w:World)(e:Ending)(w':World):Prop:=e=.returned (.tuple #[.string r,.bool b])∧Below w.heap.size w w'
theorem axR (s key U:ByteArray)(g:Nat)(w:World)(hk:key.size≤100)(C1:Hid (aoz s U))(C2:Hid (asF U (key++⟨#[61]⟩) U false)):
 Calls Tryz.prog 162 #[.string s,.string key,.func (.func g) #[] #[]] w (ado s false w):=by
 go_enter Tryz.func162,Tryz.ntmps162;go_wp2_with fail;refine(C1.out _).mono ?_;rintro e w1 ⟨rfl,hb1⟩;go_wp2_with fail;refine(C2.out _).mono ?_;rintro e w2 ⟨rfl,rfl⟩;go_wp2_with fail;go_ret2;exact⟨rfl,hb1⟩
theorem apn (s key U R:ByteArray)(g:Nat)(w:World)(hk:key.size≤100)(he:U.size=s.size∨R.size=0)(C1:Hid (aoz s U))(C2:Hid (asF U (key++⟨#[61]⟩) R true)):
 Calls Tryz.prog 162 #[.string s,.string key,.func (.func g) #[] #[]] w (ado s false w):=by
 by_cases h1:U.size=s.size
 · have t1:((U.size:Int) == (s.size:Int))=true:=by rw[beq_iff_eq];omega
   clear he;have H1:=aac h1;clear h1;go_enter Tryz.func162,Tryz.ntmps162;go_wp2_with fail;refine(C1.out _).mono ?_;rintro e w1 ⟨rfl,hb1⟩;go_wp2_with fail;refine(C2.out _).mono ?_;rintro e w2 ⟨rfl,rfl⟩;go_wp2_with fail;go_ret2;exact⟨rfl,hb1⟩
 · have t1:((U.size:Int) == (s.size:Int))=false:=by rw[beq_eq_false_iff_ne];omega
   have hR:R.size=0:=by rcases he with h | h;exact absurd h h1;exact h
   have e1:R.toList.isEmpty=true:=by rw[Nz.isE];exact decide_eq_true hR
   have e2:R.toList=[]:=(by simpa using e1);clear he hR h1;go_enter Tryz.func162,Tryz.ntmps162;go_wp2_with fail;refine(C1.out _).mono ?_;rintro e w1 ⟨rfl,hb1⟩;go_wp2_with fail;refine(C2.out _).mono ?_;rintro e w2 ⟨rfl,rfl⟩;go_wp2_with fail;go_ret2;exact⟨rfl,hb1⟩
theorem awQ (s key U R:ByteArray)(g:Nat)(w:World)(hk:key.size≤100)(h1:U.size≠s.size)(hR:1≤R.size)(hR2:R.size≤1000000)(hq:¬ quo ((aad R).getD 0 0))(C1:Hid (aoz s U))(C2:Hid (asF U (key++⟨#[61]⟩) R true)):
 Calls Tryz.prog 162 #[.string s,.string key,.func (.func g) #[] #[]] w (ado s false w):=by
 have t1:((U.size:Int) == (s.size:Int))=false:=by rw[beq_eq_false_iff_ne];omega
 have e1:R.toList.isEmpty=false:=by rw[Nz.isE];exact decide_eq_false (by omega)
 have e2:¬ R.toList=[]:=(by simpa using e1);have q1:((R.extract 0 1).toList == [34])=false:=by rw[afq R 34 hR];exact decide_eq_false fun h=>hq (.inl h)
 have q2:((R.extract 0 1).toList == [39])=false:=by rw[afq R 39 hR];exact decide_eq_false fun h=>hq (.inr h)
 have q3:((R.extract 0 1).toList != [34])=true:=by rw[bne,q1];rfl
 have q4:((R.extract 0 1).toList != [39])=true:=by rw[bne,q2];rfl
 have hR3:(1:Int)≤(R.size:Int):=(by omega);clear h1 hq;go_enter Tryz.func162,Tryz.ntmps162;go_wp2_with fail;refine(C1.out _).mono ?_;rintro e w1 ⟨rfl,hb1⟩;go_wp2_with fail;refine(C2.out _).mono ?_;rintro e w2 ⟨rfl,rfl⟩;go_wp2_with fail;go_ret2;exact⟨rfl,hb1⟩
def a2l (T Q V A:ByteArray)(b:Bool):Prop:=∀ W,Gl W→Calls Tryz.prog 123 #[.string T,.string Q] W fun e w'=>e=.returned (.tuple #[.string V,.string A,.bool b])∧Below W.heap.size W w'
def OkF (g:Nat)(V:ByteArray)(b:Bool):Prop:=∀ W,Gl W→Calls Tryz.prog g #[.string V] W fun e w'=>e=.returned (.bool b)∧Below W.heap.size W w'
theorem aeR {R:ByteArray}(hR:1≤R.size)(hq:quo ((aad R).getD 0 0)):((R.extract 0 1).toList == [34])=true∨(((R.extract 0 1).toList == [34])=false∧((R.extract 0 1).toList == [39])=true):=by
 rw[afq R 34 hR,afq R 39 hR];rcases hq with h | h
 · exact .inl (decide_eq_true h)
 · exact .inr ⟨decide_eq_false (by rw[h];decide),decide_eq_true h⟩
theorem ayW (s key U R V A:ByteArray)(g:Nat)(w:World)(hG:Gl w)(hk:key.size≤100)(h1:U.size≠s.size)(hR:1≤R.size)(hR2:R.size≤1000000)(hq:quo ((aad R).getD 0 0))(C1:Hid (aoz s U))(C2:Hid (asF U (key++⟨#[61]⟩) R true))
 (C3:Hid (a2l (R.extract 1 R.size) (R.extract 0 1) V A false)):
 Calls Tryz.prog 162 #[.string s,.string key,.func (.func g) #[] #[]] w (ado s false w):=by
 have HG:=aac hG;have t1:((U.size:Int) == (s.size:Int))=false:=by rw[beq_eq_false_iff_ne];omega
 have e1:R.toList.isEmpty=false:=by rw[Nz.isE];exact decide_eq_false (by omega)
 have e2:¬ R.toList=[]:=(by simpa using e1);have hR3:(1:Int)≤(R.size:Int):=(by omega);have qf:=aeR hR hq;clear h1 hq hG;rcases qf with q1 | ⟨q1,q2⟩
 · have q3:((R.extract 0 1).toList != [34])=false:=by rw[bne,q1];rfl
   go_enter Tryz.func162,Tryz.ntmps162;go_wp2_with fail;refine(C1.out _).mono ?_;rintro e w1 ⟨rfl,hb1⟩;go_wp2_with fail;refine(C2.out _).mono ?_;rintro e w2 ⟨rfl,rfl⟩;go_wp2_with fail;refine(C3.out _ (HG.out.after hb1)).mono ?_;rintro e w3 ⟨rfl,hb3⟩;go_wp2_with fail;go_ret2;exact⟨rfl,hb1.trans (hb3.mono hb1.size)⟩
 · have q3:((R.extract 0 1).toList != [34])=true:=by rw[bne,q1];rfl
   have q4:((R.extract 0 1).toList != [39])=false:=by rw[bne,q2];rfl
   go_enter Tryz.func162,Tryz.ntmps162;go_wp2_with fail;refine(C1.out _).mono ?_;rintro e w1 ⟨rfl,hb1⟩;go_wp2_with fail;refine(C2.out _).mono ?_;rintro e w2 ⟨rfl,rfl⟩;go_wp2_with fail;refine(C3.out _ (HG.out.after hb1)).mono ?_;rintro e w3 ⟨rfl,hb3⟩;go_wp2_with fail;go_ret2;exact⟨rfl,hb1.trans (hb3.mono hb1.size)⟩
theorem asO (s key U R V A:ByteArray)(g:Nat)(hg:g=163∨g=164∨g=165)(b:Bool)(w:World)(hG:Gl w)(hk:key.size≤100)(h1:U.size≠s.size)(hR:1≤R.size)(hR2:R.size≤1000000)(hq:quo ((aad R).getD 0 0))(C1:Hid (aoz s U))(C2:Hid (asF U (key++⟨#[61]⟩) R true))
 (C3:Hid (a2l (R.extract 1 R.size) (R.extract 0 1) V A true)) (C4:Hid (OkF g V b)):
 Calls Tryz.prog 162 #[.string s,.string key,.func (.func g) #[] #[]] w (ado (if b=true then A else s) b w):=by
 have HG:=aac hG;have t1:((U.size:Int) == (s.size:Int))=false:=by rw[beq_eq_false_iff_ne];omega
 have e1:R.toList.isEmpty=false:=by rw[Nz.isE];exact decide_eq_false (by omega)
 have e2:¬ R.toList=[]:=(by simpa using e1);have hR3:(1:Int)≤(R.size:Int):=(by omega);have qf:=aeR hR hq;clear h1 hq hG;rcases qf with q1 | ⟨q1,q2⟩
 · have q3:((R.extract 0 1).toList != [34])=false:=by rw[bne,q1];rfl
   rcases hg with rfl | rfl | rfl
   all_goals
    cases b
    all_goals
     simp only[Bool.false_eq_true,if_false,if_true];go_enter Tryz.func162,Tryz.ntmps162;go_wp2_with fail;refine(C1.out _).mono ?_;rintro e w1 ⟨rfl,hb1⟩;go_wp2_with fail;refine(C2.out _).mono ?_;rintro e w2 ⟨rfl,rfl⟩;go_wp2_with fail;refine(C3.out _ (HG.out.after hb1)).mono ?_;rintro e w3 ⟨rfl,hb3⟩;go_wp2_with fail;refine(C4.out _ ((HG.out.after hb1).after hb3)).mono ?_;rintro e w4 ⟨rfl,hb4⟩;go_wp2_with fail;go_ret2;exact⟨rfl,(hb1.trans (hb3.mono hb1.size)).trans (hb4.mono (Nat.le_trans hb1.size hb3.size))⟩
 · have q3:((R.extract 0 1).toList != [34])=true:=by rw[bne,q1];rfl
   have q4:((R.extract 0 1).toList != [39])=false:=by rw[bne,q2];rfl
   rcases hg with rfl | rfl | rfl
   all_goals
    cases b
    all_goals
     simp only[Bool.false_eq_true,if_false,if_true];go_enter Tryz.func162,Tryz.ntmps162;go_wp2_with fail;refine(C1.out _).mono ?_;rintro e w1 ⟨rfl,hb1⟩;go_wp2_with fail;refine(C2.out _).mono ?_;rintro e w2 ⟨rfl,rfl⟩;go_wp2_with fail;refine(C3.out _ (HG.out.after hb1)).mono ?_;rintro e w3 ⟨rfl,hb3⟩;go_wp2_with fail;refine(C4.out _ ((HG.out.after hb1).after hb3)).mono ?_;rintro e w4 ⟨rfl,hb4⟩;go_wp2_with fail;go_ret2;exact⟨rfl,(hb1.trans (hb3.mono hb1.size)).trans (hb4.mono (Nat.le_trans hb1.size hb3.size))⟩
end Go.Proofs.YtnomcldpbkinmaaGreatDoor
namespace Go.Proofs.YtnomcldpbkinmaaGreatDoor
open Go.RowKit
theorem axk (b:Nat→Int)(n b0 b1 b2 b3:Nat)(e0:b 0=b0)(e1:b 1=b1)(e2:b 2=b2)(e3:b 3=b3)(h:(canon b n).2.2=0):
 Lib.decodeN n b0 b1 b2 b3=((canon b n).1.toNat,(canon b n).2.1.toNat):=by
 unfold canon at h ⊢;rw[e0,e1,e2,e3] at h ⊢;unfold Lib.decodeN;by_cases c0:b0 < 128
 · rw[if_pos c0,if_pos (show (b0:Int) < 128 by omega)];rfl
 rw[if_neg (by omega)] at h;rw[if_neg c0,if_neg (show ¬ (b0:Int) < 128 by omega)];by_cases c1:b0 < 194
 · rw[if_pos (by omega)] at h;simp at h
 rw[if_neg (by omega)] at h;rw[if_neg (show ¬ (b0:Int) < 194 by omega)];by_cases c2:b0 < 224
 · rw[if_pos (by omega)] at h;rw[if_pos (show (b0:Int) < 224 by omega)];by_cases d1:n < 2
   · rw[if_pos d1] at h;simp at h
   rw[if_neg d1] at h ⊢;by_cases d2:(b1:Int) < 128∨191 < (b1:Int)
   · rw[if_pos d2] at h;simp at h
   rw[if_neg d2,if_pos (show b0 / 32=6∧(1 < n∧b1 / 64=2) by omega),if_pos (by omega)];simp only[Prod.mk.injEq];omega
 rw[if_neg (by omega)] at h;rw[if_neg (show ¬ (b0:Int) < 224 by omega),if_neg (show ¬ (b0 / 32=6∧(1 < n∧b1 / 64=2)) by omega)];by_cases c3:b0 < 240
 · rw[if_pos (by omega)] at h;rw[if_pos (show (b0:Int) < 240 by omega)];by_cases d1:n < 2
   · rw[if_pos d1] at h;simp at h
   rw[if_neg d1] at h ⊢;by_cases d2:(b1:Int) < (if (b0:Int)=224 then 160 else 128)∨(if (b0:Int)=237 then 159 else 191) < (b1:Int)
   · rw[if_pos d2] at h;simp at h
   rw[if_neg d2] at h ⊢;by_cases d3:n < 3
   · rw[if_pos d3] at h;simp at h
   rw[if_neg d3] at h ⊢;by_cases d4:(b2:Int) < 128∨191 < (b2:Int)
   · rw[if_pos d4] at h;simp at h
   have d2':128≤b1∧b1≤191∧(b0=224→160≤b1)∧(b0=237→b1≤159):=by
    split at d2 <;> split at d2 <;> omega
   rw[if_neg d4,if_pos (show b0 / 16=14∧(1 < n∧b1 / 64=2)∧(2 < n∧b2 / 64=2) by omega),if_pos (by omega)];simp only[Prod.mk.injEq];omega
 rw[if_neg (by omega)] at h;rw[if_neg (show ¬ (b0:Int) < 240 by omega),if_neg (show ¬ (b0 / 16=14∧(1 < n∧b1 / 64=2)∧(2 < n∧b2 / 64=2)) by omega)];by_cases c4:b0 < 245
 · rw[if_pos (by omega)] at h;rw[if_pos (show (b0:Int) < 245 by omega)];by_cases d1:n < 2
   · rw[if_pos d1] at h;simp at h
   rw[if_neg d1] at h ⊢;by_cases d2:(b1:Int) < (if (b0:Int)=240 then 144 else 128)∨(if (b0:Int)=244 then 143 else 191) < (b1:Int)
   · rw[if_pos d2] at h;simp at h
   rw[if_neg d2] at h ⊢;by_cases d3:n < 3
   · rw[if_pos d3] at h;simp at h
   rw[if_neg d3] at h ⊢;by_cases d4:(b2:Int) < 128∨191 < (b2:Int)
   · rw[if_pos d4] at h;simp at h
   rw[if_neg d4] at h ⊢;by_cases d5:n < 4
   · rw[if_pos d5] at h;simp at h
   rw[if_neg d5] at h ⊢;by_cases d6:(b3:Int) < 128∨191 < (b3:Int)
   · rw[if_pos d6] at h;simp at h
   have d2':128≤b1∧b1≤191∧(b0=240→144≤b1)∧(b0=244→b1≤143):=by
    split at d2 <;> split at d2 <;> omega
   rw[if_neg d6,if_pos (show b0 / 8=30∧(1 < n∧b1 / 64=2)∧(2 < n∧b2 / 64=2)∧(3 < n∧b3 / 64=2) by omega),if_pos (by omega)];simp only[Prod.mk.injEq];omega
 · rw[if_neg (by omega)] at h;simp at h
def ints (L:List Nat):List Int:=L.map fun n:Nat=>(n:Int)
theorem asy (L:List Nat):NN (ints L):=fun x hx=>by
 obtain⟨n,_,rfl⟩:=List.mem_map.1 hx;omega
theorem afW (L:List Nat)(k:Nat):(ints L).getD k 0=(L.getD k 0:Int):=by
 unfold ints;rw[List.getD_eq_getElem?_getD,List.getD_eq_getElem?_getD,List.getElem?_map];cases L[k]? <;> simp
theorem ayY (L:List Nat)(h:(aaO (ints L)).2.2=0):Nz.dN L=((aaO (ints L)).1.toNat,(aaO (ints L)).2.1.toNat):=by
 have hl:(ints L).length=L.length:=(by simp[ints]);unfold aaO at h ⊢;rw[hl] at h ⊢;exact axk _ _ _ _ _ _ (afW L 0) (afW L 1) (afW L 2) (afW L 3) h
theorem a0m (n:Nat):∀ (L:List Nat),L.length≤n→(acV (ints L)).2.2=0→Nz.Rn L=(acV (ints L)).1:=by
 induction n with
 | zero=>
   intro L hn _;have:L=[]:=List.eq_nil_of_length_eq_zero (by omega);subst this;rfl
 | succ n ih=>
   intro L hn h;by_cases hL:L=[]
   · subst hL;rfl
   have hne:ints L≠[]:=by unfold ints;simpa using hL
   by_cases he:(aaO (ints L)).2.2=0
   · have hk:=ajf _ hne (asy _) he;have hd:=ayY _ he;have hw:=Nz.abD L hL;have hl1:1≤(ints L).length:=List.length_pos_iff.2 hne
     have h0:0≤(aaO (ints L)).1:=by
      have:=ahQ (fun k=>(ints L).getD k 0) (ints L).length hl1 (fun k=>(asy _).getD k);unfold aaO;rcases this with q | q
      · exact q.2.2.2.2.1
      · omega
     rw[hk] at h ⊢;rw[Nz.adM _ hL,hd];rw[hd] at hw;generalize aaO (ints L)=x at *;obtain⟨r,d,er⟩:=x;simp only at *
     have hdr:(ints L).drop d.toNat=ints (L.drop d.toNat):=by
      unfold ints;rw[List.map_drop]
     rw[hdr] at h ⊢;rw[ih _ (by rw[List.length_drop];omega) h]
     congr 1
     omega
   · rw[anj _ hne he] at h;exact absurd h he
theorem afx (s:ByteArray):∀ (f i:Nat),Cz.rgo s f i=Nz.rgo s f i
 | 0,i=>rfl
 | f+1,i=>by
   unfold Cz.rgo Nz.rgo;rw[afx s f]
theorem agM (s:ByteArray):aad s=ints (Nz.bl s):=by simp[aad,ints,Nz.bl]
theorem apm (s:ByteArray)(h:(acV (aad s)).2.2=0):Cz.runes s=(acV (aad s)).1:=by
 have:Cz.runes s=Nz.runes s:=afx s _ _;rw[this,Nz.afQ,agM];exact a0m _ _ (Nat.le_refl _) (by rw[← agM];exact h)
theorem aug (s:ByteArray):Cz.avP [115] s=decide (∀ r∈Cz.runes s,Chr r):=by
 unfold Cz.avP;rw[Bool.eq_iff_iff,List.all_eq_true,decide_eq_true_iff];unfold Cz.avU Cz.asJ;simp
def a0v (l:List Int)(w:World)(e:Ending)(w':World):Prop:=e=.returned (.int .i64 (aaz l))∧Below w.heap.size w w'
theorem asE {x y:Int}(h:x=y):Ending.returned (.int .i64 y)=.returned (.int .i64 x):=by rw[h]
theorem aqf (s:ByteArray)(w:World)(hs:s.size≤10000):Calls Tryz.prog 87 #[.string s] w (a0v (aad s) w):=by
 have C:=aac (Uz.alM s w hs);rw[anq] at C;by_cases h1:(acV (aad s)).2.2=0
 · have ha:=aug s;rw[apm s h1] at ha;have C2:=aac (fun W=>Cz.all1 s 115 (.inl rfl) W);rw[ha] at C2;by_cases hp:∀ r∈(acV (aad s)).1,Chr r
   · have HW:Hid (aaz (aad s)=0):=aac (by unfold aaz;rw[if_neg (by omega),if_pos hp]);rw[decide_eq_true hp] at C2;rw[h1] at C;clear ha hp h1;go_enter Tryz.func87,Tryz.ntmps87;go_wp2_with fail;refine C.out.mono ?_;rintro e w1 ⟨v,rfl,_,hb⟩;go_wp2_with fail;refine(C2.out _).mono ?_;rintro e w2 ⟨rfl,hb2⟩;go_wp2_with fail;go_ret;exact⟨asE HW.out,hb.trans (hb2.mono hb.size)⟩
   · have HW:Hid (aaz (aad s)=3):=aac (by unfold aaz;rw[if_neg (by omega),if_neg hp]);rw[decide_eq_false hp] at C2;rw[h1] at C;clear ha hp h1;go_enter Tryz.func87,Tryz.ntmps87;go_wp2_with fail;refine C.out.mono ?_;rintro e w1 ⟨v,rfl,_,hb⟩;go_wp2_with fail;refine(C2.out _).mono ?_;rintro e w2 ⟨rfl,hb2⟩;go_wp2_with fail;go_ret;exact⟨asE HW.out,hb.trans (hb2.mono hb.size)⟩
 · have HW:Hid (aaz (aad s)=2):=aac (by unfold aaz;rw[if_pos h1]);generalize (acV (aad s)).2.2=er at *;have t1:(er != 0)=true:=by rw[bne_iff_ne];exact h1
   go_enter Tryz.func87,Tryz.ntmps87;go_wp2_with fail;refine C.out.mono ?_;rintro e w1 ⟨v,rfl,_,hb⟩;go_wp2_with fail;go_ret;exact⟨asE HW.out,hb⟩
end Go.Proofs.YtnomcldpbkinmaaGreatDoor
namespace Go.Proofs.YtnomcldpbkinmaaGreatDoor
open Go.RowKit
def Bts (l:List Int):Prop:=∀ x∈l,0≤x∧x≤255
theorem acO (s:ByteArray):Bts (aad s):=fun x hx=>by
 obtain⟨b,_,rfl⟩:=List.mem_map.1 hx;have:=b.toNat_lt;omega
theorem Bts.str {l:List Int}(h:Bts l):aad (strOfNums l)=l:=agr l (fun x hx=>(h x hx).1) fun x hx=>(h x hx).2
theorem Bts.drop {l:List Int}(h:Bts l)(n:Nat):Bts (l.drop n):=fun x hx=>h x (List.mem_of_mem_drop hx)
theorem Bts.take {l:List Int}(h:Bts l)(n:Nat):Bts (l.take n):=fun x hx=>h x (List.mem_of_mem_take hx)
theorem Bts.tail {c:Int}{l:List Int}(h:Bts (c :: l)):Bts l:=fun x hx=>h x (List.mem_cons_of_mem _ hx)
theorem Bts.a1Z {l:List Int}(h:Bts l)(p:Int→Bool):Bts (l.dropWhile p):=fun x hx=>h x ((List.dropWhile_suffix p).subset hx)
theorem akj (l:List Int)(p:Int→Bool):(l.dropWhile p).length≤l.length:=(List.dropWhile_suffix p).length_le
theorem alX (s key:ByteArray)(g:Nat)(hg:g=163∨g=164∨g=165)(okp:List Int→Bool)(hok:∀ V:ByteArray,V.size≤10000→OkF g V (okp (aad V)))(w:World)(hG:Gl w)(hs:s.size≤10000)(hk:key.size≤100):
 Calls Tryz.prog 162 #[.string s,.string key,.func (.func g) #[] #[]] w (ado (strOfNums (orF (afK (aad s) (aad key) okp) (aad s))) (afK (aad s) (aad key) okp).isSome w):=by
 have hB:=(acO s).a1Z abf;have hl:=akj (aad s) abf;rw[aae] at hl;have C1:aoz s (strOfNums ((aad s).dropWhile abf)):=fun W=>apA s W;unfold afK;generalize (aad s).dropWhile abf=u at *;have hU:=hB.str;have hUs:=aci u;have hK:aad (key++⟨#[61]⟩)=aad key++[61]:=aeQ _ _;by_cases hp:(aad key++[61]).isPrefixOf u=true
 · have C2:asF (strOfNums u) (key++⟨#[61]⟩) (strOfNums (u.drop ((aad key).length+1))) true:=fun W=>by
    have:=afr (strOfNums u) (key++⟨#[61]⟩) W (by rw[hK,hU];exact hp);rw[hK,hU,List.length_append] at this;exact this
   have hRs:=aci (u.drop ((aad key).length+1));by_cases h1:u.length=(aad s).length
   · rw[if_pos h1];have h:=apn s key _ _ g w hk (.inl (by rw[hUs,h1,aae])) (aac C1) (aac C2);unfold orF;rw[abe];exact h
   · rw[if_neg h1,if_pos hp];have hBR:=hB.drop ((aad key).length+1);have hRl:(u.drop ((aad key).length+1)).length≤10000:=by rw[List.length_drop];omega
     generalize u.drop ((aad key).length+1)=R at *
     cases R with
     | nil=>
       have h:=apn s key _ _ g w hk (.inr (by rw[hRs];rfl)) (aac C1) (aac C2);unfold orF;rw[abe];exact h
     | cons q r=>
       have hR:=hBR.str;have hqh:(aad (strOfNums (q :: r))).getD 0 0=q:=by rw[hR];rfl
       have h1R:1≤(strOfNums (q :: r)).size:=by rw[hRs];simp
       have h1R2:(strOfNums (q :: r)).size≤1000000:=by rw[hRs];omega
       have hUne:(strOfNums u).size≠s.size:=by rw[hUs,← aae];exact h1
       by_cases hq:quo q
       · show Calls _ _ _ _ (ado (strOfNums (orF (if quo q then aeT q r okp else none) (aad s))) (if quo q then aeT q r okp else none).isSome w);rw[if_pos hq]
         have hT:aad ((strOfNums (q :: r)).extract 1 (strOfNums (q :: r)).size)=r:=by
          rw[aal,hR,hRs,List.take_length];rfl
         have hQ:aad ((strOfNums (q :: r)).extract 0 1)=[q]:=by
          rw[aal,hR];rfl
         have hTs:((strOfNums (q :: r)).extract 1 (strOfNums (q :: r)).size).size≤1000000:=by
          rw[← aae,hT];simp only[List.length_cons] at hRl;omega
         unfold aeT
         cases hf:fnd [q] r with
         | none=>
           have C3:a2l ((strOfNums (q :: r)).extract 1 (strOfNums (q :: r)).size) ((strOfNums (q :: r)).extract 0 1) ((strOfNums (q :: r)).extract 1 (strOfNums (q :: r)).size) ⟨#[]⟩ false:=fun W hW=>
            asR _ _ W hTs hW (by rw[hT,hQ];exact hf)
           have h:=ayW s key _ _ _ _ g w hG hk hUne h1R h1R2 (by rw[hqh];exact hq) (aac C1) (aac C2) (aac C3);unfold orF;rw[abe];exact h
         | some n=>
           have C3:a2l ((strOfNums (q :: r)).extract 1 (strOfNums (q :: r)).size) ((strOfNums (q :: r)).extract 0 1) (strOfNums (r.take n)) (strOfNums (r.drop (n+1))) true:=fun W hW=>by
            have:=avF ((strOfNums (q :: r)).extract 1 (strOfNums (q :: r)).size) ((strOfNums (q :: r)).extract 0 1) W hTs hW n (by rw[hT,hQ];exact hf);rw[hT,hQ] at this;exact this
           have hV:aad (strOfNums (r.take n))=r.take n:=(hBR.tail.take n).str;have C4:=hok (strOfNums (r.take n)) (by rw[aci,List.length_take];simp only[List.length_cons] at hRl;omega);rw[hV] at C4;have h:=asO s key _ _ _ _ g hg _ w hG hk hUne h1R h1R2 (by rw[hqh];exact hq) (aac C1) (aac C2) (aac C3) (aac C4)
           cases hv:okp (r.take n) with
           | true=>
             rw[hv] at h;simp only[if_true] at h ⊢;rw[if_pos hv];exact h
           | false=>
             rw[hv] at h;simp only[Bool.false_eq_true,if_false] at h ⊢;rw[if_neg (by rw[hv];simp)];unfold orF;rw[abe];exact h
       · show Calls _ _ _ _ (ado (strOfNums (orF (if quo q then aeT q r okp else none) (aad s))) (if quo q then aeT q r okp else none).isSome w);rw[if_neg hq];have h:=awQ s key _ _ g w hk hUne h1R h1R2 (by rw[hqh];exact hq) (aac C1) (aac C2);unfold orF;rw[abe];exact h
 · have C2:asF (strOfNums u) (key++⟨#[61]⟩) (strOfNums u) false:=fun W=>agA _ _ W (by rw[hK,hU];exact Bool.eq_false_iff.2 hp);have h:=axR s key _ g w hk (aac C1) (aac C2);rw[if_neg hp,ite_self];unfold orF;rw[abe];exact h
theorem a4p (V:ByteArray)(hV:V.size≤10000):OkF 163 V (abn (aad V)):=fun W hW=>by
 have e:=eqB V [49,46,48] [49,46,48] rfl;go_enter Tryz.func163,Tryz.ntmps163;go_wp2_with fail;go_ret;exact⟨by unfold abn;rw[← e];rfl,Below.refl _ _⟩
theorem a4u (V:ByteArray)(hV:V.size≤10000):OkF 164 V (aaW (aad V)):=fun W hW=>by
 have C:=aac (anm V ⟨#[117,116,102,45,56]⟩ W (by omega) (by decide) (fun j hj=>by
  have hj':j < 5:=hj;rcases(show j=0∨j=1∨j=2∨j=3∨j=4 by omega) with rfl | rfl | rfl | rfl | rfl;all_goals (unfold FO;decide)) hW)
 have e:aau (aad ⟨#[117,116,102,45,56]⟩)=[117,116,102,45,56]:=(by decide);rw[e] at C;clear e;go_enter Tryz.func164,Tryz.ntmps164;go_wp2_with fail;refine C.out.mono ?_;rintro e w1 ⟨rfl,hb⟩;go_wp2_with fail;go_ret;exact⟨rfl,hb⟩
theorem a4j (V:ByteArray)(hV:V.size≤10000):OkF 165 V (aaH (aad V)):=fun W hW=>by
 have e1:=eqB V [121,101,115] [121,101,115] rfl;have e2:=eqB V [110,111] [110,111] rfl;unfold aaH;by_cases h1:aad V=[121,101,115]
 · rw[decide_eq_true h1] at e1;have hd:decide (aad V=[121,101,115]∨aad V=[110,111])=true:=decide_eq_true (.inl h1);rw[hd];clear h1 hd e2;go_enter Tryz.func165,Tryz.ntmps165;go_wp2_with fail;go_ret;exact⟨rfl,Below.refl _ _⟩
 · rw[decide_eq_false h1] at e1;have hd:decide (aad V=[121,101,115]∨aad V=[110,111])=decide (aad V=[110,111]):=by rw[decide_eq_decide];exact⟨fun h=>h.resolve_left h1,.inr⟩
   rw[hd,← e2];clear h1 hd e2;go_enter Tryz.func165,Tryz.ntmps165;go_wp2_with fail;go_ret;exact⟨rfl,Below.refl _ _⟩
end Go.Proofs.YtnomcldpbkinmaaGreatDoor
