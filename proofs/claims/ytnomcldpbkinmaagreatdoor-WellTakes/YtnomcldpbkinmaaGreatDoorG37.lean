/- Lemmas of the claim. -/
import Derived.Test.YtnomcldpbkinmaaGreatDoorG06
import Derived.Test.YtnomcldpbkinmaaGreatDoorG02
import Derived.Test.YtnomcldpbkinmaaGreatDoorG05
import Derived.Test.YtnomcldpbkinmaaGreatDoorG14
import Derived.Test.YtnomcldpbkinmaaGreatDoorG12
import Derived.Test.YtnomcldpbkinmaaGreatDoorG30
set_option maxHeartbeats 2000000
set_option maxRecDepth 100000
set_option linter.unusedSimpArgs false
set_option linter.unusedVariables false
namespace Go.Proofs.YtnomcldpbkinmaaGreatDoor
open Go.RowKit
theorem ba_eq (a b:ByteArray):(a.toList == b.toList)=decide (aad a=aad b):=by
 have:=eqB a b.toList (aad b) (by rw[Lib.toList_data];rfl);exact this
theorem arl (s x:ByteArray)(a:Nat)(h:a+x.size≤s.size):(aad (s.extract a (a+x.size))=aad x)↔(aad x).isPrefixOf ((aad s).drop a)=true:=by
 rw[aal,List.isPrefixOf_iff_prefix,List.prefix_iff_eq_take,aae,List.drop_take];rw[show a+x.size - a=x.size by omega];exact eq_comm
theorem anT (s x:ByteArray)(a:Nat)(h:¬ a+x.size≤s.size):(aad x).isPrefixOf ((aad s).drop a)=true→a≤s.size→False:=fun h1 h2=>by
 have:=(List.isPrefixOf_iff_prefix.1 h1).length_le;rw[List.length_drop,aae,aae] at this;omega
theorem agX (s x:ByteArray)(a:Nat)(w:World)(hs:s.size≤1000000)(hx:x.size≤1000000)(ha:a≤s.size)(b:Bool)(hb:(aad x).isPrefixOf ((aad s).drop a)=b):
 Calls Tryz.prog 37 #[.string s,.int .i64 a,.string x] w fun e w'=>e=.returned (.bool b)∧w=w':=by
 have q1:IntKind.i64.wrap ((a:Int)+(x.size:Int))=(a:Int)+(x.size:Int):=IntWalk.i64_in _ (by omega);have d1:(0:Int)≤(a:Int):=(by omega);by_cases hr:a+x.size≤s.size
 · have d2:(a:Int)+(x.size:Int)≤(s.size:Int):=(by omega);have d3:(a:Int)≤(a:Int)+(x.size:Int):=(by omega);have q3:((a:Int)+(x.size:Int)).toNat=a+x.size:=by omega
   have t1:((s.extract a (a+x.size)).toList == x.toList)=b:=by
    rw[ba_eq,← hb,Bool.eq_iff_iff,decide_eq_true_eq];exact arl s x a hr
   clear hb;cases b
   all_goals
    go_enter Tryz.func37,Tryz.ntmps37;go_wp2;go_ret;exact⟨rfl,rfl⟩
 · have d2:¬ (a:Int)+(x.size:Int)≤(s.size:Int):=by omega
   have hb':b=false:=by
    cases b with
    | false=>rfl
    | true=>exact absurd (anT s x a hr hb ha) id
   subst hb';clear hb;go_enter Tryz.func37,Tryz.ntmps37;go_wp2;go_ret;exact⟨rfl,rfl⟩
def aym (s x:ByteArray)(a:Nat)(i:Value):Prop:=∃ k:Nat,i=.int .i64 k∧a≤k∧k≤s.size+1∧Hid (∀ j,a≤j→j < k→¬ (aad x).isPrefixOf ((aad s).drop j)=true)
def aez (m l:List Int)(a:Nat):Int:=match fnd m (l.drop a) with | some n=>((a+n:Nat):Int) | none=> -1
theorem alZ (m l:List Int)(a j:Nat):Occ m (l.drop a) j↔m.isPrefixOf (l.drop (a+j))=true:=by
 unfold Occ;rw[List.drop_drop,List.isPrefixOf_iff_prefix]
theorem atp {m l:List Int}{a k:Nat}(hk:a≤k)(hl:k≤l.length)(h:m.isPrefixOf (l.drop k)=true)(h2:∀ j,a≤j→j < k→¬ m.isPrefixOf (l.drop j)=true):aez m l a=k:=by
 unfold aez;have:fnd m (l.drop a)=some (k - a):=ara (by rw[List.length_drop];omega) ((alZ m l a _).2 (by rw[show a+(k - a)=k by omega];exact h)) fun j hj ho=>h2 (a+j) (by omega) (by omega) ((alZ m l a j).1 ho);rw[this];show ((a+(k - a):Nat):Int)=_;rw[show a+(k - a)=k by omega]
theorem aup {m l:List Int}{a:Nat}(ha:a≤l.length)(h2:∀ j,a≤j→j≤l.length→¬ m.isPrefixOf (l.drop j)=true):aez m l a= -1:=by
 unfold aez
 have:fnd m (l.drop a)=none:=ars fun j hj ho=>by
  rw[List.length_drop] at hj;exact h2 (a+j) (by omega) (by omega) ((alZ m l a j).1 ho)
 rw[this]
theorem acp (s x:ByteArray)(a:Nat)(w:World)(hs:s.size≤1000000)(hx:x.size≤1000000)(ha:a≤s.size):
 Calls Tryz.prog 33 #[.string s,.int .i64 a,.string x] w fun e w'=>e=.returned (.int .i64 (aez (aad x) (aad s) a))∧w=w':=by
 have HI:=aac (fun k (h1:a≤k) (h2:k≤s.size) h3 h4=>atp (m:=aad x) (l:=aad s) h1 (by rw[aae];exact h2) h3 h4);have HN:=aac (fun h4=>aup (m:=aad x) (l:=aad s) (a:=a) (by rw[aae];exact ha) h4);have HE:=aac (arl s x);have HR:=aac (anT s x);generalize aez (aad x) (aad s) a=res at *;go_enter Tryz.func33,Tryz.ntmps33;go_wp2_with fail;go_loop [7] (fun i=>aym s x a i) (fun i=>s.size+1 - (intOf i).toNat);case atStart=>exact⟨a,rfl,Nat.le_refl _,by omega,aac fun j h1 h2=>by omega⟩
 case round=>
  obtain⟨k,rfl,hk1,hk2,ho⟩:=hrel;have q1:IntKind.i64.wrap ((k:Int)+(x.size:Int))=(k:Int)+(x.size:Int):=IntWalk.i64_in _ (by omega);by_cases hr:k+x.size≤s.size
  · have d0:(0:Int)≤(k:Int):=(by omega);have d2:(k:Int)+(x.size:Int)≤(s.size:Int):=(by omega);have d3:(k:Int)≤(k:Int)+(x.size:Int):=(by omega);have q3:((k:Int)+(x.size:Int)).toNat=k+x.size:=(by omega);by_cases hp:(aad x).isPrefixOf ((aad s).drop k)=true
    · have t1:((s.extract k (k+x.size)).toList == x.toList)=true:=by
       rw[ba_eq,decide_eq_true_eq];exact(HE.out k hr).2 hp
      have HF:=aac (HI.out k hk1 (by omega) hp ho.out);clear hp HI HN HE HR ho;go_wp2_with fail;go_ret;exact⟨by rw[HF.out];rfl,rfl⟩
    · have t1:((s.extract k (k+x.size)).toList == x.toList)=false:=by
       rw[ba_eq,decide_eq_false_iff_not];exact fun h=>hp ((HE.out k hr).1 h)
      have HO:Hid (∀ j,a≤j→j < k+1→¬ (aad x).isPrefixOf ((aad s).drop j)=true):=aac fun j h1 h2=>by
       by_cases e:j=k
       · rw[e];exact hp
       · exact ho.out j h1 (by omega)
      clear hp HI HN HE HR ho;go_wp2_with fail;go_round;case rel=>exact⟨k+1,by go_num,by omega,by omega,HO⟩
      case measure=>simp only[intOf];omega
  · have d2:¬ (k:Int)+(x.size:Int)≤(s.size:Int):=by omega
    have HF:=aac (HN.out fun j h1 h2 h3=>by
     rw[aae] at h2;rcases Nat.lt_or_ge j k with h | h
     · exact ho.out j h1 h h3
     · exact HR.out j (by omega) h3 h2)
    clear HI HN HE HR ho;go_wp2_with fail;go_ret;exact⟨by rw[HF.out];rfl,rfl⟩
theorem apf (c:Int)(w:World):Calls Tryz.prog 56 #[.int .u8 c] w fun e w'=>e=.returned (.bool (abf c))∧w=w':=by
 by_cases h1:c=9
 · subst h1;go_enter Tryz.func56,Tryz.ntmps56;go_wp2;go_ret;exact⟨rfl,rfl⟩
 by_cases h2:c=10
 · subst h2;go_enter Tryz.func56,Tryz.ntmps56;go_wp2;go_ret;exact⟨rfl,rfl⟩
 by_cases h3:c=13
 · subst h3;go_enter Tryz.func56,Tryz.ntmps56;go_wp2;go_ret;exact⟨rfl,rfl⟩
 by_cases h4:c=32
 · subst h4;go_enter Tryz.func56,Tryz.ntmps56;go_wp2;go_ret;exact⟨rfl,rfl⟩
 have hb:abf c=false:=decide_eq_false (by unfold Blank;omega);have t1:(c == 9)=false:=by rw[beq_eq_false_iff_ne];exact h1
 have t2:(c == 10)=false:=by rw[beq_eq_false_iff_ne];exact h2
 have t3:(c == 13)=false:=by rw[beq_eq_false_iff_ne];exact h3
 have t4:(c == 32)=false:=by rw[beq_eq_false_iff_ne];exact h4
 rw[hb];go_enter Tryz.func56,Tryz.ntmps56;go_wp2;go_ret;exact⟨rfl,rfl⟩
theorem azr {c:Int}(h:abf c=true)(w:World):Calls Tryz.prog 56 #[.int .u8 c] w fun e w'=>e=.returned (.bool true)∧w=w':=by have:=apf c w;rw[h] at this;exact this
theorem axK {c:Int}(h:abf c=false)(w:World):Calls Tryz.prog 56 #[.int .u8 c] w fun e w'=>e=.returned (.bool false)∧w=w':=by have:=apf c w;rw[h] at this;exact this
def skp (l:List Int)(a:Nat):Nat:=a+((l.drop a).takeWhile abf).length
theorem avR (l:List Int)(a:Nat)(h:a≤l.length):skp l a≤l.length:=by
 unfold skp;have:=(List.takeWhile_prefix abf (l:=l.drop a)).length_le;rw[List.length_drop] at this;omega
theorem auD (l:List Int)(a:Nat)(h:a < l.length):skp l a=if abf (l.getD a 0)=true then skp l (a+1) else a:=by
 unfold skp;rw[List.drop_eq_getElem_cons h,List.getD_eq_getElem?_getD,List.getElem?_eq_getElem h,Option.getD_some];by_cases hb:abf l[a]=true
 · rw[List.takeWhile_cons_of_pos hb,if_pos hb,List.length_cons];omega
 · rw[List.takeWhile_cons_of_neg hb,if_neg hb];rfl
theorem azK (l:List Int):skp l l.length=l.length:=by
 unfold skp;rw[List.drop_length];rfl
theorem acG (s:ByteArray)(a:Nat)(w:World)(hs:s.size≤1000000)(ha:a≤s.size):
 Calls Tryz.prog 54 #[.string s,.int .i64 a] w fun e w'=>e=.returned (.int .i64 (skp (aad s) a:Int))∧w=w':=by
 have HS:=aac (fun k (h:k < s.size)=>auD (aad s) k (by rw[aae];exact h));have HE:Hid (skp (aad s) s.size=s.size):=aac (by have:=azK (aad s);rw[aae] at this;exact this);obtain⟨res,hres⟩:∃ res,res=skp (aad s) a:=⟨_,rfl⟩;rw[← hres];have HQ:=aac hres;clear hres;go_enter Tryz.func54,Tryz.ntmps54;go_wp2_with fail;go_loop [1] (fun i=>∃ k:Nat,i=.int .i64 k∧k≤s.size∧Hid (res=skp (aad s) k)) (fun i=>s.size - (intOf i).toNat);case atStart=>exact⟨a,rfl,ha,HQ⟩
 case round=>
  obtain⟨k,rfl,hk,hr⟩:=hrel;by_cases hlt:k < s.size
  · have hb:=aaG s k hlt;have d1:(k:Int) < (s.size:Int):=(by omega);have hst:=HS.out k hlt
    cases hq:abf ((aad s).getD k 0) with
    | true=>
      have HR:Hid (res=skp (aad s) (k+1)):=aac (by rw[hr.out,hst,if_pos hq]);have C:=aac (azr hq);rw[← hb] at C;clear hst hq hr hb HS HE HQ;go_wp2_with fail;refine(C.out _).mono ?_;rintro e wx ⟨rfl,rfl⟩;go_wp2_with fail;go_round;case rel=>exact⟨k+1,by go_num,by omega,HR⟩
      case measure=>simp only[intOf];omega
    | false=>
      have HR:Hid (res=k):=aac (by rw[hr.out,hst,if_neg (by rw[hq];simp)]);have C:=aac (axK hq);rw[← hb] at C;clear hst hq hr hb HS HE HQ;go_wp2_with fail;refine(C.out _).mono ?_;rintro e wx ⟨rfl,rfl⟩;go_wp2_with fail;go_ret;exact⟨by rw[HR.out];rfl,rfl⟩
  · have d1:¬ (k:Int) < (s.size:Int):=(by omega);have HR:Hid (res=k):=aac (by rw[hr.out,show k=s.size by omega,HE.out]);clear hr HS HE HQ;go_wp2_with fail;go_ret;exact⟨by rw[HR.out];rfl,rfl⟩
theorem aqg:∀ (l:List Int),(skp l 0=l.length)↔l.all abf=true:=fun l=>by
 unfold skp;rw[List.drop_zero,Nat.zero_add];constructor
 · intro h;have hp:=List.takeWhile_prefix abf (l:=l);have:=List.IsPrefix.eq_of_length hp h;rw[← this];rw[List.all_eq_true];intro x hx;exact(List.all_eq_true.1 (List.all_takeWhile (p:=abf) (l:=l))) x hx
 · intro h
   have:l.takeWhile abf=l:=by
    induction l with
    | nil=>rfl
    | cons a l ih=>
      rw[List.all_cons,Bool.and_eq_true] at h;rw[List.takeWhile_cons_of_pos h.1,ih h.2]
   rw[this]
theorem alc (s:ByteArray)(w:World)(hs:s.size≤1000000):Calls Tryz.prog 36 #[.string s] w fun e w'=>e=.returned (.bool ((aad s).all abf))∧w=w':=by
 have C:=aac (acG s 0 w hs (Nat.zero_le _));have hq:=aqg (aad s);rw[aae] at hq;generalize skp (aad s) 0=n at *;cases h:(aad s).all abf
 · rw[h] at hq;have t1:((n:Int) == (s.size:Int))=false:=by rw[beq_eq_false_iff_ne];intro g;have:=hq.1 (by omega);simp at this
   clear hq h;go_enter Tryz.func36,Tryz.ntmps36;go_wp2_with fail;refine C.out.mono ?_;rintro e wx ⟨rfl,rfl⟩;go_wp2;go_ret;exact⟨rfl,rfl⟩
 · rw[h] at hq;have t1:((n:Int) == (s.size:Int))=true:=by rw[beq_iff_eq];have:=hq.2 rfl;omega
   clear hq h;go_enter Tryz.func36,Tryz.ntmps36;go_wp2_with fail;refine C.out.mono ?_;rintro e wx ⟨rfl,rfl⟩;go_wp2;go_ret;exact⟨rfl,rfl⟩
end Go.Proofs.YtnomcldpbkinmaaGreatDoor
namespace Go.Proofs.YtnomcldpbkinmaaGreatDoor
open Go.RowKit
def anc (l:List Int)(w:World)(e:Ending)(w':World):Prop:=e=.returned (.string (strOfNums l))∧Below w.heap.size w w'
theorem a0q {l m:List Int}{w w':World}{e:Ending}(h:l=m)(hp:anc m w e w'):anc l w e w':=by rw[h];exact hp
def a3u (s:ByteArray)(w:World)(vo vi:Value)(wr:World):Prop:=
 ∃ (k:Nat),k≤s.size∧vi=.int .i64 k∧afz wr w.heap.size vo (aau ((aad s).take k))∧Below w.heap.size w wr
theorem take_succ (l:List Int)(k:Nat)(h:k < l.length):l.take (k+1)=l.take k++[l.getD k 0]:=by
 rw[List.take_add_one,List.getD_eq_getElem?_getD,List.getElem?_eq_getElem h];rfl
theorem aoM (l m:List Int):aau (l++m)=aau l++aau m:=by unfold aau;rw[List.map_append]
theorem aoK (s:ByteArray)(k:Nat):(aau ((aad s).take k)).length≤s.size:=by
 unfold aau;rw[List.length_map,List.length_take,aae];omega
theorem ahE (s:ByteArray)(w:World)(hs:s.size≤10000):Calls Tryz.prog 57 #[.string s] w (anc (aau (aad s)) w):=by
 obtain⟨i0,hi,hz0,hz1,hz2⟩:=info_parts Tryz.info5;go_enter Tryz.func57,Tryz.ntmps57;go_wp2_with fail;go_loopw [3,4] (fun vo vi wr=>a3u s w vo vi wr) (fun _ vi _=>s.size - (intOf vi).toNat);case atStart=>exact⟨0,Nat.zero_le _,rfl,World.ownsRow_nil _ _ _ _,Below.refl _ _⟩
 case round=>
  obtain⟨k,hk,rfl,hown,hbel⟩:=hrel;have hl2:=hbel.size;have hsl:=aoK s k;by_cases hlt:k < s.size
  · have hb:=aaG s k hlt;have hc1:=afI s k;have hc2:=ahA s k;rw[abx] at hc1 hc2;have d1:(k:Int) < (s.size:Int):=by omega
    have HT:Hid (aau ((aad s).take (k+1))=aau ((aad s).take k)++[aaU ((aad s).getD k 0)]):=aac (by
     rw[take_succ _ _ (by rw[aae];exact hlt),aoM];rfl)
    generalize aau ((aad s).take k)=P0 at *;generalize (aad s).getD k 0=c at *;have key:∀ x,aaU c=x→Hid (aau ((aad s).take (k+1))=P0++[x]):=fun x h=>aac (by rw[HT.out,h]);by_cases h1:65≤c
    · by_cases h2:c≤90
      · have HK:=key (c+32) (by unfold aaU;rw[if_pos ⟨h1,h2⟩])
        have q:IntKind.u8.wrap (c+32)=c+32:=by
         have:0≤c+32∧c+32≤255:=(by omega);exact IntWalk.u8_in _ this
        have t1:decide (65≤c)=true:=decide_eq_true h1;have t2:decide (c≤90)=true:=decide_eq_true h2;clear key HT;have hown':=World.ownsRow.alloc hown (.cells #[.int .u8 (c+32)] 5);go_wp2_with (at_builtin;refine wpList_append_own _ rfl _ _ 65 rfl w.heap.size 5 i0 (.int .u8 0) 1 1 Tryz.underlying65 hi hz0 hz1 hz2 rfl (by decide) _ _ _ rfl hown' ⟨wr.heap.size,0,none⟩ 1 1 [.int .u8 (c+32)] rfl rfl (aaT wr #[.int .u8 (c+32)] 5) (ints_oneCell .u8 [c+32]) (by unfold maxLen;omega) (by omega) (by simp;omega) ?_);intro v' w2 hown2 hgrow _;have R:=aac (abR (ys:=[c+32]) hl2 hown hown2 hgrow);clear hown2 hgrow hown hown';go_wp2;go_roundw;case rel=>exact⟨k+1,by omega,by go_num,by rw[HK.out];exact R.out.1,hbel.trans R.out.2⟩
        case measure=>simp only[intOf];omega
      · have HK:=key c (by unfold aaU;rw[if_neg (by omega)]);have t1:decide (65≤c)=true:=decide_eq_true h1;have t2:decide (c≤90)=false:=decide_eq_false h2;clear key HT;have hown':=World.ownsRow.alloc hown (.cells #[.int .u8 c] 5);go_wp2_with (at_builtin;refine wpList_append_own _ rfl _ _ 65 rfl w.heap.size 5 i0 (.int .u8 0) 1 1 Tryz.underlying65 hi hz0 hz1 hz2 rfl (by decide) _ _ _ rfl hown' ⟨wr.heap.size,0,none⟩ 1 1 [.int .u8 c] rfl rfl (aaT wr #[.int .u8 c] 5) (ints_oneCell .u8 [c]) (by unfold maxLen;omega) (by omega) (by simp;omega) ?_);intro v' w2 hown2 hgrow _;have R:=aac (abR (ys:=[c]) hl2 hown hown2 hgrow);clear hown2 hgrow hown hown';go_wp2;go_roundw;case rel=>exact⟨k+1,by omega,by go_num,by rw[HK.out];exact R.out.1,hbel.trans R.out.2⟩
        case measure=>simp only[intOf];omega
    · have HK:=key c (by unfold aaU;rw[if_neg (by omega)]);have t1:decide (65≤c)=false:=decide_eq_false h1;clear key HT;have hown':=World.ownsRow.alloc hown (.cells #[.int .u8 c] 5);go_wp2_with (at_builtin;refine wpList_append_own _ rfl _ _ 65 rfl w.heap.size 5 i0 (.int .u8 0) 1 1 Tryz.underlying65 hi hz0 hz1 hz2 rfl (by decide) _ _ _ rfl hown' ⟨wr.heap.size,0,none⟩ 1 1 [.int .u8 c] rfl rfl (aaT wr #[.int .u8 c] 5) (ints_oneCell .u8 [c]) (by unfold maxLen;omega) (by omega) (by simp;omega) ?_);intro v' w2 hown2 hgrow _;have R:=aac (abR (ys:=[c]) hl2 hown hown2 hgrow);clear hown2 hgrow hown hown';go_wp2;go_roundw;case rel=>exact⟨k+1,by omega,by go_num,by rw[HK.out];exact R.out.1,hbel.trans R.out.2⟩
      case measure=>simp only[intOf];omega
  · have d1:¬ (k:Int) < (s.size:Int):=(by omega);have HA:Hid (aau (aad s)=aau ((aad s).take k)):=aac (by rw[List.take_of_length_le (by rw[aae];omega)]);generalize aau ((aad s).take k)=P0 at *;obtain⟨A2,cc2,rfl,hrd⟩:=aeH hown;have hcv:=afj (c:=cc2) hrd;clear hown hrd;go_wp2;go_ret;exact a0q HA.out ⟨rfl,hbel⟩
def a2N (s:ByteArray)(w:World)(vo vi:Value)(wr:World):Prop:=
 ∃ (k:Nat) (bs:List Int),k≤s.size∧vi=.int .i64 k∧afz wr w.heap.size vo bs∧bs.length≤k∧Hid (acB (aad s)=bs++acB ((aad s).drop k))∧Below w.heap.size w wr
theorem aps (l:List Int)(k:Nat)(h:k < l.length):acB (l.drop k)=(if l.getD k 0=13 then (if k+1 < l.length∧l.getD (k+1) 0=10 then [] else [10]) else [l.getD k 0])++acB (l.drop (k+1)):=by
 have hh:(l.drop (k+1)).head?=some 10↔(k+1 < l.length∧l.getD (k+1) 0=10):=by
  rw[List.head?_drop,List.getD_eq_getElem?_getD];by_cases h1:k+1 < l.length
  · rw[List.getElem?_eq_getElem h1];simp[h1]
  · rw[List.getElem?_eq_none (by omega)];simp[h1]
 rw[List.drop_eq_getElem_cons h,List.getD_eq_getElem?_getD,List.getElem?_eq_getElem h,Option.getD_some,acB];by_cases h2:k+1 < l.length∧l.getD (k+1) 0=10
 · rw[if_pos h2,if_pos (hh.2 h2)]
 · rw[if_neg h2,if_neg (fun g=>h2 (hh.1 g))]
theorem apx (s:ByteArray)(w:World)(hs:s.size≤10000):Calls Tryz.prog 55 #[.string s] w (anc (acB (aad s)) w):=by
 obtain⟨i0,hi,hz0,hz1,hz2⟩:=info_parts Tryz.info5;go_enter Tryz.func55,Tryz.ntmps55;go_wp2_with fail;go_loopw [3,4] (fun vo vi wr=>a2N s w vo vi wr) (fun _ vi _=>s.size - (intOf vi).toNat);case atStart=>exact⟨0,[],Nat.zero_le _,rfl,World.ownsRow_nil _ _ _ _,by simp,aac rfl,Below.refl _ _⟩
 case round=>
  obtain⟨k,bs,hk,rfl,hown,hbl,hE,hbel⟩:=hrel;have hl2:=hbel.size;by_cases hlt:k < s.size
  · have hb:=aaG s k hlt;have d1:(k:Int) < (s.size:Int):=by omega
    have key:∀ x,(if (aad s).getD k 0=13 then (if k+1 < (aad s).length∧(aad s).getD (k+1) 0=10 then [] else [10]) else [(aad s).getD k 0])=x→Hid (acB (aad s)=(bs++x)++acB ((aad s).drop (k+1))):=fun x hx=>aac (by
     rw[hE.out,aps _ _ (by rw[aae];exact hlt),hx,List.append_assoc])
    rw[aae] at key;clear hE;by_cases h13:(aad s).getD k 0=13
    · have t13:(((s[k]).toNat:Int) == 13)=true:=by rw[hb];simpa using h13
      by_cases hlast:k+1 < s.size
      · have hb1:=aaG s (k+1) hlast;have e1:((k:Int)+1) < (s.size:Int):=(by omega);have e2:(0:Int)≤(k:Int)+1:=(by omega);have q2:IntKind.i64.wrap ((k:Int)+1)=(k:Int)+1:=IntWalk.i64_in _ (by omega);have q3:((k:Int)+1).toNat=k+1:=(by omega);by_cases h10:(aad s).getD (k+1) 0=10
        · have HK:=key [] (by rw[if_pos h13,if_pos ⟨hlast,h10⟩]);rw[List.append_nil] at HK;have t10:(((s[k+1]).toNat:Int) == 10)=true:=by rw[hb1];simpa using h10
          clear key hb hb1 h13 h10;go_wp2;go_roundw;case rel=>exact⟨k+1,bs,by omega,by go_num,hown,by omega,HK,hbel⟩
          case measure=>simp only[intOf];omega
        · have HK:=key [10] (by rw[if_pos h13,if_neg (fun h=>h10 h.2)]);have t10:(((s[k+1]).toNat:Int) == 10)=false:=by rw[hb1];simpa using h10
          clear key hb hb1 h13 h10;have hown':=World.ownsRow.alloc hown (.cells #[.int .u8 10] 5);go_wp2_with (at_builtin;refine wpList_append_own _ rfl _ _ 65 rfl w.heap.size 5 i0 (.int .u8 0) 1 1 Tryz.underlying65 hi hz0 hz1 hz2 rfl (by decide) _ _ _ rfl hown' ⟨wr.heap.size,0,none⟩ 1 1 [.int .u8 10] rfl rfl (aaT wr #[.int .u8 10] 5) (ints_oneCell .u8 [10]) (by unfold maxLen;omega) (by omega) (by simp;omega) ?_);intro v' w2 hown2 hgrow _;have R:=aac (abR (ys:=[10]) hl2 hown hown2 hgrow);clear hown2 hgrow hown hown';go_wp2;go_roundw;case rel=>exact⟨k+1,bs++[10],by omega,by go_num,R.out.1,by rw[List.length_append,List.length_singleton];omega,HK,hbel.trans R.out.2⟩
          case measure=>simp only[intOf];omega
      · have e1:¬ ((k:Int)+1) < (s.size:Int):=(by omega);have q2:IntKind.i64.wrap ((k:Int)+1)=(k:Int)+1:=IntWalk.i64_in _ (by omega);have HK:=key [10] (by rw[if_pos h13,if_neg (fun h=>hlast h.1)]);clear key hb h13;have hown':=World.ownsRow.alloc hown (.cells #[.int .u8 10] 5);go_wp2_with (at_builtin;refine wpList_append_own _ rfl _ _ 65 rfl w.heap.size 5 i0 (.int .u8 0) 1 1 Tryz.underlying65 hi hz0 hz1 hz2 rfl (by decide) _ _ _ rfl hown' ⟨wr.heap.size,0,none⟩ 1 1 [.int .u8 10] rfl rfl (aaT wr #[.int .u8 10] 5) (ints_oneCell .u8 [10]) (by unfold maxLen;omega) (by omega) (by simp;omega) ?_);intro v' w2 hown2 hgrow _;have R:=aac (abR (ys:=[10]) hl2 hown hown2 hgrow);clear hown2 hgrow hown hown';go_wp2;go_roundw;case rel=>exact⟨k+1,bs++[10],by omega,by go_num,R.out.1,by rw[List.length_append,List.length_singleton];omega,HK,hbel.trans R.out.2⟩
        case measure=>simp only[intOf];omega
    · have t13:(((s[k]).toNat:Int) == 13)=false:=by rw[hb];simpa using h13
      have HK:=key [((s[k]).toNat:Int)] (by rw[if_neg h13,hb]);clear key hb h13;generalize hcg:((s[k]).toNat:Int)=c at *;have hown':=World.ownsRow.alloc hown (.cells #[.int .u8 c] 5);go_wp2_with (at_builtin;refine wpList_append_own _ rfl _ _ 65 rfl w.heap.size 5 i0 (.int .u8 0) 1 1 Tryz.underlying65 hi hz0 hz1 hz2 rfl (by decide) _ _ _ rfl hown' ⟨wr.heap.size,0,none⟩ 1 1 [.int .u8 c] rfl rfl (aaT wr #[.int .u8 c] 5) (ints_oneCell .u8 [c]) (by unfold maxLen;omega) (by omega) (by simp;omega) ?_);intro v' w2 hown2 hgrow _;have R:=aac (abR (ys:=[c]) hl2 hown hown2 hgrow);clear hown2 hgrow hown hown';go_wp2;go_roundw;case rel=>exact⟨k+1,bs++[c],by omega,by go_num,R.out.1,by rw[List.length_append,List.length_singleton];omega,HK,hbel.trans R.out.2⟩
      case measure=>simp only[intOf];omega
  · have d1:¬ (k:Int) < (s.size:Int):=by omega
    have HA:Hid (acB (aad s)=bs):=aac (by
     rw[hE.out,List.drop_of_length_le (by rw[aae];omega)];simp[acB])
    obtain⟨A2,cc2,rfl,hrd⟩:=aeH hown;have hcv:=afj (c:=cc2) hrd;clear hown hrd hE;go_wp2;go_ret;exact a0q HA.out ⟨rfl,hbel⟩
end Go.Proofs.YtnomcldpbkinmaaGreatDoor
namespace Go.Proofs.YtnomcldpbkinmaaGreatDoor
open Go.RowKit
theorem a1l (p:Int→Bool):∀ (l:List Int),l.dropWhile p=l.drop (l.takeWhile p).length
 | []=>rfl
 | a :: l=>by
   by_cases h:p a=true
   · rw[List.dropWhile_cons_of_pos h,List.takeWhile_cons_of_pos h,a1l p l];rfl
   · rw[List.dropWhile_cons_of_neg h,List.takeWhile_cons_of_neg h];rfl
theorem a0R (l:List Int)(a:Nat):(l.drop a).dropWhile abf=l.drop (skp l a):=by
 rw[a1l,List.drop_drop];rfl
theorem arY (l:List Int)(a:Nat):a≤skp l a:=by unfold skp;omega
def amw (l key:List Int)(ok:List Int→Bool)(f a:Nat):Option Nat:=
 if f=a then none else if (key++[61]).isPrefixOf (l.drop f)=false then none else if l.length≤f+key.length+1 then none else if ¬ quo (l.getD (f+key.length+1) 0) then none
 else match fnd [l.getD (f+key.length+1) 0] (l.drop (f+key.length+1+1)) with
  | none=>none
  | some n=>if ok ((l.drop (f+key.length+1+1)).take n)=true then some (f+key.length+1+1+n+1) else none
theorem aqP (l key:List Int)(ok:List Int→Bool)(a:Nat)(ha:a≤l.length):afK (l.drop a) key ok=(amw l key ok (skp l a) a).map fun r=>l.drop r:=by
 have hl:=avR l a ha;have hg:=arY l a;unfold afK amw;rw[a0R,List.length_drop,List.length_drop];by_cases h1:skp l a=a
 · rw[if_pos h1,if_pos (by omega)];rfl
 rw[if_neg h1,if_neg (by omega)];by_cases h2:(key++[61]).isPrefixOf (l.drop (skp l a))=true
 · rw[if_pos h2,if_neg (by rw[h2];simp),List.drop_drop];by_cases h3:l.length≤skp l a+key.length+1
   · rw[if_pos h3,List.drop_of_length_le (show l.length≤skp l a+(key.length+1) by omega)];rfl
   · rw[if_neg h3,show skp l a+(key.length+1)=skp l a+key.length+1 by omega,List.drop_eq_getElem_cons (by omega:skp l a+key.length+1 < l.length)]
     have hq:l.getD (skp l a+key.length+1) 0=l[skp l a+key.length+1]'(by omega):=by
      rw[List.getD_eq_getElem?_getD,List.getElem?_eq_getElem (by omega),Option.getD_some]
     rw[hq];show (if quo (l[skp l a+key.length+1]'(by omega)) then aeT _ _ ok else none)=_;by_cases h4:quo (l[skp l a+key.length+1]'(by omega))
     · rw[if_pos h4,if_neg (fun g=>g h4)];unfold aeT
       cases fnd [l[skp l a+key.length+1]'(by omega)] (l.drop (skp l a+key.length+1+1)) with
       | none=>rfl
       | some n=>
         show (if ok _=true then _ else none)=Option.map _ (if ok _=true then _ else none);by_cases h5:ok ((l.drop (skp l a+key.length+1+1)).take n)=true
         · rw[if_pos h5,if_pos h5,List.drop_drop];rfl
         · rw[if_neg h5,if_neg h5];rfl
     · rw[if_neg h4,if_pos h4];rfl
 · rw[if_neg h2,if_pos (Bool.eq_false_iff.2 h2)];rfl
theorem awH (l key:List Int)(ok:List Int→Bool)(f a r:Nat)(hf:a≤f)(h:amw l key ok f a=some r):a≤r∧r≤l.length:=by
 unfold amw at h;split at h
 · cases h
 · split at h
   · cases h
   · split at h
     · cases h
     · split at h
       · cases h
       · split at h
         · cases h
         · rename_i n hn;split at h
           · cases h;have:=(abG hn).1;rw[List.length_drop,List.length_singleton] at this;omega
           · cases h
def ayn (o:Option Nat):Int:=match o with | some n=>(n:Int) | none=> -1
def aeD (o:Option Nat)(w:World)(e:Ending)(w':World):Prop:=e=.returned (.int .i64 (ayn o))∧Below w.heap.size w w'
def SkC (s:ByteArray)(a f:Nat):Prop:=∀ W,Calls Tryz.prog 54 #[.string s,.int .i64 a] W fun e w'=>e=.returned (.int .i64 (f:Int))∧W=w'
def AtC (s:ByteArray)(f:Nat)(x:ByteArray)(b:Bool):Prop:=∀ W,Calls Tryz.prog 37 #[.string s,.int .i64 f,.string x] W fun e w'=>e=.returned (.bool b)∧W=w'
def FdC (s:ByteArray)(f:Nat)(x:ByteArray)(r:Int):Prop:=∀ W,Calls Tryz.prog 33 #[.string s,.int .i64 f,.string x] W fun e w'=>e=.returned (.int .i64 r)∧W=w'
def SmC (s t:ByteArray):Prop:=∀ W,Calls Tryz.prog 57 #[.string s] W fun e w'=>e=.returned (.string t)∧Below W.heap.size W w'
theorem a2D (s word x y:ByteArray)(a:Nat)(w:World)(C1:Hid (SkC s a a)):Calls Tryz.prog 76 #[.string s,.int .i64 a,.string word,.string x,.string y] w (aeD none w):=by
 go_enter Tryz.func76,Tryz.ntmps76;go_wp2_with fail;refine(C1.out _).mono ?_;rintro e w1 ⟨rfl,rfl⟩;go_wp2;go_ret;exact⟨rfl,Below.refl _ _⟩
theorem a2R (s word x y:ByteArray)(a f:Nat)(w:World)(hw:word.size≤100)(hne:f≠a)(C1:Hid (SkC s a f))(C2:Hid (AtC s f (word++⟨#[61]⟩) false)):Calls Tryz.prog 76 #[.string s,.int .i64 a,.string word,.string x,.string y] w (aeD none w):=by
 have t1:((f:Int) == (a:Int))=false:=by rw[beq_eq_false_iff_ne];omega
 have hz:(word++(⟨#[61]⟩:ByteArray)).size≤10000:=by rw[ByteArray.size_append];show word.size+1≤_;omega
 clear hne;go_enter Tryz.func76,Tryz.ntmps76;go_wp2_with fail;refine(C1.out _).mono ?_;rintro e w1 ⟨rfl,rfl⟩;go_wp2_with fail;refine(C2.out _).mono ?_;rintro e w1 ⟨rfl,rfl⟩;go_wp2;go_ret;exact⟨rfl,Below.refl _ _⟩
theorem a3I (s word x y:ByteArray)(a f q:Nat)(w:World)(hs:s.size≤10000)(hf:f≤10000)(hw:word.size≤100)(hne:f≠a)(hq:q=f+word.size+1)(hl:s.size≤q)(C1:Hid (SkC s a f))(C2:Hid (AtC s f (word++⟨#[61]⟩) true)):Calls Tryz.prog 76 #[.string s,.int .i64 a,.string word,.string x,.string y] w (aeD none w):=by
 have t1:((f:Int) == (a:Int))=false:=by rw[beq_eq_false_iff_ne];omega
 have hz:(word++(⟨#[61]⟩:ByteArray)).size≤10000:=by rw[ByteArray.size_append];show word.size+1≤_;omega
 have q1:IntKind.i64.wrap ((f:Int)+(word.size:Int))=(f:Int)+(word.size:Int):=IntWalk.i64_in _ (by omega);have q2:IntKind.i64.wrap ((f:Int)+(word.size:Int)+1)=(q:Int):=by rw[IntWalk.i64_in _ (by omega)];omega
 have d1:(s.size:Int)≤(q:Int):=(by omega);clear hne hq hl;go_enter Tryz.func76,Tryz.ntmps76;go_wp2_with fail;refine(C1.out _).mono ?_;rintro e w1 ⟨rfl,rfl⟩;go_wp2_with fail;refine(C2.out _).mono ?_;rintro e w1 ⟨rfl,rfl⟩;go_wp2;go_ret;exact⟨rfl,Below.refl _ _⟩
theorem a3p (s word x y:ByteArray)(a f q:Nat)(w:World)(hs:s.size≤10000)(hf:f≤10000)(hw:word.size≤100)(hne:f≠a)(hq:q=f+word.size+1)(hl:q < s.size)(hc:¬ quo ((aad s).getD q 0))(C1:Hid (SkC s a f))(C2:Hid (AtC s f (word++⟨#[61]⟩) true)):Calls Tryz.prog 76 #[.string s,.int .i64 a,.string word,.string x,.string y] w (aeD none w):=by
 have t1:((f:Int) == (a:Int))=false:=by rw[beq_eq_false_iff_ne];omega
 have hz:(word++(⟨#[61]⟩:ByteArray)).size≤10000:=by rw[ByteArray.size_append];show word.size+1≤_;omega
 have q1:IntKind.i64.wrap ((f:Int)+(word.size:Int))=(f:Int)+(word.size:Int):=IntWalk.i64_in _ (by omega);have q2:IntKind.i64.wrap ((f:Int)+(word.size:Int)+1)=(q:Int):=by rw[IntWalk.i64_in _ (by omega)];omega
 have d1:¬ (s.size:Int)≤(q:Int):=(by omega);have d2:(q:Int) < (s.size:Int):=(by omega);have hb:=aaG s q hl;have t2:(((s[q]).toNat:Int) != 34)=true:=by rw[hb,bne_iff_ne];exact fun h=>hc (.inl h)
 have t3:(((s[q]).toNat:Int) != 39)=true:=by rw[hb,bne_iff_ne];exact fun h=>hc (.inr h)
 clear hne hq hb hc;go_enter Tryz.func76,Tryz.ntmps76;go_wp2_with fail;refine(C1.out _).mono ?_;rintro e w1 ⟨rfl,rfl⟩;go_wp2_with fail;refine(C2.out _).mono ?_;rintro e w1 ⟨rfl,rfl⟩;go_wp2;go_ret;exact⟨rfl,Below.refl _ _⟩
theorem agI (s:ByteArray)(q:Nat)(hl:q < s.size)(hc:quo ((aad s).getD q 0)):(((s[q]).toNat:Int) != 34)=false∨((((s[q]).toNat:Int) != 34)=true∧(((s[q]).toNat:Int) != 39)=false):=by
 rw[aaG s q hl];rcases hc with h | h
 · left;rw[h];rfl
 · right;rw[h];exact⟨rfl,rfl⟩
theorem a2E (s word x y:ByteArray)(a f q:Nat)(w:World)(hs:s.size≤10000)(hf:f≤10000)(hw:word.size≤100)(hne:f≠a)(hq:q=f+word.size+1)(hl:q < s.size)(hc:quo ((aad s).getD q 0))(C1:Hid (SkC s a f))(C2:Hid (AtC s f (word++⟨#[61]⟩) true))
 (C3:Hid (FdC s (q+1) (s.extract q (q+1)) (-1))):Calls Tryz.prog 76 #[.string s,.int .i64 a,.string word,.string x,.string y] w (aeD none w):=by
 have t1:((f:Int) == (a:Int))=false:=by rw[beq_eq_false_iff_ne];omega
 have hz:(word++(⟨#[61]⟩:ByteArray)).size≤10000:=by rw[ByteArray.size_append];show word.size+1≤_;omega
 have q1:IntKind.i64.wrap ((f:Int)+(word.size:Int))=(f:Int)+(word.size:Int):=IntWalk.i64_in _ (by omega);have q2:IntKind.i64.wrap ((f:Int)+(word.size:Int)+1)=(q:Int):=by rw[IntWalk.i64_in _ (by omega)];omega
 have q3:IntKind.i64.wrap ((q:Int)+1)=((q+1:Nat):Int):=by rw[IntWalk.i64_in _ (by omega)];omega
 have d1:¬ (s.size:Int)≤(q:Int):=(by omega);have d2:(q:Int) < (s.size:Int):=(by omega);have d3:(q:Int)≤((q+1:Nat):Int):=(by omega);have d4:((q+1:Nat):Int)≤(s.size:Int):=(by omega);rcases agI s q hl hc with t2 | ⟨t2,t3⟩
 all_goals
  clear hne hq hc;go_enter Tryz.func76,Tryz.ntmps76;go_wp2_with fail;refine(C1.out _).mono ?_;rintro e w1 ⟨rfl,rfl⟩;go_wp2_with fail;refine(C2.out _).mono ?_;rintro e w1 ⟨rfl,rfl⟩;go_wp2_with fail;refine(C3.out _).mono ?_;rintro e w1 ⟨rfl,rfl⟩;go_wp2;go_ret;exact⟨rfl,Below.refl _ _⟩
theorem a3x (s word x y:ByteArray)(a f q t:Nat)(ok:Bool)(w:World)(hs:s.size≤10000)(hf:f≤10000)(hw:word.size≤100)(hne:f≠a)(hq:q=f+word.size+1)(hl:q < s.size)(hc:quo ((aad s).getD q 0))(C1:Hid (SkC s a f))(C2:Hid (AtC s f (word++⟨#[61]⟩) true))
 (C3:Hid (FdC s (q+1) (s.extract q (q+1)) t)) (ht:q+1≤t) (ht2:t < s.size) (hn:(word.toList == [101,110,99,111,100,105,110,103])=false)
 (ho:(((s.extract (q+1) t).toList == x.toList)=true∧ok=true)∨(((s.extract (q+1) t).toList == x.toList)=false∧((s.extract (q+1) t).toList == y.toList)=ok)):Calls Tryz.prog 76 #[.string s,.int .i64 a,.string word,.string x,.string y] w (aeD (if ok=true then some (t+1) else none) w):=by
 have t1:((f:Int) == (a:Int))=false:=by rw[beq_eq_false_iff_ne];omega
 have hz:(word++(⟨#[61]⟩:ByteArray)).size≤10000:=by rw[ByteArray.size_append];show word.size+1≤_;omega
 have q1:IntKind.i64.wrap ((f:Int)+(word.size:Int))=(f:Int)+(word.size:Int):=IntWalk.i64_in _ (by omega);have q2:IntKind.i64.wrap ((f:Int)+(word.size:Int)+1)=(q:Int):=by rw[IntWalk.i64_in _ (by omega)];omega
 have q3:IntKind.i64.wrap ((q:Int)+1)=((q+1:Nat):Int):=by rw[IntWalk.i64_in _ (by omega)];omega
 have q4:IntKind.i64.wrap ((t:Int)+1)=((t+1:Nat):Int):=by rw[IntWalk.i64_in _ (by omega)];omega
 have d1:¬ (s.size:Int)≤(q:Int):=(by omega);have d2:(q:Int) < (s.size:Int):=(by omega);have d3:(q:Int)≤((q+1:Nat):Int):=(by omega);have d4:((q+1:Nat):Int)≤(s.size:Int):=(by omega);have d5:((q+1:Nat):Int)≤(t:Int):=(by omega);have d6:(t:Int)≤(s.size:Int):=(by omega);have d7:¬ (t:Int) < 0:=(by omega);rcases agI s q hl hc with t2 | ⟨t2,t3⟩
 all_goals
  rcases ho with ⟨o1,rfl⟩ | ⟨o1,o2⟩
  · clear hne hq hc;go_enter Tryz.func76,Tryz.ntmps76;go_wp2_with fail;refine(C1.out _).mono ?_;rintro e w1 ⟨rfl,rfl⟩;go_wp2_with fail;refine(C2.out _).mono ?_;rintro e w1 ⟨rfl,rfl⟩;go_wp2_with fail;refine(C3.out _).mono ?_;rintro e w1 ⟨rfl,rfl⟩;go_wp2;go_ret;exact⟨rfl,Below.refl _ _⟩
  · clear hne hq hc;cases ok
    all_goals
     go_enter Tryz.func76,Tryz.ntmps76;go_wp2_with fail;refine(C1.out _).mono ?_;rintro e w1 ⟨rfl,rfl⟩;go_wp2_with fail;refine(C2.out _).mono ?_;rintro e w1 ⟨rfl,rfl⟩;go_wp2_with fail;refine(C3.out _).mono ?_;rintro e w1 ⟨rfl,rfl⟩;go_wp2;go_ret;exact⟨rfl,Below.refl _ _⟩
theorem a2Q (s word x y v:ByteArray)(a f q t:Nat)(ok:Bool)(w:World)(hs:s.size≤10000)(hf:f≤10000)(hw:word.size≤100)(hne:f≠a)(hq:q=f+word.size+1)(hl:q < s.size)(hc:quo ((aad s).getD q 0))(C1:Hid (SkC s a f))(C2:Hid (AtC s f (word++⟨#[61]⟩) true))
 (C3:Hid (FdC s (q+1) (s.extract q (q+1)) t)) (ht:q+1≤t) (ht2:t < s.size) (hn:(word.toList == [101,110,99,111,100,105,110,103])=true) (C4:Hid (SmC (s.extract (q+1) t) v))
 (ho:((v.toList == x.toList)=true∧ok=true)∨((v.toList == x.toList)=false∧(v.toList == y.toList)=ok)):Calls Tryz.prog 76 #[.string s,.int .i64 a,.string word,.string x,.string y] w (aeD (if ok=true then some (t+1) else none) w):=by
 have t1:((f:Int) == (a:Int))=false:=by rw[beq_eq_false_iff_ne];omega
 have hz:(word++(⟨#[61]⟩:ByteArray)).size≤10000:=by rw[ByteArray.size_append];show word.size+1≤_;omega
 have q1:IntKind.i64.wrap ((f:Int)+(word.size:Int))=(f:Int)+(word.size:Int):=IntWalk.i64_in _ (by omega);have q2:IntKind.i64.wrap ((f:Int)+(word.size:Int)+1)=(q:Int):=by rw[IntWalk.i64_in _ (by omega)];omega
 have q3:IntKind.i64.wrap ((q:Int)+1)=((q+1:Nat):Int):=by rw[IntWalk.i64_in _ (by omega)];omega
 have q4:IntKind.i64.wrap ((t:Int)+1)=((t+1:Nat):Int):=by rw[IntWalk.i64_in _ (by omega)];omega
 have d1:¬ (s.size:Int)≤(q:Int):=(by omega);have d2:(q:Int) < (s.size:Int):=(by omega);have d3:(q:Int)≤((q+1:Nat):Int):=(by omega);have d4:((q+1:Nat):Int)≤(s.size:Int):=(by omega);have d5:((q+1:Nat):Int)≤(t:Int):=(by omega);have d6:(t:Int)≤(s.size:Int):=(by omega);have d7:¬ (t:Int) < 0:=(by omega);rcases agI s q hl hc with t2 | ⟨t2,t3⟩
 all_goals
  rcases ho with ⟨o1,rfl⟩ | ⟨o1,o2⟩
  · clear hne hq hc;go_enter Tryz.func76,Tryz.ntmps76;go_wp2_with fail;refine(C1.out _).mono ?_;rintro e w1 ⟨rfl,rfl⟩;go_wp2_with fail;refine(C2.out _).mono ?_;rintro e w1 ⟨rfl,rfl⟩;go_wp2_with fail;refine(C3.out _).mono ?_;rintro e w1 ⟨rfl,rfl⟩;go_wp2_with fail;refine(C4.out _).mono ?_;rintro e w4 ⟨rfl,hb4⟩;go_wp2;go_ret;exact⟨rfl,hb4⟩
  · clear hne hq hc;cases ok
    all_goals
     go_enter Tryz.func76,Tryz.ntmps76;go_wp2_with fail;refine(C1.out _).mono ?_;rintro e w1 ⟨rfl,rfl⟩;go_wp2_with fail;refine(C2.out _).mono ?_;rintro e w1 ⟨rfl,rfl⟩;go_wp2_with fail;refine(C3.out _).mono ?_;rintro e w1 ⟨rfl,rfl⟩;go_wp2_with fail;refine(C4.out _).mono ?_;rintro e w4 ⟨rfl,hb4⟩;go_wp2;go_ret;exact⟨rfl,hb4⟩
end Go.Proofs.YtnomcldpbkinmaaGreatDoor
