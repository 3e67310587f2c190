/- Lemmas of the claim. -/
import Derived.Test.YtnomcldpbkinmaaGreatDoorG07
import Derived.Test.YtnomcldpbkinmaaGreatDoorG02
import Derived.Test.YtnomcldpbkinmaaGreatDoorG12
import Derived.Test.YtnomcldpbkinmaaGreatDoorG03
import Derived.Test.YtnomcldpbkinmaaGreatDoorG05
set_option maxHeartbeats 4000000
set_option maxRecDepth 100000
set_option linter.unusedSimpArgs false
set_option linter.unusedVariables false
namespace Go.Proofs.YtnomcldpbkinmaaGreatDoor.Nz
open Go.RowKit
def a2Z (s:ByteArray)(w:World)(i:Value)(wr:World):Prop:=
 ∃ k:Nat,k≤s.size∧i=.int .i64 k∧Below w.heap.size w wr∧∀ j,j < k→¬ Hit s j
theorem a0i (s:ByteArray)(k:Nat)(h:k < s.size):(bl s).getD k 0=(s[k]'h).toNat:=by
 have:=akw s k 0;rw[List.getD_eq_getElem?_getD,List.getElem?_drop,Nat.add_zero,← List.getD_eq_getElem?_getD] at this;rw[← this];simp[ByteArray.get!,getElem!_pos,h];rfl
theorem ahj {r:ByteArray × ByteArray × Bool}{a b:ByteArray}{c:Bool}(h:r=(a,b,c)):Ending.returned (.tuple #[.string a,.string b,.bool c])=.returned (.tuple #[.string r.1,.string r.2.1,.bool r.2.2]):=by rw[h]
theorem afl (s:ByteArray)(hs:s.size≤10000)(w:World):
 Calls Tryz.prog 30 #[.string s] w fun e w'=>e=.returned (.tuple #[.string (aao s).1,.string (aao s).2.1,.bool (aao s).2.2])∧Below w.heap.size w w':=by
 have CP:=aac (adU s hs);cases hp:pl (bl s)
 · rw[hp] at CP;have HN:=aac (@agK s hp);have HH:=aac (fun i (h:Hit s i)=>ajv h);clear hp;generalize aao s=res at *;go_enter Tryz.func30,Tryz.ntmps30;go_wp2_with fail;refine(CP.out _).mono ?_;rintro e w1 ⟨rfl,hb1⟩;go_wp2_with fail;go_loopw [5] (fun i wr=>a2Z s w i wr) (fun i _=>s.size - (intOf i).toNat);case atStart=>exact⟨0,Nat.zero_le _,rfl,hb1,fun j hj=>by omega⟩
   case round=>
    obtain⟨k,hk,rfl,hb,ho⟩:=hrel;have HO:=aac ho;clear ho hb1;by_cases hlt:k < s.size
    · have hbe:=a0i s k hlt;by_cases h58:(bl s).getD k 0=58
      · have c1:((s[k].toNat:Int) == 58)=true:=by rw[← hbe,h58];rfl
        have i1:(0:Int)≤(k:Int):=(by omega);have i2:(k:Int)≤(s.size:Int):=(by omega);have H58:=aac h58;have C1:=aac (adU (s.extract 0 k) (by rw[ByteArray.size_extract];omega));have C2:=aac (adU (s.extract (k+1) s.size) (by rw[ByteArray.size_extract];omega));clear hbe h58;cases h1:pl (bl (s.extract 0 k))
        · have HQ:Hid (¬ Hit s k):=aac (by
           rintro ⟨g1,g2,g3,g4⟩;rw[← aeU,h1] at g3;exact absurd g3 (by simp))
          rw[h1] at C1;clear h1;go_wp2_with fail;refine(C1.out _).mono ?_;rintro e w2 ⟨rfl,hb2⟩;go_wp2_with fail;go_roundw
          case rel=>
           refine⟨k+1,by omega,by go_num,hb.trans (hb2.mono hb.size),fun j hj=> ?_⟩;rcases Nat.lt_or_ge j k with h | h
           · exact HO.out j h
           · obtain rfl:j=k:=(by omega);exact HQ.out
          case measure=>simp[intOf];omega
        · have H1:=aac h1;rw[h1] at C1;clear h1;cases h2:pl (bl (s.extract (k+1) s.size))
          · have HQ:Hid (¬ Hit s k):=aac (by
             rintro ⟨g1,g2,g3,g4⟩;rw[← aiC,h2] at g4;exact absurd g4 (by simp))
            rw[h2] at C2;clear h2;have i3:(0:Int)≤(k:Int)+1:=(by omega);have i4:(k:Int)+1≤(s.size:Int):=(by omega);have q3:((k:Int)+1).toNat=k+1:=(by omega);go_wp2_with fail;refine(C1.out _).mono ?_;rintro e w2 ⟨rfl,hb2⟩;go_wp2_with fail;refine(C2.out _).mono ?_;rintro e w3 ⟨rfl,hb3⟩;have hbb:=(hb.trans (hb2.mono hb.size)).trans (hb3.mono (by have:=hb.size;have:=hb2.size;omega));go_wp2_with fail;go_roundw
            case rel=>
             refine⟨k+1,by omega,by go_num,hbb,fun j hj=> ?_⟩;rcases Nat.lt_or_ge j k with h | h
             · exact HO.out j h
             · obtain rfl:j=k:=(by omega);exact HQ.out
            case measure=>simp[intOf];omega
          · have HQ:Hid (Hit s k):=aac ⟨hlt,H58.out,by rw[← aeU];exact H1.out,by rw[← aiC];exact h2⟩;rw[h2] at C2;clear h2;have i3:(0:Int)≤(k:Int)+1:=(by omega);have i4:(k:Int)+1≤(s.size:Int):=(by omega);have q3:((k:Int)+1).toNat=k+1:=(by omega);have q2:IntKind.i64.wrap ((k:Int)+1)=(k:Int)+1:=IntWalk.i64_in _ (by omega);go_wp2_with fail;refine(C1.out _).mono ?_;rintro e w2 ⟨rfl,hb2⟩;go_wp2_with fail;refine(C2.out _).mono ?_;rintro e w3 ⟨rfl,hb3⟩;have hbb:=(hb.trans (hb2.mono hb.size)).trans (hb3.mono (by have:=hb.size;have:=hb2.size;omega));go_wp2_with fail;go_quiet (fail);go_wp2;go_ret3;exact⟨ahj (HH.out _ HQ.out),below_drewN hbb _⟩
      · have c1:((s[k].toNat:Int) == 58)=false:=by
         rw[beq_eq_false_iff_ne,← hbe];omega
        have HQ:Hid (¬ Hit s k):=aac (fun h=>h58 h.2.1);clear hbe h58;go_wp2_with fail;go_roundw
        case rel=>
         refine⟨k+1,by omega,by go_num,hb,fun j hj=> ?_⟩;rcases Nat.lt_or_ge j k with h | h
         · exact HO.out j h
         · obtain rfl:j=k:=(by omega);exact HQ.out
        case measure=>simp[intOf];omega
    · go_wp2_with fail;go_ret3;exact⟨ahj (HN.out (fun i hi=>HO.out i (by omega))),hb⟩
 · rw[hp] at CP;have HS:=aac (agt hp);clear hp;generalize aao s=res at *;go_enter Tryz.func30,Tryz.ntmps30;go_wp2_with fail;refine(CP.out _).mono ?_;rintro e w1 ⟨rfl,hb1⟩;go_wp2_with fail;go_ret3;exact⟨ahj HS.out,hb1⟩
end Go.Proofs.YtnomcldpbkinmaaGreatDoor.Nz
namespace Go.Proofs.YtnomcldpbkinmaaGreatDoor
open Go.RowKit
theorem arS (c:Int)(w:World)(h0:0≤c)(h1:c≤255):Calls Tryz.prog 72 #[.int .u8 c] w fun e w'=>e=.returned (.int .i64 (dig c))∧w=w':=by
 go_enter Tryz.func72,Tryz.ntmps72;go_wp2
 all_goals
  go_ret;refine⟨aep ?_,rfl⟩
  try simp only[decide_eq_true_eq,decide_eq_false_iff_not] at *
  unfold dig
  repeat' split
  all_goals omega
theorem azb (w:World):Calls Tryz.prog 51 #[.string ⟨#[108,116]⟩] w fun e w'=>e=.returned (.int .i64 60)∧w=w':=by
 go_enter Tryz.func51,Tryz.ntmps51;go_wp2;go_ret;exact⟨rfl,rfl⟩
theorem ayK (w:World):Calls Tryz.prog 51 #[.string ⟨#[103,116]⟩] w fun e w'=>e=.returned (.int .i64 62)∧w=w':=by
 go_enter Tryz.func51,Tryz.ntmps51;go_wp2;go_ret;exact⟨rfl,rfl⟩
theorem avv (w:World):Calls Tryz.prog 51 #[.string ⟨#[97,109,112]⟩] w fun e w'=>e=.returned (.int .i64 38)∧w=w':=by
 go_enter Tryz.func51,Tryz.ntmps51;go_wp2;go_ret;exact⟨rfl,rfl⟩
theorem arO (w:World):Calls Tryz.prog 51 #[.string ⟨#[97,112,111,115]⟩] w fun e w'=>e=.returned (.int .i64 39)∧w=w':=by
 go_enter Tryz.func51,Tryz.ntmps51;go_wp2;go_ret;exact⟨rfl,rfl⟩
theorem aqh (w:World):Calls Tryz.prog 51 #[.string ⟨#[113,117,111,116]⟩] w fun e w'=>e=.returned (.int .i64 34)∧w=w':=by
 go_enter Tryz.func51,Tryz.ntmps51;go_wp2;go_ret;exact⟨rfl,rfl⟩
theorem aom (t:ByteArray)(w:World)(f1:(t.toList == [108,116])=false)(f2:(t.toList == [103,116])=false)(f3:(t.toList == [97,109,112])=false)(f4:(t.toList == [97,112,111,115])=false)(f5:(t.toList == [113,117,111,116])=false)(h:t.size < 2):Calls Tryz.prog 51 #[.string t] w fun e w'=>e=.returned (.int .i64 (-1))∧w=w':=by
 have i8:decide ((t.size:Int) < (2:Int))=true:=by rw[decide_eq_true_eq];omega
 have j8:decide (t.size < 2)=true:=by rw[decide_eq_true_eq];omega
 clear h;go_enter Tryz.func51,Tryz.ntmps51;go_wp2;go_ret;exact⟨rfl,rfl⟩
theorem ayw (t:ByteArray)(w:World)(f1:(t.toList == [108,116])=false)(f2:(t.toList == [103,116])=false)(f3:(t.toList == [97,109,112])=false)(f4:(t.toList == [97,112,111,115])=false)(f5:(t.toList == [113,117,111,116])=false)(h:2≤t.size)(hs:t.size≤10000)(hc:(((t[0]'(by omega)).toNat:Int) != 35)=true):Calls Tryz.prog 51 #[.string t] w fun e w'=>e=.returned (.int .i64 (-1))∧w=w':=by
 have i8:decide ((t.size:Int) < (2:Int))=false:=by rw[decide_eq_false_iff_not];omega
 have j8:decide (t.size < 2)=false:=by rw[decide_eq_false_iff_not];omega
 have k1:(0:Int) < (t.size:Int):=(by omega);have k2:0 < t.size:=(by omega);go_enter Tryz.func51,Tryz.ntmps51;go_wp2;go_ret;exact⟨rfl,rfl⟩
def atO (b:Int)(l:List Int)(j:Nat)(x:List Int)(n:Int):Prop:=0≤n∧n < 16 ^ j∧adA b x n=adA b l 0
theorem atP (j:Nat)(n d:Int)(h:n < 16 ^ j)(hd:d < 16):n * 16+d < 16 ^ (j+1):=by
 rw[Int.pow_succ];omega
theorem aoo (j:Nat)(n d:Int)(h0:0≤n)(h:n < 16 ^ j)(hd:d < 10):n * 10+d < 16 ^ (j+1):=by
 rw[Int.pow_succ];omega
theorem ajP (j:Nat)(hj:j≤8)(n:Int)(h:n < 16 ^ j):n < 4294967296:=by
 have:(16:Int) ^ j≤16 ^ 8:=by
  match j,hj with
  | 0,_=>decide
  | 1,_=>decide
  | 2,_=>decide
  | 3,_=>decide
  | 4,_=>decide
  | 5,_=>decide
  | 6,_=>decide
  | 7,_=>decide
  | 8,_=>decide
 have e:(16:Int) ^ 8=4294967296:=(by decide);omega
theorem ahY (b c n:Int)(l:List Int):adA b (c :: l) n=if dig c < b then adA b l (n * b+dig c) else -1:=rfl
theorem auu (t:ByteArray)(w:World)(f1:(t.toList == [108,116])=false)(f2:(t.toList == [103,116])=false)(f3:(t.toList == [97,109,112])=false)(f4:(t.toList == [97,112,111,115])=false)(f5:(t.toList == [113,117,111,116])=false)(h:2≤t.size)(hs:t.size≤10000)(hc:(((t[0]'(by omega)).toNat:Int) != 35)=false)(hx:(((t[1]'(by omega)).toNat:Int) == 120)=false)(he:8+1 < t.size):Calls Tryz.prog 51 #[.string t] w fun e w'=>e=.returned (.int .i64 (-1))∧w=w':=by
 have i8:decide ((t.size:Int) < (2:Int))=false:=by rw[decide_eq_false_iff_not];omega
 have j8:decide (t.size < 2)=false:=by rw[decide_eq_false_iff_not];omega
 have k1:(0:Int) < (t.size:Int):=(by omega);have k2:0 < t.size:=(by omega);have k3:(1:Int) < (t.size:Int):=(by omega);have k4:1 < t.size:=(by omega);have q2:IntKind.i64.wrap ((t.size:Int) - 1)=(t.size:Int) - 1:=IntWalk.i64_in _ (by omega);have e1:((1:Int) == (t.size:Int))=false:=by rw[beq_eq_false_iff_ne];omega
 have e2:decide ((8:Int) < (t.size:Int) - 1)=true:=by rw[decide_eq_true_eq];omega
 go_enter Tryz.func51,Tryz.ntmps51;go_wp2;go_ret;exact⟨rfl,rfl⟩
theorem azq (t:ByteArray)(w:World)(f1:(t.toList == [108,116])=false)(f2:(t.toList == [103,116])=false)(f3:(t.toList == [97,109,112])=false)(f4:(t.toList == [97,112,111,115])=false)(f5:(t.toList == [113,117,111,116])=false)(h:2≤t.size)(hs:t.size≤10000)(hc:(((t[0]'(by omega)).toNat:Int) != 35)=false)(hx:(((t[1]'(by omega)).toNat:Int) == 120)=false)(hlo:1 < t.size)(he:t.size≤8+1):Calls Tryz.prog 51 #[.string t] w fun e w'=>e=.returned (.int .i64 (abO (adA 10 ((aad t).drop 1) 0)))∧w=w':=by
 have i8:decide ((t.size:Int) < (2:Int))=false:=by rw[decide_eq_false_iff_not];omega
 have j8:decide (t.size < 2)=false:=by rw[decide_eq_false_iff_not];omega
 have k1:(0:Int) < (t.size:Int):=(by omega);have k2:0 < t.size:=(by omega);have k3:(1:Int) < (t.size:Int):=(by omega);have k4:1 < t.size:=(by omega);have q2:IntKind.i64.wrap ((t.size:Int) - 1)=(t.size:Int) - 1:=IntWalk.i64_in _ (by omega);have e1:((1:Int) == (t.size:Int))=false:=by rw[beq_eq_false_iff_ne];omega
 have e2:decide ((8:Int) < (t.size:Int) - 1)=false:=by rw[decide_eq_false_iff_not];omega
 go_enter Tryz.func51,Tryz.ntmps51;go_wp2_with fail;go_loop [5,6] (fun vn vi=>∃ (k:Nat) (n:Int),vn=.int .i64 n∧vi=.int .i64 k∧1≤k∧k≤t.size∧Hid (atO 10 ((aad t).drop 1) (k - 1) ((aad t).drop k) n)) (fun _ vi=>t.size - (intOf vi).toNat);case atStart=>exact⟨1,0,rfl,rfl,by omega,by omega,aac ⟨by omega,by decide,rfl⟩⟩
 case round=>
  obtain⟨k,n,rfl,rfl,hk0,hk,hR⟩:=hrel;obtain⟨n0,n1,hdec⟩:=hR.out;have n2:=ajP _ (by omega) n n1;clear hR;by_cases hlt:k < t.size
  · have hi:=aaG t k hlt;have hcb:=anW t k;have c1:(k:Int) < (t.size:Int):=(by omega);rw[drop_cons _ k (by rw[aae];exact hlt),ahY] at hdec;have HX:=aac (fun w=>arS _ w hcb.1 hcb.2);rw[← hi] at HX hdec;clear hi hcb;have hd0:=anz (((t[k]).toNat:Int));by_cases hd:dig ((t[k]).toNat:Int) < 10
    · rw[if_pos hd] at hdec;have hp:=aoo (k - 1) n _ n0 n1 hd;have HR:Hid (atO 10 ((aad t).drop 1) (k+1 - 1) ((aad t).drop (k+1)) (n * 10+dig ((t[k]).toNat:Int))):=aac ⟨by omega,by rw[show k+1 - 1=k - 1+1 by omega];exact hp,hdec⟩;clear hdec hp n1;generalize dig ((t[k]).toNat:Int)=d at *;have t1:decide ((10:Int)≤d)=false:=by rw[decide_eq_false_iff_not];omega
      go_wp2_with (go_at_call 72;refine(HX.out _).mono ?_;rintro e w' ⟨rfl,rfl⟩);refine⟨⟨k+1,n * 10+d,(by first | rfl | (congr 1;omega)),by rw[Int.natCast_add];rfl,by omega,by omega,HR⟩,by simp only[intOf];omega⟩
    · rw[if_neg hd] at hdec;have HA:Hid (abO (adA 10 ((aad t).drop 1) 0)= -1):=aac (by rw[← hdec];exact acz);clear hdec n1;generalize dig ((t[k]).toNat:Int)=d at *;have t1:decide ((10:Int)≤d)=true:=by rw[decide_eq_true_eq];omega
      go_wp2_with (go_at_call 72;refine(HX.out _).mono ?_;rintro e w' ⟨rfl,rfl⟩);go_ret;exact⟨aep HA.out.symm,rfl⟩
  · have hkk:k=t.size:=(by omega);subst hkk;rw[List.drop_of_length_le (by rw[aae];omega)] at hdec;have CC:=abp n;by_cases hch:Chr n
    · have HA:Hid (abO (adA 10 ((aad t).drop 1) 0)=n):=aac (by rw[← hdec];exact if_pos hch);rw[decide_eq_true hch] at CC;have CH:=aac CC;clear hdec hch CC n1;go_wp2_with (go_at_call 49;refine(CH.out _).mono ?_;rintro e w' ⟨rfl,rfl⟩);go_ret;exact⟨aep HA.out.symm,rfl⟩
    · have HA:Hid (abO (adA 10 ((aad t).drop 1) 0)= -1):=aac (by rw[← hdec];exact if_neg hch);rw[decide_eq_false hch] at CC;have CH:=aac CC;clear hdec hch CC n1;go_wp2_with (go_at_call 49;refine(CH.out _).mono ?_;rintro e w' ⟨rfl,rfl⟩);go_ret;exact⟨aep HA.out.symm,rfl⟩
theorem atN (t:ByteArray)(w:World)(f1:(t.toList == [108,116])=false)(f2:(t.toList == [103,116])=false)(f3:(t.toList == [97,109,112])=false)(f4:(t.toList == [97,112,111,115])=false)(f5:(t.toList == [113,117,111,116])=false)(h:2≤t.size)(hs:t.size≤10000)(hc:(((t[0]'(by omega)).toNat:Int) != 35)=false)(hx:(((t[1]'(by omega)).toNat:Int) == 120)=true)(he:t.size=2):Calls Tryz.prog 51 #[.string t] w fun e w'=>e=.returned (.int .i64 (-1))∧w=w':=by
 have i8:decide ((t.size:Int) < (2:Int))=false:=by rw[decide_eq_false_iff_not];omega
 have j8:decide (t.size < 2)=false:=by rw[decide_eq_false_iff_not];omega
 have k1:(0:Int) < (t.size:Int):=(by omega);have k2:0 < t.size:=(by omega);have k3:(1:Int) < (t.size:Int):=(by omega);have k4:1 < t.size:=(by omega);have q2:IntKind.i64.wrap ((t.size:Int) - 2)=(t.size:Int) - 2:=IntWalk.i64_in _ (by omega);have e1:((2:Int) == (t.size:Int))=true:=by rw[beq_iff_eq];omega
 go_enter Tryz.func51,Tryz.ntmps51;go_wp2;go_ret;exact⟨rfl,rfl⟩
theorem ava (t:ByteArray)(w:World)(f1:(t.toList == [108,116])=false)(f2:(t.toList == [103,116])=false)(f3:(t.toList == [97,109,112])=false)(f4:(t.toList == [97,112,111,115])=false)(f5:(t.toList == [113,117,111,116])=false)(h:2≤t.size)(hs:t.size≤10000)(hc:(((t[0]'(by omega)).toNat:Int) != 35)=false)(hx:(((t[1]'(by omega)).toNat:Int) == 120)=true)(he:8+2 < t.size):Calls Tryz.prog 51 #[.string t] w fun e w'=>e=.returned (.int .i64 (-1))∧w=w':=by
 have i8:decide ((t.size:Int) < (2:Int))=false:=by rw[decide_eq_false_iff_not];omega
 have j8:decide (t.size < 2)=false:=by rw[decide_eq_false_iff_not];omega
 have k1:(0:Int) < (t.size:Int):=(by omega);have k2:0 < t.size:=(by omega);have k3:(1:Int) < (t.size:Int):=(by omega);have k4:1 < t.size:=(by omega);have q2:IntKind.i64.wrap ((t.size:Int) - 2)=(t.size:Int) - 2:=IntWalk.i64_in _ (by omega);have e1:((2:Int) == (t.size:Int))=false:=by rw[beq_eq_false_iff_ne];omega
 have e2:decide ((8:Int) < (t.size:Int) - 2)=true:=by rw[decide_eq_true_eq];omega
 go_enter Tryz.func51,Tryz.ntmps51;go_wp2;go_ret;exact⟨rfl,rfl⟩
theorem axj (t:ByteArray)(w:World)(f1:(t.toList == [108,116])=false)(f2:(t.toList == [103,116])=false)(f3:(t.toList == [97,109,112])=false)(f4:(t.toList == [97,112,111,115])=false)(f5:(t.toList == [113,117,111,116])=false)(h:2≤t.size)(hs:t.size≤10000)(hc:(((t[0]'(by omega)).toNat:Int) != 35)=false)(hx:(((t[1]'(by omega)).toNat:Int) == 120)=true)(hlo:2 < t.size)(he:t.size≤8+2):Calls Tryz.prog 51 #[.string t] w fun e w'=>e=.returned (.int .i64 (abO (adA 16 ((aad t).drop 2) 0)))∧w=w':=by
 have i8:decide ((t.size:Int) < (2:Int))=false:=by rw[decide_eq_false_iff_not];omega
 have j8:decide (t.size < 2)=false:=by rw[decide_eq_false_iff_not];omega
 have k1:(0:Int) < (t.size:Int):=(by omega);have k2:0 < t.size:=(by omega);have k3:(1:Int) < (t.size:Int):=(by omega);have k4:1 < t.size:=(by omega);have q2:IntKind.i64.wrap ((t.size:Int) - 2)=(t.size:Int) - 2:=IntWalk.i64_in _ (by omega);have e1:((2:Int) == (t.size:Int))=false:=by rw[beq_eq_false_iff_ne];omega
 have e2:decide ((8:Int) < (t.size:Int) - 2)=false:=by rw[decide_eq_false_iff_not];omega
 go_enter Tryz.func51,Tryz.ntmps51;go_wp2_with fail;go_loop [5,6] (fun vn vi=>∃ (k:Nat) (n:Int),vn=.int .i64 n∧vi=.int .i64 k∧2≤k∧k≤t.size∧Hid (atO 16 ((aad t).drop 2) (k - 2) ((aad t).drop k) n)) (fun _ vi=>t.size - (intOf vi).toNat);case atStart=>exact⟨2,0,rfl,rfl,by omega,by omega,aac ⟨by omega,by decide,rfl⟩⟩
 case round=>
  obtain⟨k,n,rfl,rfl,hk0,hk,hR⟩:=hrel;obtain⟨n0,n1,hdec⟩:=hR.out;have n2:=ajP _ (by omega) n n1;clear hR;by_cases hlt:k < t.size
  · have hi:=aaG t k hlt;have hcb:=anW t k;have c1:(k:Int) < (t.size:Int):=(by omega);rw[drop_cons _ k (by rw[aae];exact hlt),ahY] at hdec;have HX:=aac (fun w=>arS _ w hcb.1 hcb.2);rw[← hi] at HX hdec;clear hi hcb;have hd0:=anz (((t[k]).toNat:Int));by_cases hd:dig ((t[k]).toNat:Int) < 16
    · rw[if_pos hd] at hdec;have hp:=atP (k - 2) n _ n1 hd;have HR:Hid (atO 16 ((aad t).drop 2) (k+1 - 2) ((aad t).drop (k+1)) (n * 16+dig ((t[k]).toNat:Int))):=aac ⟨by omega,by rw[show k+1 - 2=k - 2+1 by omega];exact hp,hdec⟩;clear hdec hp n1;generalize dig ((t[k]).toNat:Int)=d at *;have t1:decide ((16:Int)≤d)=false:=by rw[decide_eq_false_iff_not];omega
      go_wp2_with (go_at_call 72;refine(HX.out _).mono ?_;rintro e w' ⟨rfl,rfl⟩);refine⟨⟨k+1,n * 16+d,(by first | rfl | (congr 1;omega)),by rw[Int.natCast_add];rfl,by omega,by omega,HR⟩,by simp only[intOf];omega⟩
    · rw[if_neg hd] at hdec;have HA:Hid (abO (adA 16 ((aad t).drop 2) 0)= -1):=aac (by rw[← hdec];exact acz);clear hdec n1;generalize dig ((t[k]).toNat:Int)=d at *;have t1:decide ((16:Int)≤d)=true:=by rw[decide_eq_true_eq];omega
      go_wp2_with (go_at_call 72;refine(HX.out _).mono ?_;rintro e w' ⟨rfl,rfl⟩);go_ret;exact⟨aep HA.out.symm,rfl⟩
  · have hkk:k=t.size:=(by omega);subst hkk;rw[List.drop_of_length_le (by rw[aae];omega)] at hdec;have CC:=abp n;by_cases hch:Chr n
    · have HA:Hid (abO (adA 16 ((aad t).drop 2) 0)=n):=aac (by rw[← hdec];exact if_pos hch);rw[decide_eq_true hch] at CC;have CH:=aac CC;clear hdec hch CC n1;go_wp2_with (go_at_call 49;refine(CH.out _).mono ?_;rintro e w' ⟨rfl,rfl⟩);go_ret;exact⟨aep HA.out.symm,rfl⟩
    · have HA:Hid (abO (adA 16 ((aad t).drop 2) 0)= -1):=aac (by rw[← hdec];exact if_neg hch);rw[decide_eq_false hch] at CC;have CH:=aac CC;clear hdec hch CC n1;go_wp2_with (go_at_call 49;refine(CH.out _).mono ?_;rintro e w' ⟨rfl,rfl⟩);go_ret;exact⟨aep HA.out.symm,rfl⟩
theorem acE (t:ByteArray)(k:Nat)(h:k < t.size):(aad t).drop k≠[]:=by
 intro e;have:=congrArg List.length e;rw[List.length_drop,aae,List.length_nil] at this;omega
theorem auq (t:ByteArray)(w:World)(hs:t.size≤10000):Calls Tryz.prog 51 #[.string t] w fun e w'=>e=.returned (.int .i64 (ajm (aad t)))∧w=w':=by
 unfold ajm;by_cases a1:aad t=[108,116]
 · rw[if_pos a1];obtain rfl:t=⟨#[108,116]⟩:=abu (a1.trans rfl);exact azb w
 rw[if_neg a1];by_cases a2:aad t=[103,116]
 · rw[if_pos a2];obtain rfl:t=⟨#[103,116]⟩:=abu (a2.trans rfl);exact ayK w
 rw[if_neg a2];by_cases a3:aad t=[97,109,112]
 · rw[if_pos a3];obtain rfl:t=⟨#[97,109,112]⟩:=abu (a3.trans rfl);exact avv w
 rw[if_neg a3];by_cases a4:aad t=[97,112,111,115]
 · rw[if_pos a4];obtain rfl:t=⟨#[97,112,111,115]⟩:=abu (a4.trans rfl);exact arO w
 rw[if_neg a4];by_cases a5:aad t=[113,117,111,116]
 · rw[if_pos a5];obtain rfl:t=⟨#[113,117,111,116]⟩:=abu (a5.trans rfl);exact aqh w
 rw[if_neg a5];have f1:(t.toList == [108,116])=false:=(by rw[a3W,decide_eq_false a1]);have f2:(t.toList == [103,116])=false:=(by rw[a4a,decide_eq_false a2]);have f3:(t.toList == [97,109,112])=false:=(by rw[a1c,decide_eq_false a3]);have f4:(t.toList == [97,112,111,115])=false:=(by rw[awu,decide_eq_false a4]);have f5:(t.toList == [113,117,111,116])=false:=(by rw[aww,decide_eq_false a5]);by_cases hsz:t.size < 2
 · have:(if (aad t).getD 0 0≠35 then (-1:Int) else if (aad t).getD 1 0=120 then akF 16 ((aad t).drop 2) else akF 10 ((aad t).drop 1))= -1:=by
    have hl:=aae t
    match hb:aad t,hl with
    | [],_=>simp
    | [x],_=>simp[akF]
    | x :: y :: z,hl=>simp at hl;omega
   rw[this];exact aom t w f1 f2 f3 f4 f5 hsz
 have h0:=aaG t 0 (by omega);have h1:=aaG t 1 (by omega);by_cases b1:(aad t).getD 0 0=35
 · rw[if_neg (by simpa using b1)];have hc:(((t[0]'(by omega)).toNat:Int) != 35)=false:=by rw[h0];simpa using b1
   by_cases b2:(aad t).getD 1 0=120
   · rw[if_pos b2];have hx:(((t[1]'(by omega)).toNat:Int) == 120)=true:=by rw[h1];simpa using b2
     unfold akF;by_cases d1:t.size=2
     · rw[if_pos (.inl (List.drop_of_length_le (by rw[aae];omega)))];exact atN t w f1 f2 f3 f4 f5 (by omega) hs hc hx d1
     by_cases d2:8+2 < t.size
     · rw[if_pos (.inr (by rw[List.length_drop,aae];omega))];exact ava t w f1 f2 f3 f4 f5 (by omega) hs hc hx d2
     · rw[if_neg (by
        rintro (e | e)
        · exact acE t 2 (by omega) e
        · rw[List.length_drop,aae] at e;omega)]
       exact axj t w f1 f2 f3 f4 f5 (by omega) hs hc hx (by omega) (by omega)
   · rw[if_neg b2];have hx:(((t[1]'(by omega)).toNat:Int) == 120)=false:=by rw[h1];simpa using b2
     unfold akF;by_cases d2:8+1 < t.size
     · rw[if_pos (.inr (by rw[List.length_drop,aae];omega))];exact auu t w f1 f2 f3 f4 f5 (by omega) hs hc hx d2
     · rw[if_neg (by
        rintro (e | e)
        · exact acE t 1 (by omega) e
        · rw[List.length_drop,aae] at e;omega)]
       exact azq t w f1 f2 f3 f4 f5 (by omega) hs hc hx (by omega) (by omega)
 · rw[if_pos b1];exact ayw t w f1 f2 f3 f4 f5 (by omega) hs (by rw[h0];simpa using b1)
end Go.Proofs.YtnomcldpbkinmaaGreatDoor
