/- Lemmas of the claim. -/
import Derived.Test.YtiaebhomfebagaaGreatDoorG04
import Derived.Test.YtiaebhomfebagaaGreatDoorG01
import Derived.Test.YtiaebhomfebagaaGreatDoorRows
import Derived.Test.YtiaebhomfebagaaGreatDoorProg
import Derived.Deep.QuietTactic
import Derived.BigQuiet
import Derived.Deep.RegionWith
import Derived.ProofKit
import Derived.LaidMore
import Derived.LaidLaws
import Derived.OpenShut
import Derived.Stop.Joined
import Derived.Lay
import Derived.HandedShaped
import Derived.Shelf.Vars
import Derived.Lib.LaidU8
import Derived.WalkKit
import Derived.Below
import Derived.Lib.Hide
import Derived.Lib.AtoiErrMem
import Derived.Lib.SmallJoins
import Derived.Deep.Slices
import Derived.Deep.SlicePairs
import Derived.Carry
import Derived.SizedLaws
import Derived.Handed
import Derived.Lib.Builder
set_option maxHeartbeats 1000000
set_option maxRecDepth 100000
set_option linter.unusedSimpArgs false
set_option linter.unusedVariables false
namespace Go.Proofs.YtiaebhomfebagaaGreatDoor.Nz
open Go.RowKit
def fr (s:ByteArray)(k:Nat):ByteArray:=s.extract k s.size
def sn (s:ByteArray)(k:Nat):Nat:=St ((bl s).drop k)
def sx (s:ByteArray)(k:Nat):ByteArray:=(fr s k).extract 0 (sn s k)
theorem asv (s:ByteArray)(i j:Nat):bl (s.extract i j)=((bl s).drop i).take (j - i):=by
 simp[bl,ByteArray.data_extract,List.map_take,List.map_drop,List.extract_eq_take_drop]
theorem aoF (s:ByteArray)(k:Nat):bl (fr s k)=(bl s).drop k:=by
 rw[fr,asv,List.take_of_length_le];simp[aau]
theorem a3Q {a b:ByteArray}(h:bl a=bl b):a=b:=by
 have h1:a.data.toList=b.data.toList:=by
  unfold bl at h;exact(List.map_inj_right (fun x y hxy=>UInt8.toNat_inj.1 hxy)).1 h
 have h2:a.data=b.data:=by
  rw[← Array.toArray_toList (xs:=a.data),h1,Array.toArray_toList]
 cases a;cases b;simp at h2;rw[h2]
theorem aga (u:ByteArray)(n:Nat)(h:u.size≤n):u.extract 0 n=u:=by
 apply a3Q;rw[asv,List.drop_zero,List.take_of_length_le (by rw[aau];omega)]
theorem aaD (s:ByteArray)(k:Nat):(fr s k).size=s.size - k:=by
 rw[← aau,aoF,List.length_drop,aau]
theorem a4R (s:ByteArray)(k:Nat):sn s k≤s.size - k:=by
 have:=a0y _ ((bl s).drop k) (Nat.le_refl _);rw[List.length_drop,aau] at this;exact this
theorem a4W (u:ByteArray)(pos:Nat)(h:pos < u.size):St ((bl u).drop pos)=if Ok ((Utf8.decode u pos).1:Int) then (Utf8.decode u pos).2+St ((bl u).drop (pos+(Utf8.decode u pos).2)) else 0:=by
 rw[adI _ (adx u pos h),← adh,List.drop_drop]
theorem a3H (u:ByteArray)(pos:Nat)(h:¬ pos < u.size):St ((bl u).drop pos)=0:=by
 rw[List.drop_of_length_le (by rw[aau];omega)];rfl
def axb (u:ByteArray)(m:Nat)(w:World)(wr:World):Prop:=∃ pos:Nat,wr=w.iter u pos∧pos+St ((bl u).drop pos)=m∧pos≤u.size
theorem a3z (u:ByteArray)(pos:Nat)(h:pos < u.size):pos+(Utf8.decode u pos).2≤u.size:=by
 rw[adh];have:=(aaV _ (adx u pos h)).2;rw[List.length_drop,aau] at this;omega
theorem a6q {r:Int}(h:Part r)(w:World):Calls Tryz.prog 56 #[.int .i32 r] w fun e w'=>e=.returned (.bool true)∧w=w':=(afX r w).mono fun e w' ⟨h1,h2⟩=>⟨by rw[h1,decide_eq_true h],h2⟩
theorem a6k {r:Int}(h:¬ Part r)(w:World):Calls Tryz.prog 56 #[.int .i32 r] w fun e w'=>e=.returned (.bool false)∧w=w':=(afX r w).mono fun e w' ⟨h1,h2⟩=>⟨by rw[h1,decide_eq_false h],h2⟩
theorem afh {a b:ByteArray}{x y:Int}(h:a=b)(h2:x=y):Ending.returned (.tuple #[.string a,.int .i64 x])=.returned (.tuple #[.string b,.int .i64 y]):=by rw[h,h2]
theorem aqC (s:ByteArray)(k:Nat)(hs:s.size≤1000000000000)(hk:k≤s.size)(w:World):
 Calls Tryz.prog 123 #[.string s,.int .i64 k] w fun e w'=>e=.returned (.tuple #[.string (sx s k),.int .i64 ((k:Int)+(sn s k:Int))])∧Below w.heap.size w w':=by
 have b1:decide ((k:Int) < 0)=false:=(by simp);have b2:decide ((s.size:Int) < (k:Int))=false:=by simp;omega
 have b3:decide (s.size < k)=false:=by simp;omega
 have i1:(0:Int)≤(k:Int):=(by omega);have i2:(k:Int)≤(s.size:Int):=(by omega);have hu:fr s k=s.extract k s.size:=rfl;have hz:=aaD s k;have HM:Hid (sn s k=St (bl (fr s k))):=aac (by rw[sn,aoF]);have HX:Hid (sx s k=(fr s k).extract 0 (sn s k)):=aac rfl;generalize sx s k=res at *;generalize sn s k=m at *;go_enter Tryz.func123,Tryz.ntmps123;go_wp2_with fail;rw[← hu];clear hu;generalize fr s k=u at *;have HB:=aac (fun pos=>(Below.refl w.heap.size w).alloc (Nat.le_refl _) (.stringIter u pos));have HA:=aac (a4W u);have HE:=aac (a3H u);have HD:=aac (a3z u);go_loopw [7,8] (fun _ _ wr=>axb u m w wr) (fun _ _ wr=>u.size - wr.iterPos w.heap.size);case atStart=>exact⟨0,rfl,by rw[HM.out,List.drop_zero];omega,by omega⟩
 case round=>
  obtain⟨pos,rfl,hq,hpl⟩:=hrel;have HQ:=aac hq;clear hq;by_cases hp:pos < u.size
  · have hnx:∀ ty,(Instr.next (.pointer (some ⟨w.heap.size,0,none⟩)) true ty).run Tryz.prog (w.iter u pos)=_:=fun ty=>run_next_any w u pos ty hp;have hwd:=width_pos u pos hp;have HR:=aac (HA.out pos hp);have hd:=HD.out pos hp;have i3:(0:Int)≤(pos:Int):=(by omega);have i4:(pos:Int)≤(u.size:Int):=(by omega);clear HA HD;generalize (Utf8.decode u pos).1=r at *;generalize (Utf8.decode u pos).2=d at *;by_cases h58:(r:Int)=58
    · have c1:((r:Int) != 58)=false:=(by simp[h58]);have HO:Hid (Ok (r:Int)):=aac (.inl h58);clear h58;go_wp2_with fail;go_roundw
      case rel=>
       refine⟨pos+d,rfl,?_,hd⟩;have q:=HQ.out;rw[HR.out,if_pos HO.out] at q;omega
      case measure=>simp;omega
    · have c1:((r:Int) != 58)=true:=(by simp[h58]);by_cases hP:Part (r:Int)
      · have HO:Hid (Ok (r:Int)):=aac (.inr hP);have CP:=aac (fun W=>a6q hP W);clear h58 hP;go_wp2_with (first | (go_at_call 56;refine(CP.out _).mono ?_;rintro e w' ⟨rfl,rfl⟩));go_roundw
        case rel=>
         refine⟨pos+d,rfl,?_,hd⟩;have q:=HQ.out;rw[HR.out,if_pos HO.out] at q;omega
        case measure=>simp;omega
      · have HO:Hid (¬ Ok (r:Int)):=aac (by rintro (h | h);exact h58 h;exact hP h);have CP:=aac (fun W=>a6k hP W);clear h58 hP;go_wp2_with (first | (go_at_call 56;refine(CP.out _).mono ?_;rintro e w' ⟨rfl,rfl⟩));go_ret2;have q:=HQ.out;rw[HR.out,if_neg HO.out] at q;refine⟨afh ?_ ?_,HB.out _⟩
        · rw[HX.out,← q];rfl
        · omega
  · have hnx:∀ ty,(Instr.next (.pointer (some ⟨w.heap.size,0,none⟩)) true ty).run Tryz.prog (w.iter u pos)=_:=fun ty=>run_next_end w u pos ty hp;go_wp2;go_ret2;have q:=HQ.out;rw[HE.out pos hp] at q;have hm:m=u.size:=(by omega);refine⟨afh ?_ ?_,HB.out pos⟩
    · rw[HX.out,aga _ _ (by omega)]
    · omega
end Go.Proofs.YtiaebhomfebagaaGreatDoor.Nz
namespace Go.Proofs.YtiaebhomfebagaaGreatDoor.Nz
open Go.RowKit
theorem below_drewN {B:Nat}{w w':World}(h:Below B w w')(n:Nat):Below B w (w'.drewN n):=⟨h.os,h.tape,h.output,h.size,h.block⟩
def ci (s:ByteArray):Int:=Lib.indexByte s.data.toList 58
theorem aeJ:∀ (l:List UInt8),(Lib.indexByte l 58= -1∧58 ∉ l.map UInt8.toNat)∨
 ∃ i:Nat,Lib.indexByte l 58=i∧i < l.length∧l.map UInt8.toNat=(l.map UInt8.toNat).take i++58 :: (l.map UInt8.toNat).drop (i+1)∧58 ∉ (l.map UInt8.toNat).take i
 | []=>.inl ⟨rfl,by simp⟩
 | b :: l=>by
   unfold Lib.indexByte;by_cases hb:b=58
   · subst hb;exact .inr ⟨0,by simp,by simp,by simp,by simp⟩
   · have hb1:(b == 58)=false:=(by simpa using hb);have hb2:b.toNat≠58:=fun h=>hb (UInt8.toNat_inj.1 (by rw[h];rfl));rw[hb1];rcases aeJ l with ⟨h1,h2⟩ | ⟨i,h1,h2,h3,h4⟩
     · refine .inl ⟨by rw[h1];rfl,?_⟩;rw[List.map_cons,List.mem_cons];rintro (h | h)
       · exact hb2 h.symm
       · exact h2 h
     · refine .inr ⟨i+1,?_,by simp;omega,?_,?_⟩
       · rw[h1];have:(((i:Int)) == -1)=false:=by rw[beq_eq_false_iff_ne];omega
         simp[this]
       · rw[List.map_cons,List.take_succ_cons,List.drop_succ_cons,List.cons_append,← h3]
       · rw[List.map_cons,List.take_succ_cons,List.mem_cons];rintro (h | h)
         · exact hb2 h.symm
         · exact h4 h
theorem adT (s:ByteArray):(ci s= -1∧58 ∉ bl s)∨∃ i:Nat,ci s=i∧i < s.size∧bl s=(bl s).take i++58 :: (bl s).drop (i+1)∧58 ∉ (bl s).take i:=by
 have:=aeJ s.data.toList;rw[← Lib.size_eq] at this;exact this
def em:ByteArray:=⟨#[]⟩
def aak (s:ByteArray):ByteArray × ByteArray × Bool:=
 if ci s= -1 then (if pl (bl s)=true then (em,s,true) else (em,em,false))
 else if pl (bl (s.extract 0 (ci s).toNat))=true∧pl (bl (s.extract ((ci s).toNat+1) s.size))=true then (s.extract 0 (ci s).toNat,s.extract ((ci s).toNat+1) s.size,true) else (em,em,false)
theorem aqP (s:ByteArray)(i:Nat):bl (s.extract 0 i)=(bl s).take i:=by rw[asv];simp
theorem akv (s:ByteArray)(i:Nat):bl (s.extract i s.size)=(bl s).drop i:=aoF s i
theorem aes (s:ByteArray)(c:Int)(w:World):
 Calls Tryz.prog 118 #[.string s,.int .u8 c] w fun e w'=>e=.returned (.int .i64 (Lib.indexByte s.data.toList c.toNat.toUInt8))∧w=w':=by
 go_enter Tryz.func118,Tryz.ntmps118;go_wp2;rw[run_callFunc_extern Tryz.func143 (by kernel_rfl) (by kernel_rfl) (by kernel_rfl) (e:=Extern.BytealgIndexByte.indexByte) (by kernel_rfl),Lib.run_indexByteString];simp only[Result.andThen];rw[Oper.upon_value];go_wp2;go_ret;exact⟨rfl,rfl⟩
theorem agc (s:ByteArray)(w:World):
 Calls Tryz.prog 93 #[.string s,.string ⟨#[58]⟩] w fun e w'=>e=.returned (.int .i64 (ci s))∧w=w':=by
 go_enter Tryz.func93,Tryz.ntmps93;go_wp2_with (go_at_call 118;refine(aes _ _ _).mono ?_;rintro e w' ⟨rfl,rfl⟩)
 · have h:([58] == s.toList)=true:=(by assumption);go_ret;refine⟨?_,rfl⟩;have e:s.data.toList=[58]:=by rw[← Lib.toList_data];exact(beq_iff_eq.1 h).symm
   unfold ci;rw[e];rfl
 · go_ret;exact⟨rfl,rfl⟩
theorem ahS (s:ByteArray)(i:Nat)(h:ci s=i)(hi:i < s.size)(hs:s.size≤1000000000000)(w:World):
 Calls Tryz.prog 156 #[.string s,.string ⟨#[58]⟩] w fun e w'=>e=.returned (.tuple #[.string (s.extract 0 i),.string (s.extract (i+1) s.size),.bool true])∧Below w.heap.size w w':=by
 have CI:=aac (agc s);rw[h] at CI;clear h;have c1:(0:Int)≤(i:Int):=(by omega);have c2:(i:Int)≤(s.size:Int):=(by omega);have c3:(0:Int)≤(i:Int)+1:=(by omega);have c4:(i:Int)+1≤(s.size:Int):=(by omega);have c5:decide ((0:Int)≤(i:Int))=true:=(by simp);have q3:((i:Int)+1).toNat=i+1:=(by omega);have q2:IntKind.i64.wrap ((i:Int)+1)=(i:Int)+1:=IntWalk.i64_in _ (by omega);go_enter Tryz.func156,Tryz.ntmps156;go_wp2_with (go_at_call 93;refine(CI.out _).mono ?_;rintro e w' ⟨rfl,rfl⟩);go_quiet (fail);go_wp2;go_ret3;exact⟨rfl,below_drewN (Below.refl _ _) _⟩
theorem agH (s:ByteArray)(h:ci s= -1)(w:World):
 Calls Tryz.prog 156 #[.string s,.string ⟨#[58]⟩] w fun e w'=>e=.returned (.tuple #[.string s,.string ⟨#[]⟩,.bool false])∧Below w.heap.size w w':=by
 have CI:=aac (agc s);rw[h] at CI;clear h;go_enter Tryz.func156,Tryz.ntmps156;go_wp2_with (go_at_call 93;refine(CI.out _).mono ?_;rintro e w' ⟨rfl,rfl⟩);go_ret3;exact⟨rfl,Below.refl _ _⟩
theorem afV (s:ByteArray)(i:Nat)(h:ci s=i)(hi:i < s.size)(hs:s.size≤1000000000000)(w:World):
 Calls Tryz.prog 128 #[.string s,.string ⟨#[58]⟩] w fun e w'=>e=.returned (.tuple #[.string (s.extract 0 i),.string (s.extract (i+1) s.size),.bool true])∧Below w.heap.size w w':=by
 have CL:=aac (ahS s i h hi hs);clear h hi hs;go_enter Tryz.func128,Tryz.ntmps128;go_wp2_with (go_at_call 156;refine(CL.out _).mono ?_;rintro e w' ⟨rfl,hb⟩);go_ret3;exact⟨rfl,hb⟩
theorem agj (s:ByteArray)(h:ci s= -1)(w:World):
 Calls Tryz.prog 128 #[.string s,.string ⟨#[58]⟩] w fun e w'=>e=.returned (.tuple #[.string s,.string ⟨#[]⟩,.bool false])∧Below w.heap.size w w':=by
 have CL:=aac (agH s h);clear h;go_enter Tryz.func128,Tryz.ntmps128;go_wp2_with (go_at_call 156;refine(CL.out _).mono ?_;rintro e w' ⟨rfl,hb⟩);go_ret3;exact⟨rfl,hb⟩
end Go.Proofs.YtiaebhomfebagaaGreatDoor.Nz
namespace Go.Proofs.YtiaebhomfebagaaGreatDoor.Nz
open Go.RowKit
theorem asC (s:ByteArray)(w:World):
 Calls Tryz.prog 129 #[.string s] w fun e w'=>e=.returned (.tuple #[.string em,.string (if pl (bl s)=true then s else em),.bool (pl (bl s))])∧Below w.heap.size w w':=by
 have CL:=aac (ace s);cases hp:pl (bl s) <;> rw[hp] at CL <;> clear hp
 · go_enter Tryz.func129,Tryz.ntmps129;go_wp2_with (go_at_call 38;refine(CL.out _).mono ?_;rintro e w' ⟨rfl,hb⟩);go_ret3;exact⟨rfl,hb⟩
 · go_enter Tryz.func129,Tryz.ntmps129;go_wp2_with (go_at_call 38;refine(CL.out _).mono ?_;rintro e w' ⟨rfl,hb⟩);go_ret3;exact⟨rfl,hb⟩
theorem aoz (s res:ByteArray)(ok:Bool)(CS:Hid (∀ w,Calls Tryz.prog 128 #[.string s,.string ⟨#[58]⟩] w fun e w'=>e=.returned (.tuple #[.string s,.string ⟨#[]⟩,.bool false])∧Below w.heap.size w w'))
 (CA:Hid (∀ w,Calls Tryz.prog 129 #[.string s] w fun e w'=>e=.returned (.tuple #[.string em,.string res,.bool ok])∧Below w.heap.size w w')) (w:World):
 Calls Tryz.prog 104 #[.string s] w fun e w'=>e=.returned (.tuple #[.string em,.string res,.bool ok])∧Below w.heap.size w w':=by
 go_enter Tryz.func104,Tryz.ntmps104;go_wp2_with fail;refine(CS.out _).mono ?_;rintro e w1 ⟨rfl,hb1⟩;go_wp2_with fail;refine(CA.out _).mono ?_;rintro e w2 ⟨rfl,hb2⟩;go_wp2_with fail;go_ret3;exact⟨rfl,hb1.trans (hb2.mono hb1.size)⟩
theorem asi (s p l:ByteArray)(CS:Hid (∀ w,Calls Tryz.prog 128 #[.string s,.string ⟨#[58]⟩] w fun e w'=>e=.returned (.tuple #[.string p,.string l,.bool true])∧Below w.heap.size w w'))
 (CP:Hid (∀ w,Calls Tryz.prog 38 #[.string p] w fun e w'=>e=.returned (.bool false)∧Below w.heap.size w w')) (w:World):
 Calls Tryz.prog 104 #[.string s] w fun e w'=>e=.returned (.tuple #[.string em,.string em,.bool false])∧Below w.heap.size w w':=by
 go_enter Tryz.func104,Tryz.ntmps104;go_wp2_with fail;refine(CS.out _).mono ?_;rintro e w1 ⟨rfl,hb1⟩;go_wp2_with fail;refine(CP.out _).mono ?_;rintro e w2 ⟨rfl,hb2⟩;go_wp2_with fail;go_ret3;exact⟨rfl,hb1.trans (hb2.mono hb1.size)⟩
theorem ars (s p l:ByteArray)(ok:Bool)(CS:Hid (∀ w,Calls Tryz.prog 128 #[.string s,.string ⟨#[58]⟩] w fun e w'=>e=.returned (.tuple #[.string p,.string l,.bool true])∧Below w.heap.size w w'))
 (CP:Hid (∀ w,Calls Tryz.prog 38 #[.string p] w fun e w'=>e=.returned (.bool true)∧Below w.heap.size w w'))
 (CL:Hid (∀ w,Calls Tryz.prog 38 #[.string l] w fun e w'=>e=.returned (.bool ok)∧Below w.heap.size w w')) (w:World):
 Calls Tryz.prog 104 #[.string s] w fun e w'=>e=.returned (.tuple #[.string (if ok=true then p else em),.string (if ok=true then l else em),.bool ok])∧Below w.heap.size w w':=by
 cases ok
 all_goals
  go_enter Tryz.func104,Tryz.ntmps104;go_wp2_with fail;refine(CS.out _).mono ?_;rintro e w1 ⟨rfl,hb1⟩;go_wp2_with fail;refine(CP.out _).mono ?_;rintro e w2 ⟨rfl,hb2⟩;go_wp2_with fail;refine(CL.out _).mono ?_;rintro e w3 ⟨rfl,hb3⟩;go_wp2_with fail;go_ret3;exact⟨rfl,(hb1.trans (hb2.mono hb1.size)).trans (hb3.mono (by have:=hb1.size;have:=hb2.size;omega))⟩
theorem afc (s:ByteArray)(hs:s.size≤1000000000000)(w:World):
 Calls Tryz.prog 104 #[.string s] w fun e w'=>e=.returned (.tuple #[.string (aak s).1,.string (aak s).2.1,.bool (aak s).2.2])∧Below w.heap.size w w':=by
 rcases adT s with ⟨h1,h2⟩ | ⟨i,h1,h2,h3,h4⟩
 · have e1:aak s=(em,(if pl (bl s)=true then s else em),pl (bl s)):=by
    unfold aak;rw[if_pos h1];cases hp:pl (bl s) <;> simp
   rw[e1];exact aoz s _ _ (aac (agj s h1)) (aac (asC s)) w
 · have e1:aak s=if pl (bl (s.extract 0 i))=true∧pl (bl (s.extract (i+1) s.size))=true then (s.extract 0 i,s.extract (i+1) s.size,true) else (em,em,false):=by
    unfold aak;rw[if_neg (by rw[h1];omega),h1];rfl
   rw[e1];have CP:=ace (s.extract 0 i);have CL:=ace (s.extract (i+1) s.size);cases hp:pl (bl (s.extract 0 i))
   · rw[hp] at CP;rw[if_neg (by simp)];exact asi s _ _ (aac (afV s i h1 h2 hs)) (aac CP) w
   · rw[hp] at CP;have:=ars s _ _ _ (aac (afV s i h1 h2 hs)) (aac CP) (aac CL) w;cases hl:pl (bl (s.extract (i+1) s.size))
     · rw[hl] at this;exact this
     · rw[hl] at this;exact this
def Hit (s:ByteArray)(i:Nat):Prop:=i < s.size∧(bl s).getD i 0=58∧pl ((bl s).take i)=true∧pl ((bl s).drop (i+1))=true
theorem agk {s:ByteArray}(h:pl (bl s)=true):aak s=(em,s,true):=by
 rcases adT s with ⟨h1,h2⟩ | ⟨i,h1,h2,h3,h4⟩
 · unfold aak;rw[if_pos h1,if_pos h]
 · rw[h3,amA] at h;exact absurd h (by simp)
theorem aiL (L:List Nat)(i j:Nat)(h:i < j)(hj:j≤L.length)(he:L.getD i 0=58):58∈L.take j:=by
 rw[List.getD_eq_getElem?_getD,List.getElem?_eq_getElem (by omega)] at he;have he':L[i]'(by omega)=58:=he;rw[← he'];exact List.mem_iff_getElem.2 ⟨i,by simp;omega,by simp⟩
theorem aji {s:ByteArray}{i:Nat}(h:Hit s i):aak s=(s.extract 0 i,s.extract (i+1) s.size,true):=by
 obtain⟨g1,g2,g3,g4⟩:=h;rcases adT s with ⟨h1,h2⟩ | ⟨j,h1,h2,h3,h4⟩
 · refine absurd (List.mem_of_mem_take (aiL (bl s) i (i+1) (by omega) (by rw[aau];omega) g2)) h2
 · have hij:i=j:=by
    rcases Nat.lt_trichotomy i j with h | h | h
    · exact absurd (aiL (bl s) i j h (by rw[aau];omega) g2) h4
    · exact h
    · have hj:(bl s).getD j 0=58:=by
       rw[h3,List.getD_eq_getElem?_getD,List.getElem?_append_right (by simp;omega)];simp[aau];rw[Nat.min_eq_left (by omega),Nat.sub_self];rfl
      rw[a3X _ (aiL (bl s) j i h (by rw[aau];omega) hj)] at g3;exact absurd g3 (by simp)
   subst hij;unfold aak;rw[if_neg (by rw[h1];omega),h1,Int.toNat_natCast,aqP,akv,if_pos ⟨g3,g4⟩]
theorem alK {s:ByteArray}(h:pl (bl s)=false)(hn:∀ i,i < s.size→¬ Hit s i):aak s=(em,em,false):=by
 rcases adT s with ⟨h1,h2⟩ | ⟨j,h1,h2,h3,h4⟩
 · unfold aak;rw[if_pos h1,h];rfl
 · have hj:(bl s).getD j 0=58:=by
    rw[h3,List.getD_eq_getElem?_getD,List.getElem?_append_right (by simp;omega)];simp[aau];rw[Nat.min_eq_left (by omega),Nat.sub_self];rfl
   unfold aak;rw[if_neg (by rw[h1];omega),h1,Int.toNat_natCast,aqP,akv,if_neg];rintro ⟨g3,g4⟩;exact hn j h2 ⟨h2,hj,g3,g4⟩
end Go.Proofs.YtiaebhomfebagaaGreatDoor.Nz
namespace Go.Proofs.YtiaebhomfebagaaGreatDoor
structure Tk where
 kind:Int
 text:List Int
 empty:Bool
 blank:Bool
def T0:Tk:=⟨0,[],false,false⟩
def a4I (l:List Int):List Nat:=l.map Int.toNat
def plB (l:List Int):Bool:=Nz.pl (a4I l)
def nmB (l:List Int):Bool:=(Nz.aak (strOfNums l)).2.2
def quo (q:Int):Prop:=q=34∨q=39
instance (q:Int):Decidable (quo q):=inferInstanceAs (Decidable (q=34∨q=39))
def agh (q:Int)(r:List Int)(ok:List Int→Bool):Option (List Int):=
 match fnd [q] r with
 | none=>none
 | some n=>if ok (r.take n)=true then some (r.drop (n+1)) else none
def agS (l key:List Int)(ok:List Int→Bool):Option (List Int):=
 if (l.dropWhile aaZ).length=l.length then none
 else if (key++[61]).isPrefixOf (l.dropWhile aaZ)=true then
  match (l.dropWhile aaZ).drop (key.length+1) with
  | []=>none
  | q :: r=>if quo q then agh q r ok else none
 else none
def orF (x:Option (List Int))(d:List Int):List Int:=match x with | some r=>r | none=>d
def aeC:List Int:=[118,101,114,115,105,111,110]
def acE:List Int:=[101,110,99,111,100,105,110,103]
def acg:List Int:=[115,116,97,110,100,97,108,111,110,101]
def abO (l:List Int):Bool:=decide (l=[49,46,48])
def abp (l:List Int):Bool:=decide (abz l=[117,116,102,45,56])
def aaP (l:List Int):Bool:=decide (l=[121,101,115]∨l=[110,111])
def a6c (l:List Int):Bool:=(orF (agS l acg aaP) l).all aaZ
def a6x (l:List Int):Bool:=a6c (orF (agS l acE abp) l)
def a3p (l:List Int):Bool:=match agS l aeC abO with | none=>false | some r=>a6x r
def azp:List Int:=[120,109,108]
def arJ (l:List Int):Bool:=azp.isPrefixOf l && a3p (l.drop 3)
def afC (l:List Int):Tk × Int:=(⟨3,acU l,false,false⟩,0)
def adj (l:List Int):Tk × Int:=if (fnd [45,45] l).isSome=true∨l.getLast?=some 45 then (T0,6) else (⟨4,l,false,false⟩,0)
def tgt (l:List Int):List Int:=l.takeWhile fun c=> !aaZ c
def afv (z:Bool)(l:List Int):Tk × Int:=
 if plB (tgt l)=false then (T0,4) else if abz (tgt l)=azp∧(z=false∨arJ l=false) then (T0,12) else (⟨5,l,false,false⟩,0)
def akg (l:List Int):Tk × Int:=if nmB (aeW l)=false then (T0,4) else (⟨2,aeW l,false,false⟩,0)
def abk (l:List Int):Tk × Int:=
 if (60:Int)∈l then (T0,6) else if l.getLast?=some 47 then (⟨1,l.dropLast,true,false⟩,0) else (⟨1,l,false,false⟩,0)
def fin (b n m:Nat)(rd:List Int→Tk × Int)(r:List Int):Tk × Nat × Int:=
 if abh (r.take (n+m))≠0 then (T0,0,abh (r.take (n+m))) else if (rd (r.take n)).2≠0 then (T0,0,(rd (r.take n)).2) else ((rd (r.take n)).1,b+(n+m),0)
def span (b:Nat)(stop:List Int)(rd:List Int→Tk × Int)(l:List Int):Tk × Nat × Int:=
 match fnd stop (l.drop b) with
 | none=>(T0,0,7)
 | some n=>fin b n stop.length rd (l.drop b)
def adW (l:List Int):Tk × Nat × Int:=
 match unq 0 (l.drop 1) with
 | none=>(T0,0,7)
 | some n=>fin 1 n 1 abk (l.drop 1)
def aaw:List Int:=[60,33,91,67,68,65,84,65,91]
def abe:List Int:=[60,33,45,45]
def aeE:List Int:=[60,33,68,79,67,84,89,80,69]
def aci:List Int:=[60,33]
def acA:List Int:=[60,63]
def ajh:List Int:=[60,47]
def agp:List Int:=[93,93,62]
def avx:List Int:=[45,45,62]
def atA:List Int:=[63,62]
def a2b:List Int:=[62]
def adU (z:Bool)(l:List Int):Tk × Nat × Int:=
 if aaw.isPrefixOf l=true then span 9 agp afC l
 else if abe.isPrefixOf l=true then span 4 avx adj l
 else if acA.isPrefixOf l=true then span 2 atA (afv z) l
 else if ajh.isPrefixOf l=true then span 2 a2b akg l
 else if aci.isPrefixOf l=true then
  (if aeE.isPrefixOf l=true then (T0,0,12) else if l.isPrefixOf aaw=true∨l.isPrefixOf abe=true∨l.isPrefixOf aeE=true then (T0,0,7) else (T0,0,6))
 else adW l
def ach (l:List Int)(n:Nat):Tk × Nat × Int:=
 if abh (l.take n)≠0 then (T0,0,abh (l.take n)) else if (fnd agp (l.take n)).isSome=true then (T0,0,6)
 else if (acF false (l.take n)).2.2≠0 then (T0,0,(acF false (l.take n)).2.2) else (⟨3,(acF false (l.take n)).1,false,(l.take n).all aaZ⟩,n,0)
def afx (more:Bool)(l:List Int):Tk × Nat × Int:=
 match fnd [60] l with
 | some n=>ach l n
 | none=>if more=true then (T0,0,7) else ach l l.length
def aaT (z more:Bool)(l:List Int):Tk × Nat × Int:=
 if l=[] then (if more=true then (T0,0,7) else (⟨6,[],false,false⟩,0,0)) else if l.getD 0 0=60 then adU z l else afx more l
theorem a2X (b n m:Nat)(rd:List Int→Tk × Int)(r:List Int)(h:(fin b n m rd r).2.2=0):(fin b n m rd r).2.1=b+(n+m):=by
 unfold fin at *;split at h
 · rename_i h1;exact absurd h h1
 · rename_i h1;rw[if_neg h1];split at h
   · rename_i h2;exact absurd h h2
   · rename_i h2;rw[if_neg h2]
theorem a5k (b n m:Nat)(rd:List Int→Tk × Int)(r:List Int)(h:(fin b n m rd r).2.2≠0):(fin b n m rd r).1=T0∧(fin b n m rd r).2.1=0:=by
 unfold fin at *;split at h
 · rename_i h1;rw[if_pos h1];exact⟨rfl,rfl⟩
 · rename_i h1;rw[if_neg h1];split at h
   · rename_i h2;rw[if_pos h2];exact⟨rfl,rfl⟩
   · rename_i h2;exact absurd rfl h
structure Fit (l:List Int)(x:Tk × Nat × Int):Prop where
 zero:x.2.2≠0→x.1=T0∧x.2.1=0
 size:x.2.2=0→1≤x.2.1∧x.2.1≤l.length∧x.1.kind≠6∧1≤x.1.kind∧x.1.kind≤6
theorem acY (l:List Int)(e:Int)(he:e≠0):Fit l (T0,0,e):=⟨fun _=>⟨rfl,rfl⟩,fun h=>absurd h he⟩
def Kd (rd:List Int→Tk × Int):Prop:=∀ l,(rd l).2=0→(rd l).1.kind≠6∧1≤(rd l).1.kind∧(rd l).1.kind≤6
theorem aqf (b n m:Nat)(rd:List Int→Tk × Int)(r l:List Int)(hk:Kd rd)(hb:1≤b)(h:b+(n+m)≤l.length):Fit l (fin b n m rd r):=by
 refine⟨a5k b n m rd r,fun h0=> ?_⟩;have h1:=a2X b n m rd r h0;refine⟨by omega,by omega,?_⟩;unfold fin at h0 ⊢;split at h0
 · rename_i h1;exact absurd h0 h1
 · rename_i h1;rw[if_neg h1];split at h0
   · rename_i h2;exact absurd h0 h2
   · rename_i h2;rw[if_neg h2];exact hk _ (by simpa using h2)
theorem afY (b:Nat)(stop:List Int)(rd:List Int→Tk × Int)(l:List Int)(hk:Kd rd)(hb:1≤b)(hl:b≤l.length):Fit l (span b stop rd l):=by
 unfold span;split
 · exact acY l 7 (by omega)
 · rename_i n hn;have:=(acu hn).1;rw[List.length_drop] at this;exact aqf b n _ rd _ l hk hb (by omega)
theorem azF:Kd afC:=fun l h=>by simp[afC]
theorem ayH:Kd adj:=fun l h=>by
 unfold adj at *;split at h
 · simp at h
 · rename_i h1;rw[if_neg h1];simp
theorem azM (z:Bool):Kd (afv z):=fun l h=>by
 unfold afv at *;split at h
 · simp at h
 · rename_i h1;rw[if_neg h1];split at h
   · simp at h
   · rename_i h2;rw[if_neg h2];simp
theorem a4k:Kd akg:=fun l h=>by
 unfold akg at *;split at h
 · simp at h
 · rename_i h1;rw[if_neg h1];simp
theorem atZ:Kd abk:=fun l h=>by
 unfold abk at *;split at h
 · simp at h
 · rename_i h1;rw[if_neg h1];split <;> simp
theorem apl (l:List Int):Fit l (adW l):=by
 unfold adW;split
 · exact acY l 7 (by omega)
 · rename_i n hn;have:=(akU _ _ n [] hn).2;rw[List.length_drop] at this;exact aqf 1 n 1 abk _ l atZ (by omega) (by omega)
theorem agE {p l:List Int}(h:p.isPrefixOf l=true):p.length≤l.length:=(List.isPrefixOf_iff_prefix.1 h).length_le
theorem awG (z:Bool)(l:List Int):Fit l (adU z l):=by
 unfold adU;split
 · rename_i h;exact afY 9 agp afC l azF (by omega) (agE h)
 · split
   · rename_i h;exact afY 4 avx adj l ayH (by omega) (agE h)
   · split
     · rename_i h;exact afY 2 atA _ l (azM z) (by omega) (agE h)
     · split
       · rename_i h;exact afY 2 a2b akg l a4k (by omega) (agE h)
       · split
         · split
           · exact acY l 12 (by omega)
           · split
             · exact acY l 7 (by omega)
             · exact acY l 6 (by omega)
         · exact apl l
theorem ajz (l:List Int)(n:Nat)(h1:1≤n)(h2:n≤l.length):Fit l (ach l n):=by
 unfold ach;split
 · rename_i h;exact acY l _ h
 · split
   · exact acY l 6 (by omega)
   · split
     · rename_i h;exact acY l _ h
     · exact⟨fun h=>absurd rfl h,fun _=>⟨h1,h2,by simp⟩⟩
theorem avZ {l:List Int}{n:Nat}(h:l.getD 0 0≠60)(hn:fnd [60] l=some n):1≤n:=by
 obtain⟨h1,h2,h3⟩:=acu hn
 cases n with
 | zero=>
   simp only[List.length_singleton] at h1;exact absurd ((occ_one 60 l 0 (by omega)).1 h2) h
 | succ n=>omega
theorem agx (z more:Bool)(l:List Int)(hl:l≠[]):Fit l (aaT z more l):=by
 unfold aaT;rw[if_neg hl];split
 · exact awG z l
 · rename_i h;unfold afx;split
   · rename_i n hn;have h1:=(acu hn).1;simp only[List.length_singleton] at h1;exact ajz l n (avZ h hn) (by omega)
   · split
     · exact acY l 7 (by omega)
     · exact ajz l l.length (List.length_pos_iff.2 hl) (Nat.le_refl _)
end Go.Proofs.YtiaebhomfebagaaGreatDoor
namespace Go.Proofs.YtiaebhomfebagaaGreatDoor
theorem amL {l p:List Int}(h:l.isPrefixOf p=true):l=p.take l.length∧l.length≤p.length:=
 ⟨List.prefix_iff_eq_take.1 (List.isPrefixOf_iff_prefix.1 h),agE h⟩
def acp (z:Bool)(l:List Int):Tk × Nat × Int:=
 if aaw.isPrefixOf l=true then span 9 agp afC l else if l.isPrefixOf aaw=true then (T0,0,7)
 else if abe.isPrefixOf l=true then span 4 avx adj l else if l.isPrefixOf abe=true then (T0,0,7)
 else if aeE.isPrefixOf l=true then (T0,0,12) else if l.isPrefixOf aeE=true then (T0,0,7)
 else if aci.isPrefixOf l=true then (T0,0,6) else if l.isPrefixOf aci=true then (T0,0,7)
 else if acA.isPrefixOf l=true then span 2 atA (afv z) l else if l.isPrefixOf acA=true then (T0,0,7)
 else if ajh.isPrefixOf l=true then span 2 a2b akg l else if l.isPrefixOf ajh=true then (T0,0,7)
 else adW l
theorem apt (z:Bool)(l:List Int)(hl:l.getD 0 0=60):acp z l=adU z l:=by
 match l,hl with
 | [],hl=>simp at hl
 | [c],hl=>
   have:c=60:=(by simpa using hl);subst this;rfl
 | c :: d :: r,hl=>
   have:c=60:=(by simpa using hl);subst this;unfold acp adU;by_cases h3:d=33
   · subst h3;have e1:acA.isPrefixOf (60 :: 33 :: r)=false:=(by simp[acA,List.isPrefixOf]);have e2:ajh.isPrefixOf (60 :: 33 :: r)=false:=(by simp[ajh,List.isPrefixOf]);have e3:aci.isPrefixOf (60 :: 33 :: r)=true:=(by simp[aci,List.isPrefixOf]);simp only[e1,e2,e3,Bool.false_eq_true,if_false,if_true];by_cases c1:aaw.isPrefixOf (60 :: 33 :: r)=true
     · simp only[if_pos c1]
     simp only[if_neg c1];by_cases c2:(60 :: 33 :: r).isPrefixOf aaw=true
     · have c3:¬ abe.isPrefixOf (60 :: 33 :: r)=true:=fun g=>by
        have:=(List.isPrefixOf_iff_prefix.1 g).trans (List.isPrefixOf_iff_prefix.1 c2);exact absurd (List.isPrefixOf_iff_prefix.2 this) (by decide)
       have c4:¬ aeE.isPrefixOf (60 :: 33 :: r)=true:=fun g=>by
        have:=(List.isPrefixOf_iff_prefix.1 g).trans (List.isPrefixOf_iff_prefix.1 c2);exact absurd (List.isPrefixOf_iff_prefix.2 this) (by decide)
       simp only[if_pos c2,if_neg c3,if_neg c4,if_pos (Or.inl c2)]
     simp only[if_neg c2];by_cases c3:abe.isPrefixOf (60 :: 33 :: r)=true
     · simp only[if_pos c3]
     simp only[if_neg c3];by_cases c4:(60 :: 33 :: r).isPrefixOf abe=true
     · have c5:¬ aeE.isPrefixOf (60 :: 33 :: r)=true:=fun g=>by
        have:=(List.isPrefixOf_iff_prefix.1 g).trans (List.isPrefixOf_iff_prefix.1 c4);exact absurd (List.isPrefixOf_iff_prefix.2 this) (by decide)
       simp only[if_pos c4,if_neg c5,c2,c4,Bool.false_eq_true,true_or,or_true,if_true]
     simp only[if_neg c4];by_cases c5:aeE.isPrefixOf (60 :: 33 :: r)=true
     · simp only[if_pos c5]
     simp only[if_neg c5];by_cases c6:(60 :: 33 :: r).isPrefixOf aeE=true
     · simp only[if_pos c6,c6,or_true,if_true]
     · simp only[if_neg c6,c2,c4,c6,Bool.false_eq_true,or_self,if_false]
   · have f1:aaw.isPrefixOf (60 :: d :: r)=false:=by simp[aaw,List.isPrefixOf];omega
     have f2:abe.isPrefixOf (60 :: d :: r)=false:=by simp[abe,List.isPrefixOf];omega
     have f3:aeE.isPrefixOf (60 :: d :: r)=false:=by simp[aeE,List.isPrefixOf];omega
     have f4:aci.isPrefixOf (60 :: d :: r)=false:=by simp[aci,List.isPrefixOf];omega
     have g1:(60 :: d :: r).isPrefixOf aaw=false:=(by simp[aaw,List.isPrefixOf,h3]);have g2:(60 :: d :: r).isPrefixOf abe=false:=(by simp[abe,List.isPrefixOf,h3]);have g3:(60 :: d :: r).isPrefixOf aeE=false:=(by simp[aeE,List.isPrefixOf,h3]);have g4:(60 :: d :: r).isPrefixOf aci=false:=(by simp[aci,List.isPrefixOf,h3]);simp only[f1,f2,f3,f4,g1,g2,g3,g4,Bool.false_eq_true,if_false];by_cases c1:acA.isPrefixOf (60 :: d :: r)=true
     · simp only[if_pos c1]
     have n1:(60 :: d :: r).isPrefixOf acA=false:=by
      cases hq:(60 :: d :: r).isPrefixOf acA with
      | false=>rfl
      | true=>
        exfalso;apply c1;have h5:=amL hq
        have h6:r=[]:=by
         have:=h5.2;simp[acA] at this;exact this
        subst h6;simp only[acA,List.isPrefixOf,Bool.and_true] at hq ⊢;simp at hq ⊢;exact hq.symm
     simp only[if_neg c1,n1,Bool.false_eq_true,if_false];by_cases c2:ajh.isPrefixOf (60 :: d :: r)=true
     · simp only[if_pos c2]
     have n2:(60 :: d :: r).isPrefixOf ajh=false:=by
      cases hq:(60 :: d :: r).isPrefixOf ajh with
      | false=>rfl
      | true=>
        exfalso;apply c2;have h5:=amL hq
        have h6:r=[]:=by
         have:=h5.2;simp[ajh] at this;exact this
        subst h6;simp only[ajh,List.isPrefixOf,Bool.and_true] at hq ⊢;simp at hq ⊢;exact hq.symm
     simp only[if_neg c2,n2,Bool.false_eq_true,if_false]
def nx (L:List Int)(a:Nat):Tk × Nat × Int:=aaT (decide (a=0)) false (L.drop a)
theorem alI (L:List Int)(a:Nat)(h:L.length≤a):nx L a=(⟨6,[],false,false⟩,0,0):=by
 unfold nx;rw[List.drop_of_length_le h];rfl
theorem ahh (L:List Int)(a:Nat)(h:a < L.length):Fit (L.drop a) (nx L a):=by
 refine agx _ _ _ fun e=> ?_;have:=congrArg List.length e;rw[List.length_drop,List.length_nil] at this;omega
theorem asj (L:List Int)(a:Nat)(h:(nx L a).2.2=0):(nx L a).1.kind=6↔L.length≤a:=by
 rcases Nat.lt_or_ge a L.length with g | g
 · have:=((ahh L a g).size h).2.2.1;exact⟨fun e=>absurd e this,fun e=>by omega⟩
 · rw[alI L a g];exact⟨fun _=>g,fun _=>rfl⟩
end Go.Proofs.YtiaebhomfebagaaGreatDoor
namespace Go.Proofs.YtiaebhomfebagaaGreatDoor
open Go.RowKit
def afD (k:Nat):Int:=if 65≤k∧k≤90 then k+32 else if k=107 then 8490 else if k=115 then 383 else if 97≤k∧k≤122 then k - 32 else k
structure Gl (w:World):Prop where
 vars:Vars w
 size:11≤w.heap.size
 max:∃ m,w.cell? ⟨0,0,none⟩=some (.int .i64 m)
 tabs:Lib.Utf8Tabs 5 6 w
 fold:∀ k,k < 128→w.cell? ⟨1,k,none⟩=some (.int .u16 (afD k))
theorem Gl.keep {w w':World}{B:Nat}(h:Gl w)(hb:Below B w w')(hB:11≤B):Gl w':=by
 refine⟨h.vars.keep hb (by omega),Nat.le_trans h.size hb.size,?_,⟨fun c hc=> ?_,fun i hi=>⟨?_,?_⟩⟩,fun k hk=> ?_⟩
 · obtain⟨m,hm⟩:=h.max;exact⟨m,(hb.cell (p:=⟨0,0,none⟩) (show 0 < B by omega)).trans hm⟩
 · exact(hb.cell (p:=⟨5,c,none⟩) (show 5 < B by omega)).trans (h.tabs.1 c hc)
 · exact(hb.cell (p:=⟨6,2 * i,none⟩) (show 6 < B by omega)).trans (h.tabs.2 i hi).1
 · exact(hb.cell (p:=⟨6,2 * i+1,none⟩) (show 6 < B by omega)).trans (h.tabs.2 i hi).2
 · exact(hb.cell (p:=⟨1,k,none⟩) (show 1 < B by omega)).trans (h.fold k hk)
theorem Gl.after {w w':World}(h:Gl w)(hb:Below w.heap.size w w'):Gl w':=h.keep hb h.size
theorem Gl.alloc {w:World}(h:Gl w)(o:Obj):Gl (w.alloc o):=h.after ((Below.refl _ w).alloc (Nat.le_refl _) o)
theorem Gl.drew {w:World}(h:Gl w):Gl w.drew:=h.after (Below.refl _ w).drew
theorem a4P {a b:UInt8}(h:(a.toNat:Int)=(b.toNat:Int)):a=b:=UInt8.toNat_inj.1 (by omega)
theorem aiq:∀ (p l:List UInt8),(p.map fun b=>(b.toNat:Int)).isPrefixOf (l.map fun b=>(b.toNat:Int))=p.isPrefixOf l
 | [],l=>by simp[List.isPrefixOf]
 | a :: p,[]=>by simp[List.isPrefixOf]
 | a :: p,b :: l=>by
   simp only[List.map_cons,List.isPrefixOf,aiq p l]
   congr 1
   rw[Bool.eq_iff_iff];simp only[beq_iff_eq];exact⟨a4P,fun h=>by rw[h]⟩
theorem aiX (m:List UInt8):∀ (l:List UInt8),Lib.index l m=ahD (m.map fun b=>(b.toNat:Int)) (l.map fun b=>(b.toNat:Int))
 | []=>by
   cases m with
   | nil=>rfl
   | cons a b=>simp[Lib.index,ahD,fnd]
 | c :: l=>by
   have ih:=aiX m l;have hp:=aiq m (c :: l);simp only[List.map_cons] at hp ⊢;unfold Lib.index;by_cases h:m.isPrefixOf (c :: l)=true
   · rw[if_pos h];rw[h] at hp;unfold ahD fnd;rw[if_pos hp];rfl
   · rw[if_neg h,ih];rw[Bool.eq_false_iff.2 h] at hp;generalize (m.map fun b=>(b.toNat:Int))=M at *;generalize (l.map fun b=>(b.toNat:Int))=L at *;generalize (c.toNat:Int)=x at *;have hc:fnd M (x :: L)=(fnd M L).map (· +1):=by rw[fnd,if_neg (by rw[hp];simp)]
     cases hf:fnd M L with
     | none=>
       rw[acB hf,acB (by rw[hc,hf];rfl)];simp
     | some n=>
       rw[acd hf,acd (n:=n+1) (by rw[hc,hf];rfl)];have:(((n:Nat):Int) == -1)=false:=by rw[beq_eq_false_iff_ne];omega
       simp[this]
theorem adP (s m:ByteArray):Lib.index s.data.toList m.data.toList=ahD (aad m) (aad s):=aiX _ _
theorem aiF (s m:ByteArray):Lib.contains s.data.toList m.data.toList=(fnd (aad m) (aad s)).isSome:=by
 unfold Lib.contains;rw[adP];unfold ahD;cases fnd (aad m) (aad s) <;> simp
theorem ajM (s m:ByteArray)(w:World)(hs:s.size≤4000000000)(hG:Gl w):Calls Tryz.prog 69 #[.string s,.string m] w fun e w'=>e=.returned (.int .i64 (ahD (aad m) (aad s)))∧w=w':=by
 obtain⟨k,hk⟩:=hG.max;refine(Tryz.strings_Index s m k w (by omega) hk).mono ?_;rintro e w' ⟨rfl,rfl⟩;exact⟨by rw[adP],rfl⟩
theorem aen (s m:ByteArray)(w:World)(hs:s.size≤4000000000)(hG:Gl w)(b:Bool)(hb:(fnd (aad m) (aad s)).isSome=b):Calls Tryz.prog 71 #[.string s,.string m] w fun e w'=>e=.returned (.bool b)∧w=w':=by
 obtain⟨k,hk⟩:=hG.max;refine(Tryz.strings_Contains s m k w (by omega) hk).mono ?_;rintro e w' ⟨rfl,rfl⟩;exact⟨by rw[aiF,hb],rfl⟩
theorem afn (l:List UInt8):aad ⟨l.toArray⟩=l.map fun b=>(b.toNat:Int):=by simp[aad]
theorem arC (p l:List UInt8):(p.map fun b=>(b.toNat:Int)).isSuffixOf (l.map fun b=>(b.toNat:Int))=p.isSuffixOf l:=by
 unfold List.isSuffixOf;rw[← List.map_reverse,← List.map_reverse,aiq]
theorem aqX (l:List Int)(c:Int):[c].isSuffixOf l=decide (l.getLast?=some c):=by
 unfold List.isSuffixOf;rw[List.getLast?_eq_head?_reverse]
 cases l.reverse with
 | nil=>simp[List.isPrefixOf]
 | cons a b=>
   rw[Bool.eq_iff_iff];simp[List.isPrefixOf];exact eq_comm
theorem ahl (s:ByteArray)(c:UInt8)(w:World)(hs:s.size≤1000000000000)(b:Bool)(hb:decide ((aad s).getLast?=some (c.toNat:Int))=b):Calls Tryz.prog 111 #[.string s,.string ⟨#[c]⟩] w fun e w'=>e=.returned (.bool b)∧w=w':=by
 refine(Tryz.strings_HasSuffix s ⟨#[c]⟩ w (by omega)).mono ?_;rintro e w' ⟨rfl,rfl⟩;refine⟨?_,rfl⟩;rw[← hb,← aqX];unfold Lib.hasSuffix;rw[← arC];rfl
theorem ahn (s:ByteArray)(c:UInt8)(w:World)(hs:s.size≤1000000000000)(b:Bool)(hb:decide ((aad s).getLast?=some (c.toNat:Int))=b):
 Calls Tryz.prog 117 #[.string s,.string ⟨#[c]⟩] w fun e w'=>e=.returned (.tuple #[.string (if b=true then strOfNums (aad s).dropLast else s),.bool b])∧w=w':=by
 refine(Tryz.strings_CutSuffix s ⟨#[c]⟩ w (by omega)).mono ?_;rintro e w' ⟨rfl,rfl⟩
 have h1:Lib.hasSuffix s.data.toList [c]=b:=by
  rw[← hb,← aqX];unfold Lib.hasSuffix;rw[← arC];rfl
 have h1':Lib.hasSuffix s.data.toList (ByteArray.mk #[c]).data.toList=b:=h1;refine⟨?_,rfl⟩;rw[h1']
 have h2:(⟨(Lib.trimSuffix s.data.toList (ByteArray.mk #[c]).data.toList).toArray⟩:ByteArray)=if b=true then strOfNums (aad s).dropLast else s:=by
  unfold Lib.trimSuffix;rw[h1']
  cases b with
  | true=>
    simp only[if_true];refine aas ?_;rw[afn,List.map_take,List.dropLast_eq_take]
    congr 1
    simp[aad]
  | false=>
    simp
 rw[h2]
end Go.Proofs.YtiaebhomfebagaaGreatDoor
namespace Go.Proofs.YtiaebhomfebagaaGreatDoor
open Go.ChangeShapes Go.WideShapes Go.ChangeAt Go.RowKit
open Go.Lib (VarReads)
theorem own:ownKnob Tryz.prog.godebug=none:=by kernel_rfl
def adg:List (String × DataW Unit):=Rows.seriDocsRow.laid
theorem avD:Rows.laid_unicode_utf8_first=Go.Lib.firstData:=by kernel_rfl
theorem arY:(Rows.laid_unicode_utf8_acceptRanges:DataW Unit)=Go.Lib.acceptData:=by kernel_rfl
theorem fold_eq:(Rows.laid_unicode_asciiFold:DataW Unit)=Go.Lib.tabData .u16 ((List.range 128).map afD):=by kernel_rfl
theorem aee {W:World}{n:String}{d:DataW Unit}(h:VarReads Tryz.prog W n d){g t:Nat}(hg:Tryz.prog.globalNamed n=some g)(ht:(Tryz.prog.globals[g]?).map (·.type)=some t):
 ∃ (cs:Array Value) (fuel:Nat) (p:List MemPlace),(∀ j,W.cell? ⟨g,j,none⟩=cs[j]?)∧DataW.trod (fun _=>()) Tryz.prog W 0 (fun _=>true) false fuel t cs.toList=some (d,p):=by
 obtain⟨g',t',cs,fuel,p,h1,h2,h3,h4⟩:=h;obtain rfl:=Option.some.inj (hg.symm.trans h1);obtain rfl:=Option.some.inj (ht.symm.trans h2);exact⟨cs,fuel,p,fun j=>World.var?_cell h1 h3 j,h4⟩
theorem amV {W:World}{n:String}{d:DataW Unit}(h:VarReads Tryz.prog W n d){g:Nat}(hg:Tryz.prog.globalNamed n=some g)(ht:(Tryz.prog.globals[g]?).map (·.type)=some 86)(s:String)(d':DataW Unit)(hd:d=.iface s d'):
 ∃ t p,W.cell? ⟨g,0,none⟩=some (.iface t p):=by
 subst hd;obtain⟨cs,fuel,p,hc,htr⟩:=aee h hg ht;obtain⟨_,u,v,e,_⟩:=iface_of_trod Tryz.underlying86 htr;refine⟨u,v,?_⟩;rw[hc 0,Array.eq_one_of_toList e];rfl
theorem ajv {W:World}{n:String}{g t e:Nat}{k:IntKind}{m:Nat}{zs:List Int}(h:VarReads Tryz.prog W n (Go.Lib.tabData k zs))(hg:Tryz.prog.globalNamed n=some g)(ht:(Tryz.prog.globals[g]?).map (·.type)=some t)
 (hu:Tryz.prog.underlying t=some (.array m e)) (he:Tryz.prog.underlying e=some (.int k)) (hce:Tryz.prog.cellsOf e=1) (hct:Tryz.prog.cellsOf t=m) (j:Nat):W.cell? ⟨g,j,none⟩=(zs.map fun z=>Value.int k z)[j]?:=by
 obtain⟨cs,fuel,p,hc,htr⟩:=aee h hg ht;have:=Go.Lib.cells_of_tab hu he hce hct htr;rw[hc j,← Array.getElem?_toList,this]
theorem aqu {W:World}(h:VarReads Tryz.prog W "unicode/utf8.acceptRanges" Go.Lib.acceptData)(i:Nat)(hi:i < 16):
 W.cell? ⟨6,2 * i,none⟩=some (.int .u8 (Lib.accLo i:Int))∧W.cell? ⟨6,2 * i+1,none⟩=some (.int .u8 (Lib.accHi i:Int)):=by
 obtain⟨cs,fuel,p,hc,htr⟩:=aee h (g:=6) (t:=247) (by kernel_rfl) (by kernel_rfl);obtain⟨fuel',d,q,hdi,he⟩:=Go.Lib.array_elem Tryz.underlying247 htr i hi;simp only[List.getElem?_map,List.getElem?_range hi,Option.map_some,Option.some.injEq] at hdi;subst hdi;have c2:Tryz.prog.cellsOf 246=2:=(by kernel_rfl);have c1:Tryz.prog.cellsOf 5=1:=(by kernel_rfl);rw[c2] at he
 have hcs:=Go.Lib.ints_of_struct Tryz.underlying246 (fun j f hj=>by
  match j,hj with
  | 0,hj=>simp at hj;subst hj;exact⟨Tryz.underlying5,rfl,c1⟩
  | 1,hj=>simp at hj;subst hj;exact⟨Tryz.underlying5,rfl,c1⟩
  | j+2,hj=>simp at hj) (by rw[c2];rfl) he
 have e0:=congrArg (·[0]?) hcs;have e1:=congrArg (·[1]?) hcs;simp only[List.getElem?_take,List.getElem?_drop] at e0 e1;constructor
 · rw[hc (2 * i),← Array.getElem?_toList]
   simpa [Nat.mul_comm] using e0
 · rw[hc (2 * i+1),← Array.getElem?_toList]
   simpa [Nat.mul_comm] using e1
theorem azw {W:World}(hL:laidMetH Tryz.prog adg W)(hS:W.ShapedOpen Tryz.prog):Gl W:=by
 rw[MakeChecks.laidMetH_plain _ _ _ (by kernel_rfl)] at hL;have rd:∀ n d,(n,d)∈adg→VarReads Tryz.prog W n d:=fun n d h=>Go.Lib.laidMet.reads hL h;have r1:=rd "unicode.asciiFold" Rows.laid_unicode_asciiFold (by unfold adg Rows.seriDocsRow;simp);have r4:=rd "unicode/utf8.first" Rows.laid_unicode_utf8_first (by unfold adg Rows.seriDocsRow;simp);have r5:=rd "unicode/utf8.acceptRanges" Rows.laid_unicode_utf8_acceptRanges (by unfold adg Rows.seriDocsRow;simp);have r6:=rd "strconv.ErrSyntax" Rows.laid_strconv_ErrSyntax (by unfold adg Rows.seriDocsRow;simp);have r7:=rd "strconv.ErrRange" Rows.laid_strconv_ErrRange (by unfold adg Rows.seriDocsRow;simp);rw[fold_eq] at r1;rw[avD] at r4;rw[arY] at r5;have c6:=amV r6 (g:=9) (by kernel_rfl) (by kernel_rfl) _ _ rfl;have c7:=amV r7 (g:=10) (by kernel_rfl) (by kernel_rfl) _ _ rfl
 have hz:11≤W.heap.size:=by
  obtain⟨_,_,hu⟩:=c7;exact Lib.lt_of_cell hu
 refine⟨⟨by omega,c6,c7⟩,hz,cell_of_shapedOpen_int hS (g:=0) (t:=3) (zero:= #[.int .i64 0]) (of_decide_eq_true (by kernel_rfl)) (by kernel_rfl) (by kernel_rfl) (by kernel_rfl) (by kernel_rfl) Tryz.underlying3,⟨fun c hc=> ?_,aqu r5⟩,fun k hk=> ?_⟩
 · have:=ajv r4 (g:=5) (t:=244) (by kernel_rfl) (by kernel_rfl) Tryz.underlying244 Tryz.underlying5 (by kernel_rfl) (by kernel_rfl) c;rw[this];simp[Go.Lib.firstTab,hc]
 · have:=ajv r1 (g:=1) (t:=224) (by kernel_rfl) (by kernel_rfl) Tryz.underlying224 Tryz.underlying223 (by kernel_rfl) (by kernel_rfl) k;rw[this];simp[hk]
end Go.Proofs.YtiaebhomfebagaaGreatDoor
namespace Go.Proofs.YtiaebhomfebagaaGreatDoor.Ev
open Go.Joins Go.ChangeShapes Go.WideShapes Go.RowKit Go.Deep
theorem Tryz.cells28:Tryz.prog.cellsOf 28=2:=by kernel_rfl
theorem Tryz.cells9:Tryz.prog.cellsOf 9=1:=by kernel_rfl
theorem Tryz.cells3:Tryz.prog.cellsOf 3=1:=by kernel_rfl
abbrev P2:=ByteArray × ByteArray
abbrev P3:=P2 × ByteArray
def RdT (w:World)(A:Option Addr)(l:List P3):Prop:=
 ∀ k x,l[k]?=some x→∃ b off,A=some ⟨b,off,none⟩∧b < w.heap.size∧w.cell? ⟨b,off+k * 3,none⟩=some (.string x.1.1)∧w.cell? ⟨b,off+k * 3+1,none⟩=some (.string x.1.2)∧w.cell? ⟨b,off+k * 3+2,none⟩=some (.string x.2)
theorem RdT.keep {w w':World}{A:Option Addr}{l:List P3}(h:RdT w A l)(hb:Below w.heap.size w w'):RdT w' A l:=fun k t hk=>by
 obtain⟨b,o,e,hlt,c0,c1,c2⟩:=h k t hk;exact⟨b,o,e,Nat.lt_of_lt_of_le hlt hb.size,(hb.cell (p:=⟨b,o+k * 3,none⟩) hlt).trans c0,(hb.cell (p:=⟨b,o+k * 3+1,none⟩) hlt).trans c1,(hb.cell (p:=⟨b,o+k * 3+2,none⟩) hlt).trans c2⟩
structure aaC (w:World)(A:Option Addr)(n c:Nat)(l:List P3):Prop where
 len:n=l.length
 lsz:n≤maxLen
 cnt:n≤4398046511104
 xsz:∀ x∈l,x.1.1.size≤maxLen∧x.1.2.size≤maxLen∧x.2.size≤maxLen
 rd:RdT w A l
 nil:A=none→n=0∧c=0
theorem aaC.keep {w w':World}{A:Option Addr}{n c:Nat}{l:List P3}(h:aaC w A n c l)(hb:Below w.heap.size w w'):aaC w' A n c l:=⟨h.len,h.lsz,h.cnt,h.xsz,h.rd.keep hb,h.nil⟩
structure RE where
 kind:Int
 sp:ByteArray
 lo:ByteArray
 ats:List P3
 tx:ByteArray
structure RSz (e:RE):Prop where
 sp:e.sp.size≤maxLen
 lo:e.lo.size≤maxLen
 tx:e.tx.size≤maxLen
def RdV (w:World)(A:Option Addr)(l:List RE):Prop:=
 ∀ k x,l[k]?=some x→∃ b off Aa n c,A=some ⟨b,off,none⟩∧b < w.heap.size∧aaC w Aa n c x.ats∧w.cell? ⟨b,off+k * 5,none⟩=some (.int .i64 x.kind)∧w.cell? ⟨b,off+k * 5+1,none⟩=some (.string x.sp)∧w.cell? ⟨b,off+k * 5+2,none⟩=some (.string x.lo)∧w.cell? ⟨b,off+k * 5+3,none⟩=some (.slice Aa n c)∧w.cell? ⟨b,off+k * 5+4,none⟩=some (.string x.tx)
theorem RdV.keep {w w':World}{A:Option Addr}{l:List RE}(h:RdV w A l)(hb:Below w.heap.size w w'):RdV w' A l:=fun k t hk=>by
 obtain⟨b,o,Aa,n,c,e,hlt,ha,c0,c1,c2,c3,c4⟩:=h k t hk;exact⟨b,o,Aa,n,c,e,Nat.lt_of_lt_of_le hlt hb.size,ha.keep hb,(hb.cell (p:=⟨b,o+k * 5,none⟩) hlt).trans c0,(hb.cell (p:=⟨b,o+k * 5+1,none⟩) hlt).trans c1,(hb.cell (p:=⟨b,o+k * 5+2,none⟩) hlt).trans c2,(hb.cell (p:=⟨b,o+k * 5+3,none⟩) hlt).trans c3,(hb.cell (p:=⟨b,o+k * 5+4,none⟩) hlt).trans c4⟩
structure abd (w:World)(A:Option Addr)(n c:Nat)(l:List RE):Prop where
 len:n=l.length
 lsz:n≤maxLen
 cnt:n≤4398046511104
 xsz:∀ x∈l,RSz x
 rd:RdV w A l
 nil:A=none→n=0∧c=0
 cap:n≤c∧c≤maxLen
theorem abd.keep {w w':World}{A:Option Addr}{n c:Nat}{l:List RE}(h:abd w A n c l)(hb:Below w.heap.size w w'):abd w' A n c l:=⟨h.len,h.lsz,h.cnt,h.xsz,h.rd.keep hb,h.nil,h.cap⟩
end Go.Proofs.YtiaebhomfebagaaGreatDoor.Ev
namespace Go.Proofs.YtiaebhomfebagaaGreatDoor.Ev
open Go.RowKit
structure a5U (x:RE):Prop where
 ats:x.ats.length≤400
 tx:x.tx.size≤300
 lo:x.lo.size≤100
 sp:x.sp.size≤100
 at_:∀ (k:Nat) (y:P3),k < 100→x.ats[k]?=some y→y.1.1.size≤100∧y.1.2.size≤100∧y.2.size≤300
def a3Y (l:List RE)(n:Nat)(w:World)(vn i:Value)(wr:World):Prop:=
 w=wr∧∃ k m:Nat,i=.int .i64 k∧vn=.int .i64 m∧k≤n∧n≤m∧m≤n+k * 4398046511104∧Hid (∀ (j:Nat) (x:RE),j < k→l[j]?=some x→x.ats.length+n≤m∧x.tx.size≤300∧x.lo.size≤100∧x.sp.size≤100∧∀ (q:Nat) (y:P3),q < 100→x.ats[q]?=some y→y.1.1.size≤100∧y.1.2.size≤100∧y.2.size≤300)
end Go.Proofs.YtiaebhomfebagaaGreatDoor.Ev
namespace Go.Proofs.YtiaebhomfebagaaGreatDoor.Ev
open Go.RowKit
theorem abJ (w:World)(T:TypeId)(cs:Array Value):(w.alloc (.cells cs T)).heap[w.heap.size]?=some (.cells cs T (0,0)):=heap_alloc_new w _
theorem aaf {W:World}{b:Nat}{cs:Array Value}{T:TypeId}{fz:Nat × Nat}(h:W.heap[b]?=some (.cells cs T fz))(j:Nat){u:Value}(hu:cs[j]?=some u):W.cell? ⟨b,j,none⟩=some u:=(Lib.cell_of_heap h j).trans hu
theorem cells2 {W:World}{b:Nat}{a0 a1:Value}{T:TypeId}{fz:Nat × Nat}(h:W.heap[b]?=some (.cells #[a0,a1] T fz)):W.cell? ⟨b,0,none⟩=some a0∧W.cell? ⟨b,1,none⟩=some a1:=⟨aaf h 0 rfl,aaf h 1 rfl⟩
theorem cells5 {W:World}{b:Nat}{a0 a1 a2 a3 a4:Value}{T:TypeId}{fz:Nat × Nat}(h:W.heap[b]?=some (.cells #[a0,a1,a2,a3,a4] T fz)):W.cell? ⟨b,0,none⟩=some a0∧W.cell? ⟨b,1,none⟩=some a1∧W.cell? ⟨b,2,none⟩=some a2∧W.cell? ⟨b,3,none⟩=some a3∧W.cell? ⟨b,4,none⟩=some a4:=⟨aaf h 0 rfl,aaf h 1 rfl,aaf h 2 rfl,aaf h 3 rfl,aaf h 4 rfl⟩
def nmF (pL tR:ByteArray→Bool)(x:P2):Bool:=pL x.2 && tR x.2 && tR x.1 && (x.1.toList != [104,116,116,112,58,47,47,119,119,119,46,119,51,46,111,114,103,47,50,48,48,48,47,120,109,108,110,115,47])
def axq (f:Nat)(g:ByteArray→Bool):Prop:=∀ (s:ByteArray) (W:World),s.size≤10000→Calls Tryz.prog f #[.string s] W fun e w'=>e=.returned (.bool (g s))∧Below W.heap.size W w'
end Go.Proofs.YtiaebhomfebagaaGreatDoor.Ev
