/- Lemmas of the claim. -/
import Derived.Test.YtiaebhomfebagaaGreatDoorG20
import Derived.Test.YtiaebhomfebagaaGreatDoorG04
import Derived.Test.YtiaebhomfebagaaGreatDoorG01
import Derived.Test.YtiaebhomfebagaaGreatDoorG05
import Derived.Deep.QuietTactic
import Derived.BigQuiet
set_option maxHeartbeats 4000000
set_option maxRecDepth 100000
set_option linter.unusedSimpArgs false
set_option linter.unusedVariables false
namespace Go.Proofs.YtiaebhomfebagaaGreatDoor
open Go.RowKit
theorem agi (s p:ByteArray):Lib.hasPrefix s.data.toList p.data.toList=(aad p).isPrefixOf (aad s):=(aiq p.data.toList s.data.toList).symm
theorem aht (s p:ByteArray)(w:World)(b:Bool)(h:(aad p).isPrefixOf (aad s)=b):Calls Tryz.prog 68 #[.string s,.string p] w fun e w'=>e=.returned (.bool b)∧w=w':=by
 refine(Tryz.strings_HasPrefix s p w).mono ?_;rintro e w' ⟨rfl,rfl⟩;exact⟨by rw[agi,h],rfl⟩
theorem afj (s p:ByteArray)(w:World)(h:(aad p).isPrefixOf (aad s)=true):Calls Tryz.prog 66 #[.string s,.string p] w fun e w'=>e=.returned (.tuple #[.string (strOfNums ((aad s).drop (aad p).length)),.bool true])∧w=w':=by
 refine(Tryz.strings_CutPrefix s p w).mono ?_;rintro e w' ⟨rfl,rfl⟩;refine⟨?_,rfl⟩;unfold Lib.trimPrefix;rw[agi,h,if_pos rfl]
 have:(⟨(s.data.toList.drop p.data.toList.length).toArray⟩:ByteArray)=strOfNums ((aad s).drop (aad p).length):=by
  refine aas ?_;rw[afn,List.map_drop];unfold aad;rw[List.length_map]
 rw[this]
theorem agl (s p:ByteArray)(w:World)(h:(aad p).isPrefixOf (aad s)=false):Calls Tryz.prog 66 #[.string s,.string p] w fun e w'=>e=.returned (.tuple #[.string s,.bool false])∧w=w':=by
 refine(Tryz.strings_CutPrefix s p w).mono ?_;rintro e w' ⟨rfl,rfl⟩;refine⟨?_,rfl⟩;unfold Lib.trimPrefix;rw[agi,h];simp
theorem auM (t p:ByteArray)(w:World)(ht:t.size≤4000000000)(hG:Gl w)(h:fnd (aad p) (aad t)=none):Calls Tryz.prog 128 #[.string t,.string p] w fun e w'=>e=.returned (.tuple #[.string t,.string ⟨#[]⟩,.bool false])∧Below w.heap.size w w':=by
 obtain⟨m,hm⟩:=hG.max;refine(Tryz.strings_Cut t p m w (by omega) hm).mono ?_;rintro e w' ⟨rfl,n,rfl⟩;refine⟨?_,below_drewNg w n⟩;unfold Lib.cut;rw[adP,acB h,if_neg (by omega)]
theorem aun (t p:ByteArray)(w:World)(ht:t.size≤4000000000)(hG:Gl w)(n:Nat)(h:fnd (aad p) (aad t)=some n):
 Calls Tryz.prog 128 #[.string t,.string p] w fun e w'=>e=.returned (.tuple #[.string (strOfNums ((aad t).take n)),.string (strOfNums ((aad t).drop (n+(aad p).length))),.bool true])∧Below w.heap.size w w':=by
 obtain⟨m,hm⟩:=hG.max;refine(Tryz.strings_Cut t p m w (by omega) hm).mono ?_;rintro e w' ⟨rfl,k,rfl⟩;refine⟨?_,below_drewNg w k⟩;unfold Lib.cut;rw[adP,acd h,if_pos (by omega),Int.toNat_natCast];have e1:(⟨(t.data.toList.take n).toArray⟩:ByteArray)=strOfNums ((aad t).take n):=aas (by rw[afn,List.map_take];rfl);have e2:(⟨(t.data.toList.drop (n+p.data.toList.length)).toArray⟩:ByteArray)=strOfNums ((aad t).drop (n+(aad p).length)):=aas (by rw[afn,List.map_drop];unfold aad;rw[List.length_map]);rw[e1,e2]
def anO (s U:ByteArray):Prop:=∀ W,Calls Tryz.prog 167 #[.string s,.func (.func 59) #[] #[]] W fun e w'=>e=.returned (.string U)∧Below W.heap.size W w'
def asg (U K R:ByteArray)(b:Bool):Prop:=∀ W,Calls Tryz.prog 66 #[.string U,.string K] W fun e w'=>e=.returned (.tuple #[.string R,.bool b])∧W=w'
def acK (r:ByteArray)(b:Bool)(w:World)(e:Ending)(w':World):Prop:=e=.returned (.tuple #[.string r,.bool b])∧Below w.heap.size w w'
theorem a1a (s key U:ByteArray)(g:Nat)(w:World)(hk:key.size≤100)(C1:Hid (anO s U))(C2:Hid (asg U (key++⟨#[61]⟩) U false)):
 Calls Tryz.prog 137 #[.string s,.string key,.func (.func g) #[] #[]] w (acK s false w):=by
 go_enter Tryz.func137,Tryz.ntmps137;go_wp2_with fail;refine(C1.out _).mono ?_;rintro e w1 ⟨rfl,hb1⟩;go_wp2_with fail;refine(C2.out _).mono ?_;rintro e w2 ⟨rfl,rfl⟩;go_wp2_with fail;go_ret2;exact⟨rfl,hb1⟩
theorem apZ (s key U R:ByteArray)(g:Nat)(w:World)(hk:key.size≤100)(he:U.size=s.size∨R.size=0)(C1:Hid (anO s U))(C2:Hid (asg U (key++⟨#[61]⟩) R true)):
 Calls Tryz.prog 137 #[.string s,.string key,.func (.func g) #[] #[]] w (acK s false w):=by
 by_cases h1:U.size=s.size
 · have t1:((U.size:Int) == (s.size:Int))=true:=by rw[beq_iff_eq];omega
   clear he;have H1:=aac h1;clear h1;go_enter Tryz.func137,Tryz.ntmps137;go_wp2_with fail;refine(C1.out _).mono ?_;rintro e w1 ⟨rfl,hb1⟩;go_wp2_with fail;refine(C2.out _).mono ?_;rintro e w2 ⟨rfl,rfl⟩;go_wp2_with fail;go_ret2;exact⟨rfl,hb1⟩
 · have t1:((U.size:Int) == (s.size:Int))=false:=by rw[beq_eq_false_iff_ne];omega
   have hR:R.size=0:=by rcases he with h | h;exact absurd h h1;exact h
   have e1:R.toList.isEmpty=true:=by rw[Nz.isE];exact decide_eq_true hR
   have e2:R.toList=[]:=(by simpa using e1);clear he hR h1;go_enter Tryz.func137,Tryz.ntmps137;go_wp2_with fail;refine(C1.out _).mono ?_;rintro e w1 ⟨rfl,hb1⟩;go_wp2_with fail;refine(C2.out _).mono ?_;rintro e w2 ⟨rfl,rfl⟩;go_wp2_with fail;go_ret2;exact⟨rfl,hb1⟩
theorem ayD (s key U R:ByteArray)(g:Nat)(w:World)(hk:key.size≤100)(h1:U.size≠s.size)(hR:1≤R.size)(hR2:R.size≤1000000000000)(hq:¬ quo ((aad R).getD 0 0))(C1:Hid (anO s U))(C2:Hid (asg U (key++⟨#[61]⟩) R true)):
 Calls Tryz.prog 137 #[.string s,.string key,.func (.func g) #[] #[]] w (acK s false w):=by
 have t1:((U.size:Int) == (s.size:Int))=false:=by rw[beq_eq_false_iff_ne];omega
 have e1:R.toList.isEmpty=false:=by rw[Nz.isE];exact decide_eq_false (by omega)
 have e2:¬ R.toList=[]:=(by simpa using e1);have q1:((R.extract 0 1).toList == [34])=false:=by rw[afl R 34 hR];exact decide_eq_false fun h=>hq (.inl h)
 have q2:((R.extract 0 1).toList == [39])=false:=by rw[afl R 39 hR];exact decide_eq_false fun h=>hq (.inr h)
 have q3:((R.extract 0 1).toList != [34])=true:=by rw[bne,q1];rfl
 have q4:((R.extract 0 1).toList != [39])=true:=by rw[bne,q2];rfl
 have hR3:(1:Int)≤(R.size:Int):=(by omega);clear h1 hq;go_enter Tryz.func137,Tryz.ntmps137;go_wp2_with fail;refine(C1.out _).mono ?_;rintro e w1 ⟨rfl,hb1⟩;go_wp2_with fail;refine(C2.out _).mono ?_;rintro e w2 ⟨rfl,rfl⟩;go_wp2_with fail;go_ret2;exact⟨rfl,hb1⟩
def a4s (T Q V A:ByteArray)(b:Bool):Prop:=∀ W,Gl W→Calls Tryz.prog 128 #[.string T,.string Q] W fun e w'=>e=.returned (.tuple #[.string V,.string A,.bool b])∧Below W.heap.size W w'
def OkF (g:Nat)(V:ByteArray)(b:Bool):Prop:=∀ W,Gl W→Calls Tryz.prog g #[.string V] W fun e w'=>e=.returned (.bool b)∧Below W.heap.size W w'
theorem agB {R:ByteArray}(hR:1≤R.size)(hq:quo ((aad R).getD 0 0)):((R.extract 0 1).toList == [34])=true∨(((R.extract 0 1).toList == [34])=false∧((R.extract 0 1).toList == [39])=true):=by
 rw[afl R 34 hR,afl R 39 hR];rcases hq with h | h
 · exact .inl (decide_eq_true h)
 · exact .inr ⟨decide_eq_false (by rw[h];decide),decide_eq_true h⟩
theorem azN (s key U R V A:ByteArray)(g:Nat)(w:World)(hG:Gl w)(hk:key.size≤100)(h1:U.size≠s.size)(hR:1≤R.size)(hR2:R.size≤1000000000000)(hq:quo ((aad R).getD 0 0))(C1:Hid (anO s U))(C2:Hid (asg U (key++⟨#[61]⟩) R true))
 (C3:Hid (a4s (R.extract 1 R.size) (R.extract 0 1) V A false)):
 Calls Tryz.prog 137 #[.string s,.string key,.func (.func g) #[] #[]] w (acK s false w):=by
 have HG:=aac hG;have t1:((U.size:Int) == (s.size:Int))=false:=by rw[beq_eq_false_iff_ne];omega
 have e1:R.toList.isEmpty=false:=by rw[Nz.isE];exact decide_eq_false (by omega)
 have e2:¬ R.toList=[]:=(by simpa using e1);have hR3:(1:Int)≤(R.size:Int):=(by omega);have qf:=agB hR hq;clear h1 hq hG;rcases qf with q1 | ⟨q1,q2⟩
 · have q3:((R.extract 0 1).toList != [34])=false:=by rw[bne,q1];rfl
   go_enter Tryz.func137,Tryz.ntmps137;go_wp2_with fail;refine(C1.out _).mono ?_;rintro e w1 ⟨rfl,hb1⟩;go_wp2_with fail;refine(C2.out _).mono ?_;rintro e w2 ⟨rfl,rfl⟩;go_wp2_with fail;refine(C3.out _ (HG.out.after hb1)).mono ?_;rintro e w3 ⟨rfl,hb3⟩;go_wp2_with fail;go_ret2;exact⟨rfl,hb1.trans (hb3.mono hb1.size)⟩
 · have q3:((R.extract 0 1).toList != [34])=true:=by rw[bne,q1];rfl
   have q4:((R.extract 0 1).toList != [39])=false:=by rw[bne,q2];rfl
   go_enter Tryz.func137,Tryz.ntmps137;go_wp2_with fail;refine(C1.out _).mono ?_;rintro e w1 ⟨rfl,hb1⟩;go_wp2_with fail;refine(C2.out _).mono ?_;rintro e w2 ⟨rfl,rfl⟩;go_wp2_with fail;refine(C3.out _ (HG.out.after hb1)).mono ?_;rintro e w3 ⟨rfl,hb3⟩;go_wp2_with fail;go_ret2;exact⟨rfl,hb1.trans (hb3.mono hb1.size)⟩
theorem auH (s key U R V A:ByteArray)(g:Nat)(hg:g=138∨g=139∨g=140)(b:Bool)(w:World)(hG:Gl w)(hk:key.size≤100)(h1:U.size≠s.size)(hR:1≤R.size)(hR2:R.size≤1000000000000)(hq:quo ((aad R).getD 0 0))(C1:Hid (anO s U))(C2:Hid (asg U (key++⟨#[61]⟩) R true))
 (C3:Hid (a4s (R.extract 1 R.size) (R.extract 0 1) V A true)) (C4:Hid (OkF g V b)):
 Calls Tryz.prog 137 #[.string s,.string key,.func (.func g) #[] #[]] w (acK (if b=true then A else s) b w):=by
 have HG:=aac hG;have t1:((U.size:Int) == (s.size:Int))=false:=by rw[beq_eq_false_iff_ne];omega
 have e1:R.toList.isEmpty=false:=by rw[Nz.isE];exact decide_eq_false (by omega)
 have e2:¬ R.toList=[]:=(by simpa using e1);have hR3:(1:Int)≤(R.size:Int):=(by omega);have qf:=agB hR hq;clear h1 hq hG;rcases qf with q1 | ⟨q1,q2⟩
 · have q3:((R.extract 0 1).toList != [34])=false:=by rw[bne,q1];rfl
   rcases hg with rfl | rfl | rfl
   all_goals
    cases b
    all_goals
     simp only[Bool.false_eq_true,if_false,if_true];go_enter Tryz.func137,Tryz.ntmps137;go_wp2_with fail;refine(C1.out _).mono ?_;rintro e w1 ⟨rfl,hb1⟩;go_wp2_with fail;refine(C2.out _).mono ?_;rintro e w2 ⟨rfl,rfl⟩;go_wp2_with fail;refine(C3.out _ (HG.out.after hb1)).mono ?_;rintro e w3 ⟨rfl,hb3⟩;go_wp2_with fail;refine(C4.out _ ((HG.out.after hb1).after hb3)).mono ?_;rintro e w4 ⟨rfl,hb4⟩;go_wp2_with fail;go_ret2;exact⟨rfl,(hb1.trans (hb3.mono hb1.size)).trans (hb4.mono (Nat.le_trans hb1.size hb3.size))⟩
 · have q3:((R.extract 0 1).toList != [34])=true:=by rw[bne,q1];rfl
   have q4:((R.extract 0 1).toList != [39])=false:=by rw[bne,q2];rfl
   rcases hg with rfl | rfl | rfl
   all_goals
    cases b
    all_goals
     simp only[Bool.false_eq_true,if_false,if_true];go_enter Tryz.func137,Tryz.ntmps137;go_wp2_with fail;refine(C1.out _).mono ?_;rintro e w1 ⟨rfl,hb1⟩;go_wp2_with fail;refine(C2.out _).mono ?_;rintro e w2 ⟨rfl,rfl⟩;go_wp2_with fail;refine(C3.out _ (HG.out.after hb1)).mono ?_;rintro e w3 ⟨rfl,hb3⟩;go_wp2_with fail;refine(C4.out _ ((HG.out.after hb1).after hb3)).mono ?_;rintro e w4 ⟨rfl,hb4⟩;go_wp2_with fail;go_ret2;exact⟨rfl,(hb1.trans (hb3.mono hb1.size)).trans (hb4.mono (Nat.le_trans hb1.size hb3.size))⟩
end Go.Proofs.YtiaebhomfebagaaGreatDoor
namespace Go.Proofs.YtiaebhomfebagaaGreatDoor
open Go.RowKit
theorem a0V (b:Nat→Int)(n b0 b1 b2 b3:Nat)(e0:b 0=b0)(e1:b 1=b1)(e2:b 2=b2)(e3:b 3=b3)(h:(canon b n).2.2=0):
 Lib.decodeN n b0 b1 b2 b3=((canon b n).1.toNat,(canon b n).2.1.toNat):=by
 unfold canon at h ⊢;rw[e0,e1,e2,e3] at h ⊢;unfold Lib.decodeN;by_cases c0:b0 < 128
 · rw[if_pos c0,if_pos (show (b0:Int) < 128 by omega)];rfl
 rw[if_neg (by omega)] at h;rw[if_neg c0,if_neg (show ¬ (b0:Int) < 128 by omega)];by_cases c1:b0 < 194
 · rw[if_pos (by omega)] at h;simp at h
 rw[if_neg (by omega)] at h;rw[if_neg (show ¬ (b0:Int) < 194 by omega)];by_cases c2:b0 < 224
 · rw[if_pos (by omega)] at h;rw[if_pos (show (b0:Int) < 224 by omega)];by_cases d1:n < 2
   · rw[if_pos d1] at h;simp at h
   rw[if_neg d1] at h ⊢;by_cases d2:(b1:Int) < 128∨191 < (b1:Int)
   · rw[if_pos d2] at h;simp at h
   rw[if_neg d2,if_pos (show b0 / 32=6∧(1 < n∧b1 / 64=2) by omega),if_pos (by omega)];simp only[Prod.mk.injEq];omega
 rw[if_neg (by omega)] at h;rw[if_neg (show ¬ (b0:Int) < 224 by omega),if_neg (show ¬ (b0 / 32=6∧(1 < n∧b1 / 64=2)) by omega)];by_cases c3:b0 < 240
 · rw[if_pos (by omega)] at h;rw[if_pos (show (b0:Int) < 240 by omega)];by_cases d1:n < 2
   · rw[if_pos d1] at h;simp at h
   rw[if_neg d1] at h ⊢;by_cases d2:(b1:Int) < (if (b0:Int)=224 then 160 else 128)∨(if (b0:Int)=237 then 159 else 191) < (b1:Int)
   · rw[if_pos d2] at h;simp at h
   rw[if_neg d2] at h ⊢;by_cases d3:n < 3
   · rw[if_pos d3] at h;simp at h
   rw[if_neg d3] at h ⊢;by_cases d4:(b2:Int) < 128∨191 < (b2:Int)
   · rw[if_pos d4] at h;simp at h
   have d2':128≤b1∧b1≤191∧(b0=224→160≤b1)∧(b0=237→b1≤159):=by
    split at d2 <;> split at d2 <;> omega
   rw[if_neg d4,if_pos (show b0 / 16=14∧(1 < n∧b1 / 64=2)∧(2 < n∧b2 / 64=2) by omega),if_pos (by omega)];simp only[Prod.mk.injEq];omega
 rw[if_neg (by omega)] at h;rw[if_neg (show ¬ (b0:Int) < 240 by omega),if_neg (show ¬ (b0 / 16=14∧(1 < n∧b1 / 64=2)∧(2 < n∧b2 / 64=2)) by omega)];by_cases c4:b0 < 245
 · rw[if_pos (by omega)] at h;rw[if_pos (show (b0:Int) < 245 by omega)];by_cases d1:n < 2
   · rw[if_pos d1] at h;simp at h
   rw[if_neg d1] at h ⊢;by_cases d2:(b1:Int) < (if (b0:Int)=240 then 144 else 128)∨(if (b0:Int)=244 then 143 else 191) < (b1:Int)
   · rw[if_pos d2] at h;simp at h
   rw[if_neg d2] at h ⊢;by_cases d3:n < 3
   · rw[if_pos d3] at h;simp at h
   rw[if_neg d3] at h ⊢;by_cases d4:(b2:Int) < 128∨191 < (b2:Int)
   · rw[if_pos d4] at h;simp at h
   rw[if_neg d4] at h ⊢;by_cases d5:n < 4
   · rw[if_pos d5] at h;simp at h
   rw[if_neg d5] at h ⊢;by_cases d6:(b3:Int) < 128∨191 < (b3:Int)
   · rw[if_pos d6] at h;simp at h
   have d2':128≤b1∧b1≤191∧(b0=240→144≤b1)∧(b0=244→b1≤143):=by
    split at d2 <;> split at d2 <;> omega
   rw[if_neg d6,if_pos (show b0 / 8=30∧(1 < n∧b1 / 64=2)∧(2 < n∧b2 / 64=2)∧(3 < n∧b3 / 64=2) by omega),if_pos (by omega)];simp only[Prod.mk.injEq];omega
 · rw[if_neg (by omega)] at h;simp at h
def ints (L:List Nat):List Int:=L.map fun n:Nat=>(n:Int)
theorem asl (L:List Nat):NN (ints L):=fun x hx=>by
 obtain⟨n,_,rfl⟩:=List.mem_map.1 hx;omega
theorem afQ (L:List Nat)(k:Nat):(ints L).getD k 0=(L.getD k 0:Int):=by
 unfold ints;rw[List.getD_eq_getElem?_getD,List.getD_eq_getElem?_getD,List.getElem?_map];cases L[k]? <;> simp
theorem aym (L:List Nat)(h:(aaX (ints L)).2.2=0):Nz.dN L=((aaX (ints L)).1.toNat,(aaX (ints L)).2.1.toNat):=by
 have hl:(ints L).length=L.length:=(by simp[ints]);unfold aaX at h ⊢;rw[hl] at h ⊢;exact a0V _ _ _ _ _ _ (afQ L 0) (afQ L 1) (afQ L 2) (afQ L 3) h
theorem a3i (n:Nat):∀ (L:List Nat),L.length≤n→(acX (ints L)).2.2=0→Nz.Rn L=(acX (ints L)).1:=by
 induction n with
 | zero=>
   intro L hn _;have:L=[]:=List.eq_nil_of_length_eq_zero (by omega);subst this;rfl
 | succ n ih=>
   intro L hn h;by_cases hL:L=[]
   · subst hL;rfl
   have hne:ints L≠[]:=by unfold ints;simpa using hL
   by_cases he:(aaX (ints L)).2.2=0
   · have hk:=agL _ hne (asl _) he;have hd:=aym _ he;have hw:=Nz.aaV L hL;have hl1:1≤(ints L).length:=List.length_pos_iff.2 hne
     have h0:0≤(aaX (ints L)).1:=by
      have:=ahj (fun k=>(ints L).getD k 0) (ints L).length hl1 (fun k=>(asl _).getD k);unfold aaX;rcases this with q | q
      · exact q.2.2.2.2.1
      · omega
     rw[hk] at h ⊢;rw[Nz.adq _ hL,hd];rw[hd] at hw;generalize aaX (ints L)=x at *;obtain⟨r,d,er⟩:=x;simp only at *
     have hdr:(ints L).drop d.toNat=ints (L.drop d.toNat):=by
      unfold ints;rw[List.map_drop]
     rw[hdr] at h ⊢;rw[ih _ (by rw[List.length_drop];omega) h]
     congr 1
     omega
   · rw[aiv _ hne he] at h;exact absurd h he
theorem afp (s:ByteArray):∀ (f i:Nat),Cz.rgo s f i=Nz.rgo s f i
 | 0,i=>rfl
 | f+1,i=>by
   unfold Cz.rgo Nz.rgo;rw[afp s f]
theorem agv (s:ByteArray):aad s=ints (Nz.bl s):=by simp[aad,ints,Nz.bl]
theorem aqB (s:ByteArray)(h:(acX (aad s)).2.2=0):Cz.runes s=(acX (aad s)).1:=by
 have:Cz.runes s=Nz.runes s:=afp s _ _;rw[this,Nz.anI,agv];exact a3i _ _ (Nat.le_refl _) (by rw[← agv];exact h)
theorem aud (s:ByteArray):Cz.axn [40] s=decide (∀ r∈Cz.runes s,Chr r):=by
 unfold Cz.axn;rw[Bool.eq_iff_iff,List.all_eq_true,decide_eq_true_iff];unfold Cz.axw Cz.atn;simp
def a3g (l:List Int)(w:World)(e:Ending)(w':World):Prop:=e=.returned (.int .i64 (abh l))∧Below w.heap.size w w'
theorem apM {x y:Int}(h:x=y):Ending.returned (.int .i64 y)=.returned (.int .i64 x):=by rw[h]
theorem aqm (s:ByteArray)(w:World)(hs:s.size≤2000000000):Calls Tryz.prog 70 #[.string s] w (a3g (aad s) w):=by
 have C:=aac (Uz.alB s w hs);rw[auz] at C;by_cases h1:(acX (aad s)).2.2=0
 · have ha:=aud s;rw[aqB s h1] at ha;have C2:=aac (fun W=>Cz.all1 s 40 (.inl rfl) W);rw[ha] at C2;by_cases hp:∀ r∈(acX (aad s)).1,Chr r
   · have HW:Hid (abh (aad s)=0):=aac (by unfold abh;rw[if_neg (by omega),if_pos hp]);rw[decide_eq_true hp] at C2;rw[h1] at C;clear ha hp h1;go_enter Tryz.func70,Tryz.ntmps70;go_wp2_with fail;refine C.out.mono ?_;rintro e w1 ⟨v,rfl,_,hb⟩;go_wp2_with fail;refine(C2.out _).mono ?_;rintro e w2 ⟨rfl,hb2⟩;go_wp2_with fail;go_ret;exact⟨apM HW.out,hb.trans (hb2.mono hb.size)⟩
   · have HW:Hid (abh (aad s)=3):=aac (by unfold abh;rw[if_neg (by omega),if_neg hp]);rw[decide_eq_false hp] at C2;rw[h1] at C;clear ha hp h1;go_enter Tryz.func70,Tryz.ntmps70;go_wp2_with fail;refine C.out.mono ?_;rintro e w1 ⟨v,rfl,_,hb⟩;go_wp2_with fail;refine(C2.out _).mono ?_;rintro e w2 ⟨rfl,hb2⟩;go_wp2_with fail;go_ret;exact⟨apM HW.out,hb.trans (hb2.mono hb.size)⟩
 · have HW:Hid (abh (aad s)=2):=aac (by unfold abh;rw[if_pos h1]);generalize (acX (aad s)).2.2=er at *;have t1:(er != 0)=true:=by rw[bne_iff_ne];exact h1
   go_enter Tryz.func70,Tryz.ntmps70;go_wp2_with fail;refine C.out.mono ?_;rintro e w1 ⟨v,rfl,_,hb⟩;go_wp2_with fail;go_ret;exact⟨apM HW.out,hb⟩
end Go.Proofs.YtiaebhomfebagaaGreatDoor
namespace Go.Proofs.YtiaebhomfebagaaGreatDoor
open Go.RowKit
def Bts (l:List Int):Prop:=∀ x∈l,0≤x∧x≤255
theorem ahM (s:ByteArray):Bts (aad s):=fun x hx=>by
 obtain⟨b,_,rfl⟩:=List.mem_map.1 hx;have:=b.toNat_lt;omega
theorem Bts.str {l:List Int}(h:Bts l):aad (strOfNums l)=l:=aeo l (fun x hx=>(h x hx).1) fun x hx=>(h x hx).2
theorem Bts.drop {l:List Int}(h:Bts l)(n:Nat):Bts (l.drop n):=fun x hx=>h x (List.mem_of_mem_drop hx)
theorem Bts.take {l:List Int}(h:Bts l)(n:Nat):Bts (l.take n):=fun x hx=>h x (List.mem_of_mem_take hx)
theorem Bts.tail {c:Int}{l:List Int}(h:Bts (c :: l)):Bts l:=fun x hx=>h x (List.mem_cons_of_mem _ hx)
theorem Bts.a1k {l:List Int}(h:Bts l)(p:Int→Bool):Bts (l.dropWhile p):=fun x hx=>h x ((List.dropWhile_suffix p).subset hx)
theorem akd (l:List Int)(p:Int→Bool):(l.dropWhile p).length≤l.length:=(List.dropWhile_suffix p).length_le
theorem akk (s key:ByteArray)(g:Nat)(hg:g=138∨g=139∨g=140)(okp:List Int→Bool)(hok:∀ V:ByteArray,V.size≤2000000000→OkF g V (okp (aad V)))(w:World)(hG:Gl w)(hs:s.size≤2000000000)(hk:key.size≤100):
 Calls Tryz.prog 137 #[.string s,.string key,.func (.func g) #[] #[]] w (acK (strOfNums (orF (agS (aad s) (aad key) okp) (aad s))) (agS (aad s) (aad key) okp).isSome w):=by
 have hB:=(ahM s).a1k aaZ;have hl:=akd (aad s) aaZ;rw[aae] at hl;have C1:anO s (strOfNums ((aad s).dropWhile aaZ)):=fun W=>atm s W;unfold agS;generalize (aad s).dropWhile aaZ=u at *;have hU:=hB.str;have hUs:=abL u;have hK:aad (key++⟨#[61]⟩)=aad key++[61]:=aaq _ _;by_cases hp:(aad key++[61]).isPrefixOf u=true
 · have C2:asg (strOfNums u) (key++⟨#[61]⟩) (strOfNums (u.drop ((aad key).length+1))) true:=fun W=>by
    have:=afj (strOfNums u) (key++⟨#[61]⟩) W (by rw[hK,hU];exact hp);rw[hK,hU,List.length_append] at this;exact this
   have hRs:=abL (u.drop ((aad key).length+1));by_cases h1:u.length=(aad s).length
   · rw[if_pos h1];have h:=apZ s key _ _ g w hk (.inl (by rw[hUs,h1,aae])) (aac C1) (aac C2);unfold orF;rw[abM];exact h
   · rw[if_neg h1,if_pos hp];have hBR:=hB.drop ((aad key).length+1);have hRl:(u.drop ((aad key).length+1)).length≤2000000000:=by rw[List.length_drop];omega
     generalize u.drop ((aad key).length+1)=R at *
     cases R with
     | nil=>
       have h:=apZ s key _ _ g w hk (.inr (by rw[hRs];rfl)) (aac C1) (aac C2);unfold orF;rw[abM];exact h
     | cons q r=>
       have hR:=hBR.str;have hqh:(aad (strOfNums (q :: r))).getD 0 0=q:=by rw[hR];rfl
       have h1R:1≤(strOfNums (q :: r)).size:=by rw[hRs];simp
       have h1R2:(strOfNums (q :: r)).size≤4000000000:=by rw[hRs];omega
       have hUne:(strOfNums u).size≠s.size:=by rw[hUs,← aae];exact h1
       by_cases hq:quo q
       · show Calls _ _ _ _ (acK (strOfNums (orF (if quo q then agh q r okp else none) (aad s))) (if quo q then agh q r okp else none).isSome w);rw[if_pos hq]
         have hT:aad ((strOfNums (q :: r)).extract 1 (strOfNums (q :: r)).size)=r:=by
          rw[aal,hR,hRs,List.take_length];rfl
         have hQ:aad ((strOfNums (q :: r)).extract 0 1)=[q]:=by
          rw[aal,hR];rfl
         have hTs:((strOfNums (q :: r)).extract 1 (strOfNums (q :: r)).size).size≤4000000000:=by
          rw[← aae,hT];simp only[List.length_cons] at hRl;omega
         unfold agh
         cases hf:fnd [q] r with
         | none=>
           have C3:a4s ((strOfNums (q :: r)).extract 1 (strOfNums (q :: r)).size) ((strOfNums (q :: r)).extract 0 1) ((strOfNums (q :: r)).extract 1 (strOfNums (q :: r)).size) ⟨#[]⟩ false:=fun W hW=>
            auM _ _ W hTs hW (by rw[hT,hQ];exact hf)
           have h:=azN s key _ _ _ _ g w hG hk hUne h1R (Nat.le_trans h1R2 (by decide)) (by rw[hqh];exact hq) (aac C1) (aac C2) (aac C3);unfold orF;rw[abM];exact h
         | some n=>
           have C3:a4s ((strOfNums (q :: r)).extract 1 (strOfNums (q :: r)).size) ((strOfNums (q :: r)).extract 0 1) (strOfNums (r.take n)) (strOfNums (r.drop (n+1))) true:=fun W hW=>by
            have:=aun ((strOfNums (q :: r)).extract 1 (strOfNums (q :: r)).size) ((strOfNums (q :: r)).extract 0 1) W hTs hW n (by rw[hT,hQ];exact hf);rw[hT,hQ] at this;exact this
           have hV:aad (strOfNums (r.take n))=r.take n:=(hBR.tail.take n).str;have C4:=hok (strOfNums (r.take n)) (by rw[abL,List.length_take];simp only[List.length_cons] at hRl;omega);rw[hV] at C4;have h:=auH s key _ _ _ _ g hg _ w hG hk hUne h1R (Nat.le_trans h1R2 (by decide)) (by rw[hqh];exact hq) (aac C1) (aac C2) (aac C3) (aac C4)
           cases hv:okp (r.take n) with
           | true=>
             rw[hv] at h;simp only[if_true] at h ⊢;rw[if_pos hv];exact h
           | false=>
             rw[hv] at h;simp only[Bool.false_eq_true,if_false] at h ⊢;rw[if_neg (by rw[hv];simp)];unfold orF;rw[abM];exact h
       · show Calls _ _ _ _ (acK (strOfNums (orF (if quo q then agh q r okp else none) (aad s))) (if quo q then agh q r okp else none).isSome w);rw[if_neg hq];have h:=ayD s key _ _ g w hk hUne h1R (Nat.le_trans h1R2 (by decide)) (by rw[hqh];exact hq) (aac C1) (aac C2);unfold orF;rw[abM];exact h
 · have C2:asg (strOfNums u) (key++⟨#[61]⟩) (strOfNums u) false:=fun W=>agl _ _ W (by rw[hK,hU];exact Bool.eq_false_iff.2 hp);have h:=a1a s key _ g w hk (aac C1) (aac C2);rw[if_neg hp,ite_self];unfold orF;rw[abM];exact h
theorem a6o (V:ByteArray)(hV:V.size≤2000000000):OkF 138 V (abO (aad V)):=fun W hW=>by
 have e:=eqB V [49,46,48] [49,46,48] rfl;go_enter Tryz.func138,Tryz.ntmps138;go_wp2_with fail;go_ret;exact⟨by unfold abO;rw[← e];rfl,Below.refl _ _⟩
theorem a6B (V:ByteArray)(hV:V.size≤2000000000):OkF 139 V (abp (aad V)):=fun W hW=>by
 have C:=aac (anL V ⟨#[117,116,102,45,56]⟩ W (by omega) (by decide) (fun j hj=>by
  have hj':j < 5:=hj;rcases(show j=0∨j=1∨j=2∨j=3∨j=4 by omega) with rfl | rfl | rfl | rfl | rfl;all_goals (unfold FO;decide)) hW)
 have e:abz (aad ⟨#[117,116,102,45,56]⟩)=[117,116,102,45,56]:=(by decide);rw[e] at C;clear e;go_enter Tryz.func139,Tryz.ntmps139;go_wp2_with fail;refine C.out.mono ?_;rintro e w1 ⟨rfl,hb⟩;go_wp2_with fail;go_ret;exact⟨rfl,hb⟩
theorem a6v (V:ByteArray)(hV:V.size≤2000000000):OkF 140 V (aaP (aad V)):=fun W hW=>by
 have e1:=eqB V [121,101,115] [121,101,115] rfl;have e2:=eqB V [110,111] [110,111] rfl;unfold aaP;by_cases h1:aad V=[121,101,115]
 · rw[decide_eq_true h1] at e1;have hd:decide (aad V=[121,101,115]∨aad V=[110,111])=true:=decide_eq_true (.inl h1);rw[hd];clear h1 hd e2;go_enter Tryz.func140,Tryz.ntmps140;go_wp2_with fail;go_ret;exact⟨rfl,Below.refl _ _⟩
 · rw[decide_eq_false h1] at e1;have hd:decide (aad V=[121,101,115]∨aad V=[110,111])=decide (aad V=[110,111]):=by rw[decide_eq_decide];exact⟨fun h=>h.resolve_left h1,.inr⟩
   rw[hd,← e2];clear h1 hd e2;go_enter Tryz.func140,Tryz.ntmps140;go_wp2_with fail;go_ret;exact⟨rfl,Below.refl _ _⟩
end Go.Proofs.YtiaebhomfebagaaGreatDoor
namespace Go.Proofs.YtiaebhomfebagaaGreatDoor
open Go.RowKit
def awY (r key:ByteArray)(g:Nat)(r':ByteArray)(ok:Bool):Prop:=∀ W,Gl W→Calls Tryz.prog 137 #[.string r,.string key,.func (.func g) #[] #[]] W (acK r' ok W)
def a4v (r:ByteArray)(b:Bool):Prop:=∀ W,Calls Tryz.prog 73 #[.string r,.slice (some ⟨W.heap.size,0,none⟩) 1 1] (W.alloc (.cells #[.func (.func 59) #[] #[]] 83)) fun e w'=>e=.returned (.bool b)∧Below W.heap.size W w'
def aoC (b:Bool)(w:World)(e:Ending)(w':World):Prop:=e=.returned (.bool b)∧Below w.heap.size w w'
theorem avd (s:ByteArray)(w:World)(C0:Hid (asg s ⟨#[120,109,108]⟩ s false)):Calls Tryz.prog 115 #[.string s] w (aoC false w):=by
 go_enter Tryz.func115,Tryz.ntmps115;go_wp2_with fail;refine(C0.out _).mono ?_;rintro e w1 ⟨rfl,rfl⟩;go_wp2_with fail;go_ret;exact⟨rfl,Below.refl _ _⟩
theorem avI (s r0 r1:ByteArray)(w:World)(hG:Gl w)(C0:Hid (asg s ⟨#[120,109,108]⟩ r0 true))(C1:Hid (awY r0 ⟨#[118,101,114,115,105,111,110]⟩ 138 r1 false)):Calls Tryz.prog 115 #[.string s] w (aoC false w):=by
 have HG:=aac hG;clear hG;go_enter Tryz.func115,Tryz.ntmps115;go_wp2_with fail;refine(C0.out _).mono ?_;rintro e w1 ⟨rfl,rfl⟩;go_wp2_with fail;refine(C1.out _ HG.out).mono ?_;rintro e w2 ⟨rfl,hb⟩;go_wp2_with fail;go_ret;exact⟨rfl,hb⟩
theorem auU (s r0 r1 r2 r3:ByteArray)(o2 o3 b:Bool)(w:World)(hG:Gl w)(C0:Hid (asg s ⟨#[120,109,108]⟩ r0 true))(C1:Hid (awY r0 ⟨#[118,101,114,115,105,111,110]⟩ 138 r1 true))
 (C2:Hid (awY r1 ⟨#[101,110,99,111,100,105,110,103]⟩ 139 r2 o2)) (C3:Hid (awY r2 ⟨#[115,116,97,110,100,97,108,111,110,101]⟩ 140 r3 o3)) (C4:Hid (a4v r3 b)):Calls Tryz.prog 115 #[.string s] w (aoC b w):=by
 have HG:=aac hG;clear hG;go_enter Tryz.func115,Tryz.ntmps115;go_wp2_with fail;refine(C0.out _).mono ?_;rintro e w1 ⟨rfl,rfl⟩;go_wp2_with fail;refine(C1.out _ HG.out).mono ?_;rintro e w2 ⟨rfl,hb2⟩;have HG2:=aac (HG.out.after hb2);go_wp2_with fail;refine(C2.out _ HG2.out).mono ?_;rintro e w3 ⟨rfl,hb3⟩;have HG3:=aac (HG2.out.after hb3);go_wp2_with fail;refine(C3.out _ HG3.out).mono ?_;rintro e w4 ⟨rfl,hb4⟩;go_wp2_with fail;refine(C4.out _).mono ?_;rintro e w5 ⟨rfl,hb5⟩;go_wp2_with fail;go_ret;have h23:=hb2.trans (hb3.mono hb2.size);have h24:=h23.trans (hb4.mono h23.size);exact⟨rfl,h24.trans (hb5.mono h24.size)⟩
theorem awy (n:Nat):∀ (L:List Nat),L.length≤n→(∀ x∈L,x < 256)→((Nz.Rn L).all aaZ=(ints L).all aaZ):=by
 induction n with
 | zero=>
   intro L h _;have:L=[]:=List.eq_nil_of_length_eq_zero (by omega);subst this;rfl
 | succ n ih=>
   intro L h hB
   match L,h,hB with
   | [],_,_=>rfl
   | c :: L,h,hB=>
     rw[Nz.adq _ (by simp)];by_cases hc:c < 128
     · rw[Nz.agF L c hc];show (aaZ (c:Int) && (Nz.Rn L).all aaZ)=(aaZ (c:Int) && (ints L).all aaZ);rw[ih L (by simpa using h) fun x hx=>hB x (List.mem_cons_of_mem _ hx)]
     · have e1:aaZ (c:Int)=false:=by unfold aaZ;exact decide_eq_false (by unfold Blank;omega)
       have e2:aaZ ((Nz.dN (c :: L)).1:Int)=false:=by
        have hsz:0 < (ByteArray.mk ((c :: L).map UInt8.ofNat).toArray).size:=by show 0 < ((c :: L).map UInt8.ofNat).toArray.size;simp
        have hbl:Nz.bl (ByteArray.mk ((c :: L).map UInt8.ofNat).toArray)=c :: L:=by
         unfold Nz.bl;simp only[List.map_map]
         have:∀ x∈c :: L,(UInt8.toNat ∘ UInt8.ofNat) x=x:=fun x hx=>by
          have:=hB x hx;simp;omega
         exact(List.map_congr_left this).trans (List.map_id _)
        have:=(aie _ 0 hsz (by rw[hbl];show 128≤c;omega)).1;rw[Nz.adh,hbl,List.drop_zero] at this;unfold aaZ;exact decide_eq_false (by unfold Blank;omega)
       show (aaZ ((Nz.dN (c :: L)).1:Int) && _)=(aaZ (c:Int) && _);rw[e1,e2,Bool.false_and,Bool.false_and]
theorem awl (s:ByteArray):Cz.axn [59] s=(aad s).all aaZ:=by
 have h1:Cz.axn [59] s=(Cz.runes s).all aaZ:=by
  unfold Cz.axn
  congr 1
  funext r
  unfold Cz.axw Cz.atn aaZ;simp
 have h2:Cz.runes s=Nz.runes s:=afp s _ _
 rw[h1,h2,Nz.anI,awy _ (Nz.bl s) (Nat.le_refl _) (fun x hx=>by
  unfold Nz.bl at hx;obtain⟨b,_,rfl⟩:=List.mem_map.1 hx;exact b.toNat_lt),← agv]
theorem alU (r:ByteArray):a4v r ((aad r).all aaZ):=fun W=>by
 have:=Cz.all1 r 59 (.inr rfl) W;rw[awl] at this;exact this
theorem akB (l key:List Int)(okp:List Int→Bool):(orF (agS l key okp) l).length≤l.length∧(Bts l→Bts (orF (agS l key okp) l)):=by
 unfold agS;split
 · exact⟨Nat.le_refl _,id⟩
 · split
   · split
     · exact⟨Nat.le_refl _,id⟩
     · rename_i q r hr;split
       · unfold agh;split
         · exact⟨Nat.le_refl _,id⟩
         · rename_i n hn;split
           · have h1:=akd l aaZ;have h2:(q :: r).length≤(l.dropWhile aaZ).length:=by rw[← hr,List.length_drop];omega
             refine⟨?_,fun hB=> ?_⟩
             · show (r.drop (n+1)).length≤l.length;rw[List.length_drop];simp only[List.length_cons] at h2;omega
             · show Bts (r.drop (n+1));have:=(hB.a1k aaZ).drop (key.length+1);rw[hr] at this;exact this.tail.drop _
           · exact⟨Nat.le_refl _,id⟩
       · exact⟨Nat.le_refl _,id⟩
   · exact⟨Nat.le_refl _,id⟩
theorem aiQ (r key:ByteArray)(g:Nat)(hg:g=138∨g=139∨g=140)(okp:List Int→Bool)(hok:∀ V:ByteArray,V.size≤2000000000→OkF g V (okp (aad V)))(hr:r.size≤2000000000)(hk:key.size≤100):
 awY r key g (strOfNums (orF (agS (aad r) (aad key) okp) (aad r))) (agS (aad r) (aad key) okp).isSome:=fun W hW=>akk r key g hg okp hok W hW hr hk
theorem avz (s:ByteArray)(w:World)(hs:s.size≤2000000000)(hG:Gl w):Calls Tryz.prog 115 #[.string s] w (aoC (arJ (aad s)) w):=by
 unfold arJ;by_cases h0:azp.isPrefixOf (aad s)=true
 · have C0:asg s ⟨#[120,109,108]⟩ (strOfNums ((aad s).drop 3)) true:=fun W=>afj s ⟨#[120,109,108]⟩ W h0;have hB:=(ahM s).drop 3;have hl:((aad s).drop 3).length≤2000000000:=by rw[List.length_drop,aae];omega
   rw[h0,Bool.true_and];generalize (aad s).drop 3=r0 at *;have C1:=aiQ (strOfNums r0) ⟨#[118,101,114,115,105,111,110]⟩ 138 (.inl rfl) abO (fun V hV=>a6o V hV) (by rw[abL];omega) (by decide);rw[hB.str] at C1;have C1':awY (strOfNums r0) ⟨#[118,101,114,115,105,111,110]⟩ 138 (strOfNums (orF (agS r0 aeC abO) r0)) (agS r0 aeC abO).isSome:=C1;have l1:=akB r0 aeC abO;unfold a3p
   cases hv:agS r0 aeC abO with
   | none=>
     rw[hv] at C1';exact avI s _ _ w hG (aac C0) (aac C1')
   | some r1=>
     rw[hv] at C1' l1;have hB1:Bts r1:=l1.2 hB;have hl1:r1.length≤2000000000:=Nat.le_trans l1.1 hl;have C2:=aiQ (strOfNums r1) ⟨#[101,110,99,111,100,105,110,103]⟩ 139 (.inr (.inl rfl)) abp (fun V hV=>a6B V hV) (by rw[abL];omega) (by decide);rw[hB1.str] at C2;have C2':awY (strOfNums r1) ⟨#[101,110,99,111,100,105,110,103]⟩ 139 (strOfNums (orF (agS r1 acE abp) r1)) (agS r1 acE abp).isSome:=C2;have l2:=akB r1 acE abp;have hB2:=l2.2 hB1;have hl2:=Nat.le_trans l2.1 hl1;show Calls _ _ _ _ (aoC (a6c (orF (agS r1 acE abp) r1)) w);generalize orF (agS r1 acE abp) r1=r2 at *;have C3:=aiQ (strOfNums r2) ⟨#[115,116,97,110,100,97,108,111,110,101]⟩ 140 (.inr (.inr rfl)) aaP (fun V hV=>a6v V hV) (by rw[abL];omega) (by decide);rw[hB2.str] at C3;have C3':awY (strOfNums r2) ⟨#[115,116,97,110,100,97,108,111,110,101]⟩ 140 (strOfNums (orF (agS r2 acg aaP) r2)) (agS r2 acg aaP).isSome:=C3;have hB3:=(akB r2 acg aaP).2 hB2;have C4:=alU (strOfNums (orF (agS r2 acg aaP) r2));rw[hB3.str] at C4;exact auU s _ _ _ _ _ _ _ w hG (aac C0) (aac C1') (aac C2') (aac C3') (aac C4)
 · have h0':azp.isPrefixOf (aad s)=false:=Bool.eq_false_iff.2 h0;rw[h0',Bool.false_and];exact avd s w (aac fun W=>agl s ⟨#[120,109,108]⟩ W h0')
end Go.Proofs.YtiaebhomfebagaaGreatDoor
namespace Go.Proofs.YtiaebhomfebagaaGreatDoor
open Go.RowKit
def a3A (s:ByteArray)(x:Int):Prop:=∀ W,Calls Tryz.prog 113 #[.string s,.func (.func 59) #[] #[]] W fun e w'=>e=.returned (.int .i64 x)∧Below W.heap.size W w'
def PlC (t:ByteArray)(b:Bool):Prop:=∀ W,Calls Tryz.prog 38 #[.string t] W fun e w'=>e=.returned (.bool b)∧Below W.heap.size W w'
def FoC (t:ByteArray)(b:Bool):Prop:=∀ W,Gl W→Calls Tryz.prog 114 #[.string t,.string ⟨#[120,109,108]⟩] W fun e w'=>e=.returned (.bool b)∧Below W.heap.size W w'
def DeC (s:ByteArray)(b:Bool):Prop:=∀ W,Gl W→Calls Tryz.prog 115 #[.string s] W (aoC b W)
def Tgt (s t:ByteArray)(x:Int):Prop:=(x= -1∧t=s)∨∃ k:Nat,x=k∧k < s.size∧t=s.extract 0 k
theorem afg {w w1 w2:World}(hb1:Below (w.alloc (.cells #[.int .i64 0,.string ⟨#[]⟩,.bool false,.bool false] 44)).heap.size (w.alloc (.cells #[.int .i64 0,.string ⟨#[]⟩,.bool false,.bool false] 44)) w1)(hb2:Below w1.heap.size w1 w2):
 w.heap.size < w1.heap.size∧w.heap.size < w2.heap.size∧Below w.heap.size w w2∧aje w2 w.heap.size:=by
 have hz1:w.heap.size < w1.heap.size:=by have:=hb1.size;simp at this;omega
 have hb:=((Below.refl w.heap.size w).alloc (Nat.le_refl _) (.cells #[.int .i64 0,.string ⟨#[]⟩,.bool false,.bool false] 44)).trans (hb1.mono (by simp));exact⟨hz1,Nat.lt_of_lt_of_le hz1 hb2.size,hb.trans (hb2.mono hb.size),((abR w).keep hb1 (by simp)).keep hb2 hz1⟩
theorem acG {w w2 w3:World}(h:w.heap.size < w2.heap.size∧Below w.heap.size w w2∧aje w2 w.heap.size)(hb3:Below w2.heap.size w2 w3):w.heap.size < w3.heap.size∧Below w.heap.size w w3∧aje w3 w.heap.size:=
 ⟨Nat.lt_of_lt_of_le h.1 hb3.size,h.2.1.trans (hb3.mono h.2.1.size),h.2.2.keep hb3 h.1⟩
theorem ayQ (s t:ByteArray)(x at_:Int)(w:World)(hs:s.size≤2000000000)(ht:Tgt s t x)(C1:Hid (a3A s x))(C2:Hid (PlC t false)):Calls Tryz.prog 87 #[.string s,.int .i64 at_] w (abx (T0,4) w):=by
 rcases ht with ⟨rfl,rfl⟩ | ⟨k,rfl,hk,rfl⟩
 all_goals
  go_enter Tryz.func87,Tryz.ntmps87;go_wp2_with fail;refine(C1.out _).mono ?_;rintro e w1 ⟨rfl,hb1⟩;go_wp2_with fail;refine(C2.out _).mono ?_;rintro e w2 ⟨rfl,hb2⟩;obtain⟨hz1,hz2,hb,⟨c0,c1,c2,c3,f0,f1,f2,f3⟩⟩:=afg hb1 hb2;have HB:=aac hb;clear hb1 hb2 hb;go_wp2_with fail;exact bodyPost_ret (v:=.tuple #[tkV T0,.int .i64 4]) (by rw[tk0];simp[results,Tryz.results87,go_sem,c0,c1,c2,c3,hz2]) rfl ⟨rfl,aah HB.out (Nat.le_refl _) _ _ _ _⟩
theorem aon (s t:ByteArray)(x at_:Int)(w:World)(hG:Gl w)(hs:s.size≤2000000000)(ht:Tgt s t x)(C1:Hid (a3A s x))(C2:Hid (PlC t true))(C3:Hid (FoC t false)):Calls Tryz.prog 87 #[.string s,.int .i64 at_] w (abx (⟨5,aad s,false,false⟩,0) w):=by
 have HG:=aac (hG.alloc (.cells #[.int .i64 0,.string ⟨#[]⟩,.bool false,.bool false] 44));clear hG;rcases ht with ⟨rfl,rfl⟩ | ⟨k,rfl,hk,rfl⟩
 all_goals
  go_enter Tryz.func87,Tryz.ntmps87;go_wp2_with fail;refine(C1.out _).mono ?_;rintro e w1 ⟨rfl,hb1⟩;go_wp2_with fail;refine(C2.out _).mono ?_;rintro e w2 ⟨rfl,hb2⟩;have HG2:=aac ((HG.out.after hb1).after hb2);have h3:=(afg hb1 hb2).2;go_wp2_with fail;refine(C3.out _ HG2.out).mono ?_;rintro e w3 ⟨rfl,hb3⟩;obtain⟨hz2,hb,⟨c0,c1,c2,c3,f0,f1,f2,f3⟩⟩:=acG h3 hb3;have HB:=aac hb;clear hb1 hb2 hb3 hb h3;go_wp2_with fail;exact bodyPost_ret (v:=.tuple #[tkV ⟨5,aad _,false,false⟩,.int .i64 0]) (by unfold tkV;rw[abM];simp[results,Tryz.results87,go_sem,c0,c1,c2,c3,hz2]) rfl ⟨rfl,aah HB.out (Nat.le_refl _) _ _ _ _⟩
theorem aut (s t:ByteArray)(x at_:Int)(w:World)(hG:Gl w)(hs:s.size≤2000000000)(hat:at_≠0)(ht:Tgt s t x)(C1:Hid (a3A s x))(C2:Hid (PlC t true))(C3:Hid (FoC t true)):Calls Tryz.prog 87 #[.string s,.int .i64 at_] w (abx (T0,12) w):=by
 have HG:=aac (hG.alloc (.cells #[.int .i64 0,.string ⟨#[]⟩,.bool false,.bool false] 44));have t1:(at_ != 0)=true:=by rw[bne_iff_ne];exact hat
 clear hG hat;rcases ht with ⟨rfl,rfl⟩ | ⟨k,rfl,hk,rfl⟩
 all_goals
  go_enter Tryz.func87,Tryz.ntmps87;go_wp2_with fail;refine(C1.out _).mono ?_;rintro e w1 ⟨rfl,hb1⟩;go_wp2_with fail;refine(C2.out _).mono ?_;rintro e w2 ⟨rfl,hb2⟩;have HG2:=aac ((HG.out.after hb1).after hb2);have h3:=(afg hb1 hb2).2;go_wp2_with fail;refine(C3.out _ HG2.out).mono ?_;rintro e w3 ⟨rfl,hb3⟩;obtain⟨hz2,hb,⟨c0,c1,c2,c3,f0,f1,f2,f3⟩⟩:=acG h3 hb3;have HB:=aac hb;clear hb1 hb2 hb3 hb h3;go_wp2_with fail;exact bodyPost_ret (v:=.tuple #[tkV T0,.int .i64 12]) (by rw[tk0];simp[results,Tryz.results87,go_sem,c0,c1,c2,c3,hz2]) rfl ⟨rfl,aah HB.out (Nat.le_refl _) _ _ _ _⟩
theorem asV (s t:ByteArray)(x:Int)(b:Bool)(w:World)(hG:Gl w)(hs:s.size≤2000000000)(ht:Tgt s t x)(C1:Hid (a3A s x))(C2:Hid (PlC t true))(C3:Hid (FoC t true))(C4:Hid (DeC s b)):
 Calls Tryz.prog 87 #[.string s,.int .i64 0] w (abx (if b=true then (⟨5,aad s,false,false⟩,0) else (T0,12)) w):=by
 have HG:=aac (hG.alloc (.cells #[.int .i64 0,.string ⟨#[]⟩,.bool false,.bool false] 44));clear hG;cases b
 · simp only[Bool.false_eq_true,if_false];rcases ht with ⟨rfl,rfl⟩ | ⟨k,rfl,hk,rfl⟩
   all_goals
    go_enter Tryz.func87,Tryz.ntmps87;go_wp2_with fail;refine(C1.out _).mono ?_;rintro e w1 ⟨rfl,hb1⟩;go_wp2_with fail;refine(C2.out _).mono ?_;rintro e w2 ⟨rfl,hb2⟩;have HG2:=aac ((HG.out.after hb1).after hb2);have h3:=(afg hb1 hb2).2;go_wp2_with fail;refine(C3.out _ HG2.out).mono ?_;rintro e w3 ⟨rfl,hb3⟩;have h4:=acG h3 hb3;have HG3:=aac (HG2.out.after hb3);go_wp2_with fail;refine(C4.out _ HG3.out).mono ?_;rintro e w4 ⟨rfl,hb4⟩;obtain⟨hz2,hb,⟨c0,c1,c2,c3,f0,f1,f2,f3⟩⟩:=acG h4 hb4;have HB:=aac hb;clear hb1 hb2 hb3 hb4 hb h3 h4;go_wp2_with fail;exact bodyPost_ret (v:=.tuple #[tkV T0,.int .i64 12]) (by rw[tk0];simp[results,Tryz.results87,go_sem,c0,c1,c2,c3,hz2]) rfl ⟨rfl,aah HB.out (Nat.le_refl _) _ _ _ _⟩
 · simp only[if_true];rcases ht with ⟨rfl,rfl⟩ | ⟨k,rfl,hk,rfl⟩
   all_goals
    go_enter Tryz.func87,Tryz.ntmps87;go_wp2_with fail;refine(C1.out _).mono ?_;rintro e w1 ⟨rfl,hb1⟩;go_wp2_with fail;refine(C2.out _).mono ?_;rintro e w2 ⟨rfl,hb2⟩;have HG2:=aac ((HG.out.after hb1).after hb2);have h3:=(afg hb1 hb2).2;go_wp2_with fail;refine(C3.out _ HG2.out).mono ?_;rintro e w3 ⟨rfl,hb3⟩;have h4:=acG h3 hb3;have HG3:=aac (HG2.out.after hb3);go_wp2_with fail;refine(C4.out _ HG3.out).mono ?_;rintro e w4 ⟨rfl,hb4⟩;obtain⟨hz2,hb,⟨c0,c1,c2,c3,f0,f1,f2,f3⟩⟩:=acG h4 hb4;have HB:=aac hb;clear hb1 hb2 hb3 hb4 hb h3 h4;go_wp2_with fail;exact bodyPost_ret (v:=.tuple #[tkV ⟨5,aad _,false,false⟩,.int .i64 0]) (by unfold tkV;rw[abM];simp[results,Tryz.results87,go_sem,c0,c1,c2,c3,hz2]) rfl ⟨rfl,aah HB.out (Nat.le_refl _) _ _ _ _⟩
theorem arG (s:ByteArray):a4I (aad s)=Nz.bl s:=by
 unfold a4I aad Nz.bl;rw[List.map_map];exact List.map_congr_left fun x _=>by simp
theorem awD (t:ByteArray)(ht:t.size≤2000000000):FoC t (decide (abz (aad t)=azp)):=fun W hW=>by
 have C:=anL t ⟨#[120,109,108]⟩ W (by omega) (by decide) (fun j hj=>by
  have hj':j < 3:=hj;rcases(show j=0∨j=1∨j=2 by omega) with rfl | rfl | rfl;all_goals (unfold FO;decide)) hW
 have e:abz (aad ⟨#[120,109,108]⟩)=azp:=(by decide);rw[e] at C;exact C
theorem avo (s:ByteArray)(at_:Int)(w:World)(hs:s.size≤2000000000)(hG:Gl w):Calls Tryz.prog 87 #[.string s,.int .i64 at_] w (abx (afv (decide (at_=0)) (aad s)) w):=by
 obtain⟨t,x,ht,hb,C1⟩:∃ t x,Tgt s t x∧aad t=tgt (aad s)∧a3A s x:=by
  rcases arf s with ⟨h1,h2⟩ | ⟨k,h1,h2,h3⟩
  · exact⟨s,-1,.inl ⟨rfl,rfl⟩,h2.symm,fun W=>by have:=afJ s W;rw[h1] at this;exact this⟩
  · refine⟨s.extract 0 k,k,.inr ⟨k,rfl,h2,rfl⟩,?_,fun W=>by have:=afJ s W;rw[h1] at this;exact this⟩;rw[aal,h3,List.drop_zero]
 have hts:t.size≤2000000000:=by
  rw[← aae,hb];unfold tgt;have:=(List.takeWhile_prefix (fun c=> !aaZ c) (l:=aad s)).length_le;rw[aae] at this;omega
 have C2:PlC t (plB (tgt (aad s))):=fun W=>by
  have:=Nz.ace t W;unfold plB;rw[← hb,arG];exact this
 have C3:=awD t hts;rw[hb] at C3;have C4:DeC s (arJ (aad s)):=fun W hW=>avz s W hs hW;unfold afv
 cases hp:plB (tgt (aad s)) with
 | false=>
   rw[hp] at C2;exact ayQ s t x at_ w hs ht (aac C1) (aac C2)
 | true=>
   rw[hp] at C2;rw[if_neg (by simp)];by_cases hf:abz (tgt (aad s))=azp
   · rw[decide_eq_true hf] at C3;by_cases ha:at_=0
     · subst ha;have h:=asV s t x _ w hG hs ht (aac C1) (aac C2) (aac C3) (aac C4)
       cases hd:arJ (aad s) with
       | true=>
         rw[hd] at h;rw[if_neg (by simp)];exact h
       | false=>
         rw[hd] at h;rw[if_pos ⟨hf,.inr rfl⟩];exact h
     · rw[if_pos ⟨hf,.inl (decide_eq_false ha)⟩];exact aut s t x at_ w hG hs ha ht (aac C1) (aac C2) (aac C3)
   · rw[decide_eq_false hf] at C3;rw[if_neg (fun h=>hf h.1)];exact aon s t x at_ w hG hs ht (aac C1) (aac C2) (aac C3)
end Go.Proofs.YtiaebhomfebagaaGreatDoor
namespace Go.Proofs.YtiaebhomfebagaaGreatDoor
open Go.RowKit
theorem below_drewN' {B:Nat}{w w':World}(h:Below B w w')(n:Nat):Below B w (w'.drewN n):=⟨h.os,h.tape,h.output,h.size,h.block⟩
theorem a0F (m l:List Int): -1≤ahD m l∧ahD m l≤l.length:=by
 cases h:fnd m l with
 | none=>rw[acB h];omega
 | some n=>rw[acd h];have:=(acu h).1;omega
def aku (a b:Int)(ok:Bool)(w:World)(e:Ending)(w':World):Prop:=e=.returned (.tuple #[.int .i64 a,.int .i64 b,.bool ok])∧Below w.heap.size w w'
theorem azz (r m:ByteArray)(b:Nat)(x:Int)(ok:Bool)(w:World)(hm:m.size≤100)(hx: -1≤x)(hx2:x≤1000000000000)(hok:decide (0≤x)=ok)(hc:w.cell? ⟨b,0,none⟩=some (.string m))
 (C:Hid (Calls Tryz.prog 69 #[.string r,.string m] w fun e w'=>e=.returned (.int .i64 x)∧w=w')):
 Calls Tryz.prog 109 #[.string r,.pointer (some ⟨b,0,none⟩)] w (aku x (x+m.size) ok w):=by
 have q2:IntKind.i64.wrap (x+(m.size:Int))=x+(m.size:Int):=IntWalk.i64_in _ (by omega);go_enter Tryz.func109,Tryz.ntmps109;go_wp2_with fail;refine C.out.mono ?_;rintro e w1 ⟨rfl,rfl⟩;go_wp2_with fail;go_quiet (fail);go_wp2_with fail;go_ret3;exact⟨by cases hok;rfl,below_drewN' (Below.refl _ _) _⟩
theorem awz (r m:ByteArray)(b:Nat)(w:World)(hr:r.size≤2000000000)(hm:m.size≤100)(hc:w.cell? ⟨b,0,none⟩=some (.string m))(hG:Gl w):
 Calls Tryz.prog 109 #[.string r,.pointer (some ⟨b,0,none⟩)] w (aku (ahD (aad m) (aad r)) (ahD (aad m) (aad r)+m.size) (decide (0≤ahD (aad m) (aad r))) w):=by
 have h:=a0F (aad m) (aad r);rw[aae] at h;exact azz r m b _ _ w hm h.1 (by omega) rfl hc (aac (ajM r m w (by omega) hG))
def a5G (s:ByteArray)(qv i:Value):Prop:=
 ∃ (k:Nat) (q:Int),k≤s.size∧0≤q∧q < 256∧qv=.int .u8 q∧i=.int .i64 k∧unq 0 (aad s)=(unq q ((aad s).drop k)).map (· +k)
theorem ail (o:Option Nat)(k:Nat):(o.map (· +1)).map (· +k)=o.map (· +(k+1)):=by
 cases o with
 | none=>rfl
 | some n=>simp only[Option.map_some];congr 1;omega
theorem avb (L:List Int)(q:Int)(k:Nat)(h:k < L.length):
 unq q (L.drop k)=if q≠0 then (unq (if L.getD k 0=q then 0 else q) (L.drop (k+1))).map (· +1) else if L.getD k 0=34∨L.getD k 0=39 then (unq (L.getD k 0) (L.drop (k+1))).map (· +1) else if L.getD k 0=62 then some 0 else (unq 0 (L.drop (k+1))).map (· +1):=by
 rw[List.drop_eq_getElem_cons h,List.getD_eq_getElem?_getD,List.getElem?_eq_getElem h,Option.getD_some];rfl
def anw (o:Option Nat)(w:World)(e:Ending)(w':World):Prop:=e=.returned (.tuple #[.int .i64 (match o with | some n=>(n:Int) | none=>0),.int .i64 (match o with | some n=>((n+1:Nat):Int) | none=>0),.bool o.isSome])∧w=w'
theorem ayT {o:Option Nat}{n:Nat}{w w':World}{e:Ending}(h:o=some n)(he:e=.returned (.tuple #[.int .i64 (n:Int),.int .i64 ((n:Int)+1),.bool true]))(hw:w=w'):anw o w e w':=by
 subst h;exact⟨by rw[he];rfl,hw⟩
theorem azx {o:Option Nat}{w w':World}{e:Ending}(h:o=none)(he:e=.returned (.tuple #[.int .i64 0,.int .i64 0,.bool false]))(hw:w=w'):anw o w e w':=by
 subst h;exact⟨he,hw⟩
theorem aja (s:ByteArray)(w:World)(hs:s.size≤1000000000000):Calls Tryz.prog 89 #[.string s] w (anw (unq 0 (aad s)) w):=by
 go_enter Tryz.func89,Tryz.ntmps89;go_wp2_with fail;go_loop [5,10] (fun q i=>a5G s q i) (fun _ i=>s.size - (intOf i).toNat);case atStart=>exact⟨0,0,Nat.zero_le _,by omega,by omega,rfl,rfl,by simp⟩
 case round=>
  obtain⟨k,q,hk,hq0,hq1,rfl,rfl,hu⟩:=hrel;by_cases hlt:k < s.size
  · have hb:=ajc s k hlt;have hb0:=akz s k;have hb1:=aru s k;have hstep:=avb (aad s) q k (by rw[aae];exact hlt);rw[← acT] at hstep;rw[hstep] at hu;clear hstep;have hk1:(k:Int) < (s.size:Int):=(by omega);generalize bt s k=c at *;by_cases hqz:q=0
    · subst hqz;rw[if_neg (by omega)] at hu;by_cases h1:c=34∨c=39
      · rw[if_pos h1,ail] at hu;have HU:=aac hu;clear hu;rcases h1 with h1 | h1
        all_goals
         have t1:(c == 34)=decide (c=34):=by rw[Bool.eq_iff_iff];simp
         subst h1;go_wp2_with fail;go_round;case rel=>exact⟨k+1,_,by omega,by omega,by omega,rfl,by go_num,HU.out⟩
         case measure=>simp only[intOf];omega
      · rw[if_neg h1] at hu;have t1:(c == 34)=false:=by rw[beq_eq_false_iff_ne];omega
        have t2:(c == 39)=false:=by rw[beq_eq_false_iff_ne];omega
        by_cases h2:c=62
        · rw[if_pos h2] at hu;have HU:=aac hu;clear hu;subst h2;go_wp2_with fail;go_ret3;exact ayT (n:=k) (by rw[HU.out];simp) rfl rfl
        · rw[if_neg h2,ail] at hu;have HU:=aac hu;clear hu;have t3:(c == 62)=false:=by rw[beq_eq_false_iff_ne];omega
          go_wp2_with fail;go_round;case rel=>exact⟨k+1,0,by omega,by omega,by omega,rfl,by go_num,HU.out⟩
          case measure=>simp only[intOf];omega
    · rw[if_pos hqz,ail] at hu;have t0:(q == 0)=false:=by rw[beq_eq_false_iff_ne];exact hqz
      have t0':(q != 0)=true:=by rw[bne_iff_ne];exact hqz
      by_cases h1:c=q
      · rw[if_pos h1] at hu;have HU:=aac hu;clear hu;have t1:(c == q)=true:=by rw[beq_iff_eq];exact h1
        go_wp2_with fail;go_round;case rel=>exact⟨k+1,0,by omega,by omega,by omega,rfl,by go_num,HU.out⟩
        case measure=>simp only[intOf];omega
      · rw[if_neg h1] at hu;have HU:=aac hu;clear hu;have t1:(c == q)=false:=by rw[beq_eq_false_iff_ne];exact h1
        go_wp2_with fail;go_round;case rel=>exact⟨k+1,q,by omega,by omega,by omega,rfl,by go_num,HU.out⟩
        case measure=>simp only[intOf];omega
  · have hkk:k=s.size:=(by omega);rw[hkk,List.drop_of_length_le (by rw[aae];omega)] at hu;have HU:=aac hu;clear hu;have hk1:¬ (k:Int) < (s.size:Int):=(by omega);go_wp2_with fail;go_ret3;exact azx (by rw[HU.out];simp[unq]) rfl rfl
end Go.Proofs.YtiaebhomfebagaaGreatDoor
