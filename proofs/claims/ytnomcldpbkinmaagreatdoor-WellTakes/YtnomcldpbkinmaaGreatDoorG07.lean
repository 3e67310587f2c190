/- Lemmas of the claim. -/
import Derived.Test.YtnomcldpbkinmaaGreatDoorG06
import Derived.Test.YtnomcldpbkinmaaGreatDoorG01
import Derived.Test.YtnomcldpbkinmaaGreatDoorG05
import Derived.Deep.QuietTactic
import Derived.BigQuiet
import Derived.Deep.RegionWith
set_option maxHeartbeats 1000000
set_option maxRecDepth 100000
set_option linter.unusedSimpArgs false
set_option linter.unusedVariables false
namespace Go.Proofs.YtnomcldpbkinmaaGreatDoor.Nz
open Go.RowKit
theorem below_drewN {B:Nat}{w w':World}(h:Below B w w')(n:Nat):Below B w (w'.drewN n):=⟨h.os,h.tape,h.output,h.size,h.block⟩
def ci (s:ByteArray):Int:=Lib.indexByte s.data.toList 58
theorem aeW:∀ (l:List UInt8),(Lib.indexByte l 58= -1∧58 ∉ l.map UInt8.toNat)∨
 ∃ i:Nat,Lib.indexByte l 58=i∧i < l.length∧l.map UInt8.toNat=(l.map UInt8.toNat).take i++58 :: (l.map UInt8.toNat).drop (i+1)∧58 ∉ (l.map UInt8.toNat).take i
 | []=>.inl ⟨rfl,by simp⟩
 | b :: l=>by
   unfold Lib.indexByte;by_cases hb:b=58
   · subst hb;exact .inr ⟨0,by simp,by simp,by simp,by simp⟩
   · have hb1:(b == 58)=false:=(by simpa using hb);have hb2:b.toNat≠58:=fun h=>hb (UInt8.toNat_inj.1 (by rw[h];rfl));rw[hb1];rcases aeW l with ⟨h1,h2⟩ | ⟨i,h1,h2,h3,h4⟩
     · refine .inl ⟨by rw[h1];rfl,?_⟩;rw[List.map_cons,List.mem_cons];rintro (h | h)
       · exact hb2 h.symm
       · exact h2 h
     · refine .inr ⟨i+1,?_,by simp;omega,?_,?_⟩
       · rw[h1];have:(((i:Int)) == -1)=false:=by rw[beq_eq_false_iff_ne];omega
         simp[this]
       · rw[List.map_cons,List.take_succ_cons,List.drop_succ_cons,List.cons_append,← h3]
       · rw[List.map_cons,List.take_succ_cons,List.mem_cons];rintro (h | h)
         · exact hb2 h.symm
         · exact h4 h
theorem afY (s:ByteArray):(ci s= -1∧58 ∉ bl s)∨∃ i:Nat,ci s=i∧i < s.size∧bl s=(bl s).take i++58 :: (bl s).drop (i+1)∧58 ∉ (bl s).take i:=by
 have:=aeW s.data.toList;rw[← Lib.size_eq] at this;exact this
def em:ByteArray:=⟨#[]⟩
def aao (s:ByteArray):ByteArray × ByteArray × Bool:=
 if ci s= -1 then (if pl (bl s)=true then (em,s,true) else (em,em,false))
 else if pl (bl (s.extract 0 (ci s).toNat))=true∧pl (bl (s.extract ((ci s).toNat+1) s.size))=true then (s.extract 0 (ci s).toNat,s.extract ((ci s).toNat+1) s.size,true) else (em,em,false)
theorem aeU (s:ByteArray)(i:Nat):bl (s.extract 0 i)=(bl s).take i:=by rw[aho];simp
theorem aiC (s:ByteArray)(i:Nat):bl (s.extract i s.size)=(bl s).drop i:=ajI s i
theorem aeN (s:ByteArray)(c:Int)(w:World):
 Calls Tryz.prog 137 #[.string s,.int .u8 c] w fun e w'=>e=.returned (.int .i64 (Lib.indexByte s.data.toList c.toNat.toUInt8))∧w=w':=by
 go_enter Tryz.func137,Tryz.ntmps137;go_wp2;rw[run_callFunc_extern Tryz.func168 (by kernel_rfl) (by kernel_rfl) (by kernel_rfl) (e:=Extern.BytealgIndexByte.indexByte) (by kernel_rfl),Lib.run_indexByteString];simp only[Result.andThen];rw[Oper.upon_value];go_wp2;go_ret;exact⟨rfl,rfl⟩
theorem ahv (s:ByteArray)(w:World):
 Calls Tryz.prog 113 #[.string s,.string ⟨#[58]⟩] w fun e w'=>e=.returned (.int .i64 (ci s))∧w=w':=by
 go_enter Tryz.func113,Tryz.ntmps113;go_wp2_with (go_at_call 137;refine(aeN _ _ _).mono ?_;rintro e w' ⟨rfl,rfl⟩)
 · have h:([58] == s.toList)=true:=(by assumption);go_ret;refine⟨?_,rfl⟩;have e:s.data.toList=[58]:=by rw[← Lib.toList_data];exact(beq_iff_eq.1 h).symm
   unfold ci;rw[e];rfl
 · go_ret;exact⟨rfl,rfl⟩
theorem aje (s:ByteArray)(i:Nat)(h:ci s=i)(hi:i < s.size)(hs:s.size≤1000000)(w:World):
 Calls Tryz.prog 154 #[.string s,.string ⟨#[58]⟩] w fun e w'=>e=.returned (.tuple #[.string (s.extract 0 i),.string (s.extract (i+1) s.size),.bool true])∧Below w.heap.size w w':=by
 have CI:=aac (ahv s);rw[h] at CI;clear h;have c1:(0:Int)≤(i:Int):=(by omega);have c2:(i:Int)≤(s.size:Int):=(by omega);have c3:(0:Int)≤(i:Int)+1:=(by omega);have c4:(i:Int)+1≤(s.size:Int):=(by omega);have c5:decide ((0:Int)≤(i:Int))=true:=(by simp);have q3:((i:Int)+1).toNat=i+1:=(by omega);have q2:IntKind.i64.wrap ((i:Int)+1)=(i:Int)+1:=IntWalk.i64_in _ (by omega);go_enter Tryz.func154,Tryz.ntmps154;go_wp2_with (go_at_call 113;refine(CI.out _).mono ?_;rintro e w' ⟨rfl,rfl⟩);go_quiet (fail);go_wp2;go_ret3;exact⟨rfl,below_drewN (Below.refl _ _) _⟩
theorem agY (s:ByteArray)(h:ci s= -1)(w:World):
 Calls Tryz.prog 154 #[.string s,.string ⟨#[58]⟩] w fun e w'=>e=.returned (.tuple #[.string s,.string ⟨#[]⟩,.bool false])∧Below w.heap.size w w':=by
 have CI:=aac (ahv s);rw[h] at CI;clear h;go_enter Tryz.func154,Tryz.ntmps154;go_wp2_with (go_at_call 113;refine(CI.out _).mono ?_;rintro e w' ⟨rfl,rfl⟩);go_ret3;exact⟨rfl,Below.refl _ _⟩
theorem afR (s:ByteArray)(i:Nat)(h:ci s=i)(hi:i < s.size)(hs:s.size≤1000000)(w:World):
 Calls Tryz.prog 123 #[.string s,.string ⟨#[58]⟩] w fun e w'=>e=.returned (.tuple #[.string (s.extract 0 i),.string (s.extract (i+1) s.size),.bool true])∧Below w.heap.size w w':=by
 have CL:=aac (aje s i h hi hs);clear h hi hs;go_enter Tryz.func123,Tryz.ntmps123;go_wp2_with (go_at_call 154;refine(CL.out _).mono ?_;rintro e w' ⟨rfl,hb⟩);go_ret3;exact⟨rfl,hb⟩
theorem agD (s:ByteArray)(h:ci s= -1)(w:World):
 Calls Tryz.prog 123 #[.string s,.string ⟨#[58]⟩] w fun e w'=>e=.returned (.tuple #[.string s,.string ⟨#[]⟩,.bool false])∧Below w.heap.size w w':=by
 have CL:=aac (agY s h);clear h;go_enter Tryz.func123,Tryz.ntmps123;go_wp2_with (go_at_call 154;refine(CL.out _).mono ?_;rintro e w' ⟨rfl,hb⟩);go_ret3;exact⟨rfl,hb⟩
end Go.Proofs.YtnomcldpbkinmaaGreatDoor.Nz
namespace Go.Proofs.YtnomcldpbkinmaaGreatDoor.Nz
open Go.RowKit
theorem ark (s:ByteArray)(w:World):
 Calls Tryz.prog 124 #[.string s] w fun e w'=>e=.returned (.tuple #[.string em,.string (if pl (bl s)=true then s else em),.bool (pl (bl s))])∧Below w.heap.size w w':=by
 have CL:=aac (adg s);cases hp:pl (bl s) <;> rw[hp] at CL <;> clear hp
 · go_enter Tryz.func124,Tryz.ntmps124;go_wp2_with (go_at_call 125;refine(CL.out _).mono ?_;rintro e w' ⟨rfl,hb⟩);go_ret3;exact⟨rfl,hb⟩
 · go_enter Tryz.func124,Tryz.ntmps124;go_wp2_with (go_at_call 125;refine(CL.out _).mono ?_;rintro e w' ⟨rfl,hb⟩);go_ret3;exact⟨rfl,hb⟩
theorem aoI (s res:ByteArray)(ok:Bool)(CS:Hid (∀ w,Calls Tryz.prog 123 #[.string s,.string ⟨#[58]⟩] w fun e w'=>e=.returned (.tuple #[.string s,.string ⟨#[]⟩,.bool false])∧Below w.heap.size w w'))
 (CA:Hid (∀ w,Calls Tryz.prog 124 #[.string s] w fun e w'=>e=.returned (.tuple #[.string em,.string res,.bool ok])∧Below w.heap.size w w')) (w:World):
 Calls Tryz.prog 99 #[.string s] w fun e w'=>e=.returned (.tuple #[.string em,.string res,.bool ok])∧Below w.heap.size w w':=by
 go_enter Tryz.func99,Tryz.ntmps99;go_wp2_with fail;refine(CS.out _).mono ?_;rintro e w1 ⟨rfl,hb1⟩;go_wp2_with fail;refine(CA.out _).mono ?_;rintro e w2 ⟨rfl,hb2⟩;go_wp2_with fail;go_ret3;exact⟨rfl,hb1.trans (hb2.mono hb1.size)⟩
theorem arX (s p l:ByteArray)(CS:Hid (∀ w,Calls Tryz.prog 123 #[.string s,.string ⟨#[58]⟩] w fun e w'=>e=.returned (.tuple #[.string p,.string l,.bool true])∧Below w.heap.size w w'))
 (CP:Hid (∀ w,Calls Tryz.prog 125 #[.string p] w fun e w'=>e=.returned (.bool false)∧Below w.heap.size w w')) (w:World):
 Calls Tryz.prog 99 #[.string s] w fun e w'=>e=.returned (.tuple #[.string em,.string em,.bool false])∧Below w.heap.size w w':=by
 go_enter Tryz.func99,Tryz.ntmps99;go_wp2_with fail;refine(CS.out _).mono ?_;rintro e w1 ⟨rfl,hb1⟩;go_wp2_with fail;refine(CP.out _).mono ?_;rintro e w2 ⟨rfl,hb2⟩;go_wp2_with fail;go_ret3;exact⟨rfl,hb1.trans (hb2.mono hb1.size)⟩
theorem aqv (s p l:ByteArray)(ok:Bool)(CS:Hid (∀ w,Calls Tryz.prog 123 #[.string s,.string ⟨#[58]⟩] w fun e w'=>e=.returned (.tuple #[.string p,.string l,.bool true])∧Below w.heap.size w w'))
 (CP:Hid (∀ w,Calls Tryz.prog 125 #[.string p] w fun e w'=>e=.returned (.bool true)∧Below w.heap.size w w'))
 (CL:Hid (∀ w,Calls Tryz.prog 125 #[.string l] w fun e w'=>e=.returned (.bool ok)∧Below w.heap.size w w')) (w:World):
 Calls Tryz.prog 99 #[.string s] w fun e w'=>e=.returned (.tuple #[.string (if ok=true then p else em),.string (if ok=true then l else em),.bool ok])∧Below w.heap.size w w':=by
 cases ok
 all_goals
  go_enter Tryz.func99,Tryz.ntmps99;go_wp2_with fail;refine(CS.out _).mono ?_;rintro e w1 ⟨rfl,hb1⟩;go_wp2_with fail;refine(CP.out _).mono ?_;rintro e w2 ⟨rfl,hb2⟩;go_wp2_with fail;refine(CL.out _).mono ?_;rintro e w3 ⟨rfl,hb3⟩;go_wp2_with fail;go_ret3;exact⟨rfl,(hb1.trans (hb2.mono hb1.size)).trans (hb3.mono (by have:=hb1.size;have:=hb2.size;omega))⟩
theorem aeF (s:ByteArray)(hs:s.size≤1000000)(w:World):
 Calls Tryz.prog 99 #[.string s] w fun e w'=>e=.returned (.tuple #[.string (aao s).1,.string (aao s).2.1,.bool (aao s).2.2])∧Below w.heap.size w w':=by
 rcases afY s with ⟨h1,h2⟩ | ⟨i,h1,h2,h3,h4⟩
 · have e1:aao s=(em,(if pl (bl s)=true then s else em),pl (bl s)):=by
    unfold aao;rw[if_pos h1];cases hp:pl (bl s) <;> simp
   rw[e1];exact aoI s _ _ (aac (agD s h1)) (aac (ark s)) w
 · have e1:aao s=if pl (bl (s.extract 0 i))=true∧pl (bl (s.extract (i+1) s.size))=true then (s.extract 0 i,s.extract (i+1) s.size,true) else (em,em,false):=by
    unfold aao;rw[if_neg (by rw[h1];omega),h1];rfl
   rw[e1];have CP:=adg (s.extract 0 i);have CL:=adg (s.extract (i+1) s.size);cases hp:pl (bl (s.extract 0 i))
   · rw[hp] at CP;rw[if_neg (by simp)];exact arX s _ _ (aac (afR s i h1 h2 hs)) (aac CP) w
   · rw[hp] at CP;have:=aqv s _ _ _ (aac (afR s i h1 h2 hs)) (aac CP) (aac CL) w;cases hl:pl (bl (s.extract (i+1) s.size))
     · rw[hl] at this;exact this
     · rw[hl] at this;exact this
def Hit (s:ByteArray)(i:Nat):Prop:=i < s.size∧(bl s).getD i 0=58∧pl ((bl s).take i)=true∧pl ((bl s).drop (i+1))=true
theorem agt {s:ByteArray}(h:pl (bl s)=true):aao s=(em,s,true):=by
 rcases afY s with ⟨h1,h2⟩ | ⟨i,h1,h2,h3,h4⟩
 · unfold aao;rw[if_pos h1,if_pos h]
 · rw[h3,amE] at h;exact absurd h (by simp)
theorem aiw (L:List Nat)(i j:Nat)(h:i < j)(hj:j≤L.length)(he:L.getD i 0=58):58∈L.take j:=by
 rw[List.getD_eq_getElem?_getD,List.getElem?_eq_getElem (by omega)] at he;have he':L[i]'(by omega)=58:=he;rw[← he'];exact List.mem_iff_getElem.2 ⟨i,by simp;omega,by simp⟩
theorem ajv {s:ByteArray}{i:Nat}(h:Hit s i):aao s=(s.extract 0 i,s.extract (i+1) s.size,true):=by
 obtain⟨g1,g2,g3,g4⟩:=h;rcases afY s with ⟨h1,h2⟩ | ⟨j,h1,h2,h3,h4⟩
 · refine absurd (List.mem_of_mem_take (aiw (bl s) i (i+1) (by omega) (by rw[aaS];omega) g2)) h2
 · have hij:i=j:=by
    rcases Nat.lt_trichotomy i j with h | h | h
    · exact absurd (aiw (bl s) i j h (by rw[aaS];omega) g2) h4
    · exact h
    · have hj:(bl s).getD j 0=58:=by
       rw[h3,List.getD_eq_getElem?_getD,List.getElem?_append_right (by simp;omega)];simp[aaS];rw[Nat.min_eq_left (by omega),Nat.sub_self];rfl
      rw[ash _ (aiw (bl s) j i h (by rw[aaS];omega) hj)] at g3;exact absurd g3 (by simp)
   subst hij;unfold aao;rw[if_neg (by rw[h1];omega),h1,Int.toNat_natCast,aeU,aiC,if_pos ⟨g3,g4⟩]
theorem agK {s:ByteArray}(h:pl (bl s)=false)(hn:∀ i,i < s.size→¬ Hit s i):aao s=(em,em,false):=by
 rcases afY s with ⟨h1,h2⟩ | ⟨j,h1,h2,h3,h4⟩
 · unfold aao;rw[if_pos h1,h];rfl
 · have hj:(bl s).getD j 0=58:=by
    rw[h3,List.getD_eq_getElem?_getD,List.getElem?_append_right (by simp;omega)];simp[aaS];rw[Nat.min_eq_left (by omega),Nat.sub_self];rfl
   unfold aao;rw[if_neg (by rw[h1];omega),h1,Int.toNat_natCast,aeU,aiC,if_neg];rintro ⟨g3,g4⟩;exact hn j h2 ⟨h2,hj,g3,g4⟩
end Go.Proofs.YtnomcldpbkinmaaGreatDoor.Nz
namespace Go.Proofs.YtnomcldpbkinmaaGreatDoor
structure Tk where
 kind:Int
 text:List Int
 empty:Bool
 blank:Bool
def T0:Tk:=⟨0,[],false,false⟩
def aiy (l:List Int):List Nat:=l.map Int.toNat
def plB (l:List Int):Bool:=Nz.pl (aiy l)
def nmB (l:List Int):Bool:=(Nz.aao (strOfNums l)).2.2
def quo (q:Int):Prop:=q=34∨q=39
instance (q:Int):Decidable (quo q):=inferInstanceAs (Decidable (q=34∨q=39))
def aeT (q:Int)(r:List Int)(ok:List Int→Bool):Option (List Int):=
 match fnd [q] r with
 | none=>none
 | some n=>if ok (r.take n)=true then some (r.drop (n+1)) else none
def afK (l key:List Int)(ok:List Int→Bool):Option (List Int):=
 if (l.dropWhile abf).length=l.length then none
 else if (key++[61]).isPrefixOf (l.dropWhile abf)=true then
  match (l.dropWhile abf).drop (key.length+1) with
  | []=>none
  | q :: r=>if quo q then aeT q r ok else none
 else none
def orF (x:Option (List Int))(d:List Int):List Int:=match x with | some r=>r | none=>d
def acJ:List Int:=[118,101,114,115,105,111,110]
def abX:List Int:=[101,110,99,111,100,105,110,103]
def abI:List Int:=[115,116,97,110,100,97,108,111,110,101]
def abn (l:List Int):Bool:=decide (l=[49,46,48])
def aaW (l:List Int):Bool:=decide (aau l=[117,116,102,45,56])
def aaH (l:List Int):Bool:=decide (l=[121,101,115]∨l=[110,111])
def a2h (l:List Int):Bool:=(orF (afK l abI aaH) l).all abf
def a4k (l:List Int):Bool:=a2h (orF (afK l abX aaW) l)
def air (l:List Int):Bool:=match afK l acJ abn with | none=>false | some r=>a4k r
def agx:List Int:=[120,109,108]
def ajN (l:List Int):Bool:=agx.isPrefixOf l && air (l.drop 3)
def aeA (l:List Int):Tk × Int:=(⟨3,acB l,false,false⟩,0)
def acg (l:List Int):Tk × Int:=if (fnd [45,45] l).isSome=true∨l.getLast?=some 45 then (T0,6) else (⟨4,l,false,false⟩,0)
def tgt (l:List Int):List Int:=l.takeWhile fun c=> !abf c
def aee (z:Bool)(l:List Int):Tk × Int:=
 if plB (tgt l)=false then (T0,4) else if aau (tgt l)=agx∧(z=false∨ajN l=false) then (T0,12) else (⟨5,l,false,false⟩,0)
def akE (l:List Int):Tk × Int:=if nmB (adE l)=false then (T0,4) else (⟨2,adE l,false,false⟩,0)
def abZ (l:List Int):Tk × Int:=
 if (60:Int)∈l then (T0,6) else if l.getLast?=some 47 then (⟨1,l.dropLast,true,false⟩,0) else (⟨1,l,false,false⟩,0)
def fin (b n m:Nat)(rd:List Int→Tk × Int)(r:List Int):Tk × Nat × Int:=
 if aaz (r.take (n+m))≠0 then (T0,0,aaz (r.take (n+m))) else if (rd (r.take n)).2≠0 then (T0,0,(rd (r.take n)).2) else ((rd (r.take n)).1,b+(n+m),0)
def span (b:Nat)(stop:List Int)(rd:List Int→Tk × Int)(l:List Int):Tk × Nat × Int:=
 match fnd stop (l.drop b) with
 | none=>(T0,0,7)
 | some n=>fin b n stop.length rd (l.drop b)
def aeX (l:List Int):Tk × Nat × Int:=
 match unq 0 (l.drop 1) with
 | none=>(T0,0,7)
 | some n=>fin 1 n 1 abZ (l.drop 1)
def aaF:List Int:=[60,33,91,67,68,65,84,65,91]
def abB:List Int:=[60,33,45,45]
def aei:List Int:=[60,33,68,79,67,84,89,80,69]
def acu:List Int:=[60,33]
def acT:List Int:=[60,63]
def ajs:List Int:=[60,47]
def adJ:List Int:=[93,93,62]
def apt:List Int:=[45,45,62]
def aqZ:List Int:=[63,62]
def a1g:List Int:=[62]
def ahC (z:Bool)(l:List Int):Tk × Nat × Int:=
 if aaF.isPrefixOf l=true then span 9 adJ aeA l
 else if abB.isPrefixOf l=true then span 4 apt acg l
 else if acT.isPrefixOf l=true then span 2 aqZ (aee z) l
 else if ajs.isPrefixOf l=true then span 2 a1g akE l
 else if acu.isPrefixOf l=true then
  (if aei.isPrefixOf l=true then (T0,0,12) else if l.isPrefixOf aaF=true∨l.isPrefixOf abB=true∨l.isPrefixOf aei=true then (T0,0,7) else (T0,0,6))
 else aeX l
def ade (l:List Int)(n:Nat):Tk × Nat × Int:=
 if aaz (l.take n)≠0 then (T0,0,aaz (l.take n)) else if (fnd adJ (l.take n)).isSome=true then (T0,0,6)
 else if (abH false (l.take n)).2.2≠0 then (T0,0,(abH false (l.take n)).2.2) else (⟨3,(abH false (l.take n)).1,false,(l.take n).all abf⟩,n,0)
def afC (more:Bool)(l:List Int):Tk × Nat × Int:=
 match fnd [60] l with
 | some n=>ade l n
 | none=>if more=true then (T0,0,7) else ade l l.length
def abm (z more:Bool)(l:List Int):Tk × Nat × Int:=
 if l=[] then (if more=true then (T0,0,7) else (⟨6,[],false,false⟩,0,0)) else if l.getD 0 0=60 then ahC z l else afC more l
theorem a1W (b n m:Nat)(rd:List Int→Tk × Int)(r:List Int)(h:(fin b n m rd r).2.2=0):(fin b n m rd r).2.1=b+(n+m):=by
 unfold fin at *;split at h
 · rename_i h1;exact absurd h h1
 · rename_i h1;rw[if_neg h1];split at h
   · rename_i h2;exact absurd h h2
   · rename_i h2;rw[if_neg h2]
theorem a3K (b n m:Nat)(rd:List Int→Tk × Int)(r:List Int)(h:(fin b n m rd r).2.2≠0):(fin b n m rd r).1=T0∧(fin b n m rd r).2.1=0:=by
 unfold fin at *;split at h
 · rename_i h1;rw[if_pos h1];exact⟨rfl,rfl⟩
 · rename_i h1;rw[if_neg h1];split at h
   · rename_i h2;rw[if_pos h2];exact⟨rfl,rfl⟩
   · rename_i h2;exact absurd rfl h
structure Fit (l:List Int)(x:Tk × Nat × Int):Prop where
 zero:x.2.2≠0→x.1=T0∧x.2.1=0
 size:x.2.2=0→1≤x.2.1∧x.2.1≤l.length∧x.1.kind≠6∧1≤x.1.kind∧x.1.kind≤6
theorem adk (l:List Int)(e:Int)(he:e≠0):Fit l (T0,0,e):=⟨fun _=>⟨rfl,rfl⟩,fun h=>absurd h he⟩
def Kd (rd:List Int→Tk × Int):Prop:=∀ l,(rd l).2=0→(rd l).1.kind≠6∧1≤(rd l).1.kind∧(rd l).1.kind≤6
theorem aqD (b n m:Nat)(rd:List Int→Tk × Int)(r l:List Int)(hk:Kd rd)(hb:1≤b)(h:b+(n+m)≤l.length):Fit l (fin b n m rd r):=by
 refine⟨a3K b n m rd r,fun h0=> ?_⟩;have h1:=a1W b n m rd r h0;refine⟨by omega,by omega,?_⟩;unfold fin at h0 ⊢;split at h0
 · rename_i h1;exact absurd h0 h1
 · rename_i h1;rw[if_neg h1];split at h0
   · rename_i h2;exact absurd h0 h2
   · rename_i h2;rw[if_neg h2];exact hk _ (by simpa using h2)
theorem agm (b:Nat)(stop:List Int)(rd:List Int→Tk × Int)(l:List Int)(hk:Kd rd)(hb:1≤b)(hl:b≤l.length):Fit l (span b stop rd l):=by
 unfold span;split
 · exact adk l 7 (by omega)
 · rename_i n hn;have:=(abG hn).1;rw[List.length_drop] at this;exact aqD b n _ rd _ l hk hb (by omega)
theorem ayf:Kd aeA:=fun l h=>by simp[aeA]
theorem axe:Kd acg:=fun l h=>by
 unfold acg at *;split at h
 · simp at h
 · rename_i h1;rw[if_neg h1];simp
theorem ayx (z:Bool):Kd (aee z):=fun l h=>by
 unfold aee at *;split at h
 · simp at h
 · rename_i h1;rw[if_neg h1];split at h
   · simp at h
   · rename_i h2;rw[if_neg h2];simp
theorem a0x:Kd akE:=fun l h=>by
 unfold akE at *;split at h
 · simp at h
 · rename_i h1;rw[if_neg h1];simp
theorem avb:Kd abZ:=fun l h=>by
 unfold abZ at *;split at h
 · simp at h
 · rename_i h1;rw[if_neg h1];split <;> simp
theorem apM (l:List Int):Fit l (aeX l):=by
 unfold aeX;split
 · exact adk l 7 (by omega)
 · rename_i n hn;have:=(akJ _ _ n [] hn).2;rw[List.length_drop] at this;exact aqD 1 n 1 abZ _ l avb (by omega) (by omega)
theorem ahc {p l:List Int}(h:p.isPrefixOf l=true):p.length≤l.length:=(List.isPrefixOf_iff_prefix.1 h).length_le
theorem avd (z:Bool)(l:List Int):Fit l (ahC z l):=by
 unfold ahC;split
 · rename_i h;exact agm 9 adJ aeA l ayf (by omega) (ahc h)
 · split
   · rename_i h;exact agm 4 apt acg l axe (by omega) (ahc h)
   · split
     · rename_i h;exact agm 2 aqZ _ l (ayx z) (by omega) (ahc h)
     · split
       · rename_i h;exact agm 2 a1g akE l a0x (by omega) (ahc h)
       · split
         · split
           · exact adk l 12 (by omega)
           · split
             · exact adk l 7 (by omega)
             · exact adk l 6 (by omega)
         · exact apM l
theorem ajG (l:List Int)(n:Nat)(h1:1≤n)(h2:n≤l.length):Fit l (ade l n):=by
 unfold ade;split
 · rename_i h;exact adk l _ h
 · split
   · exact adk l 6 (by omega)
   · split
     · rename_i h;exact adk l _ h
     · exact⟨fun h=>absurd rfl h,fun _=>⟨h1,h2,by simp⟩⟩
theorem atS {l:List Int}{n:Nat}(h:l.getD 0 0≠60)(hn:fnd [60] l=some n):1≤n:=by
 obtain⟨h1,h2,h3⟩:=abG hn
 cases n with
 | zero=>
   simp only[List.length_singleton] at h1;exact absurd ((occ_one 60 l 0 (by omega)).1 h2) h
 | succ n=>omega
theorem ahk (z more:Bool)(l:List Int)(hl:l≠[]):Fit l (abm z more l):=by
 unfold abm;rw[if_neg hl];split
 · exact avd z l
 · rename_i h;unfold afC;split
   · rename_i n hn;have h1:=(abG hn).1;simp only[List.length_singleton] at h1;exact ajG l n (atS h hn) (by omega)
   · split
     · exact adk l 7 (by omega)
     · exact ajG l l.length (List.length_pos_iff.2 hl) (Nat.le_refl _)
end Go.Proofs.YtnomcldpbkinmaaGreatDoor
namespace Go.Proofs.YtnomcldpbkinmaaGreatDoor
theorem amA {l p:List Int}(h:l.isPrefixOf p=true):l=p.take l.length∧l.length≤p.length:=
 ⟨List.prefix_iff_eq_take.1 (List.isPrefixOf_iff_prefix.1 h),ahc h⟩
def acH (z:Bool)(l:List Int):Tk × Nat × Int:=
 if aaF.isPrefixOf l=true then span 9 adJ aeA l else if l.isPrefixOf aaF=true then (T0,0,7)
 else if abB.isPrefixOf l=true then span 4 apt acg l else if l.isPrefixOf abB=true then (T0,0,7)
 else if aei.isPrefixOf l=true then (T0,0,12) else if l.isPrefixOf aei=true then (T0,0,7)
 else if acu.isPrefixOf l=true then (T0,0,6) else if l.isPrefixOf acu=true then (T0,0,7)
 else if acT.isPrefixOf l=true then span 2 aqZ (aee z) l else if l.isPrefixOf acT=true then (T0,0,7)
 else if ajs.isPrefixOf l=true then span 2 a1g akE l else if l.isPrefixOf ajs=true then (T0,0,7)
 else aeX l
theorem arW (z:Bool)(l:List Int)(hl:l.getD 0 0=60):acH z l=ahC z l:=by
 match l,hl with
 | [],hl=>simp at hl
 | [c],hl=>
   have:c=60:=(by simpa using hl);subst this;rfl
 | c :: d :: r,hl=>
   have:c=60:=(by simpa using hl);subst this;unfold acH ahC;by_cases h3:d=33
   · subst h3;have e1:acT.isPrefixOf (60 :: 33 :: r)=false:=(by simp[acT,List.isPrefixOf]);have e2:ajs.isPrefixOf (60 :: 33 :: r)=false:=(by simp[ajs,List.isPrefixOf]);have e3:acu.isPrefixOf (60 :: 33 :: r)=true:=(by simp[acu,List.isPrefixOf]);simp only[e1,e2,e3,Bool.false_eq_true,if_false,if_true];by_cases c1:aaF.isPrefixOf (60 :: 33 :: r)=true
     · simp only[if_pos c1]
     simp only[if_neg c1];by_cases c2:(60 :: 33 :: r).isPrefixOf aaF=true
     · have c3:¬ abB.isPrefixOf (60 :: 33 :: r)=true:=fun g=>by
        have:=(List.isPrefixOf_iff_prefix.1 g).trans (List.isPrefixOf_iff_prefix.1 c2);exact absurd (List.isPrefixOf_iff_prefix.2 this) (by decide)
       have c4:¬ aei.isPrefixOf (60 :: 33 :: r)=true:=fun g=>by
        have:=(List.isPrefixOf_iff_prefix.1 g).trans (List.isPrefixOf_iff_prefix.1 c2);exact absurd (List.isPrefixOf_iff_prefix.2 this) (by decide)
       simp only[if_pos c2,if_neg c3,if_neg c4,if_pos (Or.inl c2)]
     simp only[if_neg c2];by_cases c3:abB.isPrefixOf (60 :: 33 :: r)=true
     · simp only[if_pos c3]
     simp only[if_neg c3];by_cases c4:(60 :: 33 :: r).isPrefixOf abB=true
     · have c5:¬ aei.isPrefixOf (60 :: 33 :: r)=true:=fun g=>by
        have:=(List.isPrefixOf_iff_prefix.1 g).trans (List.isPrefixOf_iff_prefix.1 c4);exact absurd (List.isPrefixOf_iff_prefix.2 this) (by decide)
       simp only[if_pos c4,if_neg c5,c2,c4,Bool.false_eq_true,true_or,or_true,if_true]
     simp only[if_neg c4];by_cases c5:aei.isPrefixOf (60 :: 33 :: r)=true
     · simp only[if_pos c5]
     simp only[if_neg c5];by_cases c6:(60 :: 33 :: r).isPrefixOf aei=true
     · simp only[if_pos c6,c6,or_true,if_true]
     · simp only[if_neg c6,c2,c4,c6,Bool.false_eq_true,or_self,if_false]
   · have f1:aaF.isPrefixOf (60 :: d :: r)=false:=by simp[aaF,List.isPrefixOf];omega
     have f2:abB.isPrefixOf (60 :: d :: r)=false:=by simp[abB,List.isPrefixOf];omega
     have f3:aei.isPrefixOf (60 :: d :: r)=false:=by simp[aei,List.isPrefixOf];omega
     have f4:acu.isPrefixOf (60 :: d :: r)=false:=by simp[acu,List.isPrefixOf];omega
     have g1:(60 :: d :: r).isPrefixOf aaF=false:=(by simp[aaF,List.isPrefixOf,h3]);have g2:(60 :: d :: r).isPrefixOf abB=false:=(by simp[abB,List.isPrefixOf,h3]);have g3:(60 :: d :: r).isPrefixOf aei=false:=(by simp[aei,List.isPrefixOf,h3]);have g4:(60 :: d :: r).isPrefixOf acu=false:=(by simp[acu,List.isPrefixOf,h3]);simp only[f1,f2,f3,f4,g1,g2,g3,g4,Bool.false_eq_true,if_false];by_cases c1:acT.isPrefixOf (60 :: d :: r)=true
     · simp only[if_pos c1]
     have n1:(60 :: d :: r).isPrefixOf acT=false:=by
      cases hq:(60 :: d :: r).isPrefixOf acT with
      | false=>rfl
      | true=>
        exfalso;apply c1;have h5:=amA hq
        have h6:r=[]:=by
         have:=h5.2;simp[acT] at this;exact this
        subst h6;simp only[acT,List.isPrefixOf,Bool.and_true] at hq ⊢;simp at hq ⊢;exact hq.symm
     simp only[if_neg c1,n1,Bool.false_eq_true,if_false];by_cases c2:ajs.isPrefixOf (60 :: d :: r)=true
     · simp only[if_pos c2]
     have n2:(60 :: d :: r).isPrefixOf ajs=false:=by
      cases hq:(60 :: d :: r).isPrefixOf ajs with
      | false=>rfl
      | true=>
        exfalso;apply c2;have h5:=amA hq
        have h6:r=[]:=by
         have:=h5.2;simp[ajs] at this;exact this
        subst h6;simp only[ajs,List.isPrefixOf,Bool.and_true] at hq ⊢;simp at hq ⊢;exact hq.symm
     simp only[if_neg c2,n2,Bool.false_eq_true,if_false]
def nx (L:List Int)(a:Nat):Tk × Nat × Int:=abm (decide (a=0)) false (L.drop a)
theorem apH (L:List Int)(a:Nat)(h:L.length≤a):nx L a=(⟨6,[],false,false⟩,0,0):=by
 unfold nx;rw[List.drop_of_length_le h];rfl
theorem ajE (L:List Int)(a:Nat)(h:a < L.length):Fit (L.drop a) (nx L a):=by
 refine ahk _ _ _ fun e=> ?_;have:=congrArg List.length e;rw[List.length_drop,List.length_nil] at this;omega
theorem apQ (L:List Int)(a:Nat)(h:(nx L a).2.2=0):(nx L a).1.kind=6↔L.length≤a:=by
 rcases Nat.lt_or_ge a L.length with g | g
 · have:=((ajE L a g).size h).2.2.1;exact⟨fun e=>absurd e this,fun e=>by omega⟩
 · rw[apH L a g];exact⟨fun _=>g,fun _=>rfl⟩
end Go.Proofs.YtnomcldpbkinmaaGreatDoor
namespace Go.Proofs.YtnomcldpbkinmaaGreatDoor
open Go.RowKit
def afJ (k:Nat):Int:=if 65≤k∧k≤90 then k+32 else if k=107 then 8490 else if k=115 then 383 else if 97≤k∧k≤122 then k - 32 else k
structure Gl (w:World):Prop where
 vars:Vars w
 size:11≤w.heap.size
 max:∃ m,w.cell? ⟨0,0,none⟩=some (.int .i64 m)
 tabs:Lib.Utf8Tabs 4 5 w
 fold:∀ k,k < 128→w.cell? ⟨1,k,none⟩=some (.int .u16 (afJ k))
theorem Gl.keep {w w':World}{B:Nat}(h:Gl w)(hb:Below B w w')(hB:11≤B):Gl w':=by
 refine⟨h.vars.keep hb (by omega),Nat.le_trans h.size hb.size,?_,⟨fun c hc=> ?_,fun i hi=>⟨?_,?_⟩⟩,fun k hk=> ?_⟩
 · obtain⟨m,hm⟩:=h.max;exact⟨m,(hb.cell (p:=⟨0,0,none⟩) (show 0 < B by omega)).trans hm⟩
 · exact(hb.cell (p:=⟨4,c,none⟩) (show 4 < B by omega)).trans (h.tabs.1 c hc)
 · exact(hb.cell (p:=⟨5,2 * i,none⟩) (show 5 < B by omega)).trans (h.tabs.2 i hi).1
 · exact(hb.cell (p:=⟨5,2 * i+1,none⟩) (show 5 < B by omega)).trans (h.tabs.2 i hi).2
 · exact(hb.cell (p:=⟨1,k,none⟩) (show 1 < B by omega)).trans (h.fold k hk)
theorem Gl.after {w w':World}(h:Gl w)(hb:Below w.heap.size w w'):Gl w':=h.keep hb h.size
theorem Gl.alloc {w:World}(h:Gl w)(o:Obj):Gl (w.alloc o):=h.after ((Below.refl _ w).alloc (Nat.le_refl _) o)
theorem Gl.drew {w:World}(h:Gl w):Gl w.drew:=h.after (Below.refl _ w).drew
theorem a2I {a b:UInt8}(h:(a.toNat:Int)=(b.toNat:Int)):a=b:=UInt8.toNat_inj.1 (by omega)
theorem ajd:∀ (p l:List UInt8),(p.map fun b=>(b.toNat:Int)).isPrefixOf (l.map fun b=>(b.toNat:Int))=p.isPrefixOf l
 | [],l=>by simp[List.isPrefixOf]
 | a :: p,[]=>by simp[List.isPrefixOf]
 | a :: p,b :: l=>by
   simp only[List.map_cons,List.isPrefixOf,ajd p l]
   congr 1
   rw[Bool.eq_iff_iff];simp only[beq_iff_eq];exact⟨a2I,fun h=>by rw[h]⟩
theorem ajq (m:List UInt8):∀ (l:List UInt8),Lib.index l m=aiQ (m.map fun b=>(b.toNat:Int)) (l.map fun b=>(b.toNat:Int))
 | []=>by
   cases m with
   | nil=>rfl
   | cons a b=>simp[Lib.index,aiQ,fnd]
 | c :: l=>by
   have ih:=ajq m l;have hp:=ajd m (c :: l);simp only[List.map_cons] at hp ⊢;unfold Lib.index;by_cases h:m.isPrefixOf (c :: l)=true
   · rw[if_pos h];rw[h] at hp;unfold aiQ fnd;rw[if_pos hp];rfl
   · rw[if_neg h,ih];rw[Bool.eq_false_iff.2 h] at hp;generalize (m.map fun b=>(b.toNat:Int))=M at *;generalize (l.map fun b=>(b.toNat:Int))=L at *;generalize (c.toNat:Int)=x at *;have hc:fnd M (x :: L)=(fnd M L).map (· +1):=by rw[fnd,if_neg (by rw[hp];simp)]
     cases hf:fnd M L with
     | none=>
       rw[acW hf,acW (by rw[hc,hf];rfl)];simp
     | some n=>
       rw[acy hf,acy (n:=n+1) (by rw[hc,hf];rfl)];have:(((n:Nat):Int) == -1)=false:=by rw[beq_eq_false_iff_ne];omega
       simp[this]
theorem adZ (s m:ByteArray):Lib.index s.data.toList m.data.toList=aiQ (aad m) (aad s):=ajq _ _
theorem aip (s m:ByteArray):Lib.contains s.data.toList m.data.toList=(fnd (aad m) (aad s)).isSome:=by
 unfold Lib.contains;rw[adZ];unfold aiQ;cases fnd (aad m) (aad s) <;> simp
theorem ajz (s m:ByteArray)(w:World)(hs:s.size≤1000000)(hG:Gl w):Calls Tryz.prog 86 #[.string s,.string m] w fun e w'=>e=.returned (.int .i64 (aiQ (aad m) (aad s)))∧w=w':=by
 obtain⟨k,hk⟩:=hG.max;refine(Tryz.strings_Index s m k w (by omega) hk).mono ?_;rintro e w' ⟨rfl,rfl⟩;exact⟨by rw[adZ],rfl⟩
theorem aff (s m:ByteArray)(w:World)(hs:s.size≤1000000)(hG:Gl w)(b:Bool)(hb:(fnd (aad m) (aad s)).isSome=b):Calls Tryz.prog 88 #[.string s,.string m] w fun e w'=>e=.returned (.bool b)∧w=w':=by
 obtain⟨k,hk⟩:=hG.max;refine(Tryz.strings_Contains s m k w (by omega) hk).mono ?_;rintro e w' ⟨rfl,rfl⟩;exact⟨by rw[aip,hb],rfl⟩
theorem afp (l:List UInt8):aad ⟨l.toArray⟩=l.map fun b=>(b.toNat:Int):=by simp[aad]
theorem arE (p l:List UInt8):(p.map fun b=>(b.toNat:Int)).isSuffixOf (l.map fun b=>(b.toNat:Int))=p.isSuffixOf l:=by
 unfold List.isSuffixOf;rw[← List.map_reverse,← List.map_reverse,ajd]
theorem asH (l:List Int)(c:Int):[c].isSuffixOf l=decide (l.getLast?=some c):=by
 unfold List.isSuffixOf;rw[List.getLast?_eq_head?_reverse]
 cases l.reverse with
 | nil=>simp[List.isPrefixOf]
 | cons a b=>
   rw[Bool.eq_iff_iff];simp[List.isPrefixOf];exact eq_comm
theorem ahG (s:ByteArray)(c:UInt8)(w:World)(hs:s.size≤1000000)(b:Bool)(hb:decide ((aad s).getLast?=some (c.toNat:Int))=b):Calls Tryz.prog 130 #[.string s,.string ⟨#[c]⟩] w fun e w'=>e=.returned (.bool b)∧w=w':=by
 refine(Tryz.strings_HasSuffix s ⟨#[c]⟩ w (by omega)).mono ?_;rintro e w' ⟨rfl,rfl⟩;refine⟨?_,rfl⟩;rw[← hb,← asH];unfold Lib.hasSuffix;rw[← arE];rfl
theorem aib (s:ByteArray)(c:UInt8)(w:World)(hs:s.size≤1000000)(b:Bool)(hb:decide ((aad s).getLast?=some (c.toNat:Int))=b):
 Calls Tryz.prog 136 #[.string s,.string ⟨#[c]⟩] w fun e w'=>e=.returned (.tuple #[.string (if b=true then strOfNums (aad s).dropLast else s),.bool b])∧w=w':=by
 refine(Tryz.strings_CutSuffix s ⟨#[c]⟩ w (by omega)).mono ?_;rintro e w' ⟨rfl,rfl⟩
 have h1:Lib.hasSuffix s.data.toList [c]=b:=by
  rw[← hb,← asH];unfold Lib.hasSuffix;rw[← arE];rfl
 have h1':Lib.hasSuffix s.data.toList (ByteArray.mk #[c]).data.toList=b:=h1;refine⟨?_,rfl⟩;rw[h1']
 have h2:(⟨(Lib.trimSuffix s.data.toList (ByteArray.mk #[c]).data.toList).toArray⟩:ByteArray)=if b=true then strOfNums (aad s).dropLast else s:=by
  unfold Lib.trimSuffix;rw[h1']
  cases b with
  | true=>
    simp only[if_true];refine aaJ ?_;rw[afp,List.map_take,List.dropLast_eq_take]
    congr 1
    simp[aad]
  | false=>
    simp
 rw[h2]
end Go.Proofs.YtnomcldpbkinmaaGreatDoor
