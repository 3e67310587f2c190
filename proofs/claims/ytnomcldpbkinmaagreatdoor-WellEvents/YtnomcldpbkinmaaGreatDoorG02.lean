/- Lemmas of the claim. -/
import Derived.Test.YtnomcldpbkinmaaGreatDoorProg
import Derived.Test.YtnomcldpbkinmaaGreatDoorG01
import Derived.WalkKit
import Derived.WalkSpells
import Derived.WalkLawsBesides
import Derived.Laws.BytesArg
import Derived.Laws.OwnMore
import Derived.Lib.Hide
import Derived.Lib.DecodeN
import Derived.Deep.QuietTactic
import Derived.BigQuiet
import Derived.Laws.Externs
import Derived.Lib.Bytealg
set_option maxHeartbeats 4000000
set_option maxRecDepth 100000
set_option linter.unusedSimpArgs false
set_option linter.unusedVariables false
namespace Go.Proofs.YtnomcldpbkinmaaGreatDoor
open Go.RowKit
def Rd (k:IntKind)(w:World)(B:Nat)(A:Option Addr)(l:List Int):Prop:=
 l=[]∨∃ b off,A=some ⟨b,off,none⟩∧b < B∧∀ j,j < l.length→w.cell? ⟨b,off+j,none⟩=some (.int k (l.getD j 0))
theorem Rd.below {k:IntKind}{w w':World}{B:Nat}{A:Option Addr}{l:List Int}(h:Rd k w B A l)(hb:Below B w w'):Rd k w' B A l:=by
 rcases h with h | ⟨b,off,rfl,hlt,hc⟩
 · exact .inl h
 · exact .inr ⟨b,off,rfl,hlt,fun j hj=>(hb.cell (p:=⟨b,off+j,none⟩) hlt).trans (hc j hj)⟩
theorem Rd.more {k:IntKind}{w:World}{B B':Nat}{A:Option Addr}{l:List Int}(h:Rd k w B A l)(hB:B≤B'):Rd k w B' A l:=by
 rcases h with h | ⟨b,off,rfl,hlt,hc⟩
 · exact .inl h
 · exact .inr ⟨b,off,rfl,by omega,hc⟩
theorem Rd.at_ {k:IntKind}{w:World}{B:Nat}{A:Option Addr}{l:List Int}(h:Rd k w B A l){j:Nat}(hj:j < l.length):
 ∃ b off,A=some ⟨b,off,none⟩∧b < B∧w.cell? ⟨b,off+j,none⟩=some (.int k (l.getD j 0)):=by
 rcases h with h | ⟨b,off,rfl,hlt,hc⟩
 · subst h;simp at hj
 · exact⟨b,off,rfl,hlt,hc j hj⟩
theorem aeH {k:IntKind}{w:World}{B:Nat}{e:TypeId}{v:Value}{l:List Int}(h:w.ownsRow B e 1 v l.length (l.map (Value.int k))):
 ∃ A c,v=.slice A l.length c∧Rd k w w.heap.size A l:=by
 rcases h.2 with ⟨rfl,h0⟩ | ⟨g,cap,cur,rfl,_,hh,_,_,_,_⟩
 · have:l=[]:=List.eq_nil_of_length_eq_zero h0;subst this;exact⟨none,0,rfl,.inl rfl⟩
 · refine⟨_,cap,rfl,.inr ⟨g,0,rfl,?_,fun j hj=> ?_⟩⟩
   · exact(h.lt g rfl).2
   · have:=h.cellAt (g:=g) j (by omega);rw[Nat.zero_add,this];simp[List.getElem?_eq_getElem hj]
theorem afj {w:World}{B:Nat}{A:Option Addr}{l:List Int}{c:Nat}(h:Rd .u8 w B A l):
 (convert 65 9 (.slice A l.length c)).run Tryz.prog w=.ok (.string (strOfNums l)) w:=by
 rcases h with rfl | ⟨b,off,rfl,hlt,hc⟩
 · cases A with
   | none=>exact run_convert_bytes_nil w 65 5 Tryz.underlying65 Tryz.underlying5 _ _ 9 Tryz.underlying9
   | some a=>
     rw[run_convert_bytes_string w 65 9 5 _ _ c Tryz.underlying65 Tryz.underlying5 Tryz.underlying9,run_bytesToString w a _ c [] (by simp[loadCells,loadCellsFrom])];rfl
 · exact run_convert_bytes_arg w 65 5 Tryz.underlying65 Tryz.underlying5 b off l.length c l rfl hc 9 Tryz.underlying9
end Go.Proofs.YtnomcldpbkinmaaGreatDoor
namespace Go.Proofs.YtnomcldpbkinmaaGreatDoor
def aad (s:ByteArray):List Int:=s.data.toList.map fun b=>(b.toNat:Int)
theorem aae (s:ByteArray):(aad s).length=s.size:=by simp[aad]
theorem acS (s:ByteArray):NN (aad s):=fun x hx=>by
 obtain⟨b,_,rfl⟩:=List.mem_map.1 hx;omega
theorem abx (s:ByteArray)(k:Nat):bt s k=(aad s).getD k 0:=by
 unfold bt aad;simp only[List.getD_eq_getElem?_getD,List.getElem?_map];cases s.data.toList[k]? <;> simp
theorem acw (s:ByteArray)(a:Nat)(h:a < s.size):abd s a=aaO ((aad s).drop a):=by
 unfold abd aaO;rw[if_neg (by omega),Int.toNat_natCast,List.length_drop,aae]
 congr 1
 funext k
 rw[abx];simp[List.getD_eq_getElem?_getD,List.getElem?_drop]
theorem akf (s:ByteArray):∀ (f a:Nat),a≤s.size→
 aec s f a=((ahD f ((aad s).drop a)).1,((a+(ahD f ((aad s).drop a)).2.1:Nat):Int),(ahD f ((aad s).drop a)).2.2)
 | 0,a,h=>by simp[aec,ahD]
 | f+1,a,h=>by
   by_cases hlt:a < s.size
   · have hne:(aad s).drop a≠[]:=by
      intro e;have:=congrArg List.length e;rw[List.length_drop,aae] at this;simp at this;omega
     by_cases he:(abd s a).2.2=0
     · rw[agi s f a hlt he];have hk:=acv s a hlt
       have hn:(abd s a).2.1.toNat≤s.size - a:=by
        rcases hk with hk | hk
        · omega
        · omega
       rw[acw s a hlt] at he hn ⊢;rw[ain f _ hne he,akf s f _ (by omega)];simp[Nat.add_assoc]
     · rw[aeL s f a hlt he];rw[acw s a hlt] at he ⊢;rw[afV f _ hne he];simp
   · rw[abL s _ a (by omega)];have:(aad s).drop a=[]:=List.drop_of_length_le (by rw[aae];omega);rw[this,adr];simp
theorem anq (s:ByteArray):aiV s=((acV (aad s)).1,((acV (aad s)).2.1:Int),(acV (aad s)).2.2):=by
 unfold aiV acV;rw[akf s s.size 0 (by omega),aae];simp
theorem ofNat_toNat (x:Int)(h0:0≤x)(h1:x≤255):((UInt8.ofNat x.toNat).toNat:Int)=x:=by
 rw[UInt8.toNat_ofNat'];omega
theorem agr (l:List Int)(h:NN l)(h1:∀ x∈l,x≤255):aad (strOfNums l)=l:=by
 unfold aad;rw[strOfNums_data,List.map_map]
 conv=>rhs;rw[← List.map_id l]
 refine List.map_congr_left fun x hx=> ?_;simp only[Function.comp];exact ofNat_toNat x (h x hx) (h1 x hx)
theorem abu {s t:ByteArray}(h:aad s=aad t):s=t:=by
 unfold aad at h;have hl:=congrArg List.length h;simp only[List.length_map] at hl
 have:s.data.toList=t.data.toList:=by
  refine List.ext_getElem hl fun i h1 h2=> ?_;have:=congrArg (fun l=>l[i]?) h;simp only[List.getElem?_map,List.getElem?_eq_getElem h1,List.getElem?_eq_getElem h2,Option.map_some,Option.some.injEq] at this;exact UInt8.toNat_inj.1 (by omega)
 cases s;cases t;simp only[ByteArray.mk.injEq] at this ⊢;exact Array.toList_inj.1 this
theorem aal (s:ByteArray)(a b:Nat):aad (s.extract a b)=((aad s).take b).drop a:=by
 unfold aad;rw[ByteArray.data_extract,Array.toList_extract,List.extract_eq_take_drop,List.map_take,List.map_drop,List.drop_take]
end Go.Proofs.YtnomcldpbkinmaaGreatDoor
namespace Go.Proofs.YtnomcldpbkinmaaGreatDoor
def Btw (r a b:Int):Prop:=a≤r∧r≤b
def Blank (r:Int):Prop:=r=9∨r=10∨r=13∨r=32
def Chr (r:Int):Prop:=r=9∨r=10∨r=13∨Btw r 32 55295∨Btw r 57344 65533∨Btw r 65536 1114111
def Start (r:Int):Prop:=
 Btw r 65 90∨Btw r 97 122∨r=95∨Btw r 192 214∨Btw r 216 246∨Btw r 248 767∨Btw r 880 893∨Btw r 895 8191∨Btw r 8204 8205∨Btw r 8304 8591∨
 Btw r 11264 12271∨Btw r 12289 55295∨Btw r 63744 64975∨Btw r 65008 65533∨Btw r 65536 983039
def Part (r:Int):Prop:=Start r∨r=45∨r=46∨Btw r 48 57∨r=183∨Btw r 768 879∨Btw r 8255 8256
instance (r a b:Int):Decidable (Btw r a b):=inferInstanceAs (Decidable (a≤r∧r≤b))
instance (r:Int):Decidable (Blank r):=inferInstanceAs (Decidable (r=9∨r=10∨r=13∨r=32))
instance (r:Int):Decidable (Chr r):=inferInstanceAs (Decidable (r=9∨r=10∨r=13∨Btw r 32 55295∨Btw r 57344 65533∨Btw r 65536 1114111))
instance (r:Int):Decidable (Start r):=by unfold Start;infer_instance
instance (r:Int):Decidable (Part r):=by unfold Part;infer_instance
theorem ahR {r:Int}(h:Blank r):¬ Part r:=by unfold Blank at h;unfold Part Start Btw;omega
end Go.Proofs.YtnomcldpbkinmaaGreatDoor
namespace Go.Proofs.YtnomcldpbkinmaaGreatDoor
def dig (c:Int):Int:=if 48≤c∧c≤57 then c - 48 else if 97≤c∧c≤102 then c - 87 else if 65≤c∧c≤70 then c - 55 else 99
theorem anz (c:Int):0≤dig c:=by unfold dig;repeat' split
                                all_goals omega
def adA (base:Int):List Int→Int→Int
 | [],n=>n
 | c :: l,n=>if dig c < base then adA base l (n * base+dig c) else -1
def ajY (base:Int):List Int→Int→Int
 | [],n=>n
 | c :: l,n=>if dig c < base then (if 2147483647 < n * base+dig c then -1 else ajY base l (n * base+dig c)) else -1
def abO (n:Int):Int:=if Chr n then n else -1
def akF (base:Int)(l:List Int):Int:=if l=[]∨8 < l.length then -1 else abO (adA base l 0)
def ajm (l:List Int):Int:=
 if l=[108,116] then 60 else if l=[103,116] then 62 else if l=[97,109,112] then 38 else if l=[97,112,111,115] then 39 else if l=[113,117,111,116] then 34
 else if l.getD 0 0≠35 then -1 else if l.getD 1 0=120 then akF 16 (l.drop 2) else akF 10 (l.drop 1)
theorem asq {n:Int}(h:2147483647 < n):abO n= -1:=by
 unfold abO;rw[if_neg];unfold Chr Btw;omega
theorem acz:abO (-1)= -1:=by
 unfold abO;rw[if_neg];unfold Chr Btw;omega
theorem apN {n:Int}(h:abO n≠ -1):Chr n∧abO n=n:=by
 unfold abO at *;by_cases hc:Chr n
 · exact⟨hc,if_pos hc⟩
 · rw[if_neg hc] at h;exact absurd rfl h
theorem ajx (base:Int)(hb:1≤base):∀ (l:List Int) (n:Int),2147483647 < n→abO (adA base l n)= -1
 | [],n,h=>asq h
 | c :: l,n,h=>by
   unfold adA;by_cases hd:dig c < base
   · rw[if_pos hd];refine ajx base hb l _ ?_;have:=anz c;have:n * 1≤n * base:=Int.mul_le_mul_of_nonneg_left hb (by omega);omega
   · rw[if_neg hd];exact acz
theorem avQ (base:Int)(hb:1≤base):∀ (l:List Int) (n:Int),abO (ajY base l n)=abO (adA base l n)
 | [],n=>rfl
 | c :: l,n=>by
   unfold ajY adA;by_cases hd:dig c < base
   · rw[if_pos hd,if_pos hd];by_cases hg:2147483647 < n * base+dig c
     · rw[if_pos hg,ajx base hb l _ hg,acz]
     · rw[if_neg hg];exact avQ base hb l _
   · rw[if_neg hd,if_neg hd]
theorem aqR (base:Int)(hb:1≤base):∀ (l:List Int) (n:Int),0≤n→n≤2147483647→ajY base l n= -1∨(0≤ajY base l n∧ajY base l n≤2147483647)
 | [],n,h0,h1=>.inr ⟨h0,h1⟩
 | c :: l,n,h0,h1=>by
   unfold ajY;by_cases hd:dig c < base
   · rw[if_pos hd];by_cases hg:2147483647 < n * base+dig c
     · rw[if_pos hg];exact .inl rfl
     · rw[if_neg hg];have:=anz c;have:0≤n * base:=Int.mul_nonneg h0 (by omega);exact aqR base hb l _ (by omega) (by omega)
   · rw[if_neg hd];exact .inl rfl
def abg (t:List Int):List Int:=t.takeWhile fun x=>decide (x≠59)
def blk (v:Bool)(b:Int):Int:=if v=true then 32 else b
def aaA (v:Bool)(l:List Int):Int × List Int × Nat:=
 if l.getD 0 0=38 then
  if 59∈l.tail∧0≤ajm (abg l.tail) then (0,aaR (ajm (abg l.tail)),(abg l.tail).length+2) else (5,[],0)
 else if l.getD 0 0=13 then (0,[blk v 10],if l.getD 1 0=10 then 2 else 1)
 else if l.getD 0 0=9∨l.getD 0 0=10 then (0,[blk v (l.getD 0 0)],1)
 else if (aaO l).2.2≠0 then ((aaO l).2.2,[],0)
 else if Chr (aaO l).1 then (0,aaR (aaO l).1,(aaO l).2.1.toNat) else (3,[],0)
def aeB (v:Bool):Nat→List Int→List Int × Nat × Int
 | 0,_=>([],0,0)
 | f+1,l=>if l=[] then ([],0,0) else if (aaA v l).1≠0 then ([],0,(aaA v l).1)
   else ((aaA v l).2.1++(aeB v f (l.drop (aaA v l).2.2)).1,(aaA v l).2.2+(aeB v f (l.drop (aaA v l).2.2)).2.1,(aeB v f (l.drop (aaA v l).2.2)).2.2)
def aaY (v:Bool)(l:List Int):List Int × Nat × Int:=aeB v l.length l
theorem atn (t:List Int)(h:59∈t):(abg t).length < t.length:=by
 induction t with
 | nil=>simp at h
 | cons x t ih=>
   unfold abg;rw[List.takeWhile_cons];by_cases hx:x=59
   · subst hx;simp
   · rw[if_pos (by simpa using hx)];rw[List.mem_cons] at h;rcases h with h | h
     · exact absurd h.symm hx
     · simp only[List.length_cons];have:=ih h;unfold abg at this;omega
theorem ahw (v:Bool)(l:List Int)(hl:l≠[])(hn:NN l)(h:(aaA v l).1=0):1≤(aaA v l).2.2∧(aaA v l).2.2≤l.length:=by
 have hl1:1≤l.length:=by
  cases l with
  | nil=>exact absurd rfl hl
  | cons x y=>simp
 unfold aaA at h ⊢;by_cases h1:l.getD 0 0=38
 · rw[if_pos h1] at h ⊢;by_cases h2:59∈l.tail∧0≤ajm (abg l.tail)
   · rw[if_pos h2];have:=atn l.tail h2.1;rw[List.length_tail] at this;refine⟨by simp,?_⟩;show (abg l.tail).length+2≤l.length;omega
   · rw[if_neg h2] at h;simp at h
 rw[if_neg h1] at h ⊢;by_cases h2:l.getD 0 0=13
 · rw[if_pos h2];by_cases h3:l.getD 1 0=10
   · rw[if_pos h3];refine⟨by simp,?_⟩
     match l,h3 with
     | _ :: _ :: _,_=>simp
     | [_],h3=>simp at h3
     | [],h3=>simp at h3
   · rw[if_neg h3];exact⟨by simp,hl1⟩
 rw[if_neg h2] at h ⊢;by_cases h3:l.getD 0 0=9∨l.getD 0 0=10
 · rw[if_pos h3];exact⟨by simp,hl1⟩
 rw[if_neg h3] at h ⊢;by_cases h4:(aaO l).2.2≠0
 · rw[if_pos h4] at h;exact absurd h h4
 rw[if_neg h4] at h ⊢;by_cases h5:Chr (aaO l).1
 · rw[if_pos h5];exact akU hl hn (by simpa using h4)
 · rw[if_neg h5] at h;simp at h
theorem ahW (v:Bool):∀ (f g:Nat) (L:List Int),NN L→L.length≤f→L.length≤g→aeB v f L=aeB v g L
 | 0,g,L,_,hf,_=>by
   have:L=[]:=List.eq_nil_of_length_eq_zero (by omega);subst this;cases g <;> simp[aeB]
 | f+1,0,L,_,_,hg=>by
   have:L=[]:=List.eq_nil_of_length_eq_zero (by omega);subst this;simp[aeB]
 | f+1,g+1,L,hn,hf,hg=>by
   by_cases hl:L=[]
   · subst hl;simp[aeB]
   by_cases he:(aaA v L).1≠0
   · rw[aeB,aeB,if_neg hl,if_neg hl,if_pos he,if_pos he]
   · have:=ahw v L hl hn (by simpa using he);rw[aeB,aeB,if_neg hl,if_neg hl,if_neg he,if_neg he];rw[ahW v f g _ (hn.drop _) (by rw[List.length_drop];omega) (by rw[List.length_drop];omega)]
theorem ahi (v:Bool):aaY v []=([],0,0):=rfl
theorem agC (v:Bool)(L:List Int)(hl:L≠[])(h:(aaA v L).1≠0):aaY v L=([],0,(aaA v L).1):=by
 unfold aaY
 cases hL:L.length with
 | zero=>exact absurd (List.eq_nil_of_length_eq_zero hL) hl
 | succ f=>rw[aeB,if_neg hl,if_pos h]
theorem afT (v:Bool)(L:List Int)(hl:L≠[])(hn:NN L)(h:(aaA v L).1=0):
 aaY v L=((aaA v L).2.1++(aaY v (L.drop (aaA v L).2.2)).1,(aaA v L).2.2+(aaY v (L.drop (aaA v L).2.2)).2.1,(aaY v (L.drop (aaA v L).2.2)).2.2):=by
 have hb:=ahw v L hl hn h;unfold aaY
 cases hL:L.length with
 | zero=>exact absurd (List.eq_nil_of_length_eq_zero hL) hl
 | succ f=>
   rw[aeB,if_neg hl,if_neg (by simpa using h)];rw[ahW v f (L.drop (aaA v L).2.2).length _ (hn.drop _) (by rw[List.length_drop];omega) (Nat.le_refl _)]
def abH (v:Bool)(l:List Int):List Int × Int × Int:=if (aaY v l).2.2=0 then ((aaY v l).1,0,0) else ([],((aaY v l).2.1:Int),(aaY v l).2.2)
end Go.Proofs.YtnomcldpbkinmaaGreatDoor
namespace Go.Proofs.YtnomcldpbkinmaaGreatDoor
open Go.RowKit
theorem axS (x:Int)(h0:0≤x)(h1:x < 2147483648):bits .or .i32 x 0=x:=by
 have:=bits_join .i32 31 (by decide) wraps_i32 0 x 0 h0 (by omega) h1 (by omega) (by omega) (by omega)
 simpa using this
theorem adI {k1 k2:IntKind}{a b a1 b1:Int}(h:a=a1)(h1:b=b1):Ending.returned (.tuple #[.int k1 a,.int k2 b])=.returned (.tuple #[.int k1 a1,.int k2 b1]):=by rw[h,h1]
theorem aep {k:IntKind}{a b:Int}(h:a=b):Ending.returned (.int k a)=.returned (.int k b):=by rw[h]
theorem abv {a b:Bool}(h:a=b):Ending.returned (.bool a)=.returned (.bool b):=by rw[h]
theorem anS (b:Int)(w:World)(h0:0≤b)(h1:b < 256):Calls Tryz.prog 170 #[.int .u8 b] w fun e w'=>e=.returned (.tuple #[.int .i32 (ahu b),.int .i64 (afg b)])∧w=w':=by
 go_enter Tryz.func170,Tryz.ntmps170;go_wp2
 all_goals
  go_ret2;refine⟨?_,rfl⟩;simp only[beq_iff_eq,beq_eq_false_iff_ne] at *;unfold ahu afg;refine adI ?_ ?_
  · repeat' split
    all_goals omega
  · repeat' split
    all_goals omega
theorem anH (r:Int)(k n:Nat)(w:World)(h0:0≤r)(h1:r * p64 (n - k) < 2097152)(hk:1≤k)(hn:k≤n)(h4:n≤4):
 Calls Tryz.prog 171 #[.int .i32 r,.int .i64 k,.int .i64 n] w fun e w'=>e=.returned (.bool (afL r k n))∧w=w':=by
 have h:(k=1∧n=1)∨(k=1∧n=2)∨(k=2∧n=2)∨(k=1∧n=3)∨(k=2∧n=3)∨(k=3∧n=3)∨(k=1∧n=4)∨(k=2∧n=4)∨(k=3∧n=4)∨(k=4∧n=4):=(by omega);rcases h with ⟨rfl,rfl⟩ | ⟨rfl,rfl⟩ | ⟨rfl,rfl⟩ | ⟨rfl,rfl⟩ | ⟨rfl,rfl⟩ | ⟨rfl,rfl⟩ | ⟨rfl,rfl⟩ | ⟨rfl,rfl⟩ | ⟨rfl,rfl⟩ | ⟨rfl,rfl⟩
 all_goals
  simp only[Nat.reduceSub,alS,ajU,aju,ajC] at h1;have h00:=axS r h0 (by omega);go_enter Tryz.func171,Tryz.ntmps171;go_wp2
  all_goals
   go_ret;refine⟨abv (auE _ _ _ _ ?_).symm,rfl⟩;simp only[Nat.reduceSub,alS,ajU,aju,ajC,a0z,anB,amH,anp,a3o,avg,aun,atf,decide_eq_true_eq,Bool.false_eq_true,iff_false]
   first
    | omega
    | (simp only[iff_true];omega)
    | (simp;omega)
theorem asA (r:Int)(k:Int)(w:World):
 Calls Tryz.prog 171 #[.int .i32 r,.int .i64 k,.int .i64 0] w fun e w'=>e=.returned (.bool false)∧w=w':=by
 go_enter Tryz.func171,Tryz.ntmps171;go_wp2;go_ret;exact⟨rfl,rfl⟩
end Go.Proofs.YtnomcldpbkinmaaGreatDoor
namespace Go.Proofs.YtnomcldpbkinmaaGreatDoor
open Go.RowKit
theorem below_drewN {B:Nat}{w w':World}(h:Below B w w')(n:Nat):Below B w (w'.drewN n):=⟨h.os,h.tape,h.output,h.size,h.block⟩
def asK (s:ByteArray)(a:Nat)(L:List Int):Prop:=0 < L.length∧a+L.length≤s.size∧∀ j,j < L.length→bt s (a+j)=L.getD j 0
def a0Q (s:ByteArray)(a:Nat)(L:List Int)(w:World)(i:Value)(wr:World):Prop:=
 ∃ k:Nat,k≤L.length∧i=.int .i64 k∧(∀ j,j < k→bt s (a+j)=L.getD j 0)∧Below w.heap.size w wr
def ayT (s:ByteArray)(a:Nat)(L:List Int)(w:World)(e:Ending)(w':World):Prop:=
 ∃ b:Bool,e=.returned (.bool b)∧(b=true↔asK s a L)∧Below w.heap.size w w'
theorem ahp (s:ByteArray)(a:Nat)(A:Option Addr)(c:Nat)(L:List Int)(w:World)(h:Rd .u8 w w.heap.size A L)(hs:s.size≤100000)(hL:L.length≤100000)(ha:a≤100000):
 Calls Tryz.prog 74 #[.string s,.int .i64 a,.slice A L.length c] w (ayT s a L w):=by
 obtain⟨n,hn⟩:∃ n,n=L.length:=⟨_,rfl⟩;rw[← hn];have HN:=aac hn;have hn1:n≤L.length:=(by omega);have hn2:L.length≤n:=(by omega);clear hn;by_cases h0:n=0
 · have t0:((n:Int) == 0)=true:=by simp;omega
   have HP:Hid (¬ asK s a L):=fun hp=>by have:=hp.1;omega
   clear h0;go_enter Tryz.func74,Tryz.ntmps74;go_wp2;go_ret;exact⟨false,rfl,by simp;exact HP.out,Below.refl _ _⟩
 have t0:((n:Int) == 0)=false:=by simp;omega
 by_cases h1:s.size < a+n
 · have t1:decide ((s.size:Int) < (a:Int)+(n:Int))=true:=by simp;omega
   have HP:Hid (¬ asK s a L):=fun hp=>by have:=hp.2.1;omega
   clear h0;go_enter Tryz.func74,Tryz.ntmps74;go_wp2;go_ret;exact⟨false,rfl,by simp;exact HP.out,Below.refl _ _⟩
 have t1:decide ((s.size:Int) < (a:Int)+(n:Int))=false:=by simp;omega
 have hfit:a+n≤s.size:=(by omega);have hpos:0 < n:=(by omega);clear h0 h1;go_enter Tryz.func74,Tryz.ntmps74;go_wp2_with fail;go_loopw [7] (fun i wr=>a0Q s a L w i wr) (fun i _=>L.length - (intOf i).toNat);case atStart=>exact⟨0,Nat.zero_le _,rfl,fun j hj=>by omega,Below.refl _ _⟩
 case round=>
  obtain⟨k,hk,rfl,hall,hbel⟩:=hrel;have HA:=aac hall;clear hall;by_cases hlt:k < n
  · obtain⟨b,off,rfl,hb,hc⟩:=(h.below hbel).at_ (j:=k) (by omega);have hbe:=afv s (a+k) (by omega);have hi1:(a:Int)+(k:Int) < (s.size:Int):=(by omega);have hi2:(k:Int) < (n:Int):=(by omega);by_cases he:bt s (a+k)=L.getD k 0
    · have HR:Hid (∀ j,j < k+1→bt s (a+j)=L.getD j 0):=fun j hj=>by
       rcases Nat.lt_or_ge j k with hj' | hj'
       · exact HA.out j hj'
       · obtain rfl:j=k:=(by omega);exact he
      have te:((s[a+k].toNat:Int) != L.getD k 0)=false:=by rw[hbe];simpa using he
      clear he hbe HA;generalize L.getD k 0=x at *;go_wp2_with fail;have q1:(0:Int)≤(a:Int)+(k:Int):=(by omega);have q3:((a:Int)+(k:Int)).toNat=a+k:=(by omega);have q2:IntKind.i64.wrap ((a:Int)+(k:Int))=(a:Int)+(k:Int):=IntWalk.i64_in _ (by omega);go_quiet (fail);go_wp2;go_roundw
      case rel=>
       exact⟨k+1,by omega,by go_num,HR.out,below_drewN hbel _⟩
      case measure=>simp[intOf];omega
    · have te:((s[a+k].toNat:Int) != L.getD k 0)=true:=by rw[hbe];simpa using he
      have HP:Hid (¬ asK s a L):=fun hp=>he (hp.2.2 k (by omega));clear he hbe;generalize L.getD k 0=x at *;go_wp2_with fail;have q1:(0:Int)≤(a:Int)+(k:Int):=(by omega);have q3:((a:Int)+(k:Int)).toNat=a+k:=(by omega);have q2:IntKind.i64.wrap ((a:Int)+(k:Int))=(a:Int)+(k:Int):=IntWalk.i64_in _ (by omega);go_quiet (fail);go_wp2;go_ret;exact⟨false,rfl,by simp;exact HP.out,below_drewN hbel _⟩
  · have HP:Hid (asK s a L):=⟨by omega,by omega,fun j hj=>HA.out j (by omega)⟩;go_wp2;go_ret;exact⟨true,rfl,by simp;exact HP.out,hbel⟩
theorem afw (s:ByteArray)(a:Nat)(A:Option Addr)(c:Nat)(L:List Int)(w:World)(h:Rd .u8 w w.heap.size A L)(hs:s.size≤100000)(hL:L.length≤100000)(ha:a≤100000)(hp:asK s a L):
 Calls Tryz.prog 74 #[.string s,.int .i64 a,.slice A L.length c] w fun e w'=>e=.returned (.bool true)∧Below w.heap.size w w':=
 (ahp s a A c L w h hs hL ha).mono fun e w' ⟨b,h1,h2,h3⟩=>⟨by rw[h1,h2.2 hp],h3⟩
theorem ahb (s:ByteArray)(a:Nat)(A:Option Addr)(c:Nat)(L:List Int)(w:World)(h:Rd .u8 w w.heap.size A L)(hs:s.size≤100000)(hL:L.length≤100000)(ha:a≤100000)(hp:¬ asK s a L):
 Calls Tryz.prog 74 #[.string s,.int .i64 a,.slice A L.length c] w fun e w'=>e=.returned (.bool false)∧Below w.heap.size w w':=
 (ahp s a A c L w h hs hL ha).mono fun e w' ⟨b,h1,h2,h3⟩=>⟨by rw[h1,Bool.eq_false_iff.2 fun hb=>hp (h2.1 hb)],h3⟩
end Go.Proofs.YtnomcldpbkinmaaGreatDoor
namespace Go.Proofs.YtnomcldpbkinmaaGreatDoor
open Go.RowKit
def si (s:ByteArray):Int:=Lib.indexByte s.data.toList 59
theorem aeW:∀ (l:List UInt8),(Lib.indexByte l 59= -1∧(59:Int) ∉ l.map fun b=>(b.toNat:Int))∨
 ∃ i:Nat,Lib.indexByte l 59=i∧i < l.length∧(59:Int)∈(l.map fun b=>(b.toNat:Int))∧abg (l.map fun b=>(b.toNat:Int))=(l.map fun b=>(b.toNat:Int)).take i
 | []=>.inl ⟨rfl,by simp⟩
 | b :: l=>by
   unfold Lib.indexByte;by_cases hb:b=59
   · subst hb;exact .inr ⟨0,by simp,by simp,by simp,by simp[abg]⟩
   · have hb1:(b == 59)=false:=by simpa using hb
     have hb2:(b.toNat:Int)≠59:=fun h=>hb (UInt8.toNat_inj.1 (by
      have h9:b.toNat=59:=(by omega);rw[h9];rfl))
     rw[hb1];rcases aeW l with ⟨h1,h2⟩ | ⟨i,h1,h2,h3,h4⟩
     · refine .inl ⟨by rw[h1];rfl,?_⟩;rw[List.map_cons,List.mem_cons];rintro (h | h)
       · exact hb2 h.symm
       · exact h2 h
     · refine .inr ⟨i+1,?_,by simp;omega,?_,?_⟩
       · rw[h1];have:(((i:Int)) == -1)=false:=by rw[beq_eq_false_iff_ne];omega
         simp[this]
       · rw[List.map_cons,List.mem_cons];exact .inr h3
       · rw[List.map_cons,List.take_succ_cons,← h4];unfold abg;rw[List.takeWhile_cons,if_pos (by simpa using hb2)]
theorem avw (s:ByteArray):(si s= -1∧(59:Int) ∉ aad s)∨∃ i:Nat,si s=i∧i < s.size∧(59:Int)∈aad s∧abg (aad s)=(aad s).take i:=by
 have:=aeW s.data.toList;rw[← Lib.size_eq] at this;exact this
theorem aeN (s:ByteArray)(c:Int)(w:World):
 Calls Tryz.prog 137 #[.string s,.int .u8 c] w fun e w'=>e=.returned (.int .i64 (Lib.indexByte s.data.toList c.toNat.toUInt8))∧w=w':=by
 go_enter Tryz.func137,Tryz.ntmps137;go_wp2;rw[run_callFunc_extern Tryz.func168 (by kernel_rfl) (by kernel_rfl) (by kernel_rfl) (e:=Extern.BytealgIndexByte.indexByte) (by kernel_rfl),Lib.run_indexByteString];simp only[Result.andThen];rw[Oper.upon_value];go_wp2;go_ret;exact⟨rfl,rfl⟩
theorem ahv (s:ByteArray)(w:World):
 Calls Tryz.prog 113 #[.string s,.string ⟨#[59]⟩] w fun e w'=>e=.returned (.int .i64 (si s))∧w=w':=by
 go_enter Tryz.func113,Tryz.ntmps113;go_wp2_with (go_at_call 137;refine(aeN _ _ _).mono ?_;rintro e w' ⟨rfl,rfl⟩)
 · have h:([59] == s.toList)=true:=(by assumption);go_ret;refine⟨?_,rfl⟩;have e:s.data.toList=[59]:=by rw[← Lib.toList_data];exact(beq_iff_eq.1 h).symm
   unfold si;rw[e];rfl
 · go_ret;exact⟨rfl,rfl⟩
theorem aje (s:ByteArray)(i:Nat)(h:si s=i)(hi:i < s.size)(hs:s.size≤1000000)(w:World):
 Calls Tryz.prog 154 #[.string s,.string ⟨#[59]⟩] w fun e w'=>e=.returned (.tuple #[.string (s.extract 0 i),.string (s.extract (i+1) s.size),.bool true])∧Below w.heap.size w w':=by
 have CI:=aac (ahv s);rw[h] at CI;clear h;have c1:(0:Int)≤(i:Int):=(by omega);have c2:(i:Int)≤(s.size:Int):=(by omega);have c3:(0:Int)≤(i:Int)+1:=(by omega);have c4:(i:Int)+1≤(s.size:Int):=(by omega);have c5:decide ((0:Int)≤(i:Int))=true:=(by simp);have q3:((i:Int)+1).toNat=i+1:=(by omega);have q2:IntKind.i64.wrap ((i:Int)+1)=(i:Int)+1:=IntWalk.i64_in _ (by omega);go_enter Tryz.func154,Tryz.ntmps154;go_wp2_with (go_at_call 113;refine(CI.out _).mono ?_;rintro e w' ⟨rfl,rfl⟩);go_quiet (fail);go_wp2;go_ret3;exact⟨rfl,below_drewN (Below.refl _ _) _⟩
theorem agY (s:ByteArray)(h:si s= -1)(w:World):
 Calls Tryz.prog 154 #[.string s,.string ⟨#[59]⟩] w fun e w'=>e=.returned (.tuple #[.string s,.string ⟨#[]⟩,.bool false])∧Below w.heap.size w w':=by
 have CI:=aac (ahv s);rw[h] at CI;clear h;go_enter Tryz.func154,Tryz.ntmps154;go_wp2_with (go_at_call 113;refine(CI.out _).mono ?_;rintro e w' ⟨rfl,rfl⟩);go_ret3;exact⟨rfl,Below.refl _ _⟩
theorem afR (s:ByteArray)(i:Nat)(h:si s=i)(hi:i < s.size)(hs:s.size≤1000000)(w:World):
 Calls Tryz.prog 123 #[.string s,.string ⟨#[59]⟩] w fun e w'=>e=.returned (.tuple #[.string (s.extract 0 i),.string (s.extract (i+1) s.size),.bool true])∧Below w.heap.size w w':=by
 have CL:=aac (aje s i h hi hs);clear h hi hs;go_enter Tryz.func123,Tryz.ntmps123;go_wp2_with (go_at_call 154;refine(CL.out _).mono ?_;rintro e w' ⟨rfl,hb⟩);go_ret3;exact⟨rfl,hb⟩
theorem agD (s:ByteArray)(h:si s= -1)(w:World):
 Calls Tryz.prog 123 #[.string s,.string ⟨#[59]⟩] w fun e w'=>e=.returned (.tuple #[.string s,.string ⟨#[]⟩,.bool false])∧Below w.heap.size w w':=by
 have CL:=aac (agY s h);clear h;go_enter Tryz.func123,Tryz.ntmps123;go_wp2_with (go_at_call 154;refine(CL.out _).mono ?_;rintro e w' ⟨rfl,hb⟩);go_ret3;exact⟨rfl,hb⟩
theorem aya (t:ByteArray)(c:UInt8)(w:World)(h:t.size=0):
 Calls Tryz.prog 112 #[.string t,.string ⟨#[c]⟩] w fun e w'=>e=.returned (.bool false)∧w=w':=by
 have e1:decide ((1:Int)≤(t.size:Int))=false:=by rw[decide_eq_false_iff_not];omega
 have e2:decide (1≤t.size)=false:=by rw[decide_eq_false_iff_not];omega
 clear h;go_enter Tryz.func112,Tryz.ntmps112;go_wp2;go_ret;exact⟨rfl,rfl⟩
theorem eqB (t:ByteArray)(l:List UInt8)(m:List Int)(hm:(l.map fun b=>(b.toNat:Int))=m):(t.toList == l)=decide (aad t=m):=by
 subst hm;rw[Lib.toList_data,Bool.eq_iff_iff,beq_iff_eq,decide_eq_true_eq];unfold aad;constructor
 · intro h;rw[h]
 · intro h;have hl:=congrArg List.length h;simp only[List.length_map] at hl;refine List.ext_getElem hl fun i h1 h2=> ?_;have:=congrArg (fun l=>l[i]?) h;simp only[List.getElem?_map,List.getElem?_eq_getElem h1,List.getElem?_eq_getElem h2,Option.map_some,Option.some.injEq] at this;exact UInt8.toNat_inj.1 (by omega)
theorem apr (l:List Int)(c:Int)(h:1≤l.length):(l.take 1=[c])↔l.getD 0 0=c:=by
 cases l with
 | nil=>simp at h
 | cons x y=>simp
theorem afq (t:ByteArray)(c:UInt8)(h:1≤t.size):((t.extract 0 1).toList == [c])=decide ((aad t).getD 0 0=(c.toNat:Int)):=by
 rw[eqB _ [c] [(c.toNat:Int)] rfl,aal,List.drop_zero];have:=apr (aad t) (c.toNat:Int) (by rw[aae];exact h);simp only[this]
theorem amU (t:ByteArray)(c:UInt8)(w:World)(h:1≤t.size)(b:Bool)(hb:b=((t.extract 0 1).toList == [c])):
 Calls Tryz.prog 112 #[.string t,.string ⟨#[c]⟩] w fun e w'=>e=.returned (.bool b)∧w=w':=by
 have e1:decide ((1:Int)≤(t.size:Int))=true:=by rw[decide_eq_true_eq];omega
 have e2:decide (1≤t.size)=true:=by rw[decide_eq_true_eq];omega
 have e3:(1:Int)≤(t.size:Int):=(by omega);subst hb;go_enter Tryz.func112,Tryz.ntmps112;go_wp2;go_ret;exact⟨rfl,rfl⟩
theorem aqF {t:ByteArray}(h:¬ 1≤t.size):aad t=[]:=List.eq_nil_of_length_eq_zero (by rw[aae];omega)
theorem arZ (t:ByteArray)(c:UInt8)(w:World)(hc:c.toNat≠0)(h:(aad t).getD 0 0=(c.toNat:Int)):
 Calls Tryz.prog 112 #[.string t,.string ⟨#[c]⟩] w fun e w'=>e=.returned (.bool true)∧w=w':=by
 by_cases h1:1≤t.size
 · exact amU t c w h1 true (by rw[afq t c h1,decide_eq_true h])
 · rw[aqF h1] at h;simp at h;omega
theorem awC (t:ByteArray)(c:UInt8)(w:World)(h:(aad t).getD 0 0≠(c.toNat:Int)):
 Calls Tryz.prog 112 #[.string t,.string ⟨#[c]⟩] w fun e w'=>e=.returned (.bool false)∧w=w':=by
 by_cases h1:1≤t.size
 · exact amU t c w h1 false (by rw[afq t c h1,decide_eq_false h])
 · exact aya t c w (by omega)
theorem ank (t:ByteArray)(c:UInt8)(b:Bool)(C:Hid (∀ w,Calls Tryz.prog 112 #[.string t,.string ⟨#[c]⟩] w fun e w'=>e=.returned (.bool b)∧w=w'))(w:World):
 Calls Tryz.prog 85 #[.string t,.string ⟨#[c]⟩] w fun e w'=>e=.returned (.bool b)∧w=w':=by
 go_enter Tryz.func85,Tryz.ntmps85;go_wp2_with (go_at_call 112;refine(C.out _).mono ?_;rintro e w' ⟨rfl,rfl⟩);go_ret;exact⟨rfl,rfl⟩
theorem alA (t:ByteArray)(c:UInt8)(hc:c.toNat≠0)(h:(aad t).getD 0 0=(c.toNat:Int))(w:World):
 Calls Tryz.prog 85 #[.string t,.string ⟨#[c]⟩] w fun e w'=>e=.returned (.bool true)∧w=w':=ank t c true (aac fun w=>arZ t c w hc h) w
theorem aqx (t:ByteArray)(c:UInt8)(h:(aad t).getD 0 0≠(c.toNat:Int))(w:World):
 Calls Tryz.prog 85 #[.string t,.string ⟨#[c]⟩] w fun e w'=>e=.returned (.bool false)∧w=w':=ank t c false (aac fun w=>awC t c w h) w
theorem ayN (t:ByteArray)(c:UInt8)(hs:1≤t.size)(C:Hid (∀ w,Calls Tryz.prog 112 #[.string t,.string ⟨#[c]⟩] w fun e w'=>e=.returned (.bool true)∧w=w'))(w:World):
 Calls Tryz.prog 111 #[.string t,.string ⟨#[c]⟩] w fun e w'=>e=.returned (.tuple #[.string (t.extract 1 t.size),.bool true])∧w=w':=by
 have e3:(1:Int)≤(t.size:Int):=(by omega);go_enter Tryz.func111,Tryz.ntmps111;go_wp2_with (go_at_call 112;refine(C.out _).mono ?_;rintro e w' ⟨rfl,rfl⟩);go_ret2;exact⟨rfl,rfl⟩
theorem a0Y (t:ByteArray)(c:UInt8)(C:Hid (∀ w,Calls Tryz.prog 112 #[.string t,.string ⟨#[c]⟩] w fun e w'=>e=.returned (.bool false)∧w=w'))(w:World):
 Calls Tryz.prog 111 #[.string t,.string ⟨#[c]⟩] w fun e w'=>e=.returned (.tuple #[.string t,.bool false])∧w=w':=by
 go_enter Tryz.func111,Tryz.ntmps111;go_wp2_with (go_at_call 112;refine(C.out _).mono ?_;rintro e w' ⟨rfl,rfl⟩);go_ret2;exact⟨rfl,rfl⟩
theorem a1J (t r:ByteArray)(b:Bool)(c:UInt8)(C:Hid (∀ w,Calls Tryz.prog 111 #[.string t,.string ⟨#[c]⟩] w fun e w'=>e=.returned (.tuple #[.string r,.bool b])∧w=w'))(w:World):
 Calls Tryz.prog 83 #[.string t,.string ⟨#[c]⟩] w fun e w'=>e=.returned (.tuple #[.string r,.bool b])∧w=w':=by
 go_enter Tryz.func83,Tryz.ntmps83;go_wp2_with (go_at_call 111;refine(C.out _).mono ?_;rintro e w' ⟨rfl,rfl⟩);go_ret2;exact⟨rfl,rfl⟩
theorem amL (t:ByteArray)(c:UInt8)(hc:c.toNat≠0)(h:(aad t).getD 0 0=(c.toNat:Int))(w:World):
 Calls Tryz.prog 83 #[.string t,.string ⟨#[c]⟩] w fun e w'=>e=.returned (.tuple #[.string (t.extract 1 t.size),.bool true])∧w=w':=by
 refine a1J t _ _ c (aac fun w=>ayN t c ?_ (aac fun w=>arZ t c w hc h) w) w;by_cases h1:1≤t.size
 · exact h1
 · rw[aqF h1] at h;simp at h;omega
theorem avE (t:ByteArray)(c:UInt8)(h:(aad t).getD 0 0≠(c.toNat:Int))(w:World):
 Calls Tryz.prog 83 #[.string t,.string ⟨#[c]⟩] w fun e w'=>e=.returned (.tuple #[.string t,.bool false])∧w=w':=
 a1J t _ _ c (aac fun w=>a0Y t c (aac fun w=>awC t c w h) w) w
def nmV (l:List Int):Int:=if l=[108,116] then 60 else if l=[103,116] then 62 else if l=[97,109,112] then 38 else if l=[97,112,111,115] then 39 else if l=[113,117,111,116] then 34 else -1
def nrV (l:List Int):Int:=if l.getD 0 0≠35 then -1 else if l.getD 1 0=120 then akF 16 (l.drop 2) else akF 10 (l.drop 1)
theorem akO (l:List Int):ajm l=if 0≤nmV l then nmV l else nrV l:=by
 unfold ajm nmV;by_cases h1:l=[108,116]
 · rw[if_pos h1,if_pos h1];simp
 rw[if_neg h1,if_neg h1];by_cases h2:l=[103,116]
 · rw[if_pos h2,if_pos h2];simp
 rw[if_neg h2,if_neg h2];by_cases h3:l=[97,109,112]
 · rw[if_pos h3,if_pos h3];simp
 rw[if_neg h3,if_neg h3];by_cases h4:l=[97,112,111,115]
 · rw[if_pos h4,if_pos h4];simp
 rw[if_neg h4,if_neg h4];by_cases h5:l=[113,117,111,116]
 · rw[if_pos h5,if_pos h5];simp
 rw[if_neg h5,if_neg h5];rfl
theorem a3W (t:ByteArray):(t.toList == [108,116])=decide (aad t=[108,116]):=eqB t _ _ rfl
theorem a4a (t:ByteArray):(t.toList == [103,116])=decide (aad t=[103,116]):=eqB t _ _ rfl
theorem a1c (t:ByteArray):(t.toList == [97,109,112])=decide (aad t=[97,109,112]):=eqB t _ _ rfl
theorem awu (t:ByteArray):(t.toList == [97,112,111,115])=decide (aad t=[97,112,111,115]):=eqB t _ _ rfl
theorem aww (t:ByteArray):(t.toList == [113,117,111,116])=decide (aad t=[113,117,111,116]):=eqB t _ _ rfl
def nmR (x:Int):Value:=.tuple #[.int .i32 (if 0≤x then x else 0),.bool (decide (0≤x))]
theorem akx (t:ByteArray)(w:World):Calls Tryz.prog 187 #[.string t] w fun e w'=>e=.returned (nmR (nmV (aad t)))∧w=w':=by
 go_enter Tryz.func187,Tryz.ntmps187;go_wp2
 all_goals
  go_ret2;refine⟨?_,rfl⟩;simp only[a3W,a4a,a1c,awu,aww,decide_eq_true_eq,decide_eq_false_iff_not] at *;unfold nmV;simp only[*,if_true,if_false,List.cons.injEq,reduceCtorEq,and_false,false_and]
  first | rfl | (simp;rfl)
theorem arf (t:ByteArray)(r:Int)(hr:nmV (aad t)=r)(h:0≤r)(w:World):Calls Tryz.prog 187 #[.string t] w fun e w'=>e=.returned (.tuple #[.int .i32 r,.bool true])∧w=w':=by
 have:=akx t w;rw[hr] at this;unfold nmR at this;rw[if_pos h,decide_eq_true h] at this;exact this
theorem auP (t:ByteArray)(h:¬ 0≤nmV (aad t))(w:World):Calls Tryz.prog 187 #[.string t] w fun e w'=>e=.returned (.tuple #[.int .i32 0,.bool false])∧w=w':=by
 have:=akx t w;unfold nmR at this;rw[if_neg h,decide_eq_false h] at this;exact this
end Go.Proofs.YtnomcldpbkinmaaGreatDoor
namespace Go.Proofs.YtnomcldpbkinmaaGreatDoor
open Go.RowKit
theorem abT {a b:Bool}(h:a=b):Ending.returned (.bool a)=.returned (.bool b):=by rw[h]
theorem cbt {p:Prop} [Decidable p](h:p):true=decide p:=(decide_eq_true h).symm
theorem cbf {p:Prop} [Decidable p](h:¬ p):false=decide p:=(decide_eq_false h).symm
theorem adw (r a b:Int)(w:World):Calls Tryz.prog 142 #[.int .i32 r,.int .i32 a,.int .i32 b] w fun e w'=>e=.returned (.bool (decide (Btw r a b)))∧w=w':=by
 go_enter Tryz.func142,Tryz.ntmps142;go_wp2
 all_goals
  go_ret;refine⟨abT ?_,rfl⟩
  first
   | refine cbt ?_
   | refine cbf ?_
   | (refine Bool.eq_iff_iff.2 ?_;simp only[decide_eq_true_eq,Bool.or_eq_true,beq_iff_eq])
  simp only[Part,Start,Chr,Blank,Btw] at *
  first
   | omega
   | (constructor <;> intro hq <;> omega)
theorem agF (r:Int)(w:World):Calls Tryz.prog 91 #[.int .i32 r] w fun e w'=>e=.returned (.bool (decide (Blank r)))∧w=w':=by
 go_enter Tryz.func91,Tryz.ntmps91;go_wp2
 all_goals
  go_ret;refine⟨abT ?_,rfl⟩
  first
   | refine cbt ?_
   | refine cbf ?_
   | (refine Bool.eq_iff_iff.2 ?_;simp only[decide_eq_true_eq,Bool.or_eq_true,beq_iff_eq])
  simp only[Part,Start,Chr,Blank,Btw] at *
  first
   | omega
   | (constructor <;> intro hq <;> omega)
theorem aes (r:Int)(w:World):Calls Tryz.prog 115 #[.int .i32 r] w fun e w'=>e=.returned (.bool (decide (Chr r)))∧w=w':=by
 go_enter Tryz.func115,Tryz.ntmps115;go_wp2_with (first | (go_at_call 91;refine(agF _ _).mono ?_;rintro e w' ⟨rfl,rfl⟩) | (go_at_call 142;refine(adw _ _ _ _).mono ?_;rintro e w' ⟨rfl,rfl⟩))
 all_goals
  go_ret;refine⟨abT ?_,rfl⟩
  first
   | refine cbt ?_
   | refine cbf ?_
   | (refine Bool.eq_iff_iff.2 ?_;simp only[decide_eq_true_eq,Bool.or_eq_true,beq_iff_eq])
  simp only[Part,Start,Chr,Blank,Btw] at *
  first
   | omega
   | (constructor <;> intro hq <;> omega)
end Go.Proofs.YtnomcldpbkinmaaGreatDoor
