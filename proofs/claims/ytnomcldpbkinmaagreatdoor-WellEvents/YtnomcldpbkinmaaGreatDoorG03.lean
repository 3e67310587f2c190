/- Lemmas of the claim. -/
import Derived.Test.YtnomcldpbkinmaaGreatDoorG02
import Derived.Test.YtnomcldpbkinmaaGreatDoorG01
import Derived.Lib.ConvBytes
import Derived.Lib.BufferWrite
import Derived.Lib.UnsafeStr
import Derived.Lib.AtoiErrMem
import Derived.Lib.IfaceEq
import Derived.Laws.MakeOwn
import Derived.RegionTactic
import Derived.Deep.RegionWith
import Derived.Deep.RegionHeld3
import Derived.BigCall
import Derived.Lib.Hide
set_option maxHeartbeats 8000000
set_option maxRecDepth 100000
set_option linter.unusedSimpArgs false
set_option linter.unusedVariables false
namespace Go.Proofs.YtnomcldpbkinmaaGreatDoor
open Go.RowKit
def low (c:Int):Int:=bits .or .u8 c 32
theorem ayq:∀ n:Fin 256,bits .or .u8 ((n:Nat):Int) 32=if (n:Nat) / 32 % 2=1 then ((n:Nat):Int) else ((n:Nat):Int)+32:=by decide+kernel
theorem avO (c:Int)(h0:0≤c)(h1:c≤255):low c=if c / 32 % 2=1 then c else c+32:=by
 obtain⟨n,rfl⟩:=Int.eq_ofNat_of_zero_le h0;have:=ayq ⟨n,by omega⟩;simp only at this;unfold low;rw[this];by_cases h:n / 32 % 2=1
 · rw[if_pos h,if_pos (by omega)]
 · rw[if_neg h,if_neg (by omega)]
theorem alV (c:Int)(w:World):Calls Tryz.prog 206 #[.int .u8 c] w fun e w'=>e=.returned (.int .u8 (low c))∧w=w':=by
 go_enter Tryz.func206,Tryz.ntmps206;go_wp2;go_ret;exact⟨rfl,rfl⟩
def akA (x:Int)(w:World)(e:Ending)(w':World):Prop:=
 ((0≤x∧e=.returned (.tuple #[.int .u64 x,.nilIface]))∨(x= -1∧∃ y:Int,e=.returned (.tuple #[.int .u64 y,.iface 261 (.int .i64 1)]))∨(x= -1∧∃ y:Int,e=.returned (.tuple #[.int .u64 y,.iface 261 (.int .i64 2)])))∧Below w.heap.size w w'
theorem avu (b:Int)(w:World):Calls Tryz.prog 203 #[.string ⟨#[]⟩,.int .i64 b,.int .i64 31] w (akA (-1) w):=by
 go_enter Tryz.func203,Tryz.ntmps203;go_wp2;go_ret2;exact⟨.inr (.inr ⟨rfl,0,rfl⟩),Below.refl _ _⟩
theorem akz (b:Int)(c n:Int)(l:List Int):ajY b (c :: l) n=if dig c < b then (if 2147483647 < n * b+dig c then -1 else ajY b l (n * b+dig c)) else -1:=rfl
theorem drop_cons (l:List Int)(k:Nat)(h:k < l.length):l.drop k=l.getD k 0 :: l.drop (k+1):=by
 rw[List.drop_eq_getElem_cons h];simp[List.getD_eq_getElem?_getD,List.getElem?_eq_getElem h]
theorem anW (t:ByteArray)(k:Nat):0≤(aad t).getD k 0∧(aad t).getD k 0≤255:=by
 rw[← abx];have:=afI t k;have:=ahA t k;omega
def arU (b:Int)(l:List Int)(k:Nat)(a:Int):Prop:=0≤a∧a≤2147483647∧ajY b l 0=ajY b (l.drop k) a
theorem a3E (t:ByteArray)(hne:t.size≠0)(hs:t.size≤1000000)(w:World):Calls Tryz.prog 203 #[.string t,.int .i64 10,.int .i64 31] w (akA (ajY 10 (aad t) 0) w):=by
 have hemp:t.toList.isEmpty=false:=by
  rw[← decide_eq_emptyBytes];exact decide_eq_false (fun h=>hne (by rw[h];rfl))
 have hcv:=Lib.run_convert_string_bytes (P:=Tryz.prog) w 9 65 5 t (u:=.string) Tryz.underlying9 Tryz.underlying65 Tryz.underlying5
 have hB:∀ j,j < t.size→(Lib.bytesWorld w 5 t).cell? ⟨w.heap.size,j,none⟩=some (.int .u8 ((aad t).getD j 0)):=fun j hj=>by
  rw[Lib.bytesWorld_cell w 5 t j hj,← abx];rfl
 have hW:=aac (Lib.bytesWorld_below w 5 t);obtain⟨W1,hW1⟩:∃ W1,W1=Lib.bytesWorld w 5 t:=⟨_,rfl⟩;rw[← hW1] at hcv hB hW;clear hW1;have hby:=anW t;have hLn:=aae t;obtain⟨L,hL⟩:∃ L,L=aad t:=⟨_,rfl⟩;rw[← hL] at hB hby hLn ⊢;clear hL
 have hmv:IntKind.u64.wrap (IntKind.u64.wrap 2147483648 - 1)=2147483647:=by
  rw[IntKind.wrap_u64,IntKind.wrap_u64];decide
 go_enter Tryz.func203,Tryz.ntmps203;go_wp2;go_loop [12,13,101] (fun vu vn vi=>∃ (k:Nat) (a:Int),vu=.bool false∧vn=.int .u64 a∧vi=.int .i64 k∧k≤t.size∧Hid (arU 10 L k a)) (fun _ _ vi=>t.size - (intOf vi).toNat);case atStart=>exact⟨0,0,rfl,rfl,rfl,by omega,aac ⟨by omega,by omega,rfl⟩⟩
 case round=>
  obtain⟨k,a,rfl,rfl,rfl,hk,hh⟩:=hrel;obtain⟨a0,a1,hdec⟩:=hh.out;clear hh;by_cases hkn:k < t.size
  · have hc:=hB k hkn;have hb:=hby k;rw[drop_cons L k (by omega),akz] at hdec;generalize L.getD k 0=c at hc hdec hb;obtain⟨c0,c1⟩:=hb;clear hB hby;by_cases hdig:48≤c∧c≤57
    · obtain⟨hd0,hd1⟩:=hdig;have hd:dig c=c - 48:=by unfold dig;rw[if_pos ⟨hd0,hd1⟩]
      rw[hd,if_pos (by omega)] at hdec;by_cases hov:2147483647 < a * 10+(c - 48)
      · rw[if_pos hov] at hdec;have HD:=aac hdec;clear hdec hd;go_wp2;go_ret2;exact⟨.inr (.inl ⟨HD.out,_,rfl⟩),hW.out⟩
      · rw[if_neg hov] at hdec;have HN:Hid (arU 10 L (k+1) (a * 10+(c - 48))):=aac ⟨by omega,by omega,hdec⟩;have iov:a * 10+(c - 48)≤2147483647:=(by omega);clear hdec hd hov;go_wp2;refine⟨⟨k+1,a * 10+(c - 48),rfl,(by first | rfl | (congr 1;omega)),(by first | rfl | (congr 1;omega)),by omega,HN⟩,by simp[intOf];omega⟩
    · have hl:=avO c c0 c1
      have hd:¬ dig c < 10:=by
       unfold dig;rw[if_neg hdig]
       repeat' split
       all_goals omega
      rw[if_neg hd] at hdec;have HD:=aac hdec;have LW:=aac (alV c)
      have y0:low c < 97∨122 < low c∨(97≤low c∧low c≤122):=by
       rw[hl];split <;> omega
      have z0:0≤low c:=by rw[hl];split <;> omega
      have z1:low c≤255:=by rw[hl];split <;> omega
      clear hdec hd hl
      have nd:decide (c≤57)=false∨decide (48≤c)=false:=by
       rw[decide_eq_false_iff_not,decide_eq_false_iff_not];omega
      clear hdig;by_cases h95:c=95
      · subst h95;have y1:low 95=127:=(by decide+kernel);rw[y1] at LW;clear y0 z0 z1 nd c0 c1 y1;go_wp2_with (go_at_call 206;refine(LW.out _).mono ?_;rintro e w' ⟨rfl,rfl⟩);all_goals go_ret2
        all_goals exact⟨.inr (.inr ⟨HD.out,_,rfl⟩),hW.out⟩
      generalize low c=x at *;rcases nd with nd | nd
      · rcases y0 with y0 | y0 | ⟨y0,y1⟩
        all_goals
         go_wp2_with (go_at_call 206;refine(LW.out _).mono ?_;rintro e w' ⟨rfl,rfl⟩);all_goals go_ret2
         all_goals exact⟨.inr (.inr ⟨HD.out,_,rfl⟩),hW.out⟩
      · rcases y0 with y0 | y0 | ⟨y0,y1⟩
        all_goals
         go_wp2_with (go_at_call 206;refine(LW.out _).mono ?_;rintro e w' ⟨rfl,rfl⟩);all_goals go_ret2
         all_goals exact⟨.inr (.inr ⟨HD.out,_,rfl⟩),hW.out⟩
  · have hkk:k=t.size:=(by omega);subst hkk;rw[List.drop_eq_nil_of_le (by omega)] at hdec;have HD:=aac hdec;clear hdec;go_wp2;go_ret2;exact⟨.inl ⟨by rw[HD.out];exact a0,by rw[HD.out];rfl⟩,hW.out⟩
theorem a2s (t:ByteArray)(hne:t.size≠0)(hs:t.size≤1000000)(w:World):Calls Tryz.prog 203 #[.string t,.int .i64 16,.int .i64 31] w (akA (ajY 16 (aad t) 0) w):=by
 have hemp:t.toList.isEmpty=false:=by
  rw[← decide_eq_emptyBytes];exact decide_eq_false (fun h=>hne (by rw[h];rfl))
 have hcv:=Lib.run_convert_string_bytes (P:=Tryz.prog) w 9 65 5 t (u:=.string) Tryz.underlying9 Tryz.underlying65 Tryz.underlying5
 have hB:∀ j,j < t.size→(Lib.bytesWorld w 5 t).cell? ⟨w.heap.size,j,none⟩=some (.int .u8 ((aad t).getD j 0)):=fun j hj=>by
  rw[Lib.bytesWorld_cell w 5 t j hj,← abx];rfl
 have hW:=aac (Lib.bytesWorld_below w 5 t);obtain⟨W1,hW1⟩:∃ W1,W1=Lib.bytesWorld w 5 t:=⟨_,rfl⟩;rw[← hW1] at hcv hB hW;clear hW1;have hby:=anW t;have hLn:=aae t;obtain⟨L,hL⟩:∃ L,L=aad t:=⟨_,rfl⟩;rw[← hL] at hB hby hLn ⊢;clear hL
 have hmv:IntKind.u64.wrap (IntKind.u64.wrap 2147483648 - 1)=2147483647:=by
  rw[IntKind.wrap_u64,IntKind.wrap_u64];decide
 go_enter Tryz.func203,Tryz.ntmps203;go_wp2;go_loop [12,13,101] (fun vu vn vi=>∃ (k:Nat) (a:Int),vu=.bool false∧vn=.int .u64 a∧vi=.int .i64 k∧k≤t.size∧Hid (arU 16 L k a)) (fun _ _ vi=>t.size - (intOf vi).toNat);case atStart=>exact⟨0,0,rfl,rfl,rfl,by omega,aac ⟨by omega,by omega,rfl⟩⟩
 case round=>
  obtain⟨k,a,rfl,rfl,rfl,hk,hh⟩:=hrel;obtain⟨a0,a1,hdec⟩:=hh.out;clear hh;by_cases hkn:k < t.size
  · have hc:=hB k hkn;have hb:=hby k;rw[drop_cons L k (by omega),akz] at hdec;generalize L.getD k 0=c at hc hdec hb;obtain⟨c0,c1⟩:=hb;clear hB hby;by_cases hdig:48≤c∧c≤57
    · obtain⟨hd0,hd1⟩:=hdig;have hd:dig c=c - 48:=by unfold dig;rw[if_pos ⟨hd0,hd1⟩]
      rw[hd,if_pos (by omega)] at hdec;by_cases hov:2147483647 < a * 16+(c - 48)
      · rw[if_pos hov] at hdec;have HD:=aac hdec;clear hdec hd;go_wp2;go_ret2;exact⟨.inr (.inl ⟨HD.out,_,rfl⟩),hW.out⟩
      · rw[if_neg hov] at hdec;have HN:Hid (arU 16 L (k+1) (a * 16+(c - 48))):=aac ⟨by omega,by omega,hdec⟩;have iov:a * 16+(c - 48)≤2147483647:=(by omega);clear hdec hd hov;go_wp2;refine⟨⟨k+1,a * 16+(c - 48),rfl,(by first | rfl | (congr 1;omega)),(by first | rfl | (congr 1;omega)),by omega,HN⟩,by simp[intOf];omega⟩
    · have hl:=avO c c0 c1;by_cases hx:(97≤c∧c≤102)∨(65≤c∧c≤70)
      · have hd:dig c=low c - 97+10:=by
         unfold dig;rw[if_neg hdig,hl];by_cases h:97≤c∧c≤102
         · rw[if_pos h,if_pos (by omega)];omega
         · rw[if_neg h,if_pos (by omega),if_neg (by omega)];omega
        have x0:97≤low c:=by rw[hl];split <;> omega
        have x1:low c≤102:=by rw[hl];split <;> omega
        have n0:decide (48≤c)=true:=by rw[decide_eq_true_eq];omega
        have n1:decide (c≤57)=false:=by rw[decide_eq_false_iff_not];omega
        have n2:¬ c=95:=(by omega);have LW:=aac (alV c);rw[hd] at hdec;clear hl hdig hx hd c0 c1;generalize low c=x at *;rw[if_pos (by omega)] at hdec;by_cases hov:2147483647 < a * 16+(x - 97+10)
        · rw[if_pos hov] at hdec;have HD:=aac hdec;clear hdec;go_wp2_with (go_at_call 206;refine(LW.out _).mono ?_;rintro e w' ⟨rfl,rfl⟩);go_ret2;exact⟨.inr (.inl ⟨HD.out,_,rfl⟩),hW.out⟩
        · rw[if_neg hov] at hdec;have HN:Hid (arU 16 L (k+1) (a * 16+(x - 97+10))):=aac ⟨by omega,by omega,hdec⟩;have iov:a * 16+(x - 97+10)≤2147483647:=(by omega);clear hdec hov;go_wp2_with (go_at_call 206;refine(LW.out _).mono ?_;rintro e w' ⟨rfl,rfl⟩);refine⟨⟨k+1,a * 16+(x - 97+10),rfl,(by first | rfl | (congr 1;omega)),(by first | rfl | (congr 1;omega)),by omega,HN⟩,by simp[intOf];omega⟩
      have hd:¬ dig c < 16:=by
       unfold dig;rw[if_neg hdig,if_neg (by omega),if_neg (by omega)];omega
      rw[if_neg hd] at hdec;have HD:=aac hdec;have LW:=aac (alV c)
      have y0:low c < 97∨122 < low c∨(103≤low c∧low c≤122):=by
       rw[hl];split <;> omega
      have z0:0≤low c:=by rw[hl];split <;> omega
      have z1:low c≤255:=by rw[hl];split <;> omega
      clear hdec hd hl
      have nd:decide (c≤57)=false∨decide (48≤c)=false:=by
       rw[decide_eq_false_iff_not,decide_eq_false_iff_not];omega
      clear hdig;by_cases h95:c=95
      · subst h95;have y1:low 95=127:=(by decide+kernel);rw[y1] at LW;clear y0 z0 z1 nd c0 c1 y1;go_wp2_with (go_at_call 206;refine(LW.out _).mono ?_;rintro e w' ⟨rfl,rfl⟩);all_goals go_ret2
        all_goals exact⟨.inr (.inr ⟨HD.out,_,rfl⟩),hW.out⟩
      generalize low c=x at *;rcases nd with nd | nd
      · rcases y0 with y0 | y0 | ⟨y0,y1⟩
        all_goals
         go_wp2_with (go_at_call 206;refine(LW.out _).mono ?_;rintro e w' ⟨rfl,rfl⟩);all_goals go_ret2
         all_goals exact⟨.inr (.inr ⟨HD.out,_,rfl⟩),hW.out⟩
      · rcases y0 with y0 | y0 | ⟨y0,y1⟩
        all_goals
         go_wp2_with (go_at_call 206;refine(LW.out _).mono ?_;rintro e w' ⟨rfl,rfl⟩);all_goals go_ret2
         all_goals exact⟨.inr (.inr ⟨HD.out,_,rfl⟩),hW.out⟩
  · have hkk:k=t.size:=(by omega);subst hkk;rw[List.drop_eq_nil_of_le (by omega)] at hdec;have HD:=aac hdec;clear hdec;go_wp2;go_ret2;exact⟨.inl ⟨by rw[HD.out];exact a0,by rw[HD.out];rfl⟩,hW.out⟩
end Go.Proofs.YtnomcldpbkinmaaGreatDoor
namespace Go.Proofs.YtnomcldpbkinmaaGreatDoor
open Go.RowKit
theorem info5:(Tryz.prog.info? 5).map (fun i=>(i.zero,i.size,i.bytes))=some (some (.int .u8 0),1,1):=by kernel_rfl
def Vars (w:World):Prop:=8≤w.heap.size∧(∃ t p,w.cell? ⟨6,0,none⟩=some (.iface t p))∧(∃ t p,w.cell? ⟨7,0,none⟩=some (.iface t p))
theorem Vars.keep {w w':World}{B:Nat}(h:Vars w)(hb:Below B w w')(hB:8≤B):Vars w':=by
 obtain⟨h1,⟨t,p,h2⟩,t',p',h3⟩:=h;exact⟨Nat.le_trans h1 hb.size,⟨t,p,(hb.cell (p:=⟨6,0,none⟩) (show 6 < B by omega)).trans h2⟩,t',p',(hb.cell (p:=⟨7,0,none⟩) (show 7 < B by omega)).trans h3⟩
theorem abE (s:ByteArray)(w:World)(hlim:s.size≤1000000):
 Calls Tryz.prog 127 #[.string s] w fun e w'=>e=.returned (.string s)∧Below w.heap.size w w':=by
 by_cases h0:s.size=0
 · have hs:s=⟨#[]⟩:=by
    apply ByteArray.ext;exact Array.eq_empty_of_size_eq_zero h0
   subst hs;go_enter Tryz.func127,Tryz.ntmps127;go_wp2;go_ret;exact⟨rfl,Below.refl _ _⟩
 · obtain⟨i0,hi,hz0,hz1,hz2⟩:=info_parts info5;have hinfo:(Tryz.prog.info? 5).map (·.size)=some 1:=by rw[hi];simp[hz1]
   have hco:Tryz.prog.cellsOf 5=1:=(by kernel_rfl);obtain⟨M,hM⟩:∃ M,M=madeCells (Value.int .u8 0).cells (((s.size:Nat):Int).toNat * i0.size):=⟨_,rfl⟩;have hMs:M.size=s.size:=by rw[hM,size_madeCells,hz1];simp
   have hmk:∀ W:World,(Instr.makeSlice 65 (.int .i64 (s.size:Int)) (.int .i64 (s.size:Int))).run Tryz.prog W=.ok (.slice (some ⟨W.heap.size,0,none⟩) s.size s.size) (W.alloc (.cells M 5)):=fun W=>by
    have h:=run_make (P:=Tryz.prog) W 65 5 i0 (.int .u8 0) Tryz.underlying65 hi hz0 .i64 .i64 (s.size:Int) (s.size:Int) (by omega) (by omega) (by rw[hz2];omega) (by omega);rw[← hM] at h
    simpa using h
   clear hM;have hcp:=Lib.run_copy_row_string (P:=Tryz.prog) (w.alloc (.cells M 5)) 65 9 3 5 w.heap.size 0 s.size s.size s M 5 Tryz.underlying65 hinfo (heap_alloc_new w _) (Nat.le_refl _) (by omega);obtain⟨Y,hY⟩:∃ Y,Y=(M.toList.take 0++Lib.byteCells s.data.toList++M.toList.drop (0+s.size)).toArray:=⟨_,rfl⟩;rw[← hY] at hcp
   have hYl:Y.toList=Lib.byteCells s.data.toList:=by
    rw[hY,List.toList_toArray,List.take_zero,List.nil_append,List.drop_of_length_le (by rw[Array.length_toList];omega),List.append_nil]
   have hYs:Y.size=s.size:=(by rw[← Array.length_toList,hYl,Lib.byteCells_length,← Lib.size_eq]);have hgY:((w.alloc (.cells M 5)).setRow w.heap.size Y).heap[w.heap.size]?=some (.cells Y 5 (0,0)):=setRow_heap _ _ M _ 5 (0,0) (heap_alloc_new w _);have hne:s.data.toList≠[]:=fun e=>h0 (by rw[Lib.size_eq,e];rfl)
   have hUS:=Lib.run_unsafeString_row (P:=Tryz.prog) ((w.alloc (.cells M 5)).setRow w.heap.size Y) 208 3 9 5 Tryz.underlying208 hco w.heap.size Y.size (by unfold World.shape?;rw[hgY]) s.data.toList hne (by rw[← Lib.size_eq];omega) (by rw[← Lib.size_eq];omega)
    (fun j x hx=>Lib.cells_of_row hgY Y.size j _ (by rw[List.take_of_length_le (by rw[Array.length_toList];exact Nat.le_refl _),hYl];simp[Lib.byteCells,hx]))
   rw[← Lib.size_eq] at hUS;clear hY;go_enter Tryz.func127,Tryz.ntmps127;go_wp2;go_ret;have hb1:Below w.heap.size w (w.alloc (.cells M 5)):=(Below.refl _ w).alloc (Nat.le_refl _) _;have hb2:Below w.heap.size (w.alloc (.cells M 5)) ((w.alloc (.cells M 5)).setRow w.heap.size Y):=⟨rfl,rfl,rfl,by simp,fun k hk=>setRow_other _ _ _ _ (by omega)⟩;exact⟨rfl,Lib.below_freeze (hb1.trans hb2) (p:=⟨w.heap.size,0,none⟩) (Nat.le_refl _) _⟩
theorem ayV (fn s:ByteArray)(te:TypeId)(pe:Value)(w:World)(hlim:s.size≤1000000)(hv:w.cell? ⟨6,0,none⟩=some (.iface te pe)):
 Calls Tryz.prog 208 #[.string fn,.string s] w fun e w'=>∃ n,e=.returned (.pointer (some ⟨n,0,none⟩))∧Below w.heap.size w w':=by
 have hG:6 < w.heap.size:=Lib.lt_of_cell hv;have hvd:w.drew.cell? ⟨6,0,none⟩=some (.iface te pe):=hv;go_enter Tryz.func208,Tryz.ntmps208;go_wp2
 go_region_with (
  go_at_call 127;refine(abE s _ hlim).mono ?_;rintro e w2 ⟨rfl,hbel⟩;have hv2:w2.cell? ⟨6,0,none⟩=some (.iface te pe):=(hbel.cell (show (⟨6,0,none⟩:Addr).block < w.drew.heap.size from hG)).trans hvd)
 all_goals (
  go_wp2;go_ret;have hs2:w.heap.size≤w2.heap.size:=hbel.size;exact⟨_,rfl,((Below.drew (Below.refl _ w)).trans hbel).alloc hs2 _⟩)
theorem ayC (fn s:ByteArray)(te:TypeId)(pe:Value)(w:World)(hlim:s.size≤1000000)(hv:w.cell? ⟨7,0,none⟩=some (.iface te pe)):
 Calls Tryz.prog 209 #[.string fn,.string s] w fun e w'=>∃ n,e=.returned (.pointer (some ⟨n,0,none⟩))∧Below w.heap.size w w':=by
 have hG:7 < w.heap.size:=Lib.lt_of_cell hv;have hvd:w.drew.cell? ⟨7,0,none⟩=some (.iface te pe):=hv;go_enter Tryz.func209,Tryz.ntmps209;go_wp2
 go_region_with (
  go_at_call 127;refine(abE s _ hlim).mono ?_;rintro e w2 ⟨rfl,hbel⟩;have hv2:w2.cell? ⟨7,0,none⟩=some (.iface te pe):=(hbel.cell (show (⟨7,0,none⟩:Addr).block < w.drew.heap.size from hG)).trans hvd)
 all_goals (
  go_wp2;go_ret;have hs2:w.heap.size≤w2.heap.size:=hbel.size;exact⟨_,rfl,((Below.drew (Below.refl _ w)).trans hbel).alloc hs2 _⟩)
theorem c91:(Tryz.prog.info? 261).map (·.comparable)=some true:=by kernel_rfl
theorem apP (fn s:ByteArray)(base bits:Int)(w:World)(hlim:s.size≤1000000)(hV:Vars w):
 Calls Tryz.prog 204 #[.string fn,.string s,.int .i64 base,.int .i64 bits,.iface 261 (.int .i64 2)] w fun e w'=>∃ n,e=.returned (.iface 263 (.pointer (some ⟨n,0,none⟩)))∧Below w.heap.size w w':=by
 have heq:∀ W,(binOp .eql 227 (.iface 261 (.int .i64 2)) (.iface 261 (.int .i64 2))).run Tryz.prog W=.ok (.bool true) W:=fun W=>Lib.run_eql_iface_int W 2 2 Tryz.underlying227 c91 Tryz.underlying261;obtain⟨_,⟨te,pe,hv⟩,_⟩:=hV;go_enter Tryz.func204,Tryz.ntmps204;go_wp2_with (go_at_call 208;refine(ayV fn s te pe _ hlim hv).mono ?_);rintro e w2 ⟨n,rfl,h3⟩;go_wp2;go_ret;exact⟨n,rfl,h3⟩
theorem asu (fn s:ByteArray)(base bits:Int)(w:World)(hlim:s.size≤1000000)(hV:Vars w):
 Calls Tryz.prog 204 #[.string fn,.string s,.int .i64 base,.int .i64 bits,.iface 261 (.int .i64 1)] w fun e w'=>∃ n,e=.returned (.iface 263 (.pointer (some ⟨n,0,none⟩)))∧Below w.heap.size w w':=by
 have heq:∀ W,(binOp .eql 227 (.iface 261 (.int .i64 1)) (.iface 261 (.int .i64 1))).run Tryz.prog W=.ok (.bool true) W:=fun W=>Lib.run_eql_iface_int W 1 1 Tryz.underlying227 c91 Tryz.underlying261;have heq2:∀ W,(binOp .eql 227 (.iface 261 (.int .i64 1)) (.iface 261 (.int .i64 2))).run Tryz.prog W=.ok (.bool false) W:=fun W=>Lib.run_eql_iface_int W 1 2 Tryz.underlying227 c91 Tryz.underlying261;obtain⟨_,_,te,pe,hv⟩:=hV;go_enter Tryz.func204,Tryz.ntmps204;go_wp2_with (go_at_call 209;refine(ayC fn s te pe _ hlim hv).mono ?_);rintro e w2 ⟨n,rfl,h3⟩;go_wp2;go_ret;exact⟨n,rfl,h3⟩
def avt (x:Int)(w:World)(e:Ending)(w':World):Prop:=
 ((0≤x∧e=.returned (.tuple #[.int .u64 x,.nilIface]))∨(x= -1∧∃ (y:Int) (n:Nat),e=.returned (.tuple #[.int .u64 y,.iface 263 (.pointer (some ⟨n,0,none⟩))])))∧Below w.heap.size w w'
theorem avM (t:ByteArray)(b x:Int)(w:World)(hlim:t.size≤1000000)(hV:Vars w)(C:Hid (Calls Tryz.prog 203 #[.string t,.int .i64 b,.int .i64 31] w (akA x w))):
 Calls Tryz.prog 197 #[.string t,.int .i64 b,.int .i64 31] w (avt x w):=by
 go_enter Tryz.func197,Tryz.ntmps197;go_wp2_with (go_at_call 203;refine C.out.mono ?_);rintro e w1 ⟨h,hb⟩;have hV1:=hV.keep hb hV.1;clear C hV;rcases h with ⟨h0,rfl⟩ | ⟨h0,y,rfl⟩ | ⟨h0,y,rfl⟩
 · have HX:=aac h0;clear h0;go_wp2;go_ret2;exact⟨.inl ⟨HX.out,rfl⟩,hb⟩
 · have HX:=aac h0;clear h0;go_wp2_with (go_at_call 204;refine(asu _ _ _ _ _ hlim hV1).mono ?_);rintro e w2 ⟨n,rfl,hb2⟩;go_wp2;go_ret2;exact⟨.inr ⟨HX.out,y,n,rfl⟩,hb.trans (hb2.mono hb.size)⟩
 · have HX:=aac h0;clear h0;go_wp2_with (go_at_call 204;refine(apP _ _ _ _ _ hlim hV1).mono ?_);rintro e w2 ⟨n,rfl,hb2⟩;go_wp2;go_ret2;exact⟨.inr ⟨HX.out,y,n,rfl⟩,hb.trans (hb2.mono hb.size)⟩
theorem a0k (t:ByteArray)(b:Int)(hb:b=10∨b=16)(hs:t.size≤1000000)(w:World):
 Calls Tryz.prog 203 #[.string t,.int .i64 b,.int .i64 31] w (akA (if t.size=0 then -1 else ajY b (aad t) 0) w):=by
 by_cases h0:t.size=0
 · rw[if_pos h0]
   have hs:t=⟨#[]⟩:=by
    apply ByteArray.ext;exact Array.eq_empty_of_size_eq_zero h0
   subst hs;exact avu b w
 · rw[if_neg h0];rcases hb with rfl | rfl
   · exact a3E t h0 hs w
   · exact a2s t h0 hs w
theorem ajp (t:ByteArray)(b:Int)(hb:b=10∨b=16)(w:World)(hs:t.size≤1000000)(hV:Vars w):
 Calls Tryz.prog 197 #[.string t,.int .i64 b,.int .i64 31] w (avt (if t.size=0 then -1 else ajY b (aad t) 0) w):=
 avM t b _ w hs hV (aac (a0k t b hb hs w))
end Go.Proofs.YtnomcldpbkinmaaGreatDoor
namespace Go.Proofs.YtnomcldpbkinmaaGreatDoor
open Go.RowKit
theorem Tryz.info5:(Tryz.prog.info? 5).map (fun i=>(i.zero,i.size,i.bytes))=some (some (.int .u8 0),1,1):=by kernel_rfl
def afz (w:World)(B:Nat)(v:Value)(l:List Int):Prop:=w.ownsRow B 5 1 v l.length (l.map (Value.int .u8))
theorem abR {w w':World}{B:Nat}{v v':Value}{xs ys:List Int}{o:Obj}(hB:B≤w.heap.size)(hown:afz w B v xs)
 (h:w'.ownsRow B 5 1 v' (xs.length+ys.length) (xs.map (Value.int .u8)++ys.map (Value.int .u8))) (hg:(w.alloc o).grownBy w' v.ownBlock):afz w' B v' (xs++ys)∧Below B w w':=by
 refine⟨?_,?_⟩
 · unfold afz;rw[List.map_append,List.length_append];exact h
 · exact((Below.refl B w).alloc hB o).grown hg (by simp;omega) (fun g hg=>(World.ownsRow.lt hown g hg).1)
theorem amo (w:World)(t:TypeId)(cs:Array Value)(i:Nat):(w.alloc (.cells cs t)).cell? ⟨w.heap.size,i,none⟩=cs[i]?:=cell_of_row _ _ i cs t (0,0) (heap_alloc_new w _)
theorem aaT (w:World)(cs:Array Value)(e:TypeId):∀ (j:Nat) (u:Value),cs.toList[j]?=some u→(w.alloc (.cells cs e)).cell? ((⟨w.heap.size,0,none⟩:Addr).add j)=some u:=by
 intro j u h;have hc:=(amo w e cs) j;unfold Addr.add;by_cases h0:j=0
 · subst h0
   simpa [hc] using h
 · simpa [h0,hc] using h
end Go.Proofs.YtnomcldpbkinmaaGreatDoor
