/- Lemmas of the claim. -/
import Derived.Test.YtiaebhomfebagaaGreatDoorG02
import Derived.Test.YtiaebhomfebagaaGreatDoorG01
import Derived.Lib.Builder
import Derived.Lib.AppendStr
import Derived.Lib.UnsafeStr
import Derived.Laws.Externs
import Derived.Lib.Hide
set_option maxHeartbeats 2000000
set_option maxRecDepth 100000
set_option linter.unusedSimpArgs false
set_option linter.unusedVariables false
namespace Go.Proofs.YtiaebhomfebagaaGreatDoor
open Go.RowKit
theorem aln:(Tryz.prog.info? 72).map (·.size)=some 2:=by kernel_rfl
theorem azK:liesAt Tryz.prog Tryz.prog.depth 148 (3 / Tryz.prog.cellsOf 148) 0 72 1=true:=by kernel_rfl
theorem cellsByte:Tryz.prog.cellsOf 5=1:=by kernel_rfl
def Byt (l:List Int):Prop:=∀ x∈l,0≤x∧x≤255
theorem Byt.nil:Byt []:=fun x h=>by simp at h
theorem Byt.app {l m:List Int}(h:Byt l)(h2:Byt m):Byt (l++m):=fun x hx=>by
 rcases List.mem_append.1 hx with h1 | h1
 · exact h x h1
 · exact h2 x h1
theorem Byt.aad (s:ByteArray):Byt (aad s):=fun x hx=>by
 obtain⟨b,_,rfl⟩:=List.mem_map.1 hx;have:=b.toNat_lt;omega
theorem Byt.enc {r:Int}(h:¬ Bad r):Byt (aat r):=fun x hx=>⟨(aef r h).1 x hx,(aef r h).2 x hx⟩
theorem Byt.one {x:Int}(h:0≤x)(h2:x≤255):Byt [x]:=fun y hy=>by
 have:y=x:=(by simpa using hy);omega
def aiS (p:Value)(B b:Nat)(v:Bool)(bs:List Int)(w:World):Prop:=
 B≤b∧Byt bs∧∃ x,w.heap[b]?=some (.cells #[p,x,.bool v] 148 (0,0))∧agn w B x bs∧(bs=[]→x=.slice none 0 0)
def Gat (B b:Nat)(v:Bool)(bs:List Int)(w:World):Prop:=aiS (.pointer none) B b v bs w∨aiS (.pointer (some ⟨b,0,none⟩)) B b v bs w
theorem Gat.one {B b:Nat}{v:Bool}{bs:List Int}{w:World}(h:Gat B b v bs w):∃ p,aiS p B b v bs w:=by
 rcases h with h | h
 · exact⟨_,h⟩
 · exact⟨_,h⟩
theorem aiS.lt {p:Value}{B b:Nat}{v:Bool}{bs:List Int}{w:World}(h:aiS p B b v bs w):b < w.heap.size:=by
 obtain⟨_,_,x,hb,_⟩:=h;rcases Nat.lt_or_ge b w.heap.size with h' | h'
 · exact h'
 · simp[Array.getElem?_eq_none h'] at hb
theorem Gat.lt {B b:Nat}{v:Bool}{bs:List Int}{w:World}(h:Gat B b v bs w):b < w.heap.size:=by
 obtain⟨p,hp⟩:=h.one;exact hp.lt
theorem aaj {w w':World}{B:Nat}{e:TypeId}{size:Nat}{v:Value}{n:Nat}{xs:List Value}(h:w.ownsRow B e size v n xs)(hb:Below w.heap.size w w'):w'.ownsRow B e size v n xs:=by
 refine⟨h.1,?_⟩;rcases h.2 with hn | ⟨g,cap,cur,rfl,hb1,hgg,rest⟩
 · exact .inl hn
 · refine .inr ⟨g,cap,cur,rfl,hb1,?_,rest⟩;rw[hb.block g (Array.getElem?_eq_some_iff.1 hgg).1];exact hgg
theorem aiS.keep {p:Value}{B b:Nat}{v:Bool}{bs:List Int}{w w':World}(h:aiS p B b v bs w)(hb:Below w.heap.size w w'):aiS p B b v bs w':=by
 have hlt:=h.lt;obtain⟨h1,h2,x,h3,h4,h5⟩:=h;exact⟨h1,h2,x,(hb.block b hlt).trans h3,aaj h4 hb,h5⟩
theorem Gat.keep {B b:Nat}{v:Bool}{bs:List Int}{w w':World}(h:Gat B b v bs w)(hb:Below w.heap.size w w'):Gat B b v bs w':=by
 rcases h with h | h
 · exact .inl (h.keep hb)
 · exact .inr (h.keep hb)
theorem aqe (w:World)(v:Bool):Gat w.heap.size w.heap.size v [] (w.alloc (.cells #[.pointer none,.slice none 0 0,.bool v] 148)):=
 .inl ⟨Nat.le_refl _,Byt.nil,.slice none 0 0,heap_alloc_new w _,World.ownsRow_nil _ _ _ _,fun _=>rfl⟩
theorem aiS.value {p:Value}{B b:Nat}{v:Bool}{bs:List Int}{w:World}(h:aiS p B b v bs w):w.cell? ⟨b,2,none⟩=some (.bool v):=by
 obtain⟨_,_,x,hb,_⟩:=h;rw[Lib.cell_of_heap hb];rfl
theorem Gat.value {B b:Nat}{v:Bool}{bs:List Int}{w:World}(h:Gat B b v bs w):w.cell? ⟨b,2,none⟩=some (.bool v):=by
 obtain⟨p,hp⟩:=h.one;exact hp.value
theorem amE (b:Nat)(w:World)(h0:w.cell? ⟨b,0,none⟩=some (.pointer (some ⟨b,0,none⟩))):
 Calls Tryz.prog 61 #[.pointer (some ⟨b,0,none⟩)] w fun e w'=>e=.returned (.tuple #[])∧w'=w:=by
 obtain⟨j,hj,_⟩:=Option.map_eq_some_iff.1 aln;go_enter Tryz.func61,Tryz.ntmps61;go_wp2;rw[Lib.run_neq_ptr_same w _ Tryz.underlying70 hj];go_wp2
 go_end0
 exact⟨rfl,rfl⟩
theorem aoN (b:Nat)(w:World)(h0:w.cell? ⟨b,0,none⟩=some (.pointer none))(hsh:w.shape? b=some (148,3))(hfz:w.frozen? ⟨b,0,none⟩=false):
 Calls Tryz.prog 61 #[.pointer (some ⟨b,0,none⟩)] w fun e w'=>e=.returned (.tuple #[])∧w'=w.setCell ⟨b,0,none⟩ (.pointer (some ⟨b,0,none⟩)):=by
 obtain⟨j,hj,hjs⟩:=Option.map_eq_some_iff.1 aln;go_enter Tryz.func61,Tryz.ntmps61;go_wp2;rw[Lib.run_to_unsafe w ⟨b,0,none⟩ Tryz.underlying70 Tryz.underlying145 hj (by rw[hjs];decide) hsh (Nat.zero_lt_succ 2)];simp only[Result.andThen];rw[Oper.upon_value];go_wp2;rw[run_callFunc_extern Tryz.func80 (by kernel_rfl) (by kernel_rfl) (by kernel_rfl) (e:=Extern.AbiNoEscape.same) (by kernel_rfl)];rw[Lib.run_noEscape];simp only[Result.andThen];rw[Oper.upon_value];go_wp2;rw[Lib.run_from_unsafe w ⟨b,0,none⟩ Tryz.underlying145 Tryz.underlying70 hj hsh azK];simp only[Result.andThen];rw[Oper.upon_value];go_wp2
 go_end0
 exact⟨rfl,rfl⟩
theorem akN (B b:Nat)(v:Bool)(bs:List Int)(w:World)(h:Gat B b v bs w):
 Calls Tryz.prog 61 #[.pointer (some ⟨b,0,none⟩)] w fun e w'=>e=.returned (.tuple #[])∧aiS (.pointer (some ⟨b,0,none⟩)) B b v bs w'∧Below B w w':=by
 rcases h with h | h
 · have hlt:=h.lt;obtain⟨hB,hby,x,hb,hown,h0⟩:=h;refine(aoN b w (by rw[Lib.cell_of_heap hb];rfl) (by simp[World.shape?,hb]) (Lib.frozen_of_heap hb 0)).mono ?_;rintro e w' ⟨rfl,rfl⟩;refine⟨rfl,⟨hB,hby,x,?_,?_,h0⟩,(Below.refl B w).setCell (p:=⟨b,0,none⟩) hB _⟩
   · simp[World.setCell,Array.getElem?_modify,hb]
   · exact World.ownsRow.kept (row:=some b) hown ⟨rfl,rfl,rfl,by simp[World.setCell],fun k _ hk=>Below.heap_setCell _ _ _ _ (fun e=>hk (by simp[e]))⟩ (Or.inr (Lib.ownBlock_ne hown hb (by decide)))
 · refine(amE b w ?_).mono ?_
   · obtain⟨_,_,x,hb,_⟩:=h;rw[Lib.cell_of_heap hb];rfl
   · rintro e w' ⟨rfl,rfl⟩;exact⟨rfl,h,Below.refl B _⟩
theorem aiS.put {p x x':Value}{B b:Nat}{v:Bool}{bs:List Int}{w:World}(hB:B≤b)(hby:Byt bs)(hb:w.heap[b]?=some (.cells #[p,x,.bool v] 148 (0,0)))(hown:agn w B x' bs)(hne:bs≠[]):
 aiS p B b v bs (w.setCell ⟨b,1,none⟩ x'):=by
 refine⟨hB,hby,x',?_,?_,fun h=>absurd h hne⟩
 · simp[World.setCell,Array.getElem?_modify,hb]
 · exact World.ownsRow.kept (row:=some b) hown ⟨rfl,rfl,rfl,by simp[World.setCell],fun k _ hk=>Below.heap_setCell _ _ _ _ (fun e=>hk (by simp[e]))⟩ (Or.inr (Lib.ownBlock_ne hown hb (by decide)))
theorem aeZ (B b:Nat)(v:Bool)(bs:List Int)(c:Int)(w:World)(h:Gat B b v bs w)(hB0:B≤w.heap.size)(hl:bs.length≤1000000000000)(hc0:0≤c)(hc1:c≤255):
 Calls Tryz.prog 107 #[.pointer (some ⟨b,0,none⟩),.int .u8 c] w fun e w'=>e=.returned .nilIface∧Gat B b v (bs++[c]) w'∧Below B w w':=by
 obtain⟨i0,hi,hz0,hz1,hz2⟩:=info_parts Tryz.info5;go_enter Tryz.func107,Tryz.ntmps107;go_wp2_with (go_at_call 61;refine(akN B b v bs _ h).mono ?_);rintro e w1 ⟨rfl,h1,hb1⟩;have hlt:=h1.lt;obtain⟨hB,hby,x,hbk,hown,hx0⟩:=h1;have hne:=Lib.ownBlock_ne hown hbk (by decide);have c0:w1.cell? ⟨b,0,none⟩=some (.pointer (some ⟨b,0,none⟩)):=by rw[Lib.cell_of_heap hbk];rfl
 have c1:w1.cell? ⟨b,1,none⟩=some x:=by rw[Lib.cell_of_heap hbk];rfl
 have hs1:=hb1.size;clear hx0 h;go_wp2_with (at_builtin;refine wpList_append_own _ rfl _ _ 57 rfl B 5 i0 (.int .u8 0) 1 1 Tryz.underlying57 hi hz0 hz1 hz2 rfl (by decide) _ _ _ rfl (World.ownsRow.alloc hown _) ⟨w1.heap.size,0,none⟩ 1 1 [.int .u8 c] rfl rfl (abE w1 #[.int .u8 c] 5) (ints_oneCell .u8 [c]) (by unfold maxLen;omega) (by omega) (by simp;omega) ?_);intro v' w2 hown' hgrow _
 have hb2:w2.heap[b]?=some (.cells #[.pointer (some ⟨b,0,none⟩),x,.bool v] 148 (0,0)):=by
  rw[hgrow.block b (by simp;omega) (fun e=>hne e.symm),Lib.alloc_old w1 _ b hlt];exact hbk
 have d0:w2.cell? ⟨b,0,none⟩=some (.pointer (some ⟨b,0,none⟩)):=by rw[Lib.cell_of_heap hb2];rfl
 have d1:w2.cell? ⟨b,1,none⟩=some x:=by rw[Lib.cell_of_heap hb2];rfl
 have f1:w2.frozen? ⟨b,1,none⟩=false:=Lib.frozen_of_heap hb2 1
 obtain⟨g,cap,rfl⟩:∃ g cap,v'=.slice (some ⟨g,0,none⟩) (bs.length+1) cap:=by
  rcases hown'.2 with ⟨_,h0⟩ | ⟨g,cap,cur,hv,_⟩
  · omega
  · exact⟨g,cap,hv⟩
 have R:agn w2 B (.slice (some ⟨g,0,none⟩) (bs.length+1) cap) (bs++[c]):=by
  unfold agn;rw[List.map_append,List.length_append];exact hown'
 have FG:=aac (aiS.put (v:=v) hB (hby.app (Byt.one hc0 hc1)) hb2 R (by simp));have FB:=aac (((hb1.alloc (by omega) (.cells #[.int .u8 c] 5)).grown hgrow (by simp;omega) (fun k hk=>(World.ownsRow.lt hown k hk).1)).setCell (p:=⟨b,1,none⟩) hB (.slice (some ⟨g,0,none⟩) (bs.length+1) cap));clear R hown' hgrow hown hb1;go_wp2;go_ret;exact⟨rfl,.inr FG.out,FB.out⟩
theorem acw (B b:Nat)(v:Bool)(bs:List Int)(s:ByteArray)(w:World)(h:Gat B b v bs w)(hB0:B≤w.heap.size)(hl:bs.length≤1000000000000)(hs:s.size≤1000000000000)(hs0:1≤s.size):
 Calls Tryz.prog 41 #[.pointer (some ⟨b,0,none⟩),.string s] w fun e w'=>e=.returned (.tuple #[.int .i64 s.size,.nilIface])∧Gat B b v (bs++aad s) w'∧Below B w w':=by
 obtain⟨i0,hi,hz0,hz1,hz2⟩:=info_parts Tryz.info5;go_enter Tryz.func41,Tryz.ntmps41;go_wp2_with (go_at_call 61;refine(akN B b v bs _ h).mono ?_);rintro e w1 ⟨rfl,h1,hb1⟩;have hlt:=h1.lt;obtain⟨hB,hby,x,hbk,hown,hx0⟩:=h1;have hne:=Lib.ownBlock_ne hown hbk (by decide);have c0:w1.cell? ⟨b,0,none⟩=some (.pointer (some ⟨b,0,none⟩)):=by rw[Lib.cell_of_heap hbk];rfl
 have c1:w1.cell? ⟨b,1,none⟩=some x:=by rw[Lib.cell_of_heap hbk];rfl
 have hs1:=hb1.size;clear hx0 h;go_wp2_with (at_builtin;refine Lib.wpList_append_own_string _ rfl _ _ 57 9 rfl B 5 i0 Tryz.underlying57 Tryz.underlying9 hi hz0 hz1 hz2 _ _ _ rfl hown s rfl (by unfold maxLen;omega) (by omega) (by omega) ?_);intro v' w2 hown' hgrow _
 have hb2:w2.heap[b]?=some (.cells #[.pointer (some ⟨b,0,none⟩),x,.bool v] 148 (0,0)):=by
  rw[hgrow.block b hlt (fun e=>hne e.symm)];exact hbk
 have d0:w2.cell? ⟨b,0,none⟩=some (.pointer (some ⟨b,0,none⟩)):=by rw[Lib.cell_of_heap hb2];rfl
 have d1:w2.cell? ⟨b,1,none⟩=some x:=by rw[Lib.cell_of_heap hb2];rfl
 have f1:w2.frozen? ⟨b,1,none⟩=false:=Lib.frozen_of_heap hb2 1
 obtain⟨g,cap,rfl⟩:∃ g cap,v'=.slice (some ⟨g,0,none⟩) (bs.length+s.size) cap:=by
  rcases hown'.2 with ⟨_,h0⟩ | ⟨g,cap,cur,hv,_⟩
  · omega
  · exact⟨g,cap,hv⟩
 have R:agn w2 B (.slice (some ⟨g,0,none⟩) (bs.length+s.size) cap) (bs++aad s):=by
  unfold agn;rw[List.map_append,List.length_append,aae];have e:(aad s).map (Value.int .u8)=Lib.strCells s:=by unfold aad;rw[List.map_map];rfl
  rw[e];exact hown'
 have FG:=aac (aiS.put (v:=v) hB (hby.app (Byt.aad s)) hb2 R (fun e=>by
  have:=congrArg List.length e;rw[List.length_append,aae,List.length_nil] at this;omega))
 have FB:=aac ((hb1.grown hgrow (by omega) (fun k hk=>(World.ownsRow.lt hown k hk).1)).setCell (p:=⟨b,1,none⟩) hB (.slice (some ⟨g,0,none⟩) (bs.length+s.size) cap));clear R hown' hgrow hown hb1;go_wp2;go_ret2;exact⟨rfl,.inr FG.out,FB.out⟩
def acQ (w:World)(B:Nat)(x:Value)(l:List Int)(e:Ending)(w':World):Prop:=∃ v,e=.returned v∧agn w' B v l∧∃ o,(w.alloc o).grownBy w' x.ownBlock
theorem a6z (x:Value)(xs:List Int)(r:Int)(B:Nat)(w:World)(hB:B≤w.heap.size)(hown:agn w B x xs)(hl:xs.length≤1000000000000)(h0:0≤r)(h1:r < 128):
 Calls Tryz.prog 185 #[x,.int .i32 r] w (acQ w B x (xs++[r])):=by
 obtain⟨i0,hi,hz0,hz1,hz2⟩:=info_parts Tryz.info5;have hown':=World.ownsRow.alloc hown (.cells #[.int .u8 (r)] 5);go_enter Tryz.func185,Tryz.ntmps185;go_wp2_with (at_builtin;refine wpList_append_own _ rfl _ _ 57 rfl B 5 i0 (.int .u8 0) 1 1 Tryz.underlying57 hi hz0 hz1 hz2 rfl (by decide) _ _ _ rfl hown' ⟨w.heap.size,0,none⟩ 1 1 [.int .u8 (r)] rfl rfl (abE w #[.int .u8 (r)] 5) (ints_oneCell .u8 [r]) (by unfold maxLen;omega) (by omega) (by simp;omega) ?_);intro v' w1 hown2 hgrow _;have R:=aac (aeD (ys:=[r]) hB hown hown2 hgrow).1;have G:=aac hgrow;clear hown2 hgrow hown';go_wp2;go_ret;exact⟨_,rfl,R.out,_,G.out⟩
theorem a6l (x:Value)(xs:List Int)(r:Int)(B:Nat)(w:World)(hB:B≤w.heap.size)(hown:agn w B x xs)(hl:xs.length≤1000000000000)(h0:128≤r)(h1:r < 2048):
 Calls Tryz.prog 192 #[x,.int .i32 r] w (acQ w B x (xs++[192+r / 64,128+r % 64])):=by
 obtain⟨i0,hi,hz0,hz1,hz2⟩:=info_parts Tryz.info5;have hown':=World.ownsRow.alloc hown (.cells #[.int .u8 (192+r / 64),.int .u8 (128+r % 64)] 5);go_enter Tryz.func192,Tryz.ntmps192;go_wp2_with (at_builtin;refine wpList_append_own _ rfl _ _ 57 rfl B 5 i0 (.int .u8 0) 1 1 Tryz.underlying57 hi hz0 hz1 hz2 rfl (by decide) _ _ _ rfl hown' ⟨w.heap.size,0,none⟩ 2 2 [.int .u8 (192+r / 64),.int .u8 (128+r % 64)] rfl rfl (abE w #[.int .u8 (192+r / 64),.int .u8 (128+r % 64)] 5) (ints_oneCell .u8 [192+r / 64,128+r % 64]) (by unfold maxLen;omega) (by omega) (by simp;omega) ?_);intro v' w1 hown2 hgrow _;have R:=aac (aeD (ys:=[192+r / 64,128+r % 64]) hB hown hown2 hgrow).1;have G:=aac hgrow;clear hown2 hgrow hown';go_wp2;go_ret;exact⟨_,rfl,R.out,_,G.out⟩
theorem a5h (x:Value)(xs:List Int)(r:Int)(B:Nat)(w:World)(hB:B≤w.heap.size)(hown:agn w B x xs)(hl:xs.length≤1000000000000)(h0:2048≤r)(h1:r < 55296):
 Calls Tryz.prog 192 #[x,.int .i32 r] w (acQ w B x (xs++[224+r / 4096,128+r / 64 % 64,128+r % 64])):=by
 obtain⟨i0,hi,hz0,hz1,hz2⟩:=info_parts Tryz.info5;have hown':=World.ownsRow.alloc hown (.cells #[.int .u8 (224+r / 4096),.int .u8 (128+r / 64 % 64),.int .u8 (128+r % 64)] 5);go_enter Tryz.func192,Tryz.ntmps192;go_wp2_with (at_builtin;refine wpList_append_own _ rfl _ _ 57 rfl B 5 i0 (.int .u8 0) 1 1 Tryz.underlying57 hi hz0 hz1 hz2 rfl (by decide) _ _ _ rfl hown' ⟨w.heap.size,0,none⟩ 3 3 [.int .u8 (224+r / 4096),.int .u8 (128+r / 64 % 64),.int .u8 (128+r % 64)] rfl rfl (abE w #[.int .u8 (224+r / 4096),.int .u8 (128+r / 64 % 64),.int .u8 (128+r % 64)] 5) (ints_oneCell .u8 [224+r / 4096,128+r / 64 % 64,128+r % 64]) (by unfold maxLen;omega) (by omega) (by simp;omega) ?_);intro v' w1 hown2 hgrow _;have R:=aac (aeD (ys:=[224+r / 4096,128+r / 64 % 64,128+r % 64]) hB hown hown2 hgrow).1;have G:=aac hgrow;clear hown2 hgrow hown';go_wp2;go_ret;exact⟨_,rfl,R.out,_,G.out⟩
theorem a5I (x:Value)(xs:List Int)(r:Int)(B:Nat)(w:World)(hB:B≤w.heap.size)(hown:agn w B x xs)(hl:xs.length≤1000000000000)(h0:57343 < r)(h1:r < 65536):
 Calls Tryz.prog 192 #[x,.int .i32 r] w (acQ w B x (xs++[224+r / 4096,128+r / 64 % 64,128+r % 64])):=by
 obtain⟨i0,hi,hz0,hz1,hz2⟩:=info_parts Tryz.info5;have hown':=World.ownsRow.alloc hown (.cells #[.int .u8 (224+r / 4096),.int .u8 (128+r / 64 % 64),.int .u8 (128+r % 64)] 5);go_enter Tryz.func192,Tryz.ntmps192;go_wp2_with (at_builtin;refine wpList_append_own _ rfl _ _ 57 rfl B 5 i0 (.int .u8 0) 1 1 Tryz.underlying57 hi hz0 hz1 hz2 rfl (by decide) _ _ _ rfl hown' ⟨w.heap.size,0,none⟩ 3 3 [.int .u8 (224+r / 4096),.int .u8 (128+r / 64 % 64),.int .u8 (128+r % 64)] rfl rfl (abE w #[.int .u8 (224+r / 4096),.int .u8 (128+r / 64 % 64),.int .u8 (128+r % 64)] 5) (ints_oneCell .u8 [224+r / 4096,128+r / 64 % 64,128+r % 64]) (by unfold maxLen;omega) (by omega) (by simp;omega) ?_);intro v' w1 hown2 hgrow _;have R:=aac (aeD (ys:=[224+r / 4096,128+r / 64 % 64,128+r % 64]) hB hown hown2 hgrow).1;have G:=aac hgrow;clear hown2 hgrow hown';go_wp2;go_ret;exact⟨_,rfl,R.out,_,G.out⟩
theorem a6i (x:Value)(xs:List Int)(r:Int)(B:Nat)(w:World)(hB:B≤w.heap.size)(hown:agn w B x xs)(hl:xs.length≤1000000000000)(h0:65536≤r)(h1:r≤1114111):
 Calls Tryz.prog 192 #[x,.int .i32 r] w (acQ w B x (xs++[240+r / 262144,128+r / 4096 % 64,128+r / 64 % 64,128+r % 64])):=by
 obtain⟨i0,hi,hz0,hz1,hz2⟩:=info_parts Tryz.info5;have hown':=World.ownsRow.alloc hown (.cells #[.int .u8 (240+r / 262144),.int .u8 (128+r / 4096 % 64),.int .u8 (128+r / 64 % 64),.int .u8 (128+r % 64)] 5);go_enter Tryz.func192,Tryz.ntmps192;go_wp2_with (at_builtin;refine wpList_append_own _ rfl _ _ 57 rfl B 5 i0 (.int .u8 0) 1 1 Tryz.underlying57 hi hz0 hz1 hz2 rfl (by decide) _ _ _ rfl hown' ⟨w.heap.size,0,none⟩ 4 4 [.int .u8 (240+r / 262144),.int .u8 (128+r / 4096 % 64),.int .u8 (128+r / 64 % 64),.int .u8 (128+r % 64)] rfl rfl (abE w #[.int .u8 (240+r / 262144),.int .u8 (128+r / 4096 % 64),.int .u8 (128+r / 64 % 64),.int .u8 (128+r % 64)] 5) (ints_oneCell .u8 [240+r / 262144,128+r / 4096 % 64,128+r / 64 % 64,128+r % 64]) (by unfold maxLen;omega) (by omega) (by simp;omega) ?_);intro v' w1 hown2 hgrow _;have R:=aac (aeD (ys:=[240+r / 262144,128+r / 4096 % 64,128+r / 64 % 64,128+r % 64]) hB hown hown2 hgrow).1;have G:=aac hgrow;clear hown2 hgrow hown';go_wp2;go_ret;exact⟨_,rfl,R.out,_,G.out⟩
theorem ayM (x:Value)(xs:List Int)(r:Int)(B:Nat)(w:World)(hB:B≤w.heap.size)(hown:agn w B x xs)(hl:xs.length≤1000000000000)(hb:¬ Bad r)(h1:128≤r):
 Calls Tryz.prog 192 #[x,.int .i32 r] w (acQ w B x (xs++aat r)):=by
 unfold Bad at hb;by_cases h2:r < 2048
 · rw[enc2 (by omega) h2];exact a6l x xs r B w hB hown hl (by omega) h2
 by_cases h3:r < 55296
 · rw[enc3 (by omega) (by omega)];exact a5h x xs r B w hB hown hl (by omega) h3
 by_cases h4:r < 65536
 · rw[enc3 (by omega) (by omega)];exact a5I x xs r B w hB hown hl (by omega) h4
 · rw[enc4 (by omega)];exact a6i x xs r B w hB hown hl (by omega) (by omega)
theorem a1Y (x:Value)(l:List Int)(r:Int)(B:Nat)(w:World)(h1:128≤r)(h2:r≤1114111)(C:Hid (∀ w1,w1=w→Calls Tryz.prog 192 #[x,.int .i32 r] w1 (acQ w B x l))):
 Calls Tryz.prog 185 #[x,.int .i32 r] w (acQ w B x l):=by
 go_enter Tryz.func185,Tryz.ntmps185;go_wp2_with (go_at_call 192;refine(C.out _ rfl).mono ?_);rintro e w1 ⟨v,rfl,h3⟩;have H:=aac h3;clear h3;go_wp2;go_ret;exact⟨v,rfl,H.out⟩
theorem a0I (x:Value)(xs:List Int)(r:Int)(B:Nat)(w:World)(hB:B≤w.heap.size)(hown:agn w B x xs)(hl:xs.length≤1000000000000)(hb:¬ Bad r):
 Calls Tryz.prog 185 #[x,.int .i32 r] w (acQ w B x (xs++aat r)):=by
 by_cases h1:r < 128
 · rw[enc1 h1];unfold Bad at hb;exact a6z x xs r B w hB hown hl (by omega) h1
 · exact a1Y x _ r B w (by omega) (by unfold Bad at hb;omega) (aac fun w1 hw=>by subst hw;exact ayM x xs r B _ hB hown hl hb (by omega))
theorem ajJ (B b:Nat)(v:Bool)(bs:List Int)(r:Int)(w:World)(h:Gat B b v bs w)(hB0:B≤w.heap.size)(hl:bs.length≤1000000000000)(hr:¬ Bad r):
 Calls Tryz.prog 171 #[.pointer (some ⟨b,0,none⟩),.int .i32 r] w fun e w'=>(∃ n:Int,e=.returned (.tuple #[.int .i64 n,.nilIface]))∧Gat B b v (bs++aat r) w'∧Below B w w':=by
 have hne0:bs++aat r≠[]:=by
  intro e;have:=congrArg List.length e;rw[List.length_append,List.length_nil] at this;have:=(abT r).1;omega
 obtain⟨m,hm,hm4⟩:∃ m,(bs++aat r).length=m∧m≤1000000000010:=⟨_,rfl,by have:=(abT r).2;rw[List.length_append];omega⟩;obtain⟨n0,hn0,hn1⟩:∃ m,bs.length=m∧m≤1000000000010:=⟨_,rfl,by omega⟩;go_enter Tryz.func171,Tryz.ntmps171;go_wp2_with (go_at_call 61;refine(akN B b v bs _ h).mono ?_);rintro e w1 ⟨rfl,h1,hb1⟩;have hlt:=h1.lt;obtain⟨hB,hby,x,hbk,hown,hx0⟩:=h1;have hne:=Lib.ownBlock_ne hown hbk (by decide);have hs1:=hb1.size;have C:=aac (a0I x bs r B w1 (by omega) hown hl hr)
 obtain⟨xa,xc,rfl⟩:∃ a c,x=.slice a n0 c:=by
  rw[← hn0];rcases hown.2 with ⟨h1,h2⟩ | ⟨g,cap,cur,hv,_⟩
  · exact⟨_,_,by rw[h1,h2]⟩
  · exact⟨_,_,hv⟩
 have c0:w1.cell? ⟨b,0,none⟩=some (.pointer (some ⟨b,0,none⟩)):=by rw[Lib.cell_of_heap hbk];rfl
 have c1:w1.cell? ⟨b,1,none⟩=some (.slice xa n0 xc):=by rw[Lib.cell_of_heap hbk];rfl
 clear hx0 h;go_wp2_with (go_at_call 185;refine C.out.mono ?_);rintro e w2 ⟨v',rfl,R,o,hgrow⟩
 have hb2:w2.heap[b]?=some (.cells #[.pointer (some ⟨b,0,none⟩),.slice xa n0 xc,.bool v] 148 (0,0)):=by
  rw[hgrow.block b (by simp;omega) (fun e=>hne e.symm),Lib.alloc_old w1 _ b hlt];exact hbk
 have d0:w2.cell? ⟨b,0,none⟩=some (.pointer (some ⟨b,0,none⟩)):=by rw[Lib.cell_of_heap hb2];rfl
 have d1:w2.cell? ⟨b,1,none⟩=some (.slice xa n0 xc):=by rw[Lib.cell_of_heap hb2];rfl
 have f1:w2.frozen? ⟨b,1,none⟩=false:=Lib.frozen_of_heap hb2 1
 obtain⟨ya,yc,rfl⟩:∃ a c,v'=.slice a m c:=by
  rw[← hm];rcases R.2 with ⟨h1,h2⟩ | ⟨g,cap,cur,hv,_⟩
  · exact⟨_,_,by rw[h1,h2]⟩
  · exact⟨_,_,hv⟩
 have FG:=aac (aiS.put (v:=v) hB (hby.app (Byt.enc hr)) hb2 R hne0);have FB:=aac (((hb1.alloc (by omega) o).grown hgrow (by simp;omega) (fun k hk=>(World.ownsRow.lt hown k hk).1)).setCell (p:=⟨b,1,none⟩) hB (.slice ya m yc))
 have e1:(w2.setCell ⟨b,1,none⟩ (.slice ya m yc)).cell? ⟨b,1,none⟩=some (.slice ya m yc):=by
  simp[World.cell?,World.setCell,Array.getElem?_modify,hb2]
 clear R hgrow hown hb1 C hm hn0 hne0;go_wp2;go_ret2;exact⟨⟨_,rfl⟩,.inr FG.out,FB.out⟩
theorem ags {l:List Int}(h:Byt l):l.map (Value.int .u8)=Lib.byteCells (l.map fun x=>UInt8.ofNat x.toNat):=by
 unfold Lib.byteCells;rw[List.map_map];refine List.map_congr_left fun x hx=> ?_;have:=h x hx;simp only[Function.comp];rw[ofNat_toNat x this.1 this.2]
theorem aeV (l:List Int):strOfNums l=⟨(l.map fun x=>UInt8.ofNat x.toNat).toArray⟩:=by
 have:=strOfNums_data l
 cases h:strOfNums l with
 | mk d=>
   rw[h] at this;simp only at this;rw[← this]
theorem avK (B b:Nat)(p:Value)(v:Bool)(bs:List Int)(w:World)(h:aiS p B b v bs w)(h0:bs≠[]):
 Calls Tryz.prog 30 #[.pointer (some ⟨b,0,none⟩)] w fun e w'=>e=.returned (.string (strOfNums bs))∧Below B w w':=by
 obtain⟨hB,hby,x,hbk,hown,hx0⟩:=h;clear hx0;unfold agn at hown;rw[aeV];have hl:(bs.map fun x=>UInt8.ofNat x.toNat).length=bs.length:=(by simp);rw[ags hby,← hl] at hown;have hl0:(bs.map fun x=>UInt8.ofNat x.toNat)≠[]:=(by simpa using h0);generalize (bs.map fun x=>UInt8.ofNat x.toNat)=l at *;clear hl h0 hby bs;have hz0:l.length≠0:=by simpa using hl0
 obtain⟨g,cap,cur,rfl,hbg,hg,hnc,hcm,hcs,htake⟩:∃ g cap cur,x=.slice (some ⟨g,0,none⟩) l.length cap∧B≤g∧w.heap[g]?=some (.cells cur 5 (0,0))∧l.length≤cap∧cap≤maxLen∧cur.size=cap * 1∧cur.toList.take (l.length * 1)=Lib.byteCells l:=by
  rcases hown.2 with ⟨_,hz⟩ | ⟨g,cap,cur,hv,r⟩
  · exact absurd hz hz0
  · exact⟨g,cap,cur,hv,r⟩
 have c1:w.drew.cell? ⟨b,1,none⟩=some (.slice (some ⟨g,0,none⟩) l.length cap):=by
  have:w.drew.heap[b]?=some (.cells #[p,.slice (some ⟨g,0,none⟩) l.length cap,.bool v] 148 (0,0)):=hbk;rw[Lib.cell_of_heap this];rfl
 have hSD:(Builtin.unsafeSliceData_ #[57] 91 #[.slice (some ⟨g,0,none⟩) l.length cap]).run Tryz.prog w.drew=.ok (.pointer (some ⟨g,0,none⟩)) w.drew:=
  Lib.run_unsafeSliceData_row _ _ _ _ _ _ (by omega)
 have hUS:(Builtin.unsafeString_ #[91,3] 9 #[.pointer (some ⟨g,0,none⟩),.int .i64 l.length]).run Tryz.prog w.drew=.ok (.string ⟨l.toArray⟩) (w.drew.freeze ⟨g,0,none⟩ l.length):=by
  refine Lib.run_unsafeString_row w.drew 91 3 9 5 Tryz.underlying91 cellsByte g cur.size (by have hg':w.drew.heap[g]?=some (.cells cur 5 (0,0)):=hg;simp[World.shape?,hg']) l hl0 (by omega) (by unfold maxLen at hcm;omega) ?_;intro j y hy;have:=hown.cells (g:=g) rfl j (.int .u8 y.toNat) (by simp[Lib.byteCells,hy]);exact this
 go_enter Tryz.func30,Tryz.ntmps30;go_wp2;go_region;all_goals (go_wp2;go_ret;exact⟨rfl,Lib.below_freeze (Below.drew (Below.refl B w)) (p:=⟨g,0,none⟩) hbg _⟩)
theorem ayW (B b:Nat)(p:Value)(v:Bool)(w:World)(h:aiS p B b v [] w):
 Calls Tryz.prog 30 #[.pointer (some ⟨b,0,none⟩)] w fun e w'=>e=.returned (.string ⟨#[]⟩)∧Below B w w':=by
 obtain⟨hB,hby,x,hbk,hown,hx⟩:=h;have hx:=hx rfl;subst hx;have hUS:∀ (W:World) (q:Option Addr),(Builtin.unsafeString_ #[91,3] 9 #[.pointer q,.int .i64 0]).run Tryz.prog W=.ok (.string .empty) W:=fun W q=>Lib.run_unsafeString_none W _ _ _ q
 have c1:w.drew.cell? ⟨b,1,none⟩=some (.slice none 0 0):=by
  have:w.drew.heap[b]?=some (.cells #[p,.slice none 0 0,.bool v] 148 (0,0)):=hbk;rw[Lib.cell_of_heap this];rfl
 have hSD:(Builtin.unsafeSliceData_ #[57] 91 #[.slice none 0 0]).run Tryz.prog w.drew=.ok (.pointer none) w.drew:=rfl;clear hown hby;go_enter Tryz.func30,Tryz.ntmps30;go_wp2;go_region;all_goals (go_wp2;go_ret;exact⟨rfl,Below.drew (Below.refl B w)⟩)
theorem arF (B b:Nat)(v:Bool)(bs:List Int)(w:World)(h:Gat B b v bs w):
 Calls Tryz.prog 30 #[.pointer (some ⟨b,0,none⟩)] w fun e w'=>e=.returned (.string (strOfNums bs))∧Below B w w':=by
 obtain⟨p,hp⟩:=h.one;by_cases h0:bs=[]
 · subst h0;have:strOfNums []=⟨#[]⟩:=by rw[aeV];rfl
   rw[this];exact ayW B b p v w hp
 · exact avK B b p v bs w hp h0
end Go.Proofs.YtiaebhomfebagaaGreatDoor
namespace Go.Proofs.YtiaebhomfebagaaGreatDoor
open Go.RowKit
def R3 (x:Int × Int × Int):Value:=.tuple #[.int .i32 x.1,.int .i64 x.2.1,.int .i64 x.2.2]
theorem aeO (r:Int)(k n:Nat)(w:World)(h0:0≤r)(h1:r * p64 (n - k) < 2097152)(hk:1≤k)(hn:k≤n)(h4:n≤4)(h:afB r k n=true):
 Calls Tryz.prog 58 #[.int .i32 r,.int .i64 k,.int .i64 n] w fun e w'=>e=.returned (.bool true)∧w=w':=by
 rw[← h];exact anm r k n w h0 h1 hk hn h4
theorem aob (r:Int)(k n:Nat)(w:World)(h0:0≤r)(h1:r * p64 (n - k) < 2097152)(hk:1≤k)(hn:k≤n)(h4:n≤4)(h:afB r k n=false):
 Calls Tryz.prog 58 #[.int .i32 r,.int .i64 k,.int .i64 n] w fun e w'=>e=.returned (.bool false)∧w=w':=by
 rw[← h];exact anm r k n w h0 h1 hk hn h4
theorem avr (b:Int)(h0:0≤b)(h1:b < 256)(h:aeL b≠0):1≤aeL b∧aeL b≤4∧0≤agK b∧agK b * p64 (aeL b - 1) < 2097152:=by
 unfold aeL agK at *;by_cases q1:b < 128
 · simp only[q1,if_true,Nat.reduceSub,alv];omega
 by_cases q2:b < 192
 · simp[q1,q2] at h
 by_cases q3:b < 224
 · simp only[q1,q2,q3,if_true,if_false,Nat.reduceSub,ajP];omega
 by_cases q4:b < 240
 · simp only[q1,q2,q3,q4,if_true,if_false,Nat.reduceSub,ajw];omega
 by_cases q5:b < 248
 · simp only[q1,q2,q3,q4,q5,if_true,if_false,Nat.reduceSub,aiZ];omega
 · simp[q1,q2,q3,q4,q5] at h
theorem azc (r b:Int)(n k:Nat)(h:k < n)(h4:n≤4)(h1:1≤k)(hr:0≤r)(hb:r * p64 (n - k) < 2097152):
 0≤r * 64+b % 64∧(r * 64+b % 64) * p64 (n - (k+1)) < 2097152:=by
 have h:(k=1∧n=2)∨(k=1∧n=3)∨(k=2∧n=3)∨(k=1∧n=4)∨(k=2∧n=4)∨(k=3∧n=4):=(by omega);rcases h with ⟨rfl,rfl⟩ | ⟨rfl,rfl⟩ | ⟨rfl,rfl⟩ | ⟨rfl,rfl⟩ | ⟨rfl,rfl⟩ | ⟨rfl,rfl⟩
 all_goals
  simp only[Nat.reduceSub,Nat.reduceAdd,alv,ajP,ajw,aiZ] at hb ⊢;omega
theorem a0S (r:Int)(n k:Nat)(h:k < n)(h4:n≤4)(h1:1≤k)(hr:0≤r)(hb:r * p64 (n - k) < 2097152):r < 32768:=by
 have h:(k=1∧n=2)∨(k=1∧n=3)∨(k=2∧n=3)∨(k=1∧n=4)∨(k=2∧n=4)∨(k=3∧n=4):=(by omega);rcases h with ⟨rfl,rfl⟩ | ⟨rfl,rfl⟩ | ⟨rfl,rfl⟩ | ⟨rfl,rfl⟩ | ⟨rfl,rfl⟩ | ⟨rfl,rfl⟩
 all_goals
  simp only[Nat.reduceSub,ajP,ajw,aiZ] at hb;omega
theorem a1d (s:ByteArray)(a:Nat)(w:World)(hs:s.size≤maxLen)(ha:a < s.size):
 Calls Tryz.prog 39 #[.string s,.int .i64 a] w fun e w'=>e=.returned (R3 (rgo (fun k=>bt s (a+k)) (s.size - a) (aeL (bt s a)) 4 1 (agK (bt s a))))∧w=w':=by
 unfold maxLen at hs;have b0:=akz s a;have b1:=aru s a;have t1:decide ((a:Int) < 0)=false:=(by simp);have t2:decide (s.size≤a)=false:=by simp;omega
 have HR:=avr (bt s a) b0 b1;have HB:=aac (ajc s a ha);generalize hR:rgo (fun k=>bt s (a+k)) (s.size - a) (aeL (bt s a)) 4 1 (agK (bt s a))=R;have HR2:=aac hR;clear hR;by_cases hn:aeL (bt s a)=0
 · have hR2:=HR2.out;rw[hn,a4Z] at hR2;subst hR2;clear HR HR2;have hn':((aeL (bt s a):Nat):Int)=0:=(by omega);clear hn;go_enter Tryz.func39,Tryz.ntmps39;go_wp2_with fail;rw[HB.out];refine(amI _ _ b0 b1).mono ?_;rintro e w' ⟨rfl,rfl⟩;rw[hn'];clear hn';generalize agK (bt s a)=r at *;go_wp2_with fail;refine wp_loop_rounds 1 ?_;rw[rounds_succ];go_wp2_with (go_at_call 58;refine(aoL _ _ _).mono ?_;rintro e w' ⟨rfl,rfl⟩);go_ret3;exact⟨rfl,rfl⟩
 obtain⟨n1,n4,r0,r1⟩:=HR hn;clear hn HR;go_enter Tryz.func39,Tryz.ntmps39;go_wp2_with fail;rw[HB.out];refine(amI _ _ b0 b1).mono ?_;rintro e w' ⟨rfl,rfl⟩;generalize aeL (bt s a)=n at *;generalize agK (bt s a)=r at *;go_wp2_with fail;go_loop [7,9,10] (fun q i _=>∃ (k:Nat) (r':Int),1≤k∧k≤n∧0≤r'∧r' * p64 (n - k) < 2097152∧a+k≤s.size∧i=.int .i64 k∧q=.int .i32 r'∧rgo (fun k=>bt s (a+k)) (s.size - a) n (5 - k) k r'=R) (fun _ i _=>5 - (intOf i).toNat);case atStart=>exact⟨1,r,by omega,n1,r0,r1,by omega,rfl,rfl,HR2.out⟩
 case round=>
  obtain⟨k,r',k1,kn,q0,q1,ka,rfl,rfl,hrel⟩:=hrel;have e5:5 - k=(4 - k)+1:=(by omega);rw[e5,aep] at hrel;clear e5 HR2 r0 r1 b0 b1 HB t1 t2;have c0:=akz s (a+k);have c1:=aru s (a+k);by_cases hp:afB r' k n=false
  · rw[if_pos hp] at hrel;have HR:=aac hrel;clear hrel;go_wp2_with (go_at_call 58;refine(aob _ _ _ _ q0 q1 k1 kn n4 hp).mono ?_;rintro e w' ⟨rfl,rfl⟩);go_ret3;exact⟨by rw[← HR.out];rfl,rfl⟩
  rw[if_neg hp] at hrel;have hp':afB r' k n=true:=(by simpa using hp);clear hp;by_cases hk:k=n
  · subst hk;rw[if_pos rfl] at hrel;have HR:=aac hrel;clear hrel;go_wp2_with (go_at_call 58;refine(aeO _ _ _ _ q0 q1 k1 kn n4 hp').mono ?_;rintro e w' ⟨rfl,rfl⟩);go_ret3;exact⟨by rw[← HR.out];rfl,rfl⟩
  rw[if_neg hk] at hrel;have tk:((k:Int) == (n:Int))=false:=by simp;omega
  by_cases hl:k=s.size - a
  · rw[if_pos hl] at hrel;have HR:=aac hrel;clear hrel hk;have tl:((a:Int)+(k:Int) == (s.size:Int))=true:=by simp;omega
    clear hl;go_wp2_with (go_at_call 58;refine(aeO _ _ _ _ q0 q1 k1 kn n4 hp').mono ?_;rintro e w' ⟨rfl,rfl⟩);go_ret3;exact⟨by rw[← HR.out];rfl,rfl⟩
  rw[if_neg hl] at hrel;have hlt:a+k < s.size:=(by omega);have tl:((a:Int)+(k:Int) == (s.size:Int))=false:=by simp;omega
  have HB:=aac (ajc s (a+k) hlt);have hkn:k < n:=(by omega);have hsm:=a0S r' n k hkn n4 k1 q0 q1;have hby:(s[a+k].toNat:Int) < 256:=by have:=s[a+k].toNat_lt;omega
  by_cases hc:bt s (a+k) / 64=2
  · rw[if_pos hc] at hrel;have HR:=aac hrel;have hc':((s[a+k].toNat:Int) / 64 != 2)=false:=by rw[HB.out,hc];rfl
    have NB:=aac (azc r' (bt s (a+k)) n k hkn n4 k1 q0 q1);clear hl hk hrel hc c0 c1;go_wp2_with (go_at_call 58;refine(aeO _ _ _ _ q0 q1 k1 kn n4 hp').mono ?_;rintro e w' ⟨rfl,rfl⟩);go_round;case rel=>exact⟨k+1,r' * 64+bt s (a+k) % 64,by omega,by omega,NB.out.1,NB.out.2,by omega,by go_num,by rw[HB.out],by rw[← HR.out];congr 1;omega⟩
    case measure=>simp[intOf];omega
  · rw[if_neg hc] at hrel;have HR:=aac hrel;have hc':((s[a+k].toNat:Int) / 64 != 2)=true:=by rw[HB.out];simpa using hc
    clear hl hk hrel hc c0 c1;go_wp2_with (go_at_call 58;refine(aeO _ _ _ _ q0 q1 k1 kn n4 hp').mono ?_;rintro e w' ⟨rfl,rfl⟩);go_ret3;exact⟨by rw[← HR.out];rfl,rfl⟩
end Go.Proofs.YtiaebhomfebagaaGreatDoor
namespace Go.Proofs.YtiaebhomfebagaaGreatDoor
theorem atd (b:Nat→Int)(left:Nat)(hl:1≤left)(h0:∀ k,0≤b k)(h1:∀ k,b k < 256):
 rgo b left (aeL (b 0)) 4 1 (agK (b 0))=canon b left:=by
 have a0:=h0 0;have a1:=h1 0;have b0:=h0 1;have b1:=h1 1;have c0:=h0 2;have c1:=h1 2;have d0:=h0 3;have d1:=h1 3;unfold aeL agK canon;generalize e0:b 0=x0 at *;by_cases q1:x0 < 128
 · simp only[q1,if_true,aep,acW,p64,most,least];simp;omega
 by_cases q2:x0 < 192
 · have:x0 < 194:=(by omega);simp only[q1,q2,this,if_true,if_false,a4Z]
 by_cases q3:x0 < 224
 · simp only[q1,q2,q3,if_true,if_false,aep,acW,alv,ajP,ajw,aiZ,anf,ami,alR,awc,auP,awu,Nat.reduceSub,Nat.reduceEqDiff,Nat.reduceAdd,false_or,e0]
   repeat' split
   all_goals (first | rfl | (exfalso;omega) | (refine tri ?_ ?_ ?_ <;> omega))
 by_cases q4:x0 < 240
 · simp only[q1,q2,q3,q4,if_true,if_false,aep,acW,alv,ajP,ajw,aiZ,anf,ami,alR,awc,auP,awu,Nat.reduceSub,Nat.reduceEqDiff,Nat.reduceAdd,false_or,e0]
   repeat' split
   all_goals (first | rfl | (exfalso;omega) | (refine tri ?_ ?_ ?_ <;> omega))
 by_cases q5:x0 < 248
 · simp only[q1,q2,q3,q4,q5,if_true,if_false,aep,acW,alv,ajP,ajw,aiZ,anf,ami,alR,awc,auP,awu,Nat.reduceSub,Nat.reduceEqDiff,Nat.reduceAdd,false_or,e0]
   repeat' split
   all_goals (first | rfl | (exfalso;omega) | (refine tri ?_ ?_ ?_ <;> omega))
 · have q6:¬ x0 < 245:=(by omega);simp only[q1,q2,q3,q4,q5,q6,if_false,a4Z];split
   · rfl
   · rfl
end Go.Proofs.YtiaebhomfebagaaGreatDoor
namespace Go.Proofs.YtiaebhomfebagaaGreatDoor
open Go.RowKit
theorem atr (s:ByteArray)(a:Int)(w:World)(hs:s.size≤maxLen)(ha:a < 0∨(s.size:Int)≤a):
 Calls Tryz.prog 39 #[.string s,.int .i64 a] w fun e w'=>e=.returned (R3 (0,0,7))∧w=w':=by
 unfold maxLen at hs;by_cases h:a < 0
 · clear ha;go_enter Tryz.func39,Tryz.ntmps39;go_wp2;go_ret3;exact⟨rfl,rfl⟩
 · have h2:(s.size:Int)≤a:=(by omega);clear ha;go_enter Tryz.func39,Tryz.ntmps39;go_wp2;go_ret3;exact⟨rfl,rfl⟩
theorem atJ (s:ByteArray)(a:Int)(w:World)(hs:s.size≤maxLen):
 Calls Tryz.prog 39 #[.string s,.int .i64 a] w fun e w'=>e=.returned (R3 (aaS s a))∧w=w':=by
 unfold aaS;by_cases h:a < 0∨(s.size:Int)≤a
 · rw[if_pos h];exact atr s a w hs h
 · rw[if_neg h];obtain⟨n,rfl⟩:=Int.eq_ofNat_of_zero_le (show 0≤a by omega);rw[Int.toNat_natCast,← atd _ _ (by omega) (fun k=>akz s _) (fun k=>aru s _)];exact a1d s n w hs (by omega)
theorem akT (s:ByteArray)(a:Nat)(w:World)(hs:s.size≤maxLen):
 Calls Tryz.prog 39 #[.string s,.int .i64 a] w fun e w'=>e=.returned (.tuple #[.int .i32 (aaS s a).1,.int .i64 (aaS s a).2.1,.int .i64 (aaS s a).2.2])∧w=w':=atJ s a w hs
end Go.Proofs.YtiaebhomfebagaaGreatDoor
namespace Go.Proofs.YtiaebhomfebagaaGreatDoor
open Go.RowKit
theorem abD (t:ByteArray)(k:Nat):aad (t.extract k t.size)=(aad t).drop k:=by
 rw[aal,List.take_of_length_le (by rw[aae];omega)]
theorem abV (t:ByteArray)(k:Nat):aad (t.extract 0 k)=(aad t).take k:=by
 rw[aal,List.drop_zero]
theorem agA (t:ByteArray)(k:Nat):(t.extract k t.size).size=t.size - k:=by
 rw[← aae,abD,List.length_drop,aae]
def afy (r:Int)(w:World)(e:Ending)(w':World):Prop:=
 ((0≤r∧e=.returned (.tuple #[.int .i32 r,.bool true]))∨(r < 0∧e=.returned (.tuple #[.int .i32 0,.bool false])))∧Below w.heap.size w w'
theorem a1n (t d2:ByteArray)(is:Bool)(w:World)
 (C1:Hid (∀ w,Calls Tryz.prog 66 #[.string t,.string ⟨#[35]⟩] w fun e w'=>e=.returned (.tuple #[.string t,.bool false])∧w=w'))
 (C2:Hid (∀ w,Calls Tryz.prog 66 #[.string t,.string ⟨#[120]⟩] w fun e w'=>e=.returned (.tuple #[.string d2,.bool is])∧w=w')):
 Calls Tryz.prog 170 #[.string t] w fun e w'=>e=.returned (.tuple #[.int .i32 0,.bool false])∧Below w.heap.size w w':=by
 cases is
 all_goals
  go_enter Tryz.func170,Tryz.ntmps170;go_wp2_with fail;refine(C1.out _).mono ?_;rintro e w' ⟨rfl,rfl⟩;go_wp2_with fail;refine(C2.out _).mono ?_;rintro e w' ⟨rfl,rfl⟩;go_wp2;go_ret2;exact⟨rfl,Below.refl _ _⟩
theorem ajN (t d d2:ByteArray)(w:World)
 (C1:Hid (∀ w,Calls Tryz.prog 66 #[.string t,.string ⟨#[35]⟩] w fun e w'=>e=.returned (.tuple #[.string d,.bool true])∧w=w'))
 (C2:Hid (∀ w,Calls Tryz.prog 66 #[.string d,.string ⟨#[120]⟩] w fun e w'=>e=.returned (.tuple #[.string d2,.bool false])∧w=w')) (h8:8 < d.size):
 Calls Tryz.prog 170 #[.string t] w fun e w'=>e=.returned (.tuple #[.int .i32 0,.bool false])∧Below w.heap.size w w':=by
 have i8:decide ((8:Int) < (d.size:Int))=true:=by rw[decide_eq_true_eq];omega
 have j8:decide (8 < d.size)=true:=by rw[decide_eq_true_eq];omega
 clear h8;go_enter Tryz.func170,Tryz.ntmps170;go_wp2_with fail;refine(C1.out _).mono ?_;rintro e w' ⟨rfl,rfl⟩;go_wp2_with fail;refine(C2.out _).mono ?_;rintro e w' ⟨rfl,rfl⟩;go_wp2;go_ret2;exact⟨rfl,Below.refl _ _⟩
theorem a0L (t d d2:ByteArray)(w:World)
 (C1:Hid (∀ w,Calls Tryz.prog 66 #[.string t,.string ⟨#[35]⟩] w fun e w'=>e=.returned (.tuple #[.string d,.bool true])∧w=w'))
 (C2:Hid (∀ w,Calls Tryz.prog 66 #[.string d,.string ⟨#[120]⟩] w fun e w'=>e=.returned (.tuple #[.string d2,.bool false])∧w=w')) (h8:d.size≤8) (x:Int) (hx0:x≤2147483647) (CP:Hid (Calls Tryz.prog 184 #[.string d,.int .i64 10,.int .i64 31] w (auQ x w))):
 Calls Tryz.prog 170 #[.string t] w (afy (acj x) w):=by
 have i8:decide ((8:Int) < (d.size:Int))=false:=by rw[decide_eq_false_iff_not];omega
 have j8:decide (8 < d.size)=false:=by rw[decide_eq_false_iff_not];omega
 clear h8;go_enter Tryz.func170,Tryz.ntmps170;go_wp2_with fail;refine(C1.out _).mono ?_;rintro e w' ⟨rfl,rfl⟩;go_wp2_with fail;refine(C2.out _).mono ?_;rintro e w' ⟨rfl,rfl⟩;go_wp2_with fail;refine CP.out.mono ?_;rintro e w1 ⟨h,hb⟩;clear CP C1 C2;rcases h with ⟨h0,rfl⟩ | ⟨h0,y,n,rfl⟩
 · by_cases hc:Chr x
   · have CC:Hid (∀ w,Calls Tryz.prog 40 #[.int .i32 x] w fun e w'=>e=.returned (.bool true)∧w=w'):=aac fun w=>by
      have:=adB x w;rw[decide_eq_true hc] at this;exact this
     have HC:Hid (acj x=x):=aac (if_pos hc)
     have q:IntKind.i32.wrap x=x:=by
      rw[IntKind.wrap_i32];omega
     clear hc;go_wp2_with (go_at_call 40;refine(CC.out _).mono ?_;rintro e w' ⟨rfl,rfl⟩);go_ret2;exact⟨.inl ⟨by rw[HC.out];exact h0,by rw[HC.out];rfl⟩,hb⟩
   · have CC:Hid (∀ w,Calls Tryz.prog 40 #[.int .i32 x] w fun e w'=>e=.returned (.bool false)∧w=w'):=aac fun w=>by
      have:=adB x w;rw[decide_eq_false hc] at this;exact this
     have HC:Hid (acj x= -1):=aac (if_neg hc)
     have q:IntKind.i32.wrap x=x:=by
      rw[IntKind.wrap_i32];omega
     clear hc;go_wp2_with (go_at_call 40;refine(CC.out _).mono ?_;rintro e w' ⟨rfl,rfl⟩);go_ret2;exact⟨.inr ⟨by rw[HC.out];omega,rfl⟩,hb⟩
 · have HC:Hid (acj x= -1):=aac (by rw[h0];exact adp);clear h0 hx0;go_wp2;go_ret2;exact⟨.inr ⟨by rw[HC.out];omega,rfl⟩,hb⟩
theorem ajx (t d d2:ByteArray)(w:World)
 (C1:Hid (∀ w,Calls Tryz.prog 66 #[.string t,.string ⟨#[35]⟩] w fun e w'=>e=.returned (.tuple #[.string d,.bool true])∧w=w'))
 (C2:Hid (∀ w,Calls Tryz.prog 66 #[.string d,.string ⟨#[120]⟩] w fun e w'=>e=.returned (.tuple #[.string d2,.bool true])∧w=w')) (h8:8 < d2.size):
 Calls Tryz.prog 170 #[.string t] w fun e w'=>e=.returned (.tuple #[.int .i32 0,.bool false])∧Below w.heap.size w w':=by
 have i8:decide ((8:Int) < (d2.size:Int))=true:=by rw[decide_eq_true_eq];omega
 have j8:decide (8 < d2.size)=true:=by rw[decide_eq_true_eq];omega
 clear h8;go_enter Tryz.func170,Tryz.ntmps170;go_wp2_with fail;refine(C1.out _).mono ?_;rintro e w' ⟨rfl,rfl⟩;go_wp2_with fail;refine(C2.out _).mono ?_;rintro e w' ⟨rfl,rfl⟩;go_wp2;go_ret2;exact⟨rfl,Below.refl _ _⟩
theorem ayF (t d d2:ByteArray)(w:World)
 (C1:Hid (∀ w,Calls Tryz.prog 66 #[.string t,.string ⟨#[35]⟩] w fun e w'=>e=.returned (.tuple #[.string d,.bool true])∧w=w'))
 (C2:Hid (∀ w,Calls Tryz.prog 66 #[.string d,.string ⟨#[120]⟩] w fun e w'=>e=.returned (.tuple #[.string d2,.bool true])∧w=w')) (h8:d2.size≤8) (x:Int) (hx0:x≤2147483647) (CP:Hid (Calls Tryz.prog 184 #[.string d2,.int .i64 16,.int .i64 31] w (auQ x w))):
 Calls Tryz.prog 170 #[.string t] w (afy (acj x) w):=by
 have i8:decide ((8:Int) < (d2.size:Int))=false:=by rw[decide_eq_false_iff_not];omega
 have j8:decide (8 < d2.size)=false:=by rw[decide_eq_false_iff_not];omega
 clear h8;go_enter Tryz.func170,Tryz.ntmps170;go_wp2_with fail;refine(C1.out _).mono ?_;rintro e w' ⟨rfl,rfl⟩;go_wp2_with fail;refine(C2.out _).mono ?_;rintro e w' ⟨rfl,rfl⟩;go_wp2_with fail;refine CP.out.mono ?_;rintro e w1 ⟨h,hb⟩;clear CP C1 C2;rcases h with ⟨h0,rfl⟩ | ⟨h0,y,n,rfl⟩
 · by_cases hc:Chr x
   · have CC:Hid (∀ w,Calls Tryz.prog 40 #[.int .i32 x] w fun e w'=>e=.returned (.bool true)∧w=w'):=aac fun w=>by
      have:=adB x w;rw[decide_eq_true hc] at this;exact this
     have HC:Hid (acj x=x):=aac (if_pos hc)
     have q:IntKind.i32.wrap x=x:=by
      rw[IntKind.wrap_i32];omega
     clear hc;go_wp2_with (go_at_call 40;refine(CC.out _).mono ?_;rintro e w' ⟨rfl,rfl⟩);go_ret2;exact⟨.inl ⟨by rw[HC.out];exact h0,by rw[HC.out];rfl⟩,hb⟩
   · have CC:Hid (∀ w,Calls Tryz.prog 40 #[.int .i32 x] w fun e w'=>e=.returned (.bool false)∧w=w'):=aac fun w=>by
      have:=adB x w;rw[decide_eq_false hc] at this;exact this
     have HC:Hid (acj x= -1):=aac (if_neg hc)
     have q:IntKind.i32.wrap x=x:=by
      rw[IntKind.wrap_i32];omega
     clear hc;go_wp2_with (go_at_call 40;refine(CC.out _).mono ?_;rintro e w' ⟨rfl,rfl⟩);go_ret2;exact⟨.inr ⟨by rw[HC.out];omega,rfl⟩,hb⟩
 · have HC:Hid (acj x= -1):=aac (by rw[h0];exact adp);clear h0 hx0;go_wp2;go_ret2;exact⟨.inr ⟨by rw[HC.out];omega,rfl⟩,hb⟩
theorem arw (b:Int)(hb:1≤b)(t:ByteArray)(h8:t.size≤8):asH b (aad t)=acj (if t.size=0 then -1 else ajp b (aad t) 0):=by
 unfold asH;by_cases h0:t.size=0
 · rw[if_pos h0,adp,if_pos (.inl (List.eq_nil_of_length_eq_zero (by rw[aae];exact h0)))]
 · rw[if_neg h0,if_neg,awN b hb];rintro (h | h)
   · have:=congrArg List.length h;rw[aae,List.length_nil] at this;exact h0 this
   · rw[aae] at h;omega
theorem a2z (b:Int)(hb:1≤b)(t:ByteArray):(if t.size=0 then -1 else ajp b (aad t) 0)≤2147483647:=by
 split
 · omega
 · rcases asb b hb (aad t) 0 (by omega) (by omega) with h | h <;> omega
theorem ajC (t:ByteArray)(w:World)(hs:t.size≤1000000000000)(hV:Vars w):Calls Tryz.prog 170 #[.string t] w (afy (nrV (aad t)) w):=by
 unfold nrV;by_cases h1:(aad t).getD 0 0=35
 · rw[if_neg (by simpa using h1)];have C1:=aac (amB t 35 (by decide) h1)
   have hd:(aad (t.extract 1 t.size)).getD 0 0=(aad t).getD 1 0:=by
    rw[abD];simp[List.getD_eq_getElem?_getD,List.getElem?_drop]
   have hz:(t.extract 1 t.size).size≤1000000000000:=by rw[agA];omega
   by_cases h2:(aad t).getD 1 0=120
   · rw[if_pos h2];have C2:=aac (amB (t.extract 1 t.size) 120 (by decide) (by rw[hd];exact h2));have e:(aad t).drop 2=aad ((t.extract 1 t.size).extract 1 (t.extract 1 t.size).size):=(by rw[abD,abD,List.drop_drop]);have hz2:((t.extract 1 t.size).extract 1 (t.extract 1 t.size).size).size≤1000000000000:=by rw[agA];omega
     rw[e];by_cases h8:8 < ((t.extract 1 t.size).extract 1 (t.extract 1 t.size).size).size
     · refine(ajx t _ _ w C1 C2 h8).mono ?_;rintro e w' ⟨rfl,hb⟩;refine⟨.inr ⟨?_,rfl⟩,hb⟩;unfold asH;rw[if_pos (.inr (by rw[aae];exact h8))];omega
     · rw[arw 16 (by omega) _ (by omega)];exact ayF t _ _ w C1 C2 (by omega) _ (a2z 16 (by omega) _) (aac (ajR _ 16 (.inr rfl) w hz2 hV))
   · rw[if_neg h2];have C2:=aac (atY (t.extract 1 t.size) 120 (by rw[hd];exact h2));rw[← abD];by_cases h8:8 < (t.extract 1 t.size).size
     · refine(ajN t _ _ w C1 C2 h8).mono ?_;rintro e w' ⟨rfl,hb⟩;refine⟨.inr ⟨?_,rfl⟩,hb⟩;unfold asH;rw[if_pos (.inr (by rw[aae];exact h8))];omega
     · rw[arw 10 (by omega) _ (by omega)];exact a0L t _ _ w C1 C2 (by omega) _ (a2z 10 (by omega) _) (aac (ajR _ 10 (.inl rfl) w hz hV))
 · rw[if_pos h1];have C1:=aac (atY t 35 h1)
   have fin:∀ (d2:ByteArray) (is:Bool),Hid (∀ w,Calls Tryz.prog 66 #[.string t,.string ⟨#[120]⟩] w fun e w'=>e=.returned (.tuple #[.string d2,.bool is])∧w=w')→Calls Tryz.prog 170 #[.string t] w (afy (-1) w):=fun d2 is C2=>by
    refine(a1n t d2 is w C1 C2).mono ?_;rintro e w' ⟨rfl,hb⟩;exact⟨.inr ⟨by omega,rfl⟩,hb⟩
   by_cases h2:(aad t).getD 0 0=120
   · exact fin _ _ (aac (amB t 120 (by decide) h2))
   · exact fin _ _ (aac (atY t 120 h2))
end Go.Proofs.YtiaebhomfebagaaGreatDoor
