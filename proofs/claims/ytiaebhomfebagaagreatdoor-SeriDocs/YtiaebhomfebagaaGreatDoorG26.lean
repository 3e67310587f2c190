/- Lemmas of the claim. -/
import Derived.Test.YtiaebhomfebagaaGreatDoorG25
import Derived.Test.YtiaebhomfebagaaGreatDoorG07
import Derived.Test.YtiaebhomfebagaaGreatDoorG09
import Derived.Test.YtiaebhomfebagaaGreatDoorG06
import Derived.Test.YtiaebhomfebagaaGreatDoorG03
import Derived.Test.YtiaebhomfebagaaGreatDoorG02
import Derived.Test.YtiaebhomfebagaaGreatDoorG19
import Derived.Test.YtiaebhomfebagaaGreatDoorG04
import Derived.Deep.RegionHeld3
import Derived.Deep.RegionLaw
set_option maxHeartbeats 8000000
set_option maxRecDepth 100000
set_option linter.unusedSimpArgs false
set_option linter.unusedVariables false
namespace Go.Proofs.YtiaebhomfebagaaGreatDoor.Ev
open Go.RowKit
theorem acf {P:Program}{md:Region.Mode}{ops:Array Oper}{Q:Exit→Act→World→Prop}(i:Nat)(d:Tmp)(v:Value){oi:Oper}{fuel:Nat}{listed:Array Bool}{a:Act}{w:World}(hi:ops[i]?=some oi)
 (hs:Region.noSelect ops=true) (hf:Region.free md ops listed i=true) (hr:(Region.ready md ops listed).contains i=true)
 (hQ:∀ c a w,Q (.panic c) (a.put oi.dst v) w→Q (.panic c) a w) (hd:oi.dst=some d) (hw:Region.wanted oi (yielded ops a.tmps)=true) (hy:∀ w,(execOp a.eval oi).run P w=.ok (.value v) w)
 (h:wpAny P md ops Q fuel (listed.setIfInBounds i true) { a with tmps:=a.tmps.setIfInBounds d v } w):wpAny P md ops Q (fuel+1) listed a w:=
 wpAny_take hi hs hf hr hQ (.inl ⟨hw,hy⟩) (by unfold Act.put;rw[hd];exact h)
theorem aip {P:Program}{md:Region.Mode}{ops:Array Oper}{Q:Exit→Act→World→Prop}(i:Nat)(d:Tmp){oi:Oper}{fuel:Nat}{listed:Array Bool}{a:Act}{w:World}(hi:ops[i]?=some oi)
 (hs:Region.noSelect ops=true) (hf:Region.free md ops listed i=true) (hr:(Region.ready md ops listed).contains i=true)
 (hQ:∀ c a w,Q (.panic c) (a.put oi.dst undef) w→Q (.panic c) a w) (hd:oi.dst=some d) (hw:Region.wanted oi (yielded ops a.tmps)=false)
 (h:wpAny P md ops Q fuel (listed.setIfInBounds i true) { a with tmps:=a.tmps.setIfInBounds d undef } w):wpAny P md ops Q (fuel+1) listed a w:=
 wpAny_take hi hs hf hr hQ (.inr ⟨hw,rfl⟩) (by unfold Act.put;rw[hd];exact h)
def msV (F:Int):Value:=.tuple #[.int .i64 (if F < 0 then 0 else F),.bool (decide (0≤F))]
def EvP (pL tR:ByteArray→Bool):Prop:=∀ (A:Option Addr) (n c:Nat) (x:RE) (W:World),aaC W A n c x.ats→RgB x→Calls Tryz.prog 16 #[.agg #[.int .i64 x.kind,.string x.sp,.string x.lo,.slice A n c,.string x.tx]] W fun e w'=>e=.returned (.bool (aao pL tR x))∧Below W.heap.size W w'
theorem a3q {F:Int}(h:F= -1):msV F=.tuple #[.int .i64 0,.bool false]:=by rw[h];rfl
theorem a3V {F:Int}{m:Nat}(h:F=(m:Int)):msV F=.tuple #[.int .i64 m,.bool true]:=by
 unfold msV;rw[h,if_neg (by omega),decide_eq_true (by omega)]
theorem ara {R:RE→Bool}(l:List RE):ady R true 0 0 l=ady R (decide ((0:Nat)=0)) (prevK l 0) ((0:Nat):Int) (l.drop 0):=by
 cases l with
 | nil=>rfl
 | cons x r=>
   have h:=acL (R:=R) (l:=x :: r) (k:=0) (x:=x) rfl true 0 0;rw[List.drop_zero] at h ⊢;rw[h];have h':=acL (R:=R) (l:=x :: r) (k:=0) (x:=x) rfl true (prevK (x :: r) 0) 0;rw[List.drop_zero] at h';show _=ady _ true _ 0 _;rw[h'];by_cases q:R x=false∨((0:Int) == 0)≠true∨(true=true∧x.kind≠1)
   · rw[if_pos q,if_pos q]
   · have k1:x.kind=1:=Decidable.not_not.1 fun e=>q (.inr (.inr ⟨rfl,e⟩));have e1:¬ (x.kind=2∧(0:Int)=2):=by rintro ⟨h,_⟩;omega
     have e2:¬ (x.kind=2∧prevK (x :: r) 0=2):=by rintro ⟨h,_⟩;omega
     rw[if_neg q,if_neg q,if_neg e1,if_neg e2]
theorem a0d {R:RE→Bool}{l:List RE}{k m:Nat}{x:RE}(hx:l[k]?=some x)(hm:m≤64)(hkm:k=0→m=0)(hR:R x=true→x.kind=1∨x.kind=2∨x.kind=3):
 (anQ (decide (k=0)) (prevK l k) m x.kind=false∨R x=false→ady R (decide (k=0)) (prevK l k) m (l.drop k)= -1)∧
 (anQ (decide (k=0)) (prevK l k) m x.kind=true→R x=true→
   (x.kind=1∧m+1≤64∧ady R (decide (k=0)) (prevK l k) m (l.drop k)=ady R (decide (k+1=0)) (prevK l (k+1)) ((m+1:Nat):Int) (l.drop (k+1)))∨
   (x.kind=2∧ady R (decide (k=0)) (prevK l k) m (l.drop k)=ady R (decide (k+1=0)) (prevK l (k+1)) (m:Int) (l.drop (k+1)))∨
   (x.kind=3∧∃ q:Nat,q+1=m∧ady R (decide (k=0)) (prevK l k) m (l.drop k)=ady R (decide (k+1=0)) (prevK l (k+1)) (q:Int) (l.drop (k+1)))):=by
 rw[acL hx];constructor
 · intro h
   cases hr:R x with
   | false=>rw[if_pos (.inl rfl)]
   | true=>
     have hf:anQ (decide (k=0)) (prevK l k) m x.kind=false:=by
      rcases h with h | h
      · exact h
      · rw[hr] at h;cases h
     by_cases h0:k=0
     · rw[if_pos];right;right;refine⟨decide_eq_true h0,fun e=> ?_⟩;unfold anQ at hf;rw[decide_eq_true h0,if_pos rfl,e] at hf;cases hf
     · unfold anQ at hf;rw[decide_eq_false h0,if_neg (by decide)] at hf;by_cases hm0:m=0
       · rw[if_pos];right;left;rw[decide_eq_false h0,hm0];decide
       · have m0:decide ((0:Int) < (m:Int))=true:=decide_eq_true (by omega);rw[if_neg]
         · rcases hR hr with k1 | k2 | k3
           · rw[if_pos k1,m0] at hf;have:¬ ((m:Int) < 64):=(by simpa using hf);rw[if_neg (by rw[k1];rintro ⟨h,_⟩;cases h),if_pos];rw[if_pos k1];omega
           · rw[if_neg (by omega),if_pos k2,m0] at hf;have:prevK l k=2:=(by simpa using hf);rw[if_pos ⟨k2,this⟩]
           · rw[if_neg (by omega),if_neg (by omega),m0] at hf;cases hf
         · rw[decide_eq_false h0];rintro (g | g | g)
           · cases g
           · exact g (by rw[beq_eq_false_iff_ne];omega)
           · cases g.1
 · intro hf hr
   have hq:¬ (R x=false∨((m:Int) == 0)≠decide (k=0)∨(decide (k=0)=true∧x.kind≠1)):=by
    rw[hr];unfold anQ at hf;by_cases h0:k=0
    · rw[decide_eq_true h0,if_pos rfl] at hf;have k1:x.kind=1:=(by simpa using hf);rw[decide_eq_true h0,hkm h0,k1];rintro (g | g | g)
      · cases g
      · exact g rfl
      · exact g.2 rfl
    · rw[decide_eq_false h0,if_neg (by decide)] at hf;rw[decide_eq_false h0]
      have m0:(0:Int) < (m:Int):=by
       by_cases m0:(0:Int) < (m:Int)
       · exact m0
       · rw[decide_eq_false m0] at hf;split at hf
         · cases hf
         · split at hf
           · cases hf
           · cases hf
      rintro (g | g | g)
      · cases g
      · exact g (by rw[beq_eq_false_iff_ne];omega)
      · cases g.1
   rw[if_neg hq];unfold anQ at hf;rcases hR hr with k1 | k2 | k3
   · left
     have hlt:m+1≤64:=by
      by_cases h0:k=0
      · rw[hkm h0];omega
      · rw[decide_eq_false h0,if_neg (by decide),if_pos k1] at hf;simp only[Bool.and_eq_true,decide_eq_true_eq] at hf;omega
     refine⟨k1,hlt,?_⟩;rw[if_neg (by rw[k1];rintro ⟨h,_⟩;cases h),if_neg (by rw[if_pos k1];omega),if_pos k1];rfl
   · right;left;refine⟨k2,?_⟩
     have hp:¬ (x.kind=2∧prevK l k=2):=by
      rintro ⟨_,hp⟩;by_cases h0:k=0
      · rw[decide_eq_true h0,if_pos rfl,k2] at hf;cases hf
      · rw[decide_eq_false h0,if_neg (by decide),if_neg (by omega),if_pos k2,hp] at hf;simp at hf
     have e1:¬ x.kind=1:=(by omega);have e3:¬ x.kind=3:=(by omega);rw[if_neg hp,if_neg e1,if_neg e3,if_neg (by omega)]
   · right;right;have e1:¬ x.kind=1:=by omega
     have m0:0 < m:=by
      by_cases h0:k=0
      · rw[decide_eq_true h0,if_pos rfl,k3] at hf;cases hf
      · rw[decide_eq_false h0,if_neg (by decide),if_neg e1,if_neg (by omega)] at hf;have:=of_decide_eq_true hf;omega
     refine⟨k3,m - 1,by omega,?_⟩;rw[if_neg (by rw[k3];rintro ⟨h,_⟩;cases h),if_neg e1,if_pos k3,if_neg (by omega)]
     congr 1
     omega
structure Mx (bx:Nat)(A Aa:Option Addr)(na ca k:Nat)(p:Int)(x:RE)(W0 W:World):Prop where
 a:W.heap[bx]?=some (.cells #[.int .i64 x.kind,.string x.sp,.string x.lo,.slice Aa na ca,.string x.tx] 54 (0,0))
 ta:aaC W Aa na ca x.ats
 pv:0 < k→∃ b off,A=some ⟨b,off,none⟩∧b < W.heap.size∧W.cell? ⟨b,off+(k - 1) * 5,none⟩=some (.int .i64 p)
 bel:Below W0.heap.size W0 W
section
variable {bx:Nat} {A Aa:Option Addr} {na ca k:Nat} {p:Int} {x:RE} {W0 W W':World}
theorem Mx.keep (h:Mx bx A Aa na ca k p x W0 W)(hb:Below W.heap.size W W'):Mx bx A Aa na ca k p x W0 W':=
 ⟨(hb.block _ (Array.getElem?_eq_some_iff.1 h.a).1).trans h.a,h.ta.keep hb,fun hk=>by
   obtain⟨b,off,e,hlt,hc⟩:=h.pv hk;exact⟨b,off,e,Nat.lt_of_lt_of_le hlt hb.size,(hb.cell (p:=⟨b,off+(k - 1) * 5,none⟩) hlt).trans hc⟩,h.bel.trans (hb.mono h.bel.size)⟩
end
theorem akX (pL tR:ByteArray→Bool)(C:Hid (EvP pL tR))(A:Option Addr)(n c:Nat)(l:List RE)(w:World)(T:abd w A n c l)(hn:n≤100000)(hF:∀ x∈l,RgB x):
 Calls Tryz.prog 21 #[.slice A n c] w fun e w'=>e=.returned (msV (aha pL tR l))∧Below w.heap.size w w':=by
 have HT:=aac T;have HFw:=aac hF;have hcap:=T.cap;unfold maxLen at hcap;clear T hF;obtain⟨F,hF⟩:∃ F,F=aha pL tR l:=⟨_,rfl⟩;rw[← hF];have H0:Hid (F=ady (aao pL tR) (decide ((0:Nat)=0)) (prevK l 0) ((0:Nat):Int) (l.drop 0)):=aac (hF.trans (ara l));clear hF;go_enter Tryz.func21,Tryz.ntmps21;go_wp2_with fail;go_loopw [4,9] (fun vn i wr=>a5N F (aao pL tR) l n w vn i wr) (fun _ i _=>n - (intOf i).toNat);case atStart=>exact⟨0,0,rfl,rfl,Nat.zero_le _,Nat.zero_le _,fun _=>rfl,aac (Below.refl _ _),H0⟩
 case round=>
  clear H0;obtain⟨k,m,rfl,rfl,hk,hm,hkm,HR,HA⟩:=hrel;by_cases hlt:k < n
  · have k1:(k:Int) < (n:Int):=(by omega);have k2:(0:Int)≤(k:Int):=(by omega);have k3:(k:Int)≤(c:Int):=(by omega);have hkl:k < l.length:=by rw[← HT.out.len];exact hlt
    have hx:=List.getElem?_eq_getElem hkl;obtain⟨b,off,Aa,na,ca,hA,hbl,TA,c0,c1,c2,c3,c4⟩:=(HT.out.rd.keep HR.out) k _ hx;have hrb:=HFw.out _ (List.getElem_mem hkl)
    have HP:Hid (0 < k→∃ b' off',A=some ⟨b',off',none⟩∧b' < wr.heap.size∧wr.cell? ⟨b',off'+(k - 1) * 5,none⟩=some (.int .i64 (prevK l k))):=aac fun h0=>by
     have hy:=List.getElem?_eq_getElem (show k - 1 < l.length by omega);obtain⟨b',off',_,_,_,e,hlt',_,q0,_⟩:=(HT.out.rd.keep HR.out) (k - 1) _ hy;refine⟨b',off',e,hlt',?_⟩;rw[q0];unfold prevK;rw[hy];rfl
    have HD:=aac (a0d (R:=aao pL tR) hx hm hkm aoe);generalize l[k]=x at *;subst hA
    have HX0:Hid (Mx wr.heap.size (some ⟨b,off,none⟩) Aa na ca k (prevK l k) x w (wr.alloc (.cells #[.int .i64 x.kind,.string x.sp,.string x.lo,.slice Aa na ca,.string x.tx] 54))):=aac ⟨abJ wr 54 _,TA.keep ((Below.refl _ wr).alloc (Nat.le_refl _) _),fun h0=>by
     obtain⟨b',off',e,hlt',q⟩:=HP.out h0;exact⟨b',off',e,Nat.lt_of_lt_of_le hlt' (by simp),by rw[World.cell?_alloc_lt _ _ _ (by exact hlt')];exact q⟩,HR.out.alloc HR.out.size _⟩
    have C35:Hid (∀ W,Mx wr.heap.size (some ⟨b,off,none⟩) Aa na ca k (prevK l k) x w W→Calls Tryz.prog 36 #[.slice (some ⟨b,off,none⟩) k c,.int .i64 (m:Int),.agg #[.int .i64 x.kind,.string x.sp,.string x.lo,.slice Aa na ca,.string x.tx]] W fun e w'=>e=.returned (.bool (anQ (decide (k=0)) (prevK l k) m x.kind))∧Below W.heap.size W w'):=aac fun W h=>akr _ k c _ _ Aa na ca _ _ _ _ W (by omega) h.pv;have C9:Hid (∀ W,Mx wr.heap.size (some ⟨b,off,none⟩) Aa na ca k (prevK l k) x w W→Calls Tryz.prog 16 #[.agg #[.int .i64 x.kind,.string x.sp,.string x.lo,.slice Aa na ca,.string x.tx]] W fun e w'=>e=.returned (.bool (aao pL tR x))∧Below W.heap.size W w'):=aac fun W h=>C.out Aa na ca x W h.ta hrb;have HK:Hid (∀ W W',Mx wr.heap.size (some ⟨b,off,none⟩) Aa na ca k (prevK l k) x w W→Below W.heap.size W W'→Mx wr.heap.size (some ⟨b,off,none⟩) Aa na ca k (prevK l k) x w W'):=aac fun W W' h hb=>h.keep hb;clear hx hkl hbl TA HP hrb HR;generalize anQ (decide (k=0)) (prevK l k) m x.kind=f at *;generalize aao pL tR x=r at *;obtain⟨kind,sp,lo,ats,tx⟩:=x;dsimp only at *
    have HDr:Hid (F= -1∨(f=true∧r=true)):=aac (by
     cases f
     · exact .inl (HA.out.trans (HD.out.1 (.inl rfl)))
     · cases r
       · exact .inl (HA.out.trans (HD.out.1 (.inr rfl)))
       · exact .inr ⟨rfl,rfl⟩)
    cases f with
    | false=>
      have HE:Hid (msV F=.tuple #[.int .i64 0,.bool false]):=aac (a3q (HA.out.trans (HD.out.1 (.inl rfl))));clear HD HDr HA C9;go_wp2_with fail;clear c0 c1 c2 c3 c4;generalize wr.alloc (.cells #[.int .i64 kind,.string sp,.string lo,.slice Aa na ca,.string tx] 54)=V at *;generalize wr.heap.size=bx at *;have X:=aac (HK.out _ _ HX0.out (Below.refl _ V).drew);clear HX0;have hX:=X.out;obtain⟨d0,d1,d2,d3,d4⟩:=cells5 X.out.a;refine wp_region_any (by kernel_rfl) ?_;change wpAny _ _ _ _ _ _ _ (World.drew _);refine acf 0 14 (.slice (some ⟨b,off,none⟩) n c) rfl (by kernel_rfl) (by kernel_rfl) (by kernel_rfl) (fun _ _ _ h=>h) rfl (by rfl) (fun w=>by go_simp) ?_;simp only[List.setIfInBounds_toArray,List.set_cons_zero,List.set_cons_succ];refine acf 1 15 (.int .i64 k) rfl (by kernel_rfl) (by kernel_rfl) (by kernel_rfl) (fun _ _ _ h=>h) rfl (by rfl) (fun w=>by go_simp) ?_;simp only[List.setIfInBounds_toArray,List.set_cons_zero,List.set_cons_succ];refine acf 3 17 (.int .i64 m) rfl (by kernel_rfl) (by kernel_rfl) (by kernel_rfl) (fun _ _ _ h=>h) rfl (by rfl) (fun w=>by go_simp) ?_;simp only[List.setIfInBounds_toArray,List.set_cons_zero,List.set_cons_succ];refine acf 2 16 (.slice (some ⟨b,off,none⟩) k c) rfl (by kernel_rfl) (by kernel_rfl) (by kernel_rfl) (fun _ _ _ h=>h) rfl (by rfl) (fun w=>by go_simp) ?_;simp only[List.setIfInBounds_toArray,List.set_cons_zero,List.set_cons_succ];refine wpAny_ready (rs:=[4]) (by kernel_rfl) (by simp) ?_;refine AllReady.cons rfl (fun K hK=> ?_) AllReady.nil
      go_simp
      refine hK _ _ ?_;refine wpAny_ready (rs:=[5]) (by kernel_rfl) (by simp) ?_;refine AllReady.cons rfl (fun K hK=> ?_) AllReady.nil
      go_simp
      go_wp2_with (go_at_call 36;refine(C35.out _ hX).mono ?_;rintro e w3 ⟨rfl,b3⟩)
      replace X:=aac (HK.out _ _ X.out b3)
      clear b3 d0 d1 d2 d3 d4 hX;refine acf 6 20 (.bool true) rfl (by kernel_rfl) (by kernel_rfl) (by kernel_rfl) (fun _ _ _ h=>h) rfl (by rfl) (fun w=>by go_simp) ?_;simp only[List.setIfInBounds_toArray,List.set_cons_zero,List.set_cons_succ];refine acf 7 21 (.bool true) rfl (by kernel_rfl) (by kernel_rfl) (by kernel_rfl) (fun _ _ _ h=>h) rfl (by rfl) (fun w=>by go_simp) ?_;simp only[List.setIfInBounds_toArray,List.set_cons_zero,List.set_cons_succ];refine aip 8 22 rfl (by kernel_rfl) (by kernel_rfl) (by kernel_rfl) (fun _ _ _ h=>h) rfl (by rfl) ?_;simp only[List.setIfInBounds_toArray,List.set_cons_zero,List.set_cons_succ];refine aip 9 23 rfl (by kernel_rfl) (by kernel_rfl) (by kernel_rfl) (fun _ _ _ h=>h) rfl (by rfl) ?_;simp only[List.setIfInBounds_toArray,List.set_cons_zero,List.set_cons_succ];refine aip 10 24 rfl (by kernel_rfl) (by kernel_rfl) (by kernel_rfl) (fun _ _ _ h=>h) rfl (by rfl) ?_;simp only[List.setIfInBounds_toArray,List.set_cons_zero,List.set_cons_succ];refine acf 11 25 (.bool true) rfl (by kernel_rfl) (by kernel_rfl) (by kernel_rfl) (fun _ _ _ h=>h) rfl (by rfl) (fun w=>by go_simp) ?_;simp only[List.setIfInBounds_toArray,List.set_cons_zero,List.set_cons_succ];refine wpAny_done (by kernel_rfl) ?_ _;go_wp2;go_ret2;exact⟨by rw[HE.out] <;> rfl,X.out.bel⟩
    | true=>
      cases r with
      | false=>
        have HE:Hid (msV F=.tuple #[.int .i64 0,.bool false]):=aac (a3q (HA.out.trans (HD.out.1 (.inr rfl))));clear HD HDr HA;go_wp2_with fail;clear c0 c1 c2 c3 c4;generalize wr.alloc (.cells #[.int .i64 kind,.string sp,.string lo,.slice Aa na ca,.string tx] 54)=V at *;generalize wr.heap.size=bx at *;have X:=aac (HK.out _ _ HX0.out (Below.refl _ V).drew);clear HX0
        go_region_held3 (fun W=>W.cell? ⟨bx,0,none⟩=some (.int .i64 kind)∧W.cell? ⟨bx,1,none⟩=some (.string sp)∧W.cell? ⟨bx,2,none⟩=some (.string lo)∧W.cell? ⟨bx,3,none⟩=some (.slice Aa na ca)∧W.cell? ⟨bx,4,none⟩=some (.string tx))
         (first | with_reducible exact cells5 X.out.a | fail)
         (first
           | (go_at_call 36;refine(C35.out _ X.out).mono ?_;rintro e w3 ⟨rfl,b3⟩;replace X:=aac (HK.out _ _ X.out b3);clear b3)
           | (go_at_call 16;refine(C9.out _ X.out).mono ?_;rintro e w3 ⟨rfl,b3⟩;replace X:=aac (HK.out _ _ X.out b3);clear b3)
           | fail)
        all_goals
         go_wp2;go_ret2;exact⟨by rw[HE.out] <;> rfl,X.out.bel⟩
      | true=>
        obtain⟨q,kq,hq,HA2⟩:∃ q:Nat,(kind=1∧m+1=q∨kind=2∧m=q∨kind=3∧q+1=m)∧q≤64∧Hid (F=ady (aao pL tR) (decide (k+1=0)) (prevK l (k+1)) (q:Int) (l.drop (k+1))):=by
         rcases HD.out.2 rfl rfl with ⟨a1,a2,a3⟩ | ⟨a1,a3⟩ | ⟨a1,q,a2,a3⟩
         · exact⟨m+1,.inl ⟨a1,rfl⟩,a2,aac (HA.out.trans a3)⟩
         · exact⟨m,.inr (.inl ⟨a1,rfl⟩),hm,aac (HA.out.trans a3)⟩
         · exact⟨q,.inr (.inr ⟨a1,a2⟩),by omega,aac (HA.out.trans a3)⟩
        clear HD HDr HA;have HQ:=aac kq;clear kq;go_wp2_with fail;clear c0 c1 c2 c3 c4;generalize wr.alloc (.cells #[.int .i64 kind,.string sp,.string lo,.slice Aa na ca,.string tx] 54)=V at *;generalize wr.heap.size=bx at *;have X:=aac (HK.out _ _ HX0.out (Below.refl _ V).drew);clear HX0
        go_region_held3 (fun W=>W.cell? ⟨bx,0,none⟩=some (.int .i64 kind)∧W.cell? ⟨bx,1,none⟩=some (.string sp)∧W.cell? ⟨bx,2,none⟩=some (.string lo)∧W.cell? ⟨bx,3,none⟩=some (.slice Aa na ca)∧W.cell? ⟨bx,4,none⟩=some (.string tx))
         (first | with_reducible exact cells5 X.out.a | fail)
         (first
           | (go_at_call 36;refine(C35.out _ X.out).mono ?_;rintro e w3 ⟨rfl,b3⟩;replace X:=aac (HK.out _ _ X.out b3);clear b3)
           | (go_at_call 16;refine(C9.out _ X.out).mono ?_;rintro e w3 ⟨rfl,b3⟩;replace X:=aac (HK.out _ _ X.out b3);clear b3)
           | fail)
        all_goals
         obtain⟨d0,d1,d2,d3,d4⟩:=cells5 X.out.a;have HB:=aac X.out.bel;clear d1 d2 d3 d4 HK C9 C35 X;rcases HQ.out with ⟨rfl,hq2⟩ | ⟨rfl,hq2⟩ | ⟨rfl,hq2⟩
        all_goals
         have HQ2:=aac hq2;have qs:IntKind.i64.wrap ((m:Int) - 1)=(m:Int) - 1:=(by rw[IntWalk.i64_in _ (by omega)]);clear hq2 HQ;go_wp2;go_roundw;case rel=>exact⟨k+1,q,by go_num,by (first | (rw[← HQ2.out];go_num) | (congr 1;have:=HQ2.out;omega)),by omega,hq,fun h=>by omega,HB,HA2⟩
         case measure=>simp only[intOf];omega
  · have k1:¬ (k:Int) < (n:Int):=(by omega);have HE:Hid (msV F=.tuple #[.int .i64 m,.bool true]):=aac (a3V (by rw[HA.out,List.drop_of_length_le (by rw[← HT.out.len];omega)];rfl));clear HA;go_wp2;go_ret2;exact⟨by rw[HE.out] <;> rfl,HR.out⟩
end Go.Proofs.YtiaebhomfebagaaGreatDoor.Ev
namespace Go.Proofs.YtiaebhomfebagaaGreatDoor.Ev
open Go.RowKit
def MsC (pL tR:ByteArray→Bool):Prop:=∀ (A:Option Addr) (n c:Nat) (l:List RE) (W:World),abd W A n c l→n≤100000→(∀ x∈l,RgB x)→Calls Tryz.prog 21 #[.slice A n c] W fun e w'=>e=.returned (msV (aha pL tR l))∧Below W.heap.size W w'
section
variable {pL tR:ByteArray→Bool}
theorem azk (C:Hid (MsC pL tR))(A:Option Addr)(n c:Nat)(l:List RE)(w:World)(T:abd w A n c l)(hn:n≤100000)(hB:∀ x∈l,RgB x):Calls Tryz.prog 14 #[.slice A n c] w fun e w'=>e=.returned (.bool (decide (aha pL tR l=0∧0 < n)))∧Below w.heap.size w w':=by
 have CM:=C.out A n c l w T hn hB;unfold msV at CM;have HM:=aac CM;clear CM C T hB;generalize aha pL tR l=F at *;by_cases h0:0≤F
 · rw[decide_eq_true h0,if_neg (by omega)] at HM;by_cases h1:F=0
   · have e1:(F == 0)=true:=by simpa using h1
     have HE:Hid (decide (F=0∧0 < n)=decide ((0:Int) < (n:Int))):=aac (by
      by_cases hz:0 < n
      · rw[decide_eq_true ⟨h1,hz⟩,decide_eq_true (by omega)]
      · rw[decide_eq_false (fun h=>hz h.2),decide_eq_false (by omega)])
     rw[HE.out];clear HE h0;subst h1;by_cases hz:(0:Int) < (n:Int)
     · have hz':decide ((0:Int) < (n:Int))=true:=decide_eq_true hz;rw[hz'];have HN:Hid (decide (0 < n)=true):=aac (decide_eq_true (by omega));go_enter Tryz.func14,Tryz.ntmps14;go_wp2_with fail;refine HM.out.mono ?_;rintro e w1 ⟨rfl,b1⟩;go_wp2;go_ret;exact⟨by show Ending.returned (.bool (decide (0 < n)))=_;rw[HN.out],b1⟩
     · have hz':decide ((0:Int) < (n:Int))=false:=decide_eq_false hz;rw[hz'];have HN:Hid (decide (0 < n)=false):=aac (decide_eq_false (by omega));go_enter Tryz.func14,Tryz.ntmps14;go_wp2_with fail;refine HM.out.mono ?_;rintro e w1 ⟨rfl,b1⟩;go_wp2;go_ret;exact⟨by show Ending.returned (.bool (decide (0 < n)))=_;rw[HN.out],b1⟩
   · have e1:(F == 0)=false:=(by simpa using h1);rw[decide_eq_false (fun h=>h1 h.1)];clear h0 h1;go_enter Tryz.func14,Tryz.ntmps14;go_wp2_with fail;refine HM.out.mono ?_;rintro e w1 ⟨rfl,b1⟩;go_wp2;go_ret;exact⟨rfl,b1⟩
 · rw[decide_eq_false h0,if_pos (by omega)] at HM;rw[decide_eq_false (fun h=>by omega)];clear h0;go_enter Tryz.func14,Tryz.ntmps14;go_wp2_with fail;refine HM.out.mono ?_;rintro e w1 ⟨rfl,b1⟩;go_wp2;go_ret;exact⟨rfl,b1⟩
end
end Go.Proofs.YtiaebhomfebagaaGreatDoor.Ev
namespace Go.Proofs.YtiaebhomfebagaaGreatDoor.Ev
open Go.RowKit
def AtC (pL tR:ByteArray→Bool):Prop:=∀ (A:Option Addr) (n c:Nat) (l:List P3) (w:World),aaC w A n c l→(l.length≤32→∀ y∈l,y.1.1.size≤10000∧y.1.2.size≤10000∧y.2.size≤10000)→Calls Tryz.prog 26 #[.slice A n c] w fun e w'=>e=.returned (.bool (decide (n≤32) && goA (nmF pL tR) tR [] l))∧Below w.heap.size w w'
structure Bx1 (bx:Nat)(A:Option Addr)(n c:Nat)(x:RE)(W0 W:World):Prop where
 a:W.heap[bx]?=some (.cells #[.int .i64 x.kind,.string x.sp,.string x.lo,.slice A n c,.string x.tx] 54 (0,0))
 ta:aaC W A n c x.ats
 bel:Below W0.heap.size W0 W
theorem Bx1.keep {bx:Nat}{A:Option Addr}{n c:Nat}{x:RE}{W0 W W':World}(h:Bx1 bx A n c x W0 W)(hb:Below W.heap.size W W'):Bx1 bx A n c x W0 W':=
 ⟨(hb.block _ (Array.getElem?_eq_some_iff.1 h.a).1).trans h.a,h.ta.keep hb,h.bel.trans (hb.mono h.bel.size)⟩
theorem apk (pL tR:ByteArray→Bool)(C1:Hid (NmC pL tR))(C2:Hid (axq 28 tR))(C3:Hid (AtC pL tR))(A:Option Addr)(n c:Nat)(x:RE)(w:World)(T:aaC w A n c x.ats)(hB:RgB x):
 Calls Tryz.prog 16 #[.agg #[.int .i64 x.kind,.string x.sp,.string x.lo,.slice A n c,.string x.tx]] w fun e w'=>e=.returned (.bool (aao pL tR x))∧Below w.heap.size w w':=by
 obtain⟨W0,hW0⟩:∃ W0,W0=w.alloc (.cells #[.int .i64 x.kind,.string x.sp,.string x.lo,.slice A n c,.string x.tx] 54):=⟨_,rfl⟩
 have HX:Hid (Bx1 w.heap.size A n c x w W0):=aac (by
  rw[hW0];exact⟨abJ w 54 _,T.keep ((Below.refl _ w).alloc (Nat.le_refl _) _),(Below.refl w.heap.size w).alloc (Nat.le_refl _) _⟩)
 have HN:=aac (show n=x.ats.length from T.len);have C20:Hid (∀ W,Calls Tryz.prog 25 #[.agg #[.string x.sp,.string x.lo]] W fun e w'=>e=.returned (.bool (nmF pL tR (x.sp,x.lo)))∧Below W.heap.size W w'):=aac fun W=>C1.out _ _ W hB.sp hB.lo;have C21:Hid (∀ W,Bx1 w.heap.size A n c x w W→Calls Tryz.prog 26 #[.slice A n c] W fun e w'=>e=.returned (.bool (decide (n≤32) && goA (nmF pL tR) tR [] x.ats))∧Below W.heap.size W w'):=aac fun W h=>C3.out A n c x.ats W h.ta hB.at_;have C22:Hid (∀ W,Calls Tryz.prog 27 #[.agg #[.int .i64 x.kind,.string x.sp,.string x.lo,.slice A n c,.string x.tx]] W fun e w'=>e=.returned (.bool (acR x))∧Below W.heap.size W w'):=aac fun W=>avX A n c x W HN.out;have C23:Hid (∀ W,Calls Tryz.prog 28 #[.string x.tx] W fun e w'=>e=.returned (.bool (tR x.tx))∧Below W.heap.size W w'):=aac fun W=>C2.out _ W hB.tx;have HK:Hid (∀ W W',Bx1 w.heap.size A n c x w W→Below W.heap.size W W'→Bx1 w.heap.size A n c x w W'):=aac fun W W' h hb=>h.keep hb;obtain⟨F,hF⟩:∃ F,F=aao pL tR x:=⟨_,rfl⟩;rw[← hF];have HF:=aac hF;clear T hB hF C1 C2 C3;by_cases h2:x.kind=2
 · have HE:Hid (F=(acR x && !emp x.tx && tR x.tx)):=aac (by rw[HF.out];unfold aao;rw[if_pos h2]);clear HF C20 C21;unfold emp at HE;generalize acR x=nn at *;generalize tR x.tx=tt at *;obtain⟨kind,sp,lo,ats,tx⟩:=x;dsimp only at *;subst h2;go_enter Tryz.func16,Tryz.ntmps16;go_wp2_with fail;generalize hw:w.alloc _=W1 at *;clear hw;subst hW0;refine(C22.out _).mono ?_;rintro e w1 ⟨rfl,b1⟩
   replace HX:=aac (HK.out _ _ HX.out b1)
   clear b1 C22;obtain⟨c0,c1,c2,c3,c4⟩:=cells5 HX.out.a;clear c0 c1 c2 c3
   cases nn with
   | false=>
     have HE2:Hid (F=false):=aac (by rw[HE.out];rfl);clear HE;go_wp2;go_ret;exact⟨by rw[HE2.out] <;> rfl,HX.out.bel⟩
   | true=>
     cases t1:tx.toList.isEmpty with
     | true=>
       have HE2:Hid (F=false):=aac (by rw[HE.out,t1];rfl);clear HE;go_wp2;go_ret;exact⟨by rw[HE2.out] <;> rfl,HX.out.bel⟩
     | false=>
       have HE2:Hid (F=tt):=aac (by rw[HE.out,t1];rfl);clear HE;go_wp2_with fail;refine(C23.out _).mono ?_;rintro e w2 ⟨rfl,b2⟩
       replace HX:=aac (HK.out _ _ HX.out b2)
       clear b2 C23 c4;go_wp2;go_ret;exact⟨by rw[HE2.out] <;> rfl,HX.out.bel⟩
 by_cases h3:x.kind=3
 · have HE:Hid (F=(acR x && emp x.tx)):=aac (by rw[HF.out];unfold aao;rw[if_neg h2,if_pos h3]);clear HF C20 C21 C23 h2;unfold emp at HE;generalize acR x=nn at *;obtain⟨kind,sp,lo,ats,tx⟩:=x;dsimp only at *;subst h3;go_enter Tryz.func16,Tryz.ntmps16;go_wp2_with fail;generalize hw:w.alloc _=W1 at *;clear hw;subst hW0;refine(C22.out _).mono ?_;rintro e w1 ⟨rfl,b1⟩
   replace HX:=aac (HK.out _ _ HX.out b1)
   clear b1 C22;obtain⟨c0,c1,c2,c3,c4⟩:=cells5 HX.out.a;clear c0 c1 c2 c3
   cases nn with
   | false=>
     have HE2:Hid (F=false):=aac (by rw[HE.out];rfl);clear HE;go_wp2;go_ret;exact⟨by rw[HE2.out] <;> rfl,HX.out.bel⟩
   | true=>
     have HE2:Hid (F=tx.toList.isEmpty):=aac (by rw[HE.out];rfl);clear HE;go_wp2;go_ret;exact⟨by rw[HE2.out] <;> rfl,HX.out.bel⟩
 have HE:Hid (F=if x.kind≠1∨emp x.tx=false∨nmF pL tR (x.sp,x.lo)=false∨32 < x.ats.length then false else goA (nmF pL tR) tR [] x.ats):=aac (by rw[HF.out];unfold aao;rw[if_neg h2,if_neg h3]);have e2:(x.kind == 2)=false:=(by simpa using h2);have e3:(x.kind == 3)=false:=(by simpa using h3);clear HF C22 C23 h2 h3;by_cases h1:x.kind=1
 · have HE1:Hid (F=(nmF pL tR (x.sp,x.lo) && (decide (n≤32) && goA (nmF pL tR) tR [] x.ats) && x.tx.toList.isEmpty)):=aac (by
    rw[HE.out];unfold emp;rw[HN.out];cases nmF pL tR (x.sp,x.lo)
    · rw[if_pos (.inr (.inr (.inl rfl)))];rfl
    · cases x.tx.toList.isEmpty
      · rw[if_pos (.inr (.inl rfl))];simp
      · by_cases h:32 < x.ats.length
        · rw[if_pos (.inr (.inr (.inr h))),decide_eq_false (by omega)];rfl
        · rw[if_neg (by rintro (g | g | g | g);exact g h1;cases g;cases g;exact h g),decide_eq_true (by omega)];simp)
   clear HE e2 e3;generalize (decide (n≤32) && goA (nmF pL tR) tR [] x.ats)=aa at *;generalize nmF pL tR (x.sp,x.lo)=nn at *;obtain⟨kind,sp,lo,ats,tx⟩:=x;dsimp only at *;subst h1;go_enter Tryz.func16,Tryz.ntmps16;go_wp2_with fail;generalize hw:w.alloc _=W1 at *;clear hw;subst hW0;refine(C20.out _).mono ?_;rintro e w1 ⟨rfl,b1⟩
   replace HX:=aac (HK.out _ _ HX.out b1)
   clear b1 C20
   cases nn with
   | false=>
     have HE2:Hid (F=false):=aac (by rw[HE1.out];rfl);clear HE1;go_wp2;go_ret;exact⟨by rw[HE2.out] <;> rfl,HX.out.bel⟩
   | true=>
     obtain⟨c0,c1,c2,c3,c4⟩:=cells5 HX.out.a;clear c0 c1 c2 c4;go_wp2_with fail;refine(C21.out _ HX.out).mono ?_;rintro e w2 ⟨rfl,b2⟩
     replace HX:=aac (HK.out _ _ HX.out b2)
     clear b2 C21 c3;obtain⟨c0,c1,c2,c3,c4⟩:=cells5 HX.out.a;clear c0 c1 c2 c3
     cases aa with
     | false=>
       have HE2:Hid (F=false):=aac (by rw[HE1.out];rfl);clear HE1;go_wp2;go_ret;exact⟨by rw[HE2.out] <;> rfl,HX.out.bel⟩
     | true=>
       have HE2:Hid (F=tx.toList.isEmpty):=aac (by rw[HE1.out];rfl);clear HE1;go_wp2;go_ret;exact⟨by rw[HE2.out] <;> rfl,HX.out.bel⟩
 · have HE2:Hid (F=false):=aac (by rw[HE.out,if_pos (.inl h1)]);have e1:(x.kind == 1)=false:=(by simpa using h1);clear HE C20 C21 h1;obtain⟨kind,sp,lo,ats,tx⟩:=x;dsimp only at *;go_enter Tryz.func16,Tryz.ntmps16;go_wp2_with fail;generalize hw:w.alloc _=W1 at *;clear hw;subst hW0;go_ret;exact⟨by rw[HE2.out] <;> rfl,HX.out.bel⟩
theorem awm (pL tR:ByteArray→Bool)(C1:Hid (axq 38 pL))(C2:Hid (axq 28 tR)):EvP pL tR:=fun A n c x W T hB=>by
 have CN:Hid (NmC pL tR):=aac fun sp lo W h1 h2=>anV pL tR C1 C2 sp lo W h1 h2;have CA:Hid (AtC pL tR):=aac fun A n c l W T hB=>agT pL tR CN C2 A n c l W T hB;exact apk pL tR CN C2 CA A n c x W T hB
end Go.Proofs.YtiaebhomfebagaaGreatDoor.Ev
namespace Go.Proofs.YtiaebhomfebagaaGreatDoor.Ev
open Go.RowKit
theorem a3o:Rt []:=⟨rfl,fun r hr=>by simp[ade] at hr⟩
theorem adx {s:ByteArray}{a:Nat}(h:a < s.size):(aad s).drop a≠[]:=fun e=>by
 have:=congrArg List.length e;rw[List.length_drop,aae] at this;simp at this;omega
theorem a3B {s:ByteArray}{a:Nat}(h:a < s.size)(he:(aaS s a).2.2≠0):¬ Rt ((aad s).drop a):=by
 rw[adH s a h] at he;rintro ⟨h1,_⟩;rw[aiv _ (adx h) he] at h1;exact he h1
theorem a4J {s:ByteArray}{a:Nat}(h:a < s.size)(he:(aaS s a).2.2=0):Rt ((aad s).drop a)↔(Chr (aaS s a).1∧Rt ((aad s).drop (a+(aaS s a).2.1.toNat))):=by
 rw[adH s a h] at he ⊢;unfold Rt;rw[agL _ (adx h) ((abn s).drop a) he,List.drop_drop];simp only[List.mem_cons,forall_eq_or_imp];exact⟨fun ⟨h1,h2,h3⟩=>⟨h2,h1,h3⟩,fun ⟨h2,h1,h3⟩=>⟨h1,h2,h3⟩⟩
theorem asG {s:ByteArray}(h:Rt (aad s)):rtF s=true:= @decide_eq_true _ (Classical.propDecidable _) h
theorem a2P {s:ByteArray}(h:¬ Rt (aad s)):rtF s=false:= @decide_eq_false _ (Classical.propDecidable _) h
theorem akJ (s:ByteArray)(w:World)(hs:s.size≤100000):
 Calls Tryz.prog 28 #[.string s] w fun e w'=>e=.returned (.bool (rtF s))∧w=w':=by
 obtain⟨F,hF⟩:∃ F,F=rtF s:=⟨_,rfl⟩;rw[← hF];have HY:Hid (Rt (aad s)→F=true):=aac fun h=>by rw[hF,asG h]
 have HN:Hid (¬ Rt (aad s)→F=false):=aac fun h=>by rw[hF,a2P h]
 clear hF;go_enter Tryz.func28,Tryz.ntmps28;go_wp2_with fail;go_loop [3] (fun vi=>∃ k:Nat,vi=.int .i64 k∧k≤s.size∧Hid (Rt (aad s)↔Rt ((aad s).drop k))) (fun vi=>s.size - (intOf vi).toNat);case atStart=>exact⟨0,rfl,Nat.zero_le _,aac (by rw[List.drop_zero])⟩
 case round=>
  obtain⟨k,rfl,hk,HR⟩:=hrel;by_cases hlt:k < s.size
  · have d1:(k:Int) < (s.size:Int):=(by omega);have C:=aac (akT s k w (by unfold maxLen;omega));have HO:=acC s k hlt;have HB:=aac (fun he=>a3B hlt (a:=k) he);have HG:=aac (fun he=>a4J hlt (a:=k) he);unfold atq at HO;generalize aaS s k=x at *;obtain⟨r,n,er⟩:=x;dsimp only at *;by_cases he:er=0
    · subst he;have hn:1≤n∧n≤(s.size - k:Nat):=(by omega);obtain⟨m,rfl⟩:=Int.eq_ofNat_of_zero_le (show 0≤n by omega);have hm1:1≤m:=(by omega);have hm2:k+m≤s.size:=(by omega);have hr1:0≤r∧r≤1114111:=(by omega);have HI:=aac (HR.out.trans (HG.out rfl));rw[Int.toNat_natCast] at HI;have CC:=adB r;clear HO HG HB HR hn;by_cases hc:Chr r
      · rw[decide_eq_true hc] at CC;have CH:=aac CC;have HR2:Hid (Rt (aad s)↔Rt ((aad s).drop (k+m))):=aac (HI.out.trans ⟨fun h=>h.2,fun h=>⟨hc,h⟩⟩);clear CC HI hc;go_wp2_with (first | (go_at_call 39;refine C.out.mono ?_;rintro e w' ⟨rfl,rfl⟩) | (go_at_call 40;refine(CH.out _).mono ?_;rintro e w' ⟨rfl,rfl⟩) | fail);refine⟨⟨k+m,by go_num,hm2,HR2⟩,by simp only[intOf];omega⟩
      · rw[decide_eq_false hc] at CC;have CH:=aac CC;have HE:Hid (F=false):=aac (HN.out fun h=>hc (HI.out.1 h).1);clear CC HI hc;go_wp2_with (first | (go_at_call 39;refine C.out.mono ?_;rintro e w' ⟨rfl,rfl⟩) | (go_at_call 40;refine(CH.out _).mono ?_;rintro e w' ⟨rfl,rfl⟩) | fail);go_ret;exact⟨by rw[HE.out] <;> rfl,rfl⟩
    · have HE:Hid (F=false):=aac (HN.out fun h=>HB.out he (HR.out.1 h));have e1:(er != 0)=true:=bne_iff_ne.2 he;clear HO HG HB HR he;go_wp2_with (first | (go_at_call 39;refine C.out.mono ?_;rintro e w' ⟨rfl,rfl⟩) | fail);go_ret;exact⟨by rw[HE.out] <;> rfl,rfl⟩
  · have d1:¬ (k:Int) < (s.size:Int):=(by omega);have HE:Hid (F=true):=aac (HY.out (HR.out.2 (by rw[List.drop_of_length_le (by rw[aae];omega)];exact a3o)));clear HR;go_wp2;go_ret;exact⟨by rw[HE.out] <;> rfl,rfl⟩
theorem azB:axq 28 rtF:=fun s W hs=>(akJ s W (by omega)).mono fun e w' ⟨h1,h2⟩=>⟨h1,by rw[← h2];exact Below.refl _ _⟩
theorem ava:axq 38 plF:=fun s W _=>Nz.ace s W
end Go.Proofs.YtiaebhomfebagaaGreatDoor.Ev
namespace Go.Proofs.YtiaebhomfebagaaGreatDoor.Ev
open Go.RowKit
theorem a6A {pL tR:ByteArray→Bool}(C:Hid (EvP pL tR)):MsC pL tR:=fun A n c l W T hn hB=>akX pL tR C A n c l W T hn hB
theorem aqp {s:ByteArray}{l:List Int}{k:Nat}(h:acX (aad s)=(l,k,0))(h2:∀ r∈l,Chr r):rtF s=true:=asG ⟨by rw[h],by rw[h];exact h2⟩
theorem a6y:rtF ⟨#[97]⟩=true:=aqp (l:=[97]) (k:=1) (by decide+kernel) (by decide)
theorem a6F:plF ⟨#[97]⟩=true:=by unfold plF;decide+kernel
theorem ayP:emB.toList=[]:=by rw[Lib.toList_data];rfl
theorem aqZ:EvP plF rtF:=awm plF rtF (aac ava) (aac azB)
theorem aqU (A:Option Addr)(n c:Nat)(l:List RE)(W:World)(T:abd W A n c l)(hn:n≤100000)(hB:∀ x∈l,RgB x):Calls Tryz.prog 14 #[.slice A n c] W fun e w'=>e=.returned (.bool (decide (aha plF rtF l=0∧0 < n)))∧Below W.heap.size W w':=
 azk (aac (a6A (aac aqZ))) A n c l W T hn hB
end Go.Proofs.YtiaebhomfebagaaGreatDoor.Ev
namespace Go.Proofs.YtiaebhomfebagaaGreatDoor.Ev
open Go.RowKit
theorem amt {W:World}{B:Nat}{e:TypeId}{z n:Nat}{v:Value}{xs:List Value}(h:W.ownsRow B e z v n xs):n≤maxLen:=by
 rcases h.2 with ⟨_,h0⟩ | ⟨g,cap,cur,q,hB,hh,h4,h5,_⟩
 · omega
 · omega
theorem aua {W:World}{B:Nat}{e:TypeId}{z n c:Nat}{A:Option Addr}{xs:List Value}(h:W.ownsRow B e z (.slice A n c) n xs):n≤c∧c≤maxLen:=by
 rcases h.2 with ⟨q,h0⟩ | ⟨g,cap,cur,q,hB,hh,h4,h5,_⟩
 · injection q with _ _ q3
   omega
 · injection q with _ _ q3
   omega
theorem asn (x:Wl.Ev):(Wl.toR x).ats=Wl.a2c x:=by cases x <;> rfl
theorem a2G (x:Wl.Ev):(Wl.toR x).kind=Wl.kd x:=by cases x <;> rfl
theorem a1Z (x:Wl.Ev):(Wl.toR x).sp=Wl.sp x:=by cases x <;> rfl
theorem a2E (x:Wl.Ev):(Wl.toR x).lo=Wl.lo x:=by cases x <;> rfl
theorem a1N (x:Wl.Ev):(Wl.toR x).tx=Wl.tx x:=by cases x <;> rfl
theorem aok:emB.size≤10000:=by decide
theorem aoR {x:Wl.Ev}{M:Nat}(hM:M≤10000)(h:Wl.EvZ M x):(Wl.toR x).sp.size≤10000∧(Wl.toR x).lo.size≤10000∧(Wl.toR x).tx.size≤10000∧∀ y∈(Wl.toR x).ats,y.1.1.size≤10000∧y.1.2.size≤10000∧y.2.size≤10000:=by
 cases x with
 | opn n f=>exact⟨Nat.le_trans h.1.1 hM,Nat.le_trans h.1.2 hM,aok,fun y hy=>⟨Nat.le_trans (h.2 y hy).1.1 hM,Nat.le_trans (h.2 y hy).1.2 hM,Nat.le_trans (h.2 y hy).2 hM⟩⟩
 | txt s=>exact⟨aok,aok,Nat.le_trans h hM,fun y hy=>by cases hy⟩
 | cls=>exact⟨aok,aok,aok,fun y hy=>by cases hy⟩
theorem a0H {x:Wl.Ev}(h:Wl.EvG x):(Wl.a2c x).length≤32:=by
 cases x with
 | opn n f=>exact h.2.2
 | txt s=>exact Nat.zero_le _
 | cls=>exact Nat.zero_le _
theorem a2C {W:World}{B:Nat}{v:Value}{l:List Wl.Ev}(h:Wl.abv W B v l){M:Nat}(hM:M≤10000)(hl:l.length≤100000)(hz:∀ x∈l,Wl.EvZ M x)(hg:∀ x∈l,Wl.EvG x):∃ A c,v=.slice A l.length c∧abd W A l.length c (l.map Wl.toR)∧∀ x∈l.map Wl.toR,RgB x:=by
 obtain⟨es,h1,h2,h3⟩:=h;have hes:es.length=l.length:=(by rw[← h1,List.length_map]);obtain⟨A,c,hv⟩:=Nz.Sc.aai h2;subst hv;have h10:(10000:Nat)≤maxLen:=(by decide);refine⟨A,c,by rw[hes],⟨by rw[List.length_map],by rw[← hes];exact amt h2,by omega,fun x hx=> ?_,fun k x hk=> ?_,fun hA=> ?_,by rw[← hes];exact aua h2⟩,fun x hx=> ?_⟩
 · obtain⟨y,hy,rfl⟩:=List.mem_map.1 hx;have hs:=aoR hM (hz y hy);exact⟨Nat.le_trans hs.1 h10,Nat.le_trans hs.2.1 h10,Nat.le_trans hs.2.2.1 h10⟩
 · rw[List.getElem?_map] at hk;obtain⟨y,hy,rfl⟩:=Option.map_eq_some_iff.1 hk;have hs:=aoR hM (hz y (List.mem_of_getElem? hy));have h32:=a0H (hg y (List.mem_of_getElem? hy));rw[← h1,List.getElem?_map] at hy;obtain⟨t,ht,rfl⟩:=Option.map_eq_some_iff.1 hy;have hlt:=(List.getElem?_eq_some_iff.1 ht).1;have hO:=h3 t (List.mem_of_getElem? ht);obtain⟨Aa,ca,ea,ra,na,_⟩:=Nz.Sc.a0D hO;rcases h2.2 with ⟨q,h0⟩ | ⟨g,cap,cur,q,hB,hh,hr⟩
   · omega
   injection q with q1 q2 q3
   subst q1;have cel:∀ i,i < 5→W.cell? ⟨g,k * 5+i,none⟩=(Wl.evC t)[i]?:=fun i hi=>(h2.cellAt (k * 5+i) (by omega)).trans (Wl.ayB es k i t ht hi);rw[a2G,a1Z,a2E,a1N];refine⟨g,0,Aa,_,ca,rfl,(Array.getElem?_eq_some_iff.1 hh).1,⟨?_,amt hO,by omega,fun y hy=> ?_,?_,na⟩,?_,?_,?_,?_,?_⟩
   · rw[asn]
   · have:=hs.2.2.2 y hy;exact⟨Nat.le_trans this.1 h10,Nat.le_trans this.2.1 h10,Nat.le_trans this.2.2 h10⟩
   · rw[asn];exact ra
   all_goals rw[Nat.zero_add]
   · exact cel 0 (by omega)
   · exact cel 1 (by omega)
   · exact cel 2 (by omega)
   · refine(cel 3 (by omega)).trans ?_;show some t.2=_;rw[ea]
   · exact cel 4 (by omega)
 · have:=Wl.afi h2;have h:=this.1 hA;exact⟨by omega,h.2⟩
 · obtain⟨y,hy,rfl⟩:=List.mem_map.1 hx;have hs:=aoR hM (hz y hy);exact⟨hs.1,hs.2.1,hs.2.2.1,fun _=>hs.2.2.2⟩
theorem alo (s:ByteArray):Wl.By (aad s):=fun x hx=>by
 obtain⟨b,_,rfl⟩:=List.mem_map.1 hx;have:=b.toNat_lt;omega
end Go.Proofs.YtiaebhomfebagaaGreatDoor.Ev
namespace Go.Proofs.YtiaebhomfebagaaGreatDoor
theorem adQ (a b:List Int)(h:a≠[]):(a++b).getD 0 0=a.getD 0 0:=by
 cases a with
 | nil=>exact absurd rfl h
 | cons x y=>simp
theorem agz (v:Bool)(r:Int)(T:List Int)(hc:Chr r)(h1:r≠38)(h2:r≠13)(h3:v=true→r≠9∧r≠10):aaR v (aat r++T)=(0,aat r,(aat r).length):=by
 have hb:=acv hc;have hd:(aat r++T).getD 0 0=(aat r).getD 0 0:=adQ _ _ (aqg r);have D:=arO r T hb
 have g38:(aat r).getD 0 0≠38:=by
  by_cases h:r < 128
  · rw[enc1 h];simpa using h1
  · have:=(aeX r hb (by omega)).1;omega
 have g13:(aat r).getD 0 0≠13:=by
  by_cases h:r < 128
  · rw[enc1 h];simpa using h2
  · have:=(aeX r hb (by omega)).1;omega
 unfold aaR;rw[hd,if_neg g38,if_neg g13];by_cases h4:(aat r).getD 0 0=9∨(aat r).getD 0 0=10
 · rw[if_pos h4]
   have hr:r < 128:=by
    by_cases h:r < 128
    · exact h
    · have:=(aeX r hb (by omega)).1;omega
   rw[enc1 hr] at h4 ⊢;simp only[List.getD_cons_zero] at h4 ⊢
   have hv:v=false:=by
    cases v with
    | false=>rfl
    | true=>have:=h3 rfl;omega
   subst hv;rfl
 · rw[if_neg h4,D];simp[hc]
theorem avY:agX [97,109,112]=38:=by decide
theorem a0Q:agX [108,116]=60:=by decide
theorem azv:agX [103,116]=62:=by decide
theorem ayw:agX [35,120,68]=13:=by decide
theorem aoK:agX [113,117,111,116]=34:=by decide
theorem aue:agX [35,120,57]=9:=by decide
theorem ayk:agX [35,120,65]=10:=by decide
theorem awr (a T:List Int)(h:59 ∉ a):abj (a++59 :: T)=a:=by
 unfold abj
 induction a with
 | nil=>simp
 | cons x a ih=>
   rw[List.cons_append,List.takeWhile_cons,if_pos (by simp only[decide_eq_true_eq];intro e;exact h (by simp[e]))];rw[ih (fun hh=>h (by simp[hh]))]
theorem acZ (v:Bool)(a T:List Int)(r:Int)(h:59 ∉ a)(hr:agX a=r)(h0:0≤r):aaR v (38 :: (a++59 :: T))=(0,aat r,a.length+2):=by
 unfold aaR;rw[if_pos (by simp),List.tail_cons,awr a T h,hr,if_pos ⟨by simp,h0⟩]
theorem ahB (v:Bool)(r:Int)(hb:¬ Bad r)(h:128≤r):aaO v (aat r)=aat r:=by
 have hx:=(aeX r hb h).2;unfold aaO
 have:∀ (l:List Int),(∀ x∈l,128≤x)→l.flatMap (agZ v)=l:=by
  intro l
  induction l with
  | nil=>intro _;rfl
  | cons x l ih=>
    intro hl;have h1:=hl x (by simp);rw[List.flatMap_cons,ih (fun y hy=>hl y (by simp[hy]))];unfold agZ;rw[if_neg (by omega),if_neg (by omega),if_neg (by omega),if_neg (by omega),if_neg (by omega),if_neg (by omega),if_neg (by omega)];rfl
 exact this _ hx
theorem awx (v:Bool)(r:Int)(T:List Int)(hc:Chr r):aaR v (aaO v (aat r)++T)=(0,aat r,(aaO v (aat r)).length):=by
 have hb:=acv hc;by_cases h:r < 128
 · rw[enc1 h];have e:aaO v [r]=agZ v r:=(by simp[aaO]);rw[e,← enc1 h];unfold agZ;by_cases a1:r=38
   · subst a1;simp only[if_pos];exact acZ v [97,109,112] T 38 (by decide) avY (by decide)
   by_cases a2:r=60
   · subst a2;exact acZ v [108,116] T 60 (by decide) a0Q (by decide)
   by_cases a3:r=62
   · subst a3;exact acZ v [103,116] T 62 (by decide) azv (by decide)
   by_cases a4:r=13
   · subst a4;exact acZ v [35,120,68] T 13 (by decide) ayw (by decide)
   rw[if_neg a1,if_neg a2,if_neg a3,if_neg a4]
   cases v with
   | false=>
     rw[if_neg (by simp),if_neg (by simp),if_neg (by simp)];have:=agz false r T hc a1 a4 (by simp);rw[enc1 h] at this ⊢;exact this
   | true=>
     by_cases a5:r=34
     · subst a5;exact acZ true [113,117,111,116] T 34 (by decide) aoK (by decide)
     by_cases a6:r=9
     · subst a6;exact acZ true [35,120,57] T 9 (by decide) aue (by decide)
     by_cases a7:r=10
     · subst a7;exact acZ true [35,120,65] T 10 (by decide) ayk (by decide)
     rw[if_neg (by simp[a5]),if_neg (by simp[a6]),if_neg (by simp[a7])];have:=agz true r T hc a1 a4 (fun _=>⟨a6,a7⟩);rw[enc1 h] at this ⊢;exact this
 · rw[ahB v r hb (by omega)];exact agz v r T hc (by omega) (by omega) (fun _=>by omega)
theorem ahC (v:Bool)(f:Int→List Int):∀ (l:List Int),(∀ r∈l,f r≠[]∧NN (f r)∧∀ T,aaR v (f r++T)=(0,aat r,(f r).length))→
 NN (l.flatMap f)∧aaY v (l.flatMap f)=(l.flatMap aat,(l.flatMap f).length,0)
 | [],_=>⟨fun x hx=>by simp at hx,rfl⟩
 | r :: l,h=>by
   obtain⟨h1,h2,h3⟩:=h r (by simp);obtain⟨i1,i2⟩:=ahC v f l fun x hx=>h x (by simp[hx])
   have hnn:NN (f r++l.flatMap f):=fun x hx=>by
    rcases List.mem_append.1 hx with hx | hx
    · exact h2 x hx
    · exact i1 x hx
   have hne:f r++l.flatMap f≠[]:=by
    intro e;exact h1 (List.append_eq_nil_iff.1 e).1
   rw[List.flatMap_cons];refine⟨hnn,?_⟩;have hs:=h3 (l.flatMap f);rw[aix v _ hne hnn (by rw[hs]),hs];simp only[List.drop_left];rw[i2];simp
theorem a2V (v:Bool)(l:List Int)(h:NN l):NN (aaO v l):=by
 intro x hx;unfold aaO at hx;obtain⟨b,hb,hx⟩:=List.mem_flatMap.1 hx;have:=h b hb;unfold agZ at hx
 repeat' split at hx
 all_goals simp at hx;omega
theorem a3k (v:Bool)(r:Int):aaO v (aat r)≠[]:=by
 intro e;unfold aaO at e;have hl:=(abT r).1
 cases hh:aat r with
 | nil=>rw[hh] at hl;simp at hl
 | cons x y=>
   rw[hh,List.flatMap_cons] at e;have:=(List.append_eq_nil_iff.1 e).1;unfold agZ at this
   repeat' split at this
   all_goals simp at this
theorem axj (v:Bool)(l:List Int)(hn:NN l)(h:Rt l):aaY v (aaO v l)=(l,(aaO v l).length,0):=by
 obtain⟨e,hc⟩:=adO hn h;have R:=(ahC v (fun r=>aaO v (aat r)) (acX l).1 fun r hr=>⟨a3k v r,a2V v _ (aef r (acv (hc r hr))).1,fun T=>awx v r T (hc r hr)⟩).2
 have e2:(acX l).1.flatMap (fun r=>aaO v (aat r))=aaO v l:=by
  conv=>rhs;rw[e]
  unfold aaO;rw[List.flatMap_assoc]
 rw[e2,← e] at R;exact R
end Go.Proofs.YtiaebhomfebagaaGreatDoor
