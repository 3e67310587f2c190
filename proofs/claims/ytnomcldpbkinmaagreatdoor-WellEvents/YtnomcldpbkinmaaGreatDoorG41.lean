/- Lemmas of the claim. -/
import Derived.Test.YtnomcldpbkinmaaGreatDoorG40
import Derived.Test.YtnomcldpbkinmaaGreatDoorG36
import Derived.Test.YtnomcldpbkinmaaGreatDoorG33
import Derived.Test.YtnomcldpbkinmaaGreatDoorG17
set_option maxHeartbeats 8000000
set_option maxRecDepth 100000
set_option linter.unusedSimpArgs false
set_option linter.unusedVariables false
namespace Go.Proofs.YtnomcldpbkinmaaGreatDoor
open Go.RowKit
theorem ayd (s:ByteArray)(a k:Nat)(hs:s.size≤10000)(ha:a≤s.size)(hk:k < 4)(b:Bool)(h:(aad (bgK k)).isPrefixOf ((aad s).drop a)=b):AtC s a (bgK k) b:=fun W=>
 agX s (bgK k) a W (by omega) (by have:=(arK k hk).2.2.1;omega) ha b h
theorem amF (k:Nat)(hk:k < 4)(t:ByteArray)(a:Nat)(ht:t.size≤10000):InC k t a (([aeA,acg,aee (decide (a=0)),akE].getD k aeA) (aad t)):=fun W=>by
 rcases(show k=0∨k=1∨k=2∨k=3 by omega) with rfl | rfl | rfl | rfl
 · exact ayy t a W ht
 · exact axw t a W ht
 · exact ayO t a W ht
 · exact azM t a W ht
theorem akb (l b r:List Int)(n:Nat)(hl:Bts l)(hb:b.isPrefixOf l=true)(hr:l.drop b.length=r)(hc:∀ c∈b,Chr c∧c < 128):aaz (l.take (b.length+n))=aaz (r.take n):=by
 obtain⟨t,rfl⟩:=List.isPrefixOf_iff_prefix.1 hb;rw[List.drop_left] at hr;subst hr;rw[List.take_length_add_append];refine aew b _ hc fun x hx=>(hl x ?_).1;exact List.mem_append_right _ (List.mem_of_mem_take hx)
theorem agl (s:ByteArray)(a m:Nat)(rd:List Int→Tk × Int)(st bg:List Int)(hs:s.size≤10000)(ha:a < s.size)(hm:m < 4)(hbg:aad (bgK m)=bg)(hst:aad (stK m)=st)(hc:∀ c∈bg,Chr c∧c < 128)
 (hrd:∀ t:ByteArray,t.size≤10000→InC m t a (rd (aad t))) (hp:bg.isPrefixOf ((aad s).drop a)=true):RM s a m (span bg.length st rd ((aad s).drop a)):=by
 have hz:(bgK m).size=bg.length:=(by rw[← hbg,aae]);have hz2:(stK m).size=st.length:=(by rw[← hst,aae]);have hl:=(List.isPrefixOf_iff_prefix.1 hp).length_le;rw[List.length_drop,aae] at hl;have hd:((aad s).drop a).drop bg.length=(aad s).drop (a+bg.length):=(by rw[List.drop_drop]);have C:=fun W=>acp s (stK m) (a+(bgK m).size) W (by omega) (by have:=(arK m hm).2.2.2;omega) (by omega);rw[hst] at C;unfold aez at C;unfold span;rw[hd];rw[hz] at C
 cases hf:fnd st ((aad s).drop (a+bg.length)) with
 | none=>
   rw[hf] at C;exact .cut (aac fun W=>by rw[hz];exact C W)
 | some n=>
   rw[hf] at C;have hb:=(abG hf).1;rw[List.length_drop,aae] at hb;have h1:a+(bgK m).size≤a+bg.length+n:=(by omega);have h2:a+bg.length+n+(stK m).size≤s.size:=(by omega);have C':FdC s (a+(bgK m).size) (stK m) ((a+bg.length+n:Nat):Int):=fun W=>by rw[hz];exact C W
   have hE:aad (s.extract a (a+bg.length+n+(stK m).size))=((aad s).drop a).take (bg.length+(n+st.length)):=by
    rw[afi,hz2,show a+bg.length+n+st.length - a=bg.length+(n+st.length) by omega]
   have hW:=akb ((aad s).drop a) bg ((aad s).drop (a+bg.length)) (n+st.length) ((acO s).drop a) hp hd hc
   have C2:WrC (s.extract a (a+bg.length+n+(stK m).size)) (aaz (((aad s).drop (a+bg.length)).take (n+st.length))):=fun W=>by
    have:=afy (s.extract a (a+bg.length+n+(stK m).size)) W (by rw[ByteArray.size_extract];omega);rw[hE,hW] at this;exact this
   have hI:aad (s.extract (a+(bgK m).size) (a+bg.length+n))=((aad s).drop (a+bg.length)).take n:=by
    rw[afi,hz,show a+bg.length+n - (a+bg.length)=n by omega]
   have C3:=hrd (s.extract (a+(bgK m).size) (a+bg.length+n)) (by rw[ByteArray.size_extract];omega);rw[hI] at C3;show RM s a m (fin bg.length n st.length rd ((aad s).drop (a+bg.length)));unfold fin;by_cases g1:aaz (((aad s).drop (a+bg.length)).take (n+st.length))≠0
   · rw[if_pos g1];exact .bad _ _ h1 h2 g1 (aac C') (aac C2)
   rw[if_neg g1];have g1':aaz (((aad s).drop (a+bg.length)).take (n+st.length))=0:=(by simpa using g1);rw[g1'] at C2;by_cases g2:(rd (((aad s).drop (a+bg.length)).take n)).2≠0
   · rw[if_pos g2];exact .err _ _ _ h1 h2 g2 (aac C') (aac C2) (aac C3)
   · rw[if_neg g2];have g2':(rd (((aad s).drop (a+bg.length)).take n)).2=0:=by simpa using g2
     have C3':InC m (s.extract (a+(bgK m).size) (a+bg.length+n)) a ((rd (((aad s).drop (a+bg.length)).take n)).1,0):=by
      rw[← g2'];exact C3
     have:=RM.ok (s:=s) (a:=a) (m:=m) _ _ h1 h2 (aac C') (aac C2) (aac C3');rw[show a+bg.length+n+(stK m).size - a=bg.length+(n+st.length) by omega] at this;exact this
theorem alE (t:ByteArray)(ht:t.size≤10000):(60∈aad t∧∃ y,0≤y∧FdC t 0 ⟨#[60]⟩ y)∨(60 ∉ aad t∧FdC t 0 ⟨#[60]⟩ (-1)):=by
 have C:=fun W=>acp t ⟨#[60]⟩ 0 W (by omega) (by decide) (Nat.zero_le _);have hq:aad ⟨#[60]⟩=[60]:=rfl;rw[hq] at C;unfold aez at C;rw[List.drop_zero] at C;have hm:=akK 60 (aad t)
 cases hf:fnd [60] (aad t) with
 | some n=>
   rw[hf] at C hm;exact .inl ⟨hm.1 rfl,_,by show (0:Int)≤((0+n:Nat):Int);omega,C⟩
 | none=>
   rw[hf] at C hm;exact .inr ⟨fun h=>absurd (hm.2 h) (by simp),C⟩
theorem asW (s:ByteArray)(a t:Nat)(hs:s.size≤10000)(h1:a+1≤t)(h2:t < s.size)(h6:(aad s).getD a 0=60)(hu:unq 0 ((aad s).drop (a+1))=some (t - (a+1))):SE s a t (aeX ((aad s).drop a)):=by
 have hd:((aad s).drop a).drop 1=(aad s).drop (a+1):=(by rw[List.drop_drop]);have hh:((aad s).drop a).getD 0 0=60:=by rw[getD_drop];exact h6
 unfold aeX;rw[hd,hu];have hW:aaz (((aad s).drop a).take (1+(t - (a+1)+1)))=_:=akb ((aad s).drop a) [60] ((aad s).drop (a+1)) (t - (a+1)+1) ((acO s).drop a) (ajl hh) hd (by decide)
 have hE:aad (s.extract a (t+1))=((aad s).drop a).take (1+(t - (a+1)+1)):=by
  rw[afi]
  congr 1
  omega
 have C2:WrC (s.extract a (t+1)) (aaz (((aad s).drop (a+1)).take (t - (a+1)+1))):=fun W=>by
  have:=afy (s.extract a (t+1)) W (by rw[ByteArray.size_extract];omega);rw[hE,hW] at this;exact this
 have hI:aad (s.extract (a+1) t)=((aad s).drop (a+1)).take (t - (a+1)):=afi s (a+1) t;show SE s a t (fin 1 (t - (a+1)) 1 abZ ((aad s).drop (a+1)));unfold fin;by_cases g1:aaz (((aad s).drop (a+1)).take (t - (a+1)+1))≠0
 · rw[if_pos g1];exact .bad _ g1 (aac C2)
 rw[if_neg g1];have g1':aaz (((aad s).drop (a+1)).take (t - (a+1)+1))=0:=(by simpa using g1);rw[g1'] at C2;have hlen:1+(t - (a+1)+1)=t+1 - a:=(by omega);rw[← aoy,← hI,hlen];have hsz:(s.extract (a+1) t).size=t - (a+1):=by rw[ByteArray.size_extract];omega
 have key:∀ y,ady (aad (s.extract (a+1) t))=y→SE s a t (if y.2≠0 then (T0,0,y.2) else (y.1,t+1 - a,0))→SE s a t (if (ady (aad (s.extract (a+1) t))).2≠0 then (T0,0,(ady (aad (s.extract (a+1) t))).2) else ((ady (aad (s.extract (a+1) t))).1,t+1 - a,0)):=fun y h k=>by rw[h];exact k
 by_cases g2:a+1 < t
 · have hlast:(aad (s.extract (a+1) t)).getLast?=some ((aad s).getD (t - 1) 0):=by
    rw[ane _ (by rw[aae,hsz];omega),aae,hsz,hI,List.getD_eq_getElem?_getD,List.getElem?_take,if_pos (by omega),List.getElem?_drop,← List.getD_eq_getElem?_getD,show a+1+(t - (a+1) - 1)=t - 1 by omega]
   by_cases g3:(aad s).getD (t - 1) 0=47
   · have hD:aad (s.extract (a+1) (t - 1))=(aad (s.extract (a+1) t)).dropLast:=by
      rw[List.dropLast_eq_take,aae,hsz,hI,List.take_take,afi]
      congr 1
      omega
     have e0:ady (aad (s.extract (a+1) t))=if (60:Int)∈aad (s.extract (a+1) (t - 1)) then (T0,6) else (⟨1,aad (s.extract (a+1) (t - 1)),true,false⟩,0):=by
      unfold ady;rw[if_pos (by rw[hlast,g3]),hD]
     rcases alE (s.extract (a+1) (t - 1)) (by rw[ByteArray.size_extract];omega) with ⟨g4,y,hy,C⟩ | ⟨g4,C⟩
     · rw[if_pos g4] at e0;exact key _ e0 (.emp g2 g3 (aac C2) y hy (aac C))
     · rw[if_neg g4] at e0;exact key _ e0 (.empok g2 g3 (aac C2) (aac C) _ (aaJ rfl))
   · have e0:ady (aad (s.extract (a+1) t))=if (60:Int)∈aad (s.extract (a+1) t) then (T0,6) else (⟨1,aad (s.extract (a+1) t),false,false⟩,0):=by
      unfold ady;rw[if_neg (show ¬ (aad (s.extract (a+1) t)).getLast?=some 47 from by rw[hlast];intro h;exact g3 (Option.some.inj h))]
     rcases alE (s.extract (a+1) t) (by omega) with ⟨g4,y,hy,C⟩ | ⟨g4,C⟩
     · rw[if_pos g4] at e0;exact key _ e0 (.two g2 g3 (aac C2) y hy (aac C))
     · rw[if_neg g4] at e0;exact key _ e0 (.twook g2 g3 (aac C2) (aac C) _ (aaJ rfl))
 · have g3:a+1=t:=(by omega);have hn:aad (s.extract (a+1) t)=[]:=List.eq_nil_of_length_eq_zero (by rw[aae,hsz];omega)
   have e0:ady (aad (s.extract (a+1) t))=if (60:Int)∈aad (s.extract (a+1) t) then (T0,6) else (⟨1,aad (s.extract (a+1) t),false,false⟩,0):=by
    unfold ady;rw[if_neg (show ¬ (aad (s.extract (a+1) t)).getLast?=some 47 from by rw[hn];simp)]
   rcases alE (s.extract (a+1) t) (by omega) with ⟨g4,y,hy,C⟩ | ⟨g4,C⟩
   · rw[if_pos g4] at e0;exact key _ e0 (.one g3 (aac C2) y hy (aac C))
   · rw[if_neg g4] at e0;exact key _ e0 (.oneok g3 (aac C2) (aac C) _ (aaJ rfl))
theorem akS (s:ByteArray)(a:Nat)(more:Bool)(w:World)(hs:s.size≤10000)(ha:a < s.size)(h6:(aad s).getD a 0=60):
 Calls Tryz.prog 23 #[.string s,.int .i64 (a:Int),.bool more] w (abh (ahC (decide (a=0)) ((aad s).drop a)) a w):=by
 have hh:((aad s).drop a).getD 0 0=60:=by rw[getD_drop];exact h6
 have at_:∀ k,k < 4→∀ b,(aad (bgK k)).isPrefixOf ((aad s).drop a)=b→AtC s a (bgK k) b:=fun k hk b h=>ayd s a k hs (by omega) hk b h;unfold ahC
 cases p0:aaF.isPrefixOf ((aad s).drop a) with
 | true=>
   rw[if_pos rfl]
   exact aeP s a 0 more _ w hs ha h6 (by omega) (aac fun j hj=>by omega) (aac (at_ 0 (by omega) _ p0))
    (agl s a 0 aeA adJ aaF hs ha (by omega) rfl rfl (by decide) (fun t ht=>amF 0 (by omega) t a ht) p0)
 | false=>
 rw[if_neg (by simp)]
 cases p1:abB.isPrefixOf ((aad s).drop a) with
 | true=>
   rw[if_pos rfl]
   exact aeP s a 1 more _ w hs ha h6 (by omega) (aac fun j hj=>by
    obtain rfl:j=0:=(by omega);exact at_ 0 (by omega) _ p0) (aac (at_ 1 (by omega) _ p1))
    (agl s a 1 acg apt abB hs ha (by omega) rfl rfl (by decide) (fun t ht=>amF 1 (by omega) t a ht) p1)
 | false=>
 rw[if_neg (by simp)]
 cases p2:acT.isPrefixOf ((aad s).drop a) with
 | true=>
   rw[if_pos rfl]
   exact aeP s a 2 more _ w hs ha h6 (by omega) (aac fun j hj=>by
    rcases(show j=0∨j=1 by omega) with rfl | rfl
    · exact at_ 0 (by omega) _ p0
    · exact at_ 1 (by omega) _ p1) (aac (at_ 2 (by omega) _ p2))
    (agl s a 2 (aee (decide (a=0))) aqZ acT hs ha (by omega) rfl rfl (by decide) (fun t ht=>amF 2 (by omega) t a ht) p2)
 | false=>
 rw[if_neg (by simp)]
 cases p3:ajs.isPrefixOf ((aad s).drop a) with
 | true=>
   rw[if_pos rfl]
   exact aeP s a 3 more _ w hs ha h6 (by omega) (aac fun j hj=>by
    rcases(show j=0∨j=1∨j=2 by omega) with rfl | rfl | rfl
    · exact at_ 0 (by omega) _ p0
    · exact at_ 1 (by omega) _ p1
    · exact at_ 2 (by omega) _ p2) (aac (at_ 3 (by omega) _ p3))
    (agl s a 3 akE a1g ajs hs ha (by omega) rfl rfl (by decide) (fun t ht=>amF 3 (by omega) t a ht) p3)
 | false=>
 rw[if_neg (by simp)]
 have HN:Hid (∀ j,j < 4→AtC s a (bgK j) false):=aac fun j hj=>by
  rcases(show j=0∨j=1∨j=2∨j=3 by omega) with rfl | rfl | rfl | rfl
  · exact at_ 0 (by omega) _ p0
  · exact at_ 1 (by omega) _ p1
  · exact at_ 2 (by omega) _ p2
  · exact at_ 3 (by omega) _ p3
 have C1:AtC s a ⟨#[60,33]⟩ (acu.isPrefixOf ((aad s).drop a)):=fun W=>agX s ⟨#[60,33]⟩ a W (by omega) (by decide) (by omega) _ rfl
 cases p4:acu.isPrefixOf ((aad s).drop a) with
 | true=>
   rw[p4] at C1;rw[if_pos rfl];have C2:AtC s a ⟨#[60,33,68,79,67,84,89,80,69]⟩ (aei.isPrefixOf ((aad s).drop a)):=fun W=>agX s ⟨#[60,33,68,79,67,84,89,80,69]⟩ a W (by omega) (by decide) (by omega) _ rfl
   cases p5:aei.isPrefixOf ((aad s).drop a) with
   | true=>
     rw[p5] at C2;rw[if_pos rfl];exact apF s a more w hs ha h6 HN (aac C1) (aac C2)
   | false=>
     rw[p5] at C2;rw[if_neg (by simp)];have hX:aad (s.extract a s.size)=(aad s).drop a:=(by rw[aal,List.take_of_length_le (by rw[aae];omega)]);have hXs:(s.extract a s.size).size≤1000000:=by rw[ByteArray.size_extract];omega
     have D:∀ t:ByteArray,t.size≤10000→∀ b,((aad s).drop a).isPrefixOf (aad t)=b→AtC t 0 (s.extract a s.size) b:=fun t ht b hb W=>agX t (s.extract a s.size) 0 W (by omega) hXs (Nat.zero_le _) b (by rw[hX,List.drop_zero];exact hb)
     cases r0:((aad s).drop a).isPrefixOf aaF with
     | true=>
       rw[if_pos (.inl rfl)];exact awS s a more w hs ha h6 HN (aac C1) (aac C2) (aac (D _ (by decide) _ r0))
     | false=>
       cases r1:((aad s).drop a).isPrefixOf abB with
       | true=>
         rw[if_pos (.inr (.inl rfl))];exact axn s a more w hs ha h6 HN (aac C1) (aac C2) (aac (D _ (by decide) _ r0)) (aac (D _ (by decide) _ r1))
       | false=>
         cases r2:((aad s).drop a).isPrefixOf aei with
         | true=>
           rw[if_pos (.inr (.inr rfl))];exact ayX s a more w hs ha h6 HN (aac C1) (aac C2) (aac (D _ (by decide) _ r0)) (aac (D _ (by decide) _ r1)) (aac (D _ (by decide) _ r2))
         | false=>
           rw[if_neg (by rintro (h | h | h) <;> simp at h)];exact azm s a more w hs ha h6 HN (aac C1) (aac C2) (aac (D _ (by decide) _ r0)) (aac (D _ (by decide) _ r1)) (aac (D _ (by decide) _ r2))
 | false=>
   rw[p4] at C1;rw[if_neg (by simp)];refine apK s a more w hs ha h6 HN _ (aac C1) (aac fun h=> ?_) (aac fun t h1 h2 h3=>asW s a t hs h1 h2 h6 h3);unfold aeX;rw[List.drop_drop,h]
theorem apk (s:ByteArray)(a:Nat)(more:Bool)(w:World)(hs:s.size≤10000)(ha:a≤s.size):
 Calls Tryz.prog 23 #[.string s,.int .i64 (a:Int),.bool more] w (abh (abm (decide (a=0)) more ((aad s).drop a)) a w):=by
 unfold abm;by_cases h0:a=s.size
 · have hn:(aad s).drop a=[]:=List.drop_of_length_le (by rw[aae];omega);rw[if_pos hn];exact a1o s a more w h0
 · have hlt:a < s.size:=(by omega);have hn:(aad s).drop a≠[]:=acE s a hlt;rw[if_neg hn];have hg:((aad s).drop a).getD 0 0=(aad s).getD a 0:=by rw[getD_drop];rfl
   rw[hg];by_cases h6:(aad s).getD a 0=60
   · rw[if_pos h6];exact akS s a more w hs hlt h6
   · rw[if_neg h6];exact aoj s a more w hs hlt h6
end Go.Proofs.YtnomcldpbkinmaaGreatDoor
namespace Go.Proofs.YtnomcldpbkinmaaGreatDoor.Wl
open Go.RowKit
structure REW (w:World)(v vn vs:Value)(zs:List Value)(st:St)(out:List Ev)(a:Nat)(W:World):Prop where
 box:W.heap[w.heap.size]?=some (.cells (stC vn vs st) 38 (0,0))
 dw:DW w.heap.size vn vs zs st W
 ev:aax W w.heap.size v out
 bel:Below w.heap.size w W
 gd:Gd st
 wt:st.wait.size≤10000 * a
 jn:Jn st out
 len:out.length≤3 * a
 er0:st.err=0
theorem REW.after {w W W':World}{a:Nat}{v vn vs:Value}{zs:List Value}{st:St}{out:List Ev}(h:REW w v vn vs zs st out a W)(hb:Below W.heap.size W W'):REW w v vn vs zs st out a W':=
 ⟨(hb.block _ (Array.getElem?_eq_some_iff.1 h.box).1).trans h.box,h.dw.keep hb,h.ev.keep hb,h.bel.trans (hb.mono h.bel.size),h.gd,h.wt,h.jn,h.len,h.er0⟩
theorem REW.cs {w W:World}{a:Nat}{v vn vs:Value}{zs:List Value}{st:St}{out:List Ev}(h:REW w v vn vs zs st out a W):W.cell? ⟨w.heap.size,0,none⟩=some vn∧W.cell? ⟨w.heap.size,1,none⟩=some vs∧W.cell? ⟨w.heap.size,2,none⟩=some (.bool st.root)∧W.cell? ⟨w.heap.size,3,none⟩=some (.string st.wait)∧W.cell? ⟨w.heap.size,4,none⟩=some (.bool st.over)∧W.cell? ⟨w.heap.size,5,none⟩=some (.int .i64 st.err):=
 ⟨Nz.Sc.aaf h.box 0 rfl,Nz.Sc.aaf h.box 1 rfl,Nz.Sc.aaf h.box 2 rfl,Nz.Sc.aaf h.box 3 rfl,Nz.Sc.aaf h.box 4 rfl,Nz.Sc.aaf h.box 5 rfl⟩
structure RBX (w:World)(v:Value)(l:List Ev)(vn vs:Value)(zs:List Value)(st:St)(tb:Nat)(tg:Array Value)(W:World):Prop where
 box:W.heap[w.heap.size]?=some (.cells (stC vn vs st) 38 (0,0))
 dw:DW w.heap.size vn vs zs st W
 ev:aax W w.heap.size v l
 bel:Below w.heap.size w W
 tok:W.heap[tb]?=some (.cells tg 42 (0,0))
theorem amR {w w2:World}{v vo:Value}{l:List Ev}{A1 A2:Option Addr}{n1 c1 n2 c2 tb:Nat}{tg:Array Value}{zs:List Value}{so st:St}{zo:Value}(hbox:w2.heap[w.heap.size]?=some (.cells (stC vo zo so) 38 (0,0)))(hd:DW w.heap.size (.slice A1 n1 c1) (.slice A2 n2 c2) zs st w2)(he:aax w2 w.heap.size v l)(hb:Below w.heap.size w w2)(ht:w2.heap[tb]?=some (.cells tg 42 (0,0))):
 RBX w v l (.slice A1 n1 c1) (.slice A2 n2 c2) zs st tb tg (aeg w2 w.heap.size (.slice A1 n1 c1) (.slice A2 n2 c2) (.bool st.root) (.string st.wait) (.bool st.over) (.int .i64 st.err)):=by
 have g6:=awE w2 w.heap.size (.slice A1 n1 c1) (.slice A2 n2 c2) (.bool st.root) (.string st.wait) (.bool st.over) (.int .i64 st.err)
 have hne:tb≠w.heap.size:=by
  rintro rfl;rw[hbox] at ht;injection ht with ht
  injection ht with _ q _
  exact absurd q (by decide)
 exact⟨akG hbox _ _ _ _ _ _,hd.only (row:=none) g6 hbox (by decide) (by decide) (by decide),he.only g6 hbox (by decide) (by decide),akB hb (Nat.le_refl _) _ _ _ _ _ _,(g6.block tb (Array.getElem?_eq_some_iff.1 ht).1 (fun e=>hne (by first | exact Option.some.inj e | exact(Option.some.inj e).symm))).trans ht⟩
theorem RBX.grown {w W W':World}{v:Value}{l l':List Ev}{vn vs v' v0:Value}{zs:List Value}{st:St}{tb n:Nat}{tg:Array Value}{xs:List Value}(h:RBX w v l vn vs zs st tb tg W)(ho:W.ownsRow w.heap.size 50 5 v0 n xs)(hg:W.grownBy W' v0.ownBlock)(he:aax W' w.heap.size v' l'):RBX w v' l' vn vs zs st tb tg W':=
 ⟨(hg.block _ (Array.getElem?_eq_some_iff.1 h.box).1 (fun e=>Nz.Sc.own_ne ho h.box (by decide) e.symm)).trans h.box,h.dw.grown ho hg,he,h.bel.grown hg h.bel.size (fun j hj=>(World.ownsRow.lt ho j hj).1),(hg.block _ (Array.getElem?_eq_some_iff.1 h.tok).1 (fun e=>Nz.Sc.own_ne ho h.tok (by decide) e.symm)).trans h.tok⟩
def a0K (s:ByteArray)(w:World)(v i:Value)(wr:World):Prop:=
 ∃ (a:Nat) (st:St) (out:List Ev) (vn vs:Value) (zs:List Value),a≤s.size∧i=.int .i64 a∧Hid (REW w v vn vs zs st out a wr)∧Hid (evF (aad s)=evR (aad s) a st out)
theorem ahn (s:ByteArray)(w:World)(hs:s.size≤5000):Calls Tryz.prog 11 #[.string s] w (afb (evF (aad s)) w):=by
 obtain⟨i0,hi,hz0,hz1,hz2⟩:=info_parts Tryz.info50;have HC:Hid (∀ (a:Nat) W,a≤s.size→Calls Tryz.prog 23 #[.string s,.int .i64 (a:Int),.bool false] W (abh (nx (aad s) a) a W)):=aac fun a W ha=>apk s a false W (by omega) ha;have HE0:Hid (REW w (.slice none 0 0) (.slice none 0 0) (.slice none 0 0) [] st0 [] 0 (w.alloc (.cells #[.slice none 0 0,.slice none 0 0,.bool false,.string ⟨#[]⟩,.bool false,.int .i64 0] 38))):=aac ⟨Nz.Sc.abM w 38 _,dw0 _ _,aax.nil _ _,(Below.refl _ w).alloc (Nat.le_refl _) _,gd0,Nat.zero_le _,jn0,Nat.zero_le _,rfl⟩;go_enter Tryz.func11,Tryz.ntmps11;go_wp2_with fail;go_loopw [5,7] (fun v i wr=>a0K s w v i wr) (fun _ i _=>s.size - (intOf i).toNat);case atStart=>exact⟨0,st0,[],_,_,[],Nat.zero_le _,rfl,HE0,aac rfl⟩
 case round=>
  obtain⟨a,st,out,vn,vs,zs,ha,rfl,hE,hA⟩:=hrel;have C:=aac (HC.out a wr ha);have hal:a≤(aad s).length:=by rw[aae];exact ha
  obtain⟨Av,cv,hv⟩:=hE.out.ev.slc;subst hv;obtain⟨A1,c1,hv⟩:=hE.out.dw.sn;subst hv;obtain⟨A2,c2,hv⟩:=hE.out.dw.ss;subst hv;by_cases he:(nx (aad s) a).2.2=0
  · have hT:=apY (aad s) a (acS s);rw[aae] at hT;have hKd:=apQ (aad s) a he;have hFt:=fun h=>(ajE (aad s) a h).size he;have G1:=arQ (L:=aad s) (s:=st) out hal he;have G2:=fun h=>alq (L:=aad s) (a:=a) (s:=st) out h he;have G3:=fun h=>ayG (L:=aad s) (a:=a) (s:=st) out h he;obtain⟨⟨kd,tx,em,bk⟩,n,er,hx⟩:∃ y n er,nx (aad s) a=(y,n,er):=⟨_,_,_,rfl⟩;rw[hx] at C hT hKd hFt G1 G2 G3 he;dsimp only at C hT hKd hFt G1 G2 G3 he;subst he;unfold afo at G1 G2 G3;dsimp only at G1 G2 G3;rw[List.length_drop,aae] at hFt;rw[aae] at hKd G2 G3;have hsz:(strOfNums tx).size≤10000:=by rw[aci];omega
    have hJ:=arJ (t:=⟨kd,strOfNums tx,em,bk⟩) hE.out.jn;have hGd:=akI hE.out.gd ⟨kd,strOfNums tx,em,bk⟩ hsz;have hWt:=agJ (s:=st) ⟨kd,strOfNums tx,em,bk⟩;have hLn:=take_len (s:=st) ⟨kd,strOfNums tx,em,bk⟩;have hw0:=hE.out.wt;have hl0:=hE.out.len;dsimp only at hJ hWt;have CT:Hid (∀ W,REW w (.slice Av out.length cv) (.slice A1 st.op.length c1) (.slice A2 st.op.length c2) zs st out a W→Calls Tryz.prog 16 #[.agg #[.slice A1 st.op.length c1,.slice A2 st.op.length c2,.bool st.root,.string st.wait,.bool st.over,.int .i64 st.err],.agg #[.int .i64 kd,.string (strOfNums tx),.bool em,.bool bk]] W (auH w.heap.size (aaP st ⟨kd,strOfNums tx,em,bk⟩) W)):=aac fun W hW=>ajw hW.dw hW.bel.size kd _ em bk hsz hW.gd (fun _=>hW.er0) hW.jn.rt (by omega);have HJ:=aac hJ;have HGd:=aac hGd;have HG1:=aac G1;have HG2:=aac G2;have HG3:=aac G3;clear hJ hGd G1 G2 G3 hx HC HE0
    revert C
    unfold abh tkV;dsimp only;intro C;generalize strOfNums tx=str at *;generalize aaP st ⟨kd,str,em,bk⟩=x at *;obtain⟨st2,ev2,e2⟩:=x;dsimp only at HJ HGd HG1 HG2 HG3 hWt hLn CT;by_cases he2:e2=0
    · subst he2;have HJ:=aac (HJ.out rfl);by_cases hend:a=s.size
      · skip
        have HA2:Hid (evF (aad s)=(out++ev2,a,0)):=aac (hA.out.trans (HG2.out hend rfl));have hk6:(kd == 6)=true:=beq_iff_eq.2 (hKd.2 (by omega));clear HG1 HG2 HG3 HJ hA hFt hKd hend;go_wp2_with fail;refine C.out.mono ?_;rintro e w1 ⟨rfl,hb1⟩;have HE2:=aac ((hE.out.after hb1).after ((Below.refl _ w1).alloc (Nat.le_refl _) (.cells #[.int .i64 kd,.string str,.bool em,.bool bk] 42)));have HT2:Hid ((w1.alloc (.cells #[.int .i64 kd,.string str,.bool em,.bool bk] 42)).heap[w1.heap.size]?=some (.cells #[.int .i64 kd,.string str,.bool em,.bool bk] 42 (0,0))):=aac (Nz.Sc.abM w1 42 _);obtain⟨b0,b1,b2,b3,b4,b5⟩:=HE2.out.cs;clear hb1 hE C;go_wp2_with fail;refine(CT.out _ HE2.out).mono ?_;rintro e w2 ⟨vn2,vs2,zs2,v2,rfl,x2,x3,x4⟩;have HE3:=aac (HE2.out.after x4);have HT3:=aac ((x4.block _ (Array.getElem?_eq_some_iff.1 HT2.out).1).trans HT2.out);have hmz:=HE2.out.bel.size;obtain⟨B1,d1,hv⟩:=x3.sn;subst hv;obtain⟨B2,d2,hv⟩:=x3.ss;subst hv;unfold stC;dsimp only;clear x4 HE2 HT2 CT b0 b1 b2 b3 b4 b5;have bz:=(Below.refl _ w2).alloc (Nat.le_refl _) (.cells #[.slice B1 st2.op.length d1,.slice B2 st2.op.length d2,.bool st2.root,.string st2.wait,.bool st2.over,.int .i64 st2.err] 38);have X4:=aac (HE3.out.after bz);have D4:=aac (x3.keep bz);have V4f:=aac ((x2.mono hmz).keep bz);have T4:=aac ((bz.block _ (Array.getElem?_eq_some_iff.1 HT3.out).1).trans HT3.out);have N4:=aac (Nz.Sc.abM w2 38 #[.slice B1 st2.op.length d1,.slice B2 st2.op.length d2,.bool st2.root,.string st2.wait,.bool st2.over,.int .i64 st2.err]);obtain⟨A9,c9,hv⟩:=x2.slc;subst hv;clear x2 x3 HE3 HT3 bz;go_upto_region 10 with fail;generalize w2.alloc (.cells #[.slice B1 st2.op.length d1,.slice B2 st2.op.length d2,.bool st2.root,.string st2.wait,.bool st2.over,.int .i64 st2.err] 38)=V4 at *;obtain⟨f0,f1,f2,f3,f4,f5⟩:=Nz.Sc.adi X4.out.box;obtain⟨g0,g1,g2,g3,g4,g5⟩:=X4.out.cs;obtain⟨e0,e1,e2,e3,e4,e5⟩:=Nz.Sc.cells6 N4.out;go_upto_region 11 with fail;have X5:Hid (RBX w (.slice Av out.length cv) out (.slice B1 st2.op.length d1) (.slice B2 st2.op.length d2) zs2 st2 w1.heap.size #[.int .i64 kd,.string str,.bool em,.bool bk] ((((((V4.setCell ⟨w.heap.size,0,none⟩ (.slice B1 st2.op.length d1)).setCell ⟨w.heap.size,1,none⟩ (.slice B2 st2.op.length d2)).setCell ⟨w.heap.size,2,none⟩ (.bool st2.root)).setCell ⟨w.heap.size,3,none⟩ (.string st2.wait)).setCell ⟨w.heap.size,4,none⟩ (.bool st2.over)).setCell ⟨w.heap.size,5,none⟩ (.int .i64 st2.err))):=aac (amR X4.out.box D4.out X4.out.ev X4.out.bel T4.out);have V5:Hid (aax ((((((V4.setCell ⟨w.heap.size,0,none⟩ (.slice B1 st2.op.length d1)).setCell ⟨w.heap.size,1,none⟩ (.slice B2 st2.op.length d2)).setCell ⟨w.heap.size,2,none⟩ (.bool st2.root)).setCell ⟨w.heap.size,3,none⟩ (.string st2.wait)).setCell ⟨w.heap.size,4,none⟩ (.bool st2.over)).setCell ⟨w.heap.size,5,none⟩ (.int .i64 st2.err)) w.heap.size (.slice A9 ev2.length c9) ev2):=aac (V4f.out.only (awE V4 w.heap.size (.slice B1 st2.op.length d1) (.slice B2 st2.op.length d2) (.bool st2.root) (.string st2.wait) (.bool st2.over) (.int .i64 st2.err)) X4.out.box (by decide) (by decide));generalize (((((V4.setCell ⟨w.heap.size,0,none⟩ (.slice B1 st2.op.length d1)).setCell ⟨w.heap.size,1,none⟩ (.slice B2 st2.op.length d2)).setCell ⟨w.heap.size,2,none⟩ (.bool st2.root)).setCell ⟨w.heap.size,3,none⟩ (.string st2.wait)).setCell ⟨w.heap.size,4,none⟩ (.bool st2.over)).setCell ⟨w.heap.size,5,none⟩ (.int .i64 st2.err)=W5 at *;obtain⟨xs,a1,a2,a3⟩:=X5.out.ev;obtain⟨ys,y1,y2,y3⟩:=V5.out;have hyl9:ev2.length=ys.length:=(by rw[← y1,List.length_map]);have y2':=y2;rw[hyl9] at y2';obtain⟨sn,sc⟩:=acR y2';have hxl:out.length=xs.length:=(by rw[← a1,List.length_map]);have hyl:ys.length≤3:=by rw[← hyl9];exact hLn
        have hx3:xs.length≤15000:=(by omega);have hzz:=X5.out.bel.size;have hYl:=ajj ys;have hY1:=ail y3;have HA1:=aac a1;have HA3:=aac a3;have HY1:=aac y1;have HY3:=aac y3;rw[hxl] at a2 ⊢;rw[hyl9];have HXL:=aac hxl;clear a1 a3 y1 y2 y2' y3 hxl g0 g1 g2 g3 g4 g5 f0 f1 f2 f3 f4 f5 e0 e1 e2 e3 e4 e5 X4 D4 V4f T4 N4 V5;go_wp2_with (at_builtin;refine aaB (w:=W5) rfl _ _ 23 rfl w.heap.size 50 i0 (.agg #[.int .i64 0,.string ⟨#[]⟩,.string ⟨#[]⟩,.slice none 0 0,.string ⟨#[]⟩]) 5 80 Tryz.underlying23 hi hz0 hz1 hz2 rfl (by decide) _ xs.length (evL xs) rfl a2 A9 ys.length c9 (evL ys) rfl sn hYl sc hY1 (by unfold maxLen;omega) (by omega) hzz ?_);intro v3 w3 n1 n2;obtain⟨A3,c3,rfl⟩:=Nz.Sc.aah n1;have X6:=aac (X5.out.grown a2 n2 (amY HA1.out HY1.out a2 HA3.out HY3.out n2 n1));have tk:=Nz.Sc.aaf X6.out.tok 0 (u:=.int .i64 kd) rfl;clear n1 n2 a2 sn sc hYl hY1 HA1 HA3 HY1 HY3 X5 hzz;go_wp2;go_ret3;exact aoO HA2.out ⟨_,rfl,X6.out.ev,X6.out.bel⟩
      · skip
        have hlt:a < s.size:=(by omega);have hF:=hFt hlt;have HA2:Hid (evF (aad s)=evR (aad s) (a+n) st2 (out++ev2)):=aac (hA.out.trans (HG3.out hlt rfl));have hk6:(kd == 6)=false:=beq_eq_false_iff_ne.2 hF.2.2.1;have HJn:=aac HJ.out.1;have HEr:=aac HJ.out.2.2.1;have hF1:=hF.1;have hF2:=hF.2.1;clear HG1 HG2 HG3 HJ hA hFt hKd hF hend;go_wp2_with fail;refine C.out.mono ?_;rintro e w1 ⟨rfl,hb1⟩;have HE2:=aac ((hE.out.after hb1).after ((Below.refl _ w1).alloc (Nat.le_refl _) (.cells #[.int .i64 kd,.string str,.bool em,.bool bk] 42)));have HT2:Hid ((w1.alloc (.cells #[.int .i64 kd,.string str,.bool em,.bool bk] 42)).heap[w1.heap.size]?=some (.cells #[.int .i64 kd,.string str,.bool em,.bool bk] 42 (0,0))):=aac (Nz.Sc.abM w1 42 _);obtain⟨b0,b1,b2,b3,b4,b5⟩:=HE2.out.cs;clear hb1 hE C;go_wp2_with fail;refine(CT.out _ HE2.out).mono ?_;rintro e w2 ⟨vn2,vs2,zs2,v2,rfl,x2,x3,x4⟩;have HE3:=aac (HE2.out.after x4);have HT3:=aac ((x4.block _ (Array.getElem?_eq_some_iff.1 HT2.out).1).trans HT2.out);have hmz:=HE2.out.bel.size;obtain⟨B1,d1,hv⟩:=x3.sn;subst hv;obtain⟨B2,d2,hv⟩:=x3.ss;subst hv;unfold stC;dsimp only;clear x4 HE2 HT2 CT b0 b1 b2 b3 b4 b5;have bz:=(Below.refl _ w2).alloc (Nat.le_refl _) (.cells #[.slice B1 st2.op.length d1,.slice B2 st2.op.length d2,.bool st2.root,.string st2.wait,.bool st2.over,.int .i64 st2.err] 38);have X4:=aac (HE3.out.after bz);have D4:=aac (x3.keep bz);have V4f:=aac ((x2.mono hmz).keep bz);have T4:=aac ((bz.block _ (Array.getElem?_eq_some_iff.1 HT3.out).1).trans HT3.out);have N4:=aac (Nz.Sc.abM w2 38 #[.slice B1 st2.op.length d1,.slice B2 st2.op.length d2,.bool st2.root,.string st2.wait,.bool st2.over,.int .i64 st2.err]);obtain⟨A9,c9,hv⟩:=x2.slc;subst hv;clear x2 x3 HE3 HT3 bz;go_upto_region 10 with fail;generalize w2.alloc (.cells #[.slice B1 st2.op.length d1,.slice B2 st2.op.length d2,.bool st2.root,.string st2.wait,.bool st2.over,.int .i64 st2.err] 38)=V4 at *;obtain⟨f0,f1,f2,f3,f4,f5⟩:=Nz.Sc.adi X4.out.box;obtain⟨g0,g1,g2,g3,g4,g5⟩:=X4.out.cs;obtain⟨e0,e1,e2,e3,e4,e5⟩:=Nz.Sc.cells6 N4.out;go_upto_region 11 with fail;have X5:Hid (RBX w (.slice Av out.length cv) out (.slice B1 st2.op.length d1) (.slice B2 st2.op.length d2) zs2 st2 w1.heap.size #[.int .i64 kd,.string str,.bool em,.bool bk] ((((((V4.setCell ⟨w.heap.size,0,none⟩ (.slice B1 st2.op.length d1)).setCell ⟨w.heap.size,1,none⟩ (.slice B2 st2.op.length d2)).setCell ⟨w.heap.size,2,none⟩ (.bool st2.root)).setCell ⟨w.heap.size,3,none⟩ (.string st2.wait)).setCell ⟨w.heap.size,4,none⟩ (.bool st2.over)).setCell ⟨w.heap.size,5,none⟩ (.int .i64 st2.err))):=aac (amR X4.out.box D4.out X4.out.ev X4.out.bel T4.out);have V5:Hid (aax ((((((V4.setCell ⟨w.heap.size,0,none⟩ (.slice B1 st2.op.length d1)).setCell ⟨w.heap.size,1,none⟩ (.slice B2 st2.op.length d2)).setCell ⟨w.heap.size,2,none⟩ (.bool st2.root)).setCell ⟨w.heap.size,3,none⟩ (.string st2.wait)).setCell ⟨w.heap.size,4,none⟩ (.bool st2.over)).setCell ⟨w.heap.size,5,none⟩ (.int .i64 st2.err)) w.heap.size (.slice A9 ev2.length c9) ev2):=aac (V4f.out.only (awE V4 w.heap.size (.slice B1 st2.op.length d1) (.slice B2 st2.op.length d2) (.bool st2.root) (.string st2.wait) (.bool st2.over) (.int .i64 st2.err)) X4.out.box (by decide) (by decide));generalize (((((V4.setCell ⟨w.heap.size,0,none⟩ (.slice B1 st2.op.length d1)).setCell ⟨w.heap.size,1,none⟩ (.slice B2 st2.op.length d2)).setCell ⟨w.heap.size,2,none⟩ (.bool st2.root)).setCell ⟨w.heap.size,3,none⟩ (.string st2.wait)).setCell ⟨w.heap.size,4,none⟩ (.bool st2.over)).setCell ⟨w.heap.size,5,none⟩ (.int .i64 st2.err)=W5 at *;obtain⟨xs,a1,a2,a3⟩:=X5.out.ev;obtain⟨ys,y1,y2,y3⟩:=V5.out;have hyl9:ev2.length=ys.length:=(by rw[← y1,List.length_map]);have y2':=y2;rw[hyl9] at y2';obtain⟨sn,sc⟩:=acR y2';have hxl:out.length=xs.length:=(by rw[← a1,List.length_map]);have hyl:ys.length≤3:=by rw[← hyl9];exact hLn
        have hx3:xs.length≤15000:=(by omega);have hzz:=X5.out.bel.size;have hYl:=ajj ys;have hY1:=ail y3;have HA1:=aac a1;have HA3:=aac a3;have HY1:=aac y1;have HY3:=aac y3;rw[hxl] at a2 ⊢;rw[hyl9];have HXL:=aac hxl;clear a1 a3 y1 y2 y2' y3 hxl g0 g1 g2 g3 g4 g5 f0 f1 f2 f3 f4 f5 e0 e1 e2 e3 e4 e5 X4 D4 V4f T4 N4 V5;go_wp2_with (at_builtin;refine aaB (w:=W5) rfl _ _ 23 rfl w.heap.size 50 i0 (.agg #[.int .i64 0,.string ⟨#[]⟩,.string ⟨#[]⟩,.slice none 0 0,.string ⟨#[]⟩]) 5 80 Tryz.underlying23 hi hz0 hz1 hz2 rfl (by decide) _ xs.length (evL xs) rfl a2 A9 ys.length c9 (evL ys) rfl sn hYl sc hY1 (by unfold maxLen;omega) (by omega) hzz ?_);intro v3 w3 n1 n2;obtain⟨A3,c3,rfl⟩:=Nz.Sc.aah n1;have X6:=aac (X5.out.grown a2 n2 (amY HA1.out HY1.out a2 HA3.out HY3.out n2 n1));have tk:=Nz.Sc.aaf X6.out.tok 0 (u:=.int .i64 kd) rfl;clear n1 n2 a2 sn sc hYl hY1 HA1 HA3 HY1 HY3 X5 hzz;go_wp2;go_roundw;case rel=>exact⟨a+n,st2,out++ev2,_,_,zs2,by omega,by go_num,aac ⟨X6.out.box,X6.out.dw,X6.out.ev,X6.out.bel,HGd.out,by omega,HJn.out,by rw[List.length_append];omega,HEr.out⟩,HA2⟩
        case measure=>simp only[intOf];omega
    · have t2:(e2 != 0)=true:=bne_iff_ne.2 he2;have HA2:Hid (evF (aad s)=(out,a,e2)):=aac (hA.out.trans (HG1.out he2));clear HG1 HG2 HG3 HJ HGd hA hFt hKd he2;go_wp2_with fail;refine C.out.mono ?_;rintro e w1 ⟨rfl,hb1⟩;have HE2:=aac ((hE.out.after hb1).after ((Below.refl _ w1).alloc (Nat.le_refl _) (.cells #[.int .i64 kd,.string str,.bool em,.bool bk] 42)));have HT2:Hid ((w1.alloc (.cells #[.int .i64 kd,.string str,.bool em,.bool bk] 42)).heap[w1.heap.size]?=some (.cells #[.int .i64 kd,.string str,.bool em,.bool bk] 42 (0,0))):=aac (Nz.Sc.abM w1 42 _);obtain⟨b0,b1,b2,b3,b4,b5⟩:=HE2.out.cs;clear hb1 hE C;go_wp2_with fail;refine(CT.out _ HE2.out).mono ?_;rintro e w2 ⟨vn2,vs2,zs2,v2,rfl,x2,x3,x4⟩;have HE3:=aac (HE2.out.after x4);have HT3:=aac ((x4.block _ (Array.getElem?_eq_some_iff.1 HT2.out).1).trans HT2.out);have hmz:=HE2.out.bel.size;obtain⟨B1,d1,hv⟩:=x3.sn;subst hv;obtain⟨B2,d2,hv⟩:=x3.ss;subst hv;unfold stC;dsimp only;clear x4 HE2 HT2 CT b0 b1 b2 b3 b4 b5;obtain⟨A9,c9,hv⟩:=x2.slc;subst hv;have HV:=aac (HE3.out.ev.keep ((Below.refl _ w2).alloc (Nat.le_refl _) (.cells #[.slice B1 st2.op.length d1,.slice B2 st2.op.length d2,.bool st2.root,.string st2.wait,.bool st2.over,.int .i64 st2.err] 38)));have HB:=aac (HE3.out.bel.alloc HE3.out.bel.size (.cells #[.slice B1 st2.op.length d1,.slice B2 st2.op.length d2,.bool st2.root,.string st2.wait,.bool st2.over,.int .i64 st2.err] 38));clear x2 x3 HE3;go_wp2;go_ret3;exact aoO HA2.out ⟨_,rfl,HV.out,HB.out⟩
  · have hA2:=hA.out;rw[awk st out hal he] at hA2;obtain⟨⟨kd,tx,em,bk⟩,n,er,hx⟩:∃ y n er,nx (aad s) a=(y,n,er):=⟨_,_,_,rfl⟩;rw[hx] at C hA2 he;dsimp only at hA2 he;have t1:(er != 0)=true:=bne_iff_ne.2 he;have HA2:=aac hA2;clear hx hA2 HC HE0 hA he;go_wp2_with fail;refine C.out.mono ?_;rintro e w1 ⟨rfl,hb1⟩;unfold tkV;dsimp only;generalize strOfNums tx=str;have HE2:=aac ((hE.out.after hb1).after ((Below.refl _ w1).alloc (Nat.le_refl _) (.cells #[.int .i64 kd,.string str,.bool em,.bool bk] 42)));clear hb1 hE C;go_wp2;go_ret3;exact aoO HA2.out ⟨_,rfl,HE2.out.ev,HE2.out.bel⟩
end Go.Proofs.YtnomcldpbkinmaaGreatDoor.Wl
namespace Go.Proofs.YtnomcldpbkinmaaGreatDoor.Wl
open Go.RowKit
def PlB (c:Int):Prop:=32≤c∧c≤126∧c≠60∧c≠62∧c≠38
theorem a1F {x:List Int}(h:∀ c∈x,PlB c):NN x:=fun c hc=>by have:=h c hc;unfold PlB at this;omega
theorem aut {x:List Int}(h:∀ c∈x,PlB c):aaz x=0:=by
 have:=aew x [] (fun c hc=>⟨by have:=h c hc;unfold PlB at this;unfold Chr Btw;omega,by have:=h c hc;unfold PlB at this;omega⟩) (by intro c hc;cases hc);rw[List.append_nil,ahT] at this;exact this
theorem asT {x:List Int}(h:aaz x=0):Rt x:=by
 unfold aaz at h;by_cases c1:(acV x).2.2≠0
 · rw[if_pos c1] at h;exact absurd h (by decide)
 rw[if_neg c1] at h;by_cases c2:∀ r∈(acV x).1,Chr r
 · exact⟨Decidable.not_not.1 c1,c2⟩
 · rw[if_neg c2] at h;exact absurd h (by decide)
theorem atJ {x:List Int}(h:∀ c∈x,PlB c):(fnd adJ x).isSome=false:=by
 rw[ars]
 · rfl
 · intro j hj ho;have h1:(62:Int)∈x.drop j:=ho.subset (by decide);have:=h 62 (List.mem_of_mem_drop h1);unfold PlB at this;omega
theorem aey {x r:List Int}(z:Bool)(hx:x≠[])(h:∀ c∈x,PlB c):abm z false (x++60 :: r)=(⟨3,x,false,x.all abf⟩,x.length,0):=by
 have hh:(x++60 :: r).getD 0 0≠60:=by
  match x,hx with
  | c :: x,_=>
    have:=h c (by simp);unfold PlB at this;simp only[List.cons_append,List.getD_cons_zero];omega
 have hf:fnd [60] (x++60 :: r)=some x.length:=by
  refine ara (by simp) ?_ ?_
  · unfold Occ;rw[List.drop_left];exact⟨r,rfl⟩
  · intro j hj ho;have h1:=(occ_one 60 (x++60 :: r) j (by simp;omega)).1 ho;rw[List.getD_eq_getElem?_getD,List.getElem?_append_left hj,List.getElem?_eq_getElem hj] at h1;have:=h x[j] (List.getElem_mem _);unfold PlB at this;simp at h1;omega
 have hw:=aut h;have hr:=a0a false x (a1F h) (asT hw) (fun e=>by have:=h _ e;unfold PlB at this;omega) (fun e=>by have:=h _ e;unfold PlB at this;omega) (fun e=>by cases e);have ha:abH false x=(x,0,0):=by unfold abH;rw[hr];rfl
 unfold abm;rw[if_neg (by simp),if_neg hh];unfold afC;rw[hf];dsimp only;unfold ade;rw[List.take_left,hw,atJ h,ha];simp
theorem awp (u:ByteArray):u++Nz.em=u:=by
 apply abu;rw[aeQ];simp[aad,Nz.em]
theorem a1X (u:ByteArray):Nz.em++u=u:=by
 apply abu;rw[aeQ];simp[aad,Nz.em]
theorem a0y {L M r:List Int}{p:Nat}(hd:L.drop p=M++r):nx L p=abm (decide (p=0)) false (M++r):=by unfold nx;rw[hd]
theorem ayE {L M r:List Int}{p:Nat}(hd:L.drop p=M++r)(hM:M≠[]):p < L.length:=by
 have:=congrArg List.length hd;rw[List.length_drop,List.length_append] at this;have:=List.length_pos_iff.2 hM;omega
def Live (s:St):Prop:=s.over=false∧s.err=0
theorem adK {s:St}(h:Live s)(t:Tok):aaP s t=adD s t:=by
 unfold aaP;rw[if_neg (by rw[h.1];decide),if_neg (by rw[h.2];decide)]
theorem amr {L M r:List Int}{p:Nat}{s s':St}{out ev:List Ev}{tk:Tk}(hd:L.drop p=M++r)(hM:M≠[])(hf:∀ z,abm z false (M++r)=(tk,M.length,0))(ht:aaP s (afo tk)=(s',ev,0)):
 evR L p s out=evR L (p+M.length) s' (out++ev)∧L.drop (p+M.length)=r:=by
 have h1:=(a0y hd).trans (hf _);refine⟨?_,by rw[← List.drop_drop,hd,List.drop_left]⟩;rw[ayG out (ayE hd hM) (by rw[h1]) (by rw[h1];show (aaP s (afo tk)).2.2=0;rw[ht]),h1];show evR L (p+M.length) (aaP s (afo tk)).1 (out++(aaP s (afo tk)).2.1)=_;rw[ht]
theorem aoT {s:St}(h:Live s)(ho:s.op≠[])(x:List Int)(b:Bool):aaP s (afo ⟨3,x,false,b⟩)=({ s with wait:=s.wait++strOfNums x },[],0):=by
 rw[adK h];show adD s ⟨3,strOfNums x,false,b⟩=_;unfold adD acK;simp[ho]
theorem auo {L x r:List Int}{p:Nat}{s:St}{out:List Ev}(hd:L.drop p=x++60 :: r)(h:∀ c∈x,PlB c)(hs:Live s)(ho:s.op≠[]):
 evR L p s out=evR L (p+x.length) { s with wait:=s.wait++strOfNums x } out∧L.drop (p+x.length)=60 :: r:=by
 by_cases hx:x=[]
 · subst hx;refine⟨?_,by simpa using hd⟩;have e:strOfNums []=Nz.em:=acj;rw[e,awp];rfl
 · have:=amr (out:=out) hd hx (fun z=>aey z hx h) (aoT hs ho x _);rw[List.append_nil] at this;exact this
end Go.Proofs.YtnomcldpbkinmaaGreatDoor.Wl
