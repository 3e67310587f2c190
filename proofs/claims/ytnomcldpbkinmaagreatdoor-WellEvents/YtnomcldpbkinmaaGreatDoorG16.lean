/- Lemmas of the claim. -/
import Derived.Test.YtnomcldpbkinmaaGreatDoorG15
import Derived.Deep.QuietTactic
import Derived.BigQuiet
set_option maxHeartbeats 16000000
set_option maxRecDepth 100000
set_option linter.unusedSimpArgs false
set_option linter.unusedVariables false
namespace Go.Proofs.YtnomcldpbkinmaaGreatDoor.Tg
open Go.RowKit
theorem anv (s:ByteArray)(hs:s.size≤10000)(b:Bool)(h:isN s=b)(w:World):Calls Tryz.prog 30 #[.string s] w fun e w'=>(∃ x y,e=.returned (.tuple #[.string x,.string y,.bool b]))∧Below w.heap.size w w':=
 (Nz.afl s hs w).mono fun e w' ⟨h1,h2⟩=>⟨⟨(Nz.aao s).1,(Nz.aao s).2.1,by rw[h1];unfold isN at h;rw[h]⟩,h2⟩
def a4v (s:ByteArray)(w0:World)(R T:Nat)(i:Value)(wr:World):Prop:=
 ∃ (a:Nat) (nm:ByteArray) (v:Value) (l:List (ByteArray × ByteArray)),i=.int .i64 a∧a≤s.size∧l.length≤32∧Hid (DS w0 R T nm v l wr)∧Hid (aar s=GoF nm l (Nz.fr s a))
theorem apu (s:ByteArray)(k:Nat)(hs:s.size≤10000):(Nz.sx s k).size≤10000:=by
 have:=apX (Nz.fr s k);rw[aqH,Nz.aaN] at this;omega
theorem a2W {s:ByteArray}{a:Nat}(h:a≤s.size):((sk (Nz.fr s a)).size=0↔pk s a=s.size)∧(bk (Nz.fr s a)=0↔pk s a=a):=by
 have h1:=auh s a h;rw[akh,Nz.aaN];unfold pk at h1 ⊢;omega
theorem a0u (s:ByteArray)(f:Nat)(w:World)(hs:s.size≤1000000)(hf:f≤s.size):Calls Tryz.prog 44 #[.string s,.int .i64 ((f:Int)+(Nz.sn s f:Int))] w fun e w'=>e=.returned (.int .i64 (p1 s f:Int))∧w=w':=by
 have:=acG s (f+Nz.sn s f) w hs (by have:=Nz.atb s f;omega);rw[Int.natCast_add] at this;exact this
theorem a0E (s:ByteArray)(f:Nat)(w:World)(hs:s.size≤1000000)(h:p1 s f < s.size):Calls Tryz.prog 44 #[.string s,.int .i64 ((p1 s f:Int)+1)] w fun e w'=>e=.returned (.int .i64 (p2 s f:Int))∧w=w':=by
 have:=acG s (p1 s f+1) w hs h;rw[Int.natCast_add] at this;exact this
theorem a1i {s nm:ByteArray}{l:List (ByteArray × ByteArray)}{a:Nat}(ha:a≤s.size)(e1:¬ pk s a=s.size)(e2:¬ pk s a=a)(hG:aar s=GoF nm l (Nz.fr s a))(er:Int)(he:er≠0)(hp:aay (Nz.fr s (pk s a))=(er,Nz.em,Nz.em,Nz.em)):aar s=(er,Nz.em,[]):=by
 have hz:=a2W ha;rw[hG,awM nm l _ (fun h=>e1 (hz.1.1 h)) (fun h=>e2 (hz.2.1 h)) (by rw[akh,hp];exact he),akh,hp]
theorem a3M {s nm:ByteArray}{l:List (ByteArray × ByteArray)}{a:Nat}(ha:a≤s.size)(e1:¬ pk s a=s.size)(e2:¬ pk s a=a)(hG:aar s=GoF nm l (Nz.fr s a))(xn xv xr:ByteArray)(hp:aay (Nz.fr s (pk s a))=(0,xn,xv,xr)):
 (acU xn l=true→aar s=(8,Nz.em,[]))∧(acU xn l=false→32≤l.length→aar s=(13,Nz.em,[]))∧(acU xn l=false→¬ 32≤l.length→aar s=GoF nm (l++[(xn,xv)]) xr):=by
 have hz:=a2W ha;have c1:(sk (Nz.fr s a)).size≠0:=fun h=>e1 (hz.1.1 h);have c2:bk (Nz.fr s a)≠0:=fun h=>e2 (hz.2.1 h);have c3:(aay (sk (Nz.fr s a))).1=0:=(by rw[akh,hp]);have c4:(aay (sk (Nz.fr s a))).2.1=xn:=(by rw[akh,hp]);refine⟨fun h=> ?_,fun h h5=> ?_,fun h h5=> ?_⟩
 · rw[hG,anX nm l _ c1 c2 c3 (by rw[c4];exact h)]
 · rw[hG,anN nm l _ c1 c2 c3 (by rw[c4];exact h) h5]
 · rw[hG,go_ok nm l _ c1 c2 c3 (by rw[c4];exact h) h5,akh,hp]
theorem avT {nm a b:ByteArray}(h:(abH true (aad a)).2.2≠0):vlF nm a b=((abH true (aad a)).2.2,Nz.em,Nz.em,Nz.em):=by unfold vlF;rw[if_pos h]
theorem a1j {nm a b:ByteArray}(h:(abH true (aad a)).2.2=0):vlF nm a b=(0,nm,strOfNums (abH true (aad a)).1,b):=by unfold vlF;rw[if_neg (Decidable.not_not.2 h)]
theorem aod (s:ByteArray)(b:Nat)(q:UInt8)(h:∀ k,b≤k→k < s.size→(aad s).getD k 0≠((q.toNat:Nat):Int)):qi q (Nz.fr s b)= -1:=by
 apply axi;intro i hi;rw[Nz.aaN] at hi;have:=amd s (b+i) b (by omega);rw[show b+i - b=i by omega] at this;rw[this];exact h (b+i) (by omega) (by omega)
theorem aoN (s:ByteArray)(b j:Nat)(q:UInt8)(hb:b≤j)(hj:j < s.size)(he:(aad s).getD j 0=((q.toNat:Nat):Int))(h:∀ k,b≤k→k < j→(aad s).getD k 0≠((q.toNat:Nat):Int)):qi q (Nz.fr s b)=((j - b:Nat):Int):=by
 apply axH
 · rw[Nz.aaN];omega
 · rw[amd s j b hb];exact he
 · intro i hi;have:=amd s (b+i) b (by omega);rw[show b+i - b=i by omega] at this;rw[this];exact h (b+i) (by omega) (by omega)
theorem aeR (s:ByteArray)(f:Nat)(h3:isN (Nz.sx s f)=true)(h6:hd (Nz.fr s (p1 s f))=61)(h8:p2 s f < s.size)(h9:hd (Nz.fr s (p2 s f))=34∨hd (Nz.fr s (p2 s f))=39):
 ((∀ k,p2 s f+1≤k→k < s.size→(aad s).getD k 0≠hd (Nz.fr s (p2 s f)))→aay (Nz.fr s f)=(6,Nz.em,Nz.em,Nz.em))∧
 (∀ j,p2 s f+1≤j→j < s.size→(aad s).getD j 0=hd (Nz.fr s (p2 s f))→(∀ k,p2 s f+1≤k→k < j→(aad s).getD k 0≠hd (Nz.fr s (p2 s f)))→aay (Nz.fr s f)=vlF (Nz.sx s f) (s.extract (p2 s f+1) j) (Nz.fr s (j+1))):=by
 obtain⟨q,hq,hq0⟩:∃ q:UInt8,(q=34∨q=39)∧hd (Nz.fr s (p2 s f))=((q.toNat:Nat):Int):=by
  rcases h9 with h | h
  · exact⟨34,.inl rfl,h⟩
  · exact⟨39,.inr rfl,h⟩
 rw[hq0];exact⟨fun h=>azz s f q hq h3 h6 hq0 (aod s _ _ h),fun j hj1 hj2 he h=>a1H s f j q hq h3 h6 hq0 hj1 (aoN s _ j _ hj1 hj2 he h)⟩
def a3Y (s:ByteArray)(w0:World)(R T:Nat)(nm:ByteArray)(v:Value)(l:List (ByteArray × ByteArray))(o2:Nat)(q:Int)(i:Value)(wr:World):Prop:=
 ∃ j:Nat,i=.int .i64 j∧o2+1≤j∧j≤s.size∧Hid (DS w0 R T nm v l wr)∧Hid (∀ k,o2+1≤k→k < j→(aad s).getD k 0≠q)
theorem DS.drewN {w0 w:World}{R T:Nat}{nm:ByteArray}{v:Value}{l:List (ByteArray × ByteArray)}(h:DS w0 R T nm v l w)(n:Nat):DS w0 R T nm v l (w.drewN n):=h.after (below_drewN (Below.refl _ w) n)
theorem aqi (s:ByteArray)(w:World)(hs:s.size≤10000)(h1:isN (Nz.sx s 0)=false):Calls Tryz.prog 27 #[.string s] w (aco (aar s) w):=by
 have HP:Hid (aar s=(4,Nz.em,[])):=aac (by unfold aar;rw[if_pos h1]);have C1:=aac (fun w=>Nz.agn s 0 (by omega) (Nat.zero_le _) w);have C2:=aac (anv (Nz.sx s 0) (by have:=apu s 0 hs;omega) false h1);generalize Nz.sx s 0=x at *;generalize Nz.sn s 0=m at *;clear h1;have HB0:=aac ((Below.refl w.heap.size w).alloc (Nat.le_refl _) (.cells #[.string ⟨#[]⟩,.slice none 0 0] 53));go_enter Tryz.func27,Tryz.ntmps27;go_wp2_with fail;refine(C1.out _).mono ?_;rintro e w1 ⟨rfl,b1⟩;clear C1;go_wp2_with fail;refine(C2.out _).mono ?_;rintro e w2 ⟨⟨y1,y2,rfl⟩,b2⟩;have b12:=b1.trans (b2.mono b1.size);have hblk:w2.heap[w.heap.size]?=some (.cells #[.string ⟨#[]⟩,.slice none 0 0] 53 (0,0)):=(b12.block w.heap.size (by simp)).trans (heap_alloc_new w _);have c0:w2.cell? ⟨w.heap.size,0,none⟩=some (.string ⟨#[]⟩):=by rw[Lib.cell_of_heap hblk];rfl
 have c1:w2.cell? ⟨w.heap.size,1,none⟩=some (.slice none 0 0):=by rw[Lib.cell_of_heap hblk];rfl
 have f0:=Lib.frozen_of_heap hblk 0;have f1:=Lib.frozen_of_heap hblk 1;have HB:=aac (HB0.out.trans (b12.mono (by simp)));clear hblk b12 b1 b2 C2 HB0;go_wp2
 exact bodyPost_ret (v:=.tuple #[.agg #[.string ⟨#[]⟩,.slice none 0 0],.int .i64 4]) (by simp[results,Tryz.results27,go_sem,c0,c1]) rfl
  (aed HP.out ⟨.slice none 0 0,rfl,World.ownsRow_nil _ _ _ _,((HB.out.setCell (p:=⟨w.heap.size,0,none⟩) (Nat.le_refl _) _).setCell (p:=⟨w.heap.size,1,none⟩) (Nat.le_refl _) _)⟩)
theorem aos (s:ByteArray)(w:World)(hs:s.size≤10000)(h1:isN (Nz.sx s 0)=true):Calls Tryz.prog 27 #[.string s] w (aco (aar s) w):=by
 have HP:Hid (aar s=GoF (Nz.sx s 0) [] (Nz.fr s (Nz.sn s 0))):=aac (by unfold aar;rw[if_neg (by rw[h1];decide)]);have C1:=aac (fun w=>Nz.agn s 0 (by omega) (Nat.zero_le _) w);have C2:=aac (anv (Nz.sx s 0) (by have:=apu s 0 hs;omega) true h1);have hm:=Nz.atb s 0;generalize Nz.sx s 0=x at *;generalize Nz.sn s 0=m at *;clear h1;have HB0:=aac ((Below.refl w.heap.size w).alloc (Nat.le_refl _) (.cells #[.string ⟨#[]⟩,.slice none 0 0] 53));go_enter Tryz.func27,Tryz.ntmps27;go_wp2_with fail;refine(C1.out _).mono ?_;rintro e w1 ⟨rfl,b1⟩;clear C1;go_wp2_with fail;refine(C2.out _).mono ?_;rintro e w2 ⟨⟨y1,y2,rfl⟩,b2⟩;have b12:=b1.trans (b2.mono b1.size);have hblk:w2.heap[w.heap.size]?=some (.cells #[.string ⟨#[]⟩,.slice none 0 0] 53 (0,0)):=(b12.block w.heap.size (by simp)).trans (heap_alloc_new w _);have hlt2:w.heap.size < w2.heap.size:=Nat.lt_of_lt_of_le (by simp) b12.size;have HB:=aac (HB0.out.trans (b12.mono (by simp)))
 have HD0:Hid (DS w w.heap.size w2.heap.size x (.slice none 0 0) [] (w2.alloc (.cells #[.string x,.slice none 0 0] 53))):=aac
  ⟨by omega,Nat.le_refl _,by omega,(Below.heap_alloc w2 _ _ hlt2).trans hblk,heap_alloc_new w2 _,World.ownsRow_nil _ _ _ _,HB.out.alloc (by omega) _⟩
 have HP':Hid (aar s=GoF x [] (Nz.fr s m)):=HP;clear hblk b12 b1 b2 C2 HB0 HB HP;go_wp2_with fail;generalize w2.heap.size=T at *;generalize hR0:w.heap.size=R at *;have HR0:=aac hR0;clear hR0;go_loopw [5] (fun i wr=>a4v s w R T i wr) (fun i _=>s.size+1 - (intOf i).toNat);case atStart=>exact⟨m,x,.slice none 0 0,[],by go_num,by omega,by simp,HD0,HP'⟩
 case round=>
  clear HD0 HP';obtain⟨a,nm,v,l,rfl,ha,hl,hD,hG⟩:=hrel;have hz:=a2W ha;have hpl:=auh s a ha;have CK:=aac (fun w=>acG s a w (by omega) ha);by_cases e1:pk s a=s.size
  · have HG:=aac (hG.out.trans (arH nm l _ (hz.1.2 e1)));obtain⟨A,c,rfl,_⟩:=abr hD.out.own;have t0:=hD.out.t0;have t1:=hD.out.t1;have r0:=hD.out.r0;have r1:=hD.out.r1;have f0:=hD.out.rf 0;have f1:=hD.out.rf 1;rw[e1] at CK;clear e1 hpl hz hG;go_wp2_with fail;refine(CK.out _).mono ?_;rintro e w3 ⟨rfl,rfl⟩;clear CK;go_wp2;exact bodyPost_ret (v:=.tuple #[.agg #[.string nm,.slice A l.length c],.int .i64 0]) (by simp[results,Tryz.results27,go_sem,r0,r1]) rfl (aed HG.out (hD.out.good _ _))
  by_cases e2:pk s a=a
  · have HG:=aac (hG.out.trans (apU nm l _ (fun h=>e1 (hz.1.1 h)) (hz.2.2 e2)));have r0:=hD.out.r0;have r1:=hD.out.r1;have f0:=hD.out.rf 0;have f1:=hD.out.rf 1;rw[e2] at CK e1;have q1:(((a:Nat):Int) == (s.size:Int))=false:=by rw[beq_eq_false_iff_ne];omega
    clear e1 e2 hpl hz hG;go_wp2_with fail;refine(CK.out _).mono ?_;rintro e w3 ⟨rfl,rfl⟩;clear CK;go_wp2;exact bodyPost_ret (v:=.tuple #[.agg #[.string ⟨#[]⟩,.slice none 0 0],.int .i64 6]) (by simp[results,Tryz.results27,go_sem,r0,r1]) rfl (aed HG.out (hD.out.bad _ _ 6))
  have HGE:=aac (fun er=>a1i (nm:=nm) (l:=l) ha e1 e2 hG.out er);have HGO:=aac (fun xn xv xr=>a3M (nm:=nm) (l:=l) ha e1 e2 hG.out xn xv xr);have hge:=ayB s a;generalize pk s a=f at *;have q1:(((f:Nat):Int) == (s.size:Int))=false:=by rw[beq_eq_false_iff_ne];omega
  have q2:(((f:Nat):Int) == (a:Int))=false:=by rw[beq_eq_false_iff_ne];omega
  have hlt:f < s.size:=(by omega);have hgt:a < f:=(by omega);have CC:=aac (fun w=>Nz.agn s f (by omega) (by omega) w);have hx2:=apu s f hs;clear e1 e2 hpl hz hG hge;cases h3:isN (Nz.sx s f)
  · have HG:=aac (HGE.out 4 (by decide) (axT s f h3));have CS:=aac (anv (Nz.sx s f) (by omega) false h3);clear HGE HGO h3;generalize Nz.sx s f=x2 at *;generalize Nz.sn s f=m2 at *;go_wp2_with fail;refine(CK.out _).mono ?_;rintro e w3 ⟨rfl,rfl⟩;clear CK;go_wp2_with fail;refine(CC.out _).mono ?_;rintro e w4 ⟨rfl,b4⟩;have HD4:=aac (hD.out.after b4);clear CC b4 hD;go_wp2_with fail;refine(CS.out _).mono ?_;rintro e w5 ⟨⟨y3,y4,rfl⟩,b5⟩;have HD5:=aac (HD4.out.after b5);clear CS b5 HD4;have r0:=HD5.out.r0;have r1:=HD5.out.r1;have f0:=HD5.out.rf 0;have f1:=HD5.out.rf 1;go_wp2;exact bodyPost_ret (v:=.tuple #[.agg #[.string ⟨#[]⟩,.slice none 0 0],.int .i64 4]) (by simp[results,Tryz.results27,go_sem,r0,r1]) rfl (aed HG.out (HD5.out.bad _ _ 4))
  have CS:=aac (anv (Nz.sx s f) (by omega) true h3);have CK1:=aac (fun w=>a0u s f w (by omega) (by omega));have hp1:=a3k s f (by omega);have HD1:=aac (fun h=>akW s (p1 s f) h);have HDE1:=aac (fun h=>amv s (p1 s f) h);by_cases h4:p1 s f < s.size∧hd (Nz.fr s (p1 s f))=61
  · obtain⟨h5,h6⟩:=h4;have CK2:=aac (fun w=>a0E s f w (by omega) h5);have hp2:=a2U s f h5;have hg1:f≤p1 s f:=by have:=ayB s (f+Nz.sn s f);unfold p1;omega
    have hg2:p1 s f+1≤p2 s f:=ayB s _;have h6c:=h6;clear HD1 HDE1;by_cases h7:p2 s f < s.size∧(hd (Nz.fr s (p2 s f))=34∨hd (Nz.fr s (p2 s f))=39)
    · obtain⟨h8,h9⟩:=h7;have HQF:=aeR s f h3 h6 h8 h9;have HX6:=aac (fun h=>HGE.out 6 (by decide) (HQF.1 h));have HXV:=aac HQF.2;clear h3 h6 HQF;generalize aay (Nz.fr s f)=PF at *;generalize Nz.sx s f=x2 at *;generalize p2 s f=o2 at *;generalize p1 s f=o1 at *;generalize Nz.sn s f=m2 at *;have q3:(((o1:Nat):Int) == (s.size:Int))=false:=by rw[beq_eq_false_iff_ne];omega
      have q5:(((o2:Nat):Int) == (s.size:Int))=false:=by rw[beq_eq_false_iff_ne];omega
      have i0:(0:Int)≤(o1:Int):=(by omega);have i1:(o1:Int) < (s.size:Int):=(by omega);have i2:(0:Int)≤(o2:Int):=(by omega);have i3:(o2:Int) < (s.size:Int):=(by omega);rw[akW s o1 h5] at h6c;have q4:(((s[o1].toNat:Nat):Int) != 61)=false:=by rw[h6c];rfl
      rw[akW s o2 h8] at HX6 HXV h9;clear h6c;rcases h9 with h10 | h10
      · have r34:(((s[o2].toNat:Nat):Int) != 34)=false:=by rw[h10];rfl
        clear h10
        have HSZ:Hid (∀ j,(s.extract (o2+1) j).size≤10000):=aac fun j=>by
         rw[← aae,aal,List.length_drop,List.length_take,aae];omega
        obtain⟨i37,hi,hz0,hz1,hz2⟩:=info_parts Tryz.info81;go_wp2_with fail;refine(CK.out _).mono ?_;rintro e w3 ⟨rfl,rfl⟩;clear CK;go_wp2_with fail;refine(CC.out _).mono ?_;rintro e w4 ⟨rfl,b4⟩;have HD4:=aac (hD.out.after b4);clear CC b4 hD;go_wp2_with fail;refine(CS.out _).mono ?_;rintro e w5 ⟨⟨y3,y4,rfl⟩,b5⟩;have HD5:=aac (HD4.out.after b5);clear CS b5 HD4;go_wp2_with fail;refine(CK1.out _).mono ?_;rintro e w6 ⟨rfl,rfl⟩;clear CK1;go_wp2_with fail;refine(CK2.out _).mono ?_;rintro e w7 ⟨rfl,rfl⟩;clear CK2;go_wp2_with fail;go_loopw [13] (fun i wr=>a3Y s w R T nm v l o2 (((s[o2].toNat:Nat):Int)) i wr) (fun i _=>s.size - (intOf i).toNat);case atStart=>exact⟨o2+1,by go_num,Nat.le_refl _,by omega,HD5,aac (fun k h1 h2=>by omega)⟩
        case round=>
         clear HD5;obtain⟨j,rfl,hj1,hj2,hD,hN⟩:=hrel;have i4:(0:Int)≤(j:Int):=(by omega);by_cases hjs:j < s.size
         · have i5:(j:Int) < (s.size:Int):=(by omega);have hbj:=aaG s j hjs;by_cases he:((s[j].toNat:Nat):Int)=((s[o2].toNat:Nat):Int)
           · have HV:=aac (HXV.out j hj1 hjs (hbj.symm.trans he) hN.out);have t1:(((s[j].toNat:Nat):Int) != ((s[o2].toNat:Nat):Int))=false:=by rw[he];exact bne_self_eq_false _
             have q6:(((j:Nat):Int) == (s.size:Int))=false:=by rw[beq_eq_false_iff_ne];omega
             clear he hbj HXV HX6 hN;have CR:Hid (∀ w,Calls Tryz.prog 35 #[.string (s.extract (o2+1) j),.bool true] w fun e w'=>e=.returned (.tuple #[.string (strOfNums (abH true (aad (s.extract (o2+1) j))).1),.int .i64 (abH true (aad (s.extract (o2+1) j))).2.1,.int .i64 (abH true (aad (s.extract (o2+1) j))).2.2])∧Below w.heap.size w w'):=aac (fun w=>agw (s.extract (o2+1) j) true w (HSZ.out j));have i6:(0:Int)≤(o2:Int)+1:=(by omega);have i7:(o2:Int)+1≤(j:Int):=(by omega);have i8:(j:Int)≤(s.size:Int):=(by omega);have i9:((o2:Int)+1).toNat=o2+1:=(by omega);by_cases hz:(abH true (aad (s.extract (o2+1) j))).2.2=0
             · have HO:=aac (HGO.out x2 _ _ (HV.out.trans (a1j hz)));rw[hz] at CR;generalize strOfNums (abH true (aad (s.extract (o2+1) j))).1=str at *;generalize (abH true (aad (s.extract (o2+1) j))).2.1=yp at *;clear hz HV HGE HGO HSZ;go_wp2_with fail;go_quiet (fail);have HDq:=aac (hD.out.drewN nq);clear hD;go_wp2_with fail;refine(CR.out _).mono ?_;rintro e w8 ⟨rfl,b8⟩;have HD8:=aac (HDq.out.after b8);clear b8 HDq CR;obtain⟨A,c,rfl,hR⟩:=abr HD8.out.own;have HRd:=aac hR;have t9:=HD8.out.t1;obtain⟨n,hn⟩:∃ n,n=l.length:=⟨_,rfl⟩;rw[← hn] at t9;have HN:=aac hn;have hn32:n≤32:=(by omega);clear hR hn;go_wp2_with fail;go_loop [17] (fun i=>∃ k:Nat,i=.int .i64 k∧k≤n∧Hid (∀ j x,j < k→l[j]?=some x→aad x.1≠aad x2)) (fun i=>n - (intOf i).toNat);case atStart=>exact⟨0,rfl,Nat.zero_le _,aac (fun j x hj=>absurd hj (Nat.not_lt_zero _))⟩
               case round=>
                obtain⟨k,rfl,hk,hM⟩:=hrel;by_cases hkn:k < n
                · have hkl:k < l.length:=by rw[← HN.out];exact hkn
                  obtain⟨b1,o5,rfl,hb1,x0,x1⟩:=HRd.out k _ (List.getElem?_eq_getElem hkl);have HK:=aac (List.getElem?_eq_getElem hkl);have d1:(k:Int) < (n:Int):=(by omega);have d0:(0:Int)≤(k:Int):=(by omega);generalize l[k]=tt at *;obtain⟨tn,tv⟩:=tt;dsimp only at x0 x1;by_cases heq:aad tn=aad x2
                  · have HG:=aac (HO.out.1 (aiq (nm:=x2) HK.out heq));have tq:(tn.toList == x2.toList)=true:=(eqS tn x2).trans (decide_eq_true heq);clear heq HO hM;have r0:=HD8.out.r0;have r1:=HD8.out.r1;have f0:=HD8.out.rf 0;have f1:=HD8.out.rf 1;go_wp2;exact bodyPost_ret (v:=.tuple #[.agg #[.string ⟨#[]⟩,.slice none 0 0],.int .i64 8]) (by simp[results,Tryz.results27,go_sem,r0,r1]) rfl (aed HG.out (HD8.out.bad _ _ 8))
                  · have HM2:Hid (∀ j x,j < k+1→l[j]?=some x→aad x.1≠aad x2):=aac fun j' x hj hx=>by
                     rcases Nat.lt_or_ge j' k with g | g
                     · exact hM.out j' x g hx
                     · obtain rfl:j'=k:=(by omega);have:=HK.out;rw[hx] at this;injection this with this
                       rw[this];exact heq
                    have tq:(tn.toList == x2.toList)=false:=(eqS tn x2).trans (decide_eq_false heq);clear heq HO hM;go_wp2_with fail;go_round;case rel=>exact⟨k+1,by go_num,by omega,HM2⟩
                    case measure=>simp only[intOf];omega
                · have d1:¬ (k:Int) < (n:Int):=(by omega);have hke:k=n:=(by omega);have HF:Hid (acU x2 l=false):=aac (alH fun j x hj hx=>hM.out j x (by rw[hke,HN.out];exact hj) hx);clear hM hke;by_cases h32:32≤n
                  · have HG:=aac (HO.out.2.1 HF.out (by rw[← HN.out];exact h32));have d2:(32:Int)≤(n:Int):=(by omega);have d3:decide ((32:Int)≤(n:Int))=true:=by rw[decide_eq_true_eq];exact d2
                    clear HO HF;have r0:=HD8.out.r0;have r1:=HD8.out.r1;have f0:=HD8.out.rf 0;have f1:=HD8.out.rf 1;go_wp2;exact bodyPost_ret (v:=.tuple #[.agg #[.string ⟨#[]⟩,.slice none 0 0],.int .i64 13]) (by simp[results,Tryz.results27,go_sem,r0,r1]) rfl (aed HG.out (HD8.out.bad _ _ 13))
                  · have HG:=aac (HO.out.2.2 HF.out (by rw[← HN.out];exact h32));have d2:¬ (32:Int)≤(n:Int):=(by omega);have d3:decide ((32:Int)≤(n:Int))=false:=by rw[decide_eq_false_iff_not];exact d2
                    have HX:=aac (HD8.out.after ((Below.refl _ w8).alloc (Nat.le_refl _) (.cells #[.string x2,.string str] 81)));have ho:=HX.out.own;unfold aky at ho;rw[← HN.out] at ho;have hbz:=HX.out.bel.size;have hlc:=aaT w8 #[.string x2,.string str] 81
                    have HKK:Hid (∀ v' w',w'.ownsRow w.heap.size 81 2 v' (n+1) (rwL l++[.string x2,.string str])→(w8.alloc (.cells #[.string x2,.string str] 81)).grownBy w' (Value.slice A n c).ownBlock→
                     ∃ g' cap',v'=.slice (some ⟨g',0,none⟩) (n+1) cap'∧w'.cell? ⟨T,1,none⟩=some (.slice A n c)∧w'.frozen? ⟨T,1,none⟩=false∧DS w R T nm v' (l++[(x2,str)]) (w'.setCell ⟨T,1,none⟩ v')):=aac (by
                     intro v' w' k1 k2;obtain⟨g',cap',hv⟩:=aas k1;have hx:=HX.out;rw[HN.out] at k1 k2;obtain⟨z1,z2⟩:=DS.put (x:=(x2,str)) hx k1 k2;refine⟨g',cap',hv,?_,Lib.frozen_of_heap z1 1,z2⟩;rw[Lib.cell_of_heap z1,HN.out];rfl)
                    clear HX HD8 HRd HO HF;go_wp2_with (at_builtin;refine wpList_append_own _ rfl _ _ 51 rfl w.heap.size 81 i37 (.agg #[.string ⟨#[]⟩,.string ⟨#[]⟩]) 2 32 Tryz.underlying51 hi hz0 hz1 hz2 rfl (by decide) _ _ _ rfl ho ⟨w8.heap.size,0,none⟩ 1 1 [.string x2,.string str] rfl rfl hlc (by intro u hu;simp only[List.mem_cons,List.not_mem_nil,or_false] at hu;rcases hu with rfl | rfl <;> rfl) (by unfold maxLen;omega) (by omega) hbz ?_);intro v' w9 k1 k2 _;obtain⟨g',cap',rfl,z2,f2,r2⟩:=HKK.out v' w9 k1 k2;have HD9:=aac r2;clear k1 k2 r2 HKK ho hlc;go_wp2;go_roundw;case rel=>exact⟨j+1,nm,_,_,by go_num,by omega,by rw[List.length_append,List.length_singleton];have:=HN.out;omega,HD9,HG⟩
                    case measure=>simp only[intOf];omega
             · have HG:=aac (HGE.out _ hz (HV.out.trans (avT hz)));generalize strOfNums (abH true (aad (s.extract (o2+1) j))).1=str at *;generalize (abH true (aad (s.extract (o2+1) j))).2.1=yp at *;generalize (abH true (aad (s.extract (o2+1) j))).2.2=ye at *;have t2:(ye != 0)=true:=by rw[bne_iff_ne];exact hz
               clear hz HV HGE HGO HSZ;go_wp2_with fail;go_quiet (fail);have HDq:=aac (hD.out.drewN nq);clear hD;go_wp2_with fail;refine(CR.out _).mono ?_;rintro e w8 ⟨rfl,b8⟩;have HD8:=aac (HDq.out.after b8);clear b8 HDq CR;have r0:=HD8.out.r0;have r1:=HD8.out.r1;have f0:=HD8.out.rf 0;have f1:=HD8.out.rf 1;go_wp2;exact bodyPost_ret (v:=.tuple #[.agg #[.string ⟨#[]⟩,.slice none 0 0],.int .i64 ye]) (by simp[results,Tryz.results27,go_sem,r0,r1]) rfl (aed HG.out (HD8.out.bad _ _ ye))
           · have HN2:Hid (∀ k,o2+1≤k→k < j+1→(aad s).getD k 0≠((s[o2].toNat:Nat):Int)):=aac fun k h1 h2=>by
              rcases Nat.lt_or_ge k j with g | g
              · exact hN.out k h1 g
              · obtain rfl:k=j:=(by omega);rw[← hbj];exact he
             have t1:(((s[j].toNat:Nat):Int) != ((s[o2].toNat:Nat):Int))=true:=by rw[bne_iff_ne];exact he
             clear he hbj HXV HX6 hN;go_wp2_with fail;go_quiet (fail);go_wp2;go_roundw;case rel=>exact⟨j+1,by go_num,by omega,by omega,aac (hD.out.drewN _),HN2⟩
             case measure=>simp only[intOf];omega
         · have HG:=aac (HX6.out (fun k h1 h2=>hN.out k h1 (by omega)));have hje:j=s.size:=(by omega);subst hje;have i5:decide ((s.size:Int) < (s.size:Int))=false:=by rw[decide_eq_false_iff_not];omega
           clear HX6 HXV hN;go_wp2_with fail;go_quiet (fail);have HDq:=aac (hD.out.drewN nq);have r0:=HDq.out.r0;have r1:=HDq.out.r1;have f0:=HDq.out.rf 0;have f1:=HDq.out.rf 1;go_wp2;exact bodyPost_ret (v:=.tuple #[.agg #[.string ⟨#[]⟩,.slice none 0 0],.int .i64 6]) (by simp[results,Tryz.results27,go_sem,r0,r1]) rfl (aed HG.out (HDq.out.bad _ _ 6))
      · have r34:(((s[o2].toNat:Nat):Int) != 34)=true:=by rw[h10];rfl
        have r39:(((s[o2].toNat:Nat):Int) != 39)=false:=by rw[h10];rfl
        clear h10
        have HSZ:Hid (∀ j,(s.extract (o2+1) j).size≤10000):=aac fun j=>by
         rw[← aae,aal,List.length_drop,List.length_take,aae];omega
        obtain⟨i37,hi,hz0,hz1,hz2⟩:=info_parts Tryz.info81;go_wp2_with fail;refine(CK.out _).mono ?_;rintro e w3 ⟨rfl,rfl⟩;clear CK;go_wp2_with fail;refine(CC.out _).mono ?_;rintro e w4 ⟨rfl,b4⟩;have HD4:=aac (hD.out.after b4);clear CC b4 hD;go_wp2_with fail;refine(CS.out _).mono ?_;rintro e w5 ⟨⟨y3,y4,rfl⟩,b5⟩;have HD5:=aac (HD4.out.after b5);clear CS b5 HD4;go_wp2_with fail;refine(CK1.out _).mono ?_;rintro e w6 ⟨rfl,rfl⟩;clear CK1;go_wp2_with fail;refine(CK2.out _).mono ?_;rintro e w7 ⟨rfl,rfl⟩;clear CK2;go_wp2_with fail;go_loopw [13] (fun i wr=>a3Y s w R T nm v l o2 (((s[o2].toNat:Nat):Int)) i wr) (fun i _=>s.size - (intOf i).toNat);case atStart=>exact⟨o2+1,by go_num,Nat.le_refl _,by omega,HD5,aac (fun k h1 h2=>by omega)⟩
        case round=>
         clear HD5;obtain⟨j,rfl,hj1,hj2,hD,hN⟩:=hrel;have i4:(0:Int)≤(j:Int):=(by omega);by_cases hjs:j < s.size
         · have i5:(j:Int) < (s.size:Int):=(by omega);have hbj:=aaG s j hjs;by_cases he:((s[j].toNat:Nat):Int)=((s[o2].toNat:Nat):Int)
           · have HV:=aac (HXV.out j hj1 hjs (hbj.symm.trans he) hN.out);have t1:(((s[j].toNat:Nat):Int) != ((s[o2].toNat:Nat):Int))=false:=by rw[he];exact bne_self_eq_false _
             have q6:(((j:Nat):Int) == (s.size:Int))=false:=by rw[beq_eq_false_iff_ne];omega
             clear he hbj HXV HX6 hN;have CR:Hid (∀ w,Calls Tryz.prog 35 #[.string (s.extract (o2+1) j),.bool true] w fun e w'=>e=.returned (.tuple #[.string (strOfNums (abH true (aad (s.extract (o2+1) j))).1),.int .i64 (abH true (aad (s.extract (o2+1) j))).2.1,.int .i64 (abH true (aad (s.extract (o2+1) j))).2.2])∧Below w.heap.size w w'):=aac (fun w=>agw (s.extract (o2+1) j) true w (HSZ.out j));have i6:(0:Int)≤(o2:Int)+1:=(by omega);have i7:(o2:Int)+1≤(j:Int):=(by omega);have i8:(j:Int)≤(s.size:Int):=(by omega);have i9:((o2:Int)+1).toNat=o2+1:=(by omega);by_cases hz:(abH true (aad (s.extract (o2+1) j))).2.2=0
             · have HO:=aac (HGO.out x2 _ _ (HV.out.trans (a1j hz)));rw[hz] at CR;generalize strOfNums (abH true (aad (s.extract (o2+1) j))).1=str at *;generalize (abH true (aad (s.extract (o2+1) j))).2.1=yp at *;clear hz HV HGE HGO HSZ;go_wp2_with fail;go_quiet (fail);have HDq:=aac (hD.out.drewN nq);clear hD;go_wp2_with fail;refine(CR.out _).mono ?_;rintro e w8 ⟨rfl,b8⟩;have HD8:=aac (HDq.out.after b8);clear b8 HDq CR;obtain⟨A,c,rfl,hR⟩:=abr HD8.out.own;have HRd:=aac hR;have t9:=HD8.out.t1;obtain⟨n,hn⟩:∃ n,n=l.length:=⟨_,rfl⟩;rw[← hn] at t9;have HN:=aac hn;have hn32:n≤32:=(by omega);clear hR hn;go_wp2_with fail;go_loop [17] (fun i=>∃ k:Nat,i=.int .i64 k∧k≤n∧Hid (∀ j x,j < k→l[j]?=some x→aad x.1≠aad x2)) (fun i=>n - (intOf i).toNat);case atStart=>exact⟨0,rfl,Nat.zero_le _,aac (fun j x hj=>absurd hj (Nat.not_lt_zero _))⟩
               case round=>
                obtain⟨k,rfl,hk,hM⟩:=hrel;by_cases hkn:k < n
                · have hkl:k < l.length:=by rw[← HN.out];exact hkn
                  obtain⟨b1,o5,rfl,hb1,x0,x1⟩:=HRd.out k _ (List.getElem?_eq_getElem hkl);have HK:=aac (List.getElem?_eq_getElem hkl);have d1:(k:Int) < (n:Int):=(by omega);have d0:(0:Int)≤(k:Int):=(by omega);generalize l[k]=tt at *;obtain⟨tn,tv⟩:=tt;dsimp only at x0 x1;by_cases heq:aad tn=aad x2
                  · have HG:=aac (HO.out.1 (aiq (nm:=x2) HK.out heq));have tq:(tn.toList == x2.toList)=true:=(eqS tn x2).trans (decide_eq_true heq);clear heq HO hM;have r0:=HD8.out.r0;have r1:=HD8.out.r1;have f0:=HD8.out.rf 0;have f1:=HD8.out.rf 1;go_wp2;exact bodyPost_ret (v:=.tuple #[.agg #[.string ⟨#[]⟩,.slice none 0 0],.int .i64 8]) (by simp[results,Tryz.results27,go_sem,r0,r1]) rfl (aed HG.out (HD8.out.bad _ _ 8))
                  · have HM2:Hid (∀ j x,j < k+1→l[j]?=some x→aad x.1≠aad x2):=aac fun j' x hj hx=>by
                     rcases Nat.lt_or_ge j' k with g | g
                     · exact hM.out j' x g hx
                     · obtain rfl:j'=k:=(by omega);have:=HK.out;rw[hx] at this;injection this with this
                       rw[this];exact heq
                    have tq:(tn.toList == x2.toList)=false:=(eqS tn x2).trans (decide_eq_false heq);clear heq HO hM;go_wp2_with fail;go_round;case rel=>exact⟨k+1,by go_num,by omega,HM2⟩
                    case measure=>simp only[intOf];omega
                · have d1:¬ (k:Int) < (n:Int):=(by omega);have hke:k=n:=(by omega);have HF:Hid (acU x2 l=false):=aac (alH fun j x hj hx=>hM.out j x (by rw[hke,HN.out];exact hj) hx);clear hM hke;by_cases h32:32≤n
                  · have HG:=aac (HO.out.2.1 HF.out (by rw[← HN.out];exact h32));have d2:(32:Int)≤(n:Int):=(by omega);have d3:decide ((32:Int)≤(n:Int))=true:=by rw[decide_eq_true_eq];exact d2
                    clear HO HF;have r0:=HD8.out.r0;have r1:=HD8.out.r1;have f0:=HD8.out.rf 0;have f1:=HD8.out.rf 1;go_wp2;exact bodyPost_ret (v:=.tuple #[.agg #[.string ⟨#[]⟩,.slice none 0 0],.int .i64 13]) (by simp[results,Tryz.results27,go_sem,r0,r1]) rfl (aed HG.out (HD8.out.bad _ _ 13))
                  · have HG:=aac (HO.out.2.2 HF.out (by rw[← HN.out];exact h32));have d2:¬ (32:Int)≤(n:Int):=(by omega);have d3:decide ((32:Int)≤(n:Int))=false:=by rw[decide_eq_false_iff_not];exact d2
                    have HX:=aac (HD8.out.after ((Below.refl _ w8).alloc (Nat.le_refl _) (.cells #[.string x2,.string str] 81)));have ho:=HX.out.own;unfold aky at ho;rw[← HN.out] at ho;have hbz:=HX.out.bel.size;have hlc:=aaT w8 #[.string x2,.string str] 81
                    have HKK:Hid (∀ v' w',w'.ownsRow w.heap.size 81 2 v' (n+1) (rwL l++[.string x2,.string str])→(w8.alloc (.cells #[.string x2,.string str] 81)).grownBy w' (Value.slice A n c).ownBlock→
                     ∃ g' cap',v'=.slice (some ⟨g',0,none⟩) (n+1) cap'∧w'.cell? ⟨T,1,none⟩=some (.slice A n c)∧w'.frozen? ⟨T,1,none⟩=false∧DS w R T nm v' (l++[(x2,str)]) (w'.setCell ⟨T,1,none⟩ v')):=aac (by
                     intro v' w' k1 k2;obtain⟨g',cap',hv⟩:=aas k1;have hx:=HX.out;rw[HN.out] at k1 k2;obtain⟨z1,z2⟩:=DS.put (x:=(x2,str)) hx k1 k2;refine⟨g',cap',hv,?_,Lib.frozen_of_heap z1 1,z2⟩;rw[Lib.cell_of_heap z1,HN.out];rfl)
                    clear HX HD8 HRd HO HF;go_wp2_with (at_builtin;refine wpList_append_own _ rfl _ _ 51 rfl w.heap.size 81 i37 (.agg #[.string ⟨#[]⟩,.string ⟨#[]⟩]) 2 32 Tryz.underlying51 hi hz0 hz1 hz2 rfl (by decide) _ _ _ rfl ho ⟨w8.heap.size,0,none⟩ 1 1 [.string x2,.string str] rfl rfl hlc (by intro u hu;simp only[List.mem_cons,List.not_mem_nil,or_false] at hu;rcases hu with rfl | rfl <;> rfl) (by unfold maxLen;omega) (by omega) hbz ?_);intro v' w9 k1 k2 _;obtain⟨g',cap',rfl,z2,f2,r2⟩:=HKK.out v' w9 k1 k2;have HD9:=aac r2;clear k1 k2 r2 HKK ho hlc;go_wp2;go_roundw;case rel=>exact⟨j+1,nm,_,_,by go_num,by omega,by rw[List.length_append,List.length_singleton];have:=HN.out;omega,HD9,HG⟩
                    case measure=>simp only[intOf];omega
             · have HG:=aac (HGE.out _ hz (HV.out.trans (avT hz)));generalize strOfNums (abH true (aad (s.extract (o2+1) j))).1=str at *;generalize (abH true (aad (s.extract (o2+1) j))).2.1=yp at *;generalize (abH true (aad (s.extract (o2+1) j))).2.2=ye at *;have t2:(ye != 0)=true:=by rw[bne_iff_ne];exact hz
               clear hz HV HGE HGO HSZ;go_wp2_with fail;go_quiet (fail);have HDq:=aac (hD.out.drewN nq);clear hD;go_wp2_with fail;refine(CR.out _).mono ?_;rintro e w8 ⟨rfl,b8⟩;have HD8:=aac (HDq.out.after b8);clear b8 HDq CR;have r0:=HD8.out.r0;have r1:=HD8.out.r1;have f0:=HD8.out.rf 0;have f1:=HD8.out.rf 1;go_wp2;exact bodyPost_ret (v:=.tuple #[.agg #[.string ⟨#[]⟩,.slice none 0 0],.int .i64 ye]) (by simp[results,Tryz.results27,go_sem,r0,r1]) rfl (aed HG.out (HD8.out.bad _ _ ye))
           · have HN2:Hid (∀ k,o2+1≤k→k < j+1→(aad s).getD k 0≠((s[o2].toNat:Nat):Int)):=aac fun k h1 h2=>by
              rcases Nat.lt_or_ge k j with g | g
              · exact hN.out k h1 g
              · obtain rfl:k=j:=(by omega);rw[← hbj];exact he
             have t1:(((s[j].toNat:Nat):Int) != ((s[o2].toNat:Nat):Int))=true:=by rw[bne_iff_ne];exact he
             clear he hbj HXV HX6 hN;go_wp2_with fail;go_quiet (fail);go_wp2;go_roundw;case rel=>exact⟨j+1,by go_num,by omega,by omega,aac (hD.out.drewN _),HN2⟩
             case measure=>simp only[intOf];omega
         · have HG:=aac (HX6.out (fun k h1 h2=>hN.out k h1 (by omega)));have hje:j=s.size:=(by omega);subst hje;have i5:decide ((s.size:Int) < (s.size:Int))=false:=by rw[decide_eq_false_iff_not];omega
           clear HX6 HXV hN;go_wp2_with fail;go_quiet (fail);have HDq:=aac (hD.out.drewN nq);have r0:=HDq.out.r0;have r1:=HDq.out.r1;have f0:=HDq.out.rf 0;have f1:=HDq.out.rf 1;go_wp2;exact bodyPost_ret (v:=.tuple #[.agg #[.string ⟨#[]⟩,.slice none 0 0],.int .i64 6]) (by simp[results,Tryz.results27,go_sem,r0,r1]) rfl (aed HG.out (HDq.out.bad _ _ 6))
    · have hn34:hd (Nz.fr s (p2 s f))≠34:=by
       intro h;apply h7;refine⟨?_,.inl h⟩;rcases Nat.lt_or_ge (p2 s f) s.size with g | g
       · exact g
       · rw[amv s _ g] at h;exact absurd h (by decide)
      have hn39:hd (Nz.fr s (p2 s f))≠39:=by
       intro h;apply h7;refine⟨?_,.inr h⟩;rcases Nat.lt_or_ge (p2 s f) s.size with g | g
       · exact g
       · rw[amv s _ g] at h;exact absurd h (by decide)
      have HG:=aac (HGE.out 6 (by decide) (auK s f h3 h6 hn34 hn39));clear HGE HGO h3 h6 h7;by_cases h8:p2 s f < s.size
      · generalize Nz.sx s f=x2 at *;generalize p2 s f=o2 at *;generalize p1 s f=o1 at *;generalize Nz.sn s f=m2 at *;have q3:(((o1:Nat):Int) == (s.size:Int))=false:=by rw[beq_eq_false_iff_ne];omega
        have q5:(((o2:Nat):Int) == (s.size:Int))=false:=by rw[beq_eq_false_iff_ne];omega
        have i0:(0:Int)≤(o1:Int):=(by omega);have i1:(o1:Int) < (s.size:Int):=(by omega);have i2:(0:Int)≤(o2:Int):=(by omega);have i3:(o2:Int) < (s.size:Int):=(by omega);rw[akW s o1 h5] at h6c;have q4:(((s[o1].toNat:Nat):Int) != 61)=false:=by rw[h6c];rfl
        rw[akW s o2 h8] at hn34 hn39;clear h6c;have r34:(((s[o2].toNat:Nat):Int) != 34)=true:=by rw[bne_iff_ne];exact hn34
        have r39:(((s[o2].toNat:Nat):Int) != 39)=true:=by rw[bne_iff_ne];exact hn39
        clear hn34 hn39;go_wp2_with fail;refine(CK.out _).mono ?_;rintro e w3 ⟨rfl,rfl⟩;clear CK;go_wp2_with fail;refine(CC.out _).mono ?_;rintro e w4 ⟨rfl,b4⟩;have HD4:=aac (hD.out.after b4);clear CC b4 hD;go_wp2_with fail;refine(CS.out _).mono ?_;rintro e w5 ⟨⟨y3,y4,rfl⟩,b5⟩;have HD5:=aac (HD4.out.after b5);clear CS b5 HD4;go_wp2_with fail;refine(CK1.out _).mono ?_;rintro e w6 ⟨rfl,rfl⟩;clear CK1;go_wp2_with fail;refine(CK2.out _).mono ?_;rintro e w7 ⟨rfl,rfl⟩;clear CK2;have r0:=HD5.out.r0;have r1:=HD5.out.r1;have f0:=HD5.out.rf 0;have f1:=HD5.out.rf 1;go_wp2;exact bodyPost_ret (v:=.tuple #[.agg #[.string ⟨#[]⟩,.slice none 0 0],.int .i64 6]) (by simp[results,Tryz.results27,go_sem,r0,r1]) rfl (aed HG.out (HD5.out.bad _ _ 6))
      · have h9:p2 s f=s.size:=(by omega);rw[h9] at CK2;clear hp2 hg2 hn34 hn39 h8 h9;generalize Nz.sx s f=x2 at *;generalize p1 s f=o1 at *;generalize Nz.sn s f=m2 at *;have q3:(((o1:Nat):Int) == (s.size:Int))=false:=by rw[beq_eq_false_iff_ne];omega
        have i0:(0:Int)≤(o1:Int):=(by omega);have i1:(o1:Int) < (s.size:Int):=(by omega);rw[akW s o1 h5] at h6c;have q4:(((s[o1].toNat:Nat):Int) != 61)=false:=by rw[h6c];rfl
        clear h6c;go_wp2_with fail;refine(CK.out _).mono ?_;rintro e w3 ⟨rfl,rfl⟩;clear CK;go_wp2_with fail;refine(CC.out _).mono ?_;rintro e w4 ⟨rfl,b4⟩;have HD4:=aac (hD.out.after b4);clear CC b4 hD;go_wp2_with fail;refine(CS.out _).mono ?_;rintro e w5 ⟨⟨y3,y4,rfl⟩,b5⟩;have HD5:=aac (HD4.out.after b5);clear CS b5 HD4;go_wp2_with fail;refine(CK1.out _).mono ?_;rintro e w6 ⟨rfl,rfl⟩;clear CK1;go_wp2_with fail;refine(CK2.out _).mono ?_;rintro e w7 ⟨rfl,rfl⟩;clear CK2;have r0:=HD5.out.r0;have r1:=HD5.out.r1;have f0:=HD5.out.rf 0;have f1:=HD5.out.rf 1;go_wp2;exact bodyPost_ret (v:=.tuple #[.agg #[.string ⟨#[]⟩,.slice none 0 0],.int .i64 6]) (by simp[results,Tryz.results27,go_sem,r0,r1]) rfl (aed HG.out (HD5.out.bad _ _ 6))
  · have hne:hd (Nz.fr s (p1 s f))≠61:=by
     intro h;apply h4;refine⟨?_,h⟩;rcases Nat.lt_or_ge (p1 s f) s.size with g | g
     · exact g
     · rw[amv s _ g] at h;exact absurd h (by decide)
    have HG:=aac (HGE.out 6 (by decide) (ayh s f h3 hne));clear HGE HGO h3 h4;by_cases h5:p1 s f < s.size
    · rw[akW s _ h5] at hne;clear HD1 HDE1;generalize Nz.sx s f=x2 at *;generalize p1 s f=o1 at *;generalize Nz.sn s f=m2 at *;have q3:(((o1:Nat):Int) == (s.size:Int))=false:=by rw[beq_eq_false_iff_ne];omega
      have q4:(((s[o1].toNat:Nat):Int) != 61)=true:=by rw[bne_iff_ne];exact hne
      have i0:(0:Int)≤(o1:Int):=(by omega);have i1:(o1:Int) < (s.size:Int):=(by omega);clear hne;go_wp2_with fail;refine(CK.out _).mono ?_;rintro e w3 ⟨rfl,rfl⟩;clear CK;go_wp2_with fail;refine(CC.out _).mono ?_;rintro e w4 ⟨rfl,b4⟩;have HD4:=aac (hD.out.after b4);clear CC b4 hD;go_wp2_with fail;refine(CS.out _).mono ?_;rintro e w5 ⟨⟨y3,y4,rfl⟩,b5⟩;have HD5:=aac (HD4.out.after b5);clear CS b5 HD4;go_wp2_with fail;refine(CK1.out _).mono ?_;rintro e w6 ⟨rfl,rfl⟩;clear CK1;have r0:=HD5.out.r0;have r1:=HD5.out.r1;have f0:=HD5.out.rf 0;have f1:=HD5.out.rf 1;go_wp2;exact bodyPost_ret (v:=.tuple #[.agg #[.string ⟨#[]⟩,.slice none 0 0],.int .i64 6]) (by simp[results,Tryz.results27,go_sem,r0,r1]) rfl (aed HG.out (HD5.out.bad _ _ 6))
    · clear HD1 HDE1;have h6:p1 s f=s.size:=(by omega);rw[h6] at CK1;generalize Nz.sx s f=x2 at *;clear hp1 h5 h6 hne;generalize Nz.sn s f=m2 at *;go_wp2_with fail;refine(CK.out _).mono ?_;rintro e w3 ⟨rfl,rfl⟩;clear CK;go_wp2_with fail;refine(CC.out _).mono ?_;rintro e w4 ⟨rfl,b4⟩;have HD4:=aac (hD.out.after b4);clear CC b4 hD;go_wp2_with fail;refine(CS.out _).mono ?_;rintro e w5 ⟨⟨y3,y4,rfl⟩,b5⟩;have HD5:=aac (HD4.out.after b5);clear CS b5 HD4;go_wp2_with fail;refine(CK1.out _).mono ?_;rintro e w6 ⟨rfl,rfl⟩;clear CK1;have r0:=HD5.out.r0;have r1:=HD5.out.r1;have f0:=HD5.out.rf 0;have f1:=HD5.out.rf 1;go_wp2;exact bodyPost_ret (v:=.tuple #[.agg #[.string ⟨#[]⟩,.slice none 0 0],.int .i64 6]) (by simp[results,Tryz.results27,go_sem,r0,r1]) rfl (aed HG.out (HD5.out.bad _ _ 6))
theorem ace (s:ByteArray)(w:World)(hs:s.size≤10000):Calls Tryz.prog 27 #[.string s] w (aco (aar s) w):=by
 cases h1:isN (Nz.sx s 0)
 · exact aqi s w hs h1
 · exact aos s w hs h1
end Go.Proofs.YtnomcldpbkinmaaGreatDoor.Tg
