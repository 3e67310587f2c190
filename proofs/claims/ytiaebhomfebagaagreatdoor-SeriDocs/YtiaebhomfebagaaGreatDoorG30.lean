/- Lemmas of the claim. -/
import Derived.Test.YtiaebhomfebagaaGreatDoorG07
import Derived.Test.YtiaebhomfebagaaGreatDoorG26
import Derived.Test.YtiaebhomfebagaaGreatDoorG08
import Derived.Test.YtiaebhomfebagaaGreatDoorG09
import Derived.Test.YtiaebhomfebagaaGreatDoorG28
import Derived.Test.YtiaebhomfebagaaGreatDoorG10
import Derived.Test.YtiaebhomfebagaaGreatDoorG06
import Derived.Test.YtiaebhomfebagaaGreatDoorG29
import Derived.Deep.RegionHeld3
set_option maxHeartbeats 8000000
set_option maxRecDepth 100000
set_option linter.unusedVariables false
set_option linter.unusedSimpArgs false
namespace Go.Proofs.YtiaebhomfebagaaGreatDoor.Ev
open Go.RowKit
theorem anH:ahP.toList=[120,109,108,110,115]:=by rw[Lib.toList_data];rfl
theorem ayr (s:ByteArray):(s.toList == [120,109,108,110,115])=decide (s=ahP):=by
 rw[Bool.eq_iff_iff,beq_iff_eq,decide_eq_true_eq];exact⟨fun h=>ani (h.trans anH.symm),fun h=>by rw[h];exact anH⟩
theorem atV {l:List P3}{k:Nat}{x:P3}(hx:l[k]?=some x):noX (l.take (k+1))=(noX (l.take k) && !(decide (x.1.1=emB) && decide (x.1.2=ahP))):=by
 have:l.take (k+1)=l.take k++[x]:=by rw[List.take_add_one,hx];rfl
 rw[this];unfold noX;rw[List.all_append];simp
theorem arT {l:List P3}{k:Nat}{x:P3}(hx:l[k]?=some x)(h1:x.1.1=emB)(h2:x.1.2=ahP):noX l=false:=by
 unfold noX;rw[List.all_eq_false];exact⟨x,List.mem_of_getElem? hx,by rw[decide_eq_true h1,decide_eq_true h2];decide⟩
theorem auy (u y:ByteArray):(u=emB∧y=ahP∧(u.toList.isEmpty=true∧(u.toList == [])=true∧(u.toList != [])=false)∧(y.toList == [120,109,108,110,115])=true∧(y.toList != [120,109,108,110,115])=false)∨
 ((decide (u=emB) && decide (y=ahP))=false∧(u.toList.isEmpty=true∧(u.toList == [])=true∧(u.toList != [])=false)∧(y.toList == [120,109,108,110,115])=false∧(y.toList != [120,109,108,110,115])=true)∨
 ((decide (u=emB) && decide (y=ahP))=false∧u.toList.isEmpty=false∧(u.toList == [])=false∧(u.toList != [])=true):=by
 have K:=spK u;have Y:=ayr y;by_cases h1:u=emB
 · rw[decide_eq_true h1] at K;by_cases h2:y=ahP
   · rw[decide_eq_true h2] at Y;exact .inl ⟨h1,h2,⟨K.e1,K.e2,K.e3⟩,Y,by rw[bne,Y];rfl⟩
   · rw[decide_eq_false h2] at Y;exact .inr (.inl ⟨by rw[decide_eq_false h2,Bool.and_false],⟨K.e1,K.e2,K.e3⟩,Y,by rw[bne,Y];rfl⟩)
 · rw[decide_eq_false h1] at K;exact .inr (.inr ⟨by rw[decide_eq_false h1,Bool.false_and],K.e1,K.e2,K.e3⟩)
theorem aui (A:Option Addr)(n c:Nat)(l:List P3)(w:World)(T:aaC w A n c l):Calls Tryz.prog 17 #[.slice A n c] w fun e w'=>e=.returned (.bool (noX l && decide (l.length≤15)))∧Below w.heap.size w w':=by
 have hn:=T.cnt;have HT:Hid (∀ W,Below w.heap.size w W→aaC W A n c l):=aac fun W hb=>T.keep hb;have HN:=aac T.len;clear T;obtain⟨F,hF⟩:∃ F,F=(noX l && decide (l.length≤15)):=⟨_,rfl⟩;rw[← hF];have HF:=aac hF;clear hF;go_enter Tryz.func17,Tryz.ntmps17;go_wp2_with fail;go_loopw [7] (fun i wr=>∃ k:Nat,i=.int .i64 k∧k≤n∧Hid (Below w.heap.size w wr)∧Hid (noX (l.take k)=true)) (fun i _=>n - (intOf i).toNat);case atStart=>exact⟨0,rfl,Nat.zero_le _,aac (Below.refl _ w),aac rfl⟩
 case round=>
  obtain⟨k,rfl,hk,HB,HA⟩:=hrel;by_cases hlt:k < n
  · have k1:(k:Int) < (n:Int):=(by omega);have k2:(0:Int)≤(k:Int):=(by omega);have hkl:k < l.length:=by rw[← HN.out];exact hlt
    have hx:=List.getElem?_eq_getElem hkl;obtain⟨b',off,hA,hbl,d0,d1,d2⟩:=(HT.out wr HB.out).rd k _ hx;have HX:=aac hx;generalize l[k]=y at *;subst hA;obtain⟨⟨u,ylo⟩,yv⟩:=y;dsimp only at d0 d1 d2;have HB1:=aac (HB.out.alloc HB.out.size (.cells #[.string u,.string ylo,.string yv] 40));have HTk:=aac (atV HX.out);clear hx hkl hbl;rcases auy u ylo with ⟨q1,q2,⟨e1,e2,e3⟩,y1,y2⟩ | ⟨q,⟨e1,e2,e3⟩,y1,y2⟩ | ⟨q,e1,e2,e3⟩
    · have HE:Hid (F=false):=aac (by rw[HF.out,arT HX.out q1 q2];rfl);clear q1 q2 HTk HX HA;go_wp2;go_ret;exact⟨by rw[HE.out] <;> rfl,HB1.out⟩
    · have HA2:Hid (noX (l.take (k+1))=true):=aac (by rw[HTk.out,HA.out,q];rfl);clear q HTk HX HA;go_wp2_with fail;go_roundw;case rel=>exact⟨k+1,by go_num,by omega,HB1,HA2⟩
      case measure=>simp only[intOf];omega
    · have HA2:Hid (noX (l.take (k+1))=true):=aac (by rw[HTk.out,HA.out,q];rfl);clear q HTk HX HA;go_wp2_with fail;go_roundw;case rel=>exact⟨k+1,by go_num,by omega,HB1,HA2⟩
      case measure=>simp only[intOf];omega
  · have hke:k=n:=(by omega);subst hke;have k1:¬ (k:Int) < (k:Int):=by omega
    have HE:Hid (F=decide ((k:Int)≤15)):=aac (by
     have h:=HA.out;rw[List.take_of_length_le (by rw[HN.out];exact Nat.le_refl _)] at h;rw[HF.out,h,← HN.out,Bool.true_and];have:((k:Int)≤15)↔(k≤15):=(by omega);simp only[this])
    clear HA;go_wp2;go_ret;exact⟨by rw[HE.out] <;> rfl,HB.out⟩
section
variable {pL tR:ByteArray→Bool}
theorem a0X (p u:Bool)(ux us ul:ByteArray)(ua:List P3)(uk nx:Fo):liK pL tR p (.cons u ux us ul ua uk nx)=(!(p && u) && liK pL tR false (.cons u ux us ul ua uk .nil) && liK pL tR u nx):=by
 rw[liK,liK,liK];simp
theorem a0B (tx sp lo:ByteArray)(ats:List P3)(ks:Fo):liK pL tR false (.cons true tx sp lo ats ks .nil)=aao pL tR ⟨2,emB,emB,[],tx⟩:=by
 rw[liK,liK];simp
theorem a0q (tx sp lo:ByteArray)(ats:List P3)(ks:Fo):liK pL tR false (.cons false tx sp lo ats ks .nil)=(aao pL tR ⟨1,sp,lo,ats,emB⟩ && (noX ats && decide (ats.length≤15)) && liK pL tR false ks):=by
 rw[liK,liK];simp
end
def LiC (f:Nat)(N:Nat):Prop:=∀ (t:Bool) (tx sp lo:ByteArray) (ats:List P3) (ks:Fo) (Aa:Option Addr) (na ca:Nat) (Ak:Option Addr) (nk ck:Nat) (P:Nat→Prop) (w:World),ks.siz < N→Tr1 P w tx sp lo ats ks Aa na ca Ak nk ck→(∀ x∈(Fo.cons t tx sp lo ats ks .nil).evs,RgB x)→
    Calls Tryz.prog f #[.agg #[.bool t,.string tx,.string sp,.string lo,.slice Aa na ca,.slice Ak nk ck]] w fun e w'=>e=.returned (.bool (liK plF rtF false (Fo.cons t tx sp lo ats ks .nil)))∧Below w.heap.size w w'
theorem anD:∀ (k:Nat) (f:Fo),∀ x∈(f.drop k).evs,x∈f.evs
 | 0,f,x,h=>h
 | k+1,.nil,x,h=>h
 | k+1,.cons t tx sp lo ats ks nx,x,h=>by
   rw[Fo.evs];exact List.mem_append.2 (.inr (anD k nx x h))
theorem agu (t:Bool)(tx sp lo:ByteArray)(ats:List P3)(ks nx:Fo):(Fo.cons t tx sp lo ats ks nx).evs=(Fo.cons t tx sp lo ats ks .nil).evs++nx.evs:=by
 rw[Fo.evs,Fo.evs,Fo.evs,List.append_nil]
theorem a1p {sp lo tx:ByteArray}{ats:List P3}{ks:Fo}(h:∀ x∈(Fo.cons false tx sp lo ats ks .nil).evs,RgB x){k:Nat}{u:Bool}{ux us ul:ByteArray}{ua:List P3}{uk nx:Fo}(e:ks.drop k=.cons u ux us ul ua uk nx):∀ x∈(Fo.cons u ux us ul ua uk .nil).evs,RgB x:=fun x hx=>by
 refine h x ?_;rw[afz];refine List.mem_append.2 (.inl (List.mem_append.2 (.inr (anD k ks x ?_))));rw[e,agu];exact List.mem_append.2 (.inl hx)
theorem a2k {sp lo tx:ByteArray}{ats:List P3}{ks:Fo}(h:∀ x∈(Fo.cons false tx sp lo ats ks .nil).evs,RgB x):RgB ⟨1,sp,lo,ats,emB⟩:=h _ (by rw[afz];simp)
theorem a4X {sp lo tx:ByteArray}{ats:List P3}{ks:Fo}(h:∀ x∈(Fo.cons true tx sp lo ats ks .nil).evs,RgB x):RgB ⟨2,emB,emB,[],tx⟩:=h _ (by rw[Fo.evs,if_pos rfl];simp)
theorem alV:∀ f:Fo,f.drop f.len=.nil
 | .nil=>rfl
 | .cons _ _ _ _ _ _ nx=>alV nx
theorem arX {ks:Fo}{nk:Nat}(h:nk=ks.len):ks.drop nk=.nil:=by rw[h];exact alV ks
theorem ays (N:Nat)(hIH:Hid (LiC 7 N)):LiC 7 (N+1):=by
 intro t tx sp lo ats ks Aa na ca Ak nk ck P w hN T hR;have HK0:=aac (abJ w 32 #[.bool t,.string tx,.string sp,.string lo,.slice Aa na ca,.slice Ak nk ck]);have HB0:=aac ((Below.refl w.heap.size w).alloc (Nat.le_refl _) (.cells #[.bool t,.string tx,.string sp,.string lo,.slice Aa na ca,.slice Ak nk ck] 32))
 cases t with
 | true=>
   rw[a0B];have C:=aac (aqZ none 0 0 ⟨2,emB,emB,[],tx⟩ (w.alloc (.cells #[.bool true,.string tx,.string sp,.string lo,.slice Aa na ca,.slice Ak nk ck] 32)) (aij _) (a4X hR));clear T hR;generalize aao plF rtF ⟨2,emB,emB,[],tx⟩=F at *;go_enter Tryz.func7,Tryz.ntmps7;go_wp2_with fail;refine C.out.mono ?_;rintro e w1 ⟨rfl,b1⟩;have HB1:=aac (HB0.out.trans (b1.mono HB0.out.size));clear C b1;go_wp2;go_ret;exact⟨rfl,HB1.out⟩
 | false=>
   rw[a0q];have hnk:=T.ks.2.1;have HNL:=aac T.ks.1;have HT:Hid (∀ W,Below w.heap.size w W→Tr1 P W tx sp lo ats ks Aa na ca Ak nk ck):=aac fun W hW=>T.keep hW;have HZ:=aac (show w.heap.size < (w.alloc (.cells #[.bool false,.string tx,.string sp,.string lo,.slice Aa na ca,.slice Ak nk ck] 32)).heap.size by simp);have C1:=aac (aqZ Aa na ca ⟨1,sp,lo,ats,emB⟩ (w.alloc (.cells #[.bool false,.string tx,.string sp,.string lo,.slice Aa na ca,.slice Ak nk ck] 32)) (T.keep HB0.out).at_ (a2k hR));have C2:Hid (∀ W,Below w.heap.size w W→Calls Tryz.prog 17 #[.slice Aa na ca] W fun e w'=>e=.returned (.bool (noX ats && decide (ats.length≤15)))∧Below W.heap.size W w'):=aac fun W hW=>aui Aa na ca ats W (T.keep hW).at_
   have CS:Hid (∀ (u:Bool) (ux us ul:ByteArray) (ua:List P3) (uk:Fo) (u1:Option Addr) (u2 u3:Nat) (u4:Option Addr) (u5 u6 k:Nat) W,ks.drop k=.cons u ux us ul ua uk (ks.drop (k+1))→Tr1 P W ux us ul ua uk u1 u2 u3 u4 u5 u6→Calls Tryz.prog 7 #[.agg #[.bool u,.string ux,.string us,.string ul,.slice u1 u2 u3,.slice u4 u5 u6]] W fun e w'=>e=.returned (.bool (liK plF rtF false (Fo.cons u ux us ul ua uk .nil)))∧Below W.heap.size W w'):=aac fun u ux us ul ua uk u1 u2 u3 u4 u5 u6 k W ed hX=>by
    have hsk:=ahG ed;exact hIH.out u ux us ul ua uk u1 u2 u3 u4 u5 u6 P W (by omega) hX (a1p hR ed)
   clear T hR;generalize aao plF rtF ⟨1,sp,lo,ats,emB⟩=r at *;generalize (noX ats && decide (ats.length≤15))=f at *;obtain⟨F,hF⟩:∃ F,F=(r && f && liK plF rtF false ks):=⟨_,rfl⟩;rw[← hF];have HF0:=aac hF;clear hF;go_enter Tryz.func7,Tryz.ntmps7;go_wp2_with fail;refine C1.out.mono ?_;rintro e w1 ⟨rfl,b1⟩;have HB1:=aac (HB0.out.trans (b1.mono HB0.out.size));have HK1:=aac ((b1.block _ HZ.out).trans HK0.out);have HZ1:=aac (Nat.lt_of_lt_of_le HZ.out b1.size);obtain⟨c0,c1,c2,c3,c4,c5⟩:=cells6 HK1.out;clear b1 C1 HK0 HB0 HZ
   cases r with
   | false=>
     have HE:Hid (F=false):=aac (by rw[HF0.out];rfl);go_wp2;go_ret;exact⟨by rw[HE.out] <;> rfl,HB1.out⟩
   | true=>
     have C3:=aac (C2.out w1 HB1.out);go_wp2_with fail;refine C3.out.mono ?_;rintro e w2 ⟨rfl,b2⟩;have HB2:=aac (HB1.out.trans (b2.mono HB1.out.size));have HK2:=aac ((b2.block _ HZ1.out).trans HK1.out);have HZ2:=aac (Nat.lt_of_lt_of_le HZ1.out b2.size);clear b2 C3 C2 HK1 HB1 HZ1 c0 c1 c2 c3 c4 c5;obtain⟨c0,c1,c2,c3,c4,c5⟩:=cells6 HK2.out
     cases f with
     | false=>
       have HE:Hid (F=false):=aac (by rw[HF0.out];rfl);go_wp2;go_ret;exact⟨by rw[HE.out] <;> rfl,HB2.out⟩
     | true=>
       have HF:Hid (F=liK plF rtF false ks):=aac (by rw[HF0.out];rfl);clear HF0;go_wp2_with fail;clear c0 c1 c2 c3 c4 c5;go_loopw [3,28] (fun v i wr=>∃ (k:Nat) (p:Bool),v=.bool p∧i=.int .i64 k∧k≤nk∧Hid (Below w.heap.size w wr)∧Hid (F=liK plF rtF p (ks.drop k))) (fun _ i _=>nk - (intOf i).toNat);case atStart=>exact⟨0,false,rfl,rfl,Nat.zero_le _,HB2,HF⟩
       case round=>
        clear HB2 HF HK2 HZ2;obtain⟨k,p,rfl,rfl,hk,HB,HA⟩:=hrel;by_cases hlt:k < nk
        · have g1:(k:Int) < (nk:Int):=(by omega);have g2:(0:Int)≤(k:Int):=(by omega);obtain⟨u,ux,us,ul,ua,uk,b1,o1,u1,u2,u3,u4,u5,u6,ed,hAk,hb1,x6,Y⟩:=(HT.out wr HB.out).ks.at_ (k:=k) hlt;subst hAk;have hB9:Below wr.heap.size wr (wr.alloc (.cells #[.bool u,.string ux,.string us,.string ul,.slice u1 u2 u3,.slice u4 u5 u6] 32)):=(Below.refl _ wr).alloc (Nat.le_refl _) _;have C9:=aac (CS.out u ux us ul ua uk u1 u2 u3 u4 u5 u6 k (wr.alloc (.cells #[.bool u,.string ux,.string us,.string ul,.slice u1 u2 u3,.slice u4 u5 u6] 32)) ed (Y.keep hB9));have HK9:=aac (abJ wr 32 #[.bool u,.string ux,.string us,.string ul,.slice u1 u2 u3,.slice u4 u5 u6]);have HB9:=aac (HB.out.trans (hB9.mono HB.out.size));have HZ9:=aac (show wr.heap.size < (wr.alloc (.cells #[.bool u,.string ux,.string us,.string ul,.slice u1 u2 u3,.slice u4 u5 u6] 32)).heap.size by simp);have HA2:=aac (HA.out.trans (by rw[ed,a0X]));obtain⟨x1,x2,x3,x4,x5,x7⟩:=x6;clear Y ed hb1 hB9 HA HB;generalize liK plF rtF false (Fo.cons u ux us ul ua uk .nil)=g at *;rcases(show (p=true∧u=true)∨((p && u)=false) by cases p <;> cases u <;> simp) with ⟨hp,hu⟩ | hpu
          · subst hp hu;have HE:Hid (F=false):=aac (by rw[HA2.out];rfl);clear C9 HA2;go_wp2;go_ret;exact⟨by rw[HE.out] <;> rfl,HB9.out⟩
          · have HA3:Hid (F=(g && liK plF rtF u (ks.drop (k+1)))):=aac (by rw[HA2.out,hpu];rfl);clear HA2;cases p
            · clear hpu;go_wp2_with fail;refine C9.out.mono ?_;rintro e w8 ⟨rfl,b8⟩;have HB8:=aac (HB9.out.trans (b8.mono HB9.out.size));obtain⟨y0,y1,y2,y3,y4,y5⟩:=cells6 ((b8.block _ HZ9.out).trans HK9.out);clear b8 C9 x1 x2 x3 x4 x5 x7
              cases g with
              | false=>
                have HE:Hid (F=false):=aac (by rw[HA3.out];rfl);go_wp2;go_ret;exact⟨by rw[HE.out] <;> rfl,HB8.out⟩
              | true=>
                have HA4:Hid (F=liK plF rtF u (ks.drop (k+1))):=aac (by rw[HA3.out];rfl);clear HA3;go_wp2_with fail;go_roundw;case rel=>exact⟨k+1,u,rfl,by go_num,by omega,HB8,HA4⟩
                case measure=>simp only[intOf];omega
            · obtain rfl:u=false:=(by cases u <;> simp_all);clear hpu;go_wp2_with fail;refine C9.out.mono ?_;rintro e w8 ⟨rfl,b8⟩;have HB8:=aac (HB9.out.trans (b8.mono HB9.out.size));obtain⟨y0,y1,y2,y3,y4,y5⟩:=cells6 ((b8.block _ HZ9.out).trans HK9.out);clear b8 C9 x1 x2 x3 x4 x5 x7
              cases g with
              | false=>
                have HE:Hid (F=false):=aac (by rw[HA3.out];rfl);go_wp2;go_ret;exact⟨by rw[HE.out] <;> rfl,HB8.out⟩
              | true=>
                have HA4:Hid (F=liK plF rtF false (ks.drop (k+1))):=aac (by rw[HA3.out];rfl);clear HA3;go_wp2_with fail;go_roundw;case rel=>exact⟨k+1,false,rfl,by go_num,by omega,HB8,HA4⟩
                case measure=>simp only[intOf];omega
        · have hke:k=nk:=(by omega);have HE:Hid (F=true):=aac (by rw[HA.out,hke,arX HNL.out];rfl);have g1:¬ (k:Int) < (nk:Int):=(by omega);clear hke HA;go_wp2;go_ret;exact⟨by rw[HE.out] <;> rfl,HB.out⟩
theorem ama:∀ N,LiC 7 N
 | 0=>fun t tx sp lo ats ks Aa na ca Ak nk ck P w h=>by omega
 | N+1=>ays N (aac (ama N))
end Go.Proofs.YtiaebhomfebagaaGreatDoor.Ev
namespace Go.Proofs.YtiaebhomfebagaaGreatDoor.Ev
open Go.Joins Go.ChangeShapes Go.WideShapes Go.RowKit Go.Deep
structure TT where
 t:Bool
 tx:ByteArray
 sp:ByteArray
 lo:ByteArray
 ats:List P3
 ks:Fo
 Aa:Option Addr
 na:Nat
 ca:Nat
 Ak:Option Addr
 nk:Nat
 ck:Nat
instance:Nonempty TT:=⟨⟨false,emB,emB,emB,[],.nil,none,0,0,none,0,0⟩⟩
end Go.Proofs.YtiaebhomfebagaaGreatDoor.Ev
namespace Go.Proofs.YtiaebhomfebagaaGreatDoor.Ev
open Go.RowKit
structure TbX (w:World)(u:Bool)(tx sp lo:ByteArray)(ats:List P3)(ks:Fo)(Aa:Option Addr)(na ca:Nat)(Ak:Option Addr)(nk ck tb:Nat)(W:World):Prop where
 box:W.heap[tb]?=some (.cells #[.bool u,.string tx,.string sp,.string lo,.slice Aa na ca,.slice Ak nk ck] 32 (0,0))
 tr:Tr1 (· < W.heap.size) W tx sp lo ats ks Aa na ca Ak nk ck
 bel:Below w.heap.size w W
section
variable {w W W':World} {u:Bool} {tx sp lo:ByteArray} {ats:List P3} {ks:Fo} {Aa:Option Addr} {na ca:Nat} {Ak:Option Addr} {nk ck tb:Nat}
theorem TbX.keep (h:TbX w u tx sp lo ats ks Aa na ca Ak nk ck tb W)(hb:Below W.heap.size W W'):TbX w u tx sp lo ats ks Aa na ca Ak nk ck tb W':=⟨(hb.block _ (Array.getElem?_eq_some_iff.1 h.box).1).trans h.box,(h.tr.keep hb).mono fun b hp=>Nat.lt_of_lt_of_le hp hb.size,h.bel.trans (hb.mono h.bel.size)⟩
theorem TbX.s6 (h:TbX w u tx sp lo ats ks Aa na ca Ak nk ck tb W):W.cell? ⟨tb,0,none⟩=some (.bool u)∧W.cell? ⟨tb,1,none⟩=some (.string tx)∧W.cell? ⟨tb,2,none⟩=some (.string sp)∧W.cell? ⟨tb,3,none⟩=some (.string lo)∧W.cell? ⟨tb,4,none⟩=some (.slice Aa na ca)∧W.cell? ⟨tb,5,none⟩=some (.slice Ak nk ck):=cells6 h.box
end
structure a4A (f:Fo):Prop where
 siz:f.siz≤150
 evs:f.evs.length≤400
 few:∀ (k:Nat) (x:RE),f.evs[k]?=some x→a5U x
theorem a4A.all {f:Fo}(h:a4A f):∀ x∈f.evs,a5U x:=fun x hx=>by
 obtain⟨k,hk⟩:=List.getElem?_of_mem hx;exact h.few k x hk
theorem akp:∀ f:Fo,(∀ x∈f.evs,a5U x)→f.atN
 | .nil,_=>trivial
 | .cons t tx sp lo ats ks nx,h=>by
   rw[agu] at h;refine⟨fun ht=> ?_,akp nx fun x hx=>h x (List.mem_append.2 (.inr hx))⟩;subst ht;rw[afz] at h;refine⟨(h ⟨1,sp,lo,ats,emB⟩ (by simp)).ats,akp ks fun x hx=>h x ?_⟩;exact List.mem_append.2 (.inl (List.mem_append.2 (.inl (List.mem_append.2 (.inr hx)))))
theorem a4A.pr {f:Fo}(h:a4A f)(hM:f.szM){d:ByteArray}(hd:d.size≤1048576):a3f f d:=by
 have ha:=akp f h.all;refine⟨hM,ha,hd,?_⟩;have h1:=ahF f d hM ha;have h2:=h.siz;omega
def uB:ByteArray:=⟨#[117]⟩
def vB:ByteArray:=⟨#[118]⟩
def oB:ByteArray:=⟨#[49]⟩
def aB':ByteArray:=⟨#[97]⟩
def bB':ByteArray:=⟨#[98]⟩
def awA:List P3:=[((vB,bB'),oB)]
def awF:Fo:=.cons false emB uB aB' awA .nil .nil
theorem a3L:strOfNums (txB awF emB)=⟨#[60,97,32,120,109,108,110,115,61,34,117,34,32,120,109,108,110,115,58,110,48,61,34,118,34,32,110,48,58,98,61,34,49,34,47,62]⟩:=by
 refine(aas ?_).symm;unfold awF;rw[apo _ _ _ _ _ _ rfl];have h0:dgB 0=[48]:=abl (by decide);have hs:spL awA=[vB]:=(by decide+kernel);unfold hdB;rw[hs];unfold awA;simp only[bdB,asB,aB,aNm,xnB,nmB,ixS,if_true,h0,List.append_nil];rw[if_neg (by decide),if_pos (by decide),if_neg (by decide),if_neg (by decide)];decide+kernel
theorem atz:aao plF rtF ⟨1,uB,aB',awA,emB⟩=true:=by
 have r1:rtF uB=true:=aqp (l:=[117]) (k:=1) (by decide+kernel) (by decide);have r2:rtF vB=true:=aqp (l:=[118]) (k:=1) (by decide+kernel) (by decide);have r3:rtF bB'=true:=aqp (l:=[98]) (k:=1) (by decide+kernel) (by decide);have r4:rtF oB=true:=aqp (l:=[49]) (k:=1) (by decide+kernel) (by decide);have r5:rtF aB'=true:=a6y;have p1:plF aB'=true:=a6F;have p2:plF bB'=true:=by unfold plF;decide+kernel
 have l1:uB.toList=[117]:=by rw[Lib.toList_data];rfl
 have l2:vB.toList=[118]:=by rw[Lib.toList_data];rfl
 unfold aao nmF awA;dsimp only;rw[if_neg (by decide),if_neg (by decide),p1,r5,r1,l1,if_neg]
 · simp[goA,p2,r2,r3,r4,l2]
 · rintro (h | h | h | h)
   · exact h rfl
   · unfold emp at h;rw[ayP] at h;cases h
   · cases h
   · simp at h
theorem a5x:liK plF rtF false awF=true:=by
 unfold awF;rw[a0q,atz];simp[liK,awA];decide+kernel
theorem a4G:∀ x∈awF.evs,RgB x:=by
 intro x hx;unfold awF at hx;rw[afz] at hx;simp only[Fo.evs,List.append_nil,List.cons_append,List.nil_append,List.mem_cons,List.not_mem_nil,or_false] at hx;rcases hx with rfl | rfl
 · refine⟨by decide,by decide,by decide,fun _ y hy=> ?_⟩;simp only[awA,List.mem_cons,List.not_mem_nil,or_false] at hy;rw[hy];decide
 · exact⟨by decide,by decide,by decide,fun _ y hy=>by cases hy⟩
theorem a5d:a3f awF emB:=by
 have hM:awF.szM:=⟨⟨by decide,by decide,by decide,fun x hx=>by
  simp only[awA,List.mem_cons,List.not_mem_nil,or_false] at hx;rw[hx];decide⟩,trivial,trivial⟩
 have ha:awF.atN:=⟨fun _=>⟨by decide,trivial⟩,trivial⟩;refine⟨hM,ha,by decide,?_⟩;have h1:=ahF awF emB hM ha;rw[show awF.siz=1 from rfl] at h1;exact Nat.le_trans h1 (by decide+kernel)
theorem azd:liK plF rtF false (Fo.cons false emB emB emB [] .nil .nil)=false:=by
 rw[a0q]
 have:aao plF rtF ⟨1,emB,emB,[],emB⟩=false:=by
  unfold aao nmF;dsimp only;have h:plF emB=false:=by unfold plF;decide+kernel
  rw[h];simp
 rw[this];rfl
theorem a1f:∀ x∈(Fo.cons false emB emB emB [] .nil .nil).evs,RgB x:=by
 intro x hx;rw[afz] at hx;simp only[Fo.evs,List.append_nil,List.cons_append,List.nil_append,List.mem_cons,List.not_mem_nil,or_false] at hx;rcases hx with rfl | rfl
 · exact⟨by decide,by decide,by decide,fun _ y hy=>by cases hy⟩
 · exact⟨by decide,by decide,by decide,fun _ y hy=>by cases hy⟩
theorem arZ (P:Nat→Prop)(W:World):Tr1 P W emB emB emB [] .nil none 0 0 none 0 0:=⟨⟨by decide,by decide,by decide⟩,aij _,fun h=>absurd h (Nat.lt_irrefl 0),awh _ _⟩
theorem a4S {W:World}{b:Nat}(h:W.heap[b]?=some (.cells #[.string vB,.string bB',.string oB] 40 (0,0))):Tr1 (· < W.heap.size) W emB uB aB' awA .nil (some ⟨b,0,none⟩) 1 1 none 0 0:=by
 have hb:=(Array.getElem?_eq_some_iff.1 h).1
 have hT:aaC W (some ⟨b,0,none⟩) 1 1 awA:=⟨rfl,by decide,by decide,fun x hx=>by
  simp only[awA,List.mem_cons,List.not_mem_nil,or_false] at hx;rw[hx]
  decide,fun k x hk=>by
  obtain⟨c0,c1,c2⟩:=cells3 h
  have h0:k=0:=by
   have:=(List.getElem?_eq_some_iff.1 hk).1;simp[awA] at this;exact this
  subst h0;obtain rfl:((vB,bB'),oB)=x:=(by simpa [awA] using hk);exact⟨b,0,rfl,hb,c0,c1,c2⟩,fun e=>by cases e⟩
 exact⟨⟨by decide,by decide,by decide⟩,hT,hT.low,awh _ _⟩
end Go.Proofs.YtiaebhomfebagaaGreatDoor.Ev
namespace Go.Proofs.YtiaebhomfebagaaGreatDoor.Ev
open Go.RowKit
section
variable {w W W':World} {u:Bool} {tx sp lo:ByteArray} {ats:List P3} {ks:Fo} {Aa:Option Addr} {na ca:Nat} {Ak:Option Addr} {nk ck tb:Nat}
theorem TbX.mk' (hb:Below w.heap.size w W)(ht:Tr1 (· < W.heap.size) W tx sp lo ats ks Aa na ca Ak nk ck):TbX w u tx sp lo ats ks Aa na ca Ak nk ck W.heap.size (W.alloc (.cells #[.bool u,.string tx,.string sp,.string lo,.slice Aa na ca,.slice Ak nk ck] 32)):=by
 have h:=(Below.refl W.heap.size W).alloc (Nat.le_refl _) (.cells #[.bool u,.string tx,.string sp,.string lo,.slice Aa na ca,.slice Ak nk ck] 32);exact⟨abJ W 32 _,(ht.keep h).mono fun b hp=>Nat.lt_of_lt_of_le hp h.size,hb.trans (h.mono hb.size)⟩
end
theorem aqz (w:World)(hT:TbI w):Calls Tryz.prog 4 #[] w fun e w'=>e=.returned (.bool true)∧Below w.heap.size w w':=by
 have B0:Below w.heap.size w (w.alloc (.cells #[.string vB,.string bB',.string oB] 40)):=(Below.refl _ w).alloc (Nat.le_refl _) _
 have X0:Hid (TbX w false emB uB aB' awA .nil (some ⟨w.heap.size,0,none⟩) 1 1 none 0 0 (w.heap.size+1) ((w.alloc (.cells #[.string vB,.string bB',.string oB] 40)).alloc (.cells #[.bool false,.string emB,.string uB,.string aB',.slice (some ⟨w.heap.size,0,none⟩) 1 1,.slice none 0 0] 32))):=aac (by
  have h:=TbX.mk' (u:=false) B0 (a4S (abJ w 40 #[.string vB,.string bB',.string oB]));rw[World.size_alloc] at h;exact h)
 have HTb:=aac hT;clear B0 hT;go_enter Tryz.func4,Tryz.ntmps4;go_upto_region 2 with fail;change Code.wp _ _ _ _ ((w.alloc (.cells #[.string vB,.string bB',.string oB] 40)).alloc (.cells #[.bool false,.string emB,.string uB,.string aB',.slice (some ⟨w.heap.size,0,none⟩) 1 1,.slice none 0 0] 32));generalize (w.alloc (.cells #[.string vB,.string bB',.string oB] 40)).alloc (.cells #[.bool false,.string emB,.string uB,.string aB',.slice (some ⟨w.heap.size,0,none⟩) 1 1,.slice none 0 0] 32)=W0 at *;obtain⟨d0,d1,d2,d3,d4,d5⟩:=X0.out.s6;have CP:=aac (ajK false emB uB aB' awA .nil (some ⟨w.heap.size,0,none⟩) 1 1 none 0 0 W0 X0.out.tr a5d (HTb.out.keep X0.out.bel));rw[show Fo.cons false emB uB aB' awA .nil .nil=awF from rfl,a3L] at CP;go_wp2_with fail;refine CP.out.mono ?_;rintro e w2 ⟨rfl,b2⟩;have X2:=aac (X0.out.keep b2);clear b2 CP X0 d0 d1 d2 d3 d4 d5;obtain⟨d0,d1,d2,d3,d4,d5⟩:=X2.out.s6;have CL:=aac (ama 1 false emB uB aB' awA .nil (some ⟨w.heap.size,0,none⟩) 1 1 none 0 0 _ w2 (by decide) X2.out.tr a4G);rw[show Fo.cons false emB uB aB' awA .nil .nil=awF from rfl,a5x] at CL;go_wp2_with fail;refine CL.out.mono ?_;rintro e w3 ⟨rfl,b3⟩;have X3:=aac (X2.out.keep b3);have CZ:=aac (ama 1 false emB emB emB [] .nil none 0 0 none 0 0 _ w3 (by decide) (arZ (fun _=>True) w3) a1f);rw[azd] at CZ;clear b3 CL X2 d0 d1 d2 d3 d4 d5;go_wp2_with fail;refine CZ.out.mono ?_;rintro e w4 ⟨rfl,b4⟩;have HB:=aac (X3.out.bel.trans (b4.mono X3.out.bel.size));clear b4 CZ X3;go_wp2;go_ret;exact⟨rfl,HB.out⟩
end Go.Proofs.YtiaebhomfebagaaGreatDoor.Ev
namespace Go.Proofs.YtiaebhomfebagaaGreatDoor.Ev
open Go.RowKit
theorem avV (a:ByteArray × ByteArray):eqn a a=true:=by simp[eqn]
theorem auB (a:P3):eq3 a a=true:=by simp[eq3,eqn]
theorem ajT (l:List P3):(l.zip l).all (fun p=>eq3 p.1 p.2)=true:=by
 induction l with
 | nil=>rfl
 | cons x r ih=>simp[auB,ih]
theorem aio:∀ f:Fo,smG f f=true
 | .nil=>rfl
 | .cons t tx sp lo ats ks nx=>by
   rw[smG,aio ks,aio nx,avV,ajT];simp
end Go.Proofs.YtiaebhomfebagaaGreatDoor.Ev
namespace Go.Proofs.YtiaebhomfebagaaGreatDoor.Ev
open Go.RowKit
theorem a3J {l:List RE}{n:Nat}{W w':World}{e:Ending}{sp lo:ByteArray}{ats:List P3}{ks:Fo}(h:ake l n W e w')(hl:l=(Fo.cons false emB sp lo ats ks .nil).evs)(hp:ks.pln=ks)(hd:aha plF rtF l=0)(hn:0 < n):
 ∃ Aa na ca Ak nk ck,e=.returned (.tuple #[.agg #[.bool false,.string emB,.string sp,.string lo,.slice Aa na ca,.slice Ak nk ck],.bool true])∧Tr1 (· < w'.heap.size) w' emB sp lo ats ks Aa na ca Ak nk ck∧Below W.heap.size W w':=by
 obtain⟨hb,_,h3⟩:=h;obtain⟨sp',lo',ats',ks',Aa,na,ca,Ak,nk,ck,e1,e2,e3,e4⟩:=h3 ⟨hd,hn⟩;have:=avl (hl.symm.trans e1);have q:∀ (sp lo:ByteArray) (ats:List P3) (ks:Fo),(Fo.cons false emB sp lo ats ks .nil).pln=.cons false emB sp lo ats ks.pln .nil:=fun sp lo ats ks=>by rw[Fo.pln,if_neg (by decide)];rfl
 rw[q,q,hp,e2] at this;injection this with _ _ q1 q2 q3 q4 _
 subst q1 q2 q3 q4;exact⟨Aa,na,ca,Ak,nk,ck,e3,e4.mono fun b hb=>hb.2,hb⟩
theorem a0u {l:List RE}{n:Nat}{W w':World}{e:Ending}(h:ake l n W e w'):∃ (sp lo:ByteArray) (ats:List P3) (ks:Fo) (Aa:Option Addr) (na ca:Nat) (Ak:Option Addr) (nk ck:Nat) (b:Bool),e=.returned (.tuple #[.agg #[.bool false,.string emB,.string sp,.string lo,.slice Aa na ca,.slice Ak nk ck],.bool b])∧Tr1 (· < w'.heap.size) w' emB sp lo ats ks Aa na ca Ak nk ck∧Below W.heap.size W w':=by
 obtain⟨hb,h2,h3⟩:=h;by_cases hd:aha plF rtF l=0∧0 < n
 · obtain⟨sp',lo',ats',ks',Aa,na,ca,Ak,nk,ck,e1,e2,e3,e4⟩:=h3 hd;exact⟨sp',lo',ats',ks',Aa,na,ca,Ak,nk,ck,true,e3,e4.mono fun b hb=>hb.2,hb⟩
 · exact⟨emB,emB,[],.nil,none,0,0,none,0,0,false,h2 hd,arZ _ _,hb⟩
theorem ajr (t:Bool)(tx sp lo:ByteArray)(ats:List P3)(ks:Fo)(Aa:Option Addr)(na ca:Nat)(Ak:Option Addr)(nk ck:Nat)(Aa':Option Addr)(na' ca':Nat)(Ak':Option Addr)(nk' ck':Nat)(P Q:Nat→Prop)(W:World)(h1:Tr1 P W tx sp lo ats ks Aa na ca Ak nk ck)(h2:Tr1 Q W tx sp lo ats ks Aa' na' ca' Ak' nk' ck'):
 Calls Tryz.prog 9 #[.agg #[.bool t,.string tx,.string sp,.string lo,.slice Aa na ca,.slice Ak nk ck],.agg #[.bool t,.string tx,.string sp,.string lo,.slice Aa' na' ca',.slice Ak' nk' ck']] W fun e w'=>e=.returned (.bool true)∧Below W.heap.size W w':=by
 have h:=anB (ks.siz+1) t tx sp lo ats ks Aa na ca Ak nk ck t tx sp lo ats ks Aa' na' ca' Ak' nk' ck' P Q W (Nat.lt_succ_self _) h1 h2;rw[aio] at h;exact h
theorem auK (s:ByteArray)(w:World)(hs:s.size≤maxLen)(hG:Gl w)(hT:TbI w):Calls Tryz.prog 3 #[.string s] w fun e w'=>e=.returned (.bool true)∧Below w.heap.size w w':=by
 have HAw:Hid (∀ W,Below w.heap.size w W→Calls Tryz.prog 4 #[] W fun e w'=>e=.returned (.bool true)∧Below W.heap.size W w'):=aac fun W hW=>aqz W (hT.keep hW);have HTb:=aac hT;have HG:=aac hG;clear hT hG;go_enter Tryz.func3,Tryz.ntmps3;go_wp2_with fail;refine(HAw.out w (Below.refl _ _)).mono ?_;rintro e w1 ⟨rfl,b1⟩;have HB1:=aac b1;clear b1;by_cases h600:s.size≤600
 · have g1:¬ (600:Int) < (s.size:Int):=(by omega);obtain⟨l,k,hC,hR,hn,hK⟩:=aoh s h600;have HC:=aac hC;have HR:=aac hR;have HK:=aac hK;have HN:=aac hn;have C5:=aac (hC w1 (HG.out.after HB1.out));clear hC hR hK hn HAw;go_wp2_with fail;refine C5.out.mono ?_;rintro e w2 ⟨A,c,pos,rfl,T2,b2⟩;have HB2:=aac (HB1.out.trans (b2.mono HB1.out.size));have HT2:=aac T2;clear b2 T2 C5 HC HB1;have CO:=aac (alb A l.length c l w2 HT2.out HN.out HR.out);by_cases hk:k=0
   · subst hk;obtain⟨hd,h0,hF⟩:=HK.out rfl;have hne:l≠[]:=fun e=>by rw[e] at h0;exact absurd h0 (by decide)
     obtain⟨sp,lo,ats,ks,hl,hp⟩:=anc hd hne;have HF:=aac (hF sp lo ats ks hl hp);have CO2:Hid (∀ W,Below w2.heap.size w2 W→Calls Tryz.prog 6 #[.slice A l.length c] W fun e w'=>∃ Aa na ca Ak nk ck,e=.returned (.tuple #[.agg #[.bool false,.string emB,.string sp,.string lo,.slice Aa na ca,.slice Ak nk ck],.bool true])∧Tr1 (· < w'.heap.size) w' emB sp lo ats ks Aa na ca Ak nk ck∧Below W.heap.size W w'):=aac fun W hW=>(alb A l.length c l W (HT2.out.keep hW) HN.out HR.out).mono fun e w' h=>a3J h hl hp hd h0;have CO3:Hid (∀ A' c' W,abd W A' l.length c' l→Calls Tryz.prog 6 #[.slice A' l.length c'] W fun e w'=>∃ Aa na ca Ak nk ck,e=.returned (.tuple #[.agg #[.bool false,.string emB,.string sp,.string lo,.slice Aa na ca,.slice Ak nk ck],.bool true])∧Tr1 (· < w'.heap.size) w' emB sp lo ats ks Aa na ca Ak nk ck∧Below W.heap.size W w'):=aac fun A' c' W hW=>(alb A' l.length c' l W hW HN.out HR.out).mono fun e w' h=>a3J h hl hp hd h0;have HRf:Hid (∀ x∈(Fo.cons false emB sp lo ats ks .nil).evs,RgB x):=aac (by rw[← hl];exact HR.out);clear hd h0 hF hne hl hp CO HK;go_wp2_with fail;refine(CO2.out w2 (Below.refl _ _)).mono ?_;rintro e w3 ⟨Aa,na,ca,Ak,nk,ck,rfl,tr3,b3⟩;have X3:Hid (TbX w2 false emB sp lo ats ks Aa na ca Ak nk ck w3.heap.size (w3.alloc (.cells #[.bool false,.string emB,.string sp,.string lo,.slice Aa na ca,.slice Ak nk ck] 32))):=aac (TbX.mk' b3 tr3);clear b3 tr3;go_upto_region 5 with fail;generalize w3.alloc (.cells #[.bool false,.string emB,.string sp,.string lo,.slice Aa na ca,.slice Ak nk ck] 32)=W3 at *;generalize w3.heap.size=tb at *;obtain⟨d0,d1,d2,d3,d4,d5⟩:=X3.out.s6;obtain⟨L,hL⟩:∃ L,L=liK plF rtF false (Fo.cons false emB sp lo ats ks .nil):=⟨_,rfl⟩;have CL:=aac (ama (ks.siz+1) false emB sp lo ats ks Aa na ca Ak nk ck _ W3 (Nat.lt_succ_self _) X3.out.tr HRf.out);rw[← hL] at CL;go_wp2_with fail;refine CL.out.mono ?_;rintro e w4 ⟨rfl,b4⟩;have X4:=aac (X3.out.keep b4);clear b4 CL X3 d0 d1 d2 d3 d4 d5 HRf
     cases L with
     | false=>
       clear hL HF CO2 CO3;go_wp2_with fail;go_ret;exact⟨rfl,HB2.out.trans (X4.out.bel.mono HB2.out.size)⟩
     | true=>
       obtain⟨hO,hC2⟩:=HF.out hL.symm;obtain⟨p,hpp⟩:∃ p,p=strOfNums (txB (Fo.cons false emB sp lo ats ks .nil) emB):=⟨_,rfl⟩;have HE2:=aac hC2;rw[← hpp] at HE2
       have CP:Hid (∀ Aa na ca Ak nk ck W,Below w2.heap.size w2 W→Tr1 (· < W.heap.size) W emB sp lo ats ks Aa na ca Ak nk ck→Calls Tryz.prog 8 #[.agg #[.bool false,.string emB,.string sp,.string lo,.slice Aa na ca,.slice Ak nk ck]] W fun e w'=>e=.returned (.string p)∧Below W.heap.size W w'):=aac fun Aa na ca Ak nk ck W hW hT=>by
        rw[hpp];exact ajK false emB sp lo ats ks Aa na ca Ak nk ck W hT hO ((HTb.out.keep HB2.out).keep hW)
       clear hO hC2 hpp hL HF;obtain⟨d0,d1,d2,d3,d4,d5⟩:=X4.out.s6;have C8:=aac (CP.out Aa na ca Ak nk ck w4 X4.out.bel X4.out.tr);go_wp2_with fail;refine C8.out.mono ?_;rintro e w5 ⟨rfl,b5⟩;have X5:=aac (X4.out.keep b5);clear b5 C8 X4 d0 d1 d2 d3 d4 d5;have C5:=aac (HE2.out w5 ((HG.out.after HB2.out).after X5.out.bel));go_wp2_with fail;refine C5.out.mono ?_;rintro e w6 ⟨A',c',pos',rfl,T6,b6⟩;have X6:=aac (X5.out.keep b6);have C6:=aac (CO3.out A' c' w6 T6);clear b6 C5 X5 T6 HE2 CO3;go_wp2_with fail;refine C6.out.mono ?_;rintro e w7 ⟨Ba,ma,da,Bk,mk,dk,rfl,tr7,b7⟩;have Y7:Hid (TbX w2 false emB sp lo ats ks Ba ma da Bk mk dk w7.heap.size (w7.alloc (.cells #[.bool false,.string emB,.string sp,.string lo,.slice Ba ma da,.slice Bk mk dk] 32))):=aac (TbX.mk' (X6.out.bel.trans (b7.mono X6.out.bel.size)) tr7);have X7:Hid (TbX w2 false emB sp lo ats ks Aa na ca Ak nk ck tb (w7.alloc (.cells #[.bool false,.string emB,.string sp,.string lo,.slice Ba ma da,.slice Bk mk dk] 32))):=aac ((X6.out.keep b7).keep ((Below.refl _ w7).alloc (Nat.le_refl _) _));clear b7 tr7 C6 X6;go_upto_region 10 with fail;generalize w7.alloc (.cells #[.bool false,.string emB,.string sp,.string lo,.slice Ba ma da,.slice Bk mk dk] 32)=W7 at *;generalize w7.heap.size=ub at *;have C9:=aac (CO2.out W7 X7.out.bel);go_wp2_with fail;refine C9.out.mono ?_;rintro e w8 ⟨Ca,oa,ea,Ck,ok,ek,rfl,tr8,b8⟩;have Z8:Hid (TbX w2 false emB sp lo ats ks Ca oa ea Ck ok ek w8.heap.size (w8.alloc (.cells #[.bool false,.string emB,.string sp,.string lo,.slice Ca oa ea,.slice Ck ok ek] 32))):=aac (TbX.mk' (X7.out.bel.trans (b8.mono X7.out.bel.size)) tr8);have X8:Hid (TbX w2 false emB sp lo ats ks Aa na ca Ak nk ck tb (w8.alloc (.cells #[.bool false,.string emB,.string sp,.string lo,.slice Ca oa ea,.slice Ck ok ek] 32))):=aac ((X7.out.keep b8).keep ((Below.refl _ w8).alloc (Nat.le_refl _) _));have Y8:Hid (TbX w2 false emB sp lo ats ks Ba ma da Bk mk dk ub (w8.alloc (.cells #[.bool false,.string emB,.string sp,.string lo,.slice Ca oa ea,.slice Ck ok ek] 32))):=aac ((Y7.out.keep b8).keep ((Below.refl _ w8).alloc (Nat.le_refl _) _));clear b8 tr8 C9 X7 Y7 CO2;go_upto_region 11 with fail;generalize w8.alloc (.cells #[.bool false,.string emB,.string sp,.string lo,.slice Ca oa ea,.slice Ck ok ek] 32)=W8 at *;generalize w8.heap.size=vb at *;have CS:Hid (∀ W,TbX w2 false emB sp lo ats ks Aa na ca Ak nk ck tb W→TbX w2 false emB sp lo ats ks Ba ma da Bk mk dk ub W→Calls Tryz.prog 9 #[.agg #[.bool false,.string emB,.string sp,.string lo,.slice Aa na ca,.slice Ak nk ck],.agg #[.bool false,.string emB,.string sp,.string lo,.slice Ba ma da,.slice Bk mk dk]] W fun e w'=>e=.returned (.bool true)∧Below W.heap.size W w'):=aac fun W h1 h2=>ajr false emB sp lo ats ks Aa na ca Ak nk ck Ba ma da Bk mk dk _ _ W h1.tr h2.tr;have CS2:Hid (∀ W,TbX w2 false emB sp lo ats ks Aa na ca Ak nk ck tb W→TbX w2 false emB sp lo ats ks Ca oa ea Ck ok ek vb W→Calls Tryz.prog 9 #[.agg #[.bool false,.string emB,.string sp,.string lo,.slice Aa na ca,.slice Ak nk ck],.agg #[.bool false,.string emB,.string sp,.string lo,.slice Ca oa ea,.slice Ck ok ek]] W fun e w'=>e=.returned (.bool true)∧Below W.heap.size W w'):=aac fun W h1 h2=>ajr false emB sp lo ats ks Aa na ca Ak nk ck Ca oa ea Ck ok ek _ _ W h1.tr h2.tr;obtain⟨x0,x1,x2,x3,x4,x5⟩:=X8.out.s6;obtain⟨y0,y1,y2,y3,y4,y5⟩:=Y8.out.s6;have D1:=aac (CS.out W8 X8.out Y8.out);go_wp2_with fail;refine D1.out.mono ?_;rintro e w9 ⟨rfl,b9⟩;have X9:=aac (X8.out.keep b9);have Y9:=aac (Y8.out.keep b9);have Z9:=aac (Z8.out.keep b9);clear b9 D1 CS X8 Y8 Z8 x0 x1 x2 x3 x4 x5 y0 y1 y2 y3 y4 y5;obtain⟨y0,y1,y2,y3,y4,y5⟩:=Y9.out.s6;have D2:=aac (CP.out Ba ma da Bk mk dk w9 Y9.out.bel Y9.out.tr);go_wp2_with fail;refine D2.out.mono ?_;rintro e wa ⟨rfl,ba⟩;have Xa:=aac (X9.out.keep ba);have Za:=aac (Z9.out.keep ba);clear ba D2 CP X9 Y9 Z9 y0 y1 y2 y3 y4 y5;obtain⟨x0,x1,x2,x3,x4,x5⟩:=Xa.out.s6;obtain⟨z0,z1,z2,z3,z4,z5⟩:=Za.out.s6;have D3:=aac (CS2.out wa Xa.out Za.out);go_wp2_with fail;refine D3.out.mono ?_;rintro e wb ⟨rfl,bb⟩;have Xb:=aac (Xa.out.keep bb);clear bb D3 CS2 Xa Za x0 x1 x2 x3 x4 x5 z0 z1 z2 z3 z4 z5;go_wp2;go_ret;exact⟨rfl,HB2.out.trans (Xb.out.bel.mono HB2.out.size)⟩
   · clear HK;have CO4:Hid (Calls Tryz.prog 6 #[.slice A l.length c] w2 fun e w'=>∃ (sp lo:ByteArray) (ats:List P3) (ks:Fo) (Aa:Option Addr) (na ca:Nat) (Ak:Option Addr) (nk ck:Nat) (b:Bool),e=.returned (.tuple #[.agg #[.bool false,.string emB,.string sp,.string lo,.slice Aa na ca,.slice Ak nk ck],.bool b])∧Tr1 (· < w'.heap.size) w' emB sp lo ats ks Aa na ca Ak nk ck∧Below w2.heap.size w2 w'):=aac (CO.out.mono fun e w' h=>a0u h);clear CO;go_wp2_with fail;refine CO4.out.mono ?_;rintro e w3 ⟨sp,lo,ats,ks,Aa,na,ca,Ak,nk,ck,b,rfl,tr3,b3⟩;have X3:Hid (TbX w2 false emB sp lo ats ks Aa na ca Ak nk ck w3.heap.size (w3.alloc (.cells #[.bool false,.string emB,.string sp,.string lo,.slice Aa na ca,.slice Ak nk ck] 32))):=aac (TbX.mk' b3 tr3);clear b3 tr3 CO4;go_upto_region 5 with fail;generalize w3.alloc (.cells #[.bool false,.string emB,.string sp,.string lo,.slice Aa na ca,.slice Ak nk ck] 32)=W3 at *;generalize w3.heap.size=tb at *;go_wp2;go_ret;exact⟨rfl,HB2.out.trans (X3.out.bel.mono HB2.out.size)⟩
 · have g1:(600:Int) < (s.size:Int):=(by omega);have C2:=aac (HAw.out w1 HB1.out);go_wp2_with fail;refine C2.out.mono ?_;rintro e w3 ⟨rfl,b3⟩;have HB3:=aac (HB1.out.trans (b3.mono HB1.out.size));clear b3;go_wp2;go_ret;exact⟨rfl,HB3.out⟩
end Go.Proofs.YtiaebhomfebagaaGreatDoor.Ev
