/- Lemmas of the claim. -/
import Derived.Test.YtiaebhomfebagaaGreatDoorG27
import Derived.Test.YtiaebhomfebagaaGreatDoorG09
import Derived.Test.YtiaebhomfebagaaGreatDoorG08
import Derived.Test.YtiaebhomfebagaaGreatDoorG06
import Derived.Deep.AppendLies
import Derived.Deep.RegionHeld3
import Derived.Deep.RegionLaw
set_option maxHeartbeats 4000000
set_option maxRecDepth 100000
set_option linter.unusedSimpArgs false
set_option linter.unusedVariables false
namespace Go.Proofs.YtiaebhomfebagaaGreatDoor.Bk
open Go.RowKit
theorem avv {s:ByteArray}(h:Ev.rtF s=true):Rt (aad s):=by
 unfold Ev.rtF at h;exact @of_decide_eq_true _ (Classical.propDecidable _) h
theorem a2I {x:Ev.P2}(h:Ev.nmF Ev.plF Ev.rtF x=true):plb x.2=true∧Rt (aad x.2)∧Rt (aad x.1)∧x.1≠Nz.Sc.XN:=by
 unfold Ev.nmF at h;rw[Bool.and_eq_true,Bool.and_eq_true,Bool.and_eq_true] at h;obtain⟨⟨⟨h1,h2⟩,h3⟩,h4⟩:=h;refine⟨h1,avv h2,avv h3,fun e=> ?_⟩;rw[e] at h4
 revert h4
 rw[show Nz.Sc.XN.toList=[104,116,116,112,58,47,47,119,119,119,46,119,51,46,111,114,103,47,50,48,48,48,47,120,109,108,110,115,47] by rw[Lib.toList_data];rfl];decide
theorem awJ:∀ (l:List Ev.P3) (seen:List Ev.P2),Ev.goA (Ev.nmF Ev.plF Ev.rtF) Ev.rtF seen l=true→(∀ x∈l,Ev.nmF Ev.plF Ev.rtF x.1=true∧Rt (aad x.2)∧∀ y∈seen,y≠x.1)∧l.Pairwise fun a b=>a.1≠b.1
 | [],seen,_=>⟨fun x hx=>absurd hx List.not_mem_nil,List.Pairwise.nil⟩
 | a :: l,seen,h=>by
   unfold Ev.goA at h;rw[Bool.and_eq_true,Bool.and_eq_true,Bool.and_eq_true] at h;obtain⟨⟨⟨h1,h2⟩,h3⟩,h4⟩:=h;obtain⟨i1,i2⟩:=awJ l _ h4
   have h3':∀ y∈seen,y≠a.1:=fun y hy e=>by
    have:(seen.any fun y=>Ev.eqn y a.1)=true:=List.any_eq_true.2 ⟨y,hy,by rw[e];unfold Ev.eqn;simp⟩;rw[this] at h3;cases h3
   refine⟨fun x hx=> ?_,List.Pairwise.cons (fun x hx e=> ?_) i2⟩
   · rcases List.mem_cons.1 hx with rfl | hx
     · exact⟨h1,avv h2,h3'⟩
     · obtain⟨j1,j2,j3⟩:=i1 x hx;exact⟨j1,j2,fun y hy=>j3 y (List.mem_append.2 (.inl hy))⟩
   · exact(i1 x hx).2.2 a.1 (List.mem_append.2 (.inr (List.mem_singleton.2 rfl))) e
theorem a2R {sp lo:ByteArray}{ats:List Ev.P3}(h:Ev.aao Ev.plF Ev.rtF ⟨1,sp,lo,ats,Ev.emB⟩=true)(h2:(Ev.noX ats && decide (ats.length≤15))=true):aeH sp lo ats:=by
 unfold Ev.aao at h;dsimp only at h;rw[if_neg (by decide),if_neg (by decide)] at h;split at h
 · cases h
 · rename_i hc
   have hn:Ev.nmF Ev.plF Ev.rtF (sp,lo)=true:=by
    cases e:Ev.nmF Ev.plF Ev.rtF (sp,lo) with
    | true=>rfl
    | false=>exact absurd (.inr (.inr (.inl e))) hc
   obtain⟨a1,a2,a3,a4⟩:=a2I hn;obtain⟨g1,g2⟩:=awJ ats [] h;rw[Bool.and_eq_true] at h2;refine⟨a1,a2,a3,a4,fun x hx=> ?_,g2,fun x hx e=> ?_,of_decide_eq_true h2.2⟩
   · obtain⟨j1,j2,_⟩:=g1 x hx;obtain⟨b1,b2,b3,b4⟩:=a2I j1;exact⟨b1,b2,b3,b4,j2⟩
   · have:=List.all_eq_true.1 h2.1 x hx;rw[e.1,e.2] at this;simp at this
section
variable {sp lo d:ByteArray} {ats:List Ev.P3}
theorem amo {a b:List Int}(ha:Rn a)(hb:Rn b):Rt (a++b):=(afa ha hb).2
theorem a3P {j:Nat}(h:j < 16):Rn (nL j):=by
 have:∀ i:Fin 16,((nL i.val).all fun c=>decide (32≤c∧c < 128))=true:=(by decide+kernel);exact abq _ (this ⟨j,h⟩)
theorem apW (h:aeH sp lo ats):Tg.isN (elN sp lo)=true:=by
 unfold Tg.isN;rw[akc h.pl]
theorem a1W (h:aeH sp lo ats):Rt (aad (elN sp lo)):=by
 rw[acO];unfold Ev.nmB Ev.xpB;split
 · exact amo (abq [120,109,108,58] (by decide)) (agD h.rl)
 · exact h.rl
theorem a3l {j:Nat}(h:j < 16):Rt (aad (xnJ j)):=by
 rw[air];have e:Ev.xnB j=[120,109,108,110,115,58]++nL j:=by rw[← ajm h];rfl
 rw[e];exact amo (abq _ (by decide)) (a3P h)
theorem a2U (h:aeH sp lo ats){a:Ev.P3}(ha:a∈ats):Rt (aad (atN (Ev.spL ats) a)):=by
 obtain⟨_,h2,_⟩:=h.at_ a ha;rw[aer];unfold Ev.aNm Ev.xpB;split
 · exact h2
 split
 · exact amo (abq [120,109,108,58] (by decide)) (agD h2)
 · have e:[110]++Ev.dgB (Ev.ixS (Ev.spL ats) a.1.1)++[58]++aad a.1.2=(nL (Ev.ixS (Ev.spL ats) a.1.1)++[58])++aad a.1.2:=by rw[← ajm (h.ix _)];rfl
   rw[e];exact amo (afa (a3P (h.ix _)) (abq [58] (by decide))) (agD h2)
def a4x (x:ByteArray × ByteArray):Prop:=Tg.isN x.1=true∧Rt (aad x.1)∧Rt (aad x.2)
theorem atE:∀ (L:List ByteArray) (j:Nat),j+L.length≤16→(∀ s∈L,Rt (aad s))→∀ x∈bL j L,a4x x∧∃ i,j≤i∧i < j+L.length∧x.1=xnJ i
 | [],j,_,_,x,hx=>by cases hx
 | s :: r,j,hj,h,x,hx=>by
   rw[List.length_cons] at hj ⊢;rcases List.mem_cons.1 hx with rfl | hx
   · refine⟨⟨?_,a3l (by omega),h s List.mem_cons_self⟩,j,Nat.le_refl _,by omega,rfl⟩;unfold Tg.isN;rw[adu (by omega)]
   · obtain⟨h1,i,h2,h3,h4⟩:=atE r (j+1) (by omega) (fun y hy=>h y (List.mem_cons_of_mem _ hy)) x hx;exact⟨h1,i,by omega,by omega,h4⟩
theorem asM (h:aeH sp lo ats):∀ s∈Ev.spL ats,Rt (aad s):=fun s hs=>by
 obtain⟨_,x,hx,e⟩:=Ev.adv.1 hs;rw[← e];exact(h.at_ x hx).2.2.1
theorem a0n (h:aeH sp lo ats):∀ x∈b0 sp d,a4x x∧x.1=Nz.Sc.xn:=fun x hx=>by
 unfold b0 at hx;split at hx
 · rw[List.mem_singleton.1 hx];refine⟨⟨?_,?_,h.rs⟩,rfl⟩
   · unfold Tg.isN;rw[ado avF]
   · rw[asA];exact(abq _ (by decide)).2
 · cases hx
theorem a2T (h:aeH sp lo ats):∀ x∈aL (Ev.spL ats) ats,a4x x∧Nz.Sc.aeR x.1=none:=fun x hx=>by
 obtain⟨a,ha,rfl⟩:=List.mem_map.1 hx;refine⟨⟨?_,a2U h ha,(h.at_ a ha).2.2.2.2⟩,aqs h ha⟩;unfold Tg.isN;rw[adw (h.at_ a ha).1 (h.ix _)]
theorem awQ (h:aeH sp lo ats):∀ x∈ahy sp d ats,a4x x:=fun x hx=>by
 have h15:=ahs h;unfold ahy at hx;rcases List.mem_append.1 hx with hx | hx
 · rcases List.mem_append.1 hx with hx | hx
   · exact(a0n h x hx).1
   · exact(atE _ 0 (by omega) (asM h) x hx).1
 · exact(a2T h x hx).1
theorem a1u:∀ (L:List ByteArray) (j:Nat),j+L.length≤16→(bL j L).Pairwise fun a b=>a.1≠b.1
 | [],j,_=>List.Pairwise.nil
 | s :: r,j,hj=>by
   rw[List.length_cons] at hj;refine List.Pairwise.cons (fun x hx e=> ?_) (a1u r (j+1) (by omega))
   have key:∀ (L:List ByteArray) (k:Nat),∀ x∈bL k L,∃ i,k≤i∧i < k+L.length∧x.1=xnJ i:=by
    intro L
    induction L with
    | nil=>intro k x hx;cases hx
    | cons s r ih=>
      intro k x hx;rcases List.mem_cons.1 hx with rfl | hx
      · exact⟨k,Nat.le_refl _,by simp,rfl⟩
      · obtain⟨i,a,b,c⟩:=ih (k+1) x hx;exact⟨i,by omega,by simp;omega,c⟩
   obtain⟨i,h1,h2,h3⟩:=key r (j+1) x hx;have e2:xnJ j=xnJ i:=e.trans h3;have e3:=congrArg Nz.aak e2;rw[adu (by omega),adu (by omega)] at e3;have e4:=aoV (by omega) (by omega) (congrArg (fun q=>q.2.1) e3);omega
theorem ayL (h:aeH sp lo ats){a b:Ev.P3}(ha:a∈ats)(hb:b∈ats)(e:pfx (Ev.spL ats) a.1.1=pfx (Ev.spL ats) b.1.1):a.1.1=b.1.1:=by
 by_cases a1:a.1.1=Ev.emB
 · have:pfx (Ev.spL ats) b.1.1=Nz.em:=by rw[← e];unfold pfx;rw[if_pos a1]
   rw[a1,amr this]
 by_cases b1:b.1.1=Ev.emB
 · have:pfx (Ev.spL ats) a.1.1=Nz.em:=by rw[e];unfold pfx;rw[if_pos b1]
   exact absurd (amr this) a1
 unfold pfx at e;rw[if_neg a1,if_neg b1] at e;by_cases a2:a.1.1=Ev.adk
 · by_cases b2:b.1.1=Ev.adk
   · rw[a2,b2]
   · rw[if_pos a2,if_neg b2] at e;exact absurd e.symm (afO _)
 · by_cases b2:b.1.1=Ev.adk
   · rw[if_neg a2,if_pos b2] at e;exact absurd e (afO _)
   · rw[if_neg a2,if_neg b2] at e;have e2:=aoV (h.ix _) (h.ix _) e;have hA:a.1.1∈Ev.spL ats:=Ev.adv.2 ⟨Ev.agN.2 ⟨a1,a2⟩,a,ha,rfl⟩;have hB:b.1.1∈Ev.spL ats:=Ev.adv.2 ⟨Ev.agN.2 ⟨b1,b2⟩,b,hb,rfl⟩
     have key:∀ (L:List ByteArray) (s t:ByteArray),s∈L→t∈L→Ev.ixS L s=Ev.ixS L t→s=t:=by
      intro L
      induction L with
      | nil=>intro s t h;cases h
      | cons x r ih=>
        intro s t hs ht he;rw[Ev.ixS,Ev.ixS] at he;by_cases c1:x=s
        · by_cases c2:x=t
          · rw[← c1,← c2]
          · rw[if_pos c1,if_neg c2] at he;omega
        · by_cases c2:x=t
          · rw[if_neg c1,if_pos c2] at he;omega
          · rw[if_neg c1,if_neg c2] at he;exact ih s t ((List.mem_cons.1 hs).resolve_left fun q=>c1 q.symm) ((List.mem_cons.1 ht).resolve_left fun q=>c2 q.symm) (by omega)
     exact key _ _ _ hA hB e2
theorem a5t (h:aeH sp lo ats):(aL (Ev.spL ats) ats).Pairwise fun a b=>a.1≠b.1:=by
 unfold aL;rw[List.pairwise_map];refine h.nd.imp_of_mem fun {a b} ha hb hne e=>hne ?_;have e3:=congrArg Nz.aak (show atN (Ev.spL ats) a=atN (Ev.spL ats) b from e);rw[adw (h.at_ a ha).1 (h.ix _),adw (h.at_ b hb).1 (h.ix _)] at e3;exact Prod.ext (ayL h ha hb (congrArg (fun q=>q.1) e3)) (congrArg (fun q=>q.2.1) e3)
theorem a4g (h:aeH sp lo ats):(ahy sp d ats).Pairwise fun a b=>a.1≠b.1:=by
 have h15:=ahs h;unfold ahy;rw[List.pairwise_append,List.pairwise_append];refine⟨⟨?_,a1u _ 0 (by omega),fun x hx y hy e=> ?_⟩,a5t h,fun x hx y hy e=> ?_⟩
 · unfold b0;split
   · exact List.pairwise_singleton _ _
   · exact List.Pairwise.nil
 · obtain⟨_,i,_,hi,h3⟩:=atE _ 0 (by omega) (asM h) y hy;have e2:Nz.Sc.xn=xnJ i:=(a0n h x hx).2.symm.trans (e.trans h3);have e3:=congrArg Nz.aak e2;rw[ado avF,adu (by omega)] at e3;exact aeN (congrArg (fun q=>q.1) e3)
 · have hy2:=(a2T h y hy).2;rw[← e] at hy2;rcases List.mem_append.1 hx with hx | hx
   · rw[(a0n h x hx).2,asf] at hy2;cases hy2
   · obtain⟨_,i,_,hi,h3⟩:=atE _ 0 (by omega) (asM h) x hx;rw[h3,a0W (by omega)] at hy2;cases hy2
theorem axK:∀ (L:List ByteArray) (j:Nat),(bL j L).length=L.length
 | [],j=>rfl
 | s :: r,j=>by rw[bL,List.length_cons,List.length_cons,axK r]
theorem aze (h:aeH sp lo ats):(ahy sp d ats).length≤32:=by
 have h15:=ahs h;have h16:=h.cnt;unfold ahy aL;rw[List.length_append,List.length_append,List.length_map,axK];unfold b0;split
 · rw[List.length_singleton];omega
 · rw[List.length_nil];omega
theorem rgp (h:aeH sp lo ats):Tg.RgP (elN sp lo) (ahy sp d ats):=by
 refine⟨apW h,aze h,fun k x hx=> ?_⟩;obtain⟨h1,h2,h3⟩:=awQ (d:=d) h x (List.mem_of_getElem? hx);refine⟨h1,h3,fun j y hj hy e=> ?_⟩;have hn:=a4g (d:=d) h;rw[List.pairwise_iff_getElem] at hn;obtain⟨kj,ej⟩:=List.getElem?_eq_some_iff.1 hy;obtain⟨kk,ek⟩:=List.getElem?_eq_some_iff.1 hx;have:=hn j k kj kk hj;rw[ej,ek] at this;exact this (aaW e)
theorem a0k (sp lo d:ByteArray)(ats:List Ev.P3):aad (strOfNums (Tg.txF [32] [] [] [] (elN sp lo) (ahy sp d ats)))=Tg.txF [32] [] [] [] (elN sp lo) (ahy sp d ats):=by
 refine Ev.abX fun x hx=> ?_;have:=Ev.axz sp lo d ats;rw[azE] at this;exact this x (List.mem_cons_of_mem _ hx)
theorem a3T (h:aeH sp lo ats):Tg.aaE (strOfNums (Tg.txF [32] [] [] [] (elN sp lo) (ahy sp d ats)))=(0,elN sp lo,ahy sp d ats):=
 Tg.awf _ _ [32] [] [] [] Tg.a5y (by simp) Tg.a5m Tg.a5m Tg.a5m (rgp h) _ (a0k sp lo d ats)
end
end Go.Proofs.YtiaebhomfebagaaGreatDoor.Bk
namespace Go.Proofs.YtiaebhomfebagaaGreatDoor.Bk
open Go.RowKit
def dpF:Ev.Fo→Nat
 | .nil=>0
 | .cons t tx sp lo ats ks nx=>max (if t=true then 0 else 1+dpF ks) (dpF nx)
theorem apS {R:Ev.RE→Bool}{b:Bool}{p n:Int}{x:Ev.RE}{r:List Ev.RE}(h:0≤Ev.ady R b p n (x :: r)):(if x.kind=1 then n+1 else if x.kind=3 then n - 1 else n)≤64∧0≤Ev.ady R false x.kind (if x.kind=1 then n+1 else if x.kind=3 then n - 1 else n) r:=by
 rw[Ev.ady] at h;by_cases h1:R x=false∨(n == 0)≠b∨(b=true∧x.kind≠1)
 · rw[if_pos h1] at h;omega
 rw[if_neg h1] at h;by_cases h2:x.kind=2∧p=2
 · rw[if_pos h2] at h;omega
 rw[if_neg h2] at h;dsimp only at h;by_cases h3:(64:Int) < (if x.kind=1 then n+1 else if x.kind=3 then n - 1 else n)
 · rw[if_pos h3] at h;omega
 rw[if_neg h3] at h;exact⟨Int.not_lt.1 h3,h⟩
theorem alX {R:Ev.RE→Bool}:∀ (f:Ev.Fo) (b:Bool) (p n:Int) (rest:List Ev.RE),n≤64→0≤Ev.ady R b p n (f.evs++rest)→n+dpF f≤64∧∃ b' p',0≤Ev.ady R b' p' n rest
 | .nil,b,p,n,rest,hn,h=>⟨by simp only[dpF];omega,b,p,h⟩
 | .cons t tx sp lo ats ks nx,b,p,n,rest,hn,h=>by
   rw[Ev.Fo.evs] at h
   cases t with
   | true=>
     rw[if_pos rfl,List.append_assoc,List.singleton_append] at h;have h2:=(apS h).2;rw[if_neg (show ¬ ((2:Int)=1) by decide),if_neg (show ¬ ((2:Int)=3) by decide)] at h2;obtain⟨i1,i2⟩:=alX nx _ _ n rest hn h2;refine⟨?_,i2⟩;rw[dpF,if_pos rfl];omega
   | false=>
     rw[if_neg (by decide),List.append_assoc,List.cons_append] at h;have h2:=apS h;rw[if_pos (show (1:Int)=1 from rfl),List.append_assoc] at h2;obtain⟨i1,b',p',i2⟩:=alX ks _ _ (n+1) _ h2.1 h2.2;rw[List.singleton_append] at i2;have h3:=(apS i2).2;rw[if_neg (show ¬ (Ev.clE.kind=1) by decide),if_pos (show Ev.clE.kind=3 from rfl),show n+1 - 1=n by omega] at h3;obtain⟨j1,j2⟩:=alX nx _ _ n rest hn h3;refine⟨?_,j2⟩;rw[dpF,if_neg (by decide)];omega
theorem a5j (A B:List Int):nx (A++B) A.length=aaT (decide (A.length=0)) false B:=by
 unfold nx;rw[List.drop_left' rfl]
structure Rd (s:Wl.St)(d:ByteArray):Prop where
 ov:s.over=false
 er:s.err=0
 hd:Nz.Sc.acn (Wl.acI s) Nz.em=(d,true)
 hx:Nz.Sc.acn (Wl.acI s) Nz.Sc.xm=(Nz.Sc.XS,true)
theorem ala {s:Wl.St}(h1:s.over=false)(h2:s.err=0)(t:Wl.Tok):Wl.aaF s t=Wl.adi s t:=by
 unfold Wl.aaF;rw[if_neg (by rw[h1];decide),if_neg (by omega)]
theorem alj {A B T:List Int}{k:Tk}{s s':Wl.St}{ev:List Wl.Ev}(out:List Wl.Ev)(hB:B≠[])(hf:aaT (decide (A.length=0)) false (B++T)=(k,B.length,0))(ht:Wl.aaF s (Wl.afo k)=(s',ev,0)):
 Wl.evR (A++B++T) A.length s out=Wl.evR (A++B++T) (A++B).length s' (out++ev):=by
 have hn:nx (A++B++T) A.length=(k,B.length,0):=(by rw[List.append_assoc,a5j,hf]);have hl:0 < B.length:=List.length_pos_iff.2 hB;rw[Wl.ayG out (by simp only[List.length_append];omega) (by rw[hn]) (by rw[hn,ht]),hn,ht,List.length_append]
theorem aub {A T:List Int}{s:Wl.St}(out:List Wl.Ev){tx:ByteArray}(h1:s.over=false)(h2:s.err=0)(hop:s.op≠[])(hw:s.wait=Nz.em)(ht:aad tx≠[])(hR:Rt (aad tx)):
 Wl.evR (A++aaO false (aad tx)++60 :: T) A.length s out=Wl.evR (A++aaO false (aad tx)++60 :: T) (A++aaO false (aad tx)).length { s with wait:=tx } out:=by
 obtain⟨b,hb⟩:=avg (decide (A.length=0)) tx ht hR T
 have:=alj (s:=s) (s':={ s with wait:=tx }) (ev:=[]) out (asQ false ht) hb (by
  rw[ala h1 h2];unfold Wl.adi Wl.afo;rw[if_neg (show ¬ ((3:Int)=1) by decide),if_neg (show ¬ ((3:Int)=2) by decide),if_pos rfl];unfold Wl.acr;rw[if_pos hop,hw]
  have e:Nz.em++strOfNums (aad tx)=tx:=by
   rw[← aas (s:=tx) rfl];apply aaW;simp[aad,Nz.em]
  rw[e])
 rw[List.append_nil] at this;exact this
theorem aiW {A T:List Int}{s:Wl.St}(out:List Wl.Ev){sp lo d:ByteArray}{ats:List Ev.P3}(emp:Bool)(h:Rd s d)(hE:aeH sp lo ats)(hr:¬ (s.root=true∧s.op=[]))(hl:s.op.length < 64):
 Wl.evR (A++(Ev.hdB sp lo d ats++agV emp)++T) A.length s out=Wl.evR (A++(Ev.hdB sp lo d ats++agV emp)++T) (A++(Ev.hdB sp lo d ats++agV emp)).length
  (if emp=true then { s with wait:=Nz.em,root:=true } else { s with wait:=Nz.em,root:=true,op:=s.op++[(elN sp lo,scW (Wl.acI s) sp d ats)] })
  (out++(Wl.aaH s.wait++(.opn (sp,lo) ats :: if emp=true then [.cls] else []))):=by
 have hk:=arN (decide (A.length=0)) emp (apW hE) (a1W hE) (awQ (d:=d) hE) T;have e1:60 :: (Tg.txF [32] [] [] [] (elN sp lo) (ahy sp d ats)++agV emp++T)=(Ev.hdB sp lo d ats++agV emp)++T:=by rw[azE];simp
 have e2:60 :: (Tg.txF [32] [] [] [] (elN sp lo) (ahy sp d ats)++agV emp)=Ev.hdB sp lo d ats++agV emp:=by rw[azE];simp
 rw[e1,e2] at hk;refine alj out (by rw[← e2];simp) hk ?_;rw[ala h.ov h.er];unfold Wl.adi Wl.afo;rw[if_pos rfl];unfold Wl.aan;rw[if_neg hr];dsimp only;rw[a3T hE,if_neg (fun q=>q rfl)];dsimp only;rw[a2j hE h.hd h.hx];unfold Wl.adE;dsimp only;rw[if_neg (by omega)];unfold Wl.opened;dsimp only
 cases emp with
 | true=>rw[if_pos rfl,if_pos rfl,if_pos rfl]
 | false=>rw[if_neg (by decide),if_neg (by decide),if_neg (by decide)]
theorem a0h {A T:List Int}{s:Wl.St}(out:List Wl.Ev){sp lo:ByteArray}{ats:List Ev.P3}{o:List (ByteArray × List Wl.Pr)}{W:List Wl.Pr}(h1:s.over=false)(h2:s.err=0)(hE:aeH sp lo ats)(ho:s.op=o++[(elN sp lo,W)]):
 Wl.evR (A++([60,47]++Ev.nmB sp lo++[62])++T) A.length s out=Wl.evR (A++([60,47]++Ev.nmB sp lo++[62])++T) (A++([60,47]++Ev.nmB sp lo++[62])).length { s with wait:=Nz.em,op:=o } (out++(Wl.aaH s.wait++[.cls])):=by
 have hk:=a0K (decide (A.length=0)) (elN sp lo) (apW hE) (a1W hE) T;rw[acO] at hk
 have e:(elN sp lo).size+3=([60,47]++Ev.nmB sp lo++[62]:List Int).length:=by
  rw[← aae,acO];simp
 rw[e] at hk;refine alj out (by simp) hk ?_;rw[ala h1 h2];unfold Wl.adi Wl.afo;rw[if_neg (show ¬ ((2:Int)=1) by decide),if_pos rfl];unfold Wl.afr Wl.inner;dsimp only;rw[← acO,← aas (s:=elN sp lo) rfl,ho,List.getLast?_concat,if_pos (show Option.map (fun x:ByteArray × List Wl.Pr=>x.1) (some (elN sp lo,W))=some (elN sp lo) from rfl),List.dropLast_concat]
def elB (sp lo d:ByteArray)(ats:List Ev.P3)(ks:Ev.Fo):List Int:=Ev.hdB sp lo d ats++(if ks.len=0 then [47,62] else [62]++Ev.txB ks (Ev.dfS sp d)++[60,47]++Ev.nmB sp lo++[62])
def a6d (f:Ev.Fo):Prop:=∀ (p:Bool) (d:ByteArray) (s:Wl.St) (A T L:List Int) (out:List Wl.Ev),L=A++Ev.txB f d++60 :: T→Ev.liK Ev.plF Ev.rtF p f=true→Rd s d→s.op≠[]→s.root=true→(p=false→s.wait=Nz.em)→s.op.length+dpF f≤64→
 ∃ (w:ByteArray) (out':List Wl.Ev),Wl.evR L A.length s out=Wl.evR L (A++Ev.txB f d).length { s with wait:=w } out'∧(out'++Wl.aaH w).map Wl.toR=(out++Wl.aaH s.wait).map Wl.toR++f.evs
theorem ali:Wl.aaH Nz.em=[]:=rfl
theorem axI (ks:Ev.Fo)(IH:a6d ks)(sp lo d:ByteArray)(ats:List Ev.P3)(s:Wl.St)(A T L:List Int)(out:List Wl.Ev)(hL:L=A++elB sp lo d ats ks++T)(hE:aeH sp lo ats)(hK:Ev.liK Ev.plF Ev.rtF false ks=true)(h:Rd s d)(hr:¬ (s.root=true∧s.op=[]))
 (hl:s.op.length+(1+dpF ks)≤64):
 ∃ out':List Wl.Ev,Wl.evR L A.length s out=Wl.evR L (A++elB sp lo d ats ks).length { s with wait:=Nz.em,root:=true } out'∧out'.map Wl.toR=(out++Wl.aaH s.wait).map Wl.toR++(⟨1,sp,lo,ats,Ev.emB⟩ :: (ks.evs++[Ev.clE])):=by
 by_cases hz:ks.len=0
 · have e:elB sp lo d ats ks=Ev.hdB sp lo d ats++agV true:=by unfold elB;rw[if_pos hz];rfl
   have hk:=Ev.ahW hz;subst hk;have:=aiW (A:=A) (T:=T) out true h hE hr (by omega);rw[e] at hL ⊢;rw[hL];rw[if_pos rfl,if_pos rfl] at this;refine⟨_,this,?_⟩;rw[← List.append_assoc,List.map_append];rfl
 · have e:elB sp lo d ats ks=(Ev.hdB sp lo d ats++agV false)++(Ev.txB ks (Ev.dfS sp d)++([60,47]++Ev.nmB sp lo++[62])):=by
    unfold elB agV;rw[if_neg hz,if_neg (by decide)];simp
   have h1:=aiW (A:=A) (T:=Ev.txB ks (Ev.dfS sp d)++([60,47]++Ev.nmB sp lo++[62])++T) out false h hE hr (by omega);have q1:A++(Ev.hdB sp lo d ats++agV false)++(Ev.txB ks (Ev.dfS sp d)++([60,47]++Ev.nmB sp lo++[62])++T)=L:=by rw[hL,e];simp
   rw[q1,if_neg (by decide),if_neg (by decide)] at h1
   have hs1:Rd { s with wait:=Nz.em,root:=true,op:=s.op++[(elN sp lo,scW (Wl.acI s) sp d ats)] } (Ev.dfS sp d):=by
    have hsc:Wl.acI { s with wait:=Nz.em,root:=true,op:=s.op++[(elN sp lo,scW (Wl.acI s) sp d ats)] }=scW (Wl.acI s) sp d ats:=by
     show (match (s.op++[(elN sp lo,scW (Wl.acI s) sp d ats)]).getLast? with | some x=>x.2 | none=>Wl.ajl)=_;rw[List.getLast?_concat]
    exact⟨h.ov,h.er,by rw[hsc];exact awM hE h.hd,by rw[hsc];exact arD h.hx⟩
   obtain⟨w,out2,k1,k2⟩:=IH false (Ev.dfS sp d) _ (A++(Ev.hdB sp lo d ats++agV false)) (47 :: (Ev.nmB sp lo++[62])++T) L (out++(Wl.aaH s.wait++[.opn (sp,lo) ats])) (by rw[hL,e];simp) hK hs1 (by simp) rfl (fun _=>rfl) (by
    show (s.op++[(elN sp lo,scW (Wl.acI s) sp d ats)]).length+dpF ks≤64;rw[List.length_append,List.length_singleton];omega)
   have h3:=a0h (A:=A++(Ev.hdB sp lo d ats++agV false)++Ev.txB ks (Ev.dfS sp d)) (T:=T) (s:={ s with wait:=w,root:=true,op:=s.op++[(elN sp lo,scW (Wl.acI s) sp d ats)] }) out2 (sp:=sp) (lo:=lo) h.ov h.er hE rfl;have q2:A++(Ev.hdB sp lo d ats++agV false)++Ev.txB ks (Ev.dfS sp d)++([60,47]++Ev.nmB sp lo++[62])++T=L:=by rw[hL,e];simp
   have q3:A++(Ev.hdB sp lo d ats++agV false)++Ev.txB ks (Ev.dfS sp d)++([60,47]++Ev.nmB sp lo++[62])=A++elB sp lo d ats ks:=by rw[e];simp
   rw[q2,q3] at h3;refine⟨out2++(Wl.aaH w++[.cls]),(h1.trans k1).trans h3,?_⟩;rw[← List.append_assoc,List.map_append,k2];show (((out++(Wl.aaH s.wait++[Wl.Ev.opn (sp,lo) ats]))++Wl.aaH Nz.em).map Wl.toR++ks.evs)++[Ev.clE]=_;rw[ali,List.append_nil,← List.append_assoc,List.map_append];simp[Wl.toR]
theorem anz:∀ f:Ev.Fo,a6d f
 | .nil=>fun p d s A T L out hL _ h hop hroot hw hl=>⟨s.wait,out,by rw[Ev.txB,List.append_nil],by rw[Ev.Fo.evs,List.append_nil]⟩
 | .cons t tx sp lo ats ks nx=>fun p d s A T L out hL hli h hop hroot hw hl=>by
   rw[Ev.liK,Bool.and_eq_true,Bool.and_eq_true] at hli;obtain⟨⟨g1,g2⟩,g3⟩:=hli;rw[dpF] at hl
   cases t with
   | true=>
     rw[if_pos rfl] at g2
     have hp:p=false:=by cases p with
      | false=>rfl
      | true=>cases g1
     have hRt:Rt (aad tx)∧aad tx≠[]:=by
      unfold Ev.aao at g2;dsimp only at g2;rw[if_pos rfl,Bool.and_eq_true,Bool.and_eq_true] at g2;refine⟨avv g2.2,fun e=> ?_⟩
      have hz:tx.toList=[]:=by
       rw[Lib.toList_data];unfold aad at e;exact List.map_eq_nil_iff.1 e
      have:=g2.1.2;unfold Ev.emp at this;rw[hz] at this;cases this
     have e:Ev.txB (.cons true tx sp lo ats ks nx) d=aaO false (aad tx)++Ev.txB nx d:=(by rw[Ev.txB,if_pos rfl]);rw[e] at hL ⊢
     obtain⟨c,r,hc⟩:∃ c r,Ev.txB nx d++60 :: T=60 :: r∧c=(0:Int):=by
      cases nx with
      | nil=>exact⟨0,T,by rw[Ev.txB,List.nil_append],rfl⟩
      | cons t2 tx2 sp2 lo2 ats2 ks2 nx2=>
        rw[Ev.liK,Bool.and_eq_true,Bool.and_eq_true] at g3
        have ht:t2=false:=by cases t2 with
         | false=>rfl
         | true=>cases g3.1.1
        subst ht;rw[Ev.txB,if_neg (by decide),Ev.hdB];exact⟨0,_,by simp only[List.append_assoc,List.cons_append,List.nil_append];rfl,rfl⟩
     have hT:=aub (A:=A) (T:=r) out h.ov h.er hop (hw hp) hRt.2 hRt.1;have q:A++aaO false (aad tx)++60 :: r=L:=by rw[hL,← hc.1];simp
     rw[q] at hT;obtain⟨w,out',k1,k2⟩:=anz nx true d { s with wait:=tx } (A++aaO false (aad tx)) T L out (by rw[hL];simp) g3 ⟨h.ov,h.er,h.hd,h.hx⟩ hop hroot (fun q=>by cases q) (by rw[if_pos rfl] at hl;show s.op.length+_≤_;omega);refine⟨w,out',?_,?_⟩
     · rw[hT,k1];simp
     · rw[k2,Ev.Fo.evs,if_pos rfl,hw hp,ali,List.append_nil];show (out++Wl.aaH tx).map Wl.toR++nx.evs=_;have hz:tx.size≠0:=fun e=>hRt.2 (List.eq_nil_of_length_eq_zero (by rw[aae];exact e));unfold Wl.aaH;rw[if_neg hz,List.map_append,List.append_assoc];rfl
   | false=>
     rw[if_neg (by decide),Bool.and_eq_true,Bool.and_eq_true] at g2;obtain⟨⟨e1,e2⟩,e3⟩:=g2;have hE:=a2R e1 e2;rw[if_neg (by decide)] at hl;have e:Ev.txB (.cons false tx sp lo ats ks nx) d=elB sp lo d ats ks++Ev.txB nx d:=by rw[Ev.txB,if_neg (by decide)];rfl
     rw[e] at hL ⊢;obtain⟨out1,k1,k2⟩:=axI ks (anz ks) sp lo d ats s A (Ev.txB nx d++60 :: T) L out (by rw[hL];simp) hE e3 h (fun q=>hop q.2) (by omega);obtain⟨w,out',k3,k4⟩:=anz nx false d { s with wait:=Nz.em,root:=true } (A++elB sp lo d ats ks) T L out1 (by rw[hL];simp) g3 ⟨h.ov,h.er,h.hd,h.hx⟩ hop rfl (fun _=>rfl) (by show s.op.length+_≤_;omega);refine⟨w,out',?_,?_⟩
     · rw[k1,k3,List.append_assoc];have:({ s with wait:=w,root:=true }:Wl.St)={ s with wait:=w }:=(by rw[hroot]);rw[← this]
     · rw[k4];show (out1++Wl.aaH Nz.em).map Wl.toR++nx.evs=_;rw[ali,List.append_nil,k2,Ev.Fo.evs,if_neg (by decide),List.append_assoc]
theorem ayy (tx sp lo:ByteArray)(ats:List Ev.P3)(ks:Ev.Fo)(hli:Ev.liK Ev.plF Ev.rtF false (.cons false tx sp lo ats ks .nil)=true)(hdp:1+dpF ks≤64):
 (Wl.evF (Ev.txB (.cons false tx sp lo ats ks .nil) Ev.emB)).1.map Wl.toR=(Ev.Fo.cons false tx sp lo ats ks .nil).evs∧(Wl.evF (Ev.txB (.cons false tx sp lo ats ks .nil) Ev.emB)).2.2=0:=by
 rw[Ev.liK,Bool.and_eq_true,Bool.and_eq_true,if_neg (by decide),Bool.and_eq_true,Bool.and_eq_true] at hli;obtain⟨⟨_,⟨e1,e2⟩,e3⟩,_⟩:=hli;have hE:=a2R e1 e2;have e:Ev.txB (.cons false tx sp lo ats ks .nil) Ev.emB=elB sp lo Ev.emB ats ks:=by rw[Ev.txB,if_neg (by decide),Ev.txB,List.append_nil];rfl
 rw[e]
 have hR:Rd Wl.st0 Ev.emB:=⟨rfl,rfl,by
  show Nz.Sc.acn [(Nz.Sc.xm,Nz.Sc.XS)] Nz.em=_;rw[show [(Nz.Sc.xm,Nz.Sc.XS)]=([]:List Nz.Sc.P2)++[(Nz.Sc.xm,Nz.Sc.XS)] from rfl,Nz.Sc.adJ,if_neg (by rw[aeu afN.symm];decide)];show (Nz.em,Nz.Sc.eqb Nz.em Nz.em)=_;rw[Nz.Sc.abC]
  rfl,by
  show Nz.Sc.acn [(Nz.Sc.xm,Nz.Sc.XS)] Nz.Sc.xm=_;rw[show [(Nz.Sc.xm,Nz.Sc.XS)]=([]:List Nz.Sc.P2)++[(Nz.Sc.xm,Nz.Sc.XS)] from rfl,Nz.Sc.adJ,if_pos (Nz.Sc.abC _)]⟩
 obtain⟨out,k1,k2⟩:=axI ks (anz ks) sp lo Ev.emB ats Wl.st0 [] [] (elB sp lo Ev.emB ats ks) [] (by simp) hE e3 hR (fun q=>by cases q.1) (by show 0+_≤64;omega);have k1:Wl.evF (elB sp lo Ev.emB ats ks)=Wl.evR (elB sp lo Ev.emB ats ks) (elB sp lo Ev.emB ats ks).length { Wl.st0 with wait:=Nz.em,root:=true } out:=k1;have hx:=alI (elB sp lo Ev.emB ats ks) (elB sp lo Ev.emB ats ks).length (Nat.le_refl _);have ht:Wl.aaF { Wl.st0 with wait:=Nz.em,root:=true } (Wl.afo ⟨6,[],false,false⟩)=({ Wl.st0 with wait:=Nz.em,root:=true,over:=true },[],0):=rfl;have h2:=Wl.akD (s:={ Wl.st0 with wait:=Nz.em,root:=true }) out rfl (by rw[hx]) (by rw[hx,ht]);rw[hx,ht] at h2;rw[k1,h2];refine⟨?_,rfl⟩;rw[List.append_nil,k2,Ev.Fo.evs,if_neg (by decide),Ev.Fo.evs,List.append_nil];rfl
end Go.Proofs.YtiaebhomfebagaaGreatDoor.Bk
namespace Go.Proofs.YtiaebhomfebagaaGreatDoor.Ev
open Go.RowKit
theorem abd.tail {W:World}{b off n c:Nat}{x:RE}{l:List RE}(h:abd W (some ⟨b,off,none⟩) n c (x :: l)):abd W (some ⟨b,off+5,none⟩) (n - 1) (c - 1) l:=by
 have hl:=h.len;rw[List.length_cons] at hl;refine⟨by omega,by have:=h.lsz;omega,by have:=h.cnt;omega,fun y hy=>h.xsz y (List.mem_cons_of_mem _ hy),fun k y hk=> ?_,(fun e=>by cases e),⟨by have:=h.cap.1;omega,by have:=h.cap.2;omega⟩⟩;obtain⟨b',o',Aa,n',c',e,hlt,ta,c0,c1,c2,c3,c4⟩:=h.rd (k+1) y (by rw[List.getElem?_cons_succ];exact hk);injection e with e
 injection e with e1 e2
 subst e1 e2;have q:off+5+k * 5=off+(k+1) * 5:=(by omega);refine⟨b,off+5,Aa,n',c',rfl,hlt,ta,?_⟩;rw[q];exact⟨c0,c1,c2,c3,c4⟩
theorem abd.a2B {W:World}{a:Addr}{n c:Nat}{x:RE}{l:List RE}(h:abd W (some a) n c (x :: l))(hc:c=1):abd W (some a) (n - 1) (c - 1) l:=by
 have hl:=h.len;rw[List.length_cons] at hl;have h1:=h.cap.1;have h2:l=[]:=List.eq_nil_of_length_eq_zero (by omega);subst h2;exact⟨by rw[List.length_nil];omega,by unfold maxLen;omega,by omega,(fun y hy=>by cases hy),(fun k y hk=>by simp at hk),(fun e=>by cases e),⟨by omega,by unfold maxLen;omega⟩⟩
theorem abd.head {W:World}{A:Option Addr}{n c:Nat}{x:RE}{l:List RE}(h:abd W A n c (x :: l)):∃ b off Aa na ca,A=some ⟨b,off,none⟩∧b < W.heap.size∧aaC W Aa na ca x.ats∧W.cell? ⟨b,off,none⟩=some (.int .i64 x.kind)∧W.cell? ⟨b,off+1,none⟩=some (.string x.sp)∧W.cell? ⟨b,off+2,none⟩=some (.string x.lo)∧W.cell? ⟨b,off+3,none⟩=some (.slice Aa na ca)∧W.cell? ⟨b,off+4,none⟩=some (.string x.tx):=by
 obtain⟨b,o,Aa,n',c',e,hlt,ta,c0,c1,c2,c3,c4⟩:=h.rd 0 x rfl;rw[Nat.zero_mul,Nat.add_zero] at c0 c1 c2 c3 c4;exact⟨b,o,Aa,n',c',e,hlt,ta,c0,c1,c2,c3,c4⟩
def Lo (s:Nat)(W:World)(b:Nat):Prop:=s≤b∧b < W.heap.size
def auF (w0 W:World)(f:Fo)(post:List RE)(e:Ending)(w':World):Prop:=∃ t tx sp lo ats ks Aa na ca Ak nk ck A' n' c',f.pln=.cons t tx sp lo ats ks .nil∧e=.returned (.tuple #[.agg #[.bool t,.string tx,.string sp,.string lo,.slice Aa na ca,.slice Ak nk ck],.slice A' n' c'])∧Tr1 (Lo W.heap.size w') w' tx sp lo ats ks Aa na ca Ak nk ck∧abd w0 A' n' c' post∧Below W.heap.size W w'
end Go.Proofs.YtiaebhomfebagaaGreatDoor.Ev
namespace Go.Proofs.YtiaebhomfebagaaGreatDoor.Ev
open Go.RowKit
theorem Tryz.results15:Tryz.f15.results= #[ResultVar.cell 2 32,ResultVar.tmp 3]:=by kernel_rfl
theorem abf {s:ByteArray}(h:s.size≤aiT):s.size≤maxLen:=by unfold aiT at h;unfold maxLen;omega
theorem agd:emB.size≤aiT:=by decide
theorem aow (A:Option Addr)(n c:Nat)(tx sp lo:ByteArray)(ats:List P3)(ks:Fo)(post:List RE)(w0 w:World)(hw:Below w0.heap.size w0 w)(T0:abd w0 A n c (⟨2,emB,emB,[],tx⟩ :: post))(ht:tx.size≤aiT)(hn:n≤100000):
 Calls Tryz.prog 15 #[.slice A n c] w (auF w0 w (Fo.cons true tx sp lo ats ks .nil) post):=by
 have T:=T0.keep hw;obtain⟨b,off,Aa,na,ca,rfl,hb,_,c0,c1,c2,c3,c4⟩:=T.head;have hl:=T.len;rw[List.length_cons] at hl;have hcap:=T.cap.1;have CV:Hid (∀ W,Calls Tryz.prog 22 #[.string tx] W fun e w'=>e=.returned (.string tx)∧Below W.heap.size W w'):=aac fun W=>aaB tx W ht;have HT:=aac T0;have g1:(1:Int)≤(n:Int):=(by omega);have g0:(0:Int) < (n:Int):=(by omega);dsimp only at c0 c1 c2 c3 c4;clear T hl T0
 obtain⟨A1,hA1,HT1⟩:∃ A1:Addr,A1=(if c=1 then ⟨b,off,none⟩ else ⟨b,off+5,none⟩)∧Hid (abd w0 (some A1) (n - 1) (c - 1) post):=by
  by_cases hc:c=1
  · exact⟨⟨b,off,none⟩,by rw[if_pos hc],aac (HT.out.a2B hc)⟩
  · exact⟨⟨b,off+5,none⟩,by rw[if_neg hc],aac HT.out.tail⟩
 obtain⟨W1,hW1⟩:∃ W1,W1=((w.alloc (.cells #[.bool false,.string ⟨#[]⟩,.string ⟨#[]⟩,.string ⟨#[]⟩,.slice none 0 0,.slice none 0 0] 32)).alloc (.cells #[.int .i64 2,.string emB,.string emB,.slice Aa na ca,.string tx] 54)).drew:=⟨_,rfl⟩;have HB1:Hid (Below w.heap.size w W1):=aac (by rw[hW1];exact(((Below.refl _ w).alloc (Nat.le_refl _) _).alloc (by simp) _).drew);have HR1:Hid (W1.heap[w.heap.size]?=some (.cells #[.bool false,.string ⟨#[]⟩,.string ⟨#[]⟩,.string ⟨#[]⟩,.slice none 0 0,.slice none 0 0] 32 (0,0))):=aac (by rw[hW1];exact(Below.heap_alloc (w.alloc _) _ _ (by simp)).trans (abJ w 32 _));have CW:Hid (Calls Tryz.prog 22 #[.string tx] W1 fun e w6=>e=.returned (.string tx)∧Hid (w6.heap[w.heap.size]?=some (.cells #[.bool false,.string ⟨#[]⟩,.string ⟨#[]⟩,.string ⟨#[]⟩,.slice none 0 0,.slice none 0 0] 32 (0,0)))∧Hid (Below w.heap.size w w6)):=aac ((CV.out W1).mono fun e w' h=>⟨h.1,aac ((h.2.block _ (Array.getElem?_eq_some_iff.1 HR1.out).1).trans HR1.out),aac (HB1.out.trans (h.2.mono HB1.out.size))⟩);clear CV HR1 HB1 HT;by_cases hc:c=1
 · rw[if_pos hc] at hA1;subst hA1;go_enter Tryz.func15,Tryz.ntmps15;go_wp2_with fail;go_region;go_wp2_with fail;generalize ((w.alloc (.cells #[.bool false,.string ⟨#[]⟩,.string ⟨#[]⟩,.string ⟨#[]⟩,.slice none 0 0,.slice none 0 0] 32)).alloc (.cells #[.int .i64 2,.string emB,.string emB,.slice Aa na ca,.string tx] 54)).drew=V at *;subst hW1;refine CW.out.mono ?_;rintro e w6 ⟨rfl,HR6,HB6⟩;clear CW c0 c1 c2 c3 c4;obtain⟨h6,g6⟩:=axH (.bool true) (.string tx) (.string ⟨#[]⟩) (.string ⟨#[]⟩) (.slice none 0 0) (.slice none 0 0) HR6.out;obtain⟨r0,r1,r2,r3,r4,r5⟩:=cells6 HR6.out;have f0:=aag HR6.out 0;have f1:=aag HR6.out 1;have f2:=aag HR6.out 2;have f3:=aag HR6.out 3;have f4:=aag HR6.out 4;have f5:=aag HR6.out 5;have HB7:=aac (HB6.out.grown g6 HB6.out.size (fun j hj=>by injection hj with hj;omega));have H6:=aac h6;clear h6 g6;go_wp2;change bodyPost _ _ _ _ _ (aco w6 w.heap.size (.bool true) (.string tx) (.string ⟨#[]⟩) (.string ⟨#[]⟩) (.slice none 0 0) (.slice none 0 0));generalize aco w6 w.heap.size (.bool true) (.string tx) (.string ⟨#[]⟩) (.string ⟨#[]⟩) (.slice none 0 0) (.slice none 0 0)=W7 at *;obtain⟨e0,e1,e2,e3,e4,e5⟩:=cells6 H6.out;clear r0 r1 r2 r3 r4 r5 f0 f1 f2 f3 f4 f5;refine bodyPost_ret (v:=.tuple #[.agg #[.bool true,.string tx,.string ⟨#[]⟩,.string ⟨#[]⟩,.slice none 0 0,.slice none 0 0],.slice (some ⟨b,off,none⟩) (n - 1) 0]) (by simp[results,Tryz.results15,go_sem,e0,e1,e2,e3,e4,e5]) rfl ?_;exact⟨true,tx,emB,emB,[],.nil,none,0,0,none,0,0,_,_,_,by rw[Fo.pln,if_pos rfl];rfl,rfl,⟨⟨abf ht,abf agd,abf agd⟩,aij _,fun h=>absurd h (Nat.lt_irrefl 0),awh _ _⟩,(by have h:=HT1.out;rw[hc] at h;exact h),HB7.out⟩
 · rw[if_neg hc] at hA1;subst hA1;go_enter Tryz.func15,Tryz.ntmps15;go_wp2_with fail;go_region;go_wp2_with fail;generalize ((w.alloc (.cells #[.bool false,.string ⟨#[]⟩,.string ⟨#[]⟩,.string ⟨#[]⟩,.slice none 0 0,.slice none 0 0] 32)).alloc (.cells #[.int .i64 2,.string emB,.string emB,.slice Aa na ca,.string tx] 54)).drew=V at *;subst hW1;refine CW.out.mono ?_;rintro e w6 ⟨rfl,HR6,HB6⟩;clear CW c0 c1 c2 c3 c4;obtain⟨h6,g6⟩:=axH (.bool true) (.string tx) (.string ⟨#[]⟩) (.string ⟨#[]⟩) (.slice none 0 0) (.slice none 0 0) HR6.out;obtain⟨r0,r1,r2,r3,r4,r5⟩:=cells6 HR6.out;have f0:=aag HR6.out 0;have f1:=aag HR6.out 1;have f2:=aag HR6.out 2;have f3:=aag HR6.out 3;have f4:=aag HR6.out 4;have f5:=aag HR6.out 5;have HB7:=aac (HB6.out.grown g6 HB6.out.size (fun j hj=>by injection hj with hj;omega));have H6:=aac h6;clear h6 g6;go_wp2;change bodyPost _ _ _ _ _ (aco w6 w.heap.size (.bool true) (.string tx) (.string ⟨#[]⟩) (.string ⟨#[]⟩) (.slice none 0 0) (.slice none 0 0));generalize aco w6 w.heap.size (.bool true) (.string tx) (.string ⟨#[]⟩) (.string ⟨#[]⟩) (.slice none 0 0) (.slice none 0 0)=W7 at *;obtain⟨e0,e1,e2,e3,e4,e5⟩:=cells6 H6.out;clear r0 r1 r2 r3 r4 r5 f0 f1 f2 f3 f4 f5;refine bodyPost_ret (v:=.tuple #[.agg #[.bool true,.string tx,.string ⟨#[]⟩,.string ⟨#[]⟩,.slice none 0 0,.slice none 0 0],.slice (some ⟨b,off+5,none⟩) (n - 1) (c - 1)]) (by simp[results,Tryz.results15,go_sem,e0,e1,e2,e3,e4,e5]) rfl ?_;exact⟨true,tx,emB,emB,[],.nil,none,0,0,none,0,0,_,_,_,by rw[Fo.pln,if_pos rfl];rfl,rfl,⟨⟨abf ht,abf agd,abf agd⟩,aij _,fun h=>absurd h (Nat.lt_irrefl 0),awh _ _⟩,HT1.out,HB7.out⟩
end Go.Proofs.YtiaebhomfebagaaGreatDoor.Ev
namespace Go.Proofs.YtiaebhomfebagaaGreatDoor.Ev
open Go.RowKit
structure FE (w:World)(sp lo:ByteArray)(Aa:Option Addr)(na ca:Nat)(W:World):Prop where
 ebx:W.heap[w.heap.size+1]?=some (.cells #[.int .i64 1,.string sp,.string lo,.slice Aa na ca,.string emB] 54 (0,0))
 res:W.heap[w.heap.size]?=some (.cells #[.bool false,.string ⟨#[]⟩,.string ⟨#[]⟩,.string ⟨#[]⟩,.slice none 0 0,.slice none 0 0] 32 (0,0))
 bel:Below w.heap.size w W
section
variable {w W W':World} {sp lo:ByteArray} {Aa:Option Addr} {na ca:Nat}
theorem FE.lt (h:FE w sp lo Aa na ca W):w.heap.size+2≤W.heap.size:=(Array.getElem?_eq_some_iff.1 h.ebx).1
theorem FE.keep (h:FE w sp lo Aa na ca W)(hb:Below W.heap.size W W'):FE w sp lo Aa na ca W':=
 ⟨(hb.block _ (Array.getElem?_eq_some_iff.1 h.ebx).1).trans h.ebx,(hb.block _ (Array.getElem?_eq_some_iff.1 h.res).1).trans h.res,h.bel.trans (hb.mono h.bel.size)⟩
theorem FE.s3 (h:FE w sp lo Aa na ca W):W.cell? ⟨w.heap.size+1,1,none⟩=some (.string sp)∧W.cell? ⟨w.heap.size+1,2,none⟩=some (.string lo)∧W.cell? ⟨w.heap.size+1,3,none⟩=some (.slice Aa na ca):=⟨aaf h.ebx 1 rfl,aaf h.ebx 2 rfl,aaf h.ebx 3 rfl⟩
theorem FE.grown {row:Option Nat}(h:FE w sp lo Aa na ca W)(hg:W.grownBy W' row)(h0:∀ g,row=some g→w.heap.size+2≤g):FE w sp lo Aa na ca W':=
 ⟨(hg.block _ (Array.getElem?_eq_some_iff.1 h.ebx).1 (fun e=>by have:=h0 _ e.symm;omega)).trans h.ebx,(hg.block _ (Array.getElem?_eq_some_iff.1 h.res).1 (fun e=>by have:=h0 _ e.symm;omega)).trans h.res,h.bel.grown hg h.bel.size (fun j hj=>by have:=h0 _ hj;omega)⟩
end
structure FY (w:World)(tb:Nat)(sp lo:ByteArray)(ats:List P3)(A6:Option Addr)(na c6:Nat)(W:World):Prop where
 box:W.heap[tb]?=some (.cells #[.bool false,.string ⟨#[]⟩,.string sp,.string lo,.slice A6 na c6,.slice none 0 0] 32 (0,0))
 lt:w.heap.size+2≤tb
 res:W.heap[w.heap.size]?=some (.cells #[.bool false,.string ⟨#[]⟩,.string ⟨#[]⟩,.string ⟨#[]⟩,.slice none 0 0,.slice none 0 0] 32 (0,0))
 own:W.ownsRow (w.heap.size+2) 40 3 (.slice A6 na c6) na (atL ats)
 bel:Below w.heap.size w W
section
variable {w W:World} {sp lo:ByteArray} {ats:List P3} {Aa A6:Option Addr} {na ca c6:Nat}
theorem akh {B z n g:Nat}{e e':TypeId}{v:Value}{xs:List Value}{cs:Array Value}{f:Nat × Nat}(h:W.ownsRow B e z v n xs)(hg:W.heap[g]?=some (.cells cs e' f))(hne:e≠e'):v.ownBlock=none∨v.ownBlock≠some g:=by
 rcases h.2 with ⟨rfl,_⟩ | ⟨g',cap,cur,rfl,_,hg',_⟩
 · exact .inl rfl
 · right;intro e1;simp only[Value.ownBlock,Option.some.injEq] at e1;subst e1;rw[hg] at hg';injection hg' with hg'
   injection hg' with _ h2 _
   exact hne h2.symm
theorem FE.y1 (h:FE w sp lo Aa na ca W)(ho:W.ownsRow (w.heap.size+2) 40 3 (.slice A6 na c6) na (atL ats)):FY w W.heap.size sp lo ats A6 na c6 (W.alloc (.cells #[.bool false,.string ⟨#[]⟩,.string sp,.string lo,.slice A6 na c6,.slice none 0 0] 32)):=by
 have hb:=(Below.refl W.heap.size W).alloc (Nat.le_refl _) (.cells #[.bool false,.string ⟨#[]⟩,.string sp,.string lo,.slice A6 na c6,.slice none 0 0] 32);exact⟨abJ W 32 _,h.lt,(h.keep hb).res,aaj ho hb,(h.keep hb).bel⟩
theorem FE.y2 {tb:Nat}(h:FE w sp lo Aa na ca W)(ho:W.ownsRow (w.heap.size+2) 40 3 (.slice A6 na c6) na (atL ats))(hn:W.heap[tb]?=some (.cells #[.bool false,.string ⟨#[]⟩,.string ⟨#[]⟩,.string ⟨#[]⟩,.slice none 0 0,.slice none 0 0] 32 (0,0)))(ht:w.heap.size+2≤tb):FY w tb sp lo ats A6 na c6 (aco W tb (.bool false) (.string ⟨#[]⟩) (.string sp) (.string lo) (.slice A6 na c6) (.slice none 0 0)):=by
 obtain⟨h6,g6⟩:=axH (.bool false) (.string ⟨#[]⟩) (.string sp) (.string lo) (.slice A6 na c6) (.slice none 0 0) hn;have hf:=h.grown g6 (fun g hg=>by injection hg with hg;omega);exact⟨h6,ht,hf.res,World.ownsRow.kept ho g6 (akh ho hn (by decide)),hf.bel⟩
theorem FE.s3b {tb:Nat}(h:FE w sp lo Aa na ca W)(hn:W.heap[tb]?=some (.cells #[.bool false,.string ⟨#[]⟩,.string ⟨#[]⟩,.string ⟨#[]⟩,.slice none 0 0,.slice none 0 0] 32 (0,0)))(ht:w.heap.size+2≤tb)(x0 x1 x2 x3 x4 x5:Value):(aco W tb x0 x1 x2 x3 x4 x5).cell? ⟨w.heap.size+1,1,none⟩=some (.string sp)∧(aco W tb x0 x1 x2 x3 x4 x5).cell? ⟨w.heap.size+1,2,none⟩=some (.string lo)∧(aco W tb x0 x1 x2 x3 x4 x5).cell? ⟨w.heap.size+1,3,none⟩=some (.slice Aa na ca):=
 (h.grown (axH x0 x1 x2 x3 x4 x5 hn).2 (fun g hg=>by injection hg with hg;omega)).s3
end
def Pq (s tb:Nat)(v:Value)(W:World)(b:Nat):Prop:=s≤b∧b < W.heap.size∧b≠s∧b≠tb∧v.ownBlock≠some b
structure FL (w:World)(tb:Nat)(sp lo:ByteArray)(ats:List P3)(A6:Option Addr)(na c6:Nat)(f:Fo)(k:Nat)(v:Value)(wr:World):Prop where
 own:∃ vs,wr.ownsRow (tb+1) 32 6 v k vs∧KsV (Pq w.heap.size tb v wr) wr f vs
 box:wr.heap[tb]?=some (.cells #[.bool false,.string ⟨#[]⟩,.string sp,.string lo,.slice A6 na c6,v] 32 (0,0))
 res:wr.heap[w.heap.size]?=some (.cells #[.bool false,.string ⟨#[]⟩,.string ⟨#[]⟩,.string ⟨#[]⟩,.slice none 0 0,.slice none 0 0] 32 (0,0))
 ats:wr.ownsRow (w.heap.size+2) 40 3 (.slice A6 na c6) na (atL ats)
 bel:Below w.heap.size w wr
 lt:w.heap.size+2≤tb∧tb < wr.heap.size
section
variable {w wr w':World} {tb na c6 k:Nat} {sp lo:ByteArray} {ats:List P3} {A6:Option Addr} {f:Fo} {v:Value}
theorem FY.fl (h:FY w tb sp lo ats A6 na c6 wr):FL w tb sp lo ats A6 na c6 .nil 0 (.slice none 0 0) wr:=
 ⟨⟨[],World.ownsRow_nil _ _ _ _,rfl⟩,h.box,h.res,h.own,h.bel,h.lt,(Array.getElem?_eq_some_iff.1 h.box).1⟩
theorem Pq.mono {s:Nat}(h:wr.heap.size≤w'.heap.size){b:Nat}(hp:Pq s tb v wr b):Pq s tb v w' b:=⟨hp.1,Nat.lt_of_lt_of_le hp.2.1 h,hp.2.2⟩
theorem FL.keep (h:FL w tb sp lo ats A6 na c6 f k v wr)(hb:Below wr.heap.size wr w'):FL w tb sp lo ats A6 na c6 f k v w':=by
 obtain⟨l1,l2⟩:=h.lt;obtain⟨vs,h1,h2⟩:=h.own;exact⟨⟨vs,aaj h1 hb,h2.map fun t=>(t.keep hb).mono fun b hp=>hp.mono hb.size⟩,(hb.block _ (by omega)).trans h.box,(hb.block _ (by omega)).trans h.res,aaj h.ats hb,h.bel.trans (hb.mono h.bel.size),l1,Nat.lt_of_lt_of_le l2 hb.size⟩
theorem FL.child {n:Nat}{vs:List Value}(ho:wr.ownsRow (tb+1) 32 6 v n vs)(hl:tb < wr.heap.size)(hs:w.heap.size≤tb){w5 w6:World}(h5:wr.heap.size≤w5.heap.size){b:Nat}(hp:Lo w5.heap.size w6 b):Pq w.heap.size tb v w6 b:=by
 obtain⟨p1,p2⟩:=hp;refine⟨by omega,p2,by omega,by omega,fun e=> ?_⟩;have:=World.ownsRow.lt ho b e;omega
theorem FL.grown {cb:Nat}(h:FL w tb sp lo ats A6 na c6 f k v wr)(hg:wr.grownBy w' (some cb))(hc:wr.heap[cb]?=some (.cells #[.bool false,.string ⟨#[]⟩,.string ⟨#[]⟩,.string ⟨#[]⟩,.slice none 0 0,.slice none 0 0] 32 (0,0)))(hcb:tb < cb)(hv:v.ownBlock≠some cb)(hP:∀ {vs:List Value},wr.ownsRow (tb+1) 32 6 v k vs→KsV (Pq w.heap.size tb v wr) wr f vs→KsV (fun b=>Pq w.heap.size tb v wr b∧b≠cb) wr f vs):FL w tb sp lo ats A6 na c6 f k v w':=by
 obtain⟨l1,l2⟩:=h.lt;obtain⟨vs,h1,h2⟩:=h.own;have h3:=hP h1 h2;refine⟨⟨vs,World.ownsRow.kept h1 hg (.inr hv),h3.map fun t=>(t.grown hg (fun b hp e=>hp.2 (by injection e))).mono fun b hp=>hp.1.mono hg.size⟩,(hg.block _ (by omega) (fun e=>by injection e with e;omega)).trans h.box,(hg.block _ (by omega) (fun e=>by injection e with e;omega)).trans h.res,World.ownsRow.kept h.ats hg (akh h.ats hc (by decide)),h.bel.grown hg h.bel.size (fun j hj=>by injection hj with hj;omega),l1,Nat.lt_of_lt_of_le l2 hg.size⟩
theorem FL.put {w4:World}{g cap:Nat}{u:Bool}{ux us ul:ByteArray}{ua:List P3}{uk:Fo}{u1:Option Addr}{u2 u3:Nat}{u4:Option Addr}{u5 u6:Nat}{vs:List Value}
 (h:FL w tb sp lo ats A6 na c6 f k v wr) (ho:wr.ownsRow (tb+1) 32 6 v k vs) (hk:KsV (Pq w.heap.size tb v wr) wr f vs) (hc:Tr1 (Pq w.heap.size tb v wr) wr ux us ul ua uk u1 u2 u3 u4 u5 u6)
 (n1:w4.ownsRow (tb+1) 32 6 (.slice (some ⟨g,0,none⟩) (k+1) cap) (k+1) (vs++[.bool u,.string ux,.string us,.string ul,.slice u1 u2 u3,.slice u4 u5 u6])) (n2:wr.grownBy w4 v.ownBlock) (n3:v.ownBlock=some g∨g=wr.heap.size) (n4:g < w4.heap.size):
 FL w tb sp lo ats A6 na c6 (f.app (.cons u ux us ul ua uk .nil)) (k+1) (.slice (some ⟨g,0,none⟩) (k+1) cap) (w4.setCell ⟨tb,5,none⟩ (.slice (some ⟨g,0,none⟩) (k+1) cap)):=by
 obtain⟨l1,l2⟩:=h.lt;have hv:∀ j,v.ownBlock=some j→tb+1≤j∧j < wr.heap.size:=fun j hj=>World.ownsRow.lt ho j hj
 have hg:tb+1≤g:=by
  rcases n3 with n3 | n3
  · exact(hv g n3).1
  · omega
 have G2:w4.grownBy (w4.setCell ⟨tb,5,none⟩ (.slice (some ⟨g,0,none⟩) (k+1) cap)) (some tb):=aaG w4 ⟨tb,5,none⟩ (.slice (some ⟨g,0,none⟩) (k+1) cap);have hsz:=n2.size;have hsz2:=G2.size
 have hP:∀ b,Pq w.heap.size tb v wr b→Pq w.heap.size tb (.slice (some ⟨g,0,none⟩) (k+1) cap) (w4.setCell ⟨tb,5,none⟩ (.slice (some ⟨g,0,none⟩) (k+1) cap)) b:=fun b ⟨p1,p2,p3,p4,p5⟩=>⟨p1,by omega,p3,p4,fun e=>by
  have e:some g=some b:=e;injection e with e
  rcases n3 with n3 | n3
  · exact p5 (by rw[n3,e])
  · omega⟩
 have ht:∀ {tx sp lo:ByteArray} {ats:List P3} {ks:Fo} {Aa:Option Addr} {na ca:Nat} {Ak:Option Addr} {nk ck:Nat},Tr1 (Pq w.heap.size tb v wr) wr tx sp lo ats ks Aa na ca Ak nk ck→Tr1 (Pq w.heap.size tb (.slice (some ⟨g,0,none⟩) (k+1) cap) (w4.setCell ⟨tb,5,none⟩ (.slice (some ⟨g,0,none⟩) (k+1) cap))) (w4.setCell ⟨tb,5,none⟩ (.slice (some ⟨g,0,none⟩) (k+1) cap)) tx sp lo ats ks Aa na ca Ak nk ck:=fun t=>
  ((t.grown n2 (fun b hp e=>hp.2.2.2.2 e.symm)).grown G2 (fun b hp e=>hp.2.2.2.1 (by injection e))).mono hP
 have hb4:w4.heap[tb]?=some (.cells #[.bool false,.string ⟨#[]⟩,.string sp,.string lo,.slice A6 na c6,v] 32 (0,0)):=(n2.block _ (by omega) (fun e=>by have:=hv _ e.symm;omega)).trans h.box;have ha4:=World.ownsRow.kept h.ats n2 (asa h.ats ho (by decide));refine⟨⟨_,World.ownsRow.kept (row:=some tb) n1 G2 (.inr fun e=> ?_),(hk.map ht).app ⟨u1,u2,u3,u4,u5,u6,[],by simp,ht hc,rfl⟩⟩,?_,?_,World.ownsRow.kept (row:=some tb) ha4 G2 (akh ha4 hb4 (by decide)),?_,l1,by omega⟩
 · have e:some g=some tb:=e;injection e with e
   omega
 · simp[World.setCell,Array.getElem?_modify,hb4]
 · exact(G2.block _ (by omega) (fun e=>by injection e with e;omega)).trans ((n2.block _ (by omega) (fun e=>by have:=hv _ e.symm;omega)).trans h.res)
 · exact(h.bel.grown n2 h.bel.size (fun j hj=>by have:=hv j hj;omega)).grown G2 (by have:=h.bel.size;omega) (fun j hj=>by injection hj with hj;omega)
end
theorem a1x {W W':World}{s:Nat}{tx sp lo:ByteArray}{ats:List P3}{ks:Fo}{Aa:Option Addr}{na ca:Nat}{Ak:Option Addr}{nk ck:Nat}(h:Tr1 (fun b=>s≤b∧b < W.heap.size∧b≠s) W tx sp lo ats ks Aa na ca Ak nk ck)(g:W.grownBy W' (some s)):Tr1 (Lo s W'.drew) W'.drew tx sp lo ats ks Aa na ca Ak nk ck:=
 ((h.grown g (fun b hp e=>hp.2.2 (by injection e))).keep (Below.refl _ _).drew).mono fun b hp=>⟨hp.1,Nat.lt_of_lt_of_le hp.2.1 g.size⟩
theorem a0w {w W W':World}{s:Nat}(h:Below s w W)(g:W.grownBy W' (some s))(hs:s≤w.heap.size):Below s w W'.drew:=(h.grown g (Nat.le_trans hs h.size) (fun j hj=>by injection hj with hj;omega)).drew
theorem azW {W:World}{s:Nat}{o:Obj}(h:W.heap[s]?=some o):W.drew.heap[s]?=some o:=h
end Go.Proofs.YtiaebhomfebagaaGreatDoor.Ev
namespace Go.Proofs.YtiaebhomfebagaaGreatDoor.Ev
open Go.RowKit
theorem Tryz.info32:(Tryz.prog.info? 32).map (fun i=>(i.zero,i.size,i.bytes))=some (some (.agg #[.bool false,.string ⟨#[]⟩,.string ⟨#[]⟩,.string ⟨#[]⟩,.slice none 0 0,.slice none 0 0]),6,104):=by kernel_rfl
theorem Tryz.underlying30:Tryz.prog.underlying 30=some (.slice 32):=by kernel_rfl
end Go.Proofs.YtiaebhomfebagaaGreatDoor.Ev
