/- Lemmas of the claim. -/
import Derived.Test.YtiaebhomfebagaaGreatDoorG09
import Derived.Test.YtiaebhomfebagaaGreatDoorG08
import Derived.Test.YtiaebhomfebagaaGreatDoorG04
import Derived.Test.YtiaebhomfebagaaGreatDoorG05
import Derived.Test.YtiaebhomfebagaaGreatDoorProg
import Derived.Below
import Derived.Shelf.Strings.SlTrimAscii
set_option maxHeartbeats 16000000
set_option maxRecDepth 100000
set_option linter.unusedVariables false
set_option linter.unusedSimpArgs false
namespace Go.Proofs.YtiaebhomfebagaaGreatDoor.Ev
open Go.RowKit
def PtC (N:Nat):Prop:=∀ (t:Bool) (tx sp lo:ByteArray) (ats:List P3) (ks:Fo) (Aa:Option Addr) (na ca:Nat) (Ak:Option Addr) (nk ck:Nat) (d:ByteArray) (B b:Nat) (bs:List Int) (w:World),ks.siz < N→Tr1 (· < B) w tx sp lo ats ks Aa na ca Ak nk ck→
    (Fo.cons t tx sp lo ats ks .nil).szM→(Fo.cons t tx sp lo ats ks .nil).atN→d.size≤1048576→Prt B b bs w→B≤w.heap.size→TbB B w→bs.length+(txB (Fo.cons t tx sp lo ats ks .nil) d).length≤17592186044416→
    Calls Tryz.prog 29 #[.pointer (some ⟨b,0,none⟩),.agg #[.bool t,.string tx,.string sp,.string lo,.slice Aa na ca,.slice Ak nk ck],.string d] w fun e w'=>e=.returned (.tuple #[])∧Prt B b (bs++txB (Fo.cons t tx sp lo ats ks .nil) d) w'∧FrP B b w w'
theorem arz {r:Fo}{u:Bool}{ux us ul:ByteArray}{ua:List P3}{uk:Fo}:∀ {k:Nat} {f:Fo},f.szM→f.atN→f.drop k=.cons u ux us ul ua uk r→(Fo.cons u ux us ul ua uk .nil).szM∧(Fo.cons u ux us ul ua uk .nil).atN
 | 0,f,h,h2,e=>by
   have e:f=.cons u ux us ul ua uk r:=e;subst e;exact⟨⟨h.1,h.2.1,trivial⟩,h2.1,trivial⟩
 | k+1,.nil,h,h2,e=>by cases e
 | k+1,.cons _ _ _ _ _ _ nx,h,h2,e=>arz (k:=k) h.2.2 h2.2 e
theorem ayU {ks:Fo}{k:Nat}{u:Bool}{ux us ul:ByteArray}{ua:List P3}{uk:Fo}(hk:k < ks.len)(e:ks.drop k=.cons u ux us ul ua uk (ks.drop (k+1)))(d:ByteArray):txB (ks.take (k+1)) d=txB (ks.take k) d++txB (.cons u ux us ul ua uk .nil) d∧(txB (ks.take (k+1)) d).length≤(txB ks d).length:=by
 obtain⟨t',tx',sp',lo',ats',ks',e1,e2⟩:=drop_cons (f:=ks) (k:=k) hk;rw[e] at e1;injection e1 with e1 e4 e5 e6 e7 e8 e9
 subst e1 e4 e5 e6 e7 e8;refine⟨by rw[e2,alg],?_⟩
 conv=>rhs;rw[← aei (k+1) ks]
 rw[alg,List.length_append];omega
theorem acH {ks:Fo}:ks.take ks.len=ks:=afI ks
structure TrI (B b xb:Nat)(cs:Array Value)(L:List Int)(w wr:World):Prop where
 prt:Prt B b L wr
 box:wr.heap[xb]?=some (.cells cs 32 (0,0))
 fr:FrP B b w wr
theorem TrI.keep {B b xb:Nat}{cs:Array Value}{L:List Int}{w wr w':World}(h:TrI B b xb cs L w wr)(hB:B≤w.heap.size)(hb:Below wr.heap.size wr w'):TrI B b xb cs L w w':=⟨h.prt.keep hb,(hb.block _ (Array.getElem?_eq_some_iff.1 h.box).1).trans h.box,h.fr.trans (FrP.of hb (Nat.le_trans hB h.fr.bel.size))⟩
theorem TrI.put {B b xb:Nat}{cs:Array Value}{L L':List Int}{w wr w':World}(h:TrI B b xb cs L w wr)(hne:xb≠b)(hp:Prt B b L' w')(hf:FrP B b wr w'):TrI B b xb cs L' w w':=⟨hp,hf.blk h.box hne (by decide),h.fr.trans hf⟩
theorem ayg (tx sp lo:ByteArray)(ats:List P3)(ks:Fo)(Aa:Option Addr)(na ca:Nat)(Ak:Option Addr)(nk ck:Nat)(d:ByteArray)(B b:Nat)(bs:List Int)(w:World)(hs:tx.size≤1048576)(hP:Prt B b bs w)(hB:B≤w.heap.size)(hl:bs.length+(aaO false (aad tx)).length≤17592186044416):
 Calls Tryz.prog 29 #[.pointer (some ⟨b,0,none⟩),.agg #[.bool true,.string tx,.string sp,.string lo,.slice Aa na ca,.slice Ak nk ck],.string d] w fun e w'=>e=.returned (.tuple #[])∧Prt B b (bs++aaO false (aad tx)) w'∧FrP B b w w':=by
 have hbw:=hP.lt;have CE:Hid (∀ W,Calls Tryz.prog 42 #[.string tx] W fun e w'=>e=.returned (.string (strOfNums (aaO false (aad tx))))∧Below W.heap.size W w'):=aac fun W=>ayX tx W hs;have HE:=aac (amn false tx)
 have CW:Hid (∀ W,Prt B b bs W→B≤W.heap.size→Calls Tryz.prog 41 #[.pointer (some ⟨b,0,none⟩),.string (strOfNums (aaO false (aad tx)))] W fun e w'=>(∃ m:Int,e=.returned (.tuple #[.int .i64 m,.nilIface]))∧Prt B b (bs++aaO false (aad tx)) w'∧FrP B b W w'):=aac fun W hP hB=>by
  have:=akW B b bs (strOfNums (aaO false (aad tx))) W hP hB (by rw[← aae,HE.out];exact hl);rw[HE.out] at this;exact this.mono fun e w' ⟨h1,h2,h3⟩=>⟨⟨_,h1⟩,h2,h3⟩
 have X:Hid (TrI B b w.heap.size #[.bool true,.string tx,.string sp,.string lo,.slice Aa na ca,.slice Ak nk ck] bs w (w.alloc (.cells #[.bool true,.string tx,.string sp,.string lo,.slice Aa na ca,.slice Ak nk ck] 32)).drew):=aac ⟨hP.keep (Below.drew ((Below.refl _ w).alloc (Nat.le_refl _) _)),abJ w 32 _,FrP.of (Below.drew ((Below.refl _ w).alloc (Nat.le_refl _) _)) hB⟩;have hxb:w.heap.size≠b:=(by omega);clear hP hl HE hs;generalize strOfNums (aaO false (aad tx))=O at *;generalize bs++aaO false (aad tx)=L at *;go_enter Tryz.func29,Tryz.ntmps29;go_wp2_with fail;generalize w.alloc (.cells #[.bool true,.string tx,.string sp,.string lo,.slice Aa na ca,.slice Ak nk ck] 32)=V at *;have hB2:=hB
 go_region_held3 (fun W=>W.cell? ⟨w.heap.size,0,none⟩=some (.bool true)∧W.cell? ⟨w.heap.size,1,none⟩=some (.string tx)∧W.cell? ⟨w.heap.size,2,none⟩=some (.string sp)∧W.cell? ⟨w.heap.size,3,none⟩=some (.string lo)∧W.cell? ⟨w.heap.size,4,none⟩=some (.slice Aa na ca)∧W.cell? ⟨w.heap.size,5,none⟩=some (.slice Ak nk ck))
  (first | with_reducible exact cells6 X.out.box | fail)
  (first
    | (go_at_call 41;refine(CW.out _ X.out.prt (Nat.le_trans hB X.out.fr.bel.size)).mono ?_;rintro e w3 ⟨⟨m,rfl⟩,h3,f3⟩;replace X:=aac (TrI.put X.out hxb h3 f3);clear h3 f3)
    | (go_at_call 42;refine(CE.out _).mono ?_;rintro e w2 ⟨rfl,b2⟩;replace X:=aac (TrI.keep X.out hB b2);clear b2)
    | fail)
 all_goals
  go_wp2
  ((try simp only[Exit.inBlock,Exit.then]);refine bodyPost_ret (results_none rfl _ _ _) rfl ?_)
  exact⟨rfl,X.out.prt,X.out.fr⟩
theorem azi (N:Nat)(hIH:Hid (PtC N)):PtC (N+1):=by
 intro t tx sp lo ats ks Aa na ca Ak nk ck d B b bs w hN T hM hA hd hP hB hT hl
 cases t with
 | true=>
   rw[awg] at hl ⊢;exact ayg tx sp lo ats ks Aa na ca Ak nk ck d B b bs w hM.1.1 hP hB hl
 | false=>
   have hbw:=hP.lt;have hxb:w.heap.size≠b:=(by omega);have hnk:=T.ks.2.1;have hnl:=T.ks.1;have hlo:=hM.1.2.2.1;have hsp:=hM.1.2.1;have HMk:=aac hM.2.1;have HAk:=aac (hA.1 rfl).2;have HTb:=aac hT;have HT:Hid (∀ W,Below B w W→Tr1 (· < B) W tx sp lo ats ks Aa na ca Ak nk ck):=aac fun W hW=>T.abP hW;obtain⟨TX,hTX⟩:∃ x,x=txB (Fo.cons false tx sp lo ats ks .nil) d:=⟨_,rfl⟩;rw[← hTX] at hl ⊢;obtain⟨TL,hTL⟩:∃ x,x=(if ks.len=0 then [47,62] else [62]++txB ks (dfS sp d)++[60,47]++nmB sp lo++[62]:List Int):=⟨_,rfl⟩;obtain⟨H1,hH1⟩:∃ x,x=([60]++nmB sp lo++(if sp≠adk∧sp≠d then prB (aad ahP) sp else []):List Int):=⟨_,rfl⟩
   have HTX:Hid (TX=H1++(bdB 0 (spL ats)++asB (spL ats) ats)++TL):=aac (by
    rw[hTX,hTL,hH1,txB,if_neg (by decide),txB,List.append_nil];unfold hdB;simp only[List.append_assoc])
   have HL:Hid (bs.length+H1.length+(bdB 0 (spL ats)).length+(asB (spL ats) ats).length+TL.length≤17592186044416):=aac (by
    have:=hl;rw[HTX.out] at this;simp only[List.length_append] at this;omega)
   have CA:Hid (∀ W,TrI B b w.heap.size #[.bool false,.string tx,.string sp,.string lo,.slice Aa na ca,.slice Ak nk ck] (bs++H1) w W→Calls Tryz.prog 44 #[.pointer (some ⟨b,0,none⟩),.slice Aa na ca] W fun e w'=>e=.returned (.tuple #[])∧TrI B b w.heap.size #[.bool false,.string tx,.string sp,.string lo,.slice Aa na ca,.slice Ak nk ck] (bs++H1++(bdB 0 (spL ats)++asB (spL ats) ats)) w w'):=aac fun W hW=>by
    have:=aiE B b (bs++H1) Aa na ca ats W hW.prt (Nat.le_trans hB hW.fr.bel.size) (HT.out W hW.fr.bel).at_ (HT.out W hW.fr.bel).ap hM.1.2.2.2 (hA.1 rfl).1 (HTb.out.on hW.fr.bel) (by
     have:=HL.out;rw[List.length_append];omega)
    exact this.mono fun e w' ⟨h1,h2,h3⟩=>⟨h1,by rw[List.append_assoc (bs++H1)] at h2;exact hW.put hxb h2 h3⟩
   have CW:Hid (∀ (s:ByteArray) (L:List Int) W,TrI B b w.heap.size #[.bool false,.string tx,.string sp,.string lo,.slice Aa na ca,.slice Ak nk ck] L w W→L.length+s.size≤17592186044416→Calls Tryz.prog 41 #[.pointer (some ⟨b,0,none⟩),.string s] W fun e w'=>(∃ m:Int,e=.returned (.tuple #[.int .i64 m,.nilIface]))∧TrI B b w.heap.size #[.bool false,.string tx,.string sp,.string lo,.slice Aa na ca,.slice Ak nk ck] (L++aad s) w w'):=aac fun s L W hW hs=>
    (akW B b L s W hW.prt (Nat.le_trans hB hW.fr.bel.size) hs).mono fun e w' ⟨h1,h2,h3⟩=>⟨⟨_,h1⟩,hW.put hxb h2 h3⟩
   have HH1:Hid (H1=[60]++nmB sp lo++(if sp≠adk∧sp≠d then prB (aad ahP) sp else [])):=aac hH1;have HTL:Hid (TL=if ks.len=0 then [47,62] else [62]++txB ks (dfS sp d)++[60,47]++nmB sp lo++[62]):=aac hTL;have X0:Hid (TrI B b w.heap.size #[.bool false,.string tx,.string sp,.string lo,.slice Aa na ca,.slice Ak nk ck] bs w (w.alloc (.cells #[.bool false,.string tx,.string sp,.string lo,.slice Aa na ca,.slice Ak nk ck] 32))):=aac ⟨hP.keep ((Below.refl _ w).alloc (Nat.le_refl _) _),abJ w 32 _,FrP.of ((Below.refl _ w).alloc (Nat.le_refl _) _) hB⟩
   have HCW:Hid (sp≠adk∧sp≠d→∀ W,TrI B b w.heap.size #[.bool false,.string tx,.string sp,.string lo,.slice Aa na ca,.slice Ak nk ck] (bs++([60]++nmB sp lo)) w W→Calls Tryz.prog 43 #[.pointer (some ⟨b,0,none⟩),.string ⟨#[120,109,108,110,115]⟩,.string sp] W fun e w'=>e=.returned (.tuple #[])∧TrI B b w.heap.size #[.bool false,.string tx,.string sp,.string lo,.slice Aa na ca,.slice Ak nk ck] (bs++H1) w w'):=aac fun hq W hW=>by
    have e:aad (⟨#[120,109,108,110,115]⟩:ByteArray)=aad ahP:=rfl
    have:=afb B b (bs++([60]++nmB sp lo)) ⟨#[120,109,108,110,115]⟩ sp W hW.prt (Nat.le_trans hB hW.fr.bel.size) (by decide) hsp (by
     have:=HL.out;rw[HH1.out,if_pos hq] at this;rw[e];simp only[List.length_append] at this ⊢;omega)
    rw[e] at this;rw[HH1.out,if_pos hq];refine this.mono fun e w' ⟨h1,h2,h3⟩=>⟨h1,?_⟩;rw[List.append_assoc bs] at h2;exact hW.put hxb h2 h3
   have CS:Hid (∀ (D:ByteArray) (u:Bool) (ux us ul:ByteArray) (ua:List P3) (uk:Fo) (u1:Option Addr) (u2 u3:Nat) (u4:Option Addr) (u5 u6 k:Nat) W,D=dfS sp d→k < nk→ks.drop k=.cons u ux us ul ua uk (ks.drop (k+1))→Tr1 (· < B) W ux us ul ua uk u1 u2 u3 u4 u5 u6→TrI B b w.heap.size #[.bool false,.string tx,.string sp,.string lo,.slice Aa na ca,.slice Ak nk ck] (bs++H1++(bdB 0 (spL ats)++asB (spL ats) ats)++[62]++txB (ks.take k) (dfS sp d)) w W→
    Calls Tryz.prog 29 #[.pointer (some ⟨b,0,none⟩),.agg #[.bool u,.string ux,.string us,.string ul,.slice u1 u2 u3,.slice u4 u5 u6],.string D] W fun e w'=>e=.returned (.tuple #[])∧TrI B b w.heap.size #[.bool false,.string tx,.string sp,.string lo,.slice Aa na ca,.slice Ak nk ck] (bs++H1++(bdB 0 (spL ats)++asB (spL ats) ats)++[62]++txB (ks.take (k+1)) (dfS sp d)) w w'):=aac fun D u ux us ul ua uk u1 u2 u3 u4 u5 u6 k W hD hk ed hX hW=>by
    have hk2:k < ks.len:=by rw[← hnl];exact hk
    have hsk:=ahG ed;obtain⟨m1,m2⟩:=arz HMk.out HAk.out ed;obtain⟨t1,t2⟩:=ayU hk2 ed (dfS sp d);have hne0:¬ ks.len=0:=(by omega);have hds:(dfS sp d).size≤1048576:=by unfold dfS;split <;> assumption
    rw[hD]
    have:=hIH.out u ux us ul ua uk u1 u2 u3 u4 u5 u6 (dfS sp d) B b (bs++H1++(bdB 0 (spL ats)++asB (spL ats) ats)++[62]++txB (ks.take k) (dfS sp d)) W (by omega) hX m1 m2 hds hW.prt (Nat.le_trans hB hW.fr.bel.size) (HTb.out.on hW.fr.bel) (by
     have:=HL.out;rw[HTL.out,if_neg hne0] at this;rw[t1] at t2;simp only[List.length_append] at this t2 ⊢;omega)
    refine this.mono fun e w' ⟨h1,h2,h3⟩=>⟨h1,?_⟩;rw[t1,← List.append_assoc];exact hW.put hxb h2 h3
   have hTlen:TL.length=(if ks.len=0 then 2 else 1+(txB ks (dfS sp d)).length+2+(nmB sp lo).length+1):=by
    rw[hTL];split
    · rfl
    · simp only[List.length_append,List.length_cons,List.length_nil]
   have HTl:=aac hTlen;have HNL:=aac hnl;clear hTX hTL hH1 hl hM hA hT T hP hTlen hnl;rcases Classical.em (sp=adk) with hx | hx
   · have K:=spK sp;rw[decide_eq_true hx,decide_eq_false (p:=sp=emB) (by rw[hx];decide)] at K;have hQ:¬ (sp≠adk∧sp≠d):=fun q=>q.1 hx;have HD:Hid (d=dfS sp d):=aac (by unfold dfS;rw[if_pos hx]);have HN:Hid (aad ((⟨#[120,109,108,58]⟩++lo))=nmB sp lo):=aac (by rw[aaq];unfold nmB;rw[if_pos hx];rfl);have z4:(⟨#[120,109,108,58]⟩++lo:ByteArray).size=4+lo.size:=abS _ _;have hN1:(nmB sp lo).length=((⟨#[120,109,108,58]⟩++lo)).size:=by rw[← aae,HN.out]
     have hz1:bs.length+(⟨#[60]⟩++(⟨#[120,109,108,58]⟩++lo):ByteArray).size≤17592186044416:=by
      have:=HL.out;rw[HH1.out] at this;rw[abS];simp only[List.length_append] at this;show _+(1+_)≤_;have h1:([60]:List Int).length=1:=rfl;omega
     obtain⟨ke,kx⟩:∃ q:Bool,SpK sp q true:=⟨_,K⟩;have x1:=kx.x1;have x2:=kx.x2;simp only[Bool.not_true,Bool.not_false] at x2;have HHq:Hid (H1=[60]++nmB sp lo):=aac (by rw[HH1.out,if_neg hQ,List.append_nil]);clear K kx hQ hx z4 hN1;have X:=X0;clear X0 HCW;go_enter Tryz.func29,Tryz.ntmps29;go_wp2_with fail;refine(CW.out _ _ _ X.out hz1).mono ?_;rintro e w2 ⟨⟨m2,rfl⟩,h2⟩;rw[aaq,HN.out,show aad (⟨#[60]⟩:ByteArray)=[60] from rfl] at h2;rw[← HHq.out] at h2
     replace X:=aac h2
     clear h2;obtain⟨c0,c1,c2,c3,c4,c5⟩:=cells6 X.out.box;go_wp2_with fail;refine(CA.out _ X.out).mono ?_;rintro e w5 ⟨rfl,h5⟩
     replace X:=aac h5
     clear h5 c0 c1 c2 c3 c4 c5;obtain⟨c0,c1,c2,c3,c4,c5⟩:=cells6 X.out.box;rcases Classical.em (nk=0) with h0 | h0
     · have hnl:=HNL.out;have hTlen:=HTl.out;have hE:Hid (TX=H1++(bdB 0 (spL ats)++asB (spL ats) ats)++[47,62]):=aac (by rw[HTX.out,HTL.out,if_pos (by omega)])
       have hz2:(bs++H1++(bdB 0 (spL ats)++asB (spL ats) ats)).length+(⟨#[47,62]⟩:ByteArray).size≤17592186044416:=by
        have:=HL.out;rw[hTlen,if_pos (by omega)] at this;simp only[List.length_append];show _+2≤_;omega
       have g0:((nk:Int) == 0)=true:=(by simpa using h0);have HE:=aac hE.out;clear h0 hTlen hnl;go_wp2_with fail;refine(CW.out _ _ _ X.out hz2).mono ?_;rintro e w6 ⟨⟨m6,rfl⟩,h6⟩;have X6:=aac h6;clear h6;go_wp2
       ((try simp only[Exit.inBlock,Exit.then]);refine bodyPost_ret (results_none rfl _ _ _) rfl ?_)
       refine⟨rfl,?_,X6.out.fr⟩;have hp:=X6.out.prt;rw[show aad (⟨#[47,62]⟩:ByteArray)=[47,62] from rfl] at hp;rw[hE.out];simp only[List.append_assoc] at hp ⊢;exact hp
     · have hnl:=HNL.out;have hTlen:=HTl.out;have hk0:¬ ks.len=0:=by omega
       have hE:Hid (TX=H1++(bdB 0 (spL ats)++asB (spL ats) ats)++[62]++txB (ks.take nk) (dfS sp d)++([60,47]++nmB sp lo++[62])):=aac (by
        rw[HTX.out,HTL.out,if_neg hk0,hnl,acH];simp only[List.append_assoc])
       rw[if_neg hk0] at hTlen
       have hz2:(bs++H1++(bdB 0 (spL ats)++asB (spL ats) ats)).length+(⟨#[62]⟩:ByteArray).size≤17592186044416:=by
        have:=HL.out;rw[hTlen] at this;simp only[List.length_append];show _+1≤_;omega
       have hz3:((bs++H1++(bdB 0 (spL ats)++asB (spL ats) ats))++[62]++txB (ks.take nk) (dfS sp d)).length+((⟨#[60,47]⟩++(⟨#[120,109,108,58]⟩++lo))++⟨#[62]⟩:ByteArray).size≤17592186044416:=by
        have:=HL.out;rw[hTlen] at this;rw[hnl,acH,← aae,aaq,aaq,HN.out];simp only[List.length_append];show _+1+_+(2+_+1)≤_;omega
       have g0:((nk:Int) == 0)=false:=(by simpa using h0);have HZ3:=aac hz3;clear h0 hTlen hk0 hz3 hnl;go_wp2_with fail;refine(CW.out _ _ _ X.out hz2).mono ?_;rintro e w6 ⟨⟨m6,rfl⟩,h6⟩
       have X6:Hid (TrI B b w.heap.size #[.bool false,.string tx,.string sp,.string lo,.slice Aa na ca,.slice Ak nk ck] ((bs++H1++(bdB 0 (spL ats)++asB (spL ats) ats))++[62]++txB (ks.take 0) (dfS sp d)) w w6):=aac (by
        rw[show (ks.take 0)=Fo.nil by cases ks <;> rfl];show TrI B b w.heap.size #[.bool false,.string tx,.string sp,.string lo,.slice Aa na ca,.slice Ak nk ck] ((bs++H1++(bdB 0 (spL ats)++asB (spL ats) ats))++[62]++[]) w w6;rw[List.append_nil];exact h6)
       clear h6 X hz2 c0 c1 c2 c3 c4 c5;obtain⟨c0,c1,c2,c3,c4,c5⟩:=cells6 X6.out.box;go_wp2_with fail;clear c0 c1 c2 c3 c4 c5;go_loopw [69] (fun i wr=>∃ k:Nat,i=.int .i64 k∧k≤nk∧Hid (TrI B b w.heap.size #[.bool false,.string tx,.string sp,.string lo,.slice Aa na ca,.slice Ak nk ck] ((bs++H1++(bdB 0 (spL ats)++asB (spL ats) ats))++[62]++txB (ks.take k) (dfS sp d)) w wr)) (fun i _=>nk - (intOf i).toNat);case atStart=>exact⟨0,rfl,Nat.zero_le _,X6⟩
       case round=>
        clear X6;obtain⟨k,rfl,hk,X⟩:=hrel;by_cases hlt:k < nk
        · have g1:(k:Int) < (nk:Int):=(by omega);have g2:(0:Int)≤(k:Int):=(by omega);obtain⟨u,ux,us,ul,ua,uk,b1,o1,u1,u2,u3,u4,u5,u6,ed,hAk,hb1,x6,Y⟩:=(HT.out wr X.out.fr.bel).ks.at_ (k:=k) hlt;subst hAk;have hB9:Below wr.heap.size wr (wr.alloc (.cells #[.bool u,.string ux,.string us,.string ul,.slice u1 u2 u3,.slice u4 u5 u6] 32)):=(Below.refl _ wr).alloc (Nat.le_refl _) _;have C9:=aac (CS.out _ u ux us ul ua uk u1 u2 u3 u4 u5 u6 k (wr.alloc (.cells #[.bool u,.string ux,.string us,.string ul,.slice u1 u2 u3,.slice u4 u5 u6] 32)) HD.out hlt ed (Y.keep hB9) (X.out.keep hB hB9));obtain⟨x1,x2,x3,x4,x5,x7⟩:=x6;clear Y ed hb1 hB9;go_wp2_with fail;refine C9.out.mono ?_;rintro e w8 ⟨rfl,h8⟩;have X8:=aac h8;clear h8 C9 X x1 x2 x3 x4 x5 x7;go_wp2_with fail;go_roundw;case rel=>exact⟨k+1,by go_num,by omega,X8⟩
          case measure=>simp only[intOf];omega
        · have hke:k=nk:=(by omega);subst hke;have g1:¬ (k:Int) < (k:Int):=(by omega);go_wp2_with fail;refine(CW.out _ _ _ X.out HZ3.out).mono ?_;rintro e w8 ⟨⟨m8,rfl⟩,h8⟩;have X8:=aac h8;clear h8 X;go_wp2
          go_end0
          refine⟨rfl,?_,X8.out.fr⟩;have hp:=X8.out.prt;rw[aaq,aaq,HN.out] at hp;rw[hE.out];simp only[List.append_assoc] at hp ⊢;exact hp
   · rcases Classical.em (sp=d) with hsd | hsd
     · have K:=spK sp;rw[decide_eq_false hx] at K;have hQ:¬ (sp≠adk∧sp≠d):=fun q=>q.2 hsd;have HD:Hid (d=dfS sp d):=aac (by unfold dfS;rw[if_neg hx,hsd]);have f1:=awL hsd;have f2:=a4T hsd;have HN:Hid (aad (lo)=nmB sp lo):=aac (by unfold nmB;rw[if_neg hx]);have hN1:(nmB sp lo).length=(lo).size:=by rw[← aae,HN.out]
       have hz1:bs.length+(⟨#[60]⟩++lo:ByteArray).size≤17592186044416:=by
        have:=HL.out;rw[HH1.out] at this;rw[abS];simp only[List.length_append] at this;show _+(1+_)≤_;have h1:([60]:List Int).length=1:=rfl;omega
       obtain⟨ke,kx⟩:∃ q:Bool,SpK sp q false:=⟨_,K⟩;have x1:=kx.x1;have x2:=kx.x2;simp only[Bool.not_true,Bool.not_false] at x2;have HHq:Hid (H1=[60]++nmB sp lo):=aac (by rw[HH1.out,if_neg hQ,List.append_nil]);clear K kx hQ hx hsd hN1;have X:=X0;clear X0 HCW;go_enter Tryz.func29,Tryz.ntmps29;go_wp2_with fail;refine(CW.out _ _ _ X.out hz1).mono ?_;rintro e w2 ⟨⟨m2,rfl⟩,h2⟩;rw[aaq,HN.out,show aad (⟨#[60]⟩:ByteArray)=[60] from rfl] at h2;rw[← HHq.out] at h2
       replace X:=aac h2
       clear h2;obtain⟨c0,c1,c2,c3,c4,c5⟩:=cells6 X.out.box;go_wp2_with fail;refine(CA.out _ X.out).mono ?_;rintro e w5 ⟨rfl,h5⟩
       replace X:=aac h5
       clear h5 c0 c1 c2 c3 c4 c5;obtain⟨c0,c1,c2,c3,c4,c5⟩:=cells6 X.out.box;rcases Classical.em (nk=0) with h0 | h0
       · have hnl:=HNL.out;have hTlen:=HTl.out;have hE:Hid (TX=H1++(bdB 0 (spL ats)++asB (spL ats) ats)++[47,62]):=aac (by rw[HTX.out,HTL.out,if_pos (by omega)])
         have hz2:(bs++H1++(bdB 0 (spL ats)++asB (spL ats) ats)).length+(⟨#[47,62]⟩:ByteArray).size≤17592186044416:=by
          have:=HL.out;rw[hTlen,if_pos (by omega)] at this;simp only[List.length_append];show _+2≤_;omega
         have g0:((nk:Int) == 0)=true:=(by simpa using h0);have HE:=aac hE.out;clear h0 hTlen hnl;go_wp2_with fail;refine(CW.out _ _ _ X.out hz2).mono ?_;rintro e w6 ⟨⟨m6,rfl⟩,h6⟩;have X6:=aac h6;clear h6;go_wp2
         ((try simp only[Exit.inBlock,Exit.then]);refine bodyPost_ret (results_none rfl _ _ _) rfl ?_)
         refine⟨rfl,?_,X6.out.fr⟩;have hp:=X6.out.prt;rw[show aad (⟨#[47,62]⟩:ByteArray)=[47,62] from rfl] at hp;rw[hE.out];simp only[List.append_assoc] at hp ⊢;exact hp
       · have hnl:=HNL.out;have hTlen:=HTl.out;have hk0:¬ ks.len=0:=by omega
         have hE:Hid (TX=H1++(bdB 0 (spL ats)++asB (spL ats) ats)++[62]++txB (ks.take nk) (dfS sp d)++([60,47]++nmB sp lo++[62])):=aac (by
          rw[HTX.out,HTL.out,if_neg hk0,hnl,acH];simp only[List.append_assoc])
         rw[if_neg hk0] at hTlen
         have hz2:(bs++H1++(bdB 0 (spL ats)++asB (spL ats) ats)).length+(⟨#[62]⟩:ByteArray).size≤17592186044416:=by
          have:=HL.out;rw[hTlen] at this;simp only[List.length_append];show _+1≤_;omega
         have hz3:((bs++H1++(bdB 0 (spL ats)++asB (spL ats) ats))++[62]++txB (ks.take nk) (dfS sp d)).length+((⟨#[60,47]⟩++lo)++⟨#[62]⟩:ByteArray).size≤17592186044416:=by
          have:=HL.out;rw[hTlen] at this;rw[hnl,acH,← aae,aaq,aaq,HN.out];simp only[List.length_append];show _+1+_+(2+_+1)≤_;omega
         have g0:((nk:Int) == 0)=false:=(by simpa using h0);have HZ3:=aac hz3;clear h0 hTlen hk0 hz3 hnl;go_wp2_with fail;refine(CW.out _ _ _ X.out hz2).mono ?_;rintro e w6 ⟨⟨m6,rfl⟩,h6⟩
         have X6:Hid (TrI B b w.heap.size #[.bool false,.string tx,.string sp,.string lo,.slice Aa na ca,.slice Ak nk ck] ((bs++H1++(bdB 0 (spL ats)++asB (spL ats) ats))++[62]++txB (ks.take 0) (dfS sp d)) w w6):=aac (by
          rw[show (ks.take 0)=Fo.nil by cases ks <;> rfl];show TrI B b w.heap.size #[.bool false,.string tx,.string sp,.string lo,.slice Aa na ca,.slice Ak nk ck] ((bs++H1++(bdB 0 (spL ats)++asB (spL ats) ats))++[62]++[]) w w6;rw[List.append_nil];exact h6)
         clear h6 X hz2 c0 c1 c2 c3 c4 c5;obtain⟨c0,c1,c2,c3,c4,c5⟩:=cells6 X6.out.box;go_wp2_with fail;clear c0 c1 c2 c3 c4 c5;go_loopw [69] (fun i wr=>∃ k:Nat,i=.int .i64 k∧k≤nk∧Hid (TrI B b w.heap.size #[.bool false,.string tx,.string sp,.string lo,.slice Aa na ca,.slice Ak nk ck] ((bs++H1++(bdB 0 (spL ats)++asB (spL ats) ats))++[62]++txB (ks.take k) (dfS sp d)) w wr)) (fun i _=>nk - (intOf i).toNat);case atStart=>exact⟨0,rfl,Nat.zero_le _,X6⟩
         case round=>
          clear X6;obtain⟨k,rfl,hk,X⟩:=hrel;by_cases hlt:k < nk
          · have g1:(k:Int) < (nk:Int):=(by omega);have g2:(0:Int)≤(k:Int):=(by omega);obtain⟨u,ux,us,ul,ua,uk,b1,o1,u1,u2,u3,u4,u5,u6,ed,hAk,hb1,x6,Y⟩:=(HT.out wr X.out.fr.bel).ks.at_ (k:=k) hlt;subst hAk;have hB9:Below wr.heap.size wr (wr.alloc (.cells #[.bool u,.string ux,.string us,.string ul,.slice u1 u2 u3,.slice u4 u5 u6] 32)):=(Below.refl _ wr).alloc (Nat.le_refl _) _;have C9:=aac (CS.out _ u ux us ul ua uk u1 u2 u3 u4 u5 u6 k (wr.alloc (.cells #[.bool u,.string ux,.string us,.string ul,.slice u1 u2 u3,.slice u4 u5 u6] 32)) HD.out hlt ed (Y.keep hB9) (X.out.keep hB hB9));obtain⟨x1,x2,x3,x4,x5,x7⟩:=x6;clear Y ed hb1 hB9;go_wp2_with fail;refine C9.out.mono ?_;rintro e w8 ⟨rfl,h8⟩;have X8:=aac h8;clear h8 C9 X x1 x2 x3 x4 x5 x7;go_wp2_with fail;go_roundw;case rel=>exact⟨k+1,by go_num,by omega,X8⟩
            case measure=>simp only[intOf];omega
          · have hke:k=nk:=(by omega);subst hke;have g1:¬ (k:Int) < (k:Int):=(by omega);go_wp2_with fail;refine(CW.out _ _ _ X.out HZ3.out).mono ?_;rintro e w8 ⟨⟨m8,rfl⟩,h8⟩;have X8:=aac h8;clear h8 X;go_wp2
            go_end0
            refine⟨rfl,?_,X8.out.fr⟩;have hp:=X8.out.prt;rw[aaq,aaq,HN.out] at hp;rw[hE.out];simp only[List.append_assoc] at hp ⊢;exact hp
     · have K:=spK sp;rw[decide_eq_false hx] at K;have hQ:sp≠adk∧sp≠d:=⟨hx,hsd⟩;have HD:Hid (sp=dfS sp d):=aac (by unfold dfS;rw[if_neg hx]);have f1:=a1R hsd;have f2:=a2l hsd;have HN:Hid (aad (lo)=nmB sp lo):=aac (by unfold nmB;rw[if_neg hx]);have hN1:(nmB sp lo).length=(lo).size:=by rw[← aae,HN.out]
       have hz1:bs.length+(⟨#[60]⟩++lo:ByteArray).size≤17592186044416:=by
        have:=HL.out;rw[HH1.out] at this;rw[abS];simp only[List.length_append] at this;show _+(1+_)≤_;have h1:([60]:List Int).length=1:=rfl;omega
       obtain⟨ke,kx⟩:∃ q:Bool,SpK sp q false:=⟨_,K⟩;have x1:=kx.x1;have x2:=kx.x2;simp only[Bool.not_true,Bool.not_false] at x2;have CQ:=aac (HCW.out hQ);clear K kx hQ hx hsd hN1;have X:=X0;clear X0 HCW;go_enter Tryz.func29,Tryz.ntmps29;go_wp2_with fail;refine(CW.out _ _ _ X.out hz1).mono ?_;rintro e w2 ⟨⟨m2,rfl⟩,h2⟩;rw[aaq,HN.out,show aad (⟨#[60]⟩:ByteArray)=[60] from rfl] at h2;have X2:=aac h2;clear h2 X;obtain⟨c0,c1,c2,c3,c4,c5⟩:=cells6 X2.out.box;go_wp2_with fail;refine(CQ.out _ X2.out).mono ?_;rintro e w3 ⟨rfl,h3⟩;have X:=aac h3;clear h3 X2 CQ c0 c1 c2 c3 c4 c5;obtain⟨c0,c1,c2,c3,c4,c5⟩:=cells6 X.out.box;go_wp2_with fail;refine(CA.out _ X.out).mono ?_;rintro e w5 ⟨rfl,h5⟩
       replace X:=aac h5
       clear h5 c0 c1 c2 c3 c4 c5;obtain⟨c0,c1,c2,c3,c4,c5⟩:=cells6 X.out.box;rcases Classical.em (nk=0) with h0 | h0
       · have hnl:=HNL.out;have hTlen:=HTl.out;have hE:Hid (TX=H1++(bdB 0 (spL ats)++asB (spL ats) ats)++[47,62]):=aac (by rw[HTX.out,HTL.out,if_pos (by omega)])
         have hz2:(bs++H1++(bdB 0 (spL ats)++asB (spL ats) ats)).length+(⟨#[47,62]⟩:ByteArray).size≤17592186044416:=by
          have:=HL.out;rw[hTlen,if_pos (by omega)] at this;simp only[List.length_append];show _+2≤_;omega
         have g0:((nk:Int) == 0)=true:=(by simpa using h0);have HE:=aac hE.out;clear h0 hTlen hnl;go_wp2_with fail;refine(CW.out _ _ _ X.out hz2).mono ?_;rintro e w6 ⟨⟨m6,rfl⟩,h6⟩;have X6:=aac h6;clear h6;go_wp2
         ((try simp only[Exit.inBlock,Exit.then]);refine bodyPost_ret (results_none rfl _ _ _) rfl ?_)
         refine⟨rfl,?_,X6.out.fr⟩;have hp:=X6.out.prt;rw[show aad (⟨#[47,62]⟩:ByteArray)=[47,62] from rfl] at hp;rw[hE.out];simp only[List.append_assoc] at hp ⊢;exact hp
       · have hnl:=HNL.out;have hTlen:=HTl.out;have hk0:¬ ks.len=0:=by omega
         have hE:Hid (TX=H1++(bdB 0 (spL ats)++asB (spL ats) ats)++[62]++txB (ks.take nk) (dfS sp d)++([60,47]++nmB sp lo++[62])):=aac (by
          rw[HTX.out,HTL.out,if_neg hk0,hnl,acH];simp only[List.append_assoc])
         rw[if_neg hk0] at hTlen
         have hz2:(bs++H1++(bdB 0 (spL ats)++asB (spL ats) ats)).length+(⟨#[62]⟩:ByteArray).size≤17592186044416:=by
          have:=HL.out;rw[hTlen] at this;simp only[List.length_append];show _+1≤_;omega
         have hz3:((bs++H1++(bdB 0 (spL ats)++asB (spL ats) ats))++[62]++txB (ks.take nk) (dfS sp d)).length+((⟨#[60,47]⟩++lo)++⟨#[62]⟩:ByteArray).size≤17592186044416:=by
          have:=HL.out;rw[hTlen] at this;rw[hnl,acH,← aae,aaq,aaq,HN.out];simp only[List.length_append];show _+1+_+(2+_+1)≤_;omega
         have g0:((nk:Int) == 0)=false:=(by simpa using h0);have HZ3:=aac hz3;clear h0 hTlen hk0 hz3 hnl;go_wp2_with fail;refine(CW.out _ _ _ X.out hz2).mono ?_;rintro e w6 ⟨⟨m6,rfl⟩,h6⟩
         have X6:Hid (TrI B b w.heap.size #[.bool false,.string tx,.string sp,.string lo,.slice Aa na ca,.slice Ak nk ck] ((bs++H1++(bdB 0 (spL ats)++asB (spL ats) ats))++[62]++txB (ks.take 0) (dfS sp d)) w w6):=aac (by
          rw[show (ks.take 0)=Fo.nil by cases ks <;> rfl];show TrI B b w.heap.size #[.bool false,.string tx,.string sp,.string lo,.slice Aa na ca,.slice Ak nk ck] ((bs++H1++(bdB 0 (spL ats)++asB (spL ats) ats))++[62]++[]) w w6;rw[List.append_nil];exact h6)
         clear h6 X hz2 c0 c1 c2 c3 c4 c5;obtain⟨c0,c1,c2,c3,c4,c5⟩:=cells6 X6.out.box;go_wp2_with fail;clear c0 c1 c2 c3 c4 c5;go_loopw [69] (fun i wr=>∃ k:Nat,i=.int .i64 k∧k≤nk∧Hid (TrI B b w.heap.size #[.bool false,.string tx,.string sp,.string lo,.slice Aa na ca,.slice Ak nk ck] ((bs++H1++(bdB 0 (spL ats)++asB (spL ats) ats))++[62]++txB (ks.take k) (dfS sp d)) w wr)) (fun i _=>nk - (intOf i).toNat);case atStart=>exact⟨0,rfl,Nat.zero_le _,X6⟩
         case round=>
          clear X6;obtain⟨k,rfl,hk,X⟩:=hrel;by_cases hlt:k < nk
          · have g1:(k:Int) < (nk:Int):=(by omega);have g2:(0:Int)≤(k:Int):=(by omega);obtain⟨u,ux,us,ul,ua,uk,b1,o1,u1,u2,u3,u4,u5,u6,ed,hAk,hb1,x6,Y⟩:=(HT.out wr X.out.fr.bel).ks.at_ (k:=k) hlt;subst hAk;have hB9:Below wr.heap.size wr (wr.alloc (.cells #[.bool u,.string ux,.string us,.string ul,.slice u1 u2 u3,.slice u4 u5 u6] 32)):=(Below.refl _ wr).alloc (Nat.le_refl _) _;have C9:=aac (CS.out _ u ux us ul ua uk u1 u2 u3 u4 u5 u6 k (wr.alloc (.cells #[.bool u,.string ux,.string us,.string ul,.slice u1 u2 u3,.slice u4 u5 u6] 32)) HD.out hlt ed (Y.keep hB9) (X.out.keep hB hB9));obtain⟨x1,x2,x3,x4,x5,x7⟩:=x6;clear Y ed hb1 hB9;go_wp2_with fail;refine C9.out.mono ?_;rintro e w8 ⟨rfl,h8⟩;have X8:=aac h8;clear h8 C9 X x1 x2 x3 x4 x5 x7;go_wp2_with fail;go_roundw;case rel=>exact⟨k+1,by go_num,by omega,X8⟩
            case measure=>simp only[intOf];omega
          · have hke:k=nk:=(by omega);subst hke;have g1:¬ (k:Int) < (k:Int):=(by omega);go_wp2_with fail;refine(CW.out _ _ _ X.out HZ3.out).mono ?_;rintro e w8 ⟨⟨m8,rfl⟩,h8⟩;have X8:=aac h8;clear h8 X;go_wp2
            go_end0
            refine⟨rfl,?_,X8.out.fr⟩;have hp:=X8.out.prt;rw[aaq,aaq,HN.out] at hp;rw[hE.out];simp only[List.append_assoc] at hp ⊢;exact hp
theorem awT:∀ N,PtC N
 | 0=>fun t tx sp lo ats ks Aa na ca Ak nk ck d B b bs w h=>by omega
 | N+1=>azi N (aac (awT N))
structure a3f (f:Fo)(d:ByteArray):Prop where
 szM:f.szM
 atN:f.atN
 ds:d.size≤1048576
 lim:(txB f d).length≤17592186044416
theorem aoB (t:Bool)(tx sp lo:ByteArray)(ats:List P3)(ks:Fo)(Aa:Option Addr)(na ca:Nat)(Ak:Option Addr)(nk ck:Nat)(d:ByteArray)(w:World)(T:Tr1 (· < w.heap.size) w tx sp lo ats ks Aa na ca Ak nk ck)(O:a3f (Fo.cons t tx sp lo ats ks .nil) d)(hT:TbI w):
 Calls Tryz.prog 18 #[.agg #[.bool t,.string tx,.string sp,.string lo,.slice Aa na ca,.slice Ak nk ck],.string d] w fun e w'=>e=.returned (.string (strOfNums (txB (Fo.cons t tx sp lo ats ks .nil) d)))∧Below w.heap.size w w':=by
 have B0:Below w.heap.size w (w.alloc (.cells #[.bool t,.string tx,.string sp,.string lo,.slice Aa na ca,.slice Ak nk ck] 32)):=(Below.refl _ w).alloc (Nat.le_refl _) _;have B1:Below w.heap.size w ((w.alloc (.cells #[.bool t,.string tx,.string sp,.string lo,.slice Aa na ca,.slice Ak nk ck] 32)).alloc (.cells #[.pointer none,.slice none 0 0] 74)):=B0.alloc B0.size _;have hsz:(w.alloc (.cells #[.bool t,.string tx,.string sp,.string lo,.slice Aa na ca,.slice Ak nk ck] 32)).heap.size=w.heap.size+1:=World.size_alloc _ _;have HP:=ayN (w.alloc (.cells #[.bool t,.string tx,.string sp,.string lo,.slice Aa na ca,.slice Ak nk ck] 32)) w.heap.size B0.size;rw[hsz] at HP;have CP:=aac (awT (ks.siz+1) t tx sp lo ats ks Aa na ca Ak nk ck d w.heap.size (w.heap.size+1) [] ((w.alloc (.cells #[.bool t,.string tx,.string sp,.string lo,.slice Aa na ca,.slice Ak nk ck] 32)).alloc (.cells #[.pointer none,.slice none 0 0] 74)) (Nat.lt_succ_self _) (T.keep B1) O.szM O.atN O.ds HP B1.size (hT.b.on B1) (by rw[List.length_nil,Nat.zero_add];exact O.lim));have HK:=aac (abJ w 32 #[.bool t,.string tx,.string sp,.string lo,.slice Aa na ca,.slice Ak nk ck]);have HB1:=aac B1;clear T O hT B0 B1 HP hsz;generalize txB (Fo.cons t tx sp lo ats ks .nil) d=L at *;go_enter Tryz.func18,Tryz.ntmps18;go_wp2_with fail;refine CP.out.mono ?_;rintro e w1 ⟨rfl,h1,f1⟩;rw[List.nil_append] at h1;have CS:=aac (avT w.heap.size (w.heap.size+1) L w1 h1);have HB2:=aac (HB1.out.trans f1.bel);clear h1 f1 CP HB1;go_wp2_with fail;refine CS.out.mono ?_;rintro e w2 ⟨rfl,b2⟩;have HB3:=aac (HB2.out.trans b2);clear CS b2 HB2;go_wp2;go_ret;exact⟨rfl,HB3.out⟩
theorem ajK (t:Bool)(tx sp lo:ByteArray)(ats:List P3)(ks:Fo)(Aa:Option Addr)(na ca:Nat)(Ak:Option Addr)(nk ck:Nat)(w:World)(T:Tr1 (· < w.heap.size) w tx sp lo ats ks Aa na ca Ak nk ck)(O:a3f (Fo.cons t tx sp lo ats ks .nil) emB)(hT:TbI w):
 Calls Tryz.prog 8 #[.agg #[.bool t,.string tx,.string sp,.string lo,.slice Aa na ca,.slice Ak nk ck]] w fun e w'=>e=.returned (.string (strOfNums (txB (Fo.cons t tx sp lo ats ks .nil) emB)))∧Below w.heap.size w w':=by
 have B0:Below w.heap.size w (w.alloc (.cells #[.bool t,.string tx,.string sp,.string lo,.slice Aa na ca,.slice Ak nk ck] 32)):=(Below.refl _ w).alloc (Nat.le_refl _) _;have CP:Hid (Calls Tryz.prog 18 #[.agg #[.bool t,.string tx,.string sp,.string lo,.slice Aa na ca,.slice Ak nk ck],.string ⟨#[]⟩] (w.alloc (.cells #[.bool t,.string tx,.string sp,.string lo,.slice Aa na ca,.slice Ak nk ck] 32)) fun e w'=>e=.returned (.string (strOfNums (txB (Fo.cons t tx sp lo ats ks .nil) emB)))∧Below (w.alloc (.cells #[.bool t,.string tx,.string sp,.string lo,.slice Aa na ca,.slice Ak nk ck] 32)).heap.size (w.alloc (.cells #[.bool t,.string tx,.string sp,.string lo,.slice Aa na ca,.slice Ak nk ck] 32)) w'):=aac (aoB t tx sp lo ats ks Aa na ca Ak nk ck emB _ ((T.keep B0).mono fun b hp=>Nat.lt_of_lt_of_le hp B0.size) O (hT.keep B0));have HB:=aac B0;clear T O hT B0;generalize strOfNums (txB (Fo.cons t tx sp lo ats ks .nil) emB)=L at *;go_enter Tryz.func8,Tryz.ntmps8;go_wp2_with fail;refine CP.out.mono ?_;rintro e w1 ⟨rfl,b1⟩;have HB2:=aac (HB.out.trans (b1.mono HB.out.size));clear b1 CP HB;go_wp2;go_ret;exact⟨rfl,HB2.out⟩
end Go.Proofs.YtiaebhomfebagaaGreatDoor.Ev
namespace Go.Proofs.YtiaebhomfebagaaGreatDoor.Tg
open Go.RowKit
def aaZ (c:Int):Bool:=decide (Blank c)
def bk (u:ByteArray):Nat:=((aad u).takeWhile aaZ).length
def sk (u:ByteArray):ByteArray:=Nz.fr u (bk u)
def hd (u:ByteArray):Int:=(aad u).getD 0 0
def isN (s:ByteArray):Bool:=(Nz.aak s).2.2
def qi (q:UInt8)(u:ByteArray):Int:=Lib.indexByte u.data.toList q
def adK (nm:ByteArray)(l:List (ByteArray × ByteArray)):Bool:=l.any fun x=>decide (aad x.1=aad nm)
def aki (q:UInt8)(nm u:ByteArray):Int × ByteArray × ByteArray × ByteArray:=
 if qi q u= -1 then (6,Nz.em,Nz.em,Nz.em)
 else if (acF true (aad (u.extract 0 (qi q u).toNat))).2.2≠0 then ((acF true (aad (u.extract 0 (qi q u).toNat))).2.2,Nz.em,Nz.em,Nz.em)
 else (0,nm,strOfNums (acF true (aad (u.extract 0 (qi q u).toNat))).1,Nz.fr u ((qi q u).toNat+1))
def aap (u:ByteArray):Int × ByteArray × ByteArray × ByteArray:=
 if isN (Nz.sx u 0)=false then (4,Nz.em,Nz.em,Nz.em)
 else if hd (sk (Nz.fr u (Nz.sn u 0)))≠61 then (6,Nz.em,Nz.em,Nz.em)
 else if hd (sk (Nz.fr (sk (Nz.fr u (Nz.sn u 0))) 1))=34 then aki 34 (Nz.sx u 0) (Nz.fr (sk (Nz.fr (sk (Nz.fr u (Nz.sn u 0))) 1)) 1)
 else if hd (sk (Nz.fr (sk (Nz.fr u (Nz.sn u 0))) 1))=39 then aki 39 (Nz.sx u 0) (Nz.fr (sk (Nz.fr (sk (Nz.fr u (Nz.sn u 0))) 1)) 1)
 else (6,Nz.em,Nz.em,Nz.em)
def goF:Nat→ByteArray→List (ByteArray × ByteArray)→ByteArray→Int × ByteArray × List (ByteArray × ByteArray)
 | 0,nm,l,u=>(0,nm,l)
 | f+1,nm,l,u=>
   if (sk u).size=0 then (0,nm,l)
   else if bk u=0 then (6,Nz.em,[])
   else if (aap (sk u)).1≠0 then ((aap (sk u)).1,Nz.em,[])
   else if adK (aap (sk u)).2.1 l=true then (8,Nz.em,[])
   else if 32≤l.length then (13,Nz.em,[])
   else goF f nm (l++[((aap (sk u)).2.1,(aap (sk u)).2.2.1)]) (aap (sk u)).2.2.2
def GoF (nm:ByteArray)(l:List (ByteArray × ByteArray))(u:ByteArray):Int × ByteArray × List (ByteArray × ByteArray):=goF (u.size+1) nm l u
def aaE (u:ByteArray):Int × ByteArray × List (ByteArray × ByteArray):=
 if isN (Nz.sx u 0)=false then (4,Nz.em,[]) else GoF (Nz.sx u 0) [] (Nz.fr u (Nz.sn u 0))
theorem abo (u:ByteArray):(sk u).size=u.size - bk u:=by unfold sk;rw[Nz.aaD]
theorem a5g (u:ByteArray):bk u≤u.size:=by
 have:=(List.takeWhile_prefix aaZ (l:=aad u)).length_le;rw[aae] at this;exact this
theorem awU {u:ByteArray}(h:hd u≠0):1≤u.size:=by
 rcases Nat.eq_zero_or_pos u.size with h0 | h0
 · exfalso;apply h;unfold hd;have e:aad u=[]:=List.eq_nil_of_length_eq_zero (by rw[aae];exact h0);rw[e];rfl
 · exact h0
theorem axu (q:UInt8)(nm u:ByteArray):(aki q nm u).1=0→(aki q nm u).2.2.2.size≤u.size:=by
 unfold aki;split
 · intro h;exact absurd h (by decide)
 split
 · intro h;rename_i h2;exact absurd h h2
 · intro _;show (Nz.fr u _).size≤_;rw[Nz.aaD];omega
theorem aic {u:ByteArray}(h:(aap u).1=0):(aap u).2.2.2.size < u.size:=by
 unfold aap at h ⊢;split at h
 · exact absurd h (by decide)
 rename_i h1;rw[if_neg h1];split at h
 · exact absurd h (by decide)
 rename_i h2;rw[if_neg h2];have s1:=abo (Nz.fr u (Nz.sn u 0));rw[Nz.aaD] at s1;have s2:=abo (Nz.fr (sk (Nz.fr u (Nz.sn u 0))) 1);rw[Nz.aaD] at s2;split at h
 · rename_i h3;rw[if_pos h3];have:=axu _ _ _ h;rw[Nz.aaD] at this;have h4:=awU (u:=sk (Nz.fr (sk (Nz.fr u (Nz.sn u 0))) 1)) (by rw[h3];decide);omega
 rename_i h3;rw[if_neg h3];split at h
 · rename_i h5;rw[if_pos h5];have:=axu _ _ _ h;rw[Nz.aaD] at this;have h4:=awU (u:=sk (Nz.fr (sk (Nz.fr u (Nz.sn u 0))) 1)) (by rw[h5];decide);omega
 · exact absurd h (by decide)
theorem aps:∀ (f g:Nat) (nm:ByteArray) (l:List (ByteArray × ByteArray)) (u:ByteArray),u.size < f→u.size < g→goF f nm l u=goF g nm l u
 | 0,_,_,_,u,h,_=>absurd h (Nat.not_lt_zero _)
 | _+1,0,_,_,u,_,h=>absurd h (Nat.not_lt_zero _)
 | f+1,g+1,nm,l,u,hf,hg=>by
   unfold goF;by_cases c1:(sk u).size=0
   · rw[if_pos c1,if_pos c1]
   rw[if_neg c1,if_neg c1];by_cases c2:bk u=0
   · rw[if_pos c2,if_pos c2]
   rw[if_neg c2,if_neg c2];by_cases c3:(aap (sk u)).1≠0
   · rw[if_pos c3,if_pos c3]
   rw[if_neg c3,if_neg c3];by_cases c4:adK (aap (sk u)).2.1 l=true
   · rw[if_pos c4,if_pos c4]
   rw[if_neg c4,if_neg c4];by_cases c5:32≤l.length
   · rw[if_pos c5,if_pos c5]
   rw[if_neg c5,if_neg c5];have hlt:=aic (Decidable.not_not.1 c3);have hs:=abo u;exact aps f g _ _ _ (by omega) (by omega)
theorem apB (nm:ByteArray)(l:List (ByteArray × ByteArray))(u:ByteArray)(c1:(sk u).size=0):GoF nm l u=(0,nm,l):=by
 unfold GoF goF;rw[if_pos c1]
theorem azf (nm:ByteArray)(l:List (ByteArray × ByteArray))(u:ByteArray)(c1:(sk u).size≠0)(c2:bk u=0):GoF nm l u=(6,Nz.em,[]):=by
 unfold GoF goF;rw[if_neg c1,if_pos c2]
theorem a4p (nm:ByteArray)(l:List (ByteArray × ByteArray))(u:ByteArray)(c1:(sk u).size≠0)(c2:bk u≠0)(c3:(aap (sk u)).1≠0):GoF nm l u=((aap (sk u)).1,Nz.em,[]):=by
 unfold GoF goF;rw[if_neg c1,if_neg c2,if_pos c3]
theorem awv (nm:ByteArray)(l:List (ByteArray × ByteArray))(u:ByteArray)(c1:(sk u).size≠0)(c2:bk u≠0)(c3:(aap (sk u)).1=0)(c4:adK (aap (sk u)).2.1 l=true):GoF nm l u=(8,Nz.em,[]):=by
 unfold GoF goF;rw[if_neg c1,if_neg c2,if_neg (Decidable.not_not.2 c3),if_pos c4]
theorem avf (nm:ByteArray)(l:List (ByteArray × ByteArray))(u:ByteArray)(c1:(sk u).size≠0)(c2:bk u≠0)(c3:(aap (sk u)).1=0)(c4:adK (aap (sk u)).2.1 l=false)(c5:32≤l.length):GoF nm l u=(13,Nz.em,[]):=by
 unfold GoF goF;rw[if_neg c1,if_neg c2,if_neg (Decidable.not_not.2 c3),if_neg (by rw[c4];decide),if_pos c5]
theorem go_ok (nm:ByteArray)(l:List (ByteArray × ByteArray))(u:ByteArray)(c1:(sk u).size≠0)(c2:bk u≠0)(c3:(aap (sk u)).1=0)(c4:adK (aap (sk u)).2.1 l=false)(c5:¬ 32≤l.length):
 GoF nm l u=GoF nm (l++[((aap (sk u)).2.1,(aap (sk u)).2.2.1)]) (aap (sk u)).2.2.2:=by
 have hlt:=aic c3;have hs:=abo u;unfold GoF;rw[goF,if_neg c1,if_neg c2,if_neg (Decidable.not_not.2 c3),if_neg (by rw[c4];decide),if_neg c5];exact aps _ _ _ _ _ (by omega) (by omega)
theorem eqS (a b:ByteArray):(a.toList == b.toList)=decide (aad a=aad b):=by
 rw[Lib.toList_data,Lib.toList_data];by_cases h:aad a=aad b
 · have:=aaW h;subst this;rw[decide_eq_true h];exact beq_self_eq_true _
 · rw[decide_eq_false h];rw[beq_eq_false_iff_ne];intro e;apply h;unfold aad;rw[e]
theorem abw (u:ByteArray)(k:Nat):aad (Nz.fr u k)=(aad u).drop k:=abD u k
theorem asw (u:ByteArray)(a b:Nat):Nz.fr (Nz.fr u a) b=Nz.fr u (a+b):=aaW (by rw[abw,abw,abw,List.drop_drop])
theorem azY (u:ByteArray):Nz.fr u 0=u:=aaW (by rw[abw,List.drop_zero])
theorem aiy (u:ByteArray):Nz.sx u 0=u.extract 0 (Nz.sn u 0):=by unfold Nz.sx;rw[azY]
theorem auD (u:ByteArray):(Nz.sx u 0).size≤u.size:=by
 rw[aiy,← aae,abV,List.length_take,aae];omega
end Go.Proofs.YtiaebhomfebagaaGreatDoor.Tg
namespace Go.Proofs
open Go.Shelf
open Go.RowKit
def Tryz.alP:Go.Shelf.Ren:=⟨fun | 161=>124 | 231=>148 | 227=>149 | 233=>150 | 235=>151 | 228=>172 | 197=>135 | 151=>173 | 260=>164 | 152=>186 | 137=>193 | 119=>194 | 224=>120 | 225=>119 | 217=>118 | 266=>143 | n=>n,fun | 9=>9 | 4=>4 | 3=>3 | 5=>5 | 117=>208 | 116=>207 | 0=>0 | 124=>211 | 105=>109 | 21=>21 | 119=>244 | 46=>112 | 139=>247 | 138=>246 | n=>n,fun | 3=>5 | 4=>6 | n=>n⟩
theorem Tryz.lays161:Go.Proofs.Lays.n161 Tryz.prog Tryz.alP:={
 mixed:=by kernel_rfl
 f119:=Tryz.func194.trans (congrArg some (by kernel_rfl))
 f137:=Tryz.func193.trans (congrArg some (by kernel_rfl))
 f151:=Tryz.func173.trans (congrArg some (by kernel_rfl))
 f152:=Tryz.func186.trans (congrArg some (by kernel_rfl))
 f161:=Tryz.func124.trans (congrArg some (by kernel_rfl))
 f197:=Tryz.func135.trans (congrArg some (by kernel_rfl))
 f217:=Tryz.func118.trans (congrArg some (by kernel_rfl))
 f224:=Tryz.func120.trans (congrArg some (by kernel_rfl))
 f225:=Tryz.func119.trans (congrArg some (by kernel_rfl))
 f227:=Tryz.func149.trans (congrArg some (by kernel_rfl))
 f228:=Tryz.func172.trans (congrArg some (by kernel_rfl))
 f231:=Tryz.func148.trans (congrArg some (by kernel_rfl))
 f233:=Tryz.func150.trans (congrArg some (by kernel_rfl))
 f235:=Tryz.func151.trans (congrArg some (by kernel_rfl))
 f260:=Tryz.func164.trans (congrArg some (by kernel_rfl))
 f266:=Tryz.func143.trans (congrArg some (by kernel_rfl))
 t0:=Tryz.underlying0
 a0:=Tryz.isAgg0
 z0:=Tryz.sizeOf0
 v0:=Tryz.zeroValue0
 t3:=Tryz.underlying3
 a3:=Tryz.isAgg3
 z3:=Tryz.sizeOf3
 v3:=Tryz.zeroValue3
 t4:=Tryz.underlying4
 a4:=Tryz.isAgg4
 z4:=Tryz.sizeOf4
 v4:=Tryz.zeroValue4
 t5:=Tryz.underlying5
 a5:=Tryz.isAgg5
 z5:=Tryz.sizeOf5
 v5:=Tryz.zeroValue5
 t9:=Tryz.underlying9
 a9:=Tryz.isAgg9
 z9:=Tryz.sizeOf9
 v9:=Tryz.zeroValue9
 t21:=Tryz.underlying21
 a21:=Tryz.isAgg21
 z21:=Tryz.sizeOf21
 v21:=Tryz.zeroValue21
 t46:=Tryz.underlying112
 a46:=Tryz.isAgg112
 z46:=Tryz.sizeOf112
 v46:=Tryz.zeroValue112
 t105:=Tryz.underlying109
 a105:=Tryz.isAgg109
 z105:=Tryz.sizeOf109
 v105:=Tryz.zeroValue109
 t116:=Tryz.underlying207
 a116:=Tryz.isAgg207
 z116:=Tryz.sizeOf207
 t117:=Tryz.underlying208
 a117:=Tryz.isAgg208
 z117:=Tryz.sizeOf208
 v117:=Tryz.zeroValue208
 t119:=Tryz.underlying244
 a119:=Tryz.isAgg244
 z119:=Tryz.sizeOf244
 t124:=Tryz.underlying211
 a124:=Tryz.isAgg211
 z124:=Tryz.sizeOf211
 v124:=Tryz.zeroValue211
 t138:=Tryz.underlying246
 a138:=Tryz.isAgg246
 z138:=Tryz.sizeOf246
 v138:=Tryz.zeroValue246
 t139:=Tryz.underlying247
 a139:=Tryz.isAgg247
 z139:=Tryz.sizeOf247
 v139:=Tryz.zeroValue247
 g3:=by kernel_rfl
 g4:=by kernel_rfl }
theorem Tryz.strings_TrimLeft_laid (s cutset:ByteArray)(w:World)(hcs:cutset.size < 4294967281)(hascii:∀ (j:Nat) b,cutset.data.toList[j]?=some b→b.toNat < 128):
 Calls Tryz.prog 124 #[.string s,.string cutset] w fun e w'=>e=.returned (.string ⟨(Lib.trimLeftS s.data.toList cutset.data.toList).toArray⟩)∧Below w.heap.size w w':=Any.strings_TrimLeft_laid Tryz.lays161 (by kernel_rfl) s cutset w hcs hascii
end Go.Proofs
