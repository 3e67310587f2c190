/- Lemmas of the claim. -/
import Derived.Test.YtiaebhomfebagaaGreatDoorG23
import Derived.Test.YtiaebhomfebagaaGreatDoorG21
import Derived.Test.YtiaebhomfebagaaGreatDoorG20
import Derived.Laws.EntriesVeiled
set_option maxHeartbeats 4000000
set_option maxRecDepth 100000
set_option linter.unusedSimpArgs false
set_option linter.unusedVariables false
namespace Go.Proofs.YtiaebhomfebagaaGreatDoor
open Go.RowKit
theorem ayi (m:ByteArray)(w:World):Calls Tryz.prog 83 #[.string m] w fun e w'=>e=.returned (.func (.func 109) #[] #[.pointer (some ⟨w.heap.size,0,none⟩)])∧w'=w.alloc (.cells #[.string m] 9):=by
 go_enter Tryz.func83,Tryz.ntmps83;go_wp2;go_ret;exact⟨rfl,rfl⟩
theorem aof (er:Int)(w:World):Calls Tryz.prog 86 #[.int .i64 er] w fun e w'=>e=.returned (.func (.func 112) #[] #[.pointer (some ⟨w.heap.size,0,none⟩)])∧w'=w.alloc (.cells #[.int .i64 er] 24):=by
 go_enter Tryz.func86,Tryz.ntmps86;go_wp2;go_ret;exact⟨rfl,rfl⟩
def adZ (N:Nat):Array Value:=
 #[.string ⟨#[60,33,91,67,68,65,84,65,91]⟩,.func (.func 109) #[] #[.pointer (some ⟨N,0,none⟩)],.func (.func 84) #[] #[],
   .string ⟨#[60,33,45,45]⟩,.func (.func 109) #[] #[.pointer (some ⟨N+1,0,none⟩)],.func (.func 85) #[] #[],
   .string ⟨#[60,33,68,79,67,84,89,80,69]⟩,.func (.func 109) #[] #[.pointer (some ⟨N+2,0,none⟩)],.func (.func 112) #[] #[.pointer (some ⟨N+3,0,none⟩)],
   .string ⟨#[60,33]⟩,.func (.func 109) #[] #[.pointer (some ⟨N+4,0,none⟩)],.func (.func 112) #[] #[.pointer (some ⟨N+5,0,none⟩)],
   .string ⟨#[60,63]⟩,.func (.func 109) #[] #[.pointer (some ⟨N+6,0,none⟩)],.func (.func 87) #[] #[],
   .string ⟨#[60,47]⟩,.func (.func 109) #[] #[.pointer (some ⟨N+7,0,none⟩)],.func (.func 88) #[] #[],
   .string ⟨#[60]⟩,.func (.func 89) #[] #[],.func (.func 90) #[] #[]]
structure KW (N:Nat)(w:World):Prop where
 m0:w.cell? ⟨N,0,none⟩=some (.string ⟨#[93,93,62]⟩)
 m1:w.cell? ⟨N+1,0,none⟩=some (.string ⟨#[45,45,62]⟩)
 m2:w.cell? ⟨N+2,0,none⟩=some (.string ⟨#[]⟩)
 m3:w.cell? ⟨N+3,0,none⟩=some (.int .i64 12)
 m4:w.cell? ⟨N+4,0,none⟩=some (.string ⟨#[]⟩)
 m5:w.cell? ⟨N+5,0,none⟩=some (.int .i64 6)
 m6:w.cell? ⟨N+6,0,none⟩=some (.string ⟨#[63,62]⟩)
 m7:w.cell? ⟨N+7,0,none⟩=some (.string ⟨#[62]⟩)
 row:∀ i,i < 21→w.cell? ⟨N+8,i,none⟩=(adZ N)[i]?
theorem KW.keep {N:Nat}{w w':World}(h:KW N w)(hb:Below (N+9) w w'):KW N w':=
 ⟨(hb.cell (p:=⟨N,0,none⟩) (by show N < N+9;omega)).trans h.m0,(hb.cell (p:=⟨N+1,0,none⟩) (by show N+1 < N+9;omega)).trans h.m1,(hb.cell (p:=⟨N+2,0,none⟩) (by show N+2 < N+9;omega)).trans h.m2,
  (hb.cell (p:=⟨N+3,0,none⟩) (by show N+3 < N+9;omega)).trans h.m3,(hb.cell (p:=⟨N+4,0,none⟩) (by show N+4 < N+9;omega)).trans h.m4,(hb.cell (p:=⟨N+5,0,none⟩) (by show N+5 < N+9;omega)).trans h.m5,
  (hb.cell (p:=⟨N+6,0,none⟩) (by show N+6 < N+9;omega)).trans h.m6,(hb.cell (p:=⟨N+7,0,none⟩) (by show N+7 < N+9;omega)).trans h.m7,fun i hi=>(hb.cell (p:=⟨N+8,i,none⟩) (by show N+8 < N+9;omega)).trans (h.row i hi)⟩
def kw0 (w:World):World:=w.alloc (.cells #[.string ⟨#[93,93,62]⟩] 9)
def kw1 (w:World):World:=(kw0 w).alloc (.cells #[.string ⟨#[45,45,62]⟩] 9)
def kw2 (w:World):World:=(kw1 w).alloc (.cells #[.string ⟨#[]⟩] 9)
def kw3 (w:World):World:=(kw2 w).alloc (.cells #[.int .i64 12] 24)
def kw4 (w:World):World:=(kw3 w).alloc (.cells #[.string ⟨#[]⟩] 9)
def kw5 (w:World):World:=(kw4 w).alloc (.cells #[.int .i64 6] 24)
def kw6 (w:World):World:=(kw5 w).alloc (.cells #[.string ⟨#[63,62]⟩] 9)
def kw7 (w:World):World:=(kw6 w).alloc (.cells #[.string ⟨#[62]⟩] 9)
def kw8 (w:World):World:=(kw7 w).alloc (.cells (adZ w.heap.size) 122)
theorem aay (w:World)(o:Obj):(w.alloc o).heap.size=w.heap.size+1:=by simp
theorem abu (w:World)(v:Value)(t:TypeId):(w.alloc (.cells #[v] t)).cell? ⟨w.heap.size,0,none⟩=some v:=apn w t #[v] 0
theorem abt {w:World}{b o:Nat}{v:Value}(x:Obj)(h:w.cell? ⟨b,o,none⟩=some v):(w.alloc x).cell? ⟨b,o,none⟩=some v:=afw h x
theorem aiM (w:World):(kw0 w).heap.size=w.heap.size+1∧(kw1 w).heap.size=w.heap.size+2∧(kw2 w).heap.size=w.heap.size+3∧(kw3 w).heap.size=w.heap.size+4∧(kw4 w).heap.size=w.heap.size+5∧
 (kw5 w).heap.size=w.heap.size+6∧(kw6 w).heap.size=w.heap.size+7∧(kw7 w).heap.size=w.heap.size+8∧(kw8 w).heap.size=w.heap.size+9:=by
 have h0:(kw0 w).heap.size=w.heap.size+1:=aay w _;have h1:(kw1 w).heap.size=w.heap.size+2:=(aay _ _).trans (by rw[h0]);have h2:(kw2 w).heap.size=w.heap.size+3:=(aay _ _).trans (by rw[h1]);have h3:(kw3 w).heap.size=w.heap.size+4:=(aay _ _).trans (by rw[h2]);have h4:(kw4 w).heap.size=w.heap.size+5:=(aay _ _).trans (by rw[h3]);have h5:(kw5 w).heap.size=w.heap.size+6:=(aay _ _).trans (by rw[h4]);have h6:(kw6 w).heap.size=w.heap.size+7:=(aay _ _).trans (by rw[h5]);have h7:(kw7 w).heap.size=w.heap.size+8:=(aay _ _).trans (by rw[h6]);have h8:(kw8 w).heap.size=w.heap.size+9:=(aay _ _).trans (by rw[h7]);exact⟨h0,h1,h2,h3,h4,h5,h6,h7,h8⟩
theorem a5O (w:World):KW w.heap.size (kw8 w):=by
 obtain⟨s0,s1,s2,s3,s4,s5,s6,s7,s8⟩:=aiM w;have a0:(kw0 w).cell? ⟨w.heap.size,0,none⟩=_:=abu w _ _;have a1:(kw1 w).cell? ⟨w.heap.size+1,0,none⟩=some (.string ⟨#[45,45,62]⟩):=by have:=abu (kw0 w) (.string ⟨#[45,45,62]⟩) 9;rw[s0] at this;exact this
 have a2:(kw2 w).cell? ⟨w.heap.size+2,0,none⟩=some (.string ⟨#[]⟩):=by have:=abu (kw1 w) (.string ⟨#[]⟩) 9;rw[s1] at this;exact this
 have a3:(kw3 w).cell? ⟨w.heap.size+3,0,none⟩=some (.int .i64 12):=by have:=abu (kw2 w) (.int .i64 12) 24;rw[s2] at this;exact this
 have a4:(kw4 w).cell? ⟨w.heap.size+4,0,none⟩=some (.string ⟨#[]⟩):=by have:=abu (kw3 w) (.string ⟨#[]⟩) 9;rw[s3] at this;exact this
 have a5:(kw5 w).cell? ⟨w.heap.size+5,0,none⟩=some (.int .i64 6):=by have:=abu (kw4 w) (.int .i64 6) 24;rw[s4] at this;exact this
 have a6:(kw6 w).cell? ⟨w.heap.size+6,0,none⟩=some (.string ⟨#[63,62]⟩):=by have:=abu (kw5 w) (.string ⟨#[63,62]⟩) 9;rw[s5] at this;exact this
 have a7:(kw7 w).cell? ⟨w.heap.size+7,0,none⟩=some (.string ⟨#[62]⟩):=by have:=abu (kw6 w) (.string ⟨#[62]⟩) 9;rw[s6] at this;exact this
 have k1:∀ {b:Nat} {v:Value},(kw0 w).cell? ⟨b,0,none⟩=some v→(kw1 w).cell? ⟨b,0,none⟩=some v:=fun h=>abt _ h;have k2:∀ {b:Nat} {v:Value},(kw1 w).cell? ⟨b,0,none⟩=some v→(kw2 w).cell? ⟨b,0,none⟩=some v:=fun h=>abt _ h;have k3:∀ {b:Nat} {v:Value},(kw2 w).cell? ⟨b,0,none⟩=some v→(kw3 w).cell? ⟨b,0,none⟩=some v:=fun h=>abt _ h;have k4:∀ {b:Nat} {v:Value},(kw3 w).cell? ⟨b,0,none⟩=some v→(kw4 w).cell? ⟨b,0,none⟩=some v:=fun h=>abt _ h;have k5:∀ {b:Nat} {v:Value},(kw4 w).cell? ⟨b,0,none⟩=some v→(kw5 w).cell? ⟨b,0,none⟩=some v:=fun h=>abt _ h;have k6:∀ {b:Nat} {v:Value},(kw5 w).cell? ⟨b,0,none⟩=some v→(kw6 w).cell? ⟨b,0,none⟩=some v:=fun h=>abt _ h;have k7:∀ {b:Nat} {v:Value},(kw6 w).cell? ⟨b,0,none⟩=some v→(kw7 w).cell? ⟨b,0,none⟩=some v:=fun h=>abt _ h;have k8:∀ {b:Nat} {v:Value},(kw7 w).cell? ⟨b,0,none⟩=some v→(kw8 w).cell? ⟨b,0,none⟩=some v:=fun h=>abt _ h;refine⟨k8 (k7 (k6 (k5 (k4 (k3 (k2 (k1 a0))))))),k8 (k7 (k6 (k5 (k4 (k3 (k2 a1)))))),k8 (k7 (k6 (k5 (k4 (k3 a2))))),k8 (k7 (k6 (k5 (k4 a3)))),k8 (k7 (k6 (k5 a4))),k8 (k7 (k6 a5)),k8 (k7 a6),k8 a7,fun i hi=> ?_⟩;have:=apn (kw7 w) 122 (adZ w.heap.size) i;rw[s7] at this;exact this
theorem auo (w:World):Below w.heap.size w (kw8 w):=by
 obtain⟨s0,s1,s2,s3,s4,s5,s6,s7,s8⟩:=aiM w;have b0:Below w.heap.size w (kw0 w):=(Below.refl _ w).alloc (Nat.le_refl _) _;have b1:Below w.heap.size w (kw1 w):=b0.alloc (by omega) _;have b2:Below w.heap.size w (kw2 w):=b1.alloc (by omega) _;have b3:Below w.heap.size w (kw3 w):=b2.alloc (by omega) _;have b4:Below w.heap.size w (kw4 w):=b3.alloc (by omega) _;have b5:Below w.heap.size w (kw5 w):=b4.alloc (by omega) _;have b6:Below w.heap.size w (kw6 w):=b5.alloc (by omega) _;have b7:Below w.heap.size w (kw7 w):=b6.alloc (by omega) _;exact b7.alloc (by omega) _
def a3h (w:World)(e:Ending)(w':World):Prop:=e=.returned (.slice (some ⟨w.heap.size+8,0,none⟩) 7 7)∧KW w.heap.size w'∧Below w.heap.size w w'∧w'.heap.size=w.heap.size+9
theorem aoO (w:World):Calls Tryz.prog 65 #[] w (a3h w):=by
 obtain⟨s0,s1,s2,s3,s4,s5,s6,s7,s8⟩:=aiM w;have HF:Hid (KW w.heap.size (kw8 w)∧Below w.heap.size w (kw8 w)∧(kw8 w).heap.size=w.heap.size+9):=aac ⟨a5O w,auo w,s8⟩;have U:=aac (fun m W=>ayi m W);have R:=aac (fun m W=>aof m W);have E8:Hid (∀ W,W=kw7 w→W.alloc (.cells (adZ w.heap.size) 122)=kw8 w):=aac fun W h=>by rw[h];rfl
 clear s8;go_enter Tryz.func65,Tryz.ntmps65;go_wp2_with fail;refine(U.out _ _).mono ?_;rintro e w0 ⟨rfl,h0⟩;rw[show w.alloc (.cells #[.string ⟨#[93,93,62]⟩] 9)=kw0 w from rfl] at h0;subst h0;go_wp2_with fail;refine(U.out _ _).mono ?_;rintro e w1 ⟨rfl,h0⟩;rw[show (kw0 w).alloc (.cells #[.string ⟨#[45,45,62]⟩] 9)=kw1 w from rfl] at h0;subst h0;rw[s0];go_wp2_with fail;refine(U.out _ _).mono ?_;rintro e w1 ⟨rfl,h0⟩;rw[show (kw1 w).alloc (.cells #[.string ⟨#[]⟩] 9)=kw2 w from rfl] at h0;subst h0;rw[s1];go_wp2_with fail;refine(R.out _ _).mono ?_;rintro e w1 ⟨rfl,h0⟩;rw[show (kw2 w).alloc (.cells #[.int .i64 12] 24)=kw3 w from rfl] at h0;subst h0;rw[s2];go_wp2_with fail;refine(U.out _ _).mono ?_;rintro e w1 ⟨rfl,h0⟩;rw[show (kw3 w).alloc (.cells #[.string ⟨#[]⟩] 9)=kw4 w from rfl] at h0;subst h0;rw[s3];go_wp2_with fail;refine(R.out _ _).mono ?_;rintro e w1 ⟨rfl,h0⟩;rw[show (kw4 w).alloc (.cells #[.int .i64 6] 24)=kw5 w from rfl] at h0;subst h0;rw[s4];go_wp2_with fail;refine(U.out _ _).mono ?_;rintro e w1 ⟨rfl,h0⟩;rw[show (kw5 w).alloc (.cells #[.string ⟨#[63,62]⟩] 9)=kw6 w from rfl] at h0;subst h0;rw[s5];go_wp2_with fail;refine(U.out _ _).mono ?_;rintro e w1 ⟨rfl,h0⟩;rw[show (kw6 w).alloc (.cells #[.string ⟨#[62]⟩] 9)=kw7 w from rfl] at h0;subst h0;rw[s6];clear s0 s1 s2 s3 s4 s5 s6;go_wp2_with fail;go_ret;exact⟨by rw[← s7];rfl,HF.out⟩
end Go.Proofs.YtiaebhomfebagaaGreatDoor
namespace Go.Proofs.YtiaebhomfebagaaGreatDoor
open Go.RowKit
def anb (N k:Nat):ByteArray:=match (adZ N)[3 * k]? with | some (.string s)=>s | _=>⟨#[]⟩
def edA (N k:Nat):Value:=(adZ N).getD (3 * k+1) undef
def rdA (N k:Nat):Value:=(adZ N).getD (3 * k+2) undef
theorem a2J (N k:Nat)(hk:k < 7):(adZ N)[3 * k]?=some (.string (anb N k))∧(adZ N)[3 * k+1]?=some (edA N k)∧(adZ N)[3 * k+2]?=some (rdA N k):=by
 rcases(show k=0∨k=1∨k=2∨k=3∨k=4∨k=5∨k=6 by omega) with rfl | rfl | rfl | rfl | rfl | rfl | rfl;all_goals exact⟨rfl,rfl,rfl⟩
theorem awd (N k:Nat)(hk:k < 7):(∃ fe pe,edA N k=.func (.func fe) #[] pe)∧∃ fr pr,rdA N k=.func (.func fr) #[] pr:=by
 rcases(show k=0∨k=1∨k=2∨k=3∨k=4∨k=5∨k=6 by omega) with rfl | rfl | rfl | rfl | rfl | rfl | rfl;all_goals exact⟨⟨_,_,rfl⟩,⟨_,_,rfl⟩⟩
theorem KW.at_ {N:Nat}{w:World}(h:KW N w){k:Nat}(hk:k < 7):w.cell? ⟨N+8,k * 3,none⟩=some (.string (anb N k))∧w.cell? ⟨N+8,k * 3+1,none⟩=some (edA N k)∧w.cell? ⟨N+8,k * 3+2,none⟩=some (rdA N k):=by
 obtain⟨a,b,c⟩:=a2J N k hk;rw[Nat.mul_comm k 3];exact⟨(h.row _ (by omega)).trans a,(h.row _ (by omega)).trans b,(h.row _ (by omega)).trans c⟩
theorem auv {w w1:World}(hb1:Below (w.alloc (.cells #[.int .i64 0,.string ⟨#[]⟩,.bool false,.bool false] 44)).heap.size (w.alloc (.cells #[.int .i64 0,.string ⟨#[]⟩,.bool false,.bool false] 44)) w1):
 w.heap.size < w1.heap.size∧Below w.heap.size w w1∧aje w1 w.heap.size:=by
 have hz1:w.heap.size < w1.heap.size:=by have:=hb1.size;simp at this;omega
 have hb:=((Below.refl w.heap.size w).alloc (Nat.le_refl _) (.cells #[.int .i64 0,.string ⟨#[]⟩,.bool false,.bool false] 44)).trans (hb1.mono (by simp));exact⟨hz1,hb,(abR w).keep hb1 (by simp)⟩
def Pk (N:Nat)(s:ByteArray)(k:Nat):Bool:=(aad (anb N k)).isPrefixOf (aad s)
def Qk (N:Nat)(s:ByteArray)(k:Nat):Bool:=(aad s).isPrefixOf (aad (anb N k))
structure MW (N:Nat)(w wr:World):Prop where
 kw:KW N wr
 gl:Gl wr
 bel:Below w.heap.size w wr
 res:aje wr w.heap.size
 size:N+9≤wr.heap.size
 lt:w.heap.size < wr.heap.size
theorem aiC {N:Nat}{w wr:World}(h:MW N w wr)(o:Obj):MW N w (wr.alloc o):=by
 have hb:=(Below.refl wr.heap.size wr).alloc (Nat.le_refl _) o;exact⟨h.kw.keep (hb.mono h.size),h.gl.after hb,h.bel.trans (hb.mono h.bel.size),h.res.keep hb h.lt,by rw[aay];have:=h.size;omega,by rw[aay];have:=h.lt;omega⟩
theorem a2H {N:Nat}{w wr w3:World}(h:MW N w wr)(hb:Below wr.heap.size wr w3):w.heap.size < w3.heap.size∧Below w.heap.size w w3∧aje w3 w.heap.size:=
 ⟨Nat.lt_of_lt_of_le h.lt hb.size,h.bel.trans (hb.mono h.bel.size),h.res.keep hb h.lt⟩
theorem axh {x y:Tk × Nat × Int}{w w':World}{e:Ending}(h:x=y)(hp:aav y w e w'):aav x w e w':=by rw[h];exact hp
def a4Y (N:Nat)(s:ByteArray)(w:World)(i:Value)(wr:World):Prop:=
 ∃ k:Nat,i=.int .i64 k∧k≤7∧Hid (∀ j,j < k→Pk N s j=false∧Qk N s j=false)∧Hid (MW N w wr)
theorem arR (s:ByteArray)(at_:Int)(x:Tk × Nat × Int)(N:Nat)(w:World)(hG:Gl w)(hs:s.size≤2000000000)(hN:Hid (w.heap.size+1=N))
 (C1:Hid (∀ W,W.heap.size=N→Calls Tryz.prog 65 #[] W fun e w'=>e=.returned (.slice (some ⟨N+8,0,none⟩) 7 7)∧KW N w'∧Below N W w'∧N+9≤w'.heap.size))
 (HT:Hid (∀ k,k < 7→(∀ j,j < k→Pk N s j=false∧Qk N s j=false)→Pk N s k=true→∀ W,KW N W→Gl W→N+9≤W.heap.size→
  Calls Tryz.prog 67 #[.agg #[.string (anb N k),edA N k,rdA N k],.string (strOfNums ((aad s).drop (aad (anb N k)).length)),.int .i64 at_] W (aav x W)))
 (HC:Hid (∀ k,k < 7→(∀ j,j < k→Pk N s j=false∧Qk N s j=false)→Pk N s k=false→Qk N s k=true→x=(T0,0,7)))
 (HE:Hid ((∀ j,j < 7→Pk N s j=false∧Qk N s j=false)→x=(T0,0,7))):
 Calls Tryz.prog 45 #[.string s,.int .i64 at_] w (aav x w):=by
 have HG:=aac hG;clear hG;go_enter Tryz.func45,Tryz.ntmps45;go_wp2_with fail;refine(C1.out _ ((aay w _).trans hN.out)).mono ?_;rintro e w1 ⟨rfl,hk1,hb1,hs1⟩
 have HM:Hid (MW N w w1):=aac (by
  have hb1':Below (w.alloc (.cells #[.int .i64 0,.string ⟨#[]⟩,.bool false,.bool false] 44)).heap.size (w.alloc (.cells #[.int .i64 0,.string ⟨#[]⟩,.bool false,.bool false] 44)) w1:=by rw[aay,hN.out];exact hb1
  obtain⟨a,b,c⟩:=auv hb1';exact⟨hk1,HG.out.after b,b,c,hs1,a⟩)
 clear hk1 hb1 hs1 C1;go_wp2_with fail;go_loopw [13] (fun i wr=>a4Y N s w i wr) (fun i _=>7 - (intOf i).toNat);case atStart=>exact⟨0,rfl,by omega,aac fun j h=>by omega,HM⟩
 case round=>
  obtain⟨k,rfl,hk,ho,hM⟩:=hrel;by_cases hlt:k < 7
  · obtain⟨p0,p1,p2⟩:=hM.out.kw.at_ hlt;have d1:(k:Int) < 7:=(by omega);have d0:(0:Int)≤(k:Int):=(by omega);have hT:=HT.out k hlt ho.out;obtain⟨⟨fe,pe,e1⟩,⟨fr,pr,e2⟩⟩:=awd N k hlt;rw[e1] at p1 hT;rw[e2] at p2 hT;clear e1 e2;have hC:=HC.out k hlt ho.out
    cases hP:Pk N s k with
    | true=>
      have C3:=hT hP;have C2:=fun W=>afj s (anb N k) W hP;generalize strOfNums ((aad s).drop (aad (anb N k)).length)=ins at *;generalize anb N k=bg at *;have HA:=aac (aiC hM.out (.cells #[.string bg,.func (.func fe) #[] pe,.func (.func fr) #[] pr] 122));have CA:=aac C2;have CB:=aac (C3 (wr.alloc (.cells #[.string bg,.func (.func fe) #[] pe,.func (.func fr) #[] pr] 122)) HA.out.kw HA.out.gl HA.out.size);clear C2 C3 hT hC hP ho HT HC HE;go_wp2_with fail;refine(CA.out _).mono ?_;rintro e w2 ⟨rfl,rfl⟩;go_wp2_with fail;refine CB.out.mono ?_;rintro e w3 ⟨⟨kd,tx,em,bk⟩,n,rfl,hx,hb3⟩;have HX:=aac hx;obtain⟨hz,hb,⟨c0,c1,c2,c3,f0,f1,f2,f3⟩⟩:=a2H HA.out hb3;have HB:=aac hb;clear hb3 hb hx CA CB HA hM HM HG;unfold tkV;dsimp only;generalize hst:strOfNums tx=str;have HS:=aac hst;clear hst;go_wp2_with fail;exact bodyPost_ret (v:=.tuple #[.agg #[.int .i64 kd,.string str,.bool em,.bool bk],.int .i64 n,.int .i64 x.2.2]) (by simp[results,Tryz.results45,go_sem,c0,c1,c2,c3,hz]) rfl ⟨⟨kd,tx,em,bk⟩,n,by rw[← HS.out];rfl,HX.out,aah HB.out (Nat.le_refl _) _ _ _ _⟩
    | false=>
      have C2:=fun W=>agl s (anb N k) W hP
      cases hQ:Qk N s k with
      | true=>
        have HX:=aac (hC hP hQ);have C3:=fun W=>aht (anb N k) s W true hQ;generalize anb N k=bg at *;have HA:=aac (aiC hM.out (.cells #[.string bg,.func (.func fe) #[] pe,.func (.func fr) #[] pr] 122));have CA:=aac C2;have CB:=aac C3;clear C2 C3 hT hC hP hQ ho HT HC HE;go_wp2_with fail;refine(CA.out _).mono ?_;rintro e w2 ⟨rfl,rfl⟩;go_wp2_with fail;refine(CB.out _).mono ?_;rintro e w2 ⟨rfl,rfl⟩;obtain⟨c0,c1,c2,c3,f0,f1,f2,f3⟩:=HA.out.res;have hz:=HA.out.lt;have HB:=aac HA.out.bel;clear CA CB HA hM HM HG;go_wp2_with fail;exact bodyPost_ret (v:=.tuple #[tkV T0,.int .i64 0,.int .i64 7]) (by rw[tk0];simp[results,Tryz.results45,go_sem,c0,c1,c2,c3,hz]) rfl (axh HX.out ⟨T0,0,rfl,fun _=>⟨rfl,rfl⟩,aah HB.out (Nat.le_refl _) _ _ _ _⟩)
      | false=>
        have C3:=fun W=>aht (anb N k) s W false hQ
        have HO:Hid (∀ j,j < k+1→Pk N s j=false∧Qk N s j=false):=aac fun j hj=>by
         by_cases e:j=k
         · rw[e];exact⟨hP,hQ⟩
         · exact ho.out j (by omega)
        generalize anb N k=bg at *;have HA:=aac (aiC hM.out (.cells #[.string bg,.func (.func fe) #[] pe,.func (.func fr) #[] pr] 122));have CA:=aac C2;have CB:=aac C3;clear C2 C3 hT hC hP hQ ho HT HC HE;go_wp2_with fail;refine(CA.out _).mono ?_;rintro e w2 ⟨rfl,rfl⟩;go_wp2_with fail;refine(CB.out _).mono ?_;rintro e w2 ⟨rfl,rfl⟩;go_wp2_with fail;go_roundw;case rel=>exact⟨k+1,by go_num,by omega,HO,HA⟩
        case measure=>simp only[intOf];omega
  · have d1:¬ (k:Int) < 7:=(by omega);have HX:=aac (HE.out fun j hj=>ho.out j (by omega));obtain⟨c0,c1,c2,c3,f0,f1,f2,f3⟩:=hM.out.res;have hz:=hM.out.lt;have HB:=aac hM.out.bel;clear ho HT HC HE hM HM HG;go_wp2_with fail;exact bodyPost_ret (v:=.tuple #[tkV T0,.int .i64 0,.int .i64 7]) (by rw[tk0];simp[results,Tryz.results45,go_sem,c0,c1,c2,c3,hz]) rfl (axh HX.out ⟨T0,0,rfl,fun _=>⟨rfl,rfl⟩,aah HB.out (Nat.le_refl _) _ _ _ _⟩)
end Go.Proofs.YtiaebhomfebagaaGreatDoor
namespace Go.Proofs.YtiaebhomfebagaaGreatDoor
open Go.RowKit
theorem aeU (r:ByteArray)(n:Nat):aad (r.extract 0 n)=(aad r).take n:=by rw[aal,List.drop_zero]
theorem alD (r:ByteArray)(m:Nat)(hr:r.size≤2000000000):SoC (r.extract 0 m) (abh ((aad r).take m)):=fun W=>by
 have:=aqm (r.extract 0 m) W (by rw[ByteArray.size_extract];omega);rw[aeU] at this;exact this
def a1I (bg r:ByteArray)(ed:Value)(fn:Nat)(args:Array Value)(fr:Nat)(at_:Int)(w:World):Prop:=
 ∀ (n m:Nat) (kd:Int) (tx:ByteArray) (em bk:Bool) (er:Int),n≤r.size→m≤r.size→Hid (ajS w fn args n m true)→Hid (SoC (r.extract 0 m) 0)→Hid (RdC w fr #[.string (r.extract 0 n),.int .i64 at_] kd tx em bk er)→
   Calls Tryz.prog 67 #[.agg #[.string bg,ed,.func (.func fr) #[] #[]],.string r,.int .i64 at_] w fun e w'=>e=.returned (.tuple #[.agg #[.int .i64 kd,.string tx,.bool em,.bool bk],.int .i64 ((bg.size:Int)+(m:Int)),.int .i64 er])∧Below w.heap.size w w'
theorem anK (bg r:ByteArray)(ed:Value)(fn:Nat)(args:Array Value)(fr:Nat)(at_:Int)(n m:Nat)(rd:List Int→Tk × Int)(w:World)(hr:r.size≤2000000000)(hm:n+m≤r.size)
 (HB:∀ er,er≠0→Hid (SoC (r.extract 0 (n+m)) er)→Calls Tryz.prog 67 #[.agg #[.string bg,ed,.func (.func fr) #[] #[]],.string r,.int .i64 at_] w (aav (T0,0,er) w))
 (HT:a1I bg r ed fn args fr at_ w) (C1:ajS w fn args n ((n+m:Nat):Int) true)
 (HR:∀ (t:ByteArray),t.size≤2000000000→∀ W,Gl W→Calls Tryz.prog fr #[.string t,.int .i64 at_] W (abx (rd (aad t)) W)):
 Calls Tryz.prog 67 #[.agg #[.string bg,ed,.func (.func fr) #[] #[]],.string r,.int .i64 at_] w (aav (fin bg.size n m rd (aad r)) w):=by
 have C2:=alD r (n+m) hr;unfold fin;by_cases h1:abh ((aad r).take (n+m))≠0
 · rw[if_pos h1];exact HB _ h1 (aac C2)
 · rw[if_neg h1];have h1':abh ((aad r).take (n+m))=0:=(by simpa using h1);rw[h1'] at C2
   have C3:RdC w fr #[.string (r.extract 0 n),.int .i64 at_] (rd ((aad r).take n)).1.kind (strOfNums (rd ((aad r).take n)).1.text) (rd ((aad r).take n)).1.empty (rd ((aad r).take n)).1.blank (rd ((aad r).take n)).2:=fun W _ hG=>by
    have:=HR (r.extract 0 n) (by rw[ByteArray.size_extract];omega) W hG;rw[aeU] at this;exact this
   have h:=HT n (n+m) _ _ _ _ _ (by omega) hm (aac C1) (aac C2) (aac C3);refine h.mono ?_;rintro e w' ⟨rfl,hb⟩;by_cases h2:(rd ((aad r).take n)).2≠0
   · rw[if_pos h2];exact⟨(rd ((aad r).take n)).1,_,rfl,fun h=>absurd h h2,hb⟩
   · rw[if_neg h2];have h2':(rd ((aad r).take n)).2=0:=(by simpa using h2);refine⟨(rd ((aad r).take n)).1,(bg.size:Int)+((n+m:Nat):Int),?_,fun _=>⟨rfl,?_⟩,hb⟩
     · rw[h2'];rfl
     · show _=((bg.size+(n+m):Nat):Int);omega
theorem amb (r m:ByteArray)(b:Nat)(w:World)(hr:r.size≤2000000000)(hm:m.size≤100)(hc:w.cell? ⟨b,0,none⟩=some (.string m)):
 ajS w 109 #[.string r,.pointer (some ⟨b,0,none⟩)] (ahD (aad m) (aad r)) (ahD (aad m) (aad r)+m.size) (decide (0≤ahD (aad m) (aad r))):=fun W hb hG=>
 awz r m b W hr hm ((hb.cell (p:=⟨b,0,none⟩) (Lib.lt_of_cell hc)).trans hc) hG
theorem afE (bg r m:ByteArray)(b fr:Nat)(at_:Int)(rd:List Int→Tk × Int)(w:World)(hG:Gl w)(hr:r.size≤2000000000)(hm:m.size≤100)(hc:w.cell? ⟨b,0,none⟩=some (.string m))
 (HT:a1I bg r (.func (.func 109) #[] #[.pointer (some ⟨b,0,none⟩)]) 109 #[.string r,.pointer (some ⟨b,0,none⟩)] fr at_ w)
 (HR:∀ (t:ByteArray),t.size≤2000000000→∀ W,Gl W→Calls Tryz.prog fr #[.string t,.int .i64 at_] W (abx (rd (aad t)) W)):
 Calls Tryz.prog 67 #[.agg #[.string bg,.func (.func 109) #[] #[.pointer (some ⟨b,0,none⟩)],.func (.func fr) #[] #[]],.string r,.int .i64 at_] w
  (aav (match fnd (aad m) (aad r) with | none=>(T0,0,7) | some n=>fin bg.size n m.size rd (aad r)) w):=by
 have C1:=amb r m b w hr hm hc
 cases hf:fnd (aad m) (aad r) with
 | none=>
   rw[acB hf] at C1;exact arp bg r b _ at_ _ _ w hG (aac C1)
 | some n=>
   rw[acd hf] at C1;have hb:=(acu hf).1;rw[aae,aae] at hb
   have C1':ajS w 109 #[.string r,.pointer (some ⟨b,0,none⟩)] n ((n+m.size:Nat):Int) true:=by
    rw[decide_eq_true (show (0:Int)≤(n:Int) by omega)] at C1;rw[Int.natCast_add];exact C1
   exact anK bg r _ 109 _ fr at_ n m.size rd w hr hb (fun er her C2=>apb bg r b _ at_ _ er (n+m.size) w hr hb her hG (aac C1') C2) HT C1' HR
theorem aqw (bg r:ByteArray)(at_:Int)(w:World)(hG:Gl w)(hbg:bg.size≤100)(hr:r.size≤2000000000):
 Calls Tryz.prog 67 #[.agg #[.string bg,.func (.func 89) #[] #[],.func (.func 90) #[] #[]],.string r,.int .i64 at_] w
  (aav (match unq 0 (aad r) with | none=>(T0,0,7) | some n=>fin bg.size n 1 abk (aad r)) w):=by
 have C0:∀ W,Calls Tryz.prog 89 #[.string r] W (anw (unq 0 (aad r)) W):=fun W=>aja r W (by omega)
 cases hf:unq 0 (aad r) with
 | none=>
   rw[hf] at C0;have C1:ajS w 89 #[.string r] 0 0 false:=fun W _ _=>(C0 W).mono fun e w' ⟨h1,h2⟩=>⟨h1,by subst h2;exact Below.refl _ _⟩;exact asT bg r _ at_ _ _ w hG (aac C1)
 | some n=>
   rw[hf] at C0;have C1:ajS w 89 #[.string r] n ((n+1:Nat):Int) true:=fun W _ _=>(C0 W).mono fun e w' ⟨h1,h2⟩=>⟨h1,by subst h2;exact Below.refl _ _⟩;have hb:=(akU _ _ n [] hf).2;rw[aae] at hb
   exact anK bg r _ 89 _ 90 at_ n 1 abk w hr (by omega) (fun er her C2=>asW bg r _ at_ _ er (n+1) w hr (by omega) her hG (aac C1) C2)
    (fun n m kd tx em bk er h1 h2 c1 c2 c3=>alH bg r at_ n m kd tx em bk er w hbg hr h1 h2 hG c1 c2 c3) C1 (fun t ht W hW=>ajy t at_ W ht hW)
theorem ahf (bg r:ByteArray)(b d:Nat)(at_ er:Int)(w:World)(her:er≠0)(hG:Gl w)(hbg:bg.size≤100)(hr:r.size≤2000000000)(hc:w.cell? ⟨b,0,none⟩=some (.string ⟨#[]⟩))(hd:w.cell? ⟨d,0,none⟩=some (.int .i64 er)):
 Calls Tryz.prog 67 #[.agg #[.string bg,.func (.func 109) #[] #[.pointer (some ⟨b,0,none⟩)],.func (.func 112) #[] #[.pointer (some ⟨d,0,none⟩)]],.string r,.int .i64 at_] w (aav (T0,0,er) w):=by
 have C1:=amb r ⟨#[]⟩ b w hr (by decide) hc
 have hf:fnd (aad ⟨#[]⟩) (aad r)=some 0:=by
  show fnd [] (aad r)=some 0;cases aad r <;> simp[fnd]
 rw[acd hf] at C1
 have C2:SoC (r.extract 0 0) 0:=by
  have:=alD r 0 hr;rw[List.take_zero,aod] at this;exact this
 have C3:RdC w 112 #[.string (r.extract 0 0),.int .i64 at_,.pointer (some ⟨d,0,none⟩)] 0 ⟨#[]⟩ false false er:=fun W hb _=>by
  have:=alA (r.extract 0 0) at_ er d W ((hb.cell (p:=⟨d,0,none⟩) (Lib.lt_of_cell hd)).trans hd);unfold abx at this;rw[tk0] at this;exact this
 have C1':ajS w 109 #[.string r,.pointer (some ⟨b,0,none⟩)] ((0:Nat):Int) ((0:Nat):Int) true:=C1;refine(akS bg r b d at_ 0 0 0 ⟨#[]⟩ false false er w hbg hr (Nat.zero_le _) (Nat.zero_le _) hG (aac C1') (aac C2) (aac C3)).mono ?_;rintro e w' ⟨rfl,hb⟩;exact⟨T0,_,by rw[tk0],fun h=>absurd h her,hb⟩
theorem abY (s:ByteArray)(n:Nat):aad (strOfNums ((aad s).drop n))=(aad s).drop n:=((ahM s).drop n).str
theorem alZ {l:List Int}(h:l.getD 0 0=60):[60].isPrefixOf l=true:=by
 cases l with
 | nil=>simp at h
 | cons a b=>
   have:a=60:=(by simpa using h);subst this;rfl
theorem awn (t:ByteArray)(a:Nat)(w:World)(ht:t.size≤2000000000)(hG:Gl w):Calls Tryz.prog 87 #[.string t,.int .i64 (a:Int)] w (abx (afv (decide (a=0)) (aad t)) w):=by
 have:=avo t (a:Int) w ht hG;rw[show decide ((a:Int)=0)=decide (a=0) by rw[Bool.eq_iff_iff,decide_eq_true_eq,decide_eq_true_eq];omega] at this;exact this
theorem aoE (s:ByteArray)(a:Nat)(w:World)(hG:Gl w)(hs:s.size≤2000000000)(h0:(aad s).getD 0 0=60):Calls Tryz.prog 45 #[.string s,.int .i64 (a:Int)] w (aav (adU (decide (a=0)) (aad s)) w):=by
 rw[← apt _ _ h0]
 have hrs:∀ n,(strOfNums ((aad s).drop n)).size≤2000000000:=fun n=>by
  rw[abL,List.length_drop,aae];omega
 refine arR s a _ (w.heap.size+1) w hG hs (aac rfl) (aac fun W hW=> ?_) (aac fun k hk ho hP W kw hGW hz=> ?_) (aac fun k hk ho hP hQ=> ?_) (aac fun ho=> ?_)
 · refine(aoO W).mono ?_;rintro e w' ⟨rfl,h1,h2,h3⟩;rw[hW] at h1 h2 h3;exact⟨by rw[hW],h1,h2,by omega⟩
 · rcases(show k=0∨k=1∨k=2∨k=3∨k=4∨k=5∨k=6 by omega) with rfl | rfl | rfl | rfl | rfl | rfl | rfl
   · skip
     have cK:aaw.isPrefixOf (aad s)=true:=hP
     have e:acp (decide (a=0)) (aad s)=span 9 agp afC (aad s):=by
      unfold acp;simp only[cK,Bool.false_eq_true,if_false,if_true]
     rw[e]
     have:=afE ⟨#[60,33,91,67,68,65,84,65,91]⟩ (strOfNums ((aad s).drop 9)) ⟨#[93,93,62]⟩ (w.heap.size+1) 84 a afC W hGW (hrs 9) (by decide) kw.m0
      (fun n m kd tx em bk er h1 h2 c1 c2 c3=>aly _ _ _ a n m kd tx em bk er W (by decide) (hrs 9) h1 h2 hGW c1 c2 c3) (fun t ht W hW=>avW t a W ht hW)
     rw[abY] at this;exact this
   · skip
     have c0:aaw.isPrefixOf (aad s)=false:=(ho 0 (by omega)).1;have q0:(aad s).isPrefixOf aaw=false:=(ho 0 (by omega)).2;have cK:abe.isPrefixOf (aad s)=true:=hP
     have e:acp (decide (a=0)) (aad s)=span 4 avx adj (aad s):=by
      unfold acp;simp only[c0,q0,cK,Bool.false_eq_true,if_false,if_true]
     rw[e]
     have:=afE ⟨#[60,33,45,45]⟩ (strOfNums ((aad s).drop 4)) ⟨#[45,45,62]⟩ (w.heap.size+1+1) 85 a adj W hGW (hrs 4) (by decide) kw.m1
      (fun n m kd tx em bk er h1 h2 c1 c2 c3=>ald _ _ _ a n m kd tx em bk er W (by decide) (hrs 4) h1 h2 hGW c1 c2 c3) (fun t ht W hW=>akj t a W ht hW)
     rw[abY] at this;exact this
   · skip
     have c0:aaw.isPrefixOf (aad s)=false:=(ho 0 (by omega)).1;have q0:(aad s).isPrefixOf aaw=false:=(ho 0 (by omega)).2;have c1:abe.isPrefixOf (aad s)=false:=(ho 1 (by omega)).1;have q1:(aad s).isPrefixOf abe=false:=(ho 1 (by omega)).2;have cK:aeE.isPrefixOf (aad s)=true:=hP
     have e:acp (decide (a=0)) (aad s)=(T0,0,12):=by
      unfold acp;simp only[c0,q0,c1,q1,cK,Bool.false_eq_true,if_false,if_true]
     rw[e];exact ahf ⟨#[60,33,68,79,67,84,89,80,69]⟩ (strOfNums ((aad s).drop 9)) (w.heap.size+1+2) (w.heap.size+1+3) a 12 W (by decide) hGW (by decide) (hrs 9) kw.m2 kw.m3
   · skip
     have c0:aaw.isPrefixOf (aad s)=false:=(ho 0 (by omega)).1;have q0:(aad s).isPrefixOf aaw=false:=(ho 0 (by omega)).2;have c1:abe.isPrefixOf (aad s)=false:=(ho 1 (by omega)).1;have q1:(aad s).isPrefixOf abe=false:=(ho 1 (by omega)).2;have c2:aeE.isPrefixOf (aad s)=false:=(ho 2 (by omega)).1;have q2:(aad s).isPrefixOf aeE=false:=(ho 2 (by omega)).2;have cK:aci.isPrefixOf (aad s)=true:=hP
     have e:acp (decide (a=0)) (aad s)=(T0,0,6):=by
      unfold acp;simp only[c0,q0,c1,q1,c2,q2,cK,Bool.false_eq_true,if_false,if_true]
     rw[e];exact ahf ⟨#[60,33]⟩ (strOfNums ((aad s).drop 2)) (w.heap.size+1+4) (w.heap.size+1+5) a 6 W (by decide) hGW (by decide) (hrs 2) kw.m4 kw.m5
   · skip
     have c0:aaw.isPrefixOf (aad s)=false:=(ho 0 (by omega)).1;have q0:(aad s).isPrefixOf aaw=false:=(ho 0 (by omega)).2;have c1:abe.isPrefixOf (aad s)=false:=(ho 1 (by omega)).1;have q1:(aad s).isPrefixOf abe=false:=(ho 1 (by omega)).2;have c2:aeE.isPrefixOf (aad s)=false:=(ho 2 (by omega)).1;have q2:(aad s).isPrefixOf aeE=false:=(ho 2 (by omega)).2;have c3:aci.isPrefixOf (aad s)=false:=(ho 3 (by omega)).1;have q3:(aad s).isPrefixOf aci=false:=(ho 3 (by omega)).2;have cK:acA.isPrefixOf (aad s)=true:=hP
     have e:acp (decide (a=0)) (aad s)=span 2 atA (afv (decide (a=0))) (aad s):=by
      unfold acp;simp only[c0,q0,c1,q1,c2,q2,c3,q3,cK,Bool.false_eq_true,if_false,if_true]
     rw[e]
     have:=afE ⟨#[60,63]⟩ (strOfNums ((aad s).drop 2)) ⟨#[63,62]⟩ (w.heap.size+1+6) 87 a (afv (decide (a=0))) W hGW (hrs 2) (by decide) kw.m6
      (fun n m kd tx em bk er h1 h2 c1 c2 c3=>alM _ _ _ a n m kd tx em bk er W (by decide) (hrs 2) h1 h2 hGW c1 c2 c3) (fun t ht W hW=>awn t a W ht hW)
     rw[abY] at this;exact this
   · skip
     have c0:aaw.isPrefixOf (aad s)=false:=(ho 0 (by omega)).1;have q0:(aad s).isPrefixOf aaw=false:=(ho 0 (by omega)).2;have c1:abe.isPrefixOf (aad s)=false:=(ho 1 (by omega)).1;have q1:(aad s).isPrefixOf abe=false:=(ho 1 (by omega)).2;have c2:aeE.isPrefixOf (aad s)=false:=(ho 2 (by omega)).1;have q2:(aad s).isPrefixOf aeE=false:=(ho 2 (by omega)).2;have c3:aci.isPrefixOf (aad s)=false:=(ho 3 (by omega)).1;have q3:(aad s).isPrefixOf aci=false:=(ho 3 (by omega)).2;have c4:acA.isPrefixOf (aad s)=false:=(ho 4 (by omega)).1;have q4:(aad s).isPrefixOf acA=false:=(ho 4 (by omega)).2;have cK:ajh.isPrefixOf (aad s)=true:=hP
     have e:acp (decide (a=0)) (aad s)=span 2 a2b akg (aad s):=by
      unfold acp;simp only[c0,q0,c1,q1,c2,q2,c3,q3,c4,q4,cK,Bool.false_eq_true,if_false,if_true]
     rw[e]
     have:=afE ⟨#[60,47]⟩ (strOfNums ((aad s).drop 2)) ⟨#[62]⟩ (w.heap.size+1+7) 88 a akg W hGW (hrs 2) (by decide) kw.m7
      (fun n m kd tx em bk er h1 h2 c1 c2 c3=>alp _ _ _ a n m kd tx em bk er W (by decide) (hrs 2) h1 h2 hGW c1 c2 c3) (fun t ht W hW=>aot t a W ht hW)
     rw[abY] at this;exact this
   · skip
     have c0:aaw.isPrefixOf (aad s)=false:=(ho 0 (by omega)).1;have q0:(aad s).isPrefixOf aaw=false:=(ho 0 (by omega)).2;have c1:abe.isPrefixOf (aad s)=false:=(ho 1 (by omega)).1;have q1:(aad s).isPrefixOf abe=false:=(ho 1 (by omega)).2;have c2:aeE.isPrefixOf (aad s)=false:=(ho 2 (by omega)).1;have q2:(aad s).isPrefixOf aeE=false:=(ho 2 (by omega)).2;have c3:aci.isPrefixOf (aad s)=false:=(ho 3 (by omega)).1;have q3:(aad s).isPrefixOf aci=false:=(ho 3 (by omega)).2;have c4:acA.isPrefixOf (aad s)=false:=(ho 4 (by omega)).1;have q4:(aad s).isPrefixOf acA=false:=(ho 4 (by omega)).2;have c5:ajh.isPrefixOf (aad s)=false:=(ho 5 (by omega)).1;have q5:(aad s).isPrefixOf ajh=false:=(ho 5 (by omega)).2
     have e:acp (decide (a=0)) (aad s)=adW (aad s):=by
      unfold acp;simp only[c0,q0,c1,q1,c2,q2,c3,q3,c4,q4,c5,q5,Bool.false_eq_true,if_false,if_true]
     rw[e];have:=aqw ⟨#[60]⟩ (strOfNums ((aad s).drop 1)) a W hGW (by decide) (hrs 1);rw[abY] at this;exact this
 · rcases(show k=0∨k=1∨k=2∨k=3∨k=4∨k=5∨k=6 by omega) with rfl | rfl | rfl | rfl | rfl | rfl | rfl
   · skip
     have cK:aaw.isPrefixOf (aad s)=false:=hP;have qK:(aad s).isPrefixOf aaw=true:=hQ;unfold acp;simp only[cK,qK,Bool.false_eq_true,if_false,if_true]
   · skip
     have c0:aaw.isPrefixOf (aad s)=false:=(ho 0 (by omega)).1;have q0:(aad s).isPrefixOf aaw=false:=(ho 0 (by omega)).2;have cK:abe.isPrefixOf (aad s)=false:=hP;have qK:(aad s).isPrefixOf abe=true:=hQ;unfold acp;simp only[c0,q0,cK,qK,Bool.false_eq_true,if_false,if_true]
   · skip
     have c0:aaw.isPrefixOf (aad s)=false:=(ho 0 (by omega)).1;have q0:(aad s).isPrefixOf aaw=false:=(ho 0 (by omega)).2;have c1:abe.isPrefixOf (aad s)=false:=(ho 1 (by omega)).1;have q1:(aad s).isPrefixOf abe=false:=(ho 1 (by omega)).2;have cK:aeE.isPrefixOf (aad s)=false:=hP;have qK:(aad s).isPrefixOf aeE=true:=hQ;unfold acp;simp only[c0,q0,c1,q1,cK,qK,Bool.false_eq_true,if_false,if_true]
   · skip
     have c0:aaw.isPrefixOf (aad s)=false:=(ho 0 (by omega)).1;have q0:(aad s).isPrefixOf aaw=false:=(ho 0 (by omega)).2;have c1:abe.isPrefixOf (aad s)=false:=(ho 1 (by omega)).1;have q1:(aad s).isPrefixOf abe=false:=(ho 1 (by omega)).2;have c2:aeE.isPrefixOf (aad s)=false:=(ho 2 (by omega)).1;have q2:(aad s).isPrefixOf aeE=false:=(ho 2 (by omega)).2;have cK:aci.isPrefixOf (aad s)=false:=hP;have qK:(aad s).isPrefixOf aci=true:=hQ;unfold acp;simp only[c0,q0,c1,q1,c2,q2,cK,qK,Bool.false_eq_true,if_false,if_true]
   · skip
     have c0:aaw.isPrefixOf (aad s)=false:=(ho 0 (by omega)).1;have q0:(aad s).isPrefixOf aaw=false:=(ho 0 (by omega)).2;have c1:abe.isPrefixOf (aad s)=false:=(ho 1 (by omega)).1;have q1:(aad s).isPrefixOf abe=false:=(ho 1 (by omega)).2;have c2:aeE.isPrefixOf (aad s)=false:=(ho 2 (by omega)).1;have q2:(aad s).isPrefixOf aeE=false:=(ho 2 (by omega)).2;have c3:aci.isPrefixOf (aad s)=false:=(ho 3 (by omega)).1;have q3:(aad s).isPrefixOf aci=false:=(ho 3 (by omega)).2;have cK:acA.isPrefixOf (aad s)=false:=hP;have qK:(aad s).isPrefixOf acA=true:=hQ;unfold acp;simp only[c0,q0,c1,q1,c2,q2,c3,q3,cK,qK,Bool.false_eq_true,if_false,if_true]
   · skip
     have c0:aaw.isPrefixOf (aad s)=false:=(ho 0 (by omega)).1;have q0:(aad s).isPrefixOf aaw=false:=(ho 0 (by omega)).2;have c1:abe.isPrefixOf (aad s)=false:=(ho 1 (by omega)).1;have q1:(aad s).isPrefixOf abe=false:=(ho 1 (by omega)).2;have c2:aeE.isPrefixOf (aad s)=false:=(ho 2 (by omega)).1;have q2:(aad s).isPrefixOf aeE=false:=(ho 2 (by omega)).2;have c3:aci.isPrefixOf (aad s)=false:=(ho 3 (by omega)).1;have q3:(aad s).isPrefixOf aci=false:=(ho 3 (by omega)).2;have c4:acA.isPrefixOf (aad s)=false:=(ho 4 (by omega)).1;have q4:(aad s).isPrefixOf acA=false:=(ho 4 (by omega)).2;have cK:ajh.isPrefixOf (aad s)=false:=hP;have qK:(aad s).isPrefixOf ajh=true:=hQ;unfold acp;simp only[c0,q0,c1,q1,c2,q2,c3,q3,c4,q4,cK,qK,Bool.false_eq_true,if_false,if_true]
   · exact absurd (alZ h0) (by rw[show [60].isPrefixOf (aad s)=false from hP];simp)
 · exact absurd (alZ h0) (by rw[show [60].isPrefixOf (aad s)=false from (ho 6 (by omega)).1];simp)
end Go.Proofs.YtiaebhomfebagaaGreatDoor
namespace Go.Proofs.YtiaebhomfebagaaGreatDoor
open Go.RowKit
theorem aax {w w2 w3:World}(h:w.heap.size < w2.heap.size∧Below w.heap.size w w2∧aje w2 w.heap.size)(hb3:Below w2.heap.size w2 w3):w.heap.size < w3.heap.size∧Below w.heap.size w w3∧aje w3 w.heap.size:=
 ⟨Nat.lt_of_lt_of_le h.1 hb3.size,h.2.1.trans (hb3.mono h.2.1.size),h.2.2.keep hb3 h.1⟩
theorem abW (w:World):w.heap.size < (w.alloc (.cells #[.int .i64 0,.string ⟨#[]⟩,.bool false,.bool false] 44)).heap.size∧Below w.heap.size w (w.alloc (.cells #[.int .i64 0,.string ⟨#[]⟩,.bool false,.bool false] 44))∧aje (w.alloc (.cells #[.int .i64 0,.string ⟨#[]⟩,.bool false,.bool false] 44)) w.heap.size:=
 ⟨by rw[aay];omega,(Below.refl _ w).alloc (Nat.le_refl _) _,abR w⟩
def IxC (s:ByteArray)(x:Int):Prop:=∀ W,Gl W→Calls Tryz.prog 69 #[.string s,.string ⟨#[60]⟩] W fun e w'=>e=.returned (.int .i64 x)∧W=w'
def CoC (s:ByteArray)(b:Bool):Prop:=∀ W,Gl W→Calls Tryz.prog 71 #[.string s,.string ⟨#[93,93,62]⟩] W fun e w'=>e=.returned (.bool b)∧W=w'
def TxC (s t:ByteArray)(m er:Int):Prop:=∀ W,Gl W→Calls Tryz.prog 72 #[.string s] W fun e w'=>e=.returned (.tuple #[.string t,.int .i64 m,.int .i64 er])∧Below W.heap.size W w'
theorem a2i (s:ByteArray)(more:Bool)(C1:Hid (IxC s (-1)))(hm:more=true)(w:World)(hG:Gl w):Calls Tryz.prog 46 #[.string s,.bool more] w (aav (T0,0,7) w):=by
 subst hm;have HN:=aac (abW w);have HG:=aac (hG.after HN.out.2.1);clear hG;go_enter Tryz.func46,Tryz.ntmps46;go_wp2_with fail;refine(C1.out _ HG.out).mono ?_;rintro e w1 ⟨rfl,rfl⟩;obtain⟨hz,hb,⟨c0,c1,c2,c3,f0,f1,f2,f3⟩⟩:=HN.out;have HB:=aac hb;clear hb;go_wp2_with fail;exact bodyPost_ret (v:=.tuple #[tkV T0,.int .i64 0,.int .i64 7]) (by rw[tk0];simp[results,Tryz.results46,go_sem,c0,c1,c2,c3,hz]) rfl ⟨T0,0,rfl,fun _=>⟨rfl,rfl⟩,HB.out⟩
theorem a1s (s:ByteArray)(more:Bool)(x:Int)(n:Nat)(hs:s.size≤2000000000)(hn:n≤s.size)(hx:x=(n:Int)∨(x= -1∧more=false∧n=s.size))(C1:Hid (IxC s x))(er:Int)(her:er≠0)(C2:Hid (SoC (s.extract 0 n) er))(w:World)(hG:Gl w):Calls Tryz.prog 46 #[.string s,.bool more] w (aav (T0,0,er) w):=by
 have HN:=aac (abW w);have HG:=aac (hG.after HN.out.2.1);clear hG;have d1:(0:Int)≤(n:Int):=(by omega);have d2:(n:Int)≤(s.size:Int):=(by omega);have d3:¬ (n:Int) < 0:=(by omega);have t1:(er != 0)=true:=by rw[bne_iff_ne];exact her
 clear her;rcases hx with rfl | ⟨rfl,rfl,rfl⟩
 · clear hn;go_enter Tryz.func46,Tryz.ntmps46;go_wp2_with fail;refine(C1.out _ HG.out).mono ?_;rintro e w1 ⟨rfl,rfl⟩;go_wp2_with fail;refine(C2.out _).mono ?_;rintro e w2 ⟨rfl,hb2⟩;have h2:=aax HN.out hb2;have HG2:=aac (HG.out.after hb2);clear hb2;obtain⟨hz,hb,⟨c0,c1,c2,c3,f0,f1,f2,f3⟩⟩:=h2;have HB:=aac hb;clear hb;go_wp2_with fail;exact bodyPost_ret (v:=.tuple #[tkV T0,.int .i64 0,.int .i64 er]) (by rw[tk0];simp[results,Tryz.results46,go_sem,c0,c1,c2,c3,hz]) rfl ⟨T0,0,rfl,fun _=>⟨rfl,rfl⟩,aah HB.out (Nat.le_refl _) _ _ _ _⟩
 · rw[Nz.aga s s.size (Nat.le_refl _)] at C2;clear d3 d2 hn;go_enter Tryz.func46,Tryz.ntmps46;go_wp2_with fail;refine(C1.out _ HG.out).mono ?_;rintro e w1 ⟨rfl,rfl⟩;go_wp2_with fail;refine(C2.out _).mono ?_;rintro e w2 ⟨rfl,hb2⟩;have h2:=aax HN.out hb2;have HG2:=aac (HG.out.after hb2);clear hb2;obtain⟨hz,hb,⟨c0,c1,c2,c3,f0,f1,f2,f3⟩⟩:=h2;have HB:=aac hb;clear hb;go_wp2_with fail;exact bodyPost_ret (v:=.tuple #[tkV T0,.int .i64 0,.int .i64 er]) (by rw[tk0];simp[results,Tryz.results46,go_sem,c0,c1,c2,c3,hz]) rfl ⟨T0,0,rfl,fun _=>⟨rfl,rfl⟩,aah HB.out (Nat.le_refl _) _ _ _ _⟩
theorem azZ (s:ByteArray)(more:Bool)(x:Int)(n:Nat)(hs:s.size≤2000000000)(hn:n≤s.size)(hx:x=(n:Int)∨(x= -1∧more=false∧n=s.size))(C1:Hid (IxC s x))(C2:Hid (SoC (s.extract 0 n) 0))(C3:Hid (CoC (s.extract 0 n) true))(w:World)(hG:Gl w):Calls Tryz.prog 46 #[.string s,.bool more] w (aav (T0,0,6) w):=by
 have HN:=aac (abW w);have HG:=aac (hG.after HN.out.2.1);clear hG;have d1:(0:Int)≤(n:Int):=(by omega);have d2:(n:Int)≤(s.size:Int):=(by omega);have d3:¬ (n:Int) < 0:=(by omega);rcases hx with rfl | ⟨rfl,rfl,rfl⟩
 · clear hn;go_enter Tryz.func46,Tryz.ntmps46;go_wp2_with fail;refine(C1.out _ HG.out).mono ?_;rintro e w1 ⟨rfl,rfl⟩;go_wp2_with fail;refine(C2.out _).mono ?_;rintro e w2 ⟨rfl,hb2⟩;have h2:=aax HN.out hb2;have HG2:=aac (HG.out.after hb2);clear hb2;go_wp2_with fail;refine(C3.out _ HG2.out).mono ?_;rintro e w3 ⟨rfl,rfl⟩;obtain⟨hz,hb,⟨c0,c1,c2,c3,f0,f1,f2,f3⟩⟩:=h2;have HB:=aac hb;clear hb;go_wp2_with fail;exact bodyPost_ret (v:=.tuple #[tkV T0,.int .i64 0,.int .i64 6]) (by rw[tk0];simp[results,Tryz.results46,go_sem,c0,c1,c2,c3,hz]) rfl ⟨T0,0,rfl,fun _=>⟨rfl,rfl⟩,aah HB.out (Nat.le_refl _) _ _ _ _⟩
 · rw[Nz.aga s s.size (Nat.le_refl _)] at C2 C3;clear d3 d2 hn;go_enter Tryz.func46,Tryz.ntmps46;go_wp2_with fail;refine(C1.out _ HG.out).mono ?_;rintro e w1 ⟨rfl,rfl⟩;go_wp2_with fail;refine(C2.out _).mono ?_;rintro e w2 ⟨rfl,hb2⟩;have h2:=aax HN.out hb2;have HG2:=aac (HG.out.after hb2);clear hb2;go_wp2_with fail;refine(C3.out _ HG2.out).mono ?_;rintro e w3 ⟨rfl,rfl⟩;obtain⟨hz,hb,⟨c0,c1,c2,c3,f0,f1,f2,f3⟩⟩:=h2;have HB:=aac hb;clear hb;go_wp2_with fail;exact bodyPost_ret (v:=.tuple #[tkV T0,.int .i64 0,.int .i64 6]) (by rw[tk0];simp[results,Tryz.results46,go_sem,c0,c1,c2,c3,hz]) rfl ⟨T0,0,rfl,fun _=>⟨rfl,rfl⟩,aah HB.out (Nat.le_refl _) _ _ _ _⟩
theorem a3v (s:ByteArray)(more:Bool)(x:Int)(n:Nat)(hs:s.size≤2000000000)(hn:n≤s.size)(hx:x=(n:Int)∨(x= -1∧more=false∧n=s.size))(C1:Hid (IxC s x))(t:ByteArray)(m er:Int)(her:er≠0)(C2:Hid (SoC (s.extract 0 n) 0))(C3:Hid (CoC (s.extract 0 n) false))(C4:Hid (TxC (s.extract 0 n) t m er))(w:World)(hG:Gl w):Calls Tryz.prog 46 #[.string s,.bool more] w (aav (T0,0,er) w):=by
 have HN:=aac (abW w);have HG:=aac (hG.after HN.out.2.1);clear hG;have d1:(0:Int)≤(n:Int):=(by omega);have d2:(n:Int)≤(s.size:Int):=(by omega);have d3:¬ (n:Int) < 0:=(by omega);have t1:(er != 0)=true:=by rw[bne_iff_ne];exact her
 clear her;rcases hx with rfl | ⟨rfl,rfl,rfl⟩
 · clear hn;go_enter Tryz.func46,Tryz.ntmps46;go_wp2_with fail;refine(C1.out _ HG.out).mono ?_;rintro e w1 ⟨rfl,rfl⟩;go_wp2_with fail;refine(C2.out _).mono ?_;rintro e w2 ⟨rfl,hb2⟩;have h2:=aax HN.out hb2;have HG2:=aac (HG.out.after hb2);clear hb2;go_wp2_with fail;refine(C3.out _ HG2.out).mono ?_;rintro e w3 ⟨rfl,rfl⟩;go_wp2_with fail;refine(C4.out _ HG2.out).mono ?_;rintro e w4 ⟨rfl,hb4⟩;have h4:=aax h2 hb4;clear hb4 h2 HG2;obtain⟨hz,hb,⟨c0,c1,c2,c3,f0,f1,f2,f3⟩⟩:=h4;have HB:=aac hb;clear hb;go_wp2_with fail;exact bodyPost_ret (v:=.tuple #[tkV T0,.int .i64 0,.int .i64 er]) (by rw[tk0];simp[results,Tryz.results46,go_sem,c0,c1,c2,c3,hz]) rfl ⟨T0,0,rfl,fun _=>⟨rfl,rfl⟩,aah HB.out (Nat.le_refl _) _ _ _ _⟩
 · rw[Nz.aga s s.size (Nat.le_refl _)] at C2 C3 C4;clear d3 d2 hn;go_enter Tryz.func46,Tryz.ntmps46;go_wp2_with fail;refine(C1.out _ HG.out).mono ?_;rintro e w1 ⟨rfl,rfl⟩;go_wp2_with fail;refine(C2.out _).mono ?_;rintro e w2 ⟨rfl,hb2⟩;have h2:=aax HN.out hb2;have HG2:=aac (HG.out.after hb2);clear hb2;go_wp2_with fail;refine(C3.out _ HG2.out).mono ?_;rintro e w3 ⟨rfl,rfl⟩;go_wp2_with fail;refine(C4.out _ HG2.out).mono ?_;rintro e w4 ⟨rfl,hb4⟩;have h4:=aax h2 hb4;clear hb4 h2 HG2;obtain⟨hz,hb,⟨c0,c1,c2,c3,f0,f1,f2,f3⟩⟩:=h4;have HB:=aac hb;clear hb;go_wp2_with fail;exact bodyPost_ret (v:=.tuple #[tkV T0,.int .i64 0,.int .i64 er]) (by rw[tk0];simp[results,Tryz.results46,go_sem,c0,c1,c2,c3,hz]) rfl ⟨T0,0,rfl,fun _=>⟨rfl,rfl⟩,aah HB.out (Nat.le_refl _) _ _ _ _⟩
theorem aph (s:ByteArray)(more:Bool)(x:Int)(n:Nat)(hs:s.size≤2000000000)(hn:n≤s.size)(hx:x=(n:Int)∨(x= -1∧more=false∧n=s.size))(C1:Hid (IxC s x))(t:ByteArray)(m:Int)(b:Bool)(l:List Int)(ht:t=strOfNums l)(C2:Hid (SoC (s.extract 0 n) 0))(C3:Hid (CoC (s.extract 0 n) false))(C4:Hid (TxC (s.extract 0 n) t m 0))(C5:Hid (a4v (s.extract 0 n) b))(w:World)(hG:Gl w):Calls Tryz.prog 46 #[.string s,.bool more] w (aav (⟨3,l,false,b⟩,n,0) w):=by
 have HN:=aac (abW w);have HG:=aac (hG.after HN.out.2.1);clear hG;have d1:(0:Int)≤(n:Int):=(by omega);have d2:(n:Int)≤(s.size:Int):=(by omega);have d3:¬ (n:Int) < 0:=(by omega);have HT:=aac ht;clear ht;rcases hx with rfl | ⟨rfl,rfl,rfl⟩
 · clear hn;go_enter Tryz.func46,Tryz.ntmps46;go_wp2_with fail;refine(C1.out _ HG.out).mono ?_;rintro e w1 ⟨rfl,rfl⟩;go_wp2_with fail;refine(C2.out _).mono ?_;rintro e w2 ⟨rfl,hb2⟩;have h2:=aax HN.out hb2;have HG2:=aac (HG.out.after hb2);clear hb2;go_wp2_with fail;refine(C3.out _ HG2.out).mono ?_;rintro e w3 ⟨rfl,rfl⟩;go_wp2_with fail;refine(C4.out _ HG2.out).mono ?_;rintro e w4 ⟨rfl,hb4⟩;have h4:=aax h2 hb4;clear hb4 h2 HG2;go_wp2_with fail;refine(C5.out _).mono ?_;rintro e w5 ⟨rfl,hb5⟩;have h5:=aax h4 hb5;clear hb5 h4;obtain⟨hz,hb,⟨c0,c1,c2,c3,f0,f1,f2,f3⟩⟩:=h5;have HB:=aac hb;clear hb;go_wp2_with fail;exact bodyPost_ret (v:=.tuple #[.agg #[.int .i64 3,.string t,.bool false,.bool b],.int .i64 (n:Int),.int .i64 0]) (by simp[results,Tryz.results46,go_sem,c0,c1,c2,c3,hz]) rfl ⟨⟨3,l,false,b⟩,(n:Int),by unfold tkV;rw[HT.out],fun _=>⟨rfl,rfl⟩,aah HB.out (Nat.le_refl _) _ _ _ _⟩
 · rw[Nz.aga s s.size (Nat.le_refl _)] at C2 C3 C4 C5;clear d3 d2 hn;go_enter Tryz.func46,Tryz.ntmps46;go_wp2_with fail;refine(C1.out _ HG.out).mono ?_;rintro e w1 ⟨rfl,rfl⟩;go_wp2_with fail;refine(C2.out _).mono ?_;rintro e w2 ⟨rfl,hb2⟩;have h2:=aax HN.out hb2;have HG2:=aac (HG.out.after hb2);clear hb2;go_wp2_with fail;refine(C3.out _ HG2.out).mono ?_;rintro e w3 ⟨rfl,rfl⟩;go_wp2_with fail;refine(C4.out _ HG2.out).mono ?_;rintro e w4 ⟨rfl,hb4⟩;have h4:=aax h2 hb4;clear hb4 h2 HG2;go_wp2_with fail;refine(C5.out _).mono ?_;rintro e w5 ⟨rfl,hb5⟩;have h5:=aax h4 hb5;clear hb5 h4;obtain⟨hz,hb,⟨c0,c1,c2,c3,f0,f1,f2,f3⟩⟩:=h5;have HB:=aac hb;clear hb;go_wp2_with fail;exact bodyPost_ret (v:=.tuple #[.agg #[.int .i64 3,.string t,.bool false,.bool b],.int .i64 (s.size:Int),.int .i64 0]) (by simp[results,Tryz.results46,go_sem,c0,c1,c2,c3,hz]) rfl ⟨⟨3,l,false,b⟩,(s.size:Int),by unfold tkV;rw[HT.out],fun _=>⟨rfl,rfl⟩,aah HB.out (Nat.le_refl _) _ _ _ _⟩
theorem atl (s:ByteArray)(more:Bool)(w:World)(hG:Gl w)(hs:s.size≤2000000000):Calls Tryz.prog 46 #[.string s,.bool more] w (aav (afx more (aad s)) w):=by
 have C1:IxC s (ahD [60] (aad s)):=fun W hW=>ajM s ⟨#[60]⟩ W (by omega) hW
 have key:∀ (x:Int) (n:Nat),n≤s.size→(x=(n:Int)∨(x= -1∧more=false∧n=s.size))→IxC s x→Calls Tryz.prog 46 #[.string s,.bool more] w (aav (ach (aad s) n) w):=fun x n hn hx C1=>by
  have hsz:(s.extract 0 n).size≤2000000000:=by rw[ByteArray.size_extract];omega
  have C2:=alD s n hs;have C3:CoC (s.extract 0 n) (fnd agp ((aad s).take n)).isSome:=fun W hW=>aen (s.extract 0 n) ⟨#[93,93,62]⟩ W (by omega) hW _ (by rw[aeU];rfl)
  have C4:TxC (s.extract 0 n) (strOfNums (acF false ((aad s).take n)).1) (acF false ((aad s).take n)).2.1 (acF false ((aad s).take n)).2.2:=fun W hW=>by
   have:=avt (s.extract 0 n) W (by omega) hW.vars;rw[aeU] at this;exact this
  have C5:a4v (s.extract 0 n) (((aad s).take n).all aaZ):=by
   have:=alU (s.extract 0 n);rw[aeU] at this;exact this
  unfold ach;by_cases h1:abh ((aad s).take n)≠0
  · rw[if_pos h1];exact a1s s more x n hs hn hx (aac C1) _ h1 (aac C2) w hG
  rw[if_neg h1];have h1':abh ((aad s).take n)=0:=(by simpa using h1);rw[h1'] at C2
  cases h2:(fnd agp ((aad s).take n)).isSome with
  | true=>
    rw[h2] at C3;rw[if_pos rfl];exact azZ s more x n hs hn hx (aac C1) (aac C2) (aac C3) w hG
  | false=>
    rw[h2] at C3;rw[if_neg (by simp)];by_cases h3:(acF false ((aad s).take n)).2.2≠0
    · rw[if_pos h3];exact a3v s more x n hs hn hx (aac C1) _ _ _ h3 (aac C2) (aac C3) (aac C4) w hG
    · rw[if_neg h3];have h3':(acF false ((aad s).take n)).2.2=0:=(by simpa using h3);rw[h3'] at C4;exact aph s more x n hs hn hx (aac C1) _ _ _ _ rfl (aac C2) (aac C3) (aac C4) (aac C5) w hG
 unfold afx
 cases hf:fnd [60] (aad s) with
 | some n=>
   rw[acd hf] at C1;have hb:=(acu hf).1;rw[aae,List.length_singleton] at hb;exact key n n (by omega) (.inl rfl) C1
 | none=>
   rw[acB hf] at C1
   cases more with
   | true=>exact a2i s true (aac C1) rfl w hG
   | false=>
     show Calls _ _ _ _ (aav (ach (aad s) (aad s).length) w);rw[aae];exact key (-1) s.size (Nat.le_refl _) (.inr ⟨rfl,rfl,rfl⟩) C1
end Go.Proofs.YtiaebhomfebagaaGreatDoor
