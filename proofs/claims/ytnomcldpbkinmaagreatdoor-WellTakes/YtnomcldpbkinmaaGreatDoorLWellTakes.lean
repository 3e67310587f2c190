/-
  PROVED HERE: for all tokens l: WellTakes(l) returns true; what was handed in reads as it did (the listed package variables as the text of the program lays them: a tied card).
  (The frame of 'lifted', 'over' and of the card is after the guide's worked examples; the walk is ours.)
-/
import Derived.Test.YtnomcldpbkinmaaGreatDoorRows
import Derived.Test.YtnomcldpbkinmaaGreatDoorCards
import Derived.Test.YtnomcldpbkinmaaGreatDoorTie
import Derived.Test.YtnomcldpbkinmaaGreatDoorG08
import Derived.Test.YtnomcldpbkinmaaGreatDoorG43
import Derived.WalkKit
import Derived.Below
import Derived.ProofKit
import Derived.OpenShut
import Derived.ShutString
import Derived.LaidMore
import Derived.Stop.Joined
import Derived.SevenTiedAt
set_option maxRecDepth 100000
set_option linter.unusedVariables false
set_option linter.unusedSimpArgs false
namespace Go.Proofs.YtnomcldpbkinmaaGreatDoor
namespace wellTakes
open Go.ChangeShapes Go.WideShapes Go.ChangeAt Go.RowKit
open Go.ChangeMaps (open_string shut_string)
theorem walk (A0:Option Addr)(n0 c0:Nat)(l0:List Wl.Tok)(w:World)(T0:Wl.amD w A0 n0 c0 l0)(hG:Gl w):Calls Tryz.prog 4 #[.slice A0 n0 c0] w fun e w'=>e=.returned (.bool true)∧Below w.heap.size w w':=Wl.arj A0 n0 c0 l0 w T0 hG
theorem lifted (os:Os)(started:os.Started)(H:Type)(enc:TypeId × Value→H):
 ReturnsInHanded {} Tryz.checked os 4 .any (fun w args=>(Rows.wellTakesSpec.pre enc Tryz.prog Tryz.f4 [] false w args∧laidMetH Tryz.prog abK w)∧sizedMet enc Tryz.prog Tryz.f4 (OpenSpec.ofChange Rows.wellTakesSpec) false w args)
  (Rows.wellTakesSpec.post enc Tryz.prog Tryz.f4 false true false false):=by
 refine agV (C:=Tryz.checked) (X:=fun w _=>laidMetH Tryz.prog abK w) (fun _ _ _ hh h=>h.of_heap hh) own started (by kernel_rfl) Tryz.func4
  (ChangeSpec.witness_shaped (enc:=enc) (C:=Tryz.checked) (os:=os) (X:=fun w _=>laidMetH Tryz.prog abK w) false (World.laidAll Tryz.prog os abK) #[.slice none 0 0] 8 (World.laidAll_os _ _ _)
    (World.shaped_of_ZipB (by kernel_rfl) (by kernel_rfl)) (by kernel_rfl) (by kernel_rfl) (by kernel_rfl)
    (by rw[MakeChecks.laidMetH_plain _ _ _ (by kernel_rfl)];exact laidMet_laidAll _ (by kernel_rfl) (by kernel_rfl))) ?_
 intro W base args ds gs before hval0 hW hL hS;have hval:∀ (j:Nat) t v,Tryz.f4.params[j]?=some t→args[j]?=some v→Value.okWide Tryz.prog W .any base t v:=hval0;have hW':=hW;obtain⟨p,q,hA0,hV,rfl,hfz,hnd⟩:=hW;have hA:DataW.TrodAll enc Tryz.prog W 0 (fun _=>true) true Tryz.f4.params.toList args.toList ds p:=hA0;rw[Tryz.params4] at hA hval;obtain⟨v0,vs0,d0,ds0,p0,q0,hargs,rfl,rfl,h0,r0⟩:=trodAll_cons hA;obtain⟨rfl,rfl,rfl⟩:=trodAll_nil r0;obtain rfl:args= #[v0]:=by cases args;simp_all
 obtain⟨rfl,rfl⟩:=trodVars_none hV;have h0k:=h0;obtain⟨A0,n0,c0,l0,rfl,T0⟩:=Wl.asC (hval 0 31 v0 rfl rfl) h0;have hlt0:∀ x∈p0,x.block < W.heap.size:=fun x hx=>by simpa using hW'.lt x (by first | exact hx | simp[hx])
 clear hA0 hval0;simp only[List.append_nil] at hW';refine(walk A0 n0 c0 l0 W T0 (amk hL hS)).mono fun e W' ⟨he,bel⟩=> ?_;subst he;exact⟨_,rfl,_,_,_,[],_,[],hW',trodAll_mk1 (shut_bool Tryz.underlying4 _),(trodAll_cons_mk (Below.trod Tg.Tryz.laidOut (by kernel_rfl) (of_decide_eq_true (by kernel_rfl)) h0k bel hlt0) trodAll_mk0),rfl,bel.frame _,fun h=>by cases h⟩
theorem over:Rows.WellTakesSaid:=
 OpenClaim.holds_of_wide 4 Tryz.f4 rfl rfl rfl rfl rfl rfl rfl ⟨rfl,rfl,rfl,rfl,rfl⟩ rfl rfl rfl rfl rfl (by kernel_rfl) Tryz.func4 (by kernel_rfl)
  (of_decide_eq_true (by kernel_rfl)) (by unfold Func.isWrapper;first | (rw[if_pos (by decide+kernel)];kernel_rfl) | (rw[if_neg (by decide+kernel)];exact⟨rfl,rfl⟩))
  (fun os started H enc _=>lifted os started H enc)
end wellTakes
theorem wellTakesCard_holds:Rows.WellTakesCardSaid:=
 Claim7.holds_tied_plain_at .later [] [.data,.data,.data,.data,.sentinel,.sentinel,.data,.data,.pinned,.pinned] true (true,"ea8cb650c491264af26a7abc48bc30c1a36290be022033581e5220e137cdf7da") true
  wellTakes.over (fun _ h=>by cases h) (by kernel_rfl) (fun _ h=>by cases h) wellTakes_row_tie rfl ⟨rfl,rfl⟩ (by kernel_rfl) rfl
  (fun f fn hf hfn=>by
    obtain rfl:f=4:=Option.some.inj ((show Tryz.prog.funcNamed Rows.wellTakesRow.func=some 4 by kernel_rfl).symm.trans hf) |>.symm;obtain rfl:fn=Tryz.f4:=(Option.some.inj (Tryz.func4.symm.trans hfn)).symm
    exact⟨by kernel_rfl,fun j t ht=>by
     rw[Tryz.params4] at ht;have hm:t∈[31]:=(by simpa using Array.mem_of_getElem? ht);have hall:([31].all fun u=> !Tryz.prog.wantsStandIn u)=true:=(by kernel_rfl);exact(show Tryz.prog.wantsStandIn t=false by simpa using List.all_eq_true.1 hall t hm)⟩)
  (by kernel_rfl)
end Go.Proofs.YtnomcldpbkinmaaGreatDoor
