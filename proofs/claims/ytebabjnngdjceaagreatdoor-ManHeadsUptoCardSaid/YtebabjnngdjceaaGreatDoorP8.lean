/- ManHeads, the second form (where what it reads is of bulk at most 1048576): the law returns true, and the input reads as it did; the listed variables are tied to the program's text. -/
import Derived.Test.YtebabjnngdjceaaGreatDoorRG
import Derived.Test.YtebabjnngdjceaaGreatDoorKK
import Derived.Test.YtebabjnngdjceaaGreatDoorJI
import Derived.Test.YtebabjnngdjceaaGreatDoorBr
import Derived.Test.YtebabjnngdjceaaGreatDoorYz
import Derived.Test.YtebabjnngdjceaaGreatDoorZ0
set_option linter.unusedVariables false
set_option linter.unusedSimpArgs false
set_option maxRecDepth 100000
namespace Go.Proofs.YtebabjnngdjceaaGreatDoor
open Go.RowKit
section
open Go.ChangeShapes Go.WideShapes Go.ChangeAt Go.RowKit
namespace ManHeadsUpto
theorem contract (H:Type) (enc:TypeId×Value→H) (W:World) (base:Nat) (args:Array Value) (ds gs:List (DataW H)) (before:List MemPlace)
  (hval: ∀(j:Nat) t v,Tryz.f5.params[j]? =some t→args[j]? =some v→Value.okWide Tryz.prog W .any base t v)
  (hW:DataW.Whole enc Tryz.prog Tryz.f5.params.toList Rows.manHeadsSpec.vars false W args.toList ds gs before) (hL:laidMetH Tryz.prog oW W) (hSh:W.ShapedOpen Tryz.prog) (hk:Rows.uptoSmall H (ds++gs)=true):
  Calls Tryz.prog 5 args W fun e W'=> ∃v,e= .returned v∧Rows.manHeadsSpec.post enc Tryz.prog Tryz.f5 false true false false W args v W':=by
 have hW':=hW;obtain⟨p,q,hA0,hV,rfl,hfz,hnd⟩:=hW;have hA:DataW.TrodAll enc Tryz.prog W 0 (fun _=>true) true Tryz.f5.params.toList args.toList ds p:=hA0;rw[Tryz.params5]at hA hval;obtain⟨v0,vs0,d0,ds0,p0,q0,hargs,rfl,rfl,h0,r0⟩:=trodAll_cons hA;obtain⟨rfl,rfl,rfl⟩:=trodAll_nil r0;obtain rfl:args= #[v0]:=Array.ext' hargs;obtain⟨rfl,rfl⟩:=trodVars_none hV;obtain⟨l0,hs0,hb0⟩:=Be (hval 0 23 v0 rfl rfl) h0;have hbk:Rows.uptoBulkAll ([d0]++ [])≤1048576:=N8 hk;simp only[MQ,Rows.uptoBulkAll]at hbk;clear hA0;have hlt: ∀x:MemPlace,x∈p0++([])→x.block<W.heap.size:=fun x hx=>hW'.lt x (by simpa using hx)
 refine(vV (wS hL) (yI hL) (Lg hSh) l0 v0 hs0.1 (by omega)).mono fun e W' ⟨he,hb⟩=>?_
 subst he;refine⟨_,rfl,_,_,_,[],p0++([]),[],hW',?_,?_,?_,hb.frame _,fun h=>by cases h⟩
 ·exact trodAll_mk1 (shut_bool Tryz.underlying4 true)
 ·exact trodAll_cons_mk (hb.trod laidOut (by kernel_rfl) (N8 (by kernel_rfl)) h0 (fun x hx=>hlt x (by simp[hx]))) (trodAll_mk0)
 ·rfl
theorem reads (os:Os) {H:Type} (enc:TypeId×Value→H): ∃places,DataW.whole enc Tryz.prog ((mg os).forCall (fun _ _=>0) ⟨#[],#[.slice none 0 0],[]⟩).memory Tryz.f5.params.toList Rows.manHeadsSpec.vars false (#[.slice none 0 0]:Array Value).toList 8=some ([.nil],[],places):=
 ⟨[],by kernel_rfl⟩
theorem lifted (os:Os) (started:os.Started) (H:Type) (enc:TypeId×Value→H) (F:Stop.Interp):
  ReturnsInHanded {} Tryz.checked os 5 .any ((Rows.OpenSpec.upto Rows.manHeadsSpec).preRow enc Tryz.prog Tryz.f5 Rows.manHeadsUptoRow.domain false Rows.manHeadsUptoRow.laid) (((Rows.OpenSpec.upto Rows.manHeadsSpec).at F).post enc Tryz.prog Tryz.f5 false true false false):=by
 obtain⟨places,hx⟩:=reads os enc;refine returnsInHanded_of_row (C:=Tryz.checked) (s:=Rows.OpenSpec.upto Rows.manHeadsSpec) own started (by kernel_rfl) Tryz.func5
  (witness_row_at (enc:=enc) (C:=Tryz.checked) false (mg os) #[.slice none 0 0] rfl (by kernel_rfl) (by kernel_rfl) (by kernel_rfl)
   (OpenSpec.preRow_of_cond 8 hx (by kernel_rfl) (fun k hk=>by cases hk;kernel_rfl) (by kernel_rfl) (DW os _))) ?_
 intro W base args ds gs before hval hW _ hk _ hL hSh _;exact contract H enc W base args ds gs before hval hW hL hSh (hk _ rfl)
theorem said:Rows.ManHeadsUptoSaid:=
 OpenClaim.holds_of_cond 5 Tryz.f5 rfl rfl rfl rfl rfl rfl rfl ⟨rfl,rfl,rfl,rfl,rfl⟩ rfl rfl rfl rfl rfl (by kernel_rfl) Tryz.func5 (by kernel_rfl)
  (N8 (by kernel_rfl)) (by unfold Func.isWrapper;first | (rw[MO (by decide+kernel)];kernel_rfl)| (rw[ME (by decide+kernel)];exact⟨rfl,rfl⟩))
  (fun os started H enc _ F=>by rw[OpenClaim.pre_eq_preRow];exact lifted os started H enc F)
theorem plain (f:FuncId) (fn:Func) (hf:Tryz.pinned.checked.prog.funcNamed "flong/flonglaw10.ManHeads" =some f) (hfn:Tryz.pinned.checked.prog.funcs[f]? =some fn):
  true=Tryz.pinned.checked.prog.looks []∧ ∀(j:Nat) t,fn.params[j]? =some t→Tryz.pinned.checked.prog.wantsStandIn t=false:=by
 obtain rfl:f=5:=MH ((show Tryz.prog.funcNamed "flong/flonglaw10.ManHeads" =some 5 by kernel_rfl).symm.trans hf)|>.symm;obtain rfl:fn=Tryz.f5:=(MH (Tryz.func5.symm.trans hfn)).symm;refine⟨by kernel_rfl,fun j t ht=>?_⟩;rw[Tryz.params5]at ht;have hm:=Array.mem_of_getElem? ht;simp only[List.mem_toArray,Nr,Nj,Ob]at hm;subst hm;exact(show Tryz.prog.wantsStandIn _=false by kernel_rfl)
end ManHeadsUpto
theorem manHeads_upto_card:Rows.ManHeadsUptoCardSaid:=
 Claim7.holds_tied_plain_at .later [] _ _ _ _ ManHeadsUpto.said (fun _ h=>by cases h) (by kernel_rfl) (fun _ h=>by cases h) manHeadsUpto_row_tie rfl ⟨rfl,rfl⟩ (by kernel_rfl) rfl ManHeadsUpto.plain (by kernel_rfl)
#print axioms manHeads_upto_card
end
end Go.Proofs.YtebabjnngdjceaaGreatDoor
