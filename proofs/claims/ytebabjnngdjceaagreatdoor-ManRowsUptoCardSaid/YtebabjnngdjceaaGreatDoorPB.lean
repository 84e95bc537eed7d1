/- ManRows, the second form (where what it reads is of bulk at most 1048576): the law returns true, and the input reads as it did; the listed variables are tied to the program's text. -/
import Derived.Test.YtebabjnngdjceaaGreatDoorRG
import Derived.Test.YtebabjnngdjceaaGreatDoorRo
set_option linter.unusedVariables false
set_option linter.unusedSimpArgs false
set_option maxRecDepth 100000
namespace Go.Proofs.YtebabjnngdjceaaGreatDoor
open Go.RowKit
section
open Go.ChangeShapes Go.WideShapes Go.ChangeAt Go.RowKit
namespace ManRowsUpto
theorem contract (H:Type)(enc:TypeId×Value→H)(W:World)(base:Nat)(args:Array Value)(ds gs:List (DataW H))(before:List MemPlace)
  (hval:∀(j:Nat) t v,Tryz.f7.params[j]? =some t→args[j]? =some v→Value.okWide Tryz.prog W .any base t v)
  (hW:DataW.Whole enc Tryz.prog Tryz.f7.params.toList Rows.manRowsSpec.vars false W args.toList ds gs before) (hL:laidMetH Tryz.prog rJ W) (hSh:W.ShapedOpen Tryz.prog) (hk:Rows.uptoSmall H (ds++gs)=true):
  Calls Tryz.prog 7 args W fun e W'=> ∃v,e=.returned v∧Rows.manRowsSpec.post enc Tryz.prog Tryz.f7 false true false false W args v W':=by
 have hW':=hW;obtain⟨p,q,hA0,hV,rfl,hfz,hnd⟩:=hW;have hA:DataW.TrodAll enc Tryz.prog W 0 (fun _=>true) true Tryz.f7.params.toList args.toList ds p:=hA0;rw[Tryz.params7]at hA hval;obtain⟨v0,vs0,d0,ds0,p0,q0,hargs,rfl,rfl,h0,r0⟩:=trodAll_cons hA;obtain⟨rfl,rfl,rfl⟩:=trodAll_nil r0;obtain rfl:args= #[v0]:=Array.ext' hargs;obtain⟨rfl,rfl⟩:=trodVars_none hV;obtain⟨l0,hs0,hb0⟩:=Dp (hval 0 25 v0 rfl rfl) h0;have hbk:Rows.uptoBulkAll ([d0]++ [])≤1048576:=Sn hk;simp only[QW,Rows.uptoBulkAll]at hbk;clear hA0;have hlt:∀x:MemPlace,x∈p0++([])→x.block<W.heap.size:=fun x hx=>hW'.lt x (by simpa using hx)
 refine(BJ (Ap hL) (Cf hL) (PR hSh) l0 v0 hs0 (by omega)).mono fun e W' ⟨he,hb⟩=>?_
 subst he;refine⟨_,rfl,_,_,_,[],p0++([]),[],hW',?_,?_,?_,hb.frame _,fun h=>by cases h⟩
 ·exact trodAll_mk1 (shut_bool Tryz.underlying4 true)
 ·exact trodAll_cons_mk (hb.trod laidOut (by kernel_rfl) (Sn (by kernel_rfl)) h0 (fun x hx=>hlt x (by simp[hx]))) (trodAll_mk0)
 ·rfl
theorem reads (os:Os){H:Type}(enc:TypeId×Value→H):∃places,DataW.whole enc Tryz.prog ((oJ os).forCall (fun _ _=>0) ⟨#[],#[.slice none 0 0],[]⟩).memory Tryz.f7.params.toList Rows.manRowsSpec.vars false (#[.slice none 0 0]:Array Value).toList 8=some ([.nil],[],places):=
 ⟨[],by kernel_rfl⟩
theorem lifted (os:Os)(started:os.Started)(H:Type)(enc:TypeId×Value→H)(F:Stop.Interp):
  ReturnsInHanded {} Tryz.checked os 7 .any ((Rows.OpenSpec.upto Rows.manRowsSpec).preRow enc Tryz.prog Tryz.f7 Rows.manRowsUptoRow.domain false Rows.manRowsUptoRow.laid) (((Rows.OpenSpec.upto Rows.manRowsSpec).at F).post enc Tryz.prog Tryz.f7 false true false false):=by
 obtain⟨places,hx⟩:=reads os enc;refine returnsInHanded_of_row (C:=Tryz.checked) (s:=Rows.OpenSpec.upto Rows.manRowsSpec) own started (by kernel_rfl) Tryz.func7
  (witness_row_at (enc:=enc) (C:=Tryz.checked) false (oJ os) #[.slice none 0 0] rfl (by kernel_rfl) (by kernel_rfl) (by kernel_rfl)
   (OpenSpec.preRow_of_cond 8 hx (by kernel_rfl) (fun k hk=>by cases hk;kernel_rfl) (by kernel_rfl) (Iz os _))) ?_
 intro W base args ds gs before hval hW _ hk _ hL hSh _;exact contract H enc W base args ds gs before hval hW hL hSh (hk _ rfl)
theorem said:Rows.ManRowsUptoSaid:=
 OpenClaim.holds_of_cond 7 Tryz.f7 rfl rfl rfl rfl rfl rfl rfl ⟨rfl,rfl,rfl,rfl,rfl⟩ rfl rfl rfl rfl rfl (by kernel_rfl) Tryz.func7 (by kernel_rfl)
  (Sn (by kernel_rfl)) (by unfold Func.isWrapper;first | (rw[QP (by decide+kernel)];kernel_rfl)| (rw[QG (by decide+kernel)];exact⟨rfl,rfl⟩))
  (fun os started H enc _ F=>by rw[OpenClaim.pre_eq_preRow];exact lifted os started H enc F)
theorem plain (f:FuncId)(fn:Func)(hf:Tryz.pinned.checked.prog.funcNamed "flong/flonglaw10.ManRows" =some f)(hfn:Tryz.pinned.checked.prog.funcs[f]? =some fn):
  true=Tryz.pinned.checked.prog.looks []∧ ∀(j:Nat) t,fn.params[j]? =some t→Tryz.pinned.checked.prog.wantsStandIn t=false:=by
 obtain rfl:f=7:=QL ((show Tryz.prog.funcNamed "flong/flonglaw10.ManRows" =some 7 by kernel_rfl).symm.trans hf)|>.symm;obtain rfl:fn=Tryz.f7:=(QL (Tryz.func7.symm.trans hfn)).symm;refine⟨by kernel_rfl,fun j t ht=>?_⟩;rw[Tryz.params7]at ht;have hm:=Array.mem_of_getElem? ht;simp only[List.mem_toArray,Q8,Rn,Sw]at hm;subst hm;exact(show Tryz.prog.wantsStandIn _=false by kernel_rfl)
end ManRowsUpto
theorem manRows_upto_card:Rows.ManRowsUptoCardSaid:=
 Claim7.holds_tied_plain_at .later [] _ _ _ _ ManRowsUpto.said (fun _ h=>by cases h) (by kernel_rfl) (fun _ h=>by cases h) manRowsUpto_row_tie rfl ⟨rfl,rfl⟩ (by kernel_rfl) rfl ManRowsUpto.plain (by kernel_rfl)
#print axioms manRows_upto_card
end
end Go.Proofs.YtebabjnngdjceaaGreatDoor
