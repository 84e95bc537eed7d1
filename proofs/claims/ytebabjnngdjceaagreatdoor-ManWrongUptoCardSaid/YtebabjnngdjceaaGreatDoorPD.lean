/- ManWrong, the second form (where what it reads is of bulk at most 1048576): the law returns true, and the input reads as it did; the listed variables are tied to the program's text. -/
import Derived.Test.YtebabjnngdjceaaGreatDoorRG
import Derived.Test.YtebabjnngdjceaaGreatDoorRo
set_option linter.unusedVariables false
set_option linter.unusedSimpArgs false
set_option maxRecDepth 100000
namespace Go.Proofs.YtebabjnngdjceaaGreatDoor
open Go.RowKit
section
open Go.ChangeShapes Go.WideShapes Go.ChangeAt Go.RowKit
namespace ManWrongUpto
theorem contract (H:Type)(enc:TypeId×Value→H)(W:World)(base:Nat)(args:Array Value)(ds gs:List (DataW H))(before:List MemPlace)
  (hval:∀(j:Nat) t v,Tryz.f4.params[j]? =some t→args[j]? =some v→Value.okWide Tryz.prog W .any base t v)
  (hW:DataW.Whole enc Tryz.prog Tryz.f4.params.toList Rows.manWrongSpec.vars false W args.toList ds gs before) (hL:laidMetH Tryz.prog qZ W) (hSh:W.ShapedOpen Tryz.prog) (hk:Rows.uptoSmall H (ds++gs)=true):
  Calls Tryz.prog 4 args W fun e W'=> ∃v,e=.returned v∧Rows.manWrongSpec.post enc Tryz.prog Tryz.f4 false true false false W args v W':=by
 have hW':=hW;obtain⟨p,q,hA0,hV,rfl,hfz,hnd⟩:=hW;have hA:DataW.TrodAll enc Tryz.prog W 0 (fun _=>true) true Tryz.f4.params.toList args.toList ds p:=hA0;rw[Tryz.params4]at hA hval;obtain⟨v0,vs0,d0,ds0,p0,q0,hargs,rfl,rfl,h0,r0⟩:=trodAll_cons hA;obtain⟨v1,vs1,d1,ds1,p1,q1,rfl,rfl,rfl,h1,r1⟩:=trodAll_cons r0;obtain⟨rfl,rfl,rfl⟩:=trodAll_nil r1;obtain rfl:args= #[v0,v1]:=Array.ext' hargs;obtain⟨rfl,rfl⟩:=trodVars_none hV;obtain⟨l0,hs0,hb0⟩:=CF (hval 0 25 v0 rfl rfl) h0;obtain⟨s1,rfl,rfl,rfl,ws1⟩:=ChangeMaps.open_string Tryz.underlying9 (hval 1 9 v1 rfl rfl) h1;have hbk:Rows.uptoBulkAll ([d0,_]++ [])≤1048576:=Rc hk;simp only[Qc,Rows.uptoBulkAll]at hbk;clear hA0;have hlt:∀x:MemPlace,x∈p0++([]++([]))→x.block<W.heap.size:=fun x hx=>hW'.lt x (by simpa using hx)
 refine(yN (zN hL) (Bv hL) (OP hSh) l0 s1.data.toList v0 hs0 (by simp[Rows.uptoBulk]at hbk;omega) (by have e:s1.data.toList.length=s1.size:=rfl;simp[Rows.uptoBulk]at hbk;omega)).mono fun e W' ⟨he,hb⟩=>?_
 subst he;refine⟨_,rfl,_,_,_,[],p0++([]++([])),[],hW',?_,?_,?_,hb.frame _,fun h=>by cases h⟩
 ·exact trodAll_mk1 (shut_bool Tryz.underlying4 true)
 ·exact trodAll_cons_mk (hb.trod laidOut (by kernel_rfl) (Rc (by kernel_rfl)) h0 (fun x hx=>hlt x (by simp[hx]))) (trodAll_cons_mk (ChangeMaps.shut_string Tryz.underlying9 ws1) (trodAll_mk0))
 ·rfl
theorem reads (os:Os){H:Type}(enc:TypeId×Value→H):∃places,DataW.whole enc Tryz.prog ((oq os).forCall (fun _ _=>0) ⟨#[],#[.slice none 0 0,.string .empty],[]⟩).memory Tryz.f4.params.toList Rows.manWrongSpec.vars false (#[.slice none 0 0,.string .empty]:Array Value).toList 8=some ([.nil,.lit (.string [])],[],places):=
 ⟨[],by kernel_rfl⟩
theorem lifted (os:Os)(started:os.Started)(H:Type)(enc:TypeId×Value→H)(F:Stop.Interp):
  ReturnsInHanded {} Tryz.checked os 4 .any ((Rows.OpenSpec.upto Rows.manWrongSpec).preRow enc Tryz.prog Tryz.f4 Rows.manWrongUptoRow.domain false Rows.manWrongUptoRow.laid) (((Rows.OpenSpec.upto Rows.manWrongSpec).at F).post enc Tryz.prog Tryz.f4 false true false false):=by
 obtain⟨places,hx⟩:=reads os enc;refine returnsInHanded_of_row (C:=Tryz.checked) (s:=Rows.OpenSpec.upto Rows.manWrongSpec) own started (by kernel_rfl) Tryz.func4
  (witness_row_at (enc:=enc) (C:=Tryz.checked) false (oq os) #[.slice none 0 0,.string .empty] rfl (by kernel_rfl) (by kernel_rfl) (by kernel_rfl)
   (OpenSpec.preRow_of_cond 8 hx (by kernel_rfl) (fun k hk=>by cases hk;kernel_rfl) (by kernel_rfl) (G8 os _))) ?_
 intro W base args ds gs before hval hW _ hk _ hL hSh _;exact contract H enc W base args ds gs before hval hW hL hSh (hk _ rfl)
theorem said:Rows.ManWrongUptoSaid:=
 OpenClaim.holds_of_cond 4 Tryz.f4 rfl rfl rfl rfl rfl rfl rfl ⟨rfl,rfl,rfl,rfl,rfl⟩ rfl rfl rfl rfl rfl (by kernel_rfl) Tryz.func4 (by kernel_rfl)
  (Rc (by kernel_rfl)) (by unfold Func.isWrapper;first | (rw[PZ (by decide+kernel)];kernel_rfl)| (rw[PO (by decide+kernel)];exact⟨rfl,rfl⟩))
  (fun os started H enc _ F=>by rw[OpenClaim.pre_eq_preRow];exact lifted os started H enc F)
theorem plain (f:FuncId)(fn:Func)(hf:Tryz.pinned.checked.prog.funcNamed "flong/flonglaw10.ManWrong" =some f)(hfn:Tryz.pinned.checked.prog.funcs[f]? =some fn):
  true=Tryz.pinned.checked.prog.looks []∧ ∀(j:Nat) t,fn.params[j]? =some t→Tryz.pinned.checked.prog.wantsStandIn t=false:=by
 obtain rfl:f=4:=PT ((show Tryz.prog.funcNamed "flong/flonglaw10.ManWrong" =some 4 by kernel_rfl).symm.trans hf)|>.symm;obtain rfl:fn=Tryz.f4:=(PT (Tryz.func4.symm.trans hfn)).symm;refine⟨by kernel_rfl,fun j t ht=>?_⟩;rw[Tryz.params4]at ht;have hm:=Array.mem_of_getElem? ht;simp only[List.mem_toArray,Qn,Qs,Ri]at hm;rcases hm with rfl | rfl
 all_goals exact(show Tryz.prog.wantsStandIn _=false by kernel_rfl)
end ManWrongUpto
theorem manWrong_upto_card:Rows.ManWrongUptoCardSaid:=
 Claim7.holds_tied_plain_at .later [] _ _ _ _ ManWrongUpto.said (fun _ h=>by cases h) (by kernel_rfl) (fun _ h=>by cases h) manWrongUpto_row_tie rfl ⟨rfl,rfl⟩ (by kernel_rfl) rfl ManWrongUpto.plain (by kernel_rfl)
#print axioms manWrong_upto_card
end
end Go.Proofs.YtebabjnngdjceaaGreatDoor
