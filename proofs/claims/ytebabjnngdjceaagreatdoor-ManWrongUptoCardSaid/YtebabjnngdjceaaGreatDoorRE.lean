/- What every row of this s -/
import Derived.Test.YtebabjnngdjceaaGreatDoorCards
import Derived.Test.YtebabjnngdjceaaGreatDoorTie
import Derived.Test.YtebabjnngdjceaaGreatDoorRD
import Derived.Deep.DeepHandedRow
import Derived.PinnedBridge
set_option linter.unusedVariables false
set_option linter.unusedSimpArgs false
set_option maxRecDepth 100000
namespace Go.Proofs.YtebabjnngdjceaaGreatDoor
open Go.RowKit
section
open Go.ChangeShapes Go.WideShapes Go.ChangeAt Go.RowKit
theorem own:ownKnob Tryz.prog.godebug=none:=by kernel_rfl
theorem EK {l:List (String×DataW Unit)}(hl:(l.filter fun x=>x.2.handleName?.isSome)=[])(W:World):laidMetH Tryz.prog l W=laidMet Tryz.prog l W:=by
 unfold laidMetH;rw[hl]
def setCells (C:Array Value):Obj→Obj
 | .cells _ t frozen=> .cells C t frozen
 | o=>o
def J9:Array Value:=(Lib.firstTab.map fun z=>Value.int .u8 z).toArray
def Iw:Array Value:=(((List.range 16).map fun i=>[Value.int .u8 (Lib.accLo i:Int),.int .u8 (Lib.accHi i:Int)]).flatten).toArray
theorem laidOut:laidOutB Tryz.prog=true:=by kernel_rfl
theorem zq:Tryz.prog.cellsOf 5=1:=by kernel_rfl
theorem Eh:Tryz.prog.cellsOf 243=256:=by kernel_rfl
theorem BQ:Tryz.prog.cellsOf 246=2:=by kernel_rfl
theorem Od:Tryz.prog.globalNamed "unicode/utf8.first" =some 0:=by kernel_rfl
theorem MF:Tryz.prog.globalNamed "unicode/utf8.acceptRanges" =some 1:=by kernel_rfl
theorem Nu:(Tryz.prog.globals[0]?).map (·.type)=some 243:=by kernel_rfl
theorem Lj:(Tryz.prog.globals[1]?).map (·.type)=some 247:=by kernel_rfl
theorem M0:Rows.laid_unicode_utf8_acceptRanges=Lib.acceptData:=by kernel_rfl
theorem Oh:Rows.laid_unicode_utf8_first=Lib.firstData:=Pinned.utf8First_eq
theorem zM {w:World}(h3:Lib.VarReads Tryz.prog w "unicode/utf8.first" Lib.firstData)(h4:Lib.VarReads Tryz.prog w "unicode/utf8.acceptRanges" Lib.acceptData):U8 w:=by
 refine⟨fun c hc=>?_,fun i hi=>?_⟩
 ·obtain⟨g,t,cs,fuel,p,hg,hty,hvar,hd⟩:=h3
  obtain rfl:=PT (Od.symm.trans hg);obtain rfl:=PT (Nu.symm.trans hty);have hcs:=Lib.cells_of_tab Tryz.underlying243 Tryz.underlying5 zq Eh hd;have:=World.var?_cell hg hvar c;rw[this,←Array.getElem?_toList,hcs];simp[Lib.firstTab,hc]
 ·obtain⟨g,t,cs,fuel,p,hg,hty,hvar,hd⟩:=h4
  obtain rfl:=PT (MF.symm.trans hg);obtain rfl:=PT (Lj.symm.trans hty);obtain⟨fuel',d,q,hdi,he⟩:=Lib.array_elem Tryz.underlying247 hd i hi;simp only[QL,List.getElem?_range hi,Re,QC]at hdi;subst hdi;rw[BQ]at he;have hcs:=Lib.ints_of_struct Tryz.underlying246 (fun j f hj=>by
   match j,hj with
   | 0,hj=>simp at hj;subst hj;exact⟨Tryz.underlying5,rfl,zq⟩
   | 1,hj=>simp at hj;subst hj;exact⟨Tryz.underlying5,rfl,zq⟩
   | j+2,hj=>simp at hj) (by rw[BQ];rfl) he
  have e0:=PR (·[0]?) hcs;have e1:=PR (·[1]?) hcs;simp only[List.getElem?_take,QE]at e0 e1
  constructor
  ·rw[World.var?_cell hg hvar (2*i),←Array.getElem?_toList]
   simpa[Nat.mul_comm] using e0
  ·rw[World.var?_cell hg hvar (2*i+1),←Array.getElem?_toList]
   simpa[Nat.mul_comm] using e1
end
end Go.Proofs.YtebabjnngdjceaaGreatDoor
