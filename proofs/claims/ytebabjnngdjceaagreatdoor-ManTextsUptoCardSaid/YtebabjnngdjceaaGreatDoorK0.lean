/- Words, one by one: strings.FieldsFuncSeq at blanks and commas; what it decodes (plain), and the walk. Small things that all of layer 5 wants: bytes of texts, '+' of texts, worlds that only grow. -/
import Derived.Test.YtebabjnngdjceaaGreatDoorY3
import Derived.Test.YtebabjnngdjceaaGreatDoorDa
import Derived.RangeFuncNested
import Derived.RangeFuncBound
import Derived.RangeFuncCalls
import Derived.RangeFuncLeaves
import Derived.OwnWalkIn
import Derived.TacticsInMore
import Derived.LoopNIn
import Derived.LoopIn
import Derived.Lib.TrimU
import Derived.Test.YtebabjnngdjceaaGreatDoorZ0
import Derived.Test.YtebabjnngdjceaaGreatDoorJA
import Derived.Test.YtebabjnngdjceaaGreatDoorBs
import Derived.Test.YtebabjnngdjceaaGreatDoorBe
import Derived.Test.YtebabjnngdjceaaGreatDoorGx
import Derived.Lib.Hide
import Derived.Lib.Strings
import Derived.Laws.Strings3
import Derived.Deep.QuietTactic
import Derived.BigQuiet
set_option linter.unusedVariables false
set_option linter.unusedSimpArgs false
namespace Go.Proofs.YtebabjnngdjceaaGreatDoor
open Go.RowKit
section
attribute [local go_sem] Oper.semAt_some
def Og (x:Txt):Array Value:= #[.string ⟨x.toArray⟩]
end
theorem sJ {α:Type} {e n base:Nat} {f:α→List Value} {W:World} {x:Value} {l:List α} (h:ag e n f base W x l) {b e':Nat} {C:List Value} (hb:Blk W b e' C) (he:e≠e'):x.ownBlock≠some b:=by
 intro hx;obtain⟨-,cur,hc⟩:=h.ty hx;have hb':W.heap[b]? =some (.cells C.toArray e' (0,0)):=hb;rw[hb']at hc;injection hc with hc
 injection hc with _ h2 _
 exact he h2.symm
end Go.Proofs.YtebabjnngdjceaaGreatDoor
