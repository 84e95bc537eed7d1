/- Rows of texts that came in, with the sum of their lengths. How much is read of a table's lines: plain maths. How much is told of a table's lines: plain maths. -/
import Derived.Test.YtebabjnngdjceaaGreatDoorRD
import Derived.Test.YtebabjnngdjceaaGreatDoorC5
import Derived.Test.YtebabjnngdjceaaGreatDoorY3
import Derived.Test.YtebabjnngdjceaaGreatDoorZ0
import Derived.Test.YtebabjnngdjceaaGreatDoorHa
set_option linter.unusedVariables false
set_option linter.unusedSimpArgs false
namespace Go.Proofs.YtebabjnngdjceaaGreatDoor
open Go.RowKit
section
open Go.ChangeShapes Go.WideShapes Go.ChangeAt Go.RowKit
def lnT (l:List (List UInt8)):Nat:=(l.map (fun b=>b.length+1)).sum
theorem ru (b:List UInt8) (l:List (List UInt8)):lnT (b::l)=b.length+1+lnT l:=by simp[lnT]
theorem Jb (l m:List (List UInt8)):lnT (l++m)=lnT l+lnT m:=by simp[lnT]
theorem vW: ∀l:List (List UInt8),l.length≤lnT l
 | []=>NK _
 | b::l=>by have:=vW l;rw[ru,MB];omega
theorem yj (l:List (List UInt8)) (j:Nat):lnT (l.take j)≤lnT l:=by
 have:=Jb (l.take j) (l.drop j);rw[NW]at this;omega
section
variable {H:Type} {enc:TypeId×Value→H} {w:World} {held:Bool}
end
end
theorem F9 (a b:List (List Gly)):lens (a++b)=lens a+lens b:=by simp[lens]
section
variable {lg:Lgf} (hg: ∀s,(lg s).1.length≤s.length)
include hg
omit hg in
omit hg in
omit hg in
omit hg in
omit hg in
end
theorem rR (ln:Int) (l:List (Int×Int)):(bB ln l).length=l.length:=by simp[bB]
section
variable {lg:Lgf} (hg: ∀s,(lg s).2.length≤s.length)
include hg
omit hg in
omit hg in
omit hg in
end
end Go.Proofs.YtebabjnngdjceaaGreatDoor
