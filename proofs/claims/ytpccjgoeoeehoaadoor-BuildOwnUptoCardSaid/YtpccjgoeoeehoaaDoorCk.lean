/- Layer 8's known, of the program's builder. -/
import Derived.Test.YtpccjgoeoeehoaaDoorCi
import Derived.Test.YtpccjgoeoeehoaaDoorBp
set_option linter.unusedVariables false
set_option linter.unusedSimpArgs false
namespace Go.Proofs.YtpccjgoeoeehoaaDoor
open Go.RowKit
theorem known8_any (w : World) (hT : U8 w) : Calls Tryd.prog 9 #[] w fun e w' => e = .returned (.bool true) ∧ Below w.heap.size w w' := bknown_any BIM U8 build_impl build_nil w hT
end Go.Proofs.YtpccjgoeoeehoaaDoor
