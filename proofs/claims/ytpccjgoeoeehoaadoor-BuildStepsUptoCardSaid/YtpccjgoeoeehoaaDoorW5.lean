/- The conversions between bytes, texts and runes; Decode, Encode, Same; known() is true. known() is true; the document's own Width and Sum. -/
import Derived.Test.YtpccjgoeoeehoaaDoorW3
import Derived.Test.YtpccjgoeoeehoaaDoorM2
import Derived.Laws.IdiomStrings
import Derived.Deep.QuietTactic
import Derived.BigQuiet
set_option linter.unusedVariables false
set_option linter.unusedSimpArgs false
namespace Go.Proofs.YtpccjgoeoeehoaaDoor
open Go.RowKit
theorem below_drewN {B : Nat} {a w : World} (h : Below B a w) : ∀ q, Below B a (w.drewN q)
  | 0 => h
  | q + 1 => (below_drewN h q).drew
end Go.Proofs.YtpccjgoeoeehoaaDoor
namespace Go.Proofs.YtpccjgoeoeehoaaDoor
open Go.RowKit
end Go.Proofs.YtpccjgoeoeehoaaDoor
