/- Plain maths of UTF-8: what bytes are as runes (dec), what runes are as bytes (enc). -/
import Derived.Lib.MapLaws
import Derived.Lib.ValidLaws
import Derived.Lib.ValidAsc
import Derived.Lib.QuoteLoop
import Derived.Laws.Cover4
import Derived.Test.YtpccjgoeoeehoaaDoorW3
set_option linter.unusedVariables false
set_option linter.unusedSimpArgs false
namespace Go.Proofs.YtpccjgoeoeehoaaDoor
open Go.Lib
def enc (l : List Int) : List UInt8 := (l.map encodeRune).flatten
end Go.Proofs.YtpccjgoeoeehoaaDoor
