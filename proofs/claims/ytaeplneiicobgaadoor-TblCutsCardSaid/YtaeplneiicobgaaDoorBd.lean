/- The document's answer for layer 8: name, Step. -/
import Derived.Test.YtaeplneiicobgaaDoorQ2
import Derived.Test.YtaeplneiicobgaaDoorQ9
import Derived.Deep.RegionHeld3
import Derived.Deep.DeepCutAuto
import Derived.StillTailTactics
set_option linter.unusedVariables false
set_option linter.unusedSimpArgs false
namespace Go.Proofs.YtaeplneiicobgaaDoor
open Go.RowKit
def scell (b : List UInt8) : List Value := [.string ⟨b.toArray⟩]
theorem scell_len (b : List UInt8) : (scell b).length = 1 := rfl
end Go.Proofs.YtaeplneiicobgaaDoor
