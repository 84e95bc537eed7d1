/- BuildTexts' walk, of the program's builder. -/
import Derived.Test.YtpccjgoeoeehoaaDoorCk
import Derived.Test.YtpccjgoeoeehoaaDoorBo
import Derived.Test.YtpccjgoeoeehoaaDoorB1
set_option linter.unusedVariables false
set_option linter.unusedSimpArgs false
namespace Go.Proofs.YtpccjgoeoeehoaaDoor
open Go.RowKit
theorem texts8_any (l : List (List Gly)) (es : List Bool) (v ve : Value) (w : World) (hT : U8 w) (hv : GrS (fun k => k < w.heap.size) w v l) (he : FsS (fun k => k < w.heap.size) 1 blcell w ve es) (hl : l.length + lens l ≤ 2000000) :
    Calls Tryd.prog 6 #[v, ve] w fun e w' => e = .returned (.bool true) ∧ Below w.heap.size w w' := buildtexts_walk BIM U8 build_impl known8_any (fun x h1 h2 h3 => texts_law h1 h2 h3) l es v ve w hT hv he (fun r hr => by
  obtain ⟨p, hp⟩ := List.mem_iff_getElem?.1 hr
  have := lens_le hp
  omega) (by omega)
end Go.Proofs.YtpccjgoeoeehoaaDoor
