/- BuildOwn's walk, of the program's builder. -/
import Derived.Test.YtpccjgoeoeehoaaDoorCk
import Derived.Test.YtpccjgoeoeehoaaDoorBu
import Derived.Test.YtpccjgoeoeehoaaDoorZ7
set_option linter.unusedVariables false
set_option linter.unusedSimpArgs false
namespace Go.Proofs.YtpccjgoeoeehoaaDoor
open Go.RowKit
theorem own8_any (l : List Dd) (v : Value) (xn : NV) (yn : Nd) (w : World) (hT : U8 w) (hv : DosS (fun k => k < w.heap.size) w v l) (hb : ddls l ≤ 1000000000) (hsl : ∀ d ∈ l, d.s.length ≤ 2000000) (hx : NdIs (fun k => k < w.heap.size) w xn yn) (hnl : nlN yn ≤ 900000000) :
    Calls Tryd.prog 4 #[v, .agg (ncell xn).toArray] w fun e w' => e = .returned (.bool true) ∧ Below w.heap.size w w' :=
  buildown_walk BIM U8 build_impl (fun h _ hx hS hb => (badd_any h hx hS (by omega)).mono fun e w' ⟨h1, h2⟩ => ⟨h1, h2.aft⟩) rcheck_any known8_any l v xn yn w hT hv hb hsl hx hnl
end Go.Proofs.YtpccjgoeoeehoaaDoor
