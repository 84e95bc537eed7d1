/- BuildCloses' walk, of the program's builder. -/
import Derived.Test.YtpccjgoeoeehoaaDoorCk
import Derived.Test.YtpccjgoeoeehoaaDoorBl
import Derived.Test.YtpccjgoeoeehoaaDoorZ7
set_option linter.unusedVariables false
set_option linter.unusedSimpArgs false
namespace Go.Proofs.YtpccjgoeoeehoaaDoor
open Go.RowKit
theorem closes8_any (l : List Dd) (v : Value) (kd : Int) (nm : List UInt8) (w : World) (hT : U8 w) (hv : DosS (fun k => k < w.heap.size) w v l) (hb : ddls l ≤ 1000000000) (hsl : ∀ d ∈ l, d.s.length ≤ 2000000) :
    Calls Tryd.prog 7 #[v, .int .i64 kd, .string ⟨nm.toArray⟩] w fun e w' => e = .returned (.bool true) ∧ Below w.heap.size w w' := buildcloses_walk BIM U8 build_impl known8_any rcheck_any l v kd nm w hT hv hb hsl
theorem closes8b_any (l : List Dd) (v : Value) (kd : Int) (nm : ByteArray) (w : World) (hT : U8 w) (hv : DosS (fun k => k < w.heap.size) w v l) (hb : ddls l ≤ 1000000000) (hsl : ∀ d ∈ l, d.s.length ≤ 2000000) :
    Calls Tryd.prog 7 #[v, .int .i64 kd, .string nm] w fun e w' => e = .returned (.bool true) ∧ Below w.heap.size w w' := by
  have h := closes8_any l v kd nm.data.toList w hT hv hb hsl
  have e : (⟨nm.data.toList.toArray⟩ : ByteArray) = nm := by cases nm; simp
  rw [e] at h
  exact h
end Go.Proofs.YtpccjgoeoeehoaaDoor
