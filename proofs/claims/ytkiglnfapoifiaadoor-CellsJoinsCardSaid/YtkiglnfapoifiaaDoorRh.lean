/- How long what is read may be. -/
import Derived.Test.YtkiglnfapoifiaaDoorRg
namespace Go.Proofs.YtkiglnfapoifiaaDoor
open Go.ChangeShapes Go.WideShapes Go.ChangeAt Go.RowKit Go.Deep

variable {H : Type} {enc : TypeId × Value → H} {W : World}
theorem bytesG : Tryd.prog.bytesOf 47 = 8 := by kernel_rfl
theorem glyphs_reach {d : DataW H} {p : List MemPlace} {a : Option Addr} {n cap : Nat} (h : DataW.Trod enc Tryd.prog W 0 (fun _ => true) true 22 (.slice a n cap) d p)
    (hw : ∀ q ∈ DataW.weights Tryd.prog 22 d, q ≤ reachBytes) : n ≤ 1000000000000000 := by
  obtain ⟨fu, hf⟩ := h
  rcases open_slice Tryd.underlying22 hf with ⟨hcs, hx⟩ | ⟨a', len, cap', m, n', D, Pl, hcs, hb, hl, hm, hmm, hx, hi⟩
  · simp [Value.cells] at hcs
    omega
  · simp [Value.cells] at hcs
    obtain ⟨rfl, rfl, rfl⟩ := hcs
    have hd : d = .slice ((List.range n).map D) ((List.range (m - n)).map fun j => D (n + j)) := congrArg Prod.fst hx
    subst hd
    have := hw ((((List.range n).map D).length + ((List.range (m - n)).map fun j => D (n + j)).length) * Tryd.prog.bytesOf 47) (by simp [DataW.weights, Tryd.underlying22])
    rw [bytesG] at this
    simp only [List.length_map, List.length_range, reachBytes] at this
    omega
end Go.Proofs.YtkiglnfapoifiaaDoor
