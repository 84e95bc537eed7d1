/- How many texts may come in. -/
import Derived.Test.YteckiifnldcjbaaDoorRl
namespace Go.Proofs.YteckiifnldcjbaaDoor
open Go.ChangeShapes Go.WideShapes Go.ChangeAt Go.RowKit Go.Deep

variable {H : Type} {enc : TypeId × Value → H} {W : World}
set_option maxRecDepth 100000 in
theorem strs_num {v : Value} {d : DataW H} {p : List MemPlace} {l : List (List UInt8)} (hs : Ss W v l) (h : DataW.Trod enc Tryd.prog W 0 (fun _ => true) true 23 v d p)
    (hw : ∀ q ∈ DataW.weights Tryd.prog 23 d, q ≤ reachBytes) : l.length ≤ 8796093021952 := by
  obtain ⟨a, cap, rfl⟩ := hs.len
  obtain ⟨fu, hf⟩ := h
  rcases open_slice1 Tryd.underlying23 cellsS hf with ⟨hcs, hx⟩ | ⟨a', len', cap', m, n, V, D, Pl, hcs, hb, hl, hm, hmm, hx, hi⟩
  · simp [Value.cells] at hcs
    rw [hcs.2.1]
    simp
  · simp [Value.cells] at hcs
    obtain ⟨e1, rfl, e3⟩ := hcs
    have hd : d = .slice ((List.range l.length).map D) ((List.range (m - l.length)).map fun j => D (l.length + j)) := congrArg Prod.fst hx
    subst hd
    have hq := hw ((((List.range l.length).map D).length + ((List.range (m - l.length)).map fun j => D (l.length + j)).length) * Tryd.prog.bytesOf 9) (by simp [DataW.weights, Tryd.underlying23])
    rw [bytesS] at hq
    simp only [List.length_map, List.length_range, reachBytes] at hq
    omega
end Go.Proofs.YteckiifnldcjbaaDoor
