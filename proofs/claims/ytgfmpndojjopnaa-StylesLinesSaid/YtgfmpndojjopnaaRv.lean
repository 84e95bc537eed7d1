/- How long what is read may be. -/
import Derived.Test.YtgfmpndojjopnaaRu
import Derived.SizedLaws
namespace Go.Proofs.Ytgfmpndojjopnaa
open Go.ChangeShapes Go.WideShapes Go.ChangeAt Go.RowKit Go.Deep

variable {H : Type} {enc : TypeId × Value → H} {W : World}
theorem bytesG : Try.prog.bytesOf 41 = 8 := by kernel_rfl
theorem glyphs_reach {d : DataW H} {p : List MemPlace} {a : Option Addr} {n cap : Nat} (h : DataW.Trod enc Try.prog W 0 (fun _ => true) true 26 (.slice a n cap) d p)
    (hw : ∀ q ∈ DataW.weights Try.prog 26 d, q ≤ reachBytes) : n ≤ 1000000000000000 := by
  obtain ⟨fu, hf⟩ := h
  rcases open_slice Try.underlying26 hf with ⟨hcs, hx⟩ | ⟨a', len, cap', m, n', D, Pl, hcs, hb, hl, hm, hmm, hx, hi⟩
  · simp [Value.cells] at hcs
    omega
  · simp [Value.cells] at hcs
    obtain ⟨rfl, rfl, rfl⟩ := hcs
    have hd : d = .slice ((List.range n).map D) ((List.range (m - n)).map fun j => D (n + j)) := congrArg Prod.fst hx
    subst hd
    have := hw ((((List.range n).map D).length + ((List.range (m - n)).map fun j => D (n + j)).length) * Try.prog.bytesOf 41) (by simp [DataW.weights, Try.underlying26])
    rw [bytesG] at this
    simp only [List.length_map, List.length_range, reachBytes] at this
    omega
theorem bytesT : Try.prog.bytesOf 46 = 16 := by kernel_rfl
theorem tokens_reach {d : DataW H} {p : List MemPlace} {a : Option Addr} {n cap : Nat} (h : DataW.Trod enc Try.prog W 0 (fun _ => true) true 24 (.slice a n cap) d p)
    (hw : ∀ q ∈ DataW.weights Try.prog 24 d, q ≤ reachBytes) : n ≤ 1000000000000000 := by
  obtain ⟨fu, hf⟩ := h
  rcases open_slice Try.underlying24 hf with ⟨hcs, hx⟩ | ⟨a', len, cap', m, n', D, Pl, hcs, hb, hl, hm, hmm, hx, hi⟩
  · simp [Value.cells] at hcs
    omega
  · simp [Value.cells] at hcs
    obtain ⟨rfl, rfl, rfl⟩ := hcs
    have hd : d = .slice ((List.range n).map D) ((List.range (m - n)).map fun j => D (n + j)) := congrArg Prod.fst hx
    subst hd
    have := hw ((((List.range n).map D).length + ((List.range (m - n)).map fun j => D (n + j)).length) * Try.prog.bytesOf 46) (by simp [DataW.weights, Try.underlying24])
    rw [bytesT] at this
    simp only [List.length_map, List.length_range, reachBytes] at this
    omega
end Go.Proofs.Ytgfmpndojjopnaa
