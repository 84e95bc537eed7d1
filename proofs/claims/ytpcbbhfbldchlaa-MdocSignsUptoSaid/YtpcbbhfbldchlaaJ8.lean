/- Rows of texts that came in, with the sum of their lengths. -/
import Derived.Test.YtpcbbhfbldchlaaRD
import Derived.Test.YtpcbbhfbldchlaaBg
import Derived.Test.YtpcbbhfbldchlaaJ4
set_option linter.unusedVariables false
set_option linter.unusedSimpArgs false
namespace Go.Proofs.Ytpcbbhfbldchlaa
open Go.ChangeShapes Go.WideShapes Go.ChangeAt Go.RowKit
/-- How much there is of texts. -/
def lnT (l : List (List UInt8)) : Nat := (l.map (fun b => b.length + 1)).sum
section
variable {H : Type} {enc : TypeId × Value → H} {w : World} {held : Bool}
theorem texts_of {fuel : Nat} {v : Value} {x : DataW H × List MemPlace} (h : DataW.trod enc Try.prog w 0 (fun _ => true) held fuel 32 [v] = some x) :
    ∃ l : List (List UInt8), FsS (fun b => b < w.heap.size) 1 scell w v l ∧ 1 + lnT l ≤ Rows.uptoBulk x.1 := by
  rcases open_sl Try.underlying32 h with ⟨rfl, hx⟩ | ⟨a, len, cap, n, ys, rest, -, rfl, hl, hyl, hx, hi⟩
  · exact ⟨[], FsS.nil _ _ _ _, by rw [hx]; simp [Rows.uptoBulk, lnT]⟩
  · rw [cellsStr] at hi
    obtain ⟨L, l, h1, h2, h3⟩ := two_lists (fun i (g : List UInt8) (_ : Unit) => (∀ (j : Nat) c, (scell g)[j]? = some c → w.cell? (a.add (i * 1 + j)) = some c) ∧ ∃ y, ys[i]? = some y ∧ g.length + 1 ≤ Rows.uptoBulk y.1) len (fun i hil => by
      obtain ⟨cs, y, hy, hcl, hc, ht⟩ := hi i hil
      rcases cs with _ | ⟨c, _ | ⟨d, cs⟩⟩
      · simp at hcl
      · obtain ⟨b, rfl, hb⟩ := text_of ht
        exact ⟨b, (), hc, y, hy, by omega⟩
      · simp at hcl)
    refine ⟨L, fss_of scell_len (by decide) h1 hl (fun i x hx j c hj => ?_), ?_⟩
    · have hil := (List.getElem?_eq_some_iff.1 hx).1
      obtain ⟨u, hu⟩ := get_of_len h2 (j := i) (by omega)
      exact (h3 i x u hx hu).1 j c hj
    · have hs := bulk_sum (fun b : List UInt8 => b.length + 1) L (ys.map (·.1)) (by rw [List.length_map, h1, hyl]) (fun i r d hr hd => by
        obtain ⟨u, hu⟩ := get_of_len h2 (j := i) (by have := (List.getElem?_eq_some_iff.1 hr).1; omega)
        obtain ⟨y, hy, hb⟩ := (h3 i r u hr hu).2
        rw [List.getElem?_map, hy] at hd
        simp at hd
        subst hd
        exact hb)
      rw [hx]
      simp only [Rows.uptoBulk, lnT]
      omega
set_option maxRecDepth 100000 in
theorem texts_open {r : Reach} {b0 : Nat} {v : Value} {d : DataW H} {p : List MemPlace} (hval : Value.okWide Try.prog w r b0 32 v) (h : DataW.Trod enc Try.prog w 0 (fun _ => true) true 32 v d p) :
    ∃ l : List (List UInt8), FsS (fun b => b < w.heap.size) 1 scell w v l ∧ 1 + lnT l ≤ Rows.uptoBulk d := by
  obtain ⟨a, len, cap, rfl⟩ := okWide_slice Try.underlying32 hval
  obtain ⟨fu, hf⟩ := h
  exact texts_of hf
end
end Go.Proofs.Ytpcbbhfbldchlaa
