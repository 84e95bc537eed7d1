/- Rows as a builder keeps them: one's own, or to be read alone; a node stored in one; a node behind one. The document's answer for layer 8: name, Step. -/
import Derived.Test.YtpcbbhfbldchlaaQ2
import Derived.Laws.Strings3
import Derived.Lib.Strings
import Derived.Test.YtpcbbhfbldchlaaC0
import Derived.Laws.OwnMore
import Derived.Deep.RegionHeld3
import Derived.Deep.DeepCutAuto
import Derived.StillTailTactics
import Derived.ArgAppend
set_option linter.unusedVariables false
set_option linter.unusedSimpArgs false
namespace Go.Proofs.Ytpcbbhfbldchlaa
open Go.RowKit
section
variable {α : Type} {e n : Nat} {f : α → List Value} {base : Nat} {W W' : World} {x : Value} {l : List α}
theorem FOwn.kp (h : FOwn e n f base W x l) (k : ∀ b, x.ownBlock = some b → W'.heap[b]? = W.heap[b]?) : FOwn e n f base W' x l := by
  refine ⟨h.1, ?_⟩
  rcases h.2 with h0 | ⟨g, cap, cur, rfl, hg, hh, r⟩
  · exact .inl h0
  · exact .inr ⟨g, cap, cur, rfl, hg, (k g rfl).trans hh, r⟩
theorem FOwn.ltb (h : FOwn e n f base W x l) {g : Nat} (hg : x.ownBlock = some g) : g < W.heap.size := by
  obtain ⟨-, cur, hc⟩ := h.ty hg
  exact (Array.getElem?_eq_some_iff.1 hc).1
end
section
variable {R R' O O' : Nat → Prop} {w w' : World} {v : Value} {L : List NV} {l : List Nd}
end
end Go.Proofs.Ytpcbbhfbldchlaa
namespace Go.Proofs.Ytpcbbhfbldchlaa
open Go.RowKit
def scell (b : List UInt8) : List Value := [.string ⟨b.toArray⟩]
theorem scell_len (b : List UInt8) : (scell b).length = 1 := rfl
end Go.Proofs.Ytpcbbhfbldchlaa
