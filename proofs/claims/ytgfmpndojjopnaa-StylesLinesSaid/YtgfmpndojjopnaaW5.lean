/- known() is true; the document's own Width and Sum. -/
import Derived.Test.YtgfmpndojjopnaaW4
namespace Go.Proofs.Ytgfmpndojjopnaa
open Go.RowKit

/-- A literal's row. -/
theorem sl_lit {k : IntKind} (w : World) (t : TypeId) (l : List Int) :
    Sl k (w.alloc (.cells (l.map (Value.int k)).toArray t)) (.slice (some ⟨w.heap.size, 0, none⟩) l.length l.length) l :=
  sl_new (k := k) (w := w) (l.map (Value.int k)).toArray t (0, 0) l l.length (Nat.le_refl _) (fun j z hj => by simp [hj])

end Go.Proofs.Ytgfmpndojjopnaa
