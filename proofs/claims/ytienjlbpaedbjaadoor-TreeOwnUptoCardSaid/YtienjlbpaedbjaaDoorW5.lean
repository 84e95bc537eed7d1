/- The conversions between bytes, texts and runes; Decode, Encode, Same; known() is true. known() is true; the document's own Width and Sum. -/
import Derived.Test.YtienjlbpaedbjaaDoorW3
import Derived.Test.YtienjlbpaedbjaaDoorM2
import Derived.Laws.IdiomStrings
import Derived.Deep.QuietTactic
import Derived.BigQuiet
namespace Go.Proofs.YtienjlbpaedbjaaDoor
open Go.RowKit

theorem below_drewN {B : Nat} {a w : World} (h : Below B a w) : ∀ q, Below B a (w.drewN q)
  | 0 => h
  | q + 1 => (below_drewN h q).drew

/-- A slice of bytes that reads as b. -/
def By (w : World) (v : Value) (b : List UInt8) : Prop := Sl .u8 w v (b.map fun x => (x.toNat : Int))
theorem By.below {w w' : World} {v : Value} {b : List UInt8} (h : By w v b) (hb : Below w.heap.size w w') : By w' v b := Sl.below h hb

/-- 'string(b)'. -/
theorem str_of_bytes {w : World} {v : Value} {b : List UInt8} (h : By w v b) : (convert 99 9 v).run Tryd.prog w = .ok (.string ⟨b.toArray⟩) w := by
  obtain ⟨a, cap, rfl, hc, hr⟩ := h
  simp only [List.length_map]
  cases a with
  | none =>
    have hb : b = [] := by
      cases b with
      | nil => rfl
      | cons x b => obtain ⟨g, off, h0, _⟩ := hr 0 _ rfl; cases h0
    subst hb
    rw [run_convert_bytes_string w 99 9 5 none _ cap Tryd.underlying99 Tryd.underlying5 Tryd.underlying9]
    rfl
  | some p =>
    refine run_convert_bytes_back w 99 9 5 p cap b Tryd.underlying99 Tryd.underlying5 Tryd.underlying9 fun j hj => ?_
    obtain ⟨g, off, h0, h1⟩ := hr j (b[j].toNat : Int) (by simp [hj])
    cases h0
    rw [Addr.add_lit]
    exact h1

/-- A new row of numbers reads as what it was made of. -/
theorem sl_new {k : IntKind} {w : World} (C : Array Value) (t : TypeId) (fr : Nat × Nat) (l : List Int) (cap : Nat) (hc : l.length ≤ cap) (h : ∀ (j : Nat) (z : Int), l[j]? = some z → C[j]? = some (.int k z)) :
    Sl k (w.alloc (.cells C t fr)) (.slice (some ⟨w.heap.size, 0, none⟩) l.length cap) l := by
  refine ⟨_, _, rfl, hc, fun j z hj => ⟨_, _, rfl, ?_⟩⟩
  rw [Nat.zero_add, World.cell?_alloc_mark]
  exact h j z hj

/-- '[]byte(s)'. -/
theorem bytes_of_str (w : World) (b : List UInt8) :
    ∃ u w', (convert 9 99 (.string ⟨b.toArray⟩)).run Tryd.prog w = .ok u w' ∧ By w' u b ∧ Below w.heap.size w w' := by
  have hz : (⟨b.toArray⟩ : ByteArray).size = b.length := by simp [Go.Lib.size_eq]
  have hr := run_bytes_of_string (P := Tryd.prog) w 9 99 5 ⟨b.toArray⟩ Tryd.underlying9 Tryd.underlying99 Tryd.underlying5
  refine ⟨_, _, hr, ?_, ((Below.refl _ w).drew).alloc (Nat.le_refl _) _⟩
  rw [hz]
  have hl : (b.map fun x => (x.toNat : Int)).length = b.length := by simp
  have := sl_new (k := .u8) (w := w.drew) (bytesRow ⟨b.toArray⟩ (grownCap w b.length 0 5)) 5 ((bytesRow ⟨b.toArray⟩ (grownCap w b.length 0 5)).size, (bytesRow ⟨b.toArray⟩ (grownCap w b.length 0 5)).size + 1) (b.map fun x => (x.toNat : Int)) (grownCap w b.length 0 5) (by rw [hl]; exact grownCap_ge _ _ _ _) (fun j z hj => by
    have hlt := (List.getElem?_eq_some_iff.1 hj).1
    rw [hl] at hlt
    rw [bytesRow_at _ _ j (by simpa using hlt)]
    simp only [List.getElem?_map, List.getElem?_eq_getElem hlt, Option.map_some, Option.some.injEq] at hj
    rw [← hj]
    simp)
  rw [hl] at this
  exact this

end Go.Proofs.YtienjlbpaedbjaaDoor
namespace Go.Proofs.YtienjlbpaedbjaaDoor
open Go.RowKit

/-- A literal's row. -/
theorem sl_lit {k : IntKind} (w : World) (t : TypeId) (l : List Int) :
    Sl k (w.alloc (.cells (l.map (Value.int k)).toArray t)) (.slice (some ⟨w.heap.size, 0, none⟩) l.length l.length) l :=
  sl_new (k := k) (w := w) (l.map (Value.int k)).toArray t (0, 0) l l.length (Nat.le_refl _) (fun j z hj => by simp [hj])

end Go.Proofs.YtienjlbpaedbjaaDoor
