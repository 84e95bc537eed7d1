/- The conversions between bytes, texts and runes; Decode, Encode, Same; known() is true. known() is true; the document's own Width and Sum. -/
import Derived.Test.YtpcbbhfbldchlaaW3
import Derived.Test.YtpcbbhfbldchlaaE1
import Derived.Laws.IdiomStrings
import Derived.Deep.QuietTactic
import Derived.BigQuiet
set_option linter.unusedVariables false
set_option linter.unusedSimpArgs false
namespace Go.Proofs.Ytpcbbhfbldchlaa
open Go.RowKit
theorem below_drewN {B : Nat} {a w : World} (h : Below B a w) : ∀ q, Below B a (w.drewN q)
  | 0 => h
  | q + 1 => (below_drewN h q).drew
/-- A slice of bytes that reads as b. -/
def By (w : World) (v : Value) (b : List UInt8) : Prop := Sl .u8 w v (b.map fun x => (x.toNat : Int))
/-- 'string(b)'. -/
theorem str_of_bytes {w : World} {v : Value} {b : List UInt8} (h : By w v b) : (convert 43 9 v).run Try.prog w = .ok (.string ⟨b.toArray⟩) w := by
  obtain ⟨a, cap, rfl, hc, hr⟩ := h
  simp only [List.length_map]
  cases a with
  | none =>
    have hb : b = [] := by
      cases b with
      | nil => rfl
      | cons x b => obtain ⟨g, off, h0, _⟩ := hr 0 _ rfl; cases h0
    subst hb
    rw [run_convert_bytes_string w 43 9 5 none _ cap Try.underlying43 Try.underlying5 Try.underlying9]
    rfl
  | some p =>
    refine run_convert_bytes_back w 43 9 5 p cap b Try.underlying43 Try.underlying5 Try.underlying9 fun j hj => ?_
    obtain ⟨g, off, h0, h1⟩ := hr j (b[j].toNat : Int) (by simp [hj])
    cases h0
    rw [Addr.add_lit]
    exact h1
/-- 'string(l)'. -/
theorem str_of_runes {w : World} {v : Value} {l : List Int} (h : Sl .i32 w v l) : (convert 58 9 v).run Try.prog w = .ok (.string ⟨(enc l).toArray⟩) w := by
  obtain ⟨a, cap, rfl, hc, hr⟩ := h
  cases a with
  | none =>
    have hb : l = [] := by
      cases l with
      | nil => rfl
      | cons x b => obtain ⟨g, off, h0, _⟩ := hr 0 _ rfl; cases h0
    subst hb
    rw [run_convert_runes_nil w 58 9 21 _ cap Try.underlying58 Try.underlying21 Try.underlying9]
    rfl
  | some p =>
    rw [run_convert_runes w 58 9 21 p l.length cap l (Nat.le_refl _) Try.underlying58 Try.underlying21 Try.underlying9 (fun j hj => by
      obtain ⟨g, off, h0, h1⟩ := hr j l[j] (by simp [hj])
      cases h0
      rw [Addr.add_lit]
      simpa [List.getD, hj] using h1), List.take_length, runesBytes_enc]
/-- A new row of numbers reads as what it was made of. -/
theorem sl_new {k : IntKind} {w : World} (C : Array Value) (t : TypeId) (fr : Nat × Nat) (l : List Int) (cap : Nat) (hc : l.length ≤ cap) (h : ∀ (j : Nat) (z : Int), l[j]? = some z → C[j]? = some (.int k z)) :
    Sl k (w.alloc (.cells C t fr)) (.slice (some ⟨w.heap.size, 0, none⟩) l.length cap) l := by
  refine ⟨_, _, rfl, hc, fun j z hj => ⟨_, _, rfl, ?_⟩⟩
  rw [Nat.zero_add, World.cell?_alloc_mark]
  exact h j z hj
/-- '[]rune(s)'. -/
theorem runes_of_str (w : World) (b : List UInt8) (hb : b.length ≤ 100000) :
    ∃ u w', (convert 9 58 (.string ⟨b.toArray⟩)).run Try.prog w = .ok u w' ∧ Sl .i32 w' u (dec b) ∧ Below w.heap.size w w' := by
  have hz : (⟨b.toArray⟩ : ByteArray).size = b.length := by simp [Go.Lib.size_eq]
  have hsz : (Conv.runesFrom ⟨b.toArray⟩ (⟨b.toArray⟩ : ByteArray).size 0 #[]) = ((dec b).map (Value.int .i32)).toArray := by rw [hz]; exact runesFrom_all b
  have hl := dec_le b
  have hr := run_runes_of_string (P := Try.prog) w 9 58 21 ⟨b.toArray⟩ Try.underlying9 Try.underlying58 Try.underlying21 (by rw [hsz]; simp; omega)
  rw [hsz] at hr
  refine ⟨_, _, hr, ?_, ((Below.refl _ w).drew).alloc (Nat.le_refl _) _⟩
  have e : ((dec b).map (Value.int .i32)).toArray.size = (dec b).length := by simp
  rw [e]
  have := sl_new (k := .i32) (w := w.drew) (((dec b).map (Value.int .i32)).toArray ++ Array.replicate (grownCap w (dec b).length 0 21 - (dec b).length) (.int .i32 0)) 21 (0, 0) (dec b) (grownCap w (dec b).length 0 21) (grownCap_ge _ _ _ _) (fun j z hj => by
    have hlt := (List.getElem?_eq_some_iff.1 hj).1
    rw [Array.getElem?_append_left (by simpa using hlt)]
    simp [hj])
  exact this
/-- '[]byte(s)'. -/
theorem bytes_of_str (w : World) (b : List UInt8) :
    ∃ u w', (convert 9 43 (.string ⟨b.toArray⟩)).run Try.prog w = .ok u w' ∧ By w' u b ∧ Below w.heap.size w w' := by
  have hz : (⟨b.toArray⟩ : ByteArray).size = b.length := by simp [Go.Lib.size_eq]
  have hr := run_bytes_of_string (P := Try.prog) w 9 43 5 ⟨b.toArray⟩ Try.underlying9 Try.underlying43 Try.underlying5
  refine ⟨_, _, hr, ?_, ((Below.refl _ w).drew).alloc (Nat.le_refl _) _⟩
  rw [hz]
  have hl : (b.map fun x => (x.toNat : Int)).length = b.length := by simp
  have := sl_new (k := .u8) (w := w.drew) (bytesRow ⟨b.toArray⟩ (grownCap w b.length 0 5)) 5 ((bytesRow ⟨b.toArray⟩ (grownCap w b.length 0 5)).size, (bytesRow ⟨b.toArray⟩ (grownCap w b.length 0 5)).size + 1) (b.map fun x => (x.toNat : Int)) (grownCap w b.length 0 5) (by rw [hl]; exact grownCap_ge _ _ _ _) (fun j z hj => by
    have hlt := (List.getElem?_eq_some_iff.1 hj).1
    rw [hl] at hlt
    rw [bytesRow_at _ _ j (by simpa using hlt)]
    simp only [List.getElem?_map, List.getElem?_eq_getElem hlt, Option.map_some, Option.some.injEq] at hj
    rw [← hj]
    simp)
  rw [hl] at this
  exact this
set_option maxRecDepth 100000 in
set_option maxHeartbeats 400000 in
theorem decode_any (b : List UInt8) (v : Value) (w : World) (hv : By w v b) (hb : b.length ≤ 100000) :
    Calls Try.prog 25 #[v] w fun e w' => ∃ u, e = .returned u ∧ Sl .i32 w' u (dec b) ∧ Below w.heap.size w w' := by
  have h1 := str_of_bytes hv
  obtain ⟨u, w', h2, h3, h4⟩ := runes_of_str w b hb
  clear hv
  go_enter Try.func25, Try.ntmps25
  go_wp2_with fail
  go_ret
  exact ⟨_, rfl, h3, h4⟩
end Go.Proofs.Ytpcbbhfbldchlaa
namespace Go.Proofs.Ytpcbbhfbldchlaa
open Go.RowKit
/-- A literal's row. -/
theorem sl_lit {k : IntKind} (w : World) (t : TypeId) (l : List Int) :
    Sl k (w.alloc (.cells (l.map (Value.int k)).toArray t)) (.slice (some ⟨w.heap.size, 0, none⟩) l.length l.length) l :=
  sl_new (k := k) (w := w) (l.map (Value.int k)).toArray t (0, 0) l l.length (Nat.le_refl _) (fun j z hj => by simp [hj])
end Go.Proofs.Ytpcbbhfbldchlaa
