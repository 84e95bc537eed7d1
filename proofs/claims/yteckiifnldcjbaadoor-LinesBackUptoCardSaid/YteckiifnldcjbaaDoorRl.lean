/- A slice of texts that came in: opened; how long what is read may be. -/
import Derived.Test.YteckiifnldcjbaaDoorRk
import Derived.Test.YteckiifnldcjbaaDoorK4
import Derived.Carry
import Derived.ChangeMaps5
import Derived.Deep.Slices
import Derived.ChangeSame
namespace Go.Proofs.YteckiifnldcjbaaDoor
open Go.ChangeShapes Go.WideShapes Go.ChangeAt Go.RowKit Go.Deep

variable {H : Type} {enc : TypeId × Value → H} {W : World}
theorem weightsAll_mem {P : Program} {e : TypeId} : ∀ (l : List (DataW H)) (d : DataW H), d ∈ l → ∀ q ∈ d.weights P e, q ∈ DataW.weightsAll P e l
  | [], d, h, _, _ => by simp at h
  | x :: l, d, h, q, hq => by
    unfold DataW.weightsAll
    rcases List.mem_cons.1 h with rfl | h
    · exact List.mem_append_left _ hq
    · exact List.mem_append_right _ (weightsAll_mem l d h q hq)
theorem cellsS : Tryd.prog.cellsOf 9 = 1 := by kernel_rfl
theorem bytesS : Tryd.prog.bytesOf 9 = 16 := by kernel_rfl
def txtOf : Value → List UInt8
  | .string s => s.data.toList
  | _ => []
set_option maxRecDepth 100000 in
theorem strs_open {r : Reach} {b0 : Nat} {v : Value} {d : DataW H} {p : List MemPlace} (hval : Value.okWide Tryd.prog W r b0 23 v) (h : DataW.Trod enc Tryd.prog W 0 (fun _ => true) true 23 v d p)
    (hw : ∀ q ∈ DataW.weights Tryd.prog 23 d, q ≤ reachBytes) :
    ∃ l : List (List UInt8), Ss W v l ∧ (∀ x ∈ l, x.length ≤ 1000000000000000) ∧ l.length ≤ 1000000000000000 := by
  obtain ⟨a, len, cap, rfl⟩ := okWide_slice Tryd.underlying23 hval
  obtain ⟨fu, hf⟩ := h
  rcases open_slice1 Tryd.underlying23 cellsS hf with ⟨hcs, hx⟩ | ⟨a', len', cap', m, n, V, D, Pl, hcs, hb, hl, hm, hmm, hx, hi⟩
  · simp [Value.cells] at hcs
    obtain ⟨rfl, rfl, rfl⟩ := hcs
    exact ⟨[], Fs.nil W, fun g hg => by simp at hg, by simp⟩
  · simp [Value.cells] at hcs
    obtain ⟨rfl, rfl, rfl⟩ := hcs
    have hd : d = .slice ((List.range len).map D) ((List.range (m - len)).map fun j => D (len + j)) := congrArg Prod.fst hx
    subst hd
    have hml : len ≤ m := by rw [hmm]; split <;> omega
    have key : ∀ i, i < len → W.cell? (a'.add i) = some (.string ⟨(txtOf (V i)).toArray⟩) ∧ (txtOf (V i)).length ≤ 1000000000000000 := fun i hil => by
      obtain ⟨hc, ht⟩ := hi i (by omega)
      obtain ⟨s, e1, e2, e3⟩ := DataW.trod_string Tryd.underlying9 ht
      have e1' : V i = .string s := by simpa using e1
      have ed : D i = .lit (.string s.data.toList) := congrArg Prod.fst e2
      refine ⟨?_, ?_⟩
      · rw [hc, e1']; simp [txtOf]
      · have hq := hw s.data.toList.length (by
          show _ ∈ DataW.weights _ _ _
          simp only [DataW.weights, Tryd.underlying23]
          refine List.mem_cons_of_mem _ (List.mem_append_left _ (weightsAll_mem _ (D i) (List.mem_map.2 ⟨i, List.mem_range.2 hil, rfl⟩) _ ?_))
          rw [ed]
          simp [DataW.weights])
        unfold reachBytes at hq
        rw [e1']
        show s.data.toList.length ≤ _
        omega
    refine ⟨(List.range len).map fun i => txtOf (V i), ⟨some a', cap, by simp, by simp; exact hl, fun j x hj => ?_⟩, fun x hx => ?_, ?_⟩
    · obtain ⟨xb, xo, spot⟩ := a'
      rw [List.getElem?_map] at hj
      obtain ⟨i, hi', rfl⟩ := Option.map_eq_some_iff.1 hj
      obtain ⟨hjl, hji⟩ := List.getElem?_eq_some_iff.1 hi'
      simp only [List.getElem_range] at hji
      simp only [List.length_range] at hjl
      subst hji
      have h0 := (key j hjl).1
      have hspot : spot = none := by simpa [Addr.add] using World.cell?_spot (key 0 (by omega)).1
      subst hspot
      refine ⟨xb, xo, rfl, fun k c hc => ?_⟩
      rw [Addr.add_lit] at h0
      match k, hc with
      | 0, hc =>
        have : c = .string ⟨(txtOf (V j)).toArray⟩ := by simpa [scell] using hc.symm
        subst this
        simpa using h0
      | k + 1, hc => simp [scell] at hc
    · obtain ⟨i, hi', rfl⟩ := List.mem_map.1 hx
      exact (key i (List.mem_range.1 hi')).2
    · have hq := hw ((((List.range len).map D).length + ((List.range (m - len)).map fun j => D (len + j)).length) * Tryd.prog.bytesOf 9) (by simp [DataW.weights, Tryd.underlying23])
      rw [bytesS] at hq
      simp only [List.length_map, List.length_range, reachBytes] at hq ⊢
      omega
end Go.Proofs.YteckiifnldcjbaaDoor
