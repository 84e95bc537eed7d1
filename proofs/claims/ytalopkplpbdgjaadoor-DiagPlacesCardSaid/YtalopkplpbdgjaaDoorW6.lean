/- Contracts of slices.Clone at errors and of inside at a joined error of at most 1000 errors; old memory is as it was. -/
import Derived.Test.YtalopkplpbdgjaaDoorW5
import Derived.RangeFuncBox
namespace Go.Proofs.YtalopkplpbdgjaaDoor
open Go.RowKit Go.Extern.Stop Go.Stop Go.Extern

theorem Tryd.info34 : (Tryd.prog.info? 34).map (fun i => (i.zero, i.size, i.bytes)) = some (some .nilIface, 1, 16) := by kernel_rfl

def errVals (es : List (TypeId × Value)) : List Value := es.map fun p => .iface p.1 p.2
/-- The slice value v holds the errors es, from cell 0 of a block at or beyond base. -/
def HoldsErrs (w : World) (base : Nat) (v : Value) (es : List (TypeId × Value)) : Prop :=
  ∃ g cap, v = .slice (some ⟨g, 0, none⟩) es.length cap ∧ base ≤ g ∧ (∃ cur, w.heap[g]? = some (.cells cur 34 (0, 0))) ∧ ∀ j p, es[j]? = some p → w.cell? ⟨g, j, none⟩ = some (.iface p.1 p.2)

theorem HoldsErrs.of_owns {w : World} {base : Nat} {v : Value} {n : Nat} {es : List (TypeId × Value)} (hn : 0 < es.length) (h : w.ownsRow base 34 1 v n (errVals es)) : HoldsErrs w base v es := by
  have hl := h.1
  simp [errVals] at hl
  subst hl
  obtain ⟨k, hk⟩ : ∃ k, es.length = k + 1 := ⟨es.length - 1, by omega⟩
  have h' := h
  rw [hk] at h'
  obtain ⟨g, cap, rfl⟩ := ownsRow_succ h'
  rw [← hk] at h
  refine ⟨g, cap, by rw [hk], ?_, ?_, fun j p hj => ?_⟩
  · rcases h.2 with ⟨hh, _⟩ | ⟨g', c', cur, hh, hb, _⟩
    · cases hh
    · cases hh; exact hb
  · rcases h.2 with ⟨hh, _⟩ | ⟨g', c', cur, hh, hb, hg, _⟩
    · cases hh
    · cases hh; exact ⟨cur, hg⟩
  · have hjl : j < es.length := by
      rcases Nat.lt_or_ge j es.length with h1 | h1
      · exact h1
      · rw [List.getElem?_eq_none h1] at hj; cases hj
    have := World.ownsRow.cellAt h j (by omega)
    rw [this]
    simp [errVals, hj]

set_option maxRecDepth 100000 in
set_option maxHeartbeats 1000000 in
theorem clone_err (s : Nat) (cap : Nat) (es : List (TypeId × Value)) (w : World) (hn : 0 < es.length) (hm : es.length ≤ 1000)
    (hc : ∀ j p, es[j]? = some p → w.cell? ⟨s, j, none⟩ = some (.iface p.1 p.2)) :
    Calls Tryd.prog 88 #[.slice (some ⟨s, 0, none⟩) es.length cap] w fun e w' => ∃ v, e = .returned v ∧ HoldsErrs w' w.heap.size v es ∧ Below w.heap.size w w' := by
  obtain ⟨i0, hi, hz0, hz1, hz2⟩ := info_parts Tryd.info34
  have hs : s < w.heap.size := by
    obtain ⟨p, hp⟩ : ∃ p, es[0]? = some p := ⟨es[0], by simp⟩
    exact World.block_lt_of_cell? w _ (hc 0 p hp)
  have hown0 : (w.alloc (.cells #[] 34)).ownsRow w.heap.size 34 1 (.slice (some ⟨w.heap.size, 0, none⟩) 0 0) 0 [] := World.ownsRow_lit (e := 34) (size := 1) w #[] 0 (Nat.le_refl w.heap.size) (Nat.zero_le _) (by simp)
  have c1 : (errVals es).length = es.length * 1 := by simp [errVals]
  have c2 : ∀ (j : Nat) (u : Value), (errVals es)[j]? = some u → (w.alloc (.cells #[] 34)).cell? ((⟨s, 0, none⟩ : Addr).add j) = some u := by
    intro j u hj
    obtain ⟨t, x, hp, rfl⟩ : ∃ t x, es[j]? = some (t, x) ∧ .iface t x = u := by
      simpa [errVals] using hj
    rw [Addr.add_lit, Nat.zero_add, World.cell?_alloc_lt _ _ _ hs]
    exact hc j (t, x) hp
  have c3 : ∀ u ∈ errVals es, u.oneCell' = true := by intro u hu; obtain ⟨p, _, rfl⟩ := List.mem_map.1 hu; rfl
  have c4 : 0 + es.length ≤ maxLen := by unfold maxLen; omega
  have C1 := Lib.hid c1
  have C2 := Lib.hid c2
  have C3 := Lib.hid c3
  have C4 := Lib.hid c4
  clear hc c1 c2 c3 c4
  have hq := fun (w : World) => Lib.run_eql_slice_nil (P := Tryd.prog) w 24 34 (some ⟨s, 0, none⟩) es.length cap 0 0 Tryd.underlying24
  go_enter Tryd.func88, Tryd.ntmps88
  go_wp2_with (at_builtin; refine wpList_append_own _ rfl _ _ 24 rfl w.heap.size 34 i0 .nilIface 1 16 Tryd.underlying24 hi hz0 hz1 hz2 rfl (by decide) _ 0 [] rfl hown0 ⟨s, 0, none⟩ es.length cap (errVals es) rfl C1.out C2.out C3.out C4.out (by omega) (by simp) ?_; intro v' w1 hown' hgrow _)
  go_ret
  simp only [Nat.zero_add, List.nil_append] at hown'
  exact ⟨v', rfl, HoldsErrs.of_owns hn hown', (((Below.refl _ w).alloc (Nat.le_refl _) _).grown hgrow (by simp) (fun k e => by cases e; simp))⟩

theorem HoldsErrs.mono {w : World} {B B' : Nat} {v : Value} {es : List (TypeId × Value)} (h : HoldsErrs w B v es) (hB : B' ≤ B) : HoldsErrs w B' v es := by
  obtain ⟨g, cap, hv, hb, hk, hc⟩ := h
  exact ⟨g, cap, hv, Nat.le_trans hB hb, hk, hc⟩

set_option maxHeartbeats 1000000 in
theorem unwrap_joined (b s cap : Nat) (es : List (TypeId × Value)) (w : World) (hn : 0 < es.length) (hm : es.length ≤ 1000) (h : w.cell? ⟨b, 0, none⟩ = some (.slice (some ⟨s, 0, none⟩) es.length cap))
    (hc : ∀ j p, es[j]? = some p → w.cell? ⟨s, j, none⟩ = some (.iface p.1 p.2)) :
    Calls Tryd.prog 87 #[.pointer (some ⟨b, 0, none⟩)] w fun e w' => ∃ v, e = .returned v ∧ HoldsErrs w' w.heap.size v es ∧ Below w.heap.size w w' := by
  have hK := Lib.hid (clone_err s cap es w hn hm hc)
  clear hc
  go_enter Tryd.func87, Tryd.ntmps87
  go_wp2_with (go_at_call 88; refine hK.out.mono ?_; clear hK; rintro e w1 ⟨v, rfl, hv, hb⟩)
  go_ret
  exact ⟨v, rfl, hv, hb⟩

set_option maxHeartbeats 2000000 in
theorem inside_joined (b s cap : Nat) (es : List (TypeId × Value)) (w : World) (hn : 0 < es.length) (hm : es.length ≤ 1000) (h : w.cell? ⟨b, 0, none⟩ = some (.slice (some ⟨s, 0, none⟩) es.length cap))
    (hc : ∀ j p, es[j]? = some p → w.cell? ⟨s, j, none⟩ = some (.iface p.1 p.2)) :
    Calls Tryd.prog 46 #[.iface 78 (.pointer (some ⟨b, 0, none⟩))] w fun e w' => ∃ v, e = .returned (.tuple #[v, .bool true]) ∧ HoldsErrs w' w.heap.size v es ∧ Below w.heap.size w w' := by
  have hmf : ∀ (fn : Fn) (first cap : Array Value) (w : World), (Instr.makeFunc fn first cap).run Tryd.prog w = .ok (.func fn first cap) w := fun _ _ _ _ => rfl
  have t1 := joined_no_wrapper
  have t1' := joined_bundle
  have t2 := joined_nil_ahead
  have t3 := joined_method
  have hlt := World.block_lt_of_cell? w _ h
  simp only at hlt
  have hs : s < w.heap.size := by
    obtain ⟨p, hp⟩ : ∃ p, es[0]? = some p := ⟨es[0], by simp⟩
    exact World.block_lt_of_cell? w _ (hc 0 p hp)
  have hU := Lib.hid (unwrap_joined b s cap es ((w.alloc (.cells #[.slice none 0 0] 24)).alloc (.cells #[.bool false] 4)) hn hm (by rw [World.cell?_alloc_lt _ _ ⟨b, 0, none⟩ (by simp; omega), World.cell?_alloc_lt _ _ ⟨b, 0, none⟩ hlt]; exact h)
    (fun j p hp => by rw [World.cell?_alloc_lt _ _ ⟨s, j, none⟩ (by simp; omega), World.cell?_alloc_lt _ _ ⟨s, j, none⟩ hs]; exact hc j p hp))
  clear hc
  go_enter_defers Tryd.func46, Tryd.ntmps46
  go_wp2_with (go_at_call 87; refine hU.out.mono ?_; clear hU; rintro e w1 ⟨v, rfl, hv, hb⟩; obtain ⟨hcc, hff⟩ := bcell hb; have hz := hb.size; simp at hz; have hn1 : w.heap.size + 1 < w1.heap.size := (by omega); have hn0 : w.heap.size < w1.heap.size := (by omega); obtain ⟨g, cap', rfl, hg, hcur, hcells⟩ := hv; have HK := Lib.hid hcur; clear hcur; have HC := Lib.hid hcells; clear hcells)
  have q0 : w1.cell? ⟨w.heap.size, 0, none⟩ = some (.slice none 0 0) := by rw [hcc _ _ (by simp; omega), World.cell?_alloc_lt _ _ _ (by simp)]; simp
  have q1 : w1.cell? ⟨w.heap.size + 1, 0, none⟩ = some (.bool false) := by rw [hcc _ _ (by simp)]; simp
  clear hcc hff
  refine leaves_cons (f := 52) (args := #[.pointer (some ⟨w.heap.size, 0, none⟩), .pointer (some ⟨w.heap.size + 1, 0, none⟩)]) (by simp) (by simp [go_sem]) ?_
  refine (inside1_idle _ _ _).mono ?_
  rintro e u' w'' ⟨rfl, rfl, rfl⟩
  have hB : Below w.heap.size w w1 := (((Below.refl _ w).alloc (Nat.le_refl _) _).alloc (by simp) _).trans (hb.mono (by simp; omega))
  have hg' : w.heap.size + 1 + 1 ≤ g := by simpa using hg
  simp [Leaves, settle, results, Tryd.results46, go_sem, World.cell?_setCell_same', q0, q1]
  refine ⟨⟨g, cap', rfl, by omega, by rw [Below.heap_setCell _ _ _ _ (by dsimp only; omega), Below.heap_setCell _ _ _ _ (by dsimp only; omega)]; exact HK.out, fun j p hp => ?_⟩, (hB.setCell (by simp) _).setCell (by simp) _⟩
  rw [World.cell?_setCell_far _ _ _ _ (by dsimp only; omega), World.cell?_setCell_far _ _ _ _ (by dsimp only; omega)]
  exact HC.out j p hp
end Go.Proofs.YtalopkplpbdgjaaDoor
