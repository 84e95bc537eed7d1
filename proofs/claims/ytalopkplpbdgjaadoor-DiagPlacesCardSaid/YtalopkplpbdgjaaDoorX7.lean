/- first, Kind, Place and All at the nil error: nothing is told; old memory is as it was. -/
import Derived.Test.YtalopkplpbdgjaaDoorX6
namespace Go.Proofs.YtalopkplpbdgjaaDoor
open Go.RowKit Go.Shelf Go.Extern.Stop Go.Stop Go.Extern

attribute [local go_sem] Oper.semAt_some

set_option maxRecDepth 100000 in
set_option maxHeartbeats 8000000 in
theorem all_nil_in (w : World) :
    CallsIn Fence.wide 9 Tryd.prog 14 #[.nilIface] w fun e W' => ∃ u, e = .returned u ∧ W'.ownsRow w.heap.size 29 3 u 0 [] ∧ Below w.heap.size w W' := by
  refine callsIn_of_wp_marks Tryd.func14 rfl trivial ?_ rfl
  simp only [Tryd.ntmps14, List.size_toArray, List.length_cons, List.length_nil, Nat.reduceAdd, Nat.reduceSub, Array.replicate_succ, Array.replicate_zero, List.push_toArray, List.append_toArray, List.nil_append, List.cons_append]
  gi_wp2_with (refine ⟨trivial, ?_⟩; gi_at_call 29; refine (callsIn_wide.2 (found_nil _)).mono ?_; rintro e w' ⟨rfl, rfl⟩)
  have hB0 : Below w.heap.size w ((w.alloc (.cells #[.slice none 0 0] 30)).alloc (.cells #[.nilIface] 34)) := ((Below.refl _ w).alloc (Nat.le_refl _) _).alloc (by simp) _
  have hR0 : Boxed ((w.alloc (.cells #[.slice none 0 0] 30)).alloc (.cells #[.nilIface] 34)) w.heap.size 30 (.slice none 0 0) := (Boxed.new w 30 _).alloc _
  have hE0 : ((w.alloc (.cells #[.slice none 0 0] 30)).alloc (.cells #[.nilIface] 34)).cell? ⟨w.heap.size + 1, 0, none⟩ = some (.nilIface) := by simp
  have hsz : ((w.alloc (.cells #[.slice none 0 0] 30)).alloc (.cells #[.nilIface] 34)).heap.size = w.heap.size + 2 := by simp
  obtain ⟨W0, hW0⟩ : ∃ W0, (w.alloc (.cells #[.slice none 0 0] 30)).alloc (.cells #[.nilIface] 34) = W0 := ⟨_, rfl⟩
  rw [hW0] at hB0 hR0 hE0 hsz ⊢
  clear hW0
  have hseq := found_nil_stops w W0 8 (w.heap.size + 1) hE0
  refine wpIn_rangeFunc_ownH rfl (by decide) (gf := 36) (lb := #[.pointer (some ⟨w.heap.size + 1, 0, none⟩)]) rfl trivial (enters_of Tryd.func36 (by kernel_rfl) rfl)
    hseq (fun h k => h.trans k) (KT.put (by omega)) (Below.refl _ _) (fun _ => rfl)
    (fun pre W => (∃ u, Boxed W w.heap.size 30 u ∧ W.ownsRow w.heap.size 29 3 u (pre.map dOf).length (dcells (pre.map dOf)) ∧ True) ∧ Below w.heap.size w W)
    (fun _ _ _ => False)
    (OwnFrom.and (Own.from (holdsRow_own w.heap.size w.heap.size 30 29 3 (fun pre : List (ItemAt w) => (pre.map dOf).length) (fun pre => dcells (pre.map dOf)) (fun _ _ => True)) _) (ownFrom_below (Nat.le_refl _) (by omega)))
    (fun _ _ _ _ _ hs _ _ => hs)
    ⟨⟨_, hR0, World.ownsRow_nil _ _ _ _, trivial⟩, hB0⟩
    (fun x a' W => ∃ Bx, w.heap.size ≤ Bx ∧ W.heap[Bx]? = some (.cells #[.int .i64 x.1.s.a1, .int .i64 x.1.s.l1, .int .i64 x.1.s.h1, .int .i64 x.1.s.a2, .int .i64 x.1.s.l2, .int .i64 x.1.s.h2] 66 (0, 0)) ∧ a' = { tmps := #[.nilIface, undef, .slice none 0 0, .pointer (some ⟨w.heap.size, 0, none⟩), .pointer (some ⟨x.1.b, 0, none⟩), .pointer (some ⟨Bx, 0, none⟩), .nilIface, .func (.func 36) #[] #[.pointer (some ⟨w.heap.size + 1, 0, none⟩)], .pointer (some ⟨x.1.b, 0, none⟩), .agg #[.int .i64 x.1.s.a1, .int .i64 x.1.s.l1, .int .i64 x.1.s.h1, .int .i64 x.1.s.a2, .int .i64 x.1.s.l2, .int .i64 x.1.s.h2], undef, undef, undef, undef, undef, undef, undef, undef, undef, undef], defers := [] })
    (fun x a' _ X Y row hs hg hr => by
      obtain ⟨Bx, h1, h2, h3⟩ := hs
      refine ⟨Bx, h1, (hg.block Bx (Array.getElem?_eq_some_iff.1 h2).1 ?_).trans h2, h3⟩
      intro e
      obtain ⟨_, o, ho, hc⟩ := hr Bx e.symm
      rw [h2] at ho; cases ho; cases hc)
    ?assign ?body ?done ?stop
  case assign =>
    rintro l pre x W K ⟨⟨u, hu1, hu2, _⟩, h2⟩ hK
    simp only [encs]
    gi_wp2
    exact hK _ _ ((KeepsOthers.alloc _ _).from _) (KT.of_below ((Below.refl _ W).alloc (Nat.le_refl _) _) h2.size) ⟨⟨u, hu1.alloc _, hu2.alloc _, trivial⟩, h2.alloc h2.size _⟩ ⟨W.heap.size, h2.size, heap_alloc_new W _, rfl⟩
  case body =>
    intro l pre x a' W _ _ _ _ hlt
    exact absurd hlt (Nat.not_lt_zero _)
  case done =>
    rintro D zs W hD h1 ⟨⟨u, hu1, hu2, _⟩, hB1⟩ hK
    have hcu := hu1.cell
    gi_wp2
    refine ⟨by simp, .inl ⟨_, _, rfl, run_takeDeferred hK, ?_⟩⟩
    rw [h1] at hu2
    simp only [dcells, List.map_nil, List.length_nil, List.flatten_nil] at hu2
    exact ⟨_, results_tmp rfl _ _ _, u, rfl, ownsRow_putObj hu2 _ hK rfl, hB1.trans (belowK_b (w := w) (Nat.le_refl _) W D _ _ (by omega) hK rfl rfl)⟩
  case stop =>
    rintro D cc pre W _ _ h _
    exact h.elim

set_option maxRecDepth 100000 in
set_option maxHeartbeats 4000000 in
theorem first_nil_in (w : World) :
    CallsIn Fence.wide 9 Tryd.prog 28 #[.nilIface] w fun e W' => e = .returned (.agg #[.int .i64 0, .int .i64 0, .int .i64 0]) ∧ Below w.heap.size w W' := by
  refine callsIn_of_wp_marks Tryd.func28 rfl trivial ?_ rfl
  simp only [Tryd.ntmps28, List.size_toArray, List.length_cons, List.length_nil, Nat.reduceAdd, Nat.reduceSub, Array.replicate_succ, Array.replicate_zero, List.push_toArray, List.append_toArray, List.nil_append, List.cons_append]
  gi_wp2_with (refine ⟨trivial, ?_⟩; gi_at_call 29; refine (callsIn_wide.2 (found_nil _)).mono ?_; rintro e w' ⟨rfl, rfl⟩)
  have hB0 : Below w.heap.size w ((w.alloc (.cells #[.int .i64 0, .int .i64 0, .int .i64 0] 29)).alloc (.cells #[.nilIface] 34)) := ((Below.refl _ w).alloc (Nat.le_refl _) _).alloc (by simp) _
  have hR0 : ((w.alloc (.cells #[.int .i64 0, .int .i64 0, .int .i64 0] 29)).alloc (.cells #[.nilIface] 34)).heap[w.heap.size]? = some (.cells #[.int .i64 0, .int .i64 0, .int .i64 0] 29 (0, 0)) := (Below.heap_alloc _ _ _ (by simp)).trans (heap_alloc_new w _)
  have hE0 : ((w.alloc (.cells #[.int .i64 0, .int .i64 0, .int .i64 0] 29)).alloc (.cells #[.nilIface] 34)).cell? ⟨w.heap.size + 1, 0, none⟩ = some (.nilIface) := by simp
  have hsz : ((w.alloc (.cells #[.int .i64 0, .int .i64 0, .int .i64 0] 29)).alloc (.cells #[.nilIface] 34)).heap.size = w.heap.size + 2 := by simp
  obtain ⟨W0, hW0⟩ : ∃ W0, (w.alloc (.cells #[.int .i64 0, .int .i64 0, .int .i64 0] 29)).alloc (.cells #[.nilIface] 34) = W0 := ⟨_, rfl⟩
  rw [hW0] at hB0 hR0 hE0 hsz ⊢
  clear hW0
  refine wpIn_rangeFunc_ownH rfl (by decide) (gf := 36) (lb := #[.pointer (some ⟨w.heap.size + 1, 0, none⟩)]) rfl trivial (enters_of Tryd.func36 (by kernel_rfl) rfl)
    (found_nil_stops W0 W0 8 (w.heap.size + 1) hE0) (fun h k => h.trans k) (KT.put (Nat.le_refl _)) (Below.refl _ _) (fun _ => rfl)
    (fun pre W => pre = [] ∧ Below W0.heap.size W0 W)
    (fun cc pre W => (cc = .ret ∧ ∃ x : ItemAt W0, pre = [x] ∧ W.cell? ⟨w.heap.size, 0, none⟩ = some (.int .i64 (dOf x).1) ∧ W.cell? ⟨w.heap.size, 1, none⟩ = some (.int .i64 (dOf x).2.1) ∧ W.cell? ⟨w.heap.size, 2, none⟩ = some (.int .i64 (dOf x).2.2)) ∧ Below w.heap.size w W)
    (OwnFrom.and (ownFrom_pure _ _) (ownFrom_below (Nat.le_refl _) (Nat.le_refl _)))
    (fun cc => OwnFrom.and (fun s X Y row hs hg hr => by
        obtain ⟨h1, x, h2, h3, h4, h5⟩ := hs
        exact ⟨h1, x, h2, cell_kept h3 hg (fun r e => (hr r e).2), cell_kept h4 hg (fun r e => (hr r e).2), cell_kept h5 hg (fun r e => (hr r e).2)⟩) (ownFrom_below (Nat.le_refl _) (by omega)))
    ⟨rfl, Below.refl _ _⟩
    (fun x a' W => ∃ Bx, W0.heap.size ≤ Bx ∧ W.heap[Bx]? = some (.cells #[.int .i64 x.1.s.a1, .int .i64 x.1.s.l1, .int .i64 x.1.s.h1, .int .i64 x.1.s.a2, .int .i64 x.1.s.l2, .int .i64 x.1.s.h2] 66 (0, 0)) ∧ a' = { tmps := #[.nilIface, undef, .pointer (some ⟨w.heap.size, 0, none⟩), .pointer (some ⟨x.1.b, 0, none⟩), .pointer (some ⟨Bx, 0, none⟩), .nilIface, .func (.func 36) #[] #[.pointer (some ⟨w.heap.size + 1, 0, none⟩)], .pointer (some ⟨x.1.b, 0, none⟩), .agg #[.int .i64 x.1.s.a1, .int .i64 x.1.s.l1, .int .i64 x.1.s.h1, .int .i64 x.1.s.a2, .int .i64 x.1.s.l2, .int .i64 x.1.s.h2], undef, undef, undef, undef, undef, undef, undef], defers := [] })
    (fun x a' _ X Y row hs hg hr => by
      obtain ⟨Bx, h1, h2, h3⟩ := hs
      refine ⟨Bx, h1, (hg.block Bx (Array.getElem?_eq_some_iff.1 h2).1 ?_).trans h2, h3⟩
      intro e
      obtain ⟨_, o, ho, hc⟩ := hr Bx e.symm
      rw [h2] at ho; cases ho; cases hc)
    ?assign ?body ?done ?stop
  case assign =>
    rintro l pre x W K ⟨h1, h2⟩ hK
    simp only [encs]
    gi_wp2
    exact hK _ _ ((KeepsOthers.alloc _ _).from _) (KT.of_below ((Below.refl _ W).alloc (Nat.le_refl _) _) h2.size) ⟨h1, h2.alloc h2.size _⟩ ⟨W.heap.size, h2.size, heap_alloc_new W _, rfl⟩
  case body =>
    intro l pre x a' W _ _ _ _ hlt
    exact absurd hlt (Nat.not_lt_zero _)
  case done =>
    rintro D zs W hD h1 ⟨rfl, hB1⟩ hK
    obtain ⟨q0, q1, q2, f0, f1, f2⟩ := three_below hR0 hB1
    gi_wp2
    have hRW : W.heap[w.heap.size]? = some (.cells #[.int .i64 0, .int .i64 0, .int .i64 0] 29 (0, 0)) := (hB1.block _ (by omega)).trans hR0
    have hRf := heap_setCell_at (heap_setCell_at (heap_setCell_at hRW 0 (.int .i64 0)) 1 (.int .i64 0)) 2 (.int .i64 0)
    have hBw : Below w.heap.size w W := hB0.trans (hB1.mono hB0.size)
    have hBf := ((hBw.setCell (p := ⟨w.heap.size, 0, none⟩) (by simp) (.int .i64 0)).setCell (p := ⟨w.heap.size, 1, none⟩) (by simp) (.int .i64 0)).setCell (p := ⟨w.heap.size, 2, none⟩) (by simp) (.int .i64 0)
    have hKf := (KeepsOthers.setCell _ ⟨w.heap.size, 2, none⟩ (.int .i64 0)).same D _ ((KeepsOthers.setCell _ ⟨w.heap.size, 1, none⟩ (.int .i64 0)).same D _ ((KeepsOthers.setCell W ⟨w.heap.size, 0, none⟩ (.int .i64 0)).same D _ hK rfl) rfl) rfl
    obtain ⟨Wf, hWf⟩ : ∃ Wf, ((W.setCell ⟨w.heap.size, 0, none⟩ (.int .i64 0)).setCell ⟨w.heap.size, 1, none⟩ (.int .i64 0)).setCell ⟨w.heap.size, 2, none⟩ (.int .i64 0) = Wf := ⟨_, rfl⟩
    rw [hWf] at hRf hBf hKf ⊢
    have hP : (Wf.putObj D (.deferred none)).heap[w.heap.size]? = some (.cells #[.int .i64 0, .int .i64 0, .int .i64 0] 29 (0, 0)) := by
      rw [World.putObj_heap_other (by omega), hRf]; rfl
    obtain ⟨p0, p1, p2, _, _, _⟩ := three_below hP (Below.refl _ _)
    refine ⟨by simp, .inl ⟨_, _, rfl, run_takeDeferred hKf, ?_⟩⟩
    refine ⟨.agg #[.int .i64 0, .int .i64 0, .int .i64 0], ?_, rfl, hBf.trans (belowK_b (w := w) (Nat.le_refl _) Wf D _ _ (by omega) hKf rfl rfl)⟩
    simp [results, Tryd.f28, go_sem, p0, p1, p2]
  case stop =>
    intro D cc pre W hD hp
    exact hp.elim

theorem all_nil (w : World) : Calls Tryd.prog 14 #[.nilIface] w fun e W' => ∃ u, e = .returned u ∧ W'.ownsRow w.heap.size 29 3 u 0 [] ∧ Below w.heap.size w W' := callsIn_wide.1 (all_nil_in w)
theorem first_nil (w : World) : Calls Tryd.prog 28 #[.nilIface] w fun e W' => e = .returned (.agg #[.int .i64 0, .int .i64 0, .int .i64 0]) ∧ Below w.heap.size w W' := callsIn_wide.1 (first_nil_in w)

set_option maxRecDepth 100000 in
set_option maxHeartbeats 1000000 in
theorem kind_nil (w : World) : Calls Tryd.prog 15 #[.nilIface] w fun e W' => e = .returned (.int .i64 0) ∧ Below w.heap.size w W' := by
  have hF := first_nil w
  have hf := field29_0
  go_enter Tryd.func15, Tryd.ntmps15
  go_wp2_with (go_at_call 28; refine hF.mono ?_; clear hF; rintro e w1 ⟨rfl, hb⟩)
  go_ret
  exact ⟨rfl, hb⟩

set_option maxRecDepth 100000 in
set_option maxHeartbeats 1000000 in
theorem place_nil (w : World) : Calls Tryd.prog 12 #[.nilIface] w fun e W' => e = .returned (.tuple #[.int .i64 0, .int .i64 0]) ∧ Below w.heap.size w W' := by
  have hF := first_nil w
  go_enter Tryd.func12, Tryd.ntmps12
  go_wp2_with (go_at_call 28; refine hF.mono ?_; clear hF; rintro e w1 ⟨rfl, hb⟩)
  go_quiet (fail)
  go_wp2
  go_ret2
  exact ⟨rfl, below_drewN (hb.alloc hb.size _) _⟩
end Go.Proofs.YtalopkplpbdgjaaDoor
