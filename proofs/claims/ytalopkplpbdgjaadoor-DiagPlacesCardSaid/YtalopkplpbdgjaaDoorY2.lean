/- The contract of Is: whether one of what an error tells is of that kind; old memory is as it was. -/
import Derived.Test.YtalopkplpbdgjaaDoorY1
namespace Go.Proofs.YtalopkplpbdgjaaDoor
open Go.RowKit Go.Shelf Go.Extern.Stop Go.Stop Go.Extern

attribute [local go_sem] Oper.semAt_some

theorem cell1_of {W : World} {b : Nat} {v : Value} {T : TypeId} (h : W.heap[b]? = some (.cells #[v] T (0, 0))) : W.cell? ⟨b, 0, none⟩ = some v ∧ W.frozen? ⟨b, 0, none⟩ = false := by
  simp [World.cell?, World.frozen?, h]

def hasK (kk : Int) (ds : List D) : Bool := ds.any fun d => kk == d.1

set_option maxRecDepth 100000 in
set_option maxHeartbeats 4000000 in
theorem is_in (w : World) (n : Nat) (hn : n ≤ 1000) (hE : ErrType w) (t : TypeId) (v : Value) (kk : Int) (ds : List D) (hv : Er w n (.iface t v) ds) :
    CallsIn Fence.wide 9 Tryd.prog 16 #[.iface t v, .int .i64 kk] w fun e W' => e = .returned (.bool (hasK kk ds)) ∧ Below w.heap.size w W' := by
  refine callsIn_of_wp_marks Tryd.func16 rfl trivial ?_ rfl
  simp only [Tryd.ntmps16, List.size_toArray, List.length_cons, List.length_nil, Nat.reduceAdd, Nat.reduceSub, Array.replicate_succ, Array.replicate_zero, List.push_toArray, List.append_toArray, List.nil_append, List.cons_append]
  gi_wp2_with (refine ⟨trivial, ?_⟩; gi_at_call 29; refine (callsIn_wide.2 (found_any t v _)).mono ?_; rintro e w' ⟨rfl, rfl⟩)
  have hB0 : Below w.heap.size w (((w.alloc (.cells #[.int .i64 kk] 3)).alloc (.cells #[.bool false] 4)).alloc (.cells #[.iface t v] 34)) := (((Below.refl _ w).alloc (Nat.le_refl _) _).alloc (by simp) _).alloc (by simp; omega) _
  have hK0 : (((w.alloc (.cells #[.int .i64 kk] 3)).alloc (.cells #[.bool false] 4)).alloc (.cells #[.iface t v] 34)).cell? ⟨w.heap.size, 0, none⟩ = some (.int .i64 kk) := by
    rw [World.cell?_alloc_lt _ _ ⟨w.heap.size, 0, none⟩ (by simp; omega), World.cell?_alloc_lt _ _ ⟨w.heap.size, 0, none⟩ (by simp)]; simp
  have hR0 : (((w.alloc (.cells #[.int .i64 kk] 3)).alloc (.cells #[.bool false] 4)).alloc (.cells #[.iface t v] 34)).heap[w.heap.size + 1]? = some (.cells #[.bool false] 4 (0, 0)) := by
    refine (Below.heap_alloc _ _ _ (by simp)).trans ?_
    simpa using heap_alloc_new (w.alloc (.cells #[.int .i64 kk] 3)) (.cells #[.bool false] 4)
  have hE0 : (((w.alloc (.cells #[.int .i64 kk] 3)).alloc (.cells #[.bool false] 4)).alloc (.cells #[.iface t v] 34)).cell? ⟨w.heap.size + 2, 0, none⟩ = some (.iface t v) := by
    have h : (((w.alloc (.cells #[.int .i64 kk] 3)).alloc (.cells #[.bool false] 4)).alloc (.cells #[.iface t v] 34)).heap[w.heap.size + 2]? = some (.cells #[.iface t v] 34 (0, 0)) := by simpa using heap_alloc_new ((w.alloc (.cells #[.int .i64 kk] 3)).alloc (.cells #[.bool false] 4)) (.cells #[.iface t v] 34)
    exact (cell1_of h).1
  have hsz : (((w.alloc (.cells #[.int .i64 kk] 3)).alloc (.cells #[.bool false] 4)).alloc (.cells #[.iface t v] 34)).heap.size = w.heap.size + 3 := by simp
  obtain ⟨W0, hW0⟩ : ∃ W0, (((w.alloc (.cells #[.int .i64 kk] 3)).alloc (.cells #[.bool false] 4)).alloc (.cells #[.iface t v] 34)) = W0 := ⟨_, rfl⟩
  rw [hW0] at hB0 hR0 hE0 hK0 hsz ⊢
  clear hW0
  refine wpIn_rangeFunc_ownH rfl (by decide) (gf := 36) (lb := #[.pointer (some ⟨w.heap.size + 2, 0, none⟩)]) rfl trivial (enters_of Tryd.func36 (by kernel_rfl) rfl)
    (found_stops W0 W0 8 n (Below.refl _ _) (errType_below hE hB0) (.iface t v) ds (hv.below hB0) hn (w.heap.size + 2) hE0) (fun h k => h.trans k) (KT.put (Nat.le_refl _)) (Below.refl _ _) (fun _ => rfl)
    (fun pre W => hasK kk (pre.map dOf) = false ∧ Below W0.heap.size W0 W)
    (fun cc pre W => (cc = .ret ∧ hasK kk (pre.map dOf) = true ∧ W.cell? ⟨w.heap.size + 1, 0, none⟩ = some (.bool true)) ∧ Below w.heap.size w W)
    (OwnFrom.and (ownFrom_pure _ _) (ownFrom_below (Nat.le_refl _) (Nat.le_refl _)))
    (fun cc => OwnFrom.and (fun s X Y row hs hg hr => by
        obtain ⟨h1, h2, h3⟩ := hs
        exact ⟨h1, h2, cell_kept h3 hg (fun r e => (hr r e).2)⟩) (ownFrom_below (Nat.le_refl _) (by omega)))
    ⟨rfl, Below.refl _ _⟩
    (fun x a' W => a' = { tmps := #[.iface t v, .int .i64 kk, undef, .pointer (some ⟨w.heap.size, 0, none⟩), .pointer (some ⟨w.heap.size + 1, 0, none⟩), .pointer (some ⟨x.1.b, 0, none⟩), .iface t v, .func (.func 36) #[] #[.pointer (some ⟨w.heap.size + 2, 0, none⟩)], .pointer (some ⟨x.1.b, 0, none⟩), .agg #[.int .i64 x.1.s.a1, .int .i64 x.1.s.l1, .int .i64 x.1.s.h1, .int .i64 x.1.s.a2, .int .i64 x.1.s.l2, .int .i64 x.1.s.h2], undef, undef, undef, undef, undef], defers := [] })
    (fun x a' _ X Y row hs hg hr => hs)
    ?assign ?body ?done ?stop
  case assign =>
    rintro l pre x W K ⟨h1, h2⟩ hK
    simp only [encs]
    gi_wp2
    exact hK _ _ (KeepsFrom.refl _ _) (KT.of_below (Below.refl _ W) h2.size) ⟨h1, h2⟩ rfl
  case body =>
    rintro l pre x a' W hl ⟨r, hr⟩ ⟨hN, hB1⟩ rfl hlt
    have hlb := World.block_lt_of_cell? W0 _ x.2.k
    simp only at hlb
    have o0 : W.cell? ⟨x.1.b, 0, none⟩ = some (.int .i64 x.1.d.1) := by rw [hB1.cell (p := ⟨x.1.b, 0, none⟩) hlb]; exact x.2.k
    have hkk : W.cell? ⟨w.heap.size, 0, none⟩ = some (.int .i64 kk) := by rw [hB1.cell (p := ⟨w.heap.size, 0, none⟩) (by simp; omega)]; exact hK0
    have hRW : W.heap[w.heap.size + 1]? = some (.cells #[.bool false] 4 (0, 0)) := (hB1.block _ (by omega)).trans hR0
    have hWs := hB1.size
    have q0 : W.cell? ⟨w.heap.size + 1, 0, none⟩ = some (.bool false) := by simp [World.cell?, hRW]
    have f0 : W.frozen? ⟨w.heap.size + 1, 0, none⟩ = false := by simp [World.frozen?, hRW]
    have hI := is_one x.1.b x.1.d.1 kk W o0
    have hpre : ∀ b : Bool, (kk == x.1.d.1) = b → hasK kk ((pre ++ [x]).map dOf) = b := by
      intro b hb
      have hx : (dOf x).1 = x.1.d.1 := rfl
      simp only [hasK] at hN ⊢
      simp [List.any_append, hx] at hN ⊢
      subst hb
      by_cases hq : kk = x.1.d.1
      · simp [hq]
      · simp [hq]; exact hN
    have HP := Lib.hid hpre
    have HR := Lib.hid hRW
    clear hRW hR0 hE0 hpre hN
    rcases hb : (kk == x.1.d.1) with _ | _
    · rw [hb] at hI
      have hp := Lib.hid (HP.out false hb)
      clear hb HP
      gi_wp2_with (refine ⟨trivial, ?_⟩; gi_at_call 31; refine (CallsIn.inRound l (callsIn_wide.2 hI)).mono ?_; clear hI; rintro e w' ⟨rfl, rfl⟩)
      gi_wp2
      exact ⟨KeepsFrom.refl _ _, KT.refl _ _, hp.out, hB1⟩
    · rw [hb] at hI
      have hp := Lib.hid (HP.out true hb)
      clear hb HP
      gi_wp2_with (refine ⟨trivial, ?_⟩; gi_at_call 31; refine (CallsIn.inRound l (callsIn_wide.2 hI)).mono ?_; clear hI; rintro e w' ⟨rfl, rfl⟩)
      gi_wp2
      refine ⟨(KeepsOthers.setCell _ _ _).from _, ⟨rfl, hp.out, ?_⟩, (hB0.trans (hB1.mono hB0.size)).setCell (by simp) _⟩
      simp [World.cell?_setCell_same', q0]
  case done =>
    rintro D zs W hD h1 ⟨hN, hB1⟩ hK
    rw [h1] at hN
    have hRW : W.heap[w.heap.size + 1]? = some (.cells #[.bool false] 4 (0, 0)) := (hB1.block _ (by omega)).trans hR0
    obtain ⟨q0, f0⟩ := cell1_of hRW
    gi_wp2
    have hRf := heap_setCell_at hRW 0 (.bool false)
    have hBf := (hB0.trans (hB1.mono hB0.size)).setCell (p := ⟨w.heap.size + 1, 0, none⟩) (by simp) (.bool false)
    have hKf := (KeepsOthers.setCell W ⟨w.heap.size + 1, 0, none⟩ (.bool false)).same D _ hK rfl
    obtain ⟨Wf, hWf⟩ : ∃ Wf, W.setCell ⟨w.heap.size + 1, 0, none⟩ (.bool false) = Wf := ⟨_, rfl⟩
    rw [hWf] at hRf hBf hKf ⊢
    have hP : (Wf.putObj D (.deferred none)).heap[w.heap.size + 1]? = some (.cells #[.bool false] 4 (0, 0)) := by
      rw [World.putObj_heap_other (by omega), hRf]; rfl
    obtain ⟨p0, _⟩ := cell1_of hP
    refine ⟨by simp, .inl ⟨_, _, rfl, run_takeDeferred hKf, ?_⟩⟩
    refine ⟨.bool false, ?_, by rw [hN], hBf.trans (belowK_b (w := w) (Nat.le_refl _) Wf D _ _ (by omega) hKf rfl rfl)⟩
    simp [results, Tryd.f16, go_sem, p0]
  case stop =>
    rintro D cc pre W hD hp ⟨⟨rfl, hk, h3⟩, hB1⟩ hK
    gi_wp2
    have h3' := cell_kept h3 (grownBy_putObj' W D (.deferred none)) (fun r e => by cases e; exact ⟨_, hK, rfl⟩)
    have hd : hasK kk ds = true := by
      obtain ⟨⟨r, hr⟩, _⟩ := hp
      rw [← hr]
      simp only [hasK] at hk ⊢
      rw [List.any_append, hk]; rfl
    refine ⟨by simp, .inl ⟨_, _, rfl, run_takeDeferred hK, ?_⟩⟩
    refine ⟨.bool true, ?_, by rw [hd], hB1.trans (belowK_b (w := w) (Nat.le_refl _) W D _ _ (by omega) hK rfl rfl)⟩
    simp [results, Tryd.f16, go_sem, h3']
set_option maxRecDepth 100000 in
set_option maxHeartbeats 4000000 in
theorem is_nil_in (w : World) (kk : Int) :
    CallsIn Fence.wide 9 Tryd.prog 16 #[.nilIface, .int .i64 kk] w fun e W' => e = .returned (.bool (false)) ∧ Below w.heap.size w W' := by
  refine callsIn_of_wp_marks Tryd.func16 rfl trivial ?_ rfl
  simp only [Tryd.ntmps16, List.size_toArray, List.length_cons, List.length_nil, Nat.reduceAdd, Nat.reduceSub, Array.replicate_succ, Array.replicate_zero, List.push_toArray, List.append_toArray, List.nil_append, List.cons_append]
  gi_wp2_with (refine ⟨trivial, ?_⟩; gi_at_call 29; refine (callsIn_wide.2 (found_nil _)).mono ?_; rintro e w' ⟨rfl, rfl⟩)
  have hB0 : Below w.heap.size w (((w.alloc (.cells #[.int .i64 kk] 3)).alloc (.cells #[.bool false] 4)).alloc (.cells #[.nilIface] 34)) := (((Below.refl _ w).alloc (Nat.le_refl _) _).alloc (by simp) _).alloc (by simp; omega) _
  have hK0 : (((w.alloc (.cells #[.int .i64 kk] 3)).alloc (.cells #[.bool false] 4)).alloc (.cells #[.nilIface] 34)).cell? ⟨w.heap.size, 0, none⟩ = some (.int .i64 kk) := by
    rw [World.cell?_alloc_lt _ _ ⟨w.heap.size, 0, none⟩ (by simp; omega), World.cell?_alloc_lt _ _ ⟨w.heap.size, 0, none⟩ (by simp)]; simp
  have hR0 : (((w.alloc (.cells #[.int .i64 kk] 3)).alloc (.cells #[.bool false] 4)).alloc (.cells #[.nilIface] 34)).heap[w.heap.size + 1]? = some (.cells #[.bool false] 4 (0, 0)) := by
    refine (Below.heap_alloc _ _ _ (by simp)).trans ?_
    simpa using heap_alloc_new (w.alloc (.cells #[.int .i64 kk] 3)) (.cells #[.bool false] 4)
  have hE0 : (((w.alloc (.cells #[.int .i64 kk] 3)).alloc (.cells #[.bool false] 4)).alloc (.cells #[.nilIface] 34)).cell? ⟨w.heap.size + 2, 0, none⟩ = some (.nilIface) := by
    have h : (((w.alloc (.cells #[.int .i64 kk] 3)).alloc (.cells #[.bool false] 4)).alloc (.cells #[.nilIface] 34)).heap[w.heap.size + 2]? = some (.cells #[.nilIface] 34 (0, 0)) := by simpa using heap_alloc_new ((w.alloc (.cells #[.int .i64 kk] 3)).alloc (.cells #[.bool false] 4)) (.cells #[.nilIface] 34)
    exact (cell1_of h).1
  have hsz : (((w.alloc (.cells #[.int .i64 kk] 3)).alloc (.cells #[.bool false] 4)).alloc (.cells #[.nilIface] 34)).heap.size = w.heap.size + 3 := by simp
  obtain ⟨W0, hW0⟩ : ∃ W0, (((w.alloc (.cells #[.int .i64 kk] 3)).alloc (.cells #[.bool false] 4)).alloc (.cells #[.nilIface] 34)) = W0 := ⟨_, rfl⟩
  rw [hW0] at hB0 hR0 hE0 hK0 hsz ⊢
  clear hW0
  refine wpIn_rangeFunc_ownH rfl (by decide) (gf := 36) (lb := #[.pointer (some ⟨w.heap.size + 2, 0, none⟩)]) rfl trivial (enters_of Tryd.func36 (by kernel_rfl) rfl)
    (found_nil_stops W0 W0 8 (w.heap.size + 2) hE0) (fun h k => h.trans k) (KT.put (Nat.le_refl _)) (Below.refl _ _) (fun _ => rfl)
    (fun pre W => hasK kk (pre.map dOf) = false ∧ Below W0.heap.size W0 W)
    (fun cc pre W => (cc = .ret ∧ hasK kk (pre.map dOf) = true ∧ W.cell? ⟨w.heap.size + 1, 0, none⟩ = some (.bool true)) ∧ Below w.heap.size w W)
    (OwnFrom.and (ownFrom_pure _ _) (ownFrom_below (Nat.le_refl _) (Nat.le_refl _)))
    (fun cc => OwnFrom.and (fun s X Y row hs hg hr => by
        obtain ⟨h1, h2, h3⟩ := hs
        exact ⟨h1, h2, cell_kept h3 hg (fun r e => (hr r e).2)⟩) (ownFrom_below (Nat.le_refl _) (by omega)))
    ⟨rfl, Below.refl _ _⟩
    (fun x a' W => a' = { tmps := #[.nilIface, .int .i64 kk, undef, .pointer (some ⟨w.heap.size, 0, none⟩), .pointer (some ⟨w.heap.size + 1, 0, none⟩), .pointer (some ⟨x.1.b, 0, none⟩), .nilIface, .func (.func 36) #[] #[.pointer (some ⟨w.heap.size + 2, 0, none⟩)], .pointer (some ⟨x.1.b, 0, none⟩), .agg #[.int .i64 x.1.s.a1, .int .i64 x.1.s.l1, .int .i64 x.1.s.h1, .int .i64 x.1.s.a2, .int .i64 x.1.s.l2, .int .i64 x.1.s.h2], undef, undef, undef, undef, undef], defers := [] })
    (fun x a' _ X Y row hs hg hr => hs)
    ?assign ?body ?done ?stop
  case assign =>
    rintro l pre x W K ⟨h1, h2⟩ hK
    simp only [encs]
    gi_wp2
    exact hK _ _ (KeepsFrom.refl _ _) (KT.of_below (Below.refl _ W) h2.size) ⟨h1, h2⟩ rfl
  case body =>
    intro l pre x a' W _ _ _ _ hlt
    exact absurd hlt (Nat.not_lt_zero _)
  case done =>
    rintro D zs W hD h1 ⟨hN, hB1⟩ hK
    have hRW : W.heap[w.heap.size + 1]? = some (.cells #[.bool false] 4 (0, 0)) := (hB1.block _ (by omega)).trans hR0
    obtain ⟨q0, f0⟩ := cell1_of hRW
    gi_wp2
    have hRf := heap_setCell_at hRW 0 (.bool false)
    have hBf := (hB0.trans (hB1.mono hB0.size)).setCell (p := ⟨w.heap.size + 1, 0, none⟩) (by simp) (.bool false)
    have hKf := (KeepsOthers.setCell W ⟨w.heap.size + 1, 0, none⟩ (.bool false)).same D _ hK rfl
    obtain ⟨Wf, hWf⟩ : ∃ Wf, W.setCell ⟨w.heap.size + 1, 0, none⟩ (.bool false) = Wf := ⟨_, rfl⟩
    rw [hWf] at hRf hBf hKf ⊢
    have hP : (Wf.putObj D (.deferred none)).heap[w.heap.size + 1]? = some (.cells #[.bool false] 4 (0, 0)) := by
      rw [World.putObj_heap_other (by omega), hRf]; rfl
    obtain ⟨p0, _⟩ := cell1_of hP
    refine ⟨by simp, .inl ⟨_, _, rfl, run_takeDeferred hKf, ?_⟩⟩
    refine ⟨.bool false, ?_, rfl, hBf.trans (belowK_b (w := w) (Nat.le_refl _) Wf D _ _ (by omega) hKf rfl rfl)⟩
    simp [results, Tryd.f16, go_sem, p0]
  case stop =>
    intro D cc pre W hD hp
    exact hp.elim

theorem is_any (w : World) (n : Nat) (hn : n ≤ 1000) (hE : ErrType w) (v : Value) (kk : Int) (ds : List D) (hv : EO w n v ds) :
    Calls Tryd.prog 16 #[v, .int .i64 kk] w fun e W' => e = .returned (.bool (hasK kk ds)) ∧ Below w.heap.size w W' := by
  rcases hv with ⟨rfl, rfl⟩ | ⟨t, x, rfl, h⟩
  · exact callsIn_wide.1 (is_nil_in w kk)
  · exact callsIn_wide.1 (is_in w n hn hE t x kk ds h)
end Go.Proofs.YtalopkplpbdgjaaDoor
