/- The contract of All: it returns what an error tells, in a new row; old memory is as it was. -/
import Derived.Test.YtalopkplpbdgjaaDoorX4
namespace Go.Proofs.YtalopkplpbdgjaaDoor
open Go.RowKit Go.Shelf Go.Extern.Stop Go.Stop Go.Extern

attribute [local go_sem] Oper.semAt_some
attribute [local go_sem ↓ high] builtin_app30

theorem Holds.below {W W1 : World} {base B : Nat} {v : Value} {ds : List D} (h : Holds W base B v ds) (hb : Below W.heap.size W W1) : Holds W1 base B v ds :=
  ⟨(hb.block B h.1.lt).trans h.1, h.2.kept (grown_of_below hb none) (by rcases h.2.2 with ⟨rfl, _⟩ | ⟨g, cap, cur, rfl, _⟩ <;> simp [Value.ownBlock])⟩

/-- What a round of All leaves behind. -/
theorem all_round {w W W1 W3 : World} {v v' : Value} {ds : List D} {d : D} {n0 : Nat} (h : Holds W w.heap.size w.heap.size v ds) (hw : Below w.heap.size w W) (hb1 : Below W.heap.size W W1)
    (hgrow : (W1.alloc (.cells #[.int .i64 d.1, .int .i64 d.2.1, .int .i64 d.2.2] 29)).grownBy W3 v.ownBlock) (hbx : Boxed W3 w.heap.size 30 v) (hown : W3.ownsRow w.heap.size 29 3 v' (ds.length + 1) (dcells (ds ++ [d]))) :
    KeepsFrom n0 W (W3.setCell ⟨w.heap.size, 0, none⟩ v') ∧ KT w.heap.size W (W3.setCell ⟨w.heap.size, 0, none⟩ v') ∧ (∃ u, Boxed (W3.setCell ⟨w.heap.size, 0, none⟩ v') w.heap.size 30 u ∧ (W3.setCell ⟨w.heap.size, 0, none⟩ v').ownsRow w.heap.size 29 3 u (ds ++ [d]).length (dcells (ds ++ [d])) ∧ True) ∧ Below w.heap.size w (W3.setCell ⟨w.heap.size, 0, none⟩ v') := by
  have h1 := h.below hb1
  obtain ⟨e1, e2, e3, e4, e5⟩ := h1.1.appended (t := 30) (e := 29) (tmp := .cells #[.int .i64 d.1, .int .i64 d.2.1, .int .i64 d.2.2] 29) (by decide) h1.2 (Nat.le_of_lt h1.1.lt) (Nat.le_refl _) hown hgrow
  have hB1 : Below w.heap.size W W1 := hb1.mono hw.size
  refine ⟨(KeepsFrom.of_grownBy (grown_of_below hb1 none) (fun j e => by cases e)).trans (e4.from _), ⟨hB1.trans e5, ?_⟩, ⟨v', e2, by simpa using e3, trivial⟩, (hw.trans hB1).trans e5⟩
  intro b cs t fr hb ht
  have hbl := (Array.getElem?_eq_some_iff.1 hb).1
  have hW1 : W1.heap[b]? = some (.cells cs t fr) := (hb1.block b hbl).trans hb
  have hbl1 := (Array.getElem?_eq_some_iff.1 hW1).1
  have hA : (W1.alloc (.cells #[.int .i64 d.1, .int .i64 d.2.1, .int .i64 d.2.2] 29)).heap[b]? = some (.cells cs t fr) := (Below.heap_alloc _ _ _ hbl1).trans hW1
  have hne : b ≠ w.heap.size := by
    rintro rfl
    have := hW1.symm.trans h1.1
    simp at this
    obtain ⟨_, rfl, _⟩ := this
    rcases ht with h | h <;> cases h
  rw [Below.heap_setCell _ _ _ _ hne]
  refine (hgrow.block b (Array.getElem?_eq_some_iff.1 hA).1 ?_).trans hA
  intro e
  rcases h1.2.2 with ⟨rfl, _⟩ | ⟨g, cap, cur, rfl, _, hg, _⟩
  · simp [Value.ownBlock] at e
  · obtain rfl : b = g := by simpa [Value.ownBlock] using e
    have := hW1.symm.trans hg
    simp at this
    obtain ⟨_, rfl, _⟩ := this
    rcases ht with h | h <;> cases h

theorem all_end {w W W1 W3 : World} {u : Value} {g cap n0 : Nat} {pre : List (ItemAt w)} {x : ItemAt w} (h : Holds W w.heap.size w.heap.size u (pre.map dOf)) (hw : Below w.heap.size w W) (hb1 : Below W.heap.size W W1)
    (hgrow : (W1.alloc (.cells #[.int .i64 (dOf x).1, .int .i64 (dOf x).2.1, .int .i64 (dOf x).2.2] 29)).grownBy W3 u.ownBlock) (hbx : Boxed W3 w.heap.size 30 u) (hown : W3.ownsRow w.heap.size 29 3 (.slice (some ⟨g, 0, none⟩) ((pre.map dOf).length + 1) cap) ((pre.map dOf).length + 1) (dcells (pre.map dOf ++ [dOf x]))) :
    KeepsFrom n0 W (W3.setCell ⟨w.heap.size, 0, none⟩ (.slice (some ⟨g, 0, none⟩) (pre.length + 1) cap)) ∧ KT w.heap.size W (W3.setCell ⟨w.heap.size, 0, none⟩ (.slice (some ⟨g, 0, none⟩) (pre.length + 1) cap)) ∧
      (∃ u', Boxed (W3.setCell ⟨w.heap.size, 0, none⟩ (.slice (some ⟨g, 0, none⟩) (pre.length + 1) cap)) w.heap.size 30 u' ∧ (W3.setCell ⟨w.heap.size, 0, none⟩ (.slice (some ⟨g, 0, none⟩) (pre.length + 1) cap)).ownsRow w.heap.size 29 3 u' ((pre ++ [x]).map dOf).length (dcells ((pre ++ [x]).map dOf)) ∧ True) ∧
      Below w.heap.size w (W3.setCell ⟨w.heap.size, 0, none⟩ (.slice (some ⟨g, 0, none⟩) (pre.length + 1) cap)) := by
  have := all_round (n0 := n0) h hw hb1 hgrow hbx hown
  simp only [List.length_map] at this
  simpa using this

set_option maxRecDepth 100000 in
set_option maxHeartbeats 8000000 in
theorem all_in (w : World) (n : Nat) (hn : n ≤ 1000) (hE : ErrType w) (t : TypeId) (v : Value) (ds : List D) (hv : Er w n (.iface t v) ds) (hds : ds.length ≤ 1000) :
    CallsIn Fence.wide 9 Tryd.prog 14 #[.iface t v] w fun e W' => ∃ u, e = .returned u ∧ W'.ownsRow w.heap.size 29 3 u ds.length (dcells ds) ∧ Below w.heap.size w W' := by
  refine callsIn_of_wp_marks Tryd.func14 rfl trivial ?_ rfl
  simp only [Tryd.ntmps14, List.size_toArray, List.length_cons, List.length_nil, Nat.reduceAdd, Nat.reduceSub, Array.replicate_succ, Array.replicate_zero, List.push_toArray, List.append_toArray, List.nil_append, List.cons_append]
  gi_wp2_with (refine ⟨trivial, ?_⟩; gi_at_call 29; refine (callsIn_wide.2 (found_any t v _)).mono ?_; rintro e w' ⟨rfl, rfl⟩)
  have hB0 : Below w.heap.size w ((w.alloc (.cells #[.slice none 0 0] 30)).alloc (.cells #[.iface t v] 34)) := ((Below.refl _ w).alloc (Nat.le_refl _) _).alloc (by simp) _
  have hR0 : Boxed ((w.alloc (.cells #[.slice none 0 0] 30)).alloc (.cells #[.iface t v] 34)) w.heap.size 30 (.slice none 0 0) := (Boxed.new w 30 _).alloc _
  have hE0 : ((w.alloc (.cells #[.slice none 0 0] 30)).alloc (.cells #[.iface t v] 34)).cell? ⟨w.heap.size + 1, 0, none⟩ = some (.iface t v) := by simp
  have hsz : ((w.alloc (.cells #[.slice none 0 0] 30)).alloc (.cells #[.iface t v] 34)).heap.size = w.heap.size + 2 := by simp
  obtain ⟨W0, hW0⟩ : ∃ W0, (w.alloc (.cells #[.slice none 0 0] 30)).alloc (.cells #[.iface t v] 34) = W0 := ⟨_, rfl⟩
  rw [hW0] at hB0 hR0 hE0 hsz ⊢
  clear hW0
  have hseq := found_stops w W0 8 n hB0 hE (.iface t v) ds hv hn (w.heap.size + 1) hE0
  refine wpIn_rangeFunc_ownH rfl (by decide) (gf := 36) (lb := #[.pointer (some ⟨w.heap.size + 1, 0, none⟩)]) rfl trivial (enters_of Tryd.func36 (by kernel_rfl) rfl)
    hseq (fun h k => h.trans k) (KT.put (by omega)) (Below.refl _ _) (fun _ => rfl)
    (fun pre W => (∃ u, Boxed W w.heap.size 30 u ∧ W.ownsRow w.heap.size 29 3 u (pre.map dOf).length (dcells (pre.map dOf)) ∧ True) ∧ Below w.heap.size w W)
    (fun _ _ _ => False)
    (OwnFrom.and (Own.from (holdsRow_own w.heap.size w.heap.size 30 29 3 (fun pre : List (ItemAt w) => (pre.map dOf).length) (fun pre => dcells (pre.map dOf)) (fun _ _ => True)) _) (ownFrom_below (Nat.le_refl _) (by omega)))
    (fun _ _ _ _ _ hs _ _ => hs)
    ⟨⟨_, hR0, World.ownsRow_nil _ _ _ _, trivial⟩, hB0⟩
    (fun x a' W => ∃ Bx, w.heap.size ≤ Bx ∧ W.heap[Bx]? = some (.cells #[.int .i64 x.1.s.a1, .int .i64 x.1.s.l1, .int .i64 x.1.s.h1, .int .i64 x.1.s.a2, .int .i64 x.1.s.l2, .int .i64 x.1.s.h2] 66 (0, 0)) ∧ a' = { tmps := #[.iface t v, undef, .slice none 0 0, .pointer (some ⟨w.heap.size, 0, none⟩), .pointer (some ⟨x.1.b, 0, none⟩), .pointer (some ⟨Bx, 0, none⟩), .iface t v, .func (.func 36) #[] #[.pointer (some ⟨w.heap.size + 1, 0, none⟩)], .pointer (some ⟨x.1.b, 0, none⟩), .agg #[.int .i64 x.1.s.a1, .int .i64 x.1.s.l1, .int .i64 x.1.s.h1, .int .i64 x.1.s.a2, .int .i64 x.1.s.l2, .int .i64 x.1.s.h2], undef, undef, undef, undef, undef, undef, undef, undef, undef, undef], defers := [] })
    (fun x a' _ X Y row hs hg hr => by
      obtain ⟨Bx, h1, h2, h3⟩ := hs
      refine ⟨Bx, h1, (hg.block Bx (Array.getElem?_eq_some_iff.1 h2).1 ?_).trans h2, h3⟩
      intro e
      obtain ⟨_, o, ho, hc⟩ := hr Bx e.symm
      rw [h2] at ho; cases ho; cases hc)
    ?assign ?body ?done ?stop
  case assign =>
    rintro l pre x W K ⟨⟨u, hu1, hu2, _⟩, h2⟩ hK
    simp only [encs]
    gi_wp2
    exact hK _ _ ((KeepsOthers.alloc _ _).from _) (KT.of_below ((Below.refl _ W).alloc (Nat.le_refl _) _) h2.size) ⟨⟨u, hu1.alloc _, hu2.alloc _, trivial⟩, h2.alloc h2.size _⟩ ⟨W.heap.size, h2.size, heap_alloc_new W _, rfl⟩
  case body =>
    rintro l pre x a' W hl ⟨r, hr⟩ ⟨⟨u, hu1, hu2, _⟩, hB1⟩ ⟨Bx, hBx, bX, rfl⟩ hlt
    have hmix : Tryd.prog.follows .mixedOrders = true := by kernel_rfl
    obtain ⟨b0, b1, b2, b3, b4, b5⟩ := box_cells bX
    have hlb := World.block_lt_of_cell? w _ x.2.k
    simp only at hlb
    have o0 : W.cell? ⟨x.1.b, 0, none⟩ = some (.int .i64 x.1.d.1) := by rw [hB1.cell (p := ⟨x.1.b, 0, none⟩) hlb]; exact x.2.k
    have o1 : W.cell? ⟨x.1.b, 1, none⟩ = some (.int .i64 x.1.d.2.1) := by rw [hB1.cell (p := ⟨x.1.b, 1, none⟩) hlb]; exact x.2.l
    have o2 : W.cell? ⟨x.1.b, 2, none⟩ = some (.int .i64 x.1.d.2.2) := by rw [hB1.cell (p := ⟨x.1.b, 2, none⟩) hlb]; exact x.2.c
    have hcu := hu1.cell
    have HU := Lib.hid (show Holds W w.heap.size w.heap.size u (pre.map dOf) from ⟨hu1, hu2⟩)
    have HL : Hid ((pre.map dOf).length < 1000) := by show (pre.map dOf).length < 1000; rw [List.length_map]; omega
    have HX := Lib.hid bX
    clear bX hu1 hu2 hE0 hR0 hseq
    gi_wp2_with fail
    gi_region_with_o (refine ⟨trivial, ?_⟩; gi_at_call 30; refine (item_of x l _).mono ?_; rintro e W1 ⟨rfl, hb1⟩; have hb1' : Below W.heap.size W W1 := (Below.refl _ W).drew.trans hb1; have hcu1 := (HU.out.below hb1').1.cell; have hlt1 := (HU.out.below hb1').1.lt; obtain ⟨g, cap, w3, hk, hbx, hown, hgrow⟩ := app_own (HU.out.below hb1') (Nat.le_refl _) HL.out (dOf x); have hcb := hbx.cell; have hfb := hbx.frozen; have HO := Lib.hid hown; have HG := Lib.hid hgrow; have HB := Lib.hid hbx; clear hown hgrow hbx)
    all_goals
      gi_wp2
      exact all_end HU.out hB1 hb1' HG.out HB.out HO.out
  case done =>
    rintro D zs W hD h1 ⟨⟨u, hu1, hu2, _⟩, hB1⟩ hK
    have hcu := hu1.cell
    gi_wp2
    refine ⟨by simp, .inl ⟨_, _, rfl, run_takeDeferred hK, ?_⟩⟩
    rw [h1] at hu2
    exact ⟨_, results_tmp rfl _ _ _, u, rfl, ownsRow_putObj hu2 _ hK rfl, hB1.trans (belowK_b (w := w) (Nat.le_refl _) W D _ _ (by omega) hK rfl rfl)⟩
  case stop =>
    rintro D cc pre W _ _ h _
    exact h.elim

theorem all_any (w : World) (n : Nat) (hn : n ≤ 1000) (hE : ErrType w) (t : TypeId) (v : Value) (ds : List D) (hv : Er w n (.iface t v) ds) (hds : ds.length ≤ 1000) :
    Calls Tryd.prog 14 #[.iface t v] w fun e W' => ∃ u, e = .returned u ∧ W'.ownsRow w.heap.size 29 3 u ds.length (dcells ds) ∧ Below w.heap.size w W' :=
  callsIn_wide.1 (all_in w n hn hE t v ds hv hds)
end Go.Proofs.YtalopkplpbdgjaaDoor
