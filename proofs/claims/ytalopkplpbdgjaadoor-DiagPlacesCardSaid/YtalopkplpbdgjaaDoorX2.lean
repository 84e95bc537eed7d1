/- The contract of first: the first of what an error tells; old memory is as it was. -/
import Derived.Test.YtalopkplpbdgjaaDoorX1
import Derived.RangeFuncNested
import Derived.RangeFuncBox
namespace Go.Proofs.YtalopkplpbdgjaaDoor
open Go.RowKit Go.Shelf Go.Extern.Stop Go.Stop Go.Extern

attribute [local go_sem] Oper.semAt_some

theorem roundIn_any {m m' : Nat} {P : Program} {l : Nat} {f : FuncId} {tmps : Array Value} {assign body : Code} {w : World} {R : Ending → World → Prop}
    (h : RoundIn Fence.wide m P l f tmps assign body w R) : RoundIn Fence.wide m' P l f tmps assign body w R := ⟨h.1, fun c cs _ => h.2 c cs (room_wide _)⟩
theorem yieldAt_any {m : Nat} (m' : Nat) {P : Program} {l : Nat} {args : Array Value} {W : World} {R : Ending → World → Prop} (h : YieldAt Fence.wide m P l args W R) : YieldAt Fence.wide m' P l args W R := by
  obtain ⟨fn, tmps, assign, body, hy, hR⟩ := h
  exact ⟨fn, tmps, assign, body, hy, roundIn_any hR⟩

theorem KT.put {n₀ : Nat} {w : World} (hn : n₀ ≤ w.heap.size) (W : World) (l : Nat) (o o' : Obj) (hl : w.heap.size ≤ l) (h : W.heap[l]? = some o) (hc : o.isCells = false) (hw : o.isWalk = false) : KT n₀ W (W.putObj l o') :=
  ⟨belowK_b hn W l o o' hl h hc hw, fun b cs t fr hb _ => by
    have hne : b ≠ l := by
      rintro rfl
      rw [hb] at h
      cases h
      cases hc
    rw [World.putObj_heap_other hne]
    exact hb⟩

theorem found_stops (We W0 : World) (m n : Nat) (hB0 : Below We.heap.size We W0) (hE : ErrType We) (v : Value) (ds : List D) (hv : Er We n v ds) (hn : n ≤ 1000) (Be : Nat) (hBe : W0.cell? ⟨Be, 0, none⟩ = some v) :
    SeqStopsK Fence.wide m Tryd.prog 36 #[.pointer (some ⟨Be, 0, none⟩)] (encs (W := We)) (KT We.heap.size) (fun q => q.map dOf = ds) (fun q => q.map dOf <+: ds ∧ q ≠ []) ds.length W0 := fun l J Jx W hW hJ _ hY h0 => by
  have := found1_in We l ds.length m n J Jx W.heap.size hJ (fun m' pre x W1 hj hl => yieldAt_any m' (hY pre x W1 hj hl)) hE v ds hv hn (Nat.le_refl _) Be W (by rw [hW.cell (World.block_lt_of_cell? W0 _ hBe)]; exact hBe) (hB0.trans (hW.mono hB0.size)) h0
  refine this.mono fun e W' ⟨h1, h2⟩ => ⟨h1, ?_⟩
  rcases h2 with ⟨q, hq, hj⟩ | ⟨q, hq, hne, hx⟩
  · exact .inl ⟨q, hq, hj⟩
  · exact .inr ⟨q, ⟨hq, hne⟩, hx⟩

theorem three_below {W W1 : World} {B : Nat} {v0 v1 v2 : Value} {T : TypeId} (h : W.heap[B]? = some (.cells #[v0, v1, v2] T (0, 0))) (hb : Below W.heap.size W W1) :
    W1.cell? ⟨B, 0, none⟩ = some v0 ∧ W1.cell? ⟨B, 1, none⟩ = some v1 ∧ W1.cell? ⟨B, 2, none⟩ = some v2 ∧ W1.frozen? ⟨B, 0, none⟩ = false ∧ W1.frozen? ⟨B, 1, none⟩ = false ∧ W1.frozen? ⟨B, 2, none⟩ = false := by
  have h1 := (hb.block B (Array.getElem?_eq_some_iff.1 h).1).trans h
  simp [World.cell?, World.frozen?, h1]

theorem item_of {W0 : World} (x : ItemAt W0) (l : Nat) {m : Nat} (W1 : World) : CallsIn (Fence.wide.inRound l) m Tryd.prog 30 #[.agg #[.int .i64 x.1.s.a1, .int .i64 x.1.s.l1, .int .i64 x.1.s.h1, .int .i64 x.1.s.a2, .int .i64 x.1.s.l2, .int .i64 x.1.s.h2], .agg #[.int .i64 x.1.d.1, .int .i64 x.1.d.2.1, .int .i64 x.1.d.2.2]] W1 fun e W2 => e = .returned (.agg #[.int .i64 (dOf x).1, .int .i64 (dOf x).2.1, .int .i64 (dOf x).2.2]) ∧ Below W1.heap.size W1 W2 := by
  obtain ⟨⟨p1, p2⟩, ⟨p3, p4⟩, _, _⟩ := x.2.so
  obtain ⟨p5, p6, p7, p8⟩ := x.2.pl
  exact CallsIn.inRound l (callsIn_wide.2 (spotof_any _ _ _ _ _ _ _ _ _ W1 (by omega) (by omega) (by omega) (by omega)))

set_option maxRecDepth 100000 in
set_option maxHeartbeats 4000000 in
theorem first_in (w : World) (n : Nat) (hn : n ≤ 1000) (hE : ErrType w) (t : TypeId) (v : Value) (ds : List D) (hv : Er w n (.iface t v) ds) (k l c : Int) (rest : List D) (hds : ds = (k, l, c) :: rest) :
    CallsIn Fence.wide 9 Tryd.prog 28 #[.iface t v] w fun e W' => e = .returned (.agg #[.int .i64 k, .int .i64 l, .int .i64 c]) ∧ Below w.heap.size w W' := by
  refine callsIn_of_wp_marks Tryd.func28 rfl trivial ?_ rfl
  simp only [Tryd.ntmps28, List.size_toArray, List.length_cons, List.length_nil, Nat.reduceAdd, Nat.reduceSub, Array.replicate_succ, Array.replicate_zero, List.push_toArray, List.append_toArray, List.nil_append, List.cons_append]
  gi_wp2_with (refine ⟨trivial, ?_⟩; gi_at_call 29; refine (callsIn_wide.2 (found_any t v _)).mono ?_; rintro e w' ⟨rfl, rfl⟩)
  have hB0 : Below w.heap.size w ((w.alloc (.cells #[.int .i64 0, .int .i64 0, .int .i64 0] 29)).alloc (.cells #[.iface t v] 34)) := ((Below.refl _ w).alloc (Nat.le_refl _) _).alloc (by simp) _
  have hR0 : ((w.alloc (.cells #[.int .i64 0, .int .i64 0, .int .i64 0] 29)).alloc (.cells #[.iface t v] 34)).heap[w.heap.size]? = some (.cells #[.int .i64 0, .int .i64 0, .int .i64 0] 29 (0, 0)) := (Below.heap_alloc _ _ _ (by simp)).trans (heap_alloc_new w _)
  have hE0 : ((w.alloc (.cells #[.int .i64 0, .int .i64 0, .int .i64 0] 29)).alloc (.cells #[.iface t v] 34)).cell? ⟨w.heap.size + 1, 0, none⟩ = some (.iface t v) := by simp
  have hsz : ((w.alloc (.cells #[.int .i64 0, .int .i64 0, .int .i64 0] 29)).alloc (.cells #[.iface t v] 34)).heap.size = w.heap.size + 2 := by simp
  obtain ⟨W0, hW0⟩ : ∃ W0, (w.alloc (.cells #[.int .i64 0, .int .i64 0, .int .i64 0] 29)).alloc (.cells #[.iface t v] 34) = W0 := ⟨_, rfl⟩
  rw [hW0] at hB0 hR0 hE0 hsz ⊢
  clear hW0
  refine wpIn_rangeFunc_ownH rfl (by decide) (gf := 36) (lb := #[.pointer (some ⟨w.heap.size + 1, 0, none⟩)]) rfl trivial (enters_of Tryd.func36 (by kernel_rfl) rfl)
    (found_stops W0 W0 8 n (Below.refl _ _) (errType_below hE hB0) (.iface t v) ds (hv.below hB0) hn (w.heap.size + 1) hE0) (fun h k => h.trans k) (KT.put (Nat.le_refl _)) (Below.refl _ _) (fun _ => rfl)
    (fun pre W => pre = [] ∧ Below W0.heap.size W0 W)
    (fun cc pre W => (cc = .ret ∧ ∃ x : ItemAt W0, pre = [x] ∧ W.cell? ⟨w.heap.size, 0, none⟩ = some (.int .i64 (dOf x).1) ∧ W.cell? ⟨w.heap.size, 1, none⟩ = some (.int .i64 (dOf x).2.1) ∧ W.cell? ⟨w.heap.size, 2, none⟩ = some (.int .i64 (dOf x).2.2)) ∧ Below w.heap.size w W)
    (OwnFrom.and (ownFrom_pure _ _) (ownFrom_below (Nat.le_refl _) (Nat.le_refl _)))
    (fun cc => OwnFrom.and (fun s X Y row hs hg hr => by
        obtain ⟨h1, x, h2, h3, h4, h5⟩ := hs
        exact ⟨h1, x, h2, cell_kept h3 hg (fun r e => (hr r e).2), cell_kept h4 hg (fun r e => (hr r e).2), cell_kept h5 hg (fun r e => (hr r e).2)⟩) (ownFrom_below (Nat.le_refl _) (by omega)))
    ⟨rfl, Below.refl _ _⟩
    (fun x a' W => ∃ Bx, W0.heap.size ≤ Bx ∧ W.heap[Bx]? = some (.cells #[.int .i64 x.1.s.a1, .int .i64 x.1.s.l1, .int .i64 x.1.s.h1, .int .i64 x.1.s.a2, .int .i64 x.1.s.l2, .int .i64 x.1.s.h2] 66 (0, 0)) ∧ a' = { tmps := #[.iface t v, undef, .pointer (some ⟨w.heap.size, 0, none⟩), .pointer (some ⟨x.1.b, 0, none⟩), .pointer (some ⟨Bx, 0, none⟩), .iface t v, .func (.func 36) #[] #[.pointer (some ⟨w.heap.size + 1, 0, none⟩)], .pointer (some ⟨x.1.b, 0, none⟩), .agg #[.int .i64 x.1.s.a1, .int .i64 x.1.s.l1, .int .i64 x.1.s.h1, .int .i64 x.1.s.a2, .int .i64 x.1.s.l2, .int .i64 x.1.s.h2], undef, undef, undef, undef, undef, undef, undef], defers := [] })
    (fun x a' _ X Y row hs hg hr => by
      obtain ⟨Bx, h1, h2, h3⟩ := hs
      refine ⟨Bx, h1, (hg.block Bx (Array.getElem?_eq_some_iff.1 h2).1 ?_).trans h2, h3⟩
      intro e
      obtain ⟨_, o, ho, hc⟩ := hr Bx e.symm
      rw [h2] at ho; cases ho; cases hc)
    ?assign ?body ?done ?stop
  case assign =>
    rintro l pre x W K ⟨h1, h2⟩ hK
    simp only [encs]
    gi_wp2
    exact hK _ _ ((KeepsOthers.alloc _ _).from _) (KT.of_below ((Below.refl _ W).alloc (Nat.le_refl _) _) h2.size) ⟨h1, h2.alloc h2.size _⟩ ⟨W.heap.size, h2.size, heap_alloc_new W _, rfl⟩
  case body =>
    rintro l pre x a' W hl ⟨r, hr⟩ ⟨rfl, hB1⟩ ⟨Bx, hBx, bX, rfl⟩ hlt
    have hmix : Tryd.prog.follows .mixedOrders = true := by kernel_rfl
    obtain ⟨b0, b1, b2, b3, b4, b5⟩ := box_cells bX
    have hlb := World.block_lt_of_cell? W0 _ x.2.k
    simp only at hlb
    have o0 : W.cell? ⟨x.1.b, 0, none⟩ = some (.int .i64 x.1.d.1) := by rw [hB1.cell (p := ⟨x.1.b, 0, none⟩) hlb]; exact x.2.k
    have o1 : W.cell? ⟨x.1.b, 1, none⟩ = some (.int .i64 x.1.d.2.1) := by rw [hB1.cell (p := ⟨x.1.b, 1, none⟩) hlb]; exact x.2.l
    have o2 : W.cell? ⟨x.1.b, 2, none⟩ = some (.int .i64 x.1.d.2.2) := by rw [hB1.cell (p := ⟨x.1.b, 2, none⟩) hlb]; exact x.2.c
    have hRW : W.heap[w.heap.size]? = some (.cells #[.int .i64 0, .int .i64 0, .int .i64 0] 29 (0, 0)) := (hB1.block _ (by omega)).trans hR0
    have hWs := hB1.size
    have HR := Lib.hid hRW
    have HX := Lib.hid bX
    clear hRW bX hR0 hE0
    gi_wp2_with fail
    gi_region_with_o (refine ⟨trivial, ?_⟩; gi_at_call 30; refine (item_of x l _).mono ?_; rintro e W1 ⟨rfl, hb1⟩; have hb1' : Below W.heap.size W W1 := (Below.refl _ W).drew.trans hb1; obtain ⟨q0, q1, q2, f0, f1, f2⟩ := three_below HR.out hb1')
    all_goals
      gi_wp2
      refine ⟨(((KeepsFrom.of_grownBy (grown_of_below hb1' none) (fun j e => by cases e)).trans ((KeepsOthers.setCell _ _ _).from _)).trans ((KeepsOthers.setCell _ _ _).from _)).trans ((KeepsOthers.setCell _ _ _).from _), ⟨rfl, x, rfl, ?_, ?_, ?_⟩, ?_⟩
      · simp [World.cell?_setCell_same', World.cell?_setCell_other, q0]
      · simp [World.cell?_setCell_same', World.cell?_setCell_other, q1]
      · simp [World.cell?_setCell_same', World.cell?_setCell_other, q2]
      · exact ((((hB0.trans (hB1.mono hB0.size)).trans (hb1'.mono (by omega))).setCell (by simp) _).setCell (by simp) _).setCell (by simp) _
  case done =>
    rintro D zs W hD h1 ⟨rfl, hB1⟩ hK
    exact absurd h1.symm (hv.ne_nil)
  case stop =>
    rintro D cc pre W hD hp ⟨⟨rfl, x, rfl, h1, h2, h3⟩, hB1⟩ hK
    gi_wp2
    have h1' := cell_kept h1 (grownBy_putObj' W D (.deferred none)) (fun r e => by cases e; exact ⟨_, hK, rfl⟩)
    have h2' := cell_kept h2 (grownBy_putObj' W D (.deferred none)) (fun r e => by cases e; exact ⟨_, hK, rfl⟩)
    have h3' := cell_kept h3 (grownBy_putObj' W D (.deferred none)) (fun r e => by cases e; exact ⟨_, hK, rfl⟩)
    have hd : dOf x = (k, l, c) := by
      obtain ⟨⟨r, hr⟩, _⟩ := hp
      rw [hds] at hr
      simp at hr
      exact hr.1
    rw [hd] at h1' h2' h3'
    refine ⟨by simp, .inl ⟨_, _, rfl, run_takeDeferred hK, ?_⟩⟩
    refine ⟨.agg #[.int .i64 k, .int .i64 l, .int .i64 c], ?_, rfl, hB1.trans (belowK_b (w := w) (Nat.le_refl _) W D _ _ (by omega) hK rfl rfl)⟩
    simp [results, Tryd.f28, go_sem, h1', h2', h3']
end Go.Proofs.YtalopkplpbdgjaaDoor
