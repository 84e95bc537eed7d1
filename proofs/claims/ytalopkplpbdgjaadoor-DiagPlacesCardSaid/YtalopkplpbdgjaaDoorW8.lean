/- The contract of walk at a moved error: it yields what the inner error tells, moved. -/
import Derived.Test.YtalopkplpbdgjaaDoorW7
namespace Go.Proofs.YtalopkplpbdgjaaDoor
open Go.RowKit Go.Shelf Go.Extern.Stop Go.Stop Go.Extern

attribute [local go_sem] Oper.semAt_some

/-- What walk owes at depth n. -/
def WalkAt (W0 : World) (l N : Nat) (J Jx : List (ItemAt W0) → World → Prop) (n : Nat) : Prop :=
  ∀ (v : Value) (ds : List D) (s : Spot) (k m : Nat) (pre : List (ItemAt W0)) (W : World), Er W0 n v ds → s.Ok k → k + n ≤ 1048576 → Below W0.heap.size W0 W → J pre W → pre.length + ds.length ≤ N →
    CallsIn Fence.wide m Tryd.prog 37 #[v, .agg #[.int .i64 s.a1, .int .i64 s.l1, .int .i64 s.h1, .int .i64 s.a2, .int .i64 s.l2, .int .i64 s.h2], .func (.yield l) #[] #[]] W (WalkPost W0 J Jx (ds.map s.ap) pre W)

theorem rel_step {W0 : World} {q q2 : List (ItemAt W0)} {dss : List (List D)} {j : Nat} {d : List D} {s : Spot} (h : q.map dOf = ((dss.take j).flatten).map s.ap) (hd : dss[j]? = some d) (h2 : q2.map dOf = d.map s.ap) :
    (q ++ q2).map dOf = ((dss.take (j + 1)).flatten).map s.ap := by
  have : dss.take (j + 1) = dss.take j ++ [d] := by
    rw [List.take_add_one, hd]; rfl
  rw [this]
  simp [h, h2]
theorem rel_stop {W0 : World} {q q2 : List (ItemAt W0)} {dss : List (List D)} {j : Nat} {d : List D} {s : Spot} (h : q.map dOf = ((dss.take j).flatten).map s.ap) (hd : dss[j]? = some d) (h2 : q2.map dOf <+: d.map s.ap) :
    (q ++ q2).map dOf <+: (dss.flatten).map s.ap := by
  have hj : j < dss.length := by
    rcases Nat.lt_or_ge j dss.length with h1 | h1
    · exact h1
    · rw [List.getElem?_eq_none h1] at hd; cases hd
  have e : dss = dss.take j ++ d :: dss.drop (j + 1) := by
    obtain ⟨_, rfl⟩ := List.getElem?_eq_some_iff.1 hd
    rw [List.getElem_cons_drop, List.take_append_drop]
  obtain ⟨r, hr⟩ := h2
  refine ⟨r ++ ((dss.drop (j + 1)).flatten).map s.ap, ?_⟩
  rw [List.map_append, h]
  conv => rhs; rw [e]
  simp [← hr]
theorem take_len {W0 : World} {q : List (ItemAt W0)} {dss : List (List D)} {j : Nat} {d : List D} {s : Spot} {N p : Nat} (h : q.map dOf = ((dss.take j).flatten).map s.ap) (hd : dss[j]? = some d) (hN : p + dss.flatten.length ≤ N) : p + q.length + d.length ≤ N := by
  have e : dss = dss.take j ++ d :: dss.drop (j + 1) := by
    obtain ⟨_, rfl⟩ := List.getElem?_eq_some_iff.1 hd
    rw [List.getElem_cons_drop, List.take_append_drop]
  have h1 := congrArg List.length h
  simp only [List.length_map] at h1
  rw [e] at hN
  simp only [List.flatten_append, List.flatten_cons, List.length_append] at hN
  omega

theorem heap_setCell_at {W : World} {B : Nat} {cs : Array Value} {t : TypeId} {fr : Nat × Nat} (h : W.heap[B]? = some (.cells cs t fr)) (i : Nat) (v : Value) : (W.setCell ⟨B, i, none⟩ v).heap[B]? = some (.cells (cs.setIfInBounds i v) t fr) := by
  simp [World.setCell, Array.getElem?_modify, h]

theorem six (W W1 : World) {c0 c1 c2 c3 c4 c5 : Value} (hb : Below (W.alloc (.cells #[c0, c1, c2, c3, c4, c5] 66)).heap.size (W.alloc (.cells #[c0, c1, c2, c3, c4, c5] 66)) W1) (v0 v1 v2 v3 v4 v5 : Value) :
    Below W.heap.size W ((((((W1.setCell ⟨W.heap.size, 0, none⟩ v0).setCell ⟨W.heap.size, 1, none⟩ v1).setCell ⟨W.heap.size, 2, none⟩ v2).setCell ⟨W.heap.size, 3, none⟩ v3).setCell ⟨W.heap.size, 4, none⟩ v4).setCell ⟨W.heap.size, 5, none⟩ v5) ∧
    ((((((W1.setCell ⟨W.heap.size, 0, none⟩ v0).setCell ⟨W.heap.size, 1, none⟩ v1).setCell ⟨W.heap.size, 2, none⟩ v2).setCell ⟨W.heap.size, 3, none⟩ v3).setCell ⟨W.heap.size, 4, none⟩ v4).setCell ⟨W.heap.size, 5, none⟩ v5).heap[W.heap.size]? = some (.cells #[v0, v1, v2, v3, v4, v5] 66 (0, 0)) := by
  have hB : Below W.heap.size W W1 := ((Below.refl _ W).alloc (Nat.le_refl _) _).trans (hb.mono (by simp))
  constructor
  · refine Below.setCell (Below.setCell (Below.setCell (Below.setCell (Below.setCell (Below.setCell hB ?_ _) ?_ _) ?_ _) ?_ _) ?_ _) ?_ _ <;> simp
  · have h0 : W1.heap[W.heap.size]? = some (.cells #[c0, c1, c2, c3, c4, c5] 66 (0, 0)) := (hb.block _ (by simp)).trans (heap_alloc_new W _)
    have := heap_setCell_at (heap_setCell_at (heap_setCell_at (heap_setCell_at (heap_setCell_at (heap_setCell_at h0 0 v0) 1 v1) 2 v2) 3 v3) 4 v4) 5 v5
    rw [this]
    rfl

theorem box_cells {W : World} {B : Nat} {v0 v1 v2 v3 v4 v5 : Value} (h : W.heap[B]? = some (.cells #[v0, v1, v2, v3, v4, v5] 66 (0, 0))) :
    W.cell? ⟨B, 0, none⟩ = some v0 ∧ W.cell? ⟨B, 1, none⟩ = some v1 ∧ W.cell? ⟨B, 2, none⟩ = some v2 ∧ W.cell? ⟨B, 3, none⟩ = some v3 ∧ W.cell? ⟨B, 4, none⟩ = some v4 ∧ W.cell? ⟨B, 5, none⟩ = some v5 := by
  simp [World.cell?, h]

set_option maxRecDepth 100000 in
set_option maxHeartbeats 4000000 in
theorem walk_moved (W0 : World) (l N m n k : Nat) (J Jx : List (ItemAt W0) → World → Prop) (B0 : Nat) (hJ : AbidesFrom B0 J) (ih : WalkAt W0 l N J Jx n) (s : Spot) (hs : s.Ok k) (hk : k + (n + 1) ≤ 1048576)
    (b : Nat) (tx : TypeId) (x : Value) (ls cs : Int) (ds : List D) (h0 : W0.cell? ⟨b, 0, none⟩ = some (.iface tx x)) (h1 : W0.cell? ⟨b, 1, none⟩ = some (.int .i64 ls)) (h2 : W0.cell? ⟨b, 2, none⟩ = some (.int .i64 cs)) (hE : Er W0 n (.iface tx x) ds)
    (pre : List (ItemAt W0)) (W : World) (hB : Below W0.heap.size W0 W) (hj : J pre W) (hN : pre.length + ds.length ≤ N) :
    CallsIn Fence.wide m Tryd.prog 37 #[.iface 75 (.pointer (some ⟨b, 0, none⟩)), .agg #[.int .i64 s.a1, .int .i64 s.l1, .int .i64 s.h1, .int .i64 s.a2, .int .i64 s.l2, .int .i64 s.h2], .func (.yield l) #[] #[]] W (WalkPost W0 J Jx (ds.map (s.within ls cs).ap) pre W) := by
  have hnot : ∀ (x : Bool) (w : World), (Op.unary .not (.bool x)).run Tryd.prog w = .ok (.bool (!x)) w := fun _ _ => rfl
  have ta := moved_moved
  have hb0 : b < W.heap.size := Nat.lt_of_lt_of_le (World.block_lt_of_cell? W0 _ h0) hB.size
  have hlt0 := World.block_lt_of_cell? W0 _ h0
  simp only at hlt0
  have hok := Spot.within_ok hs ls cs
  obtain ⟨⟨p1, p2⟩, ⟨p3, p4⟩, _, _⟩ := hs
  have i1 := Lib.hid (fun (W1 : World) (hW : Below W.heap.size W W1) => (callsIn_wide (n := m - 1)).2 (spotwithin_any s.a1 s.l1 s.h1 s.a2 s.l2 s.h2 ls cs b W1 (by rw [(hB.trans (hW.mono hB.size)).cell (p := ⟨b, 1, none⟩) hlt0]; exact h1) (by rw [(hB.trans (hW.mono hB.size)).cell (p := ⟨b, 2, none⟩) hlt0]; exact h2)
    (by omega) (by omega) (by omega) (by omega)))
  have i2 := Lib.hid (fun (W1 : World) (hW : Below W.heap.size W W1) => (callsIn_wide (n := m - 1)).2 (inside_moved b tx x W1 (by rw [(hB.trans (hW.mono hB.size)).cell (p := ⟨b, 0, none⟩) hlt0]; exact h0)))
  clear h1 h2 h0
  refine callsIn_of_wp Tryd.func37 rfl trivial ?_ rfl
  simp only [Tryd.ntmps37, List.size_toArray, List.length_cons, List.length_nil, Nat.reduceAdd, Nat.reduceSub, Array.replicate_succ, Array.replicate_zero, List.push_toArray, List.append_toArray, List.nil_append, List.cons_append]
  gi_wp2_with (first
    | (refine ⟨trivial, fun h => (by cases h), ?_⟩; gi_at_call 45; refine (i1.out _ ((Below.refl _ W).alloc (Nat.le_refl _) _)).mono ?_; rintro e W1 ⟨rfl, hb1⟩; obtain ⟨hc1, hf1⟩ := bcell hb1; have hz1 := hb1.size; simp at hz1; have hn1 : W.heap.size < W1.heap.size := (by omega))
    | (refine ⟨trivial, fun h => (by cases h), ?_⟩; gi_at_call 46; refine (i2.out _ (six W W1 hb1 _ _ _ _ _ _).1).mono ?_; rintro e W2 ⟨g, rfl, hb2, hg2, hge⟩; have hx := hb2.block W.heap.size (by simp; omega); rw [(six W W1 hb1 _ _ _ _ _ _).2] at hx; have hB2 := (six W W1 hb1 _ _ _ _ _ _).1.trans (hb2.mono (six W W1 hb1 _ _ _ _ _ _).1.size); have HX := Lib.hid hx; have HG := Lib.hid hg2; have HB2 := Lib.hid hB2; clear hx hg2 hB2 hc1 hf1))
  have HJ2 := Lib.hid (hJ pre W W2 none hj (grown_of_below HB2.out none) (fun r e => by cases e))
  have HBX := Lib.hid (hB.trans (HB2.out.mono hB.size))
  gi_loopw [42] (fun i wr => ∃ (j : Nat) (q : List (ItemAt W0)), i = .int .i64 j ∧ j ≤ 1 ∧ q.map dOf = (([ds].take j).flatten).map (s.within ls cs).ap ∧ J (pre ++ q) wr ∧ KT W0.heap.size W2 wr) (fun i _ => 1 - (intOf i).toNat)
  case atStart => exact ⟨0, [], rfl, by omega, by simp, by simpa using HJ2.out, KT.refl _ _⟩
  case round =>
    obtain ⟨j, q, rfl, hj1, hq, hJq, hKT⟩ := hrel
    by_cases hlt : j < 1
    · obtain rfl : j = 0 := by omega
      obtain ⟨b0, b1, b2, b3, b4, b5⟩ := box_cells (hKT.mine _ _ _ _ HX.out (.inl rfl))
      have hgc := hKT.mine _ _ _ _ HG.out (.inr rfl)
      have hg0 : wr.cell? ⟨g, 0, none⟩ = some (.iface tx x) := by simp [World.cell?, hgc]
      have hI := Lib.hid (ih (.iface tx x) ds (s.within ls cs) (k + 1) (m - 1) (pre ++ q) wr hE hok (by omega) (HBX.out.trans hKT.below) hJq (by
        have := take_len hq (d := ds) rfl (N := N) (p := pre.length) (by simpa using hN)
        simpa using this))
      have HQ := Lib.hid hq
      have HGC := Lib.hid hgc
      clear hq hgc
      gi_wp2_with (refine ⟨trivial, fun h => (by cases h), ?_⟩; gi_at_call 37; refine hI.out.mono ?_; clear hI; rintro e W3 (⟨rfl, q2, hq2, hJ3, hk3⟩ | ⟨rfl, q2, hq2, hne, hx3⟩))
      · go_roundw
        case rel => exact ⟨1, q ++ q2, rfl, by omega, rel_step HQ.out rfl hq2, by rw [← List.append_assoc]; exact hJ3, hKT.trans hk3⟩
        case measure => simp [intOf]
      · go_ret
        refine .inr ⟨rfl, q ++ q2, ?_, by simp [hne], by rw [← List.append_assoc]; exact hx3⟩
        have := rel_stop HQ.out (d := ds) rfl hq2
        simpa using this
    · obtain rfl : j = 1 := by omega
      have HQ := Lib.hid hq
      clear hq
      gi_wp2_with fail
      go_ret
      refine .inl ⟨rfl, q, by simpa using HQ.out, hJq, (KT.of_below HB2.out hB.size).trans hKT⟩
end Go.Proofs.YtalopkplpbdgjaaDoor
