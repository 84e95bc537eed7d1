/- The contract of walk at a joined error: it yields what each one tells, in order. -/
import Derived.Test.YtalopkplpbdgjaaDoorW8
namespace Go.Proofs.YtalopkplpbdgjaaDoor
open Go.RowKit Go.Shelf Go.Extern.Stop Go.Stop Go.Extern

attribute [local go_sem] Oper.semAt_some

set_option maxRecDepth 100000 in
set_option maxHeartbeats 4000000 in
theorem walk_joined (W0 : World) (l N m n k : Nat) (J Jx : List (ItemAt W0) → World → Prop) (B0 : Nat) (hJ : AbidesFrom B0 J) (ih : WalkAt W0 l N J Jx n) (s : Spot) (hs : s.Ok k) (hk : k + (n + 1) ≤ 1048576)
    (b sb cap : Nat) (es : List (TypeId × Value)) (dss : List (List D)) (hp : 0 < es.length) (hmx : es.length ≤ 1000) (hl : dss.length = es.length) (h0 : W0.cell? ⟨b, 0, none⟩ = some (.slice (some ⟨sb, 0, none⟩) es.length cap))
    (hc : ∀ (j : Nat) (p : TypeId × Value), es[j]? = some p → W0.cell? ⟨sb, j, none⟩ = some (.iface p.1 p.2)) (hE : ∀ (j : Nat) (p : TypeId × Value) (d : List D), es[j]? = some p → dss[j]? = some d → Er W0 n (.iface p.1 p.2) d)
    (pre : List (ItemAt W0)) (W : World) (hB : Below W0.heap.size W0 W) (hj : J pre W) (hN : pre.length + dss.flatten.length ≤ N) :
    CallsIn Fence.wide m Tryd.prog 37 #[.iface 78 (.pointer (some ⟨b, 0, none⟩)), .agg #[.int .i64 s.a1, .int .i64 s.l1, .int .i64 s.h1, .int .i64 s.a2, .int .i64 s.l2, .int .i64 s.h2], .func (.yield l) #[] #[]] W (WalkPost W0 J Jx (dss.flatten.map s.ap) pre W) := by
  have hnot : ∀ (x : Bool) (w : World), (Op.unary .not (.bool x)).run Tryd.prog w = .ok (.bool (!x)) w := fun _ _ => rfl
  have ta := joined_no_moved
  have hlt0 := World.block_lt_of_cell? W0 _ h0
  have hlts : ∀ j p, es[j]? = some p → sb < W0.heap.size := fun j p hj => World.block_lt_of_cell? W0 _ (hc j p hj)
  simp only at hlt0
  have i2 := Lib.hid (fun (W1 : World) (hW : Below W.heap.size W W1) => (callsIn_wide (n := m - 1)).2 (inside_joined b sb cap es W1 hp hmx (by rw [(hB.trans (hW.mono hB.size)).cell (p := ⟨b, 0, none⟩) hlt0]; exact h0) (fun j p hj => by rw [(hB.trans (hW.mono hB.size)).cell (p := ⟨sb, j, none⟩) (hlts j p hj)]; exact hc j p hj)))
  have hx0 := Lib.hid (heap_alloc_new W (.cells #[.int .i64 s.a1, .int .i64 s.l1, .int .i64 s.h1, .int .i64 s.a2, .int .i64 s.l2, .int .i64 s.h2] 66))
  have HE := Lib.hid hE
  have HL := Lib.hid hl
  clear h0 hc hlts hE hl
  refine callsIn_of_wp Tryd.func37 rfl trivial ?_ rfl
  simp only [Tryd.ntmps37, List.size_toArray, List.length_cons, List.length_nil, Nat.reduceAdd, Nat.reduceSub, Array.replicate_succ, Array.replicate_zero, List.push_toArray, List.append_toArray, List.nil_append, List.cons_append]
  gi_wp2_with (refine ⟨trivial, fun h => (by cases h), ?_⟩; gi_at_call 46; refine (i2.out _ ((Below.refl _ W).alloc (Nat.le_refl _) _)).mono ?_; rintro e W2 ⟨v, rfl, ⟨g, cap', rfl, hge, ⟨cur, hcur⟩, hcells⟩, hb2⟩; have hx := (hb2.block W.heap.size (by simp)).trans hx0.out; have hB2 := ((Below.refl _ W).alloc (Nat.le_refl _) _).trans (hb2.mono (by simp)); have HX := Lib.hid hx; have HG := Lib.hid hcur; have HC := Lib.hid hcells; have HB2 := Lib.hid hB2; clear hx hcur hcells hB2 hx0)
  have HJ2 := Lib.hid (hJ pre W W2 none hj (grown_of_below HB2.out none) (fun r e => by cases e))
  have HBX := Lib.hid (hB.trans (HB2.out.mono hB.size))
  gi_loopw [42] (fun i wr => ∃ (j : Nat) (q : List (ItemAt W0)), i = .int .i64 j ∧ j ≤ es.length ∧ q.map dOf = ((dss.take j).flatten).map s.ap ∧ J (pre ++ q) wr ∧ KT W0.heap.size W2 wr) (fun i _ => es.length - (intOf i).toNat)
  case atStart => exact ⟨0, [], rfl, by omega, by simp, by simpa using HJ2.out, KT.refl _ _⟩
  case round =>
    obtain ⟨j, q, rfl, hj1, hq, hJq, hKT⟩ := hrel
    by_cases hlt : j < es.length
    · obtain ⟨b0, b1, b2, b3, b4, b5⟩ := box_cells (hKT.mine _ _ _ _ HX.out (.inl rfl))
      have hgc := hKT.mine _ _ _ _ HG.out (.inr rfl)
      obtain ⟨⟨tx, x⟩, hp1⟩ : ∃ p, es[j]? = some p := ⟨es[j], List.getElem?_eq_getElem hlt⟩
      obtain ⟨d, hd1⟩ : ∃ d, dss[j]? = some d := ⟨dss[j]'(by rw [HL.out]; exact hlt), List.getElem?_eq_getElem _⟩
      have hg0 : wr.cell? ⟨g, j, none⟩ = some (.iface tx x) := by
        rw [World.cell?_of_block (w := W2) (w' := wr) (hgc.trans HG.out.symm)]
        exact HC.out j (tx, x) hp1
      have hI := Lib.hid (ih (.iface tx x) d s k (m - 1) (pre ++ q) wr (HE.out j (tx, x) d hp1 hd1) hs (by omega) (HBX.out.trans hKT.below) hJq (by
        have := take_len hq hd1 (N := N) (p := pre.length) hN
        simpa using this))
      have HQ := Lib.hid hq
      have HD := Lib.hid hd1
      clear hq hgc hp1 hd1
      gi_wp2_with (refine ⟨trivial, fun h => (by cases h), ?_⟩; gi_at_call 37; refine hI.out.mono ?_; clear hI; rintro e W3 (⟨rfl, q2, hq2, hJ3, hk3⟩ | ⟨rfl, q2, hq2, hne, hx3⟩))
      · go_roundw
        case rel => exact ⟨j + 1, q ++ q2, by go_num, by omega, rel_step HQ.out HD.out hq2, by rw [← List.append_assoc]; exact hJ3, hKT.trans hk3⟩
        case measure => simp [intOf]; omega
      · go_ret
        exact .inr ⟨rfl, q ++ q2, rel_stop HQ.out HD.out hq2, by simp [hne], by rw [← List.append_assoc]; exact hx3⟩
    · obtain rfl : j = es.length := by omega
      have HQ := Lib.hid hq
      clear hq
      gi_wp2_with fail
      go_ret
      refine .inl ⟨rfl, q, ?_, hJq, (KT.of_below HB2.out hB.size).trans hKT⟩
      rw [HQ.out, ← HL.out, List.take_length]
end Go.Proofs.YtalopkplpbdgjaaDoor
