/- The walk of LinesWrites. -/
import Derived.Test.YteckiifnldcjbaaDoorKU
import Derived.Test.YteckiifnldcjbaaDoorRo
import Derived.Deep.RegionWith
namespace Go.Proofs.YteckiifnldcjbaaDoor
open Go.RowKit
attribute [local go_sem ↓ high] binop_addS binop_eqlS binop_neqS

theorem rows_num (l : List Row) : 2 * l.length ≤ rowsLen l := by
  induction l with
  | nil => simp [rowsLen]
  | cons y l ih =>
    simp only [rowsLen, List.map_cons, List.sum_cons, List.length_cons] at ih ⊢
    unfold rowLen at ih ⊢
    omega

set_option maxRecDepth 100000 in
set_option maxHeartbeats 8000000 in
theorem writesL_any (l : List Row) (v : Value) (w : World) (hM : Mx w) (hv : Rws w v l) (hB : rowsLen l ≤ 4000000) :
    Calls Tryd.prog 4 #[v] w fun e W' => e = .returned (.bool true) ∧ Below w.heap.size w W' := by
  have hnum := rows_num l
  have har : ∀ y ∈ l, y.2.2.1.length ≤ 4000000000000000000 := fun y hy => by
    have := rowLen_le hy
    unfold rowLen at this
    omega
  have hL := rlong_any l v w hv (by omega) har
  have hwr : IntKind.i64.wrap (rowsLen l : Int) = (rowsLen l : Int) := IntWalk.i64_in _ (by omega)
  rw [hwr] at hL
  have HM := Lib.hid (fun W (h : Below w.heap.size w W) => hM.below (Nat.le_refl _) h)
  have HV := Lib.hid hv
  have HL := Lib.hid hL
  have HK := Lib.hid (fun W h => known_any W h)
  obtain ⟨aa, ca, rfl⟩ := hv.len
  clear hM hL hv hwr har
  obtain ⟨N, hN⟩ : ∃ N, rowsLen l = N := ⟨_, rfl⟩
  rw [hN] at HL hnum hB
  have HNN := Lib.hid hN
  clear hN
  by_cases h2 : 2000 < N
  · have hz : (2000 : Int) < (N : Int) := by omega
    go_enter Tryd.func4, Tryd.ntmps4
    go_wp2_with fail
    refine HL.out.mono ?_
    rintro e w1 ⟨rfl, m, rfl⟩
    have B1 := Lib.hid (below_drewN (Below.refl w.heap.size w) m)
    have K2 := Lib.hid (HK.out _ (HM.out _ B1.out))
    clear HL
    go_wp2_with fail
    refine K2.out.mono ?_
    rintro e w2 ⟨rfl, b2⟩
    have B2 := Lib.hid (B1.out.trans (b2.mono B1.out.size))
    clear b2 K2
    go_wp2_with fail
    go_ret
    exact ⟨rfl, B2.out⟩
  · have hz : ¬ (2000 : Int) < (N : Int) := by omega
    have hln : l.length ≤ 1000 := by omega
    go_enter Tryd.func4, Tryd.ntmps4
    go_wp2_with fail
    refine HL.out.mono ?_
    rintro e w1 ⟨rfl, m, rfl⟩
    have B1 := Lib.hid (below_drewN (Below.refl w.heap.size w) m)
    clear HL
    go_wp2_with fail
    go_loopw [3] (fun i wr => ∃ j : Nat, j ≤ l.length ∧ i = .int .i64 j ∧ Hid (Below w.heap.size w wr)) (fun i _ => l.length - (intOf i).toNat)
    case atStart => exact ⟨0, by omega, rfl, B1⟩
    case round =>
      obtain ⟨j, hj, rfl, BB⟩ := hrel
      by_cases hlt : j < l.length
      · obtain ⟨y, hy⟩ : ∃ y, l[j]? = some y := ⟨l[j], List.getElem?_eq_getElem hlt⟩
        have hyl := rowLen_le (List.mem_iff_getElem?.2 ⟨j, hy⟩)
        rw [HNN.out] at hyl
        have hlt' : (j : Int) < (l.length : Int) := by omega
        have hj0 : (0 : Int) ≤ (j : Int) := by omega
        unfold rowLen at hyl
        obtain ⟨g, off, rfl, c0, c1, ⟨a1, n1, p1, c2, s2⟩, c3⟩ := HV.out.at hy
        obtain ⟨y0, y1, y2, y3⟩ := y
        simp only at c0 c1 c2 c3 s2 hyl
        have hel : ∀ x ∈ y2, x.length ≤ 2000 := fun x hx => by have := tot_mem hx; omega
        have HCC : Hid (∀ W, Below w.heap.size w W → W.cell? ⟨g, off + j * 4, none⟩ = some (.int .i64 y0) ∧ W.cell? ⟨g, off + j * 4 + 1, none⟩ = some (.string ⟨y1.toArray⟩) ∧ W.cell? ⟨g, off + j * 4 + 2, none⟩ = some (.slice a1 n1 p1) ∧ W.cell? ⟨g, off + j * 4 + 3, none⟩ = some (.string ⟨y3.toArray⟩)) := Lib.hid (fun W h =>
          ⟨(h.cell (World.block_lt_of_cell? w _ c0)).trans c0, (h.cell (World.block_lt_of_cell? w _ c1)).trans c1, (h.cell (World.block_lt_of_cell? w _ c2)).trans c2, (h.cell (World.block_lt_of_cell? w _ c3)).trans c3⟩)
        have hC := fun W (h : Below w.heap.size w W) => check_any y0 y1 (a1, n1, p1) y2 y3 W (s2.below h) (by omega) (by omega) (by omega) (fun x hx => by have := hel x hx; omega)
        have hR := fun W (h : Below w.heap.size w W) => rcheck_any y0 y1 (a1, n1, p1) y2 y3 W (s2.below h) (by omega) (by omega) (fun x hx => by have := hel x hx; omega)
        unfold rowV avOf at hC hR
        obtain ⟨r, hr⟩ : ∃ r, (if okRow y1 y2 y3 = true then (0 : Int) else 2) = r := ⟨_, rfl⟩
        simp only [hr] at hC hR
        have HC := Lib.hid hC
        have HR := Lib.hid hR
        have BD : Hid (Below w.heap.size w wr.drew) := Lib.hid BB.out.drew
        have hrr : (r != r) = false := by simp
        obtain ⟨d0, d1, d2, d3⟩ := HCC.out wr BB.out
        clear hC hR hr c0 c1 c2 c3 s2 hel hy
        go_wp2_with fail
        go_region_with ((first
          | (go_at_call 18; (with_reducible refine (HC.out _ BD.out).mono ?_); rintro e wa ⟨rfl, ba⟩; have BA : Hid (Below w.heap.size w wa) := Lib.hid (BD.out.trans (ba.mono BD.out.size)); obtain ⟨x0, x1, x2, x3⟩ := HCC.out wa BA.out; clear ba)
          | (go_at_call 19; (with_reducible refine (HR.out _ BA.out).mono ?_); rintro e wb ⟨rfl, bb⟩; have BF : Hid (Below w.heap.size w wb) := Lib.hid (BA.out.trans (bb.mono BA.out.size)); obtain ⟨z0, z1, z2, z3⟩ := HCC.out wb BF.out; clear bb)
          | (go_at_call 19; (with_reducible refine (HR.out _ BD.out).mono ?_); rintro e wa ⟨rfl, ba⟩; have BA : Hid (Below w.heap.size w wa) := Lib.hid (BD.out.trans (ba.mono BD.out.size)); obtain ⟨x0, x1, x2, x3⟩ := HCC.out wa BA.out; clear ba)
          | (go_at_call 18; (with_reducible refine (HC.out _ BA.out).mono ?_); rintro e wb ⟨rfl, bb⟩; have BF : Hid (Below w.heap.size w wb) := Lib.hid (BA.out.trans (bb.mono BA.out.size)); obtain ⟨z0, z1, z2, z3⟩ := HCC.out wb BF.out; clear bb)))
        all_goals
          go_wp2_with fail
          go_roundw
          case rel => exact ⟨j + 1, by omega, by go_num, BF⟩
          case measure => (simp [intOf]; try omega)
      · obtain rfl : j = l.length := by omega
        have hlt' : ¬ (l.length : Int) < (l.length : Int) := by omega
        have hle : rowsLen l ≤ 2000 := by rw [HNN.out]; omega
        have HW := Lib.hid (write_any l (.slice aa l.length ca) wr (HM.out _ BB.out) (HV.out.below BB.out) hle (by omega))
        have EQ : ∀ W, (eqlS (.string ⟨(wrs l).toArray⟩) (.string ⟨(wrs l).toArray⟩)).run Tryd.prog W = .ok (.bool true) W := fun W => by
          have h := eqlS_run (wrs l) (wrs l) W
          rw [decide_eq_true rfl] at h
          exact h
        have HLE := Lib.hid hle
        clear hle
        go_wp2_with fail
        refine HW.out.mono ?_
        rintro e w2 ⟨rfl, b2⟩
        have B2 := Lib.hid (BB.out.trans (b2.mono BB.out.size))
        have HX := Lib.hid (refwrite_any l (.slice aa l.length ca) w2 (HV.out.below B2.out) HLE.out (by omega))
        clear b2 HW BB
        go_wp2_with fail
        refine HX.out.mono ?_
        rintro e w3 ⟨rfl, b3⟩
        have B3 := Lib.hid (B2.out.trans (b3.mono B2.out.size))
        have HS := Lib.hid (same_refl l (.slice aa l.length ca) w3 (HV.out.below B3.out) (by omega) (fun y hy => by
          have h1 := rowLen_le hy
          have h2 := HLE.out
          unfold rowLen at h1
          omega))
        clear b3 HX B2
        go_wp2_with fail
        refine HS.out.mono ?_
        rintro e w4 ⟨rfl, b4⟩
        have B4 := Lib.hid (B3.out.trans (b4.mono B3.out.size))
        have K5 := Lib.hid (HK.out _ (HM.out _ B4.out))
        clear b4 HS B3
        go_wp2_with fail
        refine K5.out.mono ?_
        rintro e w5 ⟨rfl, b5⟩
        have B5 := Lib.hid (B4.out.trans (b5.mono B4.out.size))
        clear b5 K5
        go_wp2_with fail
        go_ret
        exact ⟨rfl, B5.out⟩
end Go.Proofs.YteckiifnldcjbaaDoor
