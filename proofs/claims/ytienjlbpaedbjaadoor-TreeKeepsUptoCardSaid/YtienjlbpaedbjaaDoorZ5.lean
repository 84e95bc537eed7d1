/- The program's own for documents: may one be? -/
import Derived.Test.YtienjlbpaedbjaaDoorZ4
import Derived.Test.YtienjlbpaedbjaaDoorDa
import Derived.Test.YtienjlbpaedbjaaDoorQ2
namespace Go.Proofs.YtienjlbpaedbjaaDoor
open Go.RowKit

set_option maxRecDepth 100000 in
set_option maxHeartbeats 2000000 in
theorem pcheck_any (S : Nat → Prop) (m : Nm) (l : List Nd) (v : Value) (w : World) (hb : nlL l ≤ 90000) (hv : NsS S w v l) (hS : ∀ x, S x → x < w.heap.size) :
    Calls Tryd.prog 14 #[docV m v] w fun e w' => e = .returned (.int .i64 (checkL l)) ∧ Below w.heap.size w w' := by
  have hcl := cnt_nlL l
  have hdl := dp_cntL l
  obtain ⟨X, hX⟩ : ∃ X, X = w.alloc (.cells (docL m v).toArray 24) := ⟨_, rfl⟩
  have bX : Below w.heap.size w X := by rw [hX]; exact below_lit w _
  have kX : Blk X w.heap.size 24 (docL m v) := by rw [hX]; exact heap_alloc_new w _
  have HC : Hid (∀ W, Below X.heap.size X W → W.cell? ⟨w.heap.size, 4, none⟩ = some v) := Lib.hid (fun W h => (kX.below h).cell 4)
  have HBB : Hid (∀ W, Below X.heap.size X W → Below w.heap.size w W) := Lib.hid (fun W h => bX.trans (h.mono bX.size))
  have HCN : Hid (∀ W, Below X.heap.size X W → Calls Tryd.prog 21 #[v] W fun e w' => e = .returned (.int .i64 (cntL l : Int)) ∧ Below X.heap.size X w') := Lib.hid (fun W h =>
    (pcount_any S l v W (by omega) (hv.keep (Kp.below (HBB.out W h) hS)) (fun b q => Nat.lt_of_lt_of_le (hS b q) (HBB.out W h).size)).mono fun e w' ⟨e1, e2⟩ => ⟨e1, h.trans (e2.mono h.size)⟩)
  have HDP : Hid (∀ W, Below X.heap.size X W → Calls Tryd.prog 22 #[v] W fun e w' => e = .returned (.int .i64 (dpL l : Int)) ∧ Below X.heap.size X w') := Lib.hid (fun W h =>
    (pdeep_any S (cntL l) l rfl (by omega) v W (hv.keep (Kp.below (HBB.out W h) hS)) (fun b q => Nat.lt_of_lt_of_le (hS b q) (HBB.out W h).size)).mono fun e w' ⟨e1, e2⟩ => ⟨e1, h.trans (e2.mono h.size)⟩)
  have HFT : Hid (∀ W, Below X.heap.size X W → Calls Tryd.prog 34 #[.int .i64 0, v] W fun e w' => e = .returned (.bool (rtL l 0)) ∧ Below X.heap.size X w') := Lib.hid (fun W h =>
    (pfit_any S (cntL l) l rfl (by omega) 0 v W (hv.keep (Kp.below (HBB.out W h) hS)) (fun b q => Nat.lt_of_lt_of_le (hS b q) (HBB.out W h).size)).mono fun e w' ⟨e1, e2⟩ => ⟨e1, h.trans (e2.mono h.size)⟩)
  obtain ⟨va, vc, rfl⟩ := hv.len
  unfold checkL
  obtain ⟨c, hc⟩ : ∃ c, cntL l = c := ⟨_, rfl⟩
  obtain ⟨d, hd⟩ : ∃ c, dpL l = c := ⟨_, rfl⟩
  obtain ⟨r, hr⟩ : ∃ c, rtL l 0 = c := ⟨_, rfl⟩
  rw [hc] at HCN ⊢
  rw [hd] at HDP ⊢
  rw [hr] at HFT ⊢
  have HXW : Hid (X = w.alloc (.cells #[.string ⟨m.a.toArray⟩, .string ⟨m.b.toArray⟩, .string ⟨m.c.toArray⟩, .string ⟨m.d.toArray⟩, .slice va l.length vc] 24)) := Lib.hid hX
  have HX := Lib.hid (Below.refl X.heap.size X)
  unfold docV docL
  obtain ⟨A, hA⟩ : ∃ A : Int, (if 20000 < c ∨ 20 < d then 3 else if r = true then 0 else 2) = A := ⟨_, rfl⟩
  rw [hA]
  clear hc hd hr hX bX kX hv hS hcl hdl
  have u4 := HC.out X HX.out
  by_cases h1 : 20000 < c
  · have e1 : decide ((20000 : Int) < (c : Int)) = true := decide_eq_true (by omega)
    have e1' : decide ((c : Int) > (20000 : Int)) = true := e1
    rw [if_pos (.inl h1)] at hA
    subst hA
    go_enter Tryd.func14, Tryd.ntmps14
    go_upto_region 1 with fail
    rw [← HXW.out]
    clear HXW
    go_wp2_with fail
    refine (HCN.out _ HX.out).mono ?_
    rintro e w1 ⟨rfl, b1⟩
    have B1 := Lib.hid b1
    clear b1 u4
    go_wp2_with fail
    all_goals
      go_ret
      exact ⟨rfl, HBB.out _ B1.out⟩
  · have e1 : decide ((20000 : Int) < (c : Int)) = false := decide_eq_false (by omega)
    have e1' : decide ((c : Int) > (20000 : Int)) = false := e1
    by_cases h2 : 20 < d
    · have e2 : decide ((20 : Int) < (d : Int)) = true := decide_eq_true (by omega)
      have e2' : decide ((d : Int) > (20 : Int)) = true := e2
      rw [if_pos (.inr h2)] at hA
      subst hA
      go_enter Tryd.func14, Tryd.ntmps14
      go_upto_region 1 with fail
      rw [← HXW.out]
      clear HXW
      go_wp2_with fail
      refine (HCN.out _ HX.out).mono ?_
      rintro e w1 ⟨rfl, b1⟩
      have B1 := Lib.hid b1
      clear u4
      have u4 := HC.out w1 b1
      clear b1
      go_wp2_with fail
      refine (HDP.out _ B1.out).mono ?_
      rintro e w2 ⟨rfl, b2⟩
      have B2 := Lib.hid b2
      clear b2 u4
      go_wp2_with fail
      all_goals
        go_ret
        exact ⟨rfl, HBB.out _ B2.out⟩
    · have e2 : decide ((20 : Int) < (d : Int)) = false := decide_eq_false (by omega)
      have e2' : decide ((d : Int) > (20 : Int)) = false := e2
      rw [if_neg (by omega)] at hA
      go_enter Tryd.func14, Tryd.ntmps14
      go_upto_region 1 with fail
      rw [← HXW.out]
      clear HXW
      go_wp2_with fail
      refine (HCN.out _ HX.out).mono ?_
      rintro e w1 ⟨rfl, b1⟩
      have B1 := Lib.hid b1
      clear u4
      have u4 := HC.out w1 b1
      clear b1
      go_wp2_with fail
      refine (HDP.out _ B1.out).mono ?_
      rintro e w2 ⟨rfl, b2⟩
      have B2 := Lib.hid b2
      clear u4
      have u4 := HC.out w2 b2
      clear b2
      go_wp2_with fail
      refine (HFT.out _ B2.out).mono ?_
      rintro e w3 ⟨rfl, b3⟩
      have B3 := Lib.hid b3
      clear b3 u4
      cases r with
      | true =>
        rw [if_pos rfl] at hA
        subst hA
        go_wp2_with fail
        all_goals
          go_ret
          exact ⟨rfl, HBB.out _ B3.out⟩
      | false =>
        rw [if_neg (by decide)] at hA
        subst hA
        go_wp2_with fail
        all_goals
          go_ret
          exact ⟨rfl, HBB.out _ B3.out⟩
end Go.Proofs.YtienjlbpaedbjaaDoor
