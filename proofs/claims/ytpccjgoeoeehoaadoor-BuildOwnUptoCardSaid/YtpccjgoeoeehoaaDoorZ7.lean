/- The document's own answer for documents: may a node stand there? The document's own answer for documents: may one be? -/
import Derived.Test.YtpccjgoeoeehoaaDoorDq
import Derived.Test.YtpccjgoeoeehoaaDoorDr
import Derived.Test.YtpccjgoeoeehoaaDoorDs
import Derived.Test.YtpccjgoeoeehoaaDoorQ2
import Derived.Test.YtpccjgoeoeehoaaDoorB0
set_option linter.unusedVariables false
set_option linter.unusedSimpArgs false
namespace Go.Proofs.YtpccjgoeoeehoaaDoor
open Go.RowKit
attribute [local go_sem ↓ high] binop_eqT binop_neqT
theorem rnode_any (S : Nat → Prop) : ∀ (n : Nat) (y : Nd), cntN y = n → nlN y ≤ 90000 → ∀ (x : NV) (m : Int) (w : World), HdIs S w x y.hd → NsS S w (pv x.kids) y.kids → (∀ b, S b → b < w.heap.size) →
    Calls Tryd.prog 51 #[.agg (ncell x).toArray, .int .i64 m] w fun e w' => e = .returned (.bool (rtN y m)) ∧ Below w.heap.size w w' := by
  intro n
  induction n using Nat.strongRecOn with
  | _ n IH =>
    intro y hn hb x m w hh hk hS
    have HIH : Hid (∀ (y : Nd), cntN y < n → nlN y ≤ 90000 → ∀ (x : NV) (m : Int) (w : World), HdIs S w x y.hd → NsS S w (pv x.kids) y.kids → (∀ b, S b → b < w.heap.size) → Calls Tryd.prog 51 #[.agg (ncell x).toArray, .int .i64 m] w fun e w' => e = .returned (.bool (rtN y m)) ∧ Below w.heap.size w w') := Lib.hid (fun y h1 h2 x m w => IH (cntN y) h1 y rfl h2 x m w)
    cases h1 : rh1 y.hd (hasK y.kids) m
    · exact rnode_a S n y hn hb x m w hh hk hS HIH h1 rfl rfl
    · cases h2 : rh2 y.hd (hasK y.kids)
      · exact rnode_b S n y hn hb x m w hh hk hS HIH h1 h2 rfl
      · cases h3 : rh3 y.hd
        · exact rnode_c S n y hn hb x m w hh hk hS HIH h1 h2 h3
        · exact rnode_d S n y hn hb x m w hh hk hS HIH h1 h2 h3
end Go.Proofs.YtpccjgoeoeehoaaDoor
namespace Go.Proofs.YtpccjgoeoeehoaaDoor
open Go.RowKit
set_option maxRecDepth 100000 in
set_option maxHeartbeats 4000000 in
theorem rcheck_any (S : Nat → Prop) (m : Nm) (l : List Nd) (v : Value) (w : World) (hb : nlL l ≤ 90000) (hv : NsS S w v l) (hS : ∀ x, S x → x < w.heap.size) :
    Calls Tryd.prog 21 #[docV m v] w fun e w' => e = .returned (.int .i64 (checkL l)) ∧ Below w.heap.size w w' := by
  have hcl := cnt_nlL l
  have hdl := dp_cntL l
  have hll := cnt_len l
  obtain ⟨X, hX⟩ : ∃ X, X = w.alloc (.cells (docL m v).toArray 29) := ⟨_, rfl⟩
  have bX : Below w.heap.size w X := by rw [hX]; exact below_lit w _
  have kX : Blk X w.heap.size 29 (docL m v) := by rw [hX]; exact heap_alloc_new w _
  have HC : Hid (∀ W, Below X.heap.size X W → W.cell? ⟨w.heap.size, 4, none⟩ = some v) := Lib.hid (fun W h => (kX.below h).cell 4)
  have HBB : Hid (∀ W, Below X.heap.size X W → Below w.heap.size w W) := Lib.hid (fun W h => bX.trans (h.mono bX.size))
  have HCN : Hid (∀ W, Below X.heap.size X W → Calls Tryd.prog 49 #[v] W fun e w' => e = .returned (.int .i64 (cntL l : Int)) ∧ Below X.heap.size X w') := Lib.hid (fun W h =>
    (rcount_any S (cntL l) l rfl (by omega) v W (hv.keep (Kp.below (HBB.out W h) hS))).mono fun e w' ⟨e1, k, e2⟩ => ⟨e1, by rw [e2]; exact below_drewN h k⟩)
  have HDP : Hid (∀ W, Below X.heap.size X W → Calls Tryd.prog 50 #[v] W fun e w' => e = .returned (.int .i64 (dpL l : Int)) ∧ Below X.heap.size X w') := Lib.hid (fun W h =>
    (rdeep_any S (cntL l) l rfl (by omega) v W (hv.keep (Kp.below (HBB.out W h) hS))).mono fun e w' ⟨e1, k, e2⟩ => ⟨e1, by rw [e2]; exact below_drewN h k⟩)
  have HV := Lib.hid hv
  have HS := Lib.hid hS
  obtain ⟨va, vc, rfl⟩ := hv.len
  unfold checkL
  obtain ⟨c, hc⟩ : ∃ c, cntL l = c := ⟨_, rfl⟩
  obtain ⟨d, hd⟩ : ∃ c, dpL l = c := ⟨_, rfl⟩
  rw [hc] at HCN ⊢
  rw [hd] at HDP ⊢
  have HXW : Hid (X = w.alloc (.cells #[.string ⟨m.a.toArray⟩, .string ⟨m.b.toArray⟩, .string ⟨m.c.toArray⟩, .string ⟨m.d.toArray⟩, .slice va l.length vc] 29)) := Lib.hid hX
  have HX := Lib.hid (Below.refl X.heap.size X)
  unfold docV docL
  obtain ⟨A, hA⟩ : ∃ A : Int, (if 20000 < c ∨ 20 < d then 3 else if rtL l 0 = true then 0 else 2) = A := ⟨_, rfl⟩
  rw [hA]
  clear hX bX kX hv hS hcl hdl hd
  have u4 := HC.out X HX.out
  by_cases h1 : 20000 < c
  · have e1 : decide ((20000 : Int) < (c : Int)) = true := decide_eq_true (by omega)
    have e1' : decide ((c : Int) > (20000 : Int)) = true := e1
    rw [if_pos (.inl h1)] at hA
    subst hA
    go_enter Tryd.func21, Tryd.ntmps21
    go_upto_region 1 with fail
    rw [← HXW.out]
    clear HXW
    go_wp2_with fail
    refine (HCN.out _ HX.out).mono ?_
    rintro e w1 ⟨rfl, b1⟩
    have B1 := Lib.hid b1
    clear b1 u4
    go_wp2_with fail
    all_goals
      go_ret
      exact ⟨rfl, HBB.out _ B1.out⟩
  · have e1 : decide ((20000 : Int) < (c : Int)) = false := decide_eq_false (by omega)
    have e1' : decide ((c : Int) > (20000 : Int)) = false := e1
    by_cases h2 : 20 < d
    · have e2 : decide ((20 : Int) < (d : Int)) = true := decide_eq_true (by omega)
      have e2' : decide ((d : Int) > (20 : Int)) = true := e2
      rw [if_pos (.inr h2)] at hA
      subst hA
      go_enter Tryd.func21, Tryd.ntmps21
      go_upto_region 1 with fail
      rw [← HXW.out]
      clear HXW
      go_wp2_with fail
      refine (HCN.out _ HX.out).mono ?_
      rintro e w1 ⟨rfl, b1⟩
      have B1 := Lib.hid b1
      clear u4
      have u4 := HC.out w1 b1
      clear b1
      go_wp2_with fail
      refine (HDP.out _ B1.out).mono ?_
      rintro e w2 ⟨rfl, b2⟩
      have B2 := Lib.hid b2
      clear b2 u4
      go_wp2_with fail
      all_goals
        go_ret
        exact ⟨rfl, HBB.out _ B2.out⟩
    · have e2 : decide ((20 : Int) < (d : Int)) = false := decide_eq_false (by omega)
      have e2' : decide ((d : Int) > (20 : Int)) = false := e2
      rw [if_neg (by omega)] at hA
      have HAA := Lib.hid hA
      clear hA
      go_enter Tryd.func21, Tryd.ntmps21
      go_upto_region 1 with fail
      rw [← HXW.out]
      clear HXW
      go_wp2_with fail
      refine (HCN.out _ HX.out).mono ?_
      rintro e w1 ⟨rfl, b1⟩
      have B1 := Lib.hid b1
      clear u4
      have u4 := HC.out w1 b1
      clear b1
      go_wp2_with fail
      refine (HDP.out _ B1.out).mono ?_
      rintro e w2 ⟨rfl, b2⟩
      have B2 := Lib.hid b2
      clear u4 b2 HCN HDP HX B1
      go_wp2_with fail
      go_loopw [3] (fun i wr => ∃ (p : Nat), i = .int .i64 (p : Int) ∧ p ≤ l.length ∧ Hid (Below X.heap.size X wr) ∧ Hid (rtL (l.take p) 0 = true)) (fun i _ => l.length - (intOf i).toNat)
      case atStart => exact ⟨0, rfl, by omega, B2, Lib.hid (by simp [rtL])⟩
      case round =>
        obtain ⟨p, rfl, hp, BB, HT⟩ := hrel
        have u4 := HC.out wr BB.out
        by_cases hlt : p < l.length
        · obtain ⟨y, hy⟩ : ∃ y, l[p]? = some y := ⟨l[p], List.getElem?_eq_getElem hlt⟩
          have HN := Lib.hid (rt_next hy 0)
          have lc := cnt_le hy
          have ln := nl_le hy
          have hnl := nlN_eq y
          have hbw := HBB.out wr BB.out
          obtain ⟨g, off, x, rfl, hC, hh, hK⟩ := (below_ns HV.out hbw HS.out).atC hy
          have hlt' : (p : Int) < (l.length : Int) := by omega
          have hp0 : (0 : Int) ≤ (p : Int) := by omega
          have h1 := rnode_any S (cntN y) y rfl (by omega) x 0 wr hh hK (fun z hz => Nat.lt_of_lt_of_le (HS.out z hz) hbw.size)
          have c0 := hC.c0
          have c1 := hC.c1
          have c2 := hC.c2
          have c3 := hC.c3
          have c4 := hC.c4
          have c5 := hC.c5
          have c6 := hC.c6
          have c7 := hC.c7
          have c8 := hC.c8
          have c9 := hC.c9
          obtain ⟨k, xl, xn, ⟨t1, t2, t3⟩, ⟨k1, k2, k3⟩, ⟨r1, r2, r3⟩, xc, ⟨q1, q2, q3⟩, xb, xa⟩ := x
          simp only [ncell, pv] at h1 c0 c1 c2 c3 c4 c5 c6 c7 c8 c9
          have H1 := Lib.hid h1
          obtain ⟨q, hq⟩ : ∃ q, rtN y 0 = q := ⟨_, rfl⟩
          rw [hq] at H1 HN
          clear hy hq h1 hh hK hC hbw
          go_wp2_with fail
          refine H1.out.mono ?_
          rintro e w3 ⟨rfl, b1⟩
          have B3 : Hid (Below X.heap.size X w3) := Lib.hid (BB.out.trans (b1.mono BB.out.size))
          clear b1 H1 u4 c0 c1 c2 c3 c4 c5 c6 c7 c8 c9
          cases q
          · go_wp2_with fail
            go_ret
            refine ⟨?_, HBB.out _ B3.out⟩
            have hsp : rtL (l.take (p + 1) ++ l.drop (p + 1)) 0 = rtL l 0 := by rw [List.take_append_drop]
            rw [rtL_app, HN.out] at hsp
            have hA := HAA.out
            rw [← hsp] at hA
            simp at hA
            rw [← hA]
            rfl
          · have HN2 : Hid (rtL (l.take (p + 1)) 0 = true) := Lib.hid (by rw [HN.out, HT.out]; rfl)
            have u4 := HC.out w3 B3.out
            go_wp2_with fail
            go_roundw
            case rel => exact ⟨p + 1, by go_num, by omega, B3, HN2⟩
            case measure => (simp [intOf]; try omega)
        · obtain rfl : p = l.length := by omega
          have hlt' : ¬ (l.length : Int) < (l.length : Int) := by omega
          go_wp2_with fail
          go_ret
          refine ⟨?_, HBB.out _ BB.out⟩
          have hA := HAA.out
          have ht := HT.out
          rw [List.take_length] at ht
          rw [ht, if_pos rfl] at hA
          rw [← hA]
          rfl
end Go.Proofs.YtpccjgoeoeehoaaDoor
