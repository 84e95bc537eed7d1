/- The laws' own small functions for documents: plain. -/
import Derived.Test.YtienjlbpaedbjaaDoorQ2
import Derived.Test.YtienjlbpaedbjaaDoorD4
import Derived.Deep.DeepCutAuto
import Derived.StillTailTactics
namespace Go.Proofs.YtienjlbpaedbjaaDoor
open Go.RowKit

theorem pv_lenZ {α : Type} {n : Nat} {f : α → List Value} {w : World} {s : PV} {l : List α} (h : Fs n f w (pv s) l) : s.2.1 = l.length := by
  obtain ⟨a, cap, e⟩ := h.len
  rw [pv_eq e]
theorem pl_next {l : List Nd} {p : Nat} {y : Nd} (hy : l[p]? = some y) : plL (l.take (p + 1)) = (plL (l.take p) && plN y) := by
  rw [List.take_add_one, hy, plL_app]
  simp [plL]
theorem pl_bad {l : List Nd} {p : Nat} {y : Nd} (hy : l[p]? = some y) (h : plN y = false) : plL l = false := by
  have e : plL (l.take (p + 1) ++ l.drop (p + 1)) = plL l := by rw [List.take_append_drop]
  rw [plL_app, pl_next hy, h] at e
  rw [← e]
  simp
theorem pl_on {l : List Nd} {p : Nat} {y : Nd} (hy : l[p]? = some y) (h : plL (l.take p) = true) (hn : plN y = true) : plL (l.take (p + 1)) = true := by
  rw [pl_next hy, h, hn]
  rfl
theorem plN_num {S : Nat → Prop} {w : World} {x : NV} {y : Nd} (hh : HdIs S w x y.hd) (hK : NsS S w (pv x.kids) y.kids) :
    plN y = (decide (1 ≤ x.kind) && decide (x.kind ≤ 5) && decide (x.rows.2.1 = 0) && decide (x.trows.2.1 = 0) && !(x.kind == 5 && decide (0 < x.text.2.1)) && !(x.kind == 3 && decide (0 < x.kids.2.1)) && plL y.kids) := by
  obtain ⟨h, ks⟩ := y
  have lz : ∀ {α : Type} (l : List α), decide (l = []) = decide (l.length = 0) := fun l => by cases l <;> simp
  have ln : ∀ {α : Type} (l : List α), decide (l ≠ []) = decide (0 < l.length) := fun l => by cases l <;> simp
  have hk2 : ∀ {α : Type} (l : List α), hasK l = decide (0 < l.length) := fun l => by cases l <;> simp [hasK]
  have e1 := pv_lenZ hh.text.1
  obtain ⟨a1, b1, c1⟩ := hh.rows.len
  obtain ⟨a2, b2, c2⟩ := hh.trows.len
  obtain ⟨a3, b3, c3⟩ := hK.len
  have e2 := congrArg (fun z : PV => z.2.1) (pv_eq c1)
  have e3 := congrArg (fun z : PV => z.2.1) (pv_eq c2)
  have e4 := congrArg (fun z : PV => z.2.1) (pv_eq c3)
  simp only [Nd.hd, Nd.kids] at e1 e2 e3 e4 hh ⊢
  rw [hh.kind, e1, e2, e3, e4]
  unfold plN plainH
  rw [lz, lz, ln, hk2]
set_option maxRecDepth 100000 in
set_option maxHeartbeats 4000000 in
theorem plain_any (S : Nat → Prop) : ∀ (n : Nat) (l : List Nd), cntL l = n → n ≤ 1000000000 → ∀ (v : Value) (w : World), NsS S w v l → (∀ b, S b → b < w.heap.size) →
    Calls Tryd.prog 24 #[v] w fun e w' => e = .returned (.bool (plL l)) ∧ Below w.heap.size w w' := by
  intro n
  induction n using Nat.strongRecOn with
  | _ n IH =>
    intro l hn hb v w hv hS
    have HV := Lib.hid hv
    have HS := Lib.hid hS
    obtain ⟨aa, ca, rfl⟩ := hv.len
    have HI : Hid (∀ (k : List Nd), cntL k < n → ∀ (v : Value) (w : World), NsS S w v k → (∀ b, S b → b < w.heap.size) → Calls Tryd.prog 24 #[v] w fun e w' => e = .returned (.bool (plL k)) ∧ Below w.heap.size w w') := Lib.hid (fun k hk => IH (cntL k) hk k rfl (by omega))
    have hll := cnt_len l
    clear hv hS IH
    go_enter Tryd.func24, Tryd.ntmps24
    go_wp2_with fail
    go_loopw [3] (fun i wr => ∃ (p : Nat), i = .int .i64 (p : Int) ∧ p ≤ l.length ∧ Hid (plL (l.take p) = true) ∧ Hid (Below w.heap.size w wr)) (fun i _ => l.length - (intOf i).toNat)
    case atStart => exact ⟨0, rfl, by omega, Lib.hid (by simp [plL]), Lib.hid (Below.refl _ _)⟩
    case round =>
    obtain ⟨p, rfl, hp, HN, BB⟩ := hrel
    by_cases hlt : p < l.length
    · obtain ⟨y, hy⟩ : ∃ y, l[p]? = some y := ⟨l[p], List.getElem?_eq_getElem hlt⟩
      have HXX := Lib.hid hy
      have hle := cnt_le hy
      have hlt' : (p : Int) < (l.length : Int) := by omega
      have hp0 : (0 : Int) ≤ (p : Int) := by omega
      obtain ⟨g, off, x, rfl, hC, hh, hK⟩ := (below_ns HV.out BB.out HS.out).atC hy
      have hpn := plN_num hh hK
      have c0 := hC.c0
      have c1 := hC.c1
      have c2 := hC.c2
      have c3 := hC.c3
      have c4 := hC.c4
      have c5 := hC.c5
      have c6 := hC.c6
      have c7 := hC.c7
      have c8 := hC.c8
      have c9 := hC.c9
      obtain ⟨X, hX⟩ : ∃ X, X = wr.alloc (.cells (ncell x).toArray 39) := ⟨_, rfl⟩
      have bX : Below wr.heap.size wr X := by rw [hX]; exact below_lit _ _
      have kX : Blk X wr.heap.size 39 (ncell x) := by rw [hX]; exact heap_alloc_new wr _
      have hSr : ∀ b, S b → b < wr.heap.size := fun b hb => Nat.lt_of_lt_of_le (HS.out b hb) BB.out.size
      have hkd := HI.out y.kids (by omega) _ X (below_ns hK bX hSr) (fun b hb => Nat.lt_of_lt_of_le (hSr b hb) bX.size)
      obtain ⟨k, xl, xn, ⟨t1, t2, t3⟩, ⟨k1, k2, k3⟩, ⟨r1, r2, r3⟩, xc, ⟨q1, q2, q3⟩, xb, xa⟩ := x
      simp only [ncell, pv] at hkd hX kX hpn c0 c1 c2 c3 c4 c5 c6 c7 c8 c9
      have d0 : X.cell? ⟨wr.heap.size, 0, none⟩ = some (.int .i64 k) := kX.cell 0
      have d1 : X.cell? ⟨wr.heap.size, 1, none⟩ = some (.int .i64 xl) := kX.cell 1
      have d2 : X.cell? ⟨wr.heap.size, 2, none⟩ = some (.int .i64 xn) := kX.cell 2
      have d3 : X.cell? ⟨wr.heap.size, 3, none⟩ = some (.slice t1 t2 t3) := kX.cell 3
      have d4 : X.cell? ⟨wr.heap.size, 4, none⟩ = some (.slice k1 k2 k3) := kX.cell 4
      have d5 : X.cell? ⟨wr.heap.size, 5, none⟩ = some (.slice r1 r2 r3) := kX.cell 5
      have d6 : X.cell? ⟨wr.heap.size, 6, none⟩ = some (.string ⟨xc.toArray⟩) := kX.cell 6
      have d7 : X.cell? ⟨wr.heap.size, 7, none⟩ = some (.slice q1 q2 q3) := kX.cell 7
      have d8 : X.cell? ⟨wr.heap.size, 8, none⟩ = some (.bool xb) := kX.cell 8
      have d9 : X.cell? ⟨wr.heap.size, 9, none⟩ = some (.bool xa) := kX.cell 9
      obtain ⟨pk, hpk⟩ : ∃ q, plL y.kids = q := ⟨_, rfl⟩
      rw [hpk] at hkd hpn
      have HKD := Lib.hid hkd
      have HPN := Lib.hid hpn
      have HXW := Lib.hid hX
      have HFB : Hid (Below w.heap.size w X) := Lib.hid (BB.out.trans (bX.mono BB.out.size))
      have BX := HFB
      clear hX bX kX hSr hkd hpn hpk hy hh hK hC
      go_upto_region 5 with fail
      rw [← HXW.out]
      clear HXW c0 c1 c2 c3 c4 c5 c6 c7 c8 c9
      by_cases a1 : k < 1
      · have a1' : decide (k < 1) = true := decide_eq_true a1
        have HF : Hid (plN y = false) := Lib.hid (by rw [HPN.out]; rw [decide_eq_false (show ¬ 1 ≤ k by omega)]; rfl)
        go_wp2_with fail
        all_goals
          go_ret
          exact ⟨ret_bool (by rw [pl_bad HXX.out HF.out]), HFB.out⟩
      have a1' : decide (k < 1) = false := decide_eq_false a1
      by_cases a2 : k > 5
      · have a2' : decide (k > 5) = true := decide_eq_true a2
        have HF : Hid (plN y = false) := Lib.hid (by rw [HPN.out]; rw [decide_eq_false (show ¬ k ≤ 5 by omega)]; simp)
        go_wp2_with fail
        all_goals
          go_ret
          exact ⟨ret_bool (by rw [pl_bad HXX.out HF.out]), HFB.out⟩
      have a2' : decide (k > 5) = false := decide_eq_false a2
      by_cases a3 : (r2 : Int) > 0
      · have a3' : decide ((r2 : Int) > 0) = true := decide_eq_true a3
        have HF : Hid (plN y = false) := Lib.hid (by rw [HPN.out]; rw [decide_eq_false (show ¬ r2 = 0 by omega)]; simp)
        go_wp2_with fail
        all_goals
          go_ret
          exact ⟨ret_bool (by rw [pl_bad HXX.out HF.out]), HFB.out⟩
      have a3' : decide ((r2 : Int) > 0) = false := decide_eq_false a3
      by_cases a4 : (q2 : Int) > 0
      · have a4' : decide ((q2 : Int) > 0) = true := decide_eq_true a4
        have HF : Hid (plN y = false) := Lib.hid (by rw [HPN.out]; rw [decide_eq_false (show ¬ q2 = 0 by omega)]; simp)
        go_wp2_with fail
        all_goals
          go_ret
          exact ⟨ret_bool (by rw [pl_bad HXX.out HF.out]), HFB.out⟩
      have a4' : decide ((q2 : Int) > 0) = false := decide_eq_false a4
      by_cases a5 : k = 5
      · subst a5
        have a53 : ((5 : Int) == 3) = false := rfl
        by_cases a6 : (t2 : Int) > 0
        · have a6' : decide ((t2 : Int) > 0) = true := decide_eq_true a6
          have HF : Hid (plN y = false) := Lib.hid (by rw [HPN.out]; rw [decide_eq_true (show 0 < t2 by omega)]; simp)
          go_wp2_with fail
          all_goals
            go_ret
            exact ⟨ret_bool (by rw [pl_bad HXX.out HF.out]), HFB.out⟩
        · have a6' : decide ((t2 : Int) > 0) = false := decide_eq_false a6
          have HF : Hid (plN y = pk) := Lib.hid (by rw [HPN.out, decide_eq_true (show (1 : Int) ≤ 5 by omega), decide_eq_true (show (5 : Int) ≤ 5 by omega), decide_eq_true (show r2 = 0 by omega), decide_eq_true (show q2 = 0 by omega)]; rw [decide_eq_false (show ¬ 0 < t2 by omega)]; simp)
          go_wp2_with fail
          refine HKD.out.mono ?_
          rintro e w4 ⟨rfl, b4⟩
          have B4 : Hid (Below w.heap.size w w4) := Lib.hid (BX.out.trans (b4.mono BX.out.size))
          clear b4 HKD d0 d1 d2 d3 d4 d5 d6 d7 d8 d9
          cases pk with
          | false =>
            go_wp2_with fail
            all_goals
              go_ret
              exact ⟨ret_bool (by rw [pl_bad HXX.out HF.out]), B4.out⟩
          | true =>
            go_wp2_with fail
            go_roundw
            case rel => exact ⟨p + 1, by go_num, by omega, Lib.hid (pl_on HXX.out HN.out HF.out), B4⟩
            case measure => (simp [intOf]; try omega)
      · have a5' : (k == 5) = false := beq_eq_false_iff_ne.2 a5
        have a5'' : decide (k = 5) = false := decide_eq_false a5
        by_cases a7 : k = 3
        · subst a7
          clear a5 a5''
          by_cases a8 : (k2 : Int) > 0
          · have a8' : decide ((k2 : Int) > 0) = true := decide_eq_true a8
            have HF : Hid (plN y = false) := Lib.hid (by rw [HPN.out]; rw [decide_eq_true (show 0 < k2 by omega)]; simp)
            go_wp2_with fail
            all_goals
              go_ret
              exact ⟨ret_bool (by rw [pl_bad HXX.out HF.out]), HFB.out⟩
          · have a8' : decide ((k2 : Int) > 0) = false := decide_eq_false a8
            have HF : Hid (plN y = pk) := Lib.hid (by rw [HPN.out, decide_eq_true (show (1 : Int) ≤ 3 by omega), decide_eq_true (show (3 : Int) ≤ 5 by omega), decide_eq_true (show r2 = 0 by omega), decide_eq_true (show q2 = 0 by omega)]; rw [decide_eq_false (show ¬ 0 < k2 by omega)]; simp)
            obtain rfl : k2 = 0 := by omega
            go_wp2_with fail
            refine HKD.out.mono ?_
            rintro e w4 ⟨rfl, b4⟩
            have B4 : Hid (Below w.heap.size w w4) := Lib.hid (BX.out.trans (b4.mono BX.out.size))
            clear b4 HKD d0 d1 d2 d3 d4 d5 d6 d7 d8 d9
            cases pk with
            | false =>
              go_wp2_with fail
              all_goals
                go_ret
                exact ⟨ret_bool (by rw [pl_bad HXX.out HF.out]), B4.out⟩
            | true =>
              go_wp2_with fail
              go_roundw
              case rel => exact ⟨p + 1, by go_num, by omega, Lib.hid (pl_on HXX.out HN.out HF.out), B4⟩
              case measure => (simp [intOf]; try omega)
        · have a7' : (k == 3) = false := beq_eq_false_iff_ne.2 a7
          have a7'' : decide (k = 3) = false := decide_eq_false a7
          have HF : Hid (plN y = pk) := Lib.hid (by rw [HPN.out, decide_eq_true (show (1 : Int) ≤ k by omega), decide_eq_true (show (k : Int) ≤ 5 by omega), decide_eq_true (show r2 = 0 by omega), decide_eq_true (show q2 = 0 by omega)]; rw [a5', a7']; simp)
          go_wp2_with fail
          refine HKD.out.mono ?_
          rintro e w4 ⟨rfl, b4⟩
          have B4 : Hid (Below w.heap.size w w4) := Lib.hid (BX.out.trans (b4.mono BX.out.size))
          clear b4 HKD d0 d1 d2 d3 d4 d5 d6 d7 d8 d9
          cases pk with
          | false =>
            go_wp2_with fail
            all_goals
              go_ret
              exact ⟨ret_bool (by rw [pl_bad HXX.out HF.out]), B4.out⟩
          | true =>
            go_wp2_with fail
            go_roundw
            case rel => exact ⟨p + 1, by go_num, by omega, Lib.hid (pl_on HXX.out HN.out HF.out), B4⟩
            case measure => (simp [intOf]; try omega)
    · obtain rfl : p = l.length := by omega
      have hlt' : ¬ (l.length : Int) < (l.length : Int) := by omega
      have hall : plL l = true := by have := HN.out; rwa [List.take_length] at this
      have HALL := Lib.hid hall
      clear hall HN
      go_wp2_with fail
      go_ret
      exact ⟨ret_bool HALL.out.symm, BB.out⟩
end Go.Proofs.YtienjlbpaedbjaaDoor
