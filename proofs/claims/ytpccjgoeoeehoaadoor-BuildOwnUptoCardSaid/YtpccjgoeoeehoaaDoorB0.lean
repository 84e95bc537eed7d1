/- The document's own answer for documents: the same tables? The document's own answer for documents: the same nodes? The document's own answer for documents: the same documents (of one name)? Plain maths of layer 8: what a builder holds, and what becomes of it. -/
import Derived.Test.YtpccjgoeoeehoaaDoorQ2
import Derived.Laws.Strings3
import Derived.Lib.Strings
set_option linter.unusedVariables false
set_option linter.unusedSimpArgs false
namespace Go.Proofs.YtpccjgoeoeehoaaDoor
open Go.RowKit
noncomputable def eqT (a c : Value) : Sem Value := binOp .eql 9 a c
theorem binop_eqT (a c : Value) : binOp .eql 9 a c = eqT a c := rfl
noncomputable def neqT (a c : Value) : Sem Value := binOp .neq 9 a c
theorem binop_neqT (a c : Value) : binOp .neq 9 a c = neqT a c := rfl
theorem strX_eq (a c : List UInt8) : decide ((⟨a.toArray⟩ : ByteArray) = ⟨c.toArray⟩) = decide (a = c) := by
  apply bool_of_iff
  simp
theorem eqT_run (a c : List UInt8) (W : World) : (eqT (.string ⟨a.toArray⟩) (.string ⟨c.toArray⟩)).run Tryd.prog W = .ok (.bool (decide (a = c))) W := by
  rw [← strX_eq]
  unfold eqT
  simp [go_sem]
  exact bool_of_iff (by simp)
theorem neqT_run (a c : List UInt8) (W : World) : (neqT (.string ⟨a.toArray⟩) (.string ⟨c.toArray⟩)).run Tryd.prog W = .ok (.bool (!decide (a = c))) W := by
  rw [← strX_eq]
  unfold neqT
  simp [go_sem]
  exact bool_of_iff (by simp)
/-- A table's value. -/
def tabV (t : Tab) (r : PV) : Value := .agg #[.string ⟨t.cols.toArray⟩, pv r, .bool t.box, .bool t.all]
theorem tab_eq (a b : Tab) : a = b ↔ a.cols = b.cols ∧ a.rows = b.rows ∧ a.box = b.box ∧ a.all = b.all := by
  obtain ⟨a1, a2, a3, a4⟩ := a
  obtain ⟨b1, b2, b3, b4⟩ := b
  simp
attribute [local go_sem ↓ high] binop_eqT binop_neqT
set_option maxRecDepth 100000 in
set_option maxHeartbeats 4000000 in
theorem rsametable_any (S T : Nat → Prop) (a b : Tab) (r1 r2 : PV) (w : World) (hv : TrS S w (pv r1) a.rows) (hu : TrS T w (pv r2) b.rows) (hl : trls a.rows ≤ 1000000000) (hl' : trls b.rows ≤ 1000000000) (hS : ∀ x, S x → x < w.heap.size) (hT : ∀ x, T x → x < w.heap.size) :
    Calls Tryd.prog 57 #[tabV a r1, tabV b r2] w fun e w' => e = .returned (.bool (decide (a = b))) ∧ Below w.heap.size w w' := by
  obtain ⟨a1, z1, e1⟩ := hv.len
  obtain rfl := pv_eq e1
  obtain ⟨a2, z2, e2⟩ := hu.len
  obtain rfl := pv_eq e2
  unfold tabV pv
  simp only
  obtain ⟨A, hA⟩ : ∃ A : Obj, (.cells #[.string ⟨a.cols.toArray⟩, .slice a1 a.rows.length z1, .bool a.box, .bool a.all] 38 : Obj) = A := ⟨_, rfl⟩
  obtain ⟨B, hB⟩ : ∃ B : Obj, (.cells #[.string ⟨b.cols.toArray⟩, .slice a2 b.rows.length z2, .bool b.box, .bool b.all] 38 : Obj) = B := ⟨_, rfl⟩
  have bl : Below w.heap.size w ((w.alloc A).alloc B) := ((Below.refl _ w).alloc (Nat.le_refl _) _).alloc (by simp) _
  have hbA : Blk ((w.alloc A).alloc B) w.heap.size 38 [.string ⟨a.cols.toArray⟩, .slice a1 a.rows.length z1, .bool a.box, .bool a.all] := by
    rw [← hA]
    exact (heap_alloc_old _ _ (by simp)).trans (heap_alloc_new w _)
  have hbB : Blk ((w.alloc A).alloc B) (w.heap.size + 1) 38 [.string ⟨b.cols.toArray⟩, .slice a2 b.rows.length z2, .bool b.box, .bool b.all] := by
    rw [← hB]
    have := heap_alloc_new (w.alloc A) (.cells #[.string ⟨b.cols.toArray⟩, .slice a2 b.rows.length z2, .bool b.box, .bool b.all] 38)
    rw [World.size_alloc] at this
    exact this
  have hV := hv.keep (Kp.below bl hS)
  have hU := hu.keep (Kp.below bl hT)
  obtain ⟨w0, hw0⟩ : ∃ w0, (w.alloc A).alloc B = w0 := ⟨_, rfl⟩
  rw [hw0] at bl hbA hbB hV hU
  have BL := Lib.hid bl
  have HBA := Lib.hid hbA
  have HBB := Lib.hid hbB
  have HV := Lib.hid hV
  have HU := Lib.hid hU
  have W0 := Lib.hid hw0
  have NE := fun x y => neqT_run x y
  have hiff := tab_eq a b
  have htn := trls_len a.rows
  have c0 : w0.cell? ⟨w.heap.size, 0, none⟩ = some (.string ⟨a.cols.toArray⟩) := hbA.cell 0
  have c1 : w0.cell? ⟨w.heap.size, 1, none⟩ = some (.slice a1 a.rows.length z1) := hbA.cell 1
  have c2 : w0.cell? ⟨w.heap.size, 2, none⟩ = some (.bool a.box) := hbA.cell 2
  have c3 : w0.cell? ⟨w.heap.size, 3, none⟩ = some (.bool a.all) := hbA.cell 3
  have d0 : w0.cell? ⟨w.heap.size + 1, 0, none⟩ = some (.string ⟨b.cols.toArray⟩) := hbB.cell 0
  have d1 : w0.cell? ⟨w.heap.size + 1, 1, none⟩ = some (.slice a2 b.rows.length z2) := hbB.cell 1
  have d2 : w0.cell? ⟨w.heap.size + 1, 2, none⟩ = some (.bool b.box) := hbB.cell 2
  have d3 : w0.cell? ⟨w.heap.size + 1, 3, none⟩ = some (.bool b.all) := hbB.cell 3
  clear bl hbA hbB hV hU hv hu hS hT
  by_cases q0 : a.cols = b.cols
  · have n0 := NE a.cols b.cols
    rw [decide_eq_true q0] at n0
    simp only [Bool.not_true] at n0
    by_cases q2 : a.box = b.box
    · rw [← q2] at d2
      by_cases q3 : a.all = b.all
      · rw [← q3] at d3
        by_cases q1 : a.rows.length = b.rows.length
        · rw [← q1] at d1
          have HLen := Lib.hid q1
          have HIFF : Hid (a = b ↔ a.rows = b.rows) := Lib.hid ⟨fun h => by rw [h], fun h => hiff.2 ⟨q0, h, q2, q3⟩⟩
          clear q0 q1 q2 q3 hiff NE
          subst hA hB
          go_enter Tryd.func57, Tryd.ntmps57
          go_wp2_with fail
          clear c0 c1 c2 c3 d0 d1 d2 d3 n0
          go_loopw [5] (fun i wr => ∃ j m : Nat, j ≤ a.rows.length ∧ i = .int .i64 j ∧ Hid (a.rows.take j = b.rows.take j) ∧ Hid (wr = w0.drewN m)) (fun i _ => a.rows.length - (intOf i).toNat)
          case atStart => exact ⟨0, 0, by omega, rfl, Lib.hid rfl, Lib.hid rfl⟩
          case round =>
            obtain ⟨j, m, hj, rfl, HS, HW⟩ := hrel
            have hbA : Blk wr w.heap.size 38 _ := HW.out ▸ HBA.out.below (below_drewN (Below.refl _ _) m)
            have hbB : Blk wr (w.heap.size + 1) 38 _ := HW.out ▸ HBB.out.below (below_drewN (Below.refl _ _) m)
            have c1 : wr.cell? ⟨w.heap.size, 1, none⟩ = some (.slice a1 a.rows.length z1) := hbA.cell 1
            have d1 : wr.cell? ⟨w.heap.size + 1, 1, none⟩ = some (.slice a2 a.rows.length z2) := HLen.out ▸ hbB.cell 1
            clear hbA hbB
            by_cases hlt : j < a.rows.length
            · obtain ⟨x, hx⟩ : ∃ x, a.rows[j]? = some x := ⟨a.rows[j], List.getElem?_eq_getElem hlt⟩
              obtain ⟨y, hy⟩ : ∃ y, b.rows[j]? = some y := ⟨b.rows[j]'(by have := HLen.out; omega), List.getElem?_eq_getElem _⟩
              obtain ⟨g1, o1, b1, y1, k1, -, c4, c5, h1⟩ := (HV.out.drewN m).at hx
              obtain ⟨g2, o2, b2, y2, k2, -, d4, d5, h2⟩ := (HU.out.drewN m).at hy
              rw [← HW.out] at c4 c5 h1 d4 d5 h2
              simp only at k1 k2
              rw [k1] at c1
              rw [k2] at d1
              have lx := trls_le hx
              have ly := trls_le hy
              unfold trl at lx ly
              have hi0 : (j : Int) < (a.rows.length : Int) := by omega
              have hi1 : (0 : Int) ≤ (j : Int) := by omega
              have hR := fun q => rsamerows_any S T x.2 y.2 _ _ (wr.drewN q) (h1.drewN q) (h2.drewN q) (by omega) (by omega)
              unfold QtN at hR
              have BW := Lib.hid (fun q => below_drewN (B := w.heap.size) (Below.refl w.heap.size w0) q)
              obtain ⟨x1, x2⟩ := x
              obtain ⟨u1, u2⟩ := y
              simp only at c4 c5 d4 d5 hR
              by_cases e1 : x1 = u1
              · rw [← e1] at d4
                by_cases e2 : x2 = u2
                · have HT := Lib.hid (take_same HS.out hx (by rw [e1, e2]; exact hy))
                  simp only [decide_eq_true e2] at hR
                  have HR := Lib.hid hR
                  clear hx hy hR h1 h2 lx ly e1 e2 k1 k2
                  go_wp2_with fail
                  go_quiet (first | (go_at_call 56; exact Calls.quiet_of (HR.out _)))
                  go_wp2
                  go_roundw
                  case rel => exact ⟨j + 1, _, by omega, by go_num, HT, Lib.hid (by rw [HW.out, World.drewN_drewN])⟩
                  case measure => simp [intOf]; omega
                · have HF := Lib.hid (decide_eq_false (show ¬ a = b from fun h => e2 (by
                    have hh := hx
                    rw [HIFF.out.1 h, hy] at hh
                    injection hh with hh
                    injection hh with _ hh
                    exact hh.symm)))
                  simp only [decide_eq_false e2] at hR
                  have HR := Lib.hid hR
                  clear hx hy hR h1 h2 lx ly e1 e2 k1 k2
                  go_wp2_with fail
                  go_quiet (first | (go_at_call 56; exact Calls.quiet_of (HR.out _)))
                  go_wp2
                  go_ret
                  exact ⟨ret_bool HF.out.symm, by rw [HW.out, World.drewN_drewN]; exact BL.out.trans (BW.out _)⟩
              · have HF := Lib.hid (decide_eq_false (show ¬ a = b from fun h => e1 (by
                  have hh := hx
                  rw [HIFF.out.1 h, hy] at hh
                  injection hh with hh
                  injection hh with hh _
                  exact hh.symm)))
                have n1 : (x1 == u1) = false := by simpa using e1
                clear hx hy hR h1 h2 lx ly e1 k1 k2
                go_wp2_with fail
                go_quiet (fail)
                go_wp2
                go_ret
                exact ⟨ret_bool HF.out.symm, by rw [HW.out, World.drewN_drewN]; exact BL.out.trans (BW.out _)⟩
            · obtain rfl : j = a.rows.length := by omega
              have hlt' : ¬ (a.rows.length : Int) < (a.rows.length : Int) := by omega
              have hs : a.rows = b.rows := by
                have h := HS.out
                rw [List.take_length, HLen.out, List.take_length] at h
                exact h
              have HT := Lib.hid (decide_eq_true (HIFF.out.2 hs))
              have BW := Lib.hid (fun q => below_drewN (B := w.heap.size) (Below.refl w.heap.size w0) q)
              clear hs
              go_wp2_with fail
              go_ret
              exact ⟨ret_bool HT.out.symm, by rw [HW.out]; exact BL.out.trans (BW.out _)⟩
        · have n1 : ((a.rows.length : Int) != (b.rows.length : Int)) = true := by simp; omega
          have HF := Lib.hid (decide_eq_false (show ¬ a = b from fun h => q1 (by rw [h])))
          clear q0 q1 q2 q3 hiff NE
          subst hA hB
          go_enter Tryd.func57, Tryd.ntmps57
          go_wp2_with fail
          go_ret
          exact ⟨ret_bool HF.out.symm, BL.out⟩
      · have n3 : (a.all == b.all) = false := by simpa using q3
        have HF := Lib.hid (decide_eq_false (show ¬ a = b from fun h => q3 (by rw [h])))
        clear q0 q2 q3 hiff NE
        subst hA hB
        go_enter Tryd.func57, Tryd.ntmps57
        go_wp2_with fail
        go_ret
        exact ⟨ret_bool HF.out.symm, BL.out⟩
    · have n2 : (a.box == b.box) = false := by simpa using q2
      have HF := Lib.hid (decide_eq_false (show ¬ a = b from fun h => q2 (by rw [h])))
      clear q0 q2 hiff NE
      subst hA hB
      go_enter Tryd.func57, Tryd.ntmps57
      go_wp2_with fail
      go_ret
      exact ⟨ret_bool HF.out.symm, BL.out⟩
  · have n0 := NE a.cols b.cols
    rw [decide_eq_false q0] at n0
    simp only [Bool.not_false] at n0
    have HF := Lib.hid (decide_eq_false (show ¬ a = b from fun h => q0 (by rw [h])))
    clear q0 hiff NE
    subst hA hB
    go_enter Tryd.func57, Tryd.ntmps57
    go_wp2_with fail
    go_ret
    exact ⟨ret_bool HF.out.symm, BL.out⟩
end Go.Proofs.YtpccjgoeoeehoaaDoor
namespace Go.Proofs.YtpccjgoeoeehoaaDoor
open Go.RowKit
attribute [local go_sem ↓ high] binop_eqT binop_neqT
theorem hd_eq (a b : Hd) : a = b ↔ a.kind = b.kind ∧ a.line = b.line ∧ a.n = b.n ∧ a.text = b.text ∧ a.rows = b.rows ∧ a.grid = b.grid := by
  obtain ⟨a1, a2, a3, a4, a5, a6⟩ := a
  obtain ⟨b1, b2, b3, b4, b5, b6⟩ := b
  simp
theorem nd_eq (a b : Nd) : a = b ↔ a.hd = b.hd ∧ a.kids = b.kids := by
  obtain ⟨a1, a2⟩ := a
  obtain ⟨b1, b2⟩ := b
  simp [Nd.hd, Nd.kids]
/-- Are nodes the same? -/
noncomputable def eqNs (a b : List Nd) : Bool := @decide (a = b) (Classical.propDecidable _)
theorem eqNs_true {a b : List Nd} (h : a = b) : eqNs a b = true := by unfold eqNs; exact @decide_eq_true _ (Classical.propDecidable _) h
theorem eqNs_false {a b : List Nd} (h : ¬ a = b) : eqNs a b = false := by unfold eqNs; exact @decide_eq_false _ (Classical.propDecidable _) h
/-- A node's block. -/
def ndL (kd ln nn : Int) (y : Nd) (t k r q : PV) : List Value :=
  [.int .i64 kd, .int .i64 ln, .int .i64 nn, .slice t.1 y.hd.text.length t.2.2, .slice k.1 y.kids.length k.2.2, .slice r.1 y.hd.rows.length r.2.2, .string ⟨y.hd.grid.cols.toArray⟩, .slice q.1 y.hd.grid.rows.length q.2.2, .bool y.hd.grid.box, .bool y.hd.grid.all]
set_option maxRecDepth 100000 in
set_option maxHeartbeats 8000000 in
theorem rsame_any (S T : Nat → Prop) : ∀ (n : Nat) (a b : List Nd), cntL a = n → nlL a ≤ 1000000000 → nlL b ≤ 1000000000 → ∀ (v u : Value) (w : World), NsS S w v a → NsS T w u b → (∀ x, S x → x < w.heap.size) → (∀ x, T x → x < w.heap.size) →
    Calls Tryd.prog 31 #[v, u] w fun e w' => e = .returned (.bool (eqNs a b)) ∧ Below w.heap.size w w' := by
  intro n
  induction n using Nat.strongRecOn with
  | _ n IH =>
    intro a b hn hba hbb v u w hv hu hS hT
    have HV := Lib.hid hv
    have HU := Lib.hid hu
    obtain ⟨aa, ca, rfl⟩ := hv.len
    obtain ⟨ab, cb, rfl⟩ := hu.len
    have HI : Hid (∀ (k m : List Nd), cntL k < n → nlL k ≤ 1000000000 → nlL m ≤ 1000000000 → ∀ (v u : Value) (w : World), NsS S w v k → NsS T w u m → (∀ x, S x → x < w.heap.size) → (∀ x, T x → x < w.heap.size) →
      Calls Tryd.prog 31 #[v, u] w fun e w' => e = .returned (.bool (eqNs k m)) ∧ Below w.heap.size w w') := Lib.hid (fun k m hk h1 h2 => IH (cntL k) hk k m rfl h1 h2)
    have hll := cnt_len a
    have hnl := cnt_nlL a
    have HS := Lib.hid hS
    have HT := Lib.hid hT
    clear hv hu IH hS hT
    by_cases hlen : a.length = b.length
    · have HLen := Lib.hid hlen
      have hne : ((a.length : Int) != (b.length : Int)) = false := by simp [hlen]
      clear hlen
      go_enter Tryd.func31, Tryd.ntmps31
      go_wp2_with fail
      go_loopw [5] (fun i wr => ∃ j : Nat, j ≤ a.length ∧ i = .int .i64 j ∧ Hid (a.take j = b.take j) ∧ Hid (Below w.heap.size w wr)) (fun i _ => a.length - (intOf i).toNat)
      case atStart => exact ⟨0, by omega, rfl, Lib.hid rfl, Lib.hid (Below.refl _ _)⟩
      case round =>
        obtain ⟨j, hj, rfl, HTk, BW⟩ := hrel
        by_cases hlt : j < a.length
        · obtain ⟨x, hx⟩ : ∃ x, a[j]? = some x := ⟨a[j], List.getElem?_eq_getElem hlt⟩
          obtain ⟨y, hy⟩ : ∃ y, b[j]? = some y := ⟨b[j]'(by have := HLen.out; omega), List.getElem?_eq_getElem _⟩
          have hi0 : (j : Int) < (a.length : Int) := by omega
          have hi2 : (j : Int) < (b.length : Int) := by have := HLen.out; omega
          have hi1 : (0 : Int) ≤ (j : Int) := by omega
          have lx := nl_le hx
          have ly := nl_le hy
          have cx := cnt_le hx
          have dx : hdl x.hd = 3 + x.hd.text.length + x.hd.grid.cols.length + (x.hd.rows.length + lens x.hd.rows) + trls x.hd.grid.rows := rfl
          have dy : hdl y.hd = 3 + y.hd.text.length + y.hd.grid.cols.length + (y.hd.rows.length + lens y.hd.rows) + trls y.hd.grid.rows := rfl
          obtain ⟨g1, o1, t1, k1, r1, q1, rfl, hA⟩ := HV.out.at hx
          obtain ⟨g2, o2, t2, k2, r2, q2, rfl, hB⟩ := HU.out.at hy
          have KS := Lib.hid (fun W (h : Below w.heap.size w W) => hA.keep (Kp.below h HS.out))
          have KT := Lib.hid (fun W (h : Below w.heap.size w W) => hB.keep (Kp.below h HT.out))
          have hA1 := KS.out wr BW.out
          have hB1 := KT.out wr BW.out
          have a0 := hA1.c0
          have a1 := hA1.c1
          have a2 := hA1.c2
          have a3 := hA1.c3
          have a4 := hA1.c4
          have a5 := hA1.c5
          have a6 := hA1.c6
          have a7 := hA1.c7
          have a8 := hA1.c8
          have a9 := hA1.c9
          obtain ⟨xk, hxk⟩ : ∃ k, x.hd.kind = k := ⟨_, rfl⟩
          obtain ⟨xl, hxl⟩ : ∃ k, x.hd.line = k := ⟨_, rfl⟩
          obtain ⟨xn, hxn⟩ : ∃ k, x.hd.n = k := ⟨_, rfl⟩
          obtain ⟨yk, hyk⟩ : ∃ k, y.hd.kind = k := ⟨_, rfl⟩
          obtain ⟨yl, hyl⟩ : ∃ k, y.hd.line = k := ⟨_, rfl⟩
          obtain ⟨yn, hyn⟩ : ∃ k, y.hd.n = k := ⟨_, rfl⟩
          rw [hxk] at a0
          rw [hxl] at a1
          rw [hxn] at a2
          have bl1 := below_lit wr (.cells (ndL xk xl xn x t1 k1 r1 q1).toArray 40)
          have hB2 := KT.out (wr.alloc (.cells (ndL xk xl xn x t1 k1 r1 q1).toArray 40)) (BW.out.trans (bl1.mono BW.out.size))
          have b0 := hB2.c0
          have b1 := hB2.c1
          have b2 := hB2.c2
          have b3 := hB2.c3
          have b4 := hB2.c4
          have b5 := hB2.c5
          have b6 := hB2.c6
          have b7 := hB2.c7
          have b8 := hB2.c8
          have b9 := hB2.c9
          rw [hyk] at b0
          rw [hyl] at b1
          rw [hyn] at b2
          have bl2 : Below wr.heap.size wr ((wr.alloc (.cells (ndL xk xl xn x t1 k1 r1 q1).toArray 40)).alloc (.cells (ndL yk yl yn y t2 k2 r2 q2).toArray 40)) := ((Below.refl _ wr).alloc (Nat.le_refl _) _).alloc (by simp) _
          have hbA : Blk ((wr.alloc (.cells (ndL xk xl xn x t1 k1 r1 q1).toArray 40)).alloc (.cells (ndL yk yl yn y t2 k2 r2 q2).toArray 40)) wr.heap.size 40 (ndL xk xl xn x t1 k1 r1 q1) := (heap_alloc_old _ _ (by simp)).trans (heap_alloc_new wr _)
          have hbB : Blk ((wr.alloc (.cells (ndL xk xl xn x t1 k1 r1 q1).toArray 40)).alloc (.cells (ndL yk yl yn y t2 k2 r2 q2).toArray 40)) (wr.heap.size + 1) 40 (ndL yk yl yn y t2 k2 r2 q2) := by
            have := heap_alloc_new (wr.alloc (.cells (ndL xk xl xn x t1 k1 r1 q1).toArray 40)) (.cells (ndL yk yl yn y t2 k2 r2 q2).toArray 40)
            rw [World.size_alloc] at this
            exact this
          have BL2 := BW.out.trans (bl2.mono BW.out.size)
          have c0 : ((wr.alloc (.cells (ndL xk xl xn x t1 k1 r1 q1).toArray 40)).alloc (.cells (ndL yk yl yn y t2 k2 r2 q2).toArray 40)).cell? ⟨wr.heap.size, 0, none⟩ = some (.int .i64 xk) := hbA.cell 0
          have d0 : ((wr.alloc (.cells (ndL xk xl xn x t1 k1 r1 q1).toArray 40)).alloc (.cells (ndL yk yl yn y t2 k2 r2 q2).toArray 40)).cell? ⟨wr.heap.size + 1, 0, none⟩ = some (.int .i64 yk) := hbB.cell 0
          have c1 : ((wr.alloc (.cells (ndL xk xl xn x t1 k1 r1 q1).toArray 40)).alloc (.cells (ndL yk yl yn y t2 k2 r2 q2).toArray 40)).cell? ⟨wr.heap.size, 1, none⟩ = some (.int .i64 xl) := hbA.cell 1
          have d1 : ((wr.alloc (.cells (ndL xk xl xn x t1 k1 r1 q1).toArray 40)).alloc (.cells (ndL yk yl yn y t2 k2 r2 q2).toArray 40)).cell? ⟨wr.heap.size + 1, 1, none⟩ = some (.int .i64 yl) := hbB.cell 1
          have c2 : ((wr.alloc (.cells (ndL xk xl xn x t1 k1 r1 q1).toArray 40)).alloc (.cells (ndL yk yl yn y t2 k2 r2 q2).toArray 40)).cell? ⟨wr.heap.size, 2, none⟩ = some (.int .i64 xn) := hbA.cell 2
          have d2 : ((wr.alloc (.cells (ndL xk xl xn x t1 k1 r1 q1).toArray 40)).alloc (.cells (ndL yk yl yn y t2 k2 r2 q2).toArray 40)).cell? ⟨wr.heap.size + 1, 2, none⟩ = some (.int .i64 yn) := hbB.cell 2
          have c3 : ((wr.alloc (.cells (ndL xk xl xn x t1 k1 r1 q1).toArray 40)).alloc (.cells (ndL yk yl yn y t2 k2 r2 q2).toArray 40)).cell? ⟨wr.heap.size, 3, none⟩ = some (.slice t1.1 x.hd.text.length t1.2.2) := hbA.cell 3
          have d3 : ((wr.alloc (.cells (ndL xk xl xn x t1 k1 r1 q1).toArray 40)).alloc (.cells (ndL yk yl yn y t2 k2 r2 q2).toArray 40)).cell? ⟨wr.heap.size + 1, 3, none⟩ = some (.slice t2.1 y.hd.text.length t2.2.2) := hbB.cell 3
          have HBK : Hid (∀ W, Below ((wr.alloc (.cells (ndL xk xl xn x t1 k1 r1 q1).toArray 40)).alloc (.cells (ndL yk yl yn y t2 k2 r2 q2).toArray 40)).heap.size ((wr.alloc (.cells (ndL xk xl xn x t1 k1 r1 q1).toArray 40)).alloc (.cells (ndL yk yl yn y t2 k2 r2 q2).toArray 40)) W → Blk W wr.heap.size 40 (ndL xk xl xn x t1 k1 r1 q1) ∧ Blk W (wr.heap.size + 1) 40 (ndL yk yl yn y t2 k2 r2 q2)) := Lib.hid (fun W h => ⟨hbA.below h, hbB.below h⟩)
          have HDR := Lib.hid (fun m => below_drewN (Below.refl ((wr.alloc (.cells (ndL xk xl xn x t1 k1 r1 q1).toArray 40)).alloc (.cells (ndL yk yl yn y t2 k2 r2 q2).toArray 40)).heap.size ((wr.alloc (.cells (ndL xk xl xn x t1 k1 r1 q1).toArray 40)).alloc (.cells (ndL yk yl yn y t2 k2 r2 q2).toArray 40))) m)
          have HX := Lib.hid hx
          have HY := Lib.hid hy
          have fin : ∀ (h : ¬ x = y), eqNs a b = false := fun h => eqNs_false (fun e => h (by have h1 := HX.out; rw [e, HY.out] at h1; injection h1 with h1; exact h1.symm))
          have FIN := Lib.hid fin
          have HEQ : Hid (x = y ↔ (xk = yk ∧ xl = yl ∧ xn = yn ∧ x.hd.text = y.hd.text ∧ x.hd.rows = y.hd.rows ∧ x.hd.grid = y.hd.grid) ∧ x.kids = y.kids) := Lib.hid (by rw [nd_eq, hd_eq, hxk, hxl, hxn, hyk, hyl, hyn])
          have HT4 := Lib.hid (fun W (h : Below w.heap.size w W) => rsameq_any x.hd.text y.hd.text _ _ W (KS.out W h).text.1 (KT.out W h).text.1 (by omega) (by omega))
          have HT5 := Lib.hid (fun W (h : Below w.heap.size w W) => rsamerows_any S T x.hd.rows y.hd.rows _ _ W (KS.out W h).rows (KT.out W h).rows (by omega) (by omega))
          have HT6 := Lib.hid (fun W (h : Below w.heap.size w W) => rsametable_any S T x.hd.grid y.hd.grid (q1.1, x.hd.grid.rows.length, q1.2.2) (q2.1, y.hd.grid.rows.length, q2.2.2) W (KS.out W h).trows (KT.out W h).trows (by omega) (by omega) (fun z hz => Nat.lt_of_lt_of_le (HS.out z hz) h.size) (fun z hz => Nat.lt_of_lt_of_le (HT.out z hz) h.size))
          have HT7 := Lib.hid (fun W (h : Below w.heap.size w W) => HI.out x.kids y.kids (by omega) (by omega) (by omega) _ _ W (KS.out W h).kids (KT.out W h).kids (fun z hz => Nat.lt_of_lt_of_le (HS.out z hz) h.size) (fun z hz => Nat.lt_of_lt_of_le (HT.out z hz) h.size))
          unfold QtN at HT4 HT5
          unfold tabV pv at HT6
          have B2 := Lib.hid BL2
          have hwz : w.heap.size ≤ wr.heap.size := BW.out.size
          clear hx hy lx ly cx dx dy hxk hxl hxn hyk hyl hyn fin bl1 bl2 hB2 hbA hbB BL2 KS KT
          simp only [ndL] at b0 b1 b2 b3 b4 b5 b6 b7 b8 b9 c0 d0 c1 d1 c2 d2 c3 d3 B2 HBK HDR
          by_cases e0 : xk = yk
          · subst e0
            by_cases e1 : xl = yl
            · subst e1
              by_cases e2 : xn = yn
              · subst e2
                go_wp2_with fail
                refine (HT4.out _ B2.out).mono ?_
                rintro e w4 ⟨rfl, m4, hw4⟩
                have h4 := HDR.out m4
                rw [← hw4] at h4
                have B4 := Lib.hid (B2.out.trans (h4.mono B2.out.size))
                obtain ⟨kA, kB⟩ := HBK.out w4 h4
                have H4 := Lib.hid h4
                have c5 : w4.cell? ⟨wr.heap.size, 5, none⟩ = some (.slice r1.1 x.hd.rows.length r1.2.2) := kA.cell 5
                have d5 : w4.cell? ⟨wr.heap.size + 1, 5, none⟩ = some (.slice r2.1 y.hd.rows.length r2.2.2) := kB.cell 5
                clear kA kB hw4 h4 HT4 c0 c1 c2 c3 d0 d1 d2 d3 b0 a0 b1 a1 b2 a2 b3 a3 b4 a4 b5 a5 b6 a6 b7 a7 b8 a8 b9 a9
                by_cases e4 : x.hd.text = y.hd.text
                · rw [decide_eq_true e4]
                  have E4 := Lib.hid e4
                  clear e4
                  go_wp2_with fail
                  refine (HT5.out _ B4.out).mono ?_
                  rintro e w5 ⟨rfl, m5, hw5⟩
                  have h5 := below_drewN (Below.refl w4.heap.size w4) m5
                  rw [← hw5] at h5
                  have B5 := Lib.hid (B4.out.trans (h5.mono B4.out.size))
                  have H5 := Lib.hid (H4.out.trans (h5.mono H4.out.size))
                  obtain ⟨kA, kB⟩ := HBK.out w5 H5.out
                  have c6 : w5.cell? ⟨wr.heap.size, 6, none⟩ = some (.string ⟨x.hd.grid.cols.toArray⟩) := kA.cell 6
                  have d6 : w5.cell? ⟨wr.heap.size + 1, 6, none⟩ = some (.string ⟨y.hd.grid.cols.toArray⟩) := kB.cell 6
                  have c7 : w5.cell? ⟨wr.heap.size, 7, none⟩ = some (.slice q1.1 x.hd.grid.rows.length q1.2.2) := kA.cell 7
                  have d7 : w5.cell? ⟨wr.heap.size + 1, 7, none⟩ = some (.slice q2.1 y.hd.grid.rows.length q2.2.2) := kB.cell 7
                  have c8 : w5.cell? ⟨wr.heap.size, 8, none⟩ = some (.bool x.hd.grid.box) := kA.cell 8
                  have d8 : w5.cell? ⟨wr.heap.size + 1, 8, none⟩ = some (.bool y.hd.grid.box) := kB.cell 8
                  have c9 : w5.cell? ⟨wr.heap.size, 9, none⟩ = some (.bool x.hd.grid.all) := kA.cell 9
                  have d9 : w5.cell? ⟨wr.heap.size + 1, 9, none⟩ = some (.bool y.hd.grid.all) := kB.cell 9
                  clear kA kB hw5 h5 HT5 c5 d5 H4 B4
                  by_cases e5 : x.hd.rows = y.hd.rows
                  · rw [decide_eq_true e5]
                    have E5 := Lib.hid e5
                    clear e5
                    go_wp2_with fail
                    refine (HT6.out _ B5.out).mono ?_
                    rintro e w6 ⟨rfl, h6⟩
                    have B6 := Lib.hid (B5.out.trans (h6.mono B5.out.size))
                    have H6 := Lib.hid (H5.out.trans (h6.mono H5.out.size))
                    obtain ⟨kA, kB⟩ := HBK.out w6 H6.out
                    have c4 : w6.cell? ⟨wr.heap.size, 4, none⟩ = some (.slice k1.1 x.kids.length k1.2.2) := kA.cell 4
                    have d4 : w6.cell? ⟨wr.heap.size + 1, 4, none⟩ = some (.slice k2.1 y.kids.length k2.2.2) := kB.cell 4
                    clear kA kB h6 HT6 H5 B5 c6 c7 c8 c9 d6 d7 d8 d9
                    by_cases e6 : x.hd.grid = y.hd.grid
                    · rw [decide_eq_true e6]
                      have E6 := Lib.hid e6
                      clear e6
                      go_wp2_with fail
                      refine (HT7.out _ B6.out).mono ?_
                      rintro e w7 ⟨rfl, h7⟩
                      have B7 := Lib.hid (B6.out.trans (h7.mono B6.out.size))
                      clear h7 HT7 H6 B6 c4 d4
                      by_cases e7 : x.kids = y.kids
                      · have HNX := Lib.hid (take_same HTk.out HX.out (by rw [HEQ.out.2 (by refine ⟨⟨?_, ?_, ?_, E4.out, E5.out, E6.out⟩, e7⟩ <;> first | rfl | trivial)]; exact HY.out))
                        rw [eqNs_true e7]
                        clear e7
                        go_wp2_with fail
                        go_roundw
                        case rel => exact ⟨j + 1, by omega, by go_num, HNX, B7⟩
                        case measure => (simp [intOf]; try omega)
                      · rw [eqNs_false e7]
                        have HF := Lib.hid (FIN.out (fun h => e7 (HEQ.out.1 h).2))
                        clear e7
                        go_wp2_with fail
                        go_ret
                        exact ⟨ret_bool HF.out.symm, B7.out⟩
                    · rw [decide_eq_false e6]
                      have HF := Lib.hid (FIN.out (fun h => e6 (HEQ.out.1 h).1.2.2.2.2.2))
                      clear e6 c4 d4
                      go_wp2_with fail
                      go_ret
                      exact ⟨ret_bool HF.out.symm, B6.out⟩
                  · rw [decide_eq_false e5]
                    have HF := Lib.hid (FIN.out (fun h => e5 (HEQ.out.1 h).1.2.2.2.2.1))
                    clear e5 c6 c7 c8 c9 d6 d7 d8 d9
                    go_wp2_with fail
                    go_ret
                    exact ⟨ret_bool HF.out.symm, B5.out⟩
                · rw [decide_eq_false e4]
                  have HF := Lib.hid (FIN.out (fun h => e4 (HEQ.out.1 h).1.2.2.2.1))
                  clear e4 c5 d5
                  go_wp2_with fail
                  go_ret
                  exact ⟨ret_bool HF.out.symm, B4.out⟩
              · have n2 : (xn == yn) = false := by simpa using e2
                have m2 : (xn != yn) = true := by simpa using e2
                have HF := Lib.hid (FIN.out (fun h => e2 (HEQ.out.1 h).1.2.2.1))
                go_wp2_with fail
                go_ret
                exact ⟨ret_bool HF.out.symm, B2.out⟩
            · have n1 : (xl == yl) = false := by simpa using e1
              have m1 : (xl != yl) = true := by simpa using e1
              have HF := Lib.hid (FIN.out (fun h => e1 (HEQ.out.1 h).1.2.1))
              go_wp2_with fail
              go_ret
              exact ⟨ret_bool HF.out.symm, B2.out⟩
          · have n0 : (xk == yk) = false := by simpa using e0
            have m0 : (xk != yk) = true := by simpa using e0
            have HF := Lib.hid (FIN.out (fun h => e0 (HEQ.out.1 h).1.1))
            go_wp2_with fail
            go_ret
            exact ⟨ret_bool HF.out.symm, B2.out⟩
        · obtain rfl : j = a.length := by omega
          have hlt' : ¬ (a.length : Int) < (a.length : Int) := by omega
          have hs : a = b := by
            have h := HTk.out
            rw [List.take_length, HLen.out, List.take_length] at h
            exact h
          have HQ := Lib.hid (eqNs_true hs)
          clear hs
          go_wp2_with fail
          go_ret
          exact ⟨ret_bool HQ.out.symm, BW.out⟩
    · have hne : ((a.length : Int) != (b.length : Int)) = true := by simp; omega
      have HQ := Lib.hid (eqNs_false (show ¬ a = b from fun h => hlen (by rw [h])))
      clear hlen
      go_enter Tryd.func31, Tryd.ntmps31
      go_wp2_with fail
      go_ret
      exact ⟨ret_bool HQ.out.symm, Below.refl _ _⟩
end Go.Proofs.YtpccjgoeoeehoaaDoor
namespace Go.Proofs.YtpccjgoeoeehoaaDoor
open Go.RowKit
attribute [local go_sem ↓ high] binop_eqT binop_neqT
structure Nm where
  a : List UInt8
  b : List UInt8
  c : List UInt8
  d : List UInt8
/-- A document's value. -/
def docL (m : Nm) (v : Value) : List Value := [.string ⟨m.a.toArray⟩, .string ⟨m.b.toArray⟩, .string ⟨m.c.toArray⟩, .string ⟨m.d.toArray⟩, v]
def docV (m : Nm) (v : Value) : Value := .agg (docL m v).toArray
theorem two_lits {e e' : TypeId} (w : World) (L M : List Value) : ∀ W, W = (w.alloc (.cells L.toArray e)).alloc (.cells M.toArray e') → Below w.heap.size w W ∧ Blk W w.heap.size e L ∧ Blk W (w.heap.size + 1) e' M := by
  rintro W rfl
  refine ⟨((Below.refl _ w).alloc (Nat.le_refl _) _).alloc (by simp) _, (heap_alloc_old _ _ (by simp)).trans (heap_alloc_new w _), ?_⟩
  have := heap_alloc_new (w.alloc (.cells L.toArray e)) (.cells M.toArray e')
  rw [World.size_alloc] at this
  exact this
set_option maxRecDepth 100000 in
set_option maxHeartbeats 2000000 in
theorem rsamedoc_any (S T : Nat → Prop) (m : Nm) (a b : List Nd) (v u : Value) (w : World) (hba : nlL a ≤ 1000000000) (hbb : nlL b ≤ 1000000000) (hv : NsS S w v a) (hu : NsS T w u b) (hS : ∀ x, S x → x < w.heap.size) (hT : ∀ x, T x → x < w.heap.size) :
    Calls Tryd.prog 16 #[docV m v, docV m u] w fun e w' => e = .returned (.bool (eqNs a b)) ∧ Below w.heap.size w w' := by
  obtain ⟨k1, z1, rfl⟩ := hv.len
  obtain ⟨k2, z2, rfl⟩ := hu.len
  obtain ⟨w0, hw0⟩ : ∃ w0, w0 = (w.alloc (.cells (docL m (.slice k1 a.length z1)).toArray 29)).alloc (.cells (docL m (.slice k2 b.length z2)).toArray 29) := ⟨_, rfl⟩
  obtain ⟨bl, hbA, hbB⟩ := two_lits w _ _ w0 hw0
  have c0 : w0.cell? ⟨w.heap.size, 0, none⟩ = some (.string ⟨m.a.toArray⟩) := hbA.cell 0
  have c1 : w0.cell? ⟨w.heap.size, 1, none⟩ = some (.string ⟨m.b.toArray⟩) := hbA.cell 1
  have c2 : w0.cell? ⟨w.heap.size, 2, none⟩ = some (.string ⟨m.c.toArray⟩) := hbA.cell 2
  have c3 : w0.cell? ⟨w.heap.size, 3, none⟩ = some (.string ⟨m.d.toArray⟩) := hbA.cell 3
  have c4 : w0.cell? ⟨w.heap.size, 4, none⟩ = some (.slice k1 a.length z1) := hbA.cell 4
  have d0 : w0.cell? ⟨w.heap.size + 1, 0, none⟩ = some (.string ⟨m.a.toArray⟩) := hbB.cell 0
  have d1 : w0.cell? ⟨w.heap.size + 1, 1, none⟩ = some (.string ⟨m.b.toArray⟩) := hbB.cell 1
  have d2 : w0.cell? ⟨w.heap.size + 1, 2, none⟩ = some (.string ⟨m.c.toArray⟩) := hbB.cell 2
  have d3 : w0.cell? ⟨w.heap.size + 1, 3, none⟩ = some (.string ⟨m.d.toArray⟩) := hbB.cell 3
  have d4 : w0.cell? ⟨w.heap.size + 1, 4, none⟩ = some (.slice k2 b.length z2) := hbB.cell 4
  have EQ : ∀ (s : List UInt8) W, (eqT (.string ⟨s.toArray⟩) (.string ⟨s.toArray⟩)).run Tryd.prog W = .ok (.bool true) W := fun s W => by
    have h := eqT_run s s W
    rw [decide_eq_true rfl] at h
    exact h
  have HR := Lib.hid (rsame_any S T _ a b rfl hba hbb _ _ w0 (hv.keep (Kp.below bl hS)) (hu.keep (Kp.below bl hT)) (fun x hx => Nat.lt_of_lt_of_le (hS x hx) bl.size) (fun x hx => Nat.lt_of_lt_of_le (hT x hx) bl.size))
  have BL := Lib.hid bl
  unfold docV
  clear hv hu hS hT bl hbA hbB
  unfold docL at hw0 ⊢
  subst hw0
  go_enter Tryd.func16, Tryd.ntmps16
  go_wp2_with fail
  refine HR.out.mono ?_
  rintro e w1 ⟨rfl, b1⟩
  have B1 := Lib.hid (BL.out.trans (b1.mono BL.out.size))
  clear b1 HR BL c0 c1 c2 c3 c4 d0 d1 d2 d3 d4
  go_wp2_with fail
  go_ret
  exact ⟨rfl, B1.out⟩
end Go.Proofs.YtpccjgoeoeehoaaDoor
namespace Go.Proofs.YtpccjgoeoeehoaaDoor
open Go.RowKit
/-- Two texts, one behind the other. -/
def jn (a b : List Gly) : List Gly := if a = [] then b else if b = [] then a else a ++ [(32, 0)] ++ b
/-- What a builder has: the document's names and nodes; what is open, the innermost last; a paragraph. -/
structure Bt where
  nm : Nm
  kids : List Nd
  opn : List Nd
  text : List Gly
  line : Int
  has : Bool
def ownKid (y x : Nd) : Nd := .mk y.hd (y.kids ++ [x])
def bLay (t : Bt) (x : Nd) : Bt :=
  match t.opn.getLast? with
  | none => { t with kids := t.kids ++ [x] }
  | some y => { t with opn := t.opn.dropLast ++ [ownKid y x] }
def paraN (t : Bt) : Nd := .mk ⟨3, t.line, 0, t.text, [], noGrid⟩ []
def bFlat (t : Bt) : Bt := { t with text := [], line := 0, has := false }
def bEnd (t : Bt) : Bt := bFlat (if ink t.text = [] then t else bLay t (paraN t))
def bText (t : Bt) (l : List Gly) (line : Int) : Bt := { t with text := jn t.text l, line := if t.has then t.line else line, has := true }
def bAdd (t : Bt) (x : Nd) : Bt := bLay (bEnd t) x
def bOpen (t : Bt) (x : Nd) : Bt := { bEnd t with opn := (bEnd t).opn ++ [x] }
def bPop (t : Bt) : Bt :=
  match t.opn.getLast? with
  | none => t
  | some x => bLay { t with opn := t.opn.dropLast } x
def bIn (t : Bt) (k : Int) : Bool := t.opn.any fun y => y.hd.kind == k
def popTo (k : Int) : Nat → Bt → Bt
  | 0, t => t
  | n + 1, t => match t.opn.getLast? with
    | none => t
    | some y => if y.hd.kind = k then bPop t else popTo k n (bPop t)
def bClose (t : Bt) (k : Int) : Bt × Bool := if bIn (bEnd t) k then (popTo k (bEnd t).opn.length (bEnd t), true) else (bEnd t, false)
def popAll (K : List Int) : Nat → Bt → Bt
  | 0, t => t
  | n + 1, t => match t.opn.getLast? with
    | none => t
    | some y => if y.hd.kind ∈ K then popAll K n (bPop t) else t
def bShut (t : Bt) (K : List Int) : Bt := popAll K (bEnd t).opn.length (bEnd t)
/-- All nodes, were all closed. -/
def wrapK : List Nd → List Nd
  | [] => []
  | y :: r => [.mk y.hd (y.kids ++ wrapK r)]
def bAll (t : Bt) : List Nd := t.kids ++ wrapK t.opn
def bDoc (t : Bt) : List Nd := tidyL (bAll (bEnd t))
theorem nd_eta (x : Nd) : Nd.mk x.hd x.kids = x := by cases x; rfl
theorem wrapK_two : ∀ (l : List Nd) (y x : Nd), wrapK (l ++ [y, x]) = wrapK (l ++ [ownKid y x])
  | [], y, x => by
    cases y; cases x
    simp [wrapK, ownKid, Nd.hd, Nd.kids]
  | z :: l, y, x => by
    have := wrapK_two l y x
    simp only [List.cons_append, wrapK, this]
theorem lay_none {t : Bt} (x : Nd) (h : t.opn = []) : bLay t x = { t with kids := t.kids ++ [x] } := by unfold bLay; rw [h]; rfl
theorem lay_some {t : Bt} (x : Nd) {l : List Nd} {y : Nd} (h : t.opn = l ++ [y]) : bLay t x = { t with opn := l ++ [ownKid y x] } := by unfold bLay; rw [h]; simp
theorem opn_cases (l : List Nd) : l = [] ∨ ∃ r y, l = r ++ [y] := by
  rcases List.eq_nil_or_concat l with h | ⟨r, y, h⟩
  · exact .inl h
  · exact .inr ⟨r, y, by simpa using h⟩
theorem pop_none {t : Bt} (h : t.opn = []) : bPop t = t := by unfold bPop; rw [h]; rfl
theorem pop_some {t : Bt} {l : List Nd} {x : Nd} (h : t.opn = l ++ [x]) : bPop t = bLay { t with opn := l } x := by unfold bPop; rw [h]; simp
theorem pop_all (t : Bt) : bAll (bPop t) = bAll t := by
  rcases opn_cases t.opn with h | ⟨l, x, h⟩
  · rw [pop_none h]
  · rw [pop_some h]
    rcases opn_cases l with h2 | ⟨r, y, h2⟩
    · rw [lay_none x (by exact h2)]
      unfold bAll
      simp only
      rw [h, h2]
      simp [wrapK, nd_eta]
    · rw [lay_some x (show ({ t with opn := l } : Bt).opn = r ++ [y] from h2)]
      unfold bAll
      simp only
      rw [h, h2, List.append_assoc]
      rw [show [y] ++ [x] = [y, x] from rfl, wrapK_two]
theorem pop_len (t : Bt) : (bPop t).opn.length = t.opn.length - 1 := by
  rcases opn_cases t.opn with h | ⟨l, x, h⟩
  · rw [pop_none h, h]; rfl
  · rw [pop_some h]
    rcases opn_cases l with h2 | ⟨r, y, h2⟩
    · rw [lay_none x (by exact h2), h]; simp [h2]
    · rw [lay_some x (show ({ t with opn := l } : Bt).opn = r ++ [y] from h2), h, h2]; simp
/-- What is kept by laying, popping: the names, the paragraph. -/
def sameP (t u : Bt) : Prop := u.nm = t.nm ∧ u.text = t.text ∧ u.line = t.line ∧ u.has = t.has
theorem sameP.trans {a b c : Bt} (h : sameP a b) (k : sameP b c) : sameP a c := ⟨k.1.trans h.1, k.2.1.trans h.2.1, k.2.2.1.trans h.2.2.1, k.2.2.2.trans h.2.2.2⟩
theorem lay_sameP (t : Bt) (x : Nd) : sameP t (bLay t x) := by
  unfold bLay
  split <;> exact ⟨rfl, rfl, rfl, rfl⟩
theorem pop_sameP (t : Bt) : sameP t (bPop t) := by
  unfold bPop
  split
  · exact ⟨rfl, rfl, rfl, rfl⟩
  · exact (show sameP t { t with opn := t.opn.dropLast } from ⟨rfl, rfl, rfl, rfl⟩).trans (lay_sameP _ _)
/-- No paragraph. -/
def flatB (t : Bt) : Prop := t.text = [] ∧ t.line = 0 ∧ t.has = false
theorem end_of {t : Bt} (h : flatB t) : bEnd t = t := by
  obtain ⟨nm, kids, opn, text, line, has⟩ := t
  obtain ⟨h1, h2, h3⟩ := h
  simp only at h1 h2 h3
  subst h1 h2 h3
  rfl
end Go.Proofs.YtpccjgoeoeehoaaDoor
