/- The document's own answer for lines: sign, Long. -/
import Derived.Test.YteckiifnldcjbaaDoorKP
import Derived.Test.YteckiifnldcjbaaDoorLH
namespace Go.Proofs.YteckiifnldcjbaaDoor
open Go.RowKit

set_option maxHeartbeats 1000000 in
theorem rsign_any (s : List UInt8) (w : World) : Calls Tryd.prog 34 #[.string ⟨s.toArray⟩] w fun e w' => e = .returned (.bool (ptd s)) ∧ w = w' := by
  have hsz := arr_size s
  cases s with
  | nil =>
    have h0 : ¬ (0 : Int) < 0 := by omega
    go_enter Tryd.func34, Tryd.ntmps34
    go_wp2_with fail
    go_ret
    exact ⟨rfl, rfl⟩
  | cons c t =>
    have k1 : ∀ W, (Instr.index 9 (.string ⟨(c :: t).toArray⟩) (.int .i64 0)).run Tryd.prog W = .ok (.int .u8 (c.toNat : Int)) W := str_idx (c :: t) 0 c rfl
    obtain ⟨S, hS⟩ : ∃ S, c :: t = S := ⟨_, rfl⟩
    have hl : (0 : Int) < (S.length : Int) := by rw [← hS]; simp
    have hl2 : decide ((0 : Int) < (S.length : Int)) = true := decide_eq_true hl
    have hl3 : decide (0 < S.length) = true := decide_eq_true (by omega)
    have HP : Hid (ptd S = (((c.toNat : Int) == 46) || ((c.toNat : Int) == 39))) := Lib.hid (by
      rw [← hS]
      apply bool_of_iff
      simp only [ptd, Bool.or_eq_true, beq_iff_eq]
      constructor
      · rintro (rfl | rfl)
        · exact .inl rfl
        · exact .inr rfl
      · rintro (h | h)
        · exact .inl (UInt8.toNat_inj.1 (by have : c.toNat = 46 := by omega
                                            exact this))
        · exact .inr (UInt8.toNat_inj.1 (by have : c.toNat = 39 := by omega
                                            exact this)))
    rw [hS] at k1 hsz ⊢
    obtain ⟨q1, hq1⟩ : ∃ q, ((c.toNat : Int) == 46) = q := ⟨_, rfl⟩
    obtain ⟨q2, hq2⟩ : ∃ q, ((c.toNat : Int) == 39) = q := ⟨_, rfl⟩
    rw [hq1, hq2] at HP
    generalize (c.toNat : Int) = x at k1 hq1 hq2
    clear hS
    rw [HP.out]
    go_enter Tryd.func34, Tryd.ntmps34
    cases q1
    · go_wp2_with fail
      go_ret
      exact ⟨ret_bool (by simp), rfl⟩
    · go_wp2_with fail
      go_ret
      exact ⟨ret_bool (by simp), rfl⟩
/-- How much there is of rows. -/
def rowLen (y : Row) : Nat := 2 + y.2.1.length + y.2.2.2.length + (3 * y.2.2.1.length + tot y.2.2.1)
def rowsLen (l : List Row) : Nat := (l.map rowLen).sum
theorem rowsLen_next {l : List Row} {p : Nat} {y : Row} (hy : l[p]? = some y) : rowsLen (l.take (p + 1)) = rowsLen (l.take p) + rowLen y := by
  rw [List.take_add_one, hy]
  simp [rowsLen]

theorem w64 (n : Int) : wrap64 n = IntKind.i64.wrap n := by unfold wrap64; exact (IntKind.wrap_i64 n).symm
theorem Rws.drewN {w : World} {v : Value} {l : List Row} (h : Rws w v l) (m : Nat) : Rws (w.drewN m) v l := h.below (below_drewN (Below.refl _ _) m)
set_option maxRecDepth 100000 in
set_option maxHeartbeats 4000000 in
theorem rlong_any (l : List Row) (v : Value) (w : World) (hv : Rws w v l) (hl : l.length ≤ 4000000000000000000) (ha : ∀ y ∈ l, y.2.2.1.length ≤ 4000000000000000000) :
    Calls Tryd.prog 17 #[v] w fun e w' => e = .returned (.int .i64 (IntKind.i64.wrap (rowsLen l : Int))) ∧ ∃ m, w' = w.drewN m := by
  have HV := Lib.hid hv
  have HA := Lib.hid ha
  obtain ⟨aa, ca, rfl⟩ := hv.len
  obtain ⟨R, hR⟩ : ∃ R, IntKind.i64.wrap (rowsLen l : Int) = R := ⟨_, rfl⟩
  rw [hR]
  have HR := Lib.hid hR
  clear hv ha hR
  go_enter Tryd.func17, Tryd.ntmps17
  go_wp2_with fail
  go_loopw [3, 4] (fun n i wr => ∃ (p m : Nat) (z : Int), wr = w.drewN m ∧ n = .int .i64 z ∧ i = .int .i64 (p : Int) ∧ p ≤ l.length ∧ z = IntKind.i64.wrap (rowsLen (l.take p) : Int)) (fun _ i _ => l.length - (intOf i).toNat)
  case atStart => exact ⟨0, 0, 0, rfl, rfl, rfl, by omega, by simp [rowsLen, IntKind.wrap, IntKind.bits, IntKind.signed]⟩
  case round =>
    obtain ⟨p, m, z, hwr, rfl, rfl, hp, hz⟩ := hrel
    have HW := Lib.hid hwr
    have HZ := Lib.hid hz
    clear hwr hz
    by_cases hlt : p < l.length
    · obtain ⟨y, hy⟩ : ∃ y, l[p]? = some y := ⟨l[p], List.getElem?_eq_getElem hlt⟩
      have HY := Lib.hid hy
      have hlt' : (p : Int) < (l.length : Int) := by omega
      have hp0 : (0 : Int) ≤ (p : Int) := by omega
      obtain ⟨wd, hwd⟩ : ∃ wd, w.drewN m = wd := ⟨_, rfl⟩
      have hvd : Rws wd (.slice aa l.length ca) l := hwd ▸ HV.out.drewN m
      obtain ⟨g, off, rfl, c0, c1, ⟨a1, n1, p1, c2, s2⟩, c3⟩ := hvd.at hy
      have hwr : wr = wd := HW.out.trans hwd
      subst hwr
      have HWD := Lib.hid hwd
      clear hwd hvd hy HW s2 c2 c0
      have hyl := HA.out y (List.mem_iff_getElem?.2 ⟨p, HY.out⟩)
      obtain ⟨y0, y1, y2, y3⟩ := y
      simp only at c1 c3 hyl
      have hs1 := arr_size y1
      have hs3 := arr_size y3
      go_wp2_with fail
      go_quiet (fail)
      go_wp2
      go_loopw [3, 5] (fun n k wr3 => ∃ (q m3 : Nat) (z3 : Int), wr3 = w.drewN m3 ∧ n = .int .i64 z3 ∧ k = .int .i64 (q : Int) ∧ q ≤ y2.length ∧ z3 = IntKind.i64.wrap ((rowsLen (l.take p) : Int) + (2 + (y1.length : Int) + (y3.length : Int) + (3 * (q : Int) + (tot (y2.take q) : Int))))) (fun _ k _ => y2.length - (intOf k).toNat)
      case atStart =>
        refine ⟨0, _, _, by rw [← HWD.out, drewN_add], rfl, rfl, by omega, ?_⟩
        have hz := HZ.out
        have ht : tot (y2.take 0) = 0 := by simp [tot]
        rw [ht, w64, w64, w64, hz, wrap_add _ 2, wrap_add _ (y1.length : Int), wrap_add _ (y3.length : Int)]
        congr 1
        omega
      case round =>
        obtain ⟨q, m3, z3, hwr3, rfl, rfl, hq, hz3⟩ := hrel
        have HZ3 := Lib.hid hz3
        have HW3 := Lib.hid hwr3
        obtain ⟨wd3, hwd3⟩ : ∃ wd, w.drewN m3 = wd := ⟨_, rfl⟩
        have hvd : Rws wd3 (.slice (some ⟨g, off, none⟩) l.length ca) l := hwd3 ▸ HV.out.drewN m3
        obtain ⟨g', off', hgo, -, -, ⟨a1, n1, p1, c2, s2⟩, -⟩ := hvd.at HY.out
        injection hgo with hgo
        injection hgo with hg1 hg2
        subst hg1 hg2
        have hwr : wr = wd3 := hwr3.trans hwd3
        subst hwr
        have HWD3 := Lib.hid hwd3
        obtain ⟨a', c', hsl⟩ := s2.len
        injection hsl with e1 e2 e3
        subst e1 e2 e3
        simp only at c2 s2
        clear hwd3 hvd hz3 hwr3 HWD
        by_cases hql : q < y2.length
        · obtain ⟨x, hx⟩ : ∃ x, y2[q]? = some x := ⟨y2[q], List.getElem?_eq_getElem hql⟩
          obtain ⟨g2, off2, rfl, d0⟩ := Ss.at s2 hx
          have HT := Lib.hid (tot_next hx)
          have hql' : (q : Int) < (y2.length : Int) := by omega
          have hq0 : (0 : Int) ≤ (q : Int) := by omega
          have hxs := arr_size x
          clear hx s2
          go_wp2_with fail
          go_roundw
          case rel =>
            refine ⟨q + 1, m3, _, HW3.out, rfl, by go_num, by omega, ?_⟩
            have hz := HZ3.out
            rw [HT.out, w64, w64, hz, wrap_add _ 3, wrap_add _ (x.length : Int)]
            congr 1
            omega
          case measure => simp [intOf]; omega
        · obtain rfl : q = y2.length := by omega
          have hql' : ¬ (y2.length : Int) < (y2.length : Int) := by omega
          have HT := Lib.hid (rowsLen_next HY.out)
          clear s2
          go_wp2_with fail
          go_roundw
          case rel =>
            refine ⟨p + 1, m3, z3, HW3.out, rfl, by go_num, by omega, ?_⟩
            have hz := HZ3.out
            rw [List.take_length] at hz
            rw [HT.out, hz]
            unfold rowLen
            first | (congr 1; done) | (congr 1; omega)
          case measure => simp [intOf]; omega
    · obtain rfl : p = l.length := by omega
      have hlt' : ¬ (l.length : Int) < (l.length : Int) := by omega
      have hzz : z = R := by have := HZ.out; rw [List.take_length] at this; rw [this, HR.out]
      clear HZ HR
      go_wp2_with fail
      go_ret
      exact ⟨rfl, _, HW.out⟩
end Go.Proofs.YteckiifnldcjbaaDoor
