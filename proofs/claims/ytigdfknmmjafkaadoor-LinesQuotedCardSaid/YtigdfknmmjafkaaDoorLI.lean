/- The walk of LinesQuoted. -/
import Derived.Test.YtigdfknmmjafkaaDoorKO
import Derived.Test.YtigdfknmmjafkaaDoorLG
import Derived.Test.YtigdfknmmjafkaaDoorKH
namespace Go.Proofs.YtigdfknmmjafkaaDoor
open Go.RowKit
attribute [local go_sem ↓ high] binop_addS binop_eqlS binop_neqS

set_option maxRecDepth 100000 in
set_option maxHeartbeats 1000000 in
theorem sameS_big (a b : List (List UInt8)) (v u : Value) (w : World) (hv : Ss w v a) (hu : Ss w u b) (hl : a.length ≤ 4000000000000000000) (hl' : b.length ≤ 4000000000000000000) :
    Calls Tryd.prog 14 #[v, u] w fun e w' => e = .returned (.bool (decide (a = b))) ∧ ∃ m, w' = w.drewN m := by
  have HV := Lib.hid hv
  have HU := Lib.hid hu
  obtain ⟨aa, ca, rfl, -, -⟩ := hv
  obtain ⟨ab, cb, rfl, -, -⟩ := hu
  by_cases hlen : a.length = b.length
  · have HLen := Lib.hid hlen
    have hne : ((a.length : Int) != (b.length : Int)) = false := by simp [hlen]
    clear hlen
    go_enter Tryd.func14, Tryd.ntmps14
    go_wp2_with fail
    go_loopw [5] (fun i wr => ∃ j : Nat, j ≤ a.length ∧ i = .int .i64 j ∧ a.take j = b.take j ∧ ∃ m, wr = w.drewN m) (fun i _ => a.length - (intOf i).toNat)
    case atStart => exact ⟨0, by omega, rfl, rfl, 0, rfl⟩
    case round =>
      obtain ⟨j, hj, rfl, hs, m, rfl⟩ := hrel
      have HS := Lib.hid hs
      clear hs
      by_cases hlt : j < a.length
      · obtain ⟨x, hx⟩ : ∃ x, a[j]? = some x := ⟨a[j], List.getElem?_eq_getElem hlt⟩
        obtain ⟨y, hy⟩ : ∃ y, b[j]? = some y := ⟨b[j]'(by have := HLen.out; omega), List.getElem?_eq_getElem _⟩
        obtain ⟨g, off, rfl, c0⟩ := Ss.at (fs_drewN HV.out m) hx
        obtain ⟨g', off', rfl, c0'⟩ := Ss.at (fs_drewN HU.out m) hy
        have hi0 : (j : Int) < (a.length : Int) := by omega
        have hi2 : (j : Int) < (b.length : Int) := by have := HLen.out; omega
        have hi1 : (0 : Int) ≤ (j : Int) := by omega
        obtain ⟨wd, hwd⟩ : ∃ wd, w.drewN m = wd := ⟨_, rfl⟩
        rw [hwd] at c0 c0' ⊢
        have HW := Lib.hid hwd
        clear hwd
        by_cases hxy : x = y
        · subst hxy
          have HT := Lib.hid (take_same HS.out hx hy)
          have hq := neqS_same x
          clear hx hy
          go_wp2_with fail
          go_quiet (fail)
          go_wp2
          go_roundw
          case rel => exact ⟨j + 1, by omega, by go_num, HT.out, _, by rw [← HW.out, drewN_add]⟩
          case measure => simp [intOf]; omega
        · have HT := Lib.hid (decide_eq_false (not_same hx hy hxy))
          have hq := neqS_other hxy
          clear hx hy hxy
          go_wp2_with fail
          go_quiet (fail)
          go_wp2
          go_ret
          exact ⟨ret_bool HT.out.symm, _, by rw [← HW.out, drewN_add]⟩
      · obtain rfl : j = a.length := by omega
        have hs : a = b := by
          have h := HS.out
          rw [List.take_length, HLen.out, List.take_length] at h
          exact h
        have HT := Lib.hid (decide_eq_true hs)
        clear hs
        go_wp2_with fail
        go_ret
        exact ⟨ret_bool HT.out.symm, _, rfl⟩
  · have hne : ((a.length : Int) != (b.length : Int)) = true := by simp; omega
    have HT := Lib.hid (decide_eq_false (show ¬ a = b from fun h => hlen (by rw [h])))
    clear hlen
    go_enter Tryd.func14, Tryd.ntmps14
    go_wp2_with fail
    go_ret
    exact ⟨ret_bool HT.out.symm, 0, rfl⟩


theorem str_addB (a c : List UInt8) (h : a.length + c.length ≤ 4000000000000000000) (W : World) : (addS (.string ⟨a.toArray⟩) (.string ⟨c.toArray⟩)).run Tryd.prog W = .ok (.string ⟨(a ++ c).toArray⟩) W := by
  unfold addS
  have ha := arr_size a
  have hc := arr_size c
  rw [binOp_string_add]
  simp [Op.stringOp, cat_str, ha, hc, maxLen]
  omega
/-- Texts, quoted, two blanks behind each. -/
def qsep (l : List (List UInt8)) : List UInt8 := l.flatMap fun x => qt x ++ [32, 32]
theorem qsep_nil : qsep [] = [] := rfl
theorem qsep_cons (x : List UInt8) (l : List (List UInt8)) : qsep (x :: l) = qt x ++ [32, 32] ++ qsep l := by simp [qsep]
theorem qsep_snoc (l : List (List UInt8)) (x : List UInt8) : qsep (l ++ [x]) = qsep l ++ qt x ++ [32, 32] := by simp [qsep]
theorem args_qsep : ∀ l : List (List UInt8), args (qsep l) = (l, true)
  | [] => args_nil
  | x :: l => by
    have ih := args_qsep l
    have hq : uq (dbl x ++ (34 :: (32 :: 32 :: qsep l))) = (x, 32 :: 32 :: qsep l, true) := by
      rw [uq_dbl, uq_end _ (by simp)]
      simp
    have e : qsep (x :: l) = 34 :: (dbl x ++ (34 :: (32 :: 32 :: qsep l))) := by simp [qsep_cons, qt]
    rw [e, args_quote (by rw [hq]), hq]
    simp only
    rw [args_blank (by decide), args_blank (by decide), ih]
theorem qsep_len (l : List (List UInt8)) : (qsep l).length ≤ 4 * l.length + 2 * tot l := by
  induction l with
  | nil => simp [qsep_nil]
  | cons x l ih =>
    have := (dbl_len x).2
    rw [qsep_cons]
    simp only [tot, List.map_cons, List.sum_cons, List.length_cons, List.length_append, qt] at ih ⊢
    simp only [List.length_nil]
    omega
theorem qsep_next {l : List (List UInt8)} {p : Nat} {x : List UInt8} (hx : l[p]? = some x) : qsep (l.take (p + 1)) = qsep (l.take p) ++ qt x ++ [32, 32] := by
  rw [List.take_add_one, hx]
  exact qsep_snoc _ _
theorem totQ_next {l : List (List UInt8)} {p : Nat} {x : List UInt8} (hx : l[p]? = some x) : tot (l.take (p + 1)) = tot (l.take p) + x.length := by
  rw [List.take_add_one, hx]
  exact tot_snoc _ _

set_option maxRecDepth 100000 in
set_option maxHeartbeats 8000000 in
theorem quotedL_any (l : List (List UInt8)) (v : Value) (w : World) (hM : Mx w) (hv : Ss w v l) (hl : l.length ≤ 8796093021952) (ha : ∀ x ∈ l, x.length ≤ 1000000000000000) :
    Calls Tryd.prog 6 #[v] w fun e W' => e = .returned (.bool true) ∧ Below w.heap.size w W' := by
  have HM := Lib.hid (fun W (h : Below w.heap.size w W) => hM.below (Nat.le_refl _) h)
  have HV := Lib.hid hv
  have HLA := Lib.hid ha
  have HK := Lib.hid (fun W h => known_any W h)
  obtain ⟨aa, ca, rfl, -, -⟩ := hv
  clear hM ha
  go_enter Tryd.func6, Tryd.ntmps6
  go_wp2_with fail
  go_loopw [3, 4, 5] (fun n s i wr => ∃ (p t : Nat), i = .int .i64 (p : Int) ∧ n = .int .i64 (t : Int) ∧ p ≤ l.length ∧ t ≤ 800 ∧ tot (l.take p) = t ∧ s = .string ⟨(32 :: qsep (l.take p)).toArray⟩ ∧ Below w.heap.size w wr) (fun _ _ i _ => l.length - (intOf i).toNat)
  case atStart => exact ⟨0, 0, rfl, rfl, by omega, by omega, by simp [tot], by simp [qsep_nil], Below.refl _ _⟩
  case round =>
    obtain ⟨p, t, rfl, rfl, hp, ht, hT, rfl, hb⟩ := hrel
    have BB := Lib.hid hb
    have HT := Lib.hid hT
    have hql := qsep_len (l.take p)
    rw [List.length_take, hT] at hql
    clear hb hT
    by_cases hlt : p < l.length
    · obtain ⟨x, hx⟩ : ∃ x, l[p]? = some x := ⟨l[p], List.getElem?_eq_getElem hlt⟩
      have hxl := HLA.out x (List.mem_iff_getElem?.2 ⟨p, hx⟩)
      obtain ⟨g, off, rfl, c0⟩ := Ss.at (HV.out.below BB.out) hx
      have hlt' : (p : Int) < (l.length : Int) := by omega
      have hp0 : (0 : Int) ≤ (p : Int) := by omega
      have hxs := arr_size x
      by_cases h800 : 800 < t + x.length
      · have h800' : (800 : Int) < (t : Int) + (x.length : Int) := by omega
        have K2 := Lib.hid (HK.out _ (HM.out _ BB.out))
        clear hx hql
        go_wp2_with (go_at_call 11; refine K2.out.mono ?_; rintro e w' ⟨rfl, hb⟩)
        go_ret
        exact ⟨rfl, BB.out.trans (hb.mono BB.out.size)⟩
      · have h800' : ¬ (800 : Int) < (t : Int) + (x.length : Int) := by omega
        have HN := Lib.hid (qsep_next hx)
        have HTN := Lib.hid (totQ_next hx)
        have hdl := (dbl_len x).2
        have k1 := str_addB (32 :: qsep (l.take p)) (qt x) (by simp [qt]; omega)
        have k2 := str_addB (32 :: qsep (l.take p) ++ qt x) [32, 32] (by simp [qt]; omega)
        have hQ := quoted_any x _ (HM.out _ BB.out) (by omega)
        have HQ := Lib.hid hQ
        obtain ⟨s1, hs1⟩ : ∃ s, 32 :: qsep (l.take p) = s := ⟨_, rfl⟩
        have HS1 := Lib.hid hs1
        rw [hs1] at k1 k2 ⊢
        obtain ⟨s2, hs2⟩ : ∃ s, s1 ++ qt x = s := ⟨_, rfl⟩
        have HS2 := Lib.hid hs2
        rw [hs2] at k1 k2
        clear hx hs1 hs2 hQ hql hdl
        go_wp2_with fail
        refine HQ.out.mono ?_
        rintro e w3 ⟨rfl, b3⟩
        have B3 := Lib.hid (BB.out.trans (b3.mono BB.out.size))
        clear b3 HQ
        go_wp2_with fail
        go_roundw
        case rel => exact ⟨p + 1, t + x.length, by go_num, by go_num, by omega, by omega, by rw [HTN.out, HT.out], by rw [HN.out, ← HS2.out, ← HS1.out]; simp, B3.out⟩
        case measure => simp [intOf]; omega
    · obtain rfl : p = l.length := by omega
      have hlt' : ¬ (l.length : Int) < (l.length : Int) := by omega
      have htot : tot l = t := by have := HT.out; rwa [List.take_length] at this
      have hxl : ∀ x ∈ l, x.length ≤ 1000000 := fun x hx => by have := tot_mem hx; omega
      rw [List.take_length] at hql ⊢
      have hS : args (32 :: qsep l) = (l, true) := by rw [args_blank (by decide), args_qsep]
      have hA := fun W h => args_big (32 :: qsep l) W h (by simp; omega) (by rw [hS]; exact ⟨hl, hxl⟩)
      rw [hS] at hA
      have HA := Lib.hid hA
      have VB := Lib.hid (HV.out.below BB.out)
      clear hA hS hxl htot HT hql HLA HV
      go_wp2_with fail
      refine (HA.out _ (HM.out _ BB.out)).mono ?_
      rintro e W1 ⟨v1, rfl, o1, b1, z1⟩
      have B1 := Lib.hid (BB.out.trans (b1.mono BB.out.size))
      have s1 := sameS_big l l v1 (.slice aa l.length ca) W1 (FOwn.sl scell_len o1) (VB.out.below b1) (by omega) (by omega)
      rw [decide_eq_true rfl] at s1
      have S1 := Lib.hid s1
      clear s1 b1 o1 z1 HA VB BB
      go_wp2_with fail
      refine S1.out.mono ?_
      rintro e W2 ⟨rfl, m2, hm2⟩
      have b2 := below_drewN (Below.refl W1.heap.size W1) m2
      rw [← hm2] at b2
      have B2 := Lib.hid (B1.out.trans (b2.mono B1.out.size))
      have K2 := Lib.hid (HK.out _ (HM.out _ B2.out))
      clear b2 hm2 S1 B1
      go_wp2_with fail
      refine K2.out.mono ?_
      rintro e W3 ⟨rfl, b3⟩
      have B3 := Lib.hid (B2.out.trans (b3.mono B2.out.size))
      clear b3 K2
      go_wp2_with fail
      go_ret
      exact ⟨rfl, B3.out⟩
end Go.Proofs.YtigdfknmmjafkaaDoor
