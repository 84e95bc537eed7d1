/- Mul64, Mul, Repeat, Blank. -/
import Derived.Test.YtkiglnfapoifiaaDoorG7
import Derived.Deep.RegionWith
namespace Go.Proofs.YtkiglnfapoifiaaDoor
open Go.RowKit
attribute [local go_sem ↓ high] slice_frontG slice_backG make_makeG builtin_copyG

theorem and32 (y : Int) (h0 : 0 ≤ y) (h1 : y ≤ 100000) : bits .and .u64 y 4294967295 = y := by
  have h := bits_mask .u64 63 (by decide) (fun n h0 h1 => by rw [IntKind.wrap_u64]; omega) 32 (by decide) y h0 (by omega)
  have e : ((2 : Int) ^ 32 - 1) = 4294967295 := by decide
  have e2 : ((2 : Int) ^ 32) = 4294967296 := by decide
  rw [e, e2] at h
  rw [h]
  omega
set_option maxRecDepth 100000 in
set_option maxHeartbeats 1000000 in
theorem mul64_any (y : Int) (h0 : 0 ≤ y) (h1 : y ≤ 100000) (w : World) : Calls Tryd.prog 58 #[.int .u64 1, .int .u64 y] w fun e w' => e = .returned (.tuple #[.int .u64 0, .int .u64 y]) ∧ w = w' := by
  go_enter Tryd.func58, Tryd.ntmps58
  go_wp2_with fail
  rw [and32 y h0 h1, show bits .and .u64 1 4294967295 = 1 from by decide]
  have w1 : ∀ z : Int, 0 ≤ z → z ≤ 100000 → IntKind.u64.wrap z = z := fun z a b => by simp [IntKind.wrap, IntKind.bits, IntKind.signed]; omega
  have d0 : y / 4294967296 = 0 := by omega
  simp only [Int.one_mul, w1 y h0 h1, d0, Int.zero_mul, Int.mul_zero, Int.add_zero, Int.zero_add, w1 0 (by omega) (by omega), show bits .and .u64 0 4294967295 = 0 from by decide, show (0 : Int) / 4294967296 = 0 from by decide]
  go_ret2
  exact ⟨rfl, rfl⟩

set_option maxRecDepth 100000 in
set_option maxHeartbeats 1000000 in
theorem mul_any (y : Int) (h0 : 0 ≤ y) (h1 : y ≤ 100000) (w : World) : Calls Tryd.prog 55 #[.int .u64 1, .int .u64 y] w fun e w' => e = .returned (.tuple #[.int .u64 0, .int .u64 y]) ∧ w = w' := by
  have H := Lib.hid (mul64_any y h0 h1 w)
  go_enter Tryd.func55, Tryd.ntmps55
  go_wp2_with (go_at_call 58; refine H.out.mono ?_; rintro e w' ⟨rfl, rfl⟩)
  go_ret2
  exact ⟨rfl, rfl⟩

/-- The cells of the row that is filled. -/
def Rowed (B : Nat) (w W : World) (g k m : Nat) : Prop := W.heap[g]? = some (.cells (rowC k m).toArray 47 (0, 0)) ∧ Below B w W
theorem bl_one (m : Nat) : ∀ v ∈ flatV gcell (List.replicate m bg), v.oneCell' = true := by
  intro v hv
  simp only [flatV, List.mem_flatten, List.mem_map] at hv
  obtain ⟨ys, ⟨y, _, rfl⟩, hy⟩ := hv
  exact gcell_one y v hy
theorem bl_len (m : Nat) : (flatV gcell (List.replicate m bg)).length = m * 2 := by rw [flatV_len gcell_len]; simp

/-- One copy: m blanks behind the first k. -/
theorem Rowed.step {B : Nat} {w W : World} {g k q m sLen dLen dCap sCap : Nat} {a : Addr} (h : Rowed B w W g k q) (hB : B ≤ g) (hm : m = Nat.min sLen dLen) (hq : m ≤ q)
    (hsrc : ∀ j v, (flatV gcell (List.replicate m bg))[j]? = some v → W.cell? (a.add j) = some v) :
    ∃ W', (Builtin.copy_ #[22, 22] 3 #[.slice (some ⟨g, k * 2, none⟩) dLen dCap, .slice (some a) sLen sCap]).run Tryd.prog W = .ok (goInt m) W' ∧ Rowed B w W' g (k + m) (q - m) := by
  have hr := copy0_run (dCap := dCap) (sCap := sCap) (o := k * 2) (cs := flatV gcell (List.replicate m bg)) h.1 (by rw [bl_len, hm]) hsrc (by rw [bl_len, rowC_len]; omega) (bl_one m)
  rw [rowC_step k q m hq, ← hm] at hr
  exact ⟨_, hr, setRow_heap _ _ _ _ _ _ h.1, below_setRow h.2 hB _⟩
theorem Rowed.src {B : Nat} {w W : World} {g k q m : Nat} (h : Rowed B w W g k q) (hm : m ≤ k) : ∀ j v, (flatV gcell (List.replicate m bg))[j]? = some v → W.cell? ((⟨g, 0, none⟩ : Addr).add j) = some v := by
  intro j v hj
  rw [Addr.add_lit, Nat.zero_add]
  have hlt := (List.getElem?_eq_some_iff.1 hj).1
  rw [bl_len] at hlt
  have e : rowC k q = flatV gcell (List.replicate m bg) ++ flatV gcell (List.replicate (k - m) bg ++ List.replicate q zg) := by
    unfold rowC
    rw [← flatV_app, ← List.append_assoc, List.replicate_append_replicate]
    congr 3
    omega
  have : (rowC k q)[j]? = some v := by
    rw [e, List.getElem?_append_left (by rw [bl_len]; exact hlt)]
    exact hj
  simp only [World.cell?, h.1]
  simpa using this
theorem Rowed.drew {B : Nat} {w W : World} {g k q : Nat} (h : Rowed B w W g k q) : Rowed B w W.drew g k q := ⟨h.1, h.2.drew⟩
theorem Rowed.own {w W : World} {g n : Nat} (h : Rowed w.heap.size w W g n 0) (hB : w.heap.size ≤ g) (hn : n ≤ 100000) : GOwn w.heap.size W (.slice (some ⟨g, 0, none⟩) n n) (List.replicate n bg) := by
  have e : rowC n 0 = flatV gcell (List.replicate n bg) := by unfold rowC; simp
  refine ⟨by rw [bl_len]; simp, .inr ⟨g, n, (rowC n 0).toArray, by simp, hB, h.1, by simp, by unfold maxLen; omega, ?_, ?_⟩⟩
  · have := rowC_len n 0
    simpa using this
  · rw [e]
    exact List.take_of_length_le (by rw [bl_len]; simp)

set_option maxRecDepth 100000 in
set_option maxHeartbeats 1000000 in
theorem repeat_any (v : Value) (n : Nat) (hn : n ≤ 70000) (w : World) (hv : Gs w v [bg]) :
    Calls Tryd.prog 48 #[v, .int .i64 (n : Int)] w fun e w' => ∃ u, e = .returned u ∧ GOwn w.heap.size w' u (List.replicate n bg) ∧ Below w.heap.size w w' := by
  obtain ⟨a, cap, rfl, hcap, hr⟩ := hv
  obtain ⟨b, off, rfl, h0⟩ := hr 0 bg rfl
  have c0 := h0 0 _ rfl
  have c1 := h0 1 _ rfl
  have HM := Lib.hid (mul_any (n : Int) (by omega) (by omega) w)
  have kmk := makeG_run w n (by omega)
  have R0 : Rowed w.heap.size w (w.alloc (.cells (rowC 0 n).toArray 47)) w.heap.size 0 n := ⟨heap_alloc_new w _, below_lit w _⟩
  have hbl := World.block_lt_of_cell? w _ c0
  obtain ⟨W1, k1, R1⟩ := R0.step (m := Nat.min 1 n) (sLen := 1) (dLen := n) (dCap := n) (sCap := cap) (a := ⟨b, off, none⟩) (Nat.le_refl _) rfl (Nat.min_le_right _ _) (by
    intro j v hj
    have hlt := (List.getElem?_eq_some_iff.1 hj).1
    rw [bl_len] at hlt
    have hm1 : Nat.min 1 n ≤ 1 := Nat.min_le_left _ _
    have hn1 : Nat.min 1 n = 1 := by omega
    rw [hn1] at hj
    rw [Addr.add_lit, (below_lit w _).cell (p := ⟨b, off + j, none⟩) hbl]
    match j, hj with
    | 0, hj => simp [flatV, gcell, bg] at hj; subst hj; exact c0
    | 1, hj => simp [flatV, gcell, bg] at hj; subst hj; exact c1
    | j + 2, hj => simp [flatV, gcell, bg] at hj)
  have k1' : (copyG #[.slice (some ⟨w.heap.size, 0, none⟩) n n, .slice (some ⟨b, off, none⟩) 1 cap]).run Tryd.prog (w.alloc (.cells (rowC 0 n).toArray 47)) = .ok (.value (goInt (Nat.min 1 n))) W1 := copyG_of (by simpa using k1)
  obtain ⟨m, hm⟩ : ∃ m, Nat.min 1 n = m := ⟨_, rfl⟩
  have hmn : m ≤ n := by rw [← hm]; exact Nat.min_le_right _ _
  have hm1 : m < n → 1 ≤ m := by rw [← hm]; intro h; simp only [Nat.min_def] at h ⊢; split <;> split at h <;> omega
  rw [hm] at k1' R1
  rw [Nat.zero_add] at R1
  have HR1 := Lib.hid R1
  have HM1 := Lib.hid hm1
  have hn0 : (0 : Int) ≤ (n : Int) := by omega
  have hn7 : (n : Int) ≤ 70000 := by omega
  have hd1 : decide ((n : Int) < 0) = false := by rw [decide_eq_false_iff_not]; omega
  have hd2 : decide ((9223372036854775807 : Int) < (n : Int)) = false := by rw [decide_eq_false_iff_not]; omega
  clear R0 R1 k1 hm hm1 hr h0 c0 c1 hbl
  go_enter Tryd.func48, Tryd.ntmps48
  go_wp2_with (go_at_call 55; refine HM.out.mono ?_; rintro e w' ⟨rfl, rfl⟩)
  go_loopw [8] (fun s wr => ∃ k : Nat, k ≤ n ∧ s = .int .i64 k ∧ (k < n → 1 ≤ k) ∧ Rowed w.heap.size w wr w.heap.size k (n - k)) (fun s _ => n - (intOf s).toNat)
  case atStart => exact ⟨m, hmn, rfl, HM1.out, HR1.out⟩
  case round =>
    obtain ⟨k, hk, rfl, hk1, hR⟩ := hrel
    have HR := Lib.hid hR
    have HK1 := Lib.hid hk1
    clear hk1 hR
    by_cases hlt : k < n
    · have hi0 : (k : Int) < (n : Int) := by omega
      have hi1 : (0 : Int) ≤ (k : Int) := by omega
      have f1 : ∀ W : World, (frontG (.slice (some ⟨w.heap.size, 0, none⟩) n n) (.int .i64 (k : Int))).run Tryd.prog W = .ok (.slice (some ⟨w.heap.size, 0, none⟩) k n) W := fun W => frontG_lit _ k n hk W
      have f2 : ∀ W : World, (backG (.slice (some ⟨w.heap.size, 0, none⟩) n n) (.int .i64 (k : Int))).run Tryd.prog W = .ok (.slice (some ⟨w.heap.size, k * 2, none⟩) (n - k) (n - k)) W := fun W => backG_lit _ k n hlt W
      have hkm : 1 ≤ Nat.min k (n - k) := by have := HK1.out hlt; simp only [Nat.min_def]; split <;> omega
      obtain ⟨W2, k2, R2⟩ := (Rowed.drew HR.out).step (m := Nat.min k (n - k)) (sLen := k) (dLen := n - k) (dCap := n - k) (sCap := n) (a := ⟨w.heap.size, 0, none⟩) (Nat.le_refl _) rfl (Nat.min_le_right _ _) ((Rowed.drew HR.out).src (Nat.min_le_left _ _))
      obtain ⟨q, hq⟩ : ∃ q, Nat.min k (n - k) = q := ⟨_, rfl⟩
      have hqk : q ≤ n - k := by rw [← hq]; exact Nat.min_le_right _ _
      rw [hq] at k2 R2 hkm
      have HR2 := Lib.hid R2
      have k2' : (Builtin.copy_ #[22, 22] 3 #[.slice (some ⟨w.heap.size, k * 2, none⟩) (n - k) (n - k), .slice (some ⟨w.heap.size, 0, none⟩) k n]).run Tryd.prog wr.drew = .ok (.int .i64 (q : Int)) W2 := k2
      have hs0 : IntKind.i64.wrap ((k : Int) + (q : Int)) = (k : Int) + (q : Int) := by simp [IntKind.wrap, IntKind.bits, IntKind.signed]; omega
      clear hq R2 k2
      go_wp2_with fail
      go_region_with (fail)
      all_goals
        go_simp
        go_wp2_with fail
        go_roundw
        case rel => exact ⟨k + q, by omega, by go_num, by omega, by have := HR2.out; rw [show n - k - q = n - (k + q) by omega] at this; exact this⟩
        case measure => simp [intOf]; omega
    · obtain rfl : k = n := by omega
      have hR' := HR.out
      rw [Nat.sub_self] at hR'
      have HO := Lib.hid (hR'.own (Nat.le_refl _) (by omega))
      have HB := Lib.hid hR'.2
      clear hR'
      go_wp2_with fail
      go_ret
      exact ⟨_, rfl, HO.out, HB.out⟩
end Go.Proofs.YtkiglnfapoifiaaDoor
