/- Whether two rows of tokens, of what is wrong, are the same. -/
import Derived.Test.YtgfmpndojjopnaaE6
import Derived.Deep.QuietTactic
import Derived.BigQuiet
namespace Go.Proofs.Ytgfmpndojjopnaa
open Go.RowKit

theorem Fs.t {w : World} {a : Option Addr} {k cap : Nat} {l : List Tok} (h : Ts w (.slice a k cap) l) {j : Nat} {g : Tok} (hj : l[j]? = some g) :
    ∃ b off, a = some ⟨b, off, none⟩ ∧ w.cell? ⟨b, off + j * 2, none⟩ = some (.int .i64 g.1) ∧ w.cell? ⟨b, off + j * 2 + 1, none⟩ = some (.int .i32 g.2) := by
  obtain ⟨a', cap', hv, _, hr⟩ := h
  injection hv with h1 h2 h3
  subst h1
  obtain ⟨b, off, rfl, h0⟩ := hr j g hj
  exact ⟨b, off, rfl, h0 0 _ rfl, h0 1 _ rfl⟩
theorem Fs.d {w : World} {a : Option Addr} {k cap : Nat} {l : List Dg} (h : Ds w (.slice a k cap) l) {j : Nat} {g : Dg} (hj : l[j]? = some g) :
    ∃ b off, a = some ⟨b, off, none⟩ ∧ w.cell? ⟨b, off + j * 3, none⟩ = some (.int .i64 g.1) ∧ w.cell? ⟨b, off + j * 3 + 1, none⟩ = some (.int .i64 g.2.1) ∧ w.cell? ⟨b, off + j * 3 + 2, none⟩ = some (.int .i64 g.2.2) := by
  obtain ⟨a', cap', hv, _, hr⟩ := h
  injection hv with h1 h2 h3
  subst h1
  obtain ⟨b, off, rfl, h0⟩ := hr j g hj
  exact ⟨b, off, rfl, h0 0 _ rfl, h0 1 _ rfl, h0 2 _ rfl⟩

theorem eqT (k l k' l' : Int) (w : World) : (Op.equalIn 10000 46 (.agg #[.int .i64 k, .int .i32 l]) (.agg #[.int .i64 k', .int .i32 l'])).run Try.prog w = .ok (k == k' && l == l') w := by
  rw [run_equalIn_agg w 9999 46 _ _ (by kernel_rfl) (by kernel_rfl)]
  have h3 : ((Try.prog.fieldsOf 46).toList.map fun f => (f.name != "_", f.type, f.offset)) = [(true, 3, 0), (true, 21, 1)] := by kernel_rfl
  generalize (Try.prog.fieldsOf 46).toList = fs at *
  rcases fs with _ | ⟨f0, _ | ⟨f1, _ | ⟨f2, fs⟩⟩⟩
  · simp at h3
  · simp at h3
  · simp only [List.map_cons, List.map_nil, List.cons.injEq, Prod.mk.injEq, and_true, bne_iff_ne, ne_eq] at h3
    obtain ⟨⟨n0, t0, o0⟩, ⟨n1, t1, o1⟩⟩ := h3
    have e0 : ∀ (a b : Int) (w : World), (Op.equalIn 9999 3 (.int .i64 a) (.int .i64 b)).run Try.prog w = .ok (a == b) w := fun a b w => run_equalIn_int w 9998 3 .i64 .i64 a b Try.underlying3
    have e1 : ∀ (a b : Int) (w : World), (Op.equalIn 9999 21 (.int .i32 a) (.int .i32 b)).run Try.prog w = .ok (a == b) w := fun a b w => run_equalIn_int w 9998 21 .i32 .i32 a b Try.underlying21
    simp [go_sem, Op.eqFields, n0, n1, t0, t1, o0, o1, e0, e1]
    by_cases a1 : k = k' <;> by_cases a2 : l = l' <;> simp [a1, a2]
  · simp at h3
theorem neqT_any (k l k' l' : Int) (w : World) : (binOp .neq 46 (.agg #[.int .i64 k, .int .i32 l]) (.agg #[.int .i64 k', .int .i32 l'])).run Try.prog w = .ok (.bool (!(k == k' && l == l'))) w := by
  rw [run_neq_struct, eqT]
  rfl
theorem neqT_same (k l : Int) (w : World) : (binOp .neq 46 (.agg #[.int .i64 k, .int .i32 l]) (.agg #[.int .i64 k, .int .i32 l])).run Try.prog w = .ok (.bool false) w := by
  rw [neqT_any]
  simp
theorem neqT_other {x y : Tok} (h : x ≠ y) (w : World) : (binOp .neq 46 (.agg #[.int .i64 x.1, .int .i32 x.2]) (.agg #[.int .i64 y.1, .int .i32 y.2])).run Try.prog w = .ok (.bool true) w := by
  rw [neqT_any]
  have : (x.1 == y.1 && x.2 == y.2) = false := by
    rw [Bool.eq_false_iff]
    intro e
    simp only [Bool.and_eq_true, beq_iff_eq] at e
    exact h (Prod.ext e.1 e.2)
  rw [this]
  rfl
theorem eqD (k l m k' l' m' : Int) (w : World) : (Op.equalIn 10000 50 (.agg #[.int .i64 k, .int .i64 l, .int .i64 m]) (.agg #[.int .i64 k', .int .i64 l', .int .i64 m'])).run Try.prog w = .ok (k == k' && l == l' && m == m') w := by
  rw [run_equalIn_agg w 9999 50 _ _ (by kernel_rfl) (by kernel_rfl)]
  have h3 : ((Try.prog.fieldsOf 50).toList.map fun f => (f.name != "_", f.type, f.offset)) = [(true, 3, 0), (true, 3, 1), (true, 3, 2)] := by kernel_rfl
  generalize (Try.prog.fieldsOf 50).toList = fs at *
  rcases fs with _ | ⟨f0, _ | ⟨f1, _ | ⟨f2, _ | ⟨f3, fs⟩⟩⟩⟩
  · simp at h3
  · simp at h3
  · simp at h3
  · simp only [List.map_cons, List.map_nil, List.cons.injEq, Prod.mk.injEq, and_true, bne_iff_ne, ne_eq] at h3
    obtain ⟨⟨n0, t0, o0⟩, ⟨n1, t1, o1⟩, ⟨n2, t2, o2⟩⟩ := h3
    have e0 : ∀ (a b : Int) (w : World), (Op.equalIn 9999 3 (.int .i64 a) (.int .i64 b)).run Try.prog w = .ok (a == b) w := fun a b w => run_equalIn_int w 9998 3 .i64 .i64 a b Try.underlying3
    simp [go_sem, Op.eqFields, n0, n1, n2, t0, t1, t2, o0, o1, o2, e0]
    by_cases a1 : k = k' <;> by_cases a2 : l = l' <;> by_cases a3 : m = m' <;> simp [a1, a2, a3]
  · simp at h3
theorem neqD_any (k l m k' l' m' : Int) (w : World) : (binOp .neq 50 (.agg #[.int .i64 k, .int .i64 l, .int .i64 m]) (.agg #[.int .i64 k', .int .i64 l', .int .i64 m'])).run Try.prog w = .ok (.bool (!(k == k' && l == l' && m == m'))) w := by
  rw [run_neq_struct, eqD]
  rfl
theorem neqD_same (k l m : Int) (w : World) : (binOp .neq 50 (.agg #[.int .i64 k, .int .i64 l, .int .i64 m]) (.agg #[.int .i64 k, .int .i64 l, .int .i64 m])).run Try.prog w = .ok (.bool false) w := by
  rw [neqD_any]
  simp
theorem neqD_other {x y : Dg} (h : x ≠ y) (w : World) : (binOp .neq 50 (.agg #[.int .i64 x.1, .int .i64 x.2.1, .int .i64 x.2.2]) (.agg #[.int .i64 y.1, .int .i64 y.2.1, .int .i64 y.2.2])).run Try.prog w = .ok (.bool true) w := by
  rw [neqD_any]
  have : (x.1 == y.1 && x.2.1 == y.2.1 && x.2.2 == y.2.2) = false := by
    rw [Bool.eq_false_iff]
    intro e
    simp only [Bool.and_eq_true, beq_iff_eq] at e
    exact h (Prod.ext e.1.1 (Prod.ext e.1.2 e.2))
  rw [this]
  rfl

set_option maxRecDepth 100000 in
set_option maxHeartbeats 1000000 in
theorem rsamed_any (a b : List Dg) (v u : Value) (w : World) (hv : Ds w v a) (hu : Ds w u b) (hl : a.length ≤ 200000) (hl' : b.length ≤ 200000) :
    Calls Try.prog 13 #[v, u] w fun e w' => e = .returned (.bool (decide (a = b))) ∧ Below w.heap.size w w' := by
  have HV := Lib.hid hv
  have HU := Lib.hid hu
  obtain ⟨aa, ca, rfl, -, -⟩ := hv
  obtain ⟨ab, cb, rfl, -, -⟩ := hu
  by_cases hlen : a.length = b.length
  · have HLen := Lib.hid hlen
    have hne : ((a.length : Int) != (b.length : Int)) = false := by simp [hlen]
    clear hlen
    go_enter Try.func13, Try.ntmps13
    go_wp2_with fail
    go_loopw [5] (fun i wr => ∃ j : Nat, j ≤ a.length ∧ i = .int .i64 j ∧ a.take j = b.take j ∧ Below w.heap.size w wr) (fun i _ => a.length - (intOf i).toNat)
    case atStart => exact ⟨0, by omega, rfl, rfl, Below.refl _ _⟩
    case round =>
      obtain ⟨j, hj, rfl, hs, hbw⟩ := hrel
      have HS := Lib.hid hs
      clear hs
      by_cases hlt : j < a.length
      · obtain ⟨x, hx⟩ : ∃ x, a[j]? = some x := ⟨a[j], List.getElem?_eq_getElem hlt⟩
        obtain ⟨y, hy⟩ : ∃ y, b[j]? = some y := ⟨b[j]'(by have := HLen.out; omega), List.getElem?_eq_getElem _⟩
        obtain ⟨g, off, rfl, c0, c1, c2⟩ := Fs.d (Fs.below HV.out hbw) hx
        obtain ⟨g', off', rfl, c0', c1', c2'⟩ := Fs.d (Fs.below HU.out hbw) hy
        have hi0 : (j : Int) < (a.length : Int) := by omega
        have hi2 : (j : Int) < (b.length : Int) := by have := HLen.out; omega
        have hi1 : (0 : Int) ≤ (j : Int) := by omega
        by_cases hxy : x = y
        · subst hxy
          have HT := Lib.hid (take_same HS.out hx hy)
          have hq := neqD_same
          clear hx hy
          go_wp2_with fail
          go_quiet (fail)
          go_wp2
          go_roundw
          case rel => exact ⟨j + 1, by omega, by go_num, HT.out, below_drewN hbw _⟩
          case measure => simp [intOf]; omega
        · have HT := Lib.hid (decide_eq_false (not_same hx hy hxy))
          have hq := neqD_other hxy
          clear hx hy hxy
          go_wp2_with fail
          go_quiet (fail)
          go_wp2
          go_ret
          exact ⟨ret_bool HT.out.symm, below_drewN hbw _⟩
      · obtain rfl : j = a.length := by omega
        have hs : a = b := by
          have h := HS.out
          rw [List.take_length, HLen.out, List.take_length] at h
          exact h
        have HT := Lib.hid (decide_eq_true hs)
        clear hs
        go_wp2_with fail
        go_ret
        exact ⟨ret_bool HT.out.symm, hbw⟩
  · have hne : ((a.length : Int) != (b.length : Int)) = true := by simp; omega
    have HT := Lib.hid (decide_eq_false (show ¬ a = b from fun h => hlen (by rw [h])))
    clear hlen
    go_enter Try.func13, Try.ntmps13
    go_wp2_with fail
    go_ret
    exact ⟨ret_bool HT.out.symm, Below.refl _ _⟩

end Go.Proofs.Ytgfmpndojjopnaa
