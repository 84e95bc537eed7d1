/- Whether two rows are the same; copies; rows joined. -/
import Derived.Test.YtgfmpndojjopnaaG1
import Derived.Deep.QuietTactic
import Derived.BigQuiet
import Derived.Lib.SliceRun
namespace Go.Proofs.Ytgfmpndojjopnaa
open Go.RowKit

set_option maxRecDepth 100000 in
set_option maxHeartbeats 1000000 in
theorem rsameg_any (a b : List Gly) (v u : Value) (w : World) (hv : Gs w v a) (hu : Gs w u b) (hl : a.length ≤ 200000) (hl' : b.length ≤ 200000) :
    Calls Try.prog 12 #[v, u] w fun e w' => e = .returned (.bool (decide (a = b))) ∧ Below w.heap.size w w' := by
  have HV := Lib.hid hv
  have HU := Lib.hid hu
  obtain ⟨aa, ca, rfl, -, -⟩ := hv
  obtain ⟨ab, cb, rfl, -, -⟩ := hu
  by_cases hlen : a.length = b.length
  · have HLen := Lib.hid hlen
    have hne : ((a.length : Int) != (b.length : Int)) = false := by simp [hlen]
    clear hlen
    go_enter Try.func12, Try.ntmps12
    go_wp2_with fail
    go_loopw [5] (fun i wr => ∃ j : Nat, j ≤ a.length ∧ i = .int .i64 j ∧ a.take j = b.take j ∧ Below w.heap.size w wr) (fun i _ => a.length - (intOf i).toNat)
    case atStart => exact ⟨0, by omega, rfl, rfl, Below.refl _ _⟩
    case round =>
      obtain ⟨j, hj, rfl, hs, hbw⟩ := hrel
      have HS := Lib.hid hs
      clear hs
      by_cases hlt : j < a.length
      · obtain ⟨x, hx⟩ : ∃ x, a[j]? = some x := ⟨a[j], List.getElem?_eq_getElem hlt⟩
        obtain ⟨y, hy⟩ : ∃ y, b[j]? = some y := ⟨b[j]'(by have := HLen.out; omega), List.getElem?_eq_getElem _⟩
        obtain ⟨g, off, rfl, c0, c1, -⟩ := Gs.at (Fs.below HV.out hbw) hx
        obtain ⟨g', off', rfl, c0', c1', -⟩ := Gs.at (Fs.below HU.out hbw) hy
        have hi0 : (j : Int) < (a.length : Int) := by omega
        have hi2 : (j : Int) < (b.length : Int) := by have := HLen.out; omega
        have hi1 : (0 : Int) ≤ (j : Int) := by omega
        by_cases hxy : x = y
        · subst hxy
          have HT := Lib.hid (take_same HS.out hx hy)
          have hq := neqG_same
          clear hx hy
          go_wp2_with fail
          go_quiet (fail)
          go_wp2
          go_roundw
          case rel => exact ⟨j + 1, by omega, by go_num, HT.out, below_drewN hbw _⟩
          case measure => simp [intOf]; omega
        · have HT := Lib.hid (decide_eq_false (not_same hx hy hxy))
          have hq := neqG_other hxy
          clear hx hy hxy
          go_wp2_with fail
          go_quiet (fail)
          go_wp2
          go_ret
          exact ⟨ret_bool HT.out.symm, below_drewN hbw _⟩
      · obtain rfl : j = a.length := by omega
        have hs : a = b := by
          have h := HS.out
          rw [List.take_length, HLen.out, List.take_length] at h
          exact h
        have HT := Lib.hid (decide_eq_true hs)
        clear hs
        go_wp2_with fail
        go_ret
        exact ⟨ret_bool HT.out.symm, hbw⟩
  · have hne : ((a.length : Int) != (b.length : Int)) = true := by simp; omega
    have HT := Lib.hid (decide_eq_false (show ¬ a = b from fun h => hlen (by rw [h])))
    clear hlen
    go_enter Try.func12, Try.ntmps12
    go_wp2_with fail
    go_ret
    exact ⟨ret_bool HT.out.symm, Below.refl _ _⟩

/-- The append of glyphs, kept whole. -/
noncomputable def appG (args : Array Value) : Sem Next := do pure (.value (← Builtin.append_ #[26, 26] 26 args))
theorem builtin_appG (cs : Array Bool) (args : Array Value) : builtin .append #[26, 26] 26 cs args = appG args := rfl
theorem appG_own {base : Nat} {W : World} {x u : Value} {l m : List Gly} (h : GOwn base W x l) (hu : Gs W u m) (hb : base ≤ W.heap.size) (hd : l.length + m.length ≤ 1000000) :
    ∃ x' w', (appG #[x, u]).run Try.prog W = .ok (.value x') w' ∧ GOwn base w' x' (l ++ m) ∧ W.grownBy w' x.ownBlock ∧ (x'.ownBlock = x.ownBlock ∨ x'.ownBlock = some W.heap.size) := by
  obtain ⟨i0, hi, hz0, hz1, hz2⟩ := info_parts infoG
  obtain ⟨x', w', hr, r⟩ := fapp gcell_len gcell_one (by decide) Try.underlying26 hi hz0 hz1 hz2 rfl (by decide) h hu hb hd
  refine ⟨x', w', ?_, r⟩
  unfold appG
  simp only [Sem.run_bind, Sem.run_pure, Result.andThen_ok, hr]

/-- 'v[:k]', 'v[k:]'. -/
noncomputable def frontG (x hi : Value) : Sem Value := Instr.slice 26 x none (some hi) none
theorem slice_frontG (x hi : Value) : Instr.slice 26 x none (some hi) none = frontG x hi := rfl
noncomputable def backG (x lo : Value) : Sem Value := Instr.slice 26 x (some lo) none none
theorem slice_backG (x lo : Value) : Instr.slice 26 x (some lo) none none = backG x lo := rfl
theorem frontG_run {w : World} {v : Value} {l : List Gly} (h : Gs w v l) (k : Nat) (hk : k ≤ l.length) :
    ∃ u, (∀ W : World, (frontG v (.int .i64 (k : Int))).run Try.prog W = .ok u W) ∧ Gs w u (l.take k) ∧ (∀ a m cap, v = .slice a m cap → u = .slice a k cap) := by
  obtain ⟨i0, hi, hz0, hz1, hz2⟩ := info_parts infoG
  exact Fs.front Try.underlying26 hi h k hk
theorem backG_run {w : World} {v : Value} {l : List Gly} (h : Gs w v l) (k : Nat) (hk : k ≤ l.length) :
    ∃ u, (∀ W : World, (backG v (.int .i64 (k : Int))).run Try.prog W = .ok u W) ∧ Gs w u (l.drop k) := by
  obtain ⟨i0, hi, hz0, hz1, hz2⟩ := info_parts infoG
  exact Fs.back Try.underlying26 hi hz1 h k hk

attribute [local go_sem ↓ high] builtin_appG
set_option maxRecDepth 100000 in
set_option maxHeartbeats 1000000 in
theorem cloneg_any (l : List Gly) (v : Value) (w : World) (hv : Gs w v l) (hl : l.length ≤ 200000) :
    Calls Try.prog 21 #[v] w fun e w' => ∃ u, e = .returned u ∧ GOwn w.heap.size w' u l ∧ Below w.heap.size w w' := by
  have HV := Lib.hid hv
  obtain ⟨a, cap, rfl, -, hr⟩ := hv
  cases a with
  | none =>
    obtain rfl : l = [] := by
      cases l with
      | nil => rfl
      | cons x l => obtain ⟨g, off, h0, _⟩ := hr 0 x rfl; cases h0
    clear hr
    have hnil : (binOp .eql 26 (.slice none 0 cap) (.slice none 0 0)).run Try.prog w = .ok (.bool true) w := Lib.run_eql_slice_nil w 26 41 none 0 cap 0 0 Try.underlying26
    simp only [List.length_nil]
    go_enter Try.func21, Try.ntmps21
    go_wp2_with fail
    go_ret
    exact ⟨_, rfl, FOwn.nil _ _, Below.refl _ _⟩
  | some a =>
    clear hr
    have b1 := below_lit w (.cells #[] 41)
    have o1 : GOwn w.heap.size (w.alloc (.cells #[] 41)) (.slice (some ⟨w.heap.size, 0, none⟩) 0 0) [] := fown_lit gcell_len w (Nat.le_refl _) [] (by simp)
    obtain ⟨x', w', k1, o2, g2, -⟩ := appG_own o1 (Fs.below HV.out b1) (by simp) (by simp; omega)
    have b2 := Lib.hid (o1.below b1 (by simp) g2)
    have O2 := Lib.hid o2
    have hnil : (binOp .eql 26 (.slice (some a) l.length cap) (.slice none 0 0)).run Try.prog w = .ok (.bool false) w := Lib.run_eql_slice_nil w 26 41 (some a) l.length cap 0 0 Try.underlying26
    clear o1 o2 g2 b1
    go_enter Try.func21, Try.ntmps21
    go_wp2_with fail
    go_ret
    exact ⟨_, rfl, O2.out, b2.out⟩

set_option maxRecDepth 100000 in
set_option maxHeartbeats 1000000 in
theorem join_any (a b : List Gly) (v u : Value) (w : World) (hv : Gs w v a) (hu : Gs w u b) (hl : a.length + b.length ≤ 500000) :
    Calls Try.prog 16 #[v, u] w fun e w' => ∃ x, e = .returned x ∧ GOwn w.heap.size w' x (a ++ b) ∧ Below w.heap.size w w' := by
  obtain ⟨x1, w1, k1, o1, g1, -⟩ := appG_own (FOwn.nil w.heap.size w) hv (Nat.le_refl _) (by simp; omega)
  have b1 := (FOwn.nil (e := 41) (n := 2) (f := gcell) w.heap.size w).below (Below.refl _ _) (Nat.le_refl _) g1
  rw [List.nil_append] at o1
  obtain ⟨x2, w2, k2, o2, g2, -⟩ := appG_own o1 (Fs.below hu b1) b1.size (by omega)
  have b2 := Lib.hid (o1.below b1 b1.size g2)
  have O2 := Lib.hid o2
  obtain ⟨aa, ca, rfl⟩ := hv.len
  obtain ⟨ab, cb, rfl⟩ := hu.len
  clear hv hu o1 o2 g1 g2 b1
  go_enter Try.func16, Try.ntmps16
  go_wp2_with fail
  go_ret
  exact ⟨_, rfl, O2.out, b2.out⟩
end Go.Proofs.Ytgfmpndojjopnaa
