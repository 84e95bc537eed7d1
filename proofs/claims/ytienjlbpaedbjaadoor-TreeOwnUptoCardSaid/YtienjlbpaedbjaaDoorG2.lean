/- Slices of glyphs; Width in the program and in the document's answer; whether two rows are the same. Whether two rows are the same; copies; rows joined. -/
import Derived.Test.YtienjlbpaedbjaaDoorGx
import Derived.Test.YtienjlbpaedbjaaDoorW7
import Derived.Deep.QuietTactic
import Derived.BigQuiet
import Derived.Lib.SliceRun
namespace Go.Proofs.YtienjlbpaedbjaaDoor
open Go.RowKit

/-- A glyph: its rune, and how it is set. -/
abbrev Gly := Int × Int
def gcell (g : Gly) : List Value := [.int .i32 g.1, .int .u8 g.2]
theorem gcell_len (g : Gly) : (gcell g).length = 2 := rfl
theorem gcell_one (g : Gly) : ∀ u ∈ gcell g, u.oneCell' = true := by
  intro u hu
  simp only [gcell, List.mem_cons, List.not_mem_nil, or_false] at hu
  rcases hu with rfl | rfl <;> rfl
abbrev Gs (w : World) (v : Value) (l : List Gly) : Prop := Fs 2 gcell w v l
abbrev GOwn (base : Nat) (W : World) (x : Value) (l : List Gly) : Prop := FOwn 50 2 gcell base W x l
theorem Gs.at {w : World} {a : Option Addr} {k cap : Nat} {l : List Gly} (h : Gs w (.slice a k cap) l) {j : Nat} {g : Gly} (hj : l[j]? = some g) :
    ∃ b off, a = some ⟨b, off, none⟩ ∧ w.cell? ⟨b, off + j * 2, none⟩ = some (.int .i32 g.1) ∧ w.cell? ⟨b, off + j * 2 + 1, none⟩ = some (.int .u8 g.2) ∧ b < w.heap.size := by
  obtain ⟨a', cap', hv, _, hr⟩ := h
  injection hv with h1 h2 h3
  subst h1
  obtain ⟨b, off, rfl, h0⟩ := hr j g hj
  have c0 := h0 0 _ rfl
  have c1 := h0 1 _ rfl
  exact ⟨b, off, rfl, c0, c1, World.block_lt_of_cell? w _ c0⟩

theorem infoG : (Tryd.prog.info? 50).map (fun i => (i.zero, i.size, i.bytes)) = some (some (.agg #[.int .i32 0, .int .u8 0]), 2, 8) := by kernel_rfl

/-- All widths. -/
def gsm (l : List Gly) : Int := sm (l.map (·.1))
theorem gsm_take {l : List Gly} {j : Nat} {g : Gly} (h : l[j]? = some g) : gsm (l.take (j + 1)) = gsm (l.take j) + wd g.1 := by
  unfold gsm
  rw [List.map_take, List.map_take]
  exact sm_take_succ (by simp [h])
theorem gsm_bd (l : List Gly) : 0 ≤ gsm l ∧ gsm l ≤ 2 * l.length := by
  have := sm_bd (l.map (·.1))
  rw [List.length_map] at this
  exact this
theorem gsm_app (a b : List Gly) : gsm (a ++ b) = gsm a + gsm b := by simp [gsm, sm_app]

theorem eqG (k l k' l' : Int) (w : World) : (Op.equalIn 10000 50 (.agg #[.int .i32 k, .int .u8 l]) (.agg #[.int .i32 k', .int .u8 l'])).run Tryd.prog w = .ok (k == k' && l == l') w := by
  rw [run_equalIn_agg w 9999 50 _ _ (by kernel_rfl) (by kernel_rfl)]
  have h3 : ((Tryd.prog.fieldsOf 50).toList.map fun f => (f.name != "_", f.type, f.offset)) = [(true, 21, 0), (true, 5, 1)] := by kernel_rfl
  generalize (Tryd.prog.fieldsOf 50).toList = fs at *
  rcases fs with _ | ⟨f0, _ | ⟨f1, _ | ⟨f2, fs⟩⟩⟩
  · simp at h3
  · simp at h3
  · simp only [List.map_cons, List.map_nil, List.cons.injEq, Prod.mk.injEq, and_true, bne_iff_ne, ne_eq] at h3
    obtain ⟨⟨n0, t0, o0⟩, ⟨n1, t1, o1⟩⟩ := h3
    have e0 : ∀ (a b : Int) (w : World), (Op.equalIn 9999 21 (.int .i32 a) (.int .i32 b)).run Tryd.prog w = .ok (a == b) w := fun a b w => run_equalIn_int w 9998 21 .i32 .i32 a b Tryd.underlying21
    have e1 : ∀ (a b : Int) (w : World), (Op.equalIn 9999 5 (.int .u8 a) (.int .u8 b)).run Tryd.prog w = .ok (a == b) w := fun a b w => run_equalIn_int w 9998 5 .u8 .u8 a b Tryd.underlying5
    simp [go_sem, Op.eqFields, n0, n1, t0, t1, o0, o1, e0, e1]
    by_cases a1 : k = k' <;> by_cases a2 : l = l' <;> simp [a1, a2]
  · simp at h3
theorem neqG_any (k l k' l' : Int) (w : World) : (binOp .neq 50 (.agg #[.int .i32 k, .int .u8 l]) (.agg #[.int .i32 k', .int .u8 l'])).run Tryd.prog w = .ok (.bool (!(k == k' && l == l'))) w := by
  rw [run_neq_struct, eqG]
  rfl
theorem neqG_same (k l : Int) (w : World) : (binOp .neq 50 (.agg #[.int .i32 k, .int .u8 l]) (.agg #[.int .i32 k, .int .u8 l])).run Tryd.prog w = .ok (.bool false) w := by
  rw [neqG_any]
  simp
theorem neqG_other {x y : Gly} (h : x ≠ y) (w : World) : (binOp .neq 50 (.agg #[.int .i32 x.1, .int .u8 x.2]) (.agg #[.int .i32 y.1, .int .u8 y.2])).run Tryd.prog w = .ok (.bool true) w := by
  rw [neqG_any]
  have : (x.1 == y.1 && x.2 == y.2) = false := by
    rw [Bool.eq_false_iff]
    intro e
    simp only [Bool.and_eq_true, beq_iff_eq] at e
    exact h (Prod.ext e.1 e.2)
  rw [this]
  rfl

end Go.Proofs.YtienjlbpaedbjaaDoor
namespace Go.Proofs.YtienjlbpaedbjaaDoor
open Go.RowKit

set_option maxRecDepth 100000 in
set_option maxHeartbeats 1000000 in
theorem rsameg_any (a b : List Gly) (v u : Value) (w : World) (hv : Gs w v a) (hu : Gs w u b) (hl : a.length ≤ 200000) (hl' : b.length ≤ 200000) :
    Calls Tryd.prog 25 #[v, u] w fun e w' => e = .returned (.bool (decide (a = b))) ∧ Below w.heap.size w w' := by
  have HV := Lib.hid hv
  have HU := Lib.hid hu
  obtain ⟨aa, ca, rfl, -, -⟩ := hv
  obtain ⟨ab, cb, rfl, -, -⟩ := hu
  by_cases hlen : a.length = b.length
  · have HLen := Lib.hid hlen
    have hne : ((a.length : Int) != (b.length : Int)) = false := by simp [hlen]
    clear hlen
    go_enter Tryd.func25, Tryd.ntmps25
    go_wp2_with fail
    go_loopw [5] (fun i wr => ∃ j : Nat, j ≤ a.length ∧ i = .int .i64 j ∧ a.take j = b.take j ∧ Below w.heap.size w wr) (fun i _ => a.length - (intOf i).toNat)
    case atStart => exact ⟨0, by omega, rfl, rfl, Below.refl _ _⟩
    case round =>
      obtain ⟨j, hj, rfl, hs, hbw⟩ := hrel
      have HS := Lib.hid hs
      clear hs
      by_cases hlt : j < a.length
      · obtain ⟨x, hx⟩ : ∃ x, a[j]? = some x := ⟨a[j], List.getElem?_eq_getElem hlt⟩
        obtain ⟨y, hy⟩ : ∃ y, b[j]? = some y := ⟨b[j]'(by have := HLen.out; omega), List.getElem?_eq_getElem _⟩
        obtain ⟨g, off, rfl, c0, c1, -⟩ := Gs.at (Fs.below HV.out hbw) hx
        obtain ⟨g', off', rfl, c0', c1', -⟩ := Gs.at (Fs.below HU.out hbw) hy
        have hi0 : (j : Int) < (a.length : Int) := by omega
        have hi2 : (j : Int) < (b.length : Int) := by have := HLen.out; omega
        have hi1 : (0 : Int) ≤ (j : Int) := by omega
        by_cases hxy : x = y
        · subst hxy
          have HT := Lib.hid (take_same HS.out hx hy)
          have hq := neqG_same
          clear hx hy
          go_wp2_with fail
          go_quiet (fail)
          go_wp2
          go_roundw
          case rel => exact ⟨j + 1, by omega, by go_num, HT.out, below_drewN hbw _⟩
          case measure => simp [intOf]; omega
        · have HT := Lib.hid (decide_eq_false (not_same hx hy hxy))
          have hq := neqG_other hxy
          clear hx hy hxy
          go_wp2_with fail
          go_quiet (fail)
          go_wp2
          go_ret
          exact ⟨ret_bool HT.out.symm, below_drewN hbw _⟩
      · obtain rfl : j = a.length := by omega
        have hs : a = b := by
          have h := HS.out
          rw [List.take_length, HLen.out, List.take_length] at h
          exact h
        have HT := Lib.hid (decide_eq_true hs)
        clear hs
        go_wp2_with fail
        go_ret
        exact ⟨ret_bool HT.out.symm, hbw⟩
  · have hne : ((a.length : Int) != (b.length : Int)) = true := by simp; omega
    have HT := Lib.hid (decide_eq_false (show ¬ a = b from fun h => hlen (by rw [h])))
    clear hlen
    go_enter Tryd.func25, Tryd.ntmps25
    go_wp2_with fail
    go_ret
    exact ⟨ret_bool HT.out.symm, Below.refl _ _⟩

set_option maxRecDepth 100000 in
set_option maxHeartbeats 1000000 in
theorem equal_any (a b : List Gly) (v u : Value) (w : World) (hv : Gs w v a) (hu : Gs w u b) (hl : a.length ≤ 200000) (hl' : b.length ≤ 200000) :
    Calls Tryd.prog 97 #[v, u] w fun e w' => e = .returned (.bool (decide (a = b))) ∧ Below w.heap.size w w' := by
  have HV := Lib.hid hv
  have HU := Lib.hid hu
  obtain ⟨aa, ca, rfl, -, -⟩ := hv
  obtain ⟨ab, cb, rfl, -, -⟩ := hu
  by_cases hlen : a.length = b.length
  · have HLen := Lib.hid hlen
    have hne : ((a.length : Int) != (b.length : Int)) = false := by simp [hlen]
    clear hlen
    go_enter Tryd.func97, Tryd.ntmps97
    go_wp2_with fail
    go_loopw [13] (fun i wr => ∃ j : Nat, j ≤ a.length ∧ i = .int .i64 j ∧ a.take j = b.take j ∧ Below w.heap.size w wr) (fun i _ => a.length - (intOf i).toNat)
    case atStart => exact ⟨0, by omega, rfl, rfl, Below.refl _ _⟩
    case round =>
      obtain ⟨j, hj, rfl, hs, hbw⟩ := hrel
      have HS := Lib.hid hs
      clear hs
      by_cases hlt : j < a.length
      · obtain ⟨x, hx⟩ : ∃ x, a[j]? = some x := ⟨a[j], List.getElem?_eq_getElem hlt⟩
        obtain ⟨y, hy⟩ : ∃ y, b[j]? = some y := ⟨b[j]'(by have := HLen.out; omega), List.getElem?_eq_getElem _⟩
        obtain ⟨g, off, rfl, c0, c1, -⟩ := Gs.at (Fs.below HV.out hbw) hx
        obtain ⟨g', off', rfl, c0', c1', -⟩ := Gs.at (Fs.below HU.out hbw) hy
        have hi0 : (j : Int) < (a.length : Int) := by omega
        have hi2 : (j : Int) < (b.length : Int) := by have := HLen.out; omega
        have hi1 : (0 : Int) ≤ (j : Int) := by omega
        by_cases hxy : x = y
        · subst hxy
          have HT := Lib.hid (take_same HS.out hx hy)
          have hq := neqG_same
          clear hx hy
          go_wp2_with fail
          go_quiet (fail)
          go_wp2
          go_roundw
          case rel => exact ⟨j + 1, by omega, by go_num, HT.out, below_drewN hbw _⟩
          case measure => simp [intOf]; omega
        · have HT := Lib.hid (decide_eq_false (not_same hx hy hxy))
          have hq := neqG_other hxy
          clear hx hy hxy
          go_wp2_with fail
          go_quiet (fail)
          go_wp2
          go_ret
          exact ⟨ret_bool HT.out.symm, below_drewN hbw _⟩
      · obtain rfl : j = a.length := by omega
        have hs : a = b := by
          have h := HS.out
          rw [List.take_length, HLen.out, List.take_length] at h
          exact h
        have HT := Lib.hid (decide_eq_true hs)
        clear hs
        go_wp2_with fail
        go_ret
        exact ⟨ret_bool HT.out.symm, hbw⟩
  · have hne : ((a.length : Int) != (b.length : Int)) = true := by simp; omega
    have HT := Lib.hid (decide_eq_false (show ¬ a = b from fun h => hlen (by rw [h])))
    clear hlen
    go_enter Tryd.func97, Tryd.ntmps97
    go_wp2_with fail
    go_ret
    exact ⟨ret_bool HT.out.symm, Below.refl _ _⟩

set_option maxRecDepth 100000 in
set_option maxHeartbeats 1000000 in
theorem csame_any (a b : List Gly) (v u : Value) (w : World) (hv : Gs w v a) (hu : Gs w u b) (hl : a.length ≤ 200000) (hl' : b.length ≤ 200000) :
    Calls Tryd.prog 77 #[v, u] w fun e w' => e = .returned (.bool (decide (a = b))) ∧ Below w.heap.size w w' := by
  have H := Lib.hid (equal_any a b v u w hv hu hl hl')
  obtain ⟨B, hB⟩ : ∃ B, decide (a = b) = B := ⟨_, rfl⟩
  rw [hB] at H ⊢
  clear hB hv hu
  go_enter Tryd.func77, Tryd.ntmps77
  go_wp2_with fail
  refine H.out.mono ?_
  rintro e w1 ⟨rfl, b1⟩
  go_wp2_with fail
  go_ret
  exact ⟨rfl, b1⟩

/-- The append of glyphs, kept whole. -/
noncomputable def appG (args : Array Value) : Sem Next := do pure (.value (← Builtin.append_ #[36, 36] 36 args))
theorem builtin_appG (cs : Array Bool) (args : Array Value) : builtin .append #[36, 36] 36 cs args = appG args := rfl
theorem appG_own {base : Nat} {W : World} {x u : Value} {l m : List Gly} (h : GOwn base W x l) (hu : Gs W u m) (hb : base ≤ W.heap.size) (hd : l.length + m.length ≤ 1000000) :
    ∃ x' w', (appG #[x, u]).run Tryd.prog W = .ok (.value x') w' ∧ GOwn base w' x' (l ++ m) ∧ W.grownBy w' x.ownBlock ∧ (x'.ownBlock = x.ownBlock ∨ x'.ownBlock = some W.heap.size) := by
  obtain ⟨i0, hi, hz0, hz1, hz2⟩ := info_parts infoG
  obtain ⟨x', w', hr, r⟩ := fapp gcell_len gcell_one (by decide) Tryd.underlying36 hi hz0 hz1 hz2 rfl (by decide) h hu hb hd
  refine ⟨x', w', ?_, r⟩
  unfold appG
  simp only [Sem.run_bind, Sem.run_pure, Result.andThen_ok, hr]

/-- 'v[:k]', 'v[k:]'. -/
noncomputable def frontG (x hi : Value) : Sem Value := Instr.slice 36 x none (some hi) none
theorem slice_frontG (x hi : Value) : Instr.slice 36 x none (some hi) none = frontG x hi := rfl
noncomputable def backG (x lo : Value) : Sem Value := Instr.slice 36 x (some lo) none none
theorem slice_backG (x lo : Value) : Instr.slice 36 x (some lo) none none = backG x lo := rfl
theorem frontG_run {w : World} {v : Value} {l : List Gly} (h : Gs w v l) (k : Nat) (hk : k ≤ l.length) :
    ∃ u, (∀ W : World, (frontG v (.int .i64 (k : Int))).run Tryd.prog W = .ok u W) ∧ Gs w u (l.take k) ∧ (∀ a m cap, v = .slice a m cap → u = .slice a k cap) := by
  obtain ⟨i0, hi, hz0, hz1, hz2⟩ := info_parts infoG
  exact Fs.front Tryd.underlying36 hi h k hk
theorem backG_run {w : World} {v : Value} {l : List Gly} (h : Gs w v l) (k : Nat) (hk : k ≤ l.length) :
    ∃ u, (∀ W : World, (backG v (.int .i64 (k : Int))).run Tryd.prog W = .ok u W) ∧ Gs w u (l.drop k) := by
  obtain ⟨i0, hi, hz0, hz1, hz2⟩ := info_parts infoG
  exact Fs.back Tryd.underlying36 hi hz1 h k hk

attribute [local go_sem ↓ high] builtin_appG
set_option maxRecDepth 100000 in
set_option maxHeartbeats 1000000 in
theorem cloneg_any (l : List Gly) (v : Value) (w : World) (hv : Gs w v l) (hl : l.length ≤ 200000) :
    Calls Tryd.prog 105 #[v] w fun e w' => ∃ u, e = .returned u ∧ GOwn w.heap.size w' u l ∧ Below w.heap.size w w' := by
  have HV := Lib.hid hv
  obtain ⟨a, cap, rfl, -, hr⟩ := hv
  cases a with
  | none =>
    obtain rfl : l = [] := by
      cases l with
      | nil => rfl
      | cons x l => obtain ⟨g, off, h0, _⟩ := hr 0 x rfl; cases h0
    clear hr
    have hnil : (binOp .eql 36 (.slice none 0 cap) (.slice none 0 0)).run Tryd.prog w = .ok (.bool true) w := Lib.run_eql_slice_nil w 36 50 none 0 cap 0 0 Tryd.underlying36
    simp only [List.length_nil]
    go_enter Tryd.func105, Tryd.ntmps105
    go_wp2_with fail
    go_ret
    exact ⟨_, rfl, FOwn.nil _ _, Below.refl _ _⟩
  | some a =>
    clear hr
    have b1 := below_lit w (.cells #[] 50)
    have o1 : GOwn w.heap.size (w.alloc (.cells #[] 50)) (.slice (some ⟨w.heap.size, 0, none⟩) 0 0) [] := fown_lit gcell_len w (Nat.le_refl _) [] (by simp)
    obtain ⟨x', w', k1, o2, g2, -⟩ := appG_own o1 (Fs.below HV.out b1) (by simp) (by simp; omega)
    have b2 := Lib.hid (o1.below b1 (by simp) g2)
    have O2 := Lib.hid o2
    have hnil : (binOp .eql 36 (.slice (some a) l.length cap) (.slice none 0 0)).run Tryd.prog w = .ok (.bool false) w := Lib.run_eql_slice_nil w 36 50 (some a) l.length cap 0 0 Tryd.underlying36
    clear o1 o2 g2 b1
    go_enter Tryd.func105, Tryd.ntmps105
    go_wp2_with fail
    go_ret
    exact ⟨_, rfl, O2.out, b2.out⟩

end Go.Proofs.YtienjlbpaedbjaaDoor
