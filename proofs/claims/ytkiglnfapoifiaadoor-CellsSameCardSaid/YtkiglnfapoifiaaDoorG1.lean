/- Slices of glyphs; Width in the program and in the document's answer; whether two rows are the same. -/
import Derived.Test.YtkiglnfapoifiaaDoorG0
import Derived.Test.YtkiglnfapoifiaaDoorW7
namespace Go.Proofs.YtkiglnfapoifiaaDoor
open Go.RowKit

/-- A glyph: its rune, and how it is set. -/
abbrev Gly := Int × Int
def gcell (g : Gly) : List Value := [.int .i32 g.1, .int .u8 g.2]
theorem gcell_len (g : Gly) : (gcell g).length = 2 := rfl
theorem gcell_one (g : Gly) : ∀ u ∈ gcell g, u.oneCell' = true := by
  intro u hu
  simp only [gcell, List.mem_cons, List.not_mem_nil, or_false] at hu
  rcases hu with rfl | rfl <;> rfl
abbrev Gs (w : World) (v : Value) (l : List Gly) : Prop := Fs 2 gcell w v l
abbrev GOwn (base : Nat) (W : World) (x : Value) (l : List Gly) : Prop := FOwn 47 2 gcell base W x l
theorem Gs.at {w : World} {a : Option Addr} {k cap : Nat} {l : List Gly} (h : Gs w (.slice a k cap) l) {j : Nat} {g : Gly} (hj : l[j]? = some g) :
    ∃ b off, a = some ⟨b, off, none⟩ ∧ w.cell? ⟨b, off + j * 2, none⟩ = some (.int .i32 g.1) ∧ w.cell? ⟨b, off + j * 2 + 1, none⟩ = some (.int .u8 g.2) ∧ b < w.heap.size := by
  obtain ⟨a', cap', hv, _, hr⟩ := h
  injection hv with h1 h2 h3
  subst h1
  obtain ⟨b, off, rfl, h0⟩ := hr j g hj
  have c0 := h0 0 _ rfl
  have c1 := h0 1 _ rfl
  exact ⟨b, off, rfl, c0, c1, World.block_lt_of_cell? w _ c0⟩

theorem infoG : (Tryd.prog.info? 47).map (fun i => (i.zero, i.size, i.bytes)) = some (some (.agg #[.int .i32 0, .int .u8 0]), 2, 8) := by kernel_rfl

/-- All widths. -/
def gsm (l : List Gly) : Int := sm (l.map (·.1))
theorem gsm_take {l : List Gly} {j : Nat} {g : Gly} (h : l[j]? = some g) : gsm (l.take (j + 1)) = gsm (l.take j) + wd g.1 := by
  unfold gsm
  rw [List.map_take, List.map_take]
  exact sm_take_succ (by simp [h])
theorem gsm_bd (l : List Gly) : 0 ≤ gsm l ∧ gsm l ≤ 2 * l.length := by
  have := sm_bd (l.map (·.1))
  rw [List.length_map] at this
  exact this
theorem gsm_app (a b : List Gly) : gsm (a ++ b) = gsm a + gsm b := by simp [gsm, sm_app]

set_option maxRecDepth 100000 in
set_option maxHeartbeats 1000000 in
theorem gwidth_any (l : List Gly) (v : Value) (w : World) (hT : Tabs w) (hv : Gs w v l) (hl : l.length ≤ 200000) : Calls Tryd.prog 11 #[v] w fun e w' => e = .returned (.int .i64 (gsm l)) ∧ Below w.heap.size w w' := by
  have HV := Lib.hid hv
  obtain ⟨a, cap, rfl, hcap, -⟩ := hv
  have HT := Lib.hid hT
  clear hT
  go_enter Tryd.func11, Tryd.ntmps11
  go_wp2_with fail
  go_loopw [3, 8] (fun n i wr => ∃ j : Nat, j ≤ l.length ∧ i = .int .i64 j ∧ n = .int .i64 (gsm (l.take j)) ∧ Below w.heap.size w wr) (fun _ i _ => l.length - (intOf i).toNat)
  case atStart => exact ⟨0, by omega, rfl, rfl, Below.refl _ _⟩
  case round =>
    obtain ⟨j, hj, rfl, rfl, hbw⟩ := hrel
    obtain ⟨S, hS⟩ : ∃ S, gsm (l.take j) = S := ⟨_, rfl⟩
    have hSb : 0 ≤ S ∧ S ≤ 2 * j := by
      rw [← hS]; have := gsm_bd (l.take j); simp only [List.length_take] at this; omega
    rw [hS]
    by_cases hlt : j < l.length
    · obtain ⟨z, hz⟩ : ∃ z, l[j]? = some z := ⟨l[j], List.getElem?_eq_getElem hlt⟩
      obtain ⟨g, off, rfl, c0, c1, -⟩ := Gs.at (Fs.below HV.out hbw) hz
      have hn := gsm_take hz
      have hzb := wd_bd z.1
      have hWz := Lib.hid (fun W (h : Below wr.heap.size wr W) => width_any z.1 W (HT.out.below (hbw.trans (h.mono hbw.size))))
      obtain ⟨Z, hZ⟩ : ∃ Z, wd z.1 = Z := ⟨_, rfl⟩
      rw [hS, hZ] at hn
      rw [hZ] at hWz hzb
      have HN := Lib.hid hn
      clear hS hZ hz hn
      have hi0 : (j : Int) < (l.length : Int) := by omega
      have hi1 : (0 : Int) ≤ (j : Int) := by omega
      have hS1 : 0 ≤ S := hSb.1
      have hS2 : S ≤ 400000 := by omega
      have hZ1 := hzb.1
      have hZ2 := hzb.2
      clear hzb hSb
      have b1 := below_lit wr (.cells #[.int .i32 z.1, .int .u8 z.2] 47)
      have hW2 := Lib.hid (hWz.out _ b1)
      have bw := hbw.size
      clear hWz
      go_wp2_with (go_at_call 34; refine hW2.out.mono ?_; rintro e w' ⟨rfl, rfl⟩)
      go_roundw
      case rel => exact ⟨j + 1, by omega, by go_num, by rw [HN.out], hbw.trans (b1.mono bw)⟩
      case measure => simp [intOf]; omega
    · obtain rfl : j = l.length := by omega
      have hS' : gsm l = S := by simpa using hS
      clear hS
      go_wp2_with fail
      go_ret
      exact ⟨ret_int hS'.symm, hbw⟩

set_option maxRecDepth 100000 in
set_option maxHeartbeats 1000000 in
theorem grwidth_any (l : List Gly) (v : Value) (w : World) (hv : Gs w v l) (hl : l.length ≤ 200000) : Calls Tryd.prog 12 #[v] w fun e w' => e = .returned (.int .i64 (gsm l)) ∧ Below w.heap.size w w' := by
  have HV := Lib.hid hv
  obtain ⟨a, cap, rfl, hcap, -⟩ := hv
  go_enter Tryd.func12, Tryd.ntmps12
  go_wp2_with fail
  go_loopw [3, 4] (fun n i wr => ∃ j : Nat, j ≤ l.length ∧ i = .int .i64 j ∧ n = .int .i64 (gsm (l.take j)) ∧ Below w.heap.size w wr) (fun _ i _ => l.length - (intOf i).toNat)
  case atStart => exact ⟨0, by omega, rfl, rfl, Below.refl _ _⟩
  case round =>
    obtain ⟨j, hj, rfl, rfl, hbw⟩ := hrel
    obtain ⟨S, hS⟩ : ∃ S, gsm (l.take j) = S := ⟨_, rfl⟩
    have hSb : 0 ≤ S ∧ S ≤ 2 * j := by
      rw [← hS]; have := gsm_bd (l.take j); simp only [List.length_take] at this; omega
    rw [hS]
    by_cases hlt : j < l.length
    · obtain ⟨z, hz⟩ : ∃ z, l[j]? = some z := ⟨l[j], List.getElem?_eq_getElem hlt⟩
      obtain ⟨g, off, rfl, c0, c1, -⟩ := Gs.at (Fs.below HV.out hbw) hz
      have hn := gsm_take hz
      have hzb := wd_bd z.1
      have hWz := rwidth_any z.1 wr
      obtain ⟨Z, hZ⟩ : ∃ Z, wd z.1 = Z := ⟨_, rfl⟩
      rw [hS, hZ] at hn
      rw [hZ] at hWz hzb
      have HN := Lib.hid hn
      have HW := Lib.hid hWz
      clear hS hZ hz hn c1 hWz
      have hi0 : (j : Int) < (l.length : Int) := by omega
      have hi1 : (0 : Int) ≤ (j : Int) := by omega
      have hS1 : 0 ≤ S := hSb.1
      have hS2 : S ≤ 400000 := by omega
      have hZ1 := hzb.1
      have hZ2 := hzb.2
      clear hzb hSb
      have bw := hbw.size
      go_wp2_with (go_at_call 30; refine HW.out.mono ?_; rintro e w' ⟨rfl, hb'⟩)
      go_roundw
      case rel => exact ⟨j + 1, by omega, by go_num, by rw [HN.out], hbw.trans (hb'.mono bw)⟩
      case measure => simp [intOf]; omega
    · obtain rfl : j = l.length := by omega
      have hS' : gsm l = S := by simpa using hS
      clear hS
      go_wp2_with fail
      go_ret
      exact ⟨ret_int hS'.symm, hbw⟩

theorem eqG (k l k' l' : Int) (w : World) : (Op.equalIn 10000 47 (.agg #[.int .i32 k, .int .u8 l]) (.agg #[.int .i32 k', .int .u8 l'])).run Tryd.prog w = .ok (k == k' && l == l') w := by
  rw [run_equalIn_agg w 9999 47 _ _ (by kernel_rfl) (by kernel_rfl)]
  have h3 : ((Tryd.prog.fieldsOf 47).toList.map fun f => (f.name != "_", f.type, f.offset)) = [(true, 21, 0), (true, 5, 1)] := by kernel_rfl
  generalize (Tryd.prog.fieldsOf 47).toList = fs at *
  rcases fs with _ | ⟨f0, _ | ⟨f1, _ | ⟨f2, fs⟩⟩⟩
  · simp at h3
  · simp at h3
  · simp only [List.map_cons, List.map_nil, List.cons.injEq, Prod.mk.injEq, and_true, bne_iff_ne, ne_eq] at h3
    obtain ⟨⟨n0, t0, o0⟩, ⟨n1, t1, o1⟩⟩ := h3
    have e0 : ∀ (a b : Int) (w : World), (Op.equalIn 9999 21 (.int .i32 a) (.int .i32 b)).run Tryd.prog w = .ok (a == b) w := fun a b w => run_equalIn_int w 9998 21 .i32 .i32 a b Tryd.underlying21
    have e1 : ∀ (a b : Int) (w : World), (Op.equalIn 9999 5 (.int .u8 a) (.int .u8 b)).run Tryd.prog w = .ok (a == b) w := fun a b w => run_equalIn_int w 9998 5 .u8 .u8 a b Tryd.underlying5
    simp [go_sem, Op.eqFields, n0, n1, t0, t1, o0, o1, e0, e1]
    by_cases a1 : k = k' <;> by_cases a2 : l = l' <;> simp [a1, a2]
  · simp at h3
theorem neqG_any (k l k' l' : Int) (w : World) : (binOp .neq 47 (.agg #[.int .i32 k, .int .u8 l]) (.agg #[.int .i32 k', .int .u8 l'])).run Tryd.prog w = .ok (.bool (!(k == k' && l == l'))) w := by
  rw [run_neq_struct, eqG]
  rfl
theorem neqG_same (k l : Int) (w : World) : (binOp .neq 47 (.agg #[.int .i32 k, .int .u8 l]) (.agg #[.int .i32 k, .int .u8 l])).run Tryd.prog w = .ok (.bool false) w := by
  rw [neqG_any]
  simp
theorem neqG_other {x y : Gly} (h : x ≠ y) (w : World) : (binOp .neq 47 (.agg #[.int .i32 x.1, .int .u8 x.2]) (.agg #[.int .i32 y.1, .int .u8 y.2])).run Tryd.prog w = .ok (.bool true) w := by
  rw [neqG_any]
  have : (x.1 == y.1 && x.2 == y.2) = false := by
    rw [Bool.eq_false_iff]
    intro e
    simp only [Bool.and_eq_true, beq_iff_eq] at e
    exact h (Prod.ext e.1 e.2)
  rw [this]
  rfl

theorem take_same {α : Type} {a b : List α} {j : Nat} {x : α} (h : a.take j = b.take j) (ha : a[j]? = some x) (hb : b[j]? = some x) : a.take (j + 1) = b.take (j + 1) := by
  rw [List.take_add_one, List.take_add_one, h, ha, hb]
theorem not_same {α : Type} {a b : List α} {j : Nat} {x y : α} (ha : a[j]? = some x) (hb : b[j]? = some y) (h : x ≠ y) : a ≠ b := by
  rintro rfl
  rw [ha] at hb
  exact h (Option.some.inj hb)
end Go.Proofs.YtkiglnfapoifiaaDoor
