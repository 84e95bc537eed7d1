/- The program's own for documents: the same rows, tables? The program's own for documents: the same tables, the same nodes but for their kids? The program's own for documents: the same nodes? -/
import Derived.Test.YtienjlbpaedbjaaDoorOQ2
import Derived.Test.YtienjlbpaedbjaaDoorODa
namespace Go.Proofs.YtienjlbpaedbjaaDoor
open Go.RowKit

theorem take_one {α : Type} {a b : List α} {j : Nat} {x y : α} (h : a.take j = b.take j) (hx : a[j]? = some x) (hy : b[j]? = some y) (e : x = y) : a.take (j + 1) = b.take (j + 1) := take_same h hx (e ▸ hy)
set_option maxRecDepth 100000 in
set_option maxHeartbeats 2000000 in
theorem eqfr_any (S T : Nat → Prop) (a b : List (List Gly)) (v u : Value) (w : World) (hv : GrS S w v a) (hu : GrS T w u b) (hl : a.length + lens a ≤ 100000) (hl' : b.length + lens b ≤ 100000) (hS : ∀ x, S x → x < w.heap.size) (hT : ∀ x, T x → x < w.heap.size) :
    Calls Tryd.prog 82 #[v, u, .func (.func 77) #[] #[]] w fun e w' => e = .returned (.bool (decide (a = b))) ∧ Below w.heap.size w w' := by
  have HV := Lib.hid hv
  have HU := Lib.hid hu
  have HS := Lib.hid hS
  have HT := Lib.hid hT
  obtain ⟨aa, ca, rfl⟩ := hv.len
  obtain ⟨ab, cb, rfl⟩ := hu.len
  clear hv hu hS hT
  by_cases hlen : a.length = b.length
  · have HLen := Lib.hid hlen
    have hne : ((a.length : Int) != (b.length : Int)) = false := by simp [hlen]
    clear hlen
    go_enter Tryd.func82, Tryd.ntmps82
    go_wp2_with fail
    go_loopw [7, 8, 9, 17] (fun _ _ _ i wr => ∃ j : Nat, j ≤ a.length ∧ i = .int .i64 j ∧ Hid (a.take j = b.take j) ∧ Hid (Below w.heap.size w wr)) (fun _ _ _ i _ => a.length - (intOf i).toNat)
    case atStart => exact ⟨0, by omega, rfl, Lib.hid rfl, Lib.hid (Below.refl _ _)⟩
    case round =>
      obtain ⟨j, hj, rfl, HTk, BW⟩ := hrel
      by_cases hlt : j < a.length
      · obtain ⟨x, hx⟩ : ∃ x, a[j]? = some x := ⟨a[j], List.getElem?_eq_getElem hlt⟩
        obtain ⟨y, hy⟩ : ∃ y, b[j]? = some y := ⟨b[j]'(by have := HLen.out; omega), List.getElem?_eq_getElem _⟩
        have hi0 : (j : Int) < (a.length : Int) := by omega
        have hi2 : (j : Int) < (b.length : Int) := by have := HLen.out; omega
        have hi1 : (0 : Int) ≤ (j : Int) := by omega
        have lx := lens_le hx
        have ly := lens_le hy
        obtain ⟨g1, o1, p1, z1, rfl, -, c1, s1⟩ := (HV.out.keep (Kp.below BW.out HS.out)).at hx
        obtain ⟨g2, o2, p2, z2, rfl, -, c2, s2⟩ := (HU.out.keep (Kp.below BW.out HT.out)).at hy
        have HC := Lib.hid (csame_any x y _ _ wr s1.1 s2.1 (by omega) (by omega))
        by_cases hxy : x = y
        · have HTT := Lib.hid (take_one HTk.out hx hy hxy)
          rw [decide_eq_true hxy] at HC
          clear hx hy hxy s1 s2
          go_wp2_with fail
          refine HC.out.mono ?_
          rintro e w1 ⟨rfl, b1⟩
          have B1 := Lib.hid (BW.out.trans (b1.mono BW.out.size))
          clear b1 HC c1 c2
          go_wp2_with fail
          go_roundw
          case rel => exact ⟨j + 1, by omega, by go_num, HTT, B1⟩
          case measure => (simp [intOf]; try omega)
        · have HTT := Lib.hid (decide_eq_false (not_same hx hy hxy))
          rw [decide_eq_false hxy] at HC
          clear hx hy hxy s1 s2
          go_wp2_with fail
          refine HC.out.mono ?_
          rintro e w1 ⟨rfl, b1⟩
          have B1 := Lib.hid (BW.out.trans (b1.mono BW.out.size))
          clear b1 HC c1 c2
          go_wp2_with fail
          go_ret
          exact ⟨ret_bool HTT.out.symm, B1.out⟩
      · obtain rfl : j = a.length := by omega
        have hlt' : ¬ (a.length : Int) < (a.length : Int) := by omega
        have hs : a = b := by
          have h := HTk.out
          rw [List.take_length, HLen.out, List.take_length] at h
          exact h
        have HTT := Lib.hid (decide_eq_true hs)
        clear hs
        go_wp2_with fail
        go_ret
        exact ⟨ret_bool HTT.out.symm, BW.out⟩
  · have hne : ((a.length : Int) != (b.length : Int)) = true := by simp; omega
    have HTT := Lib.hid (decide_eq_false (show ¬ a = b from fun h => hlen (by rw [h])))
    clear hlen
    go_enter Tryd.func82, Tryd.ntmps82
    go_wp2_with fail
    go_ret
    exact ⟨ret_bool HTT.out.symm, Below.refl _ _⟩

set_option maxRecDepth 100000 in
theorem psamerows_any (S T : Nat → Prop) (a b : List (List Gly)) (v u : Value) (w : World) (hv : GrS S w v a) (hu : GrS T w u b) (hl : a.length + lens a ≤ 100000) (hl' : b.length + lens b ≤ 100000) (hS : ∀ x, S x → x < w.heap.size) (hT : ∀ x, T x → x < w.heap.size) :
    Calls Tryd.prog 61 #[v, u] w fun e w' => e = .returned (.bool (decide (a = b))) ∧ Below w.heap.size w w' := by
  have H := Lib.hid (eqfr_any S T a b v u w hv hu hl hl' hS hT)
  obtain ⟨B, hB⟩ : ∃ B, decide (a = b) = B := ⟨_, rfl⟩
  rw [hB] at H ⊢
  clear hB hv hu hS hT
  go_enter Tryd.func61, Tryd.ntmps61
  go_wp2_with fail
  refine H.out.mono ?_
  rintro e w1 ⟨rfl, b1⟩
  have B1 := Lib.hid b1
  clear b1
  go_wp2_with fail
  go_ret
  exact ⟨rfl, B1.out⟩

set_option maxRecDepth 100000 in
theorem psametable1_any (S T : Nat → Prop) (x y : Bool × PV) (a b : Trow) (w : World) (ha : x.1 = a.1) (hb : y.1 = b.1) (hv : GrS S w (pv x.2) a.2) (hu : GrS T w (pv y.2) b.2) (hl : a.2.length + lens a.2 ≤ 100000) (hl' : b.2.length + lens b.2 ≤ 100000) (hS : ∀ x, S x → x < w.heap.size) (hT : ∀ x, T x → x < w.heap.size) :
    Calls Tryd.prog 60 #[.agg (trcell x).toArray, .agg (trcell y).toArray] w fun e w' => e = .returned (.bool (decide (a = b))) ∧ Below w.heap.size w w' := by
  obtain ⟨x1, ⟨x2, x3, x4⟩⟩ := x
  obtain ⟨y1, ⟨y2, y3, y4⟩⟩ := y
  obtain ⟨a1, a2⟩ := a
  obtain ⟨b1, b2⟩ := b
  simp only at ha hb
  subst ha hb
  simp only [trcell, pv] at hv hu ⊢
  have B2 := Lib.hid (bel2 w (.cells (trcell (x1, (x2, x3, x4))).toArray 60) (.cells (trcell (y1, (y2, y3, y4))).toArray 60))
  have HR := Lib.hid (psamerows_any S T a2 b2 _ _ ((w.alloc (.cells (trcell (x1, (x2, x3, x4))).toArray 60)).alloc (.cells (trcell (y1, (y2, y3, y4))).toArray 60)) (hv.keep (Kp.below B2.out hS)) (hu.keep (Kp.below B2.out hT)) hl hl' (fun x hx => Nat.lt_of_lt_of_le (hS x hx) B2.out.size) (fun x hx => Nat.lt_of_lt_of_le (hT x hx) B2.out.size))
  simp only [trcell, pv] at B2 HR
  clear hv hu hS hT
  by_cases h1 : x1 = y1
  · subst h1
    have e1 : (x1 == x1) = true := by simp
    have HE : Hid (decide ((x1, a2) = (x1, b2)) = decide (a2 = b2)) := Lib.hid (by simp)
    rw [HE.out]
    clear HE
    obtain ⟨B, hB⟩ : ∃ B, decide (a2 = b2) = B := ⟨_, rfl⟩
    rw [hB] at HR ⊢
    clear hB
    go_enter Tryd.func60, Tryd.ntmps60
    go_wp2_with fail
    refine HR.out.mono ?_
    rintro e w1 ⟨rfl, b1⟩
    have B1 := Lib.hid (B2.out.trans (b1.mono B2.out.size))
    clear b1
    go_wp2_with fail
    go_ret
    exact ⟨rfl, B1.out⟩
  · have e1 : (x1 == y1) = false := by simpa using h1
    have HE : Hid (decide ((x1, a2) = (y1, b2)) = false) := Lib.hid (by simp [h1])
    rw [HE.out]
    clear HE h1 HR
    go_enter Tryd.func60, Tryd.ntmps60
    go_wp2_with fail
    go_ret
    exact ⟨rfl, B2.out⟩
end Go.Proofs.YtienjlbpaedbjaaDoor
namespace Go.Proofs.YtienjlbpaedbjaaDoor
open Go.RowKit
attribute [local go_sem ↓ high] binop_eqT binop_neqT

set_option maxRecDepth 100000 in
set_option maxHeartbeats 2000000 in
theorem eqft_any (S T : Nat → Prop) (a b : List Trow) (v u : Value) (w : World) (hv : TrS S w v a) (hu : TrS T w u b) (hl : trls a ≤ 100000) (hl' : trls b ≤ 100000) (hS : ∀ x, S x → x < w.heap.size) (hT : ∀ x, T x → x < w.heap.size) :
    Calls Tryd.prog 62 #[v, u, .func (.func 60) #[] #[]] w fun e w' => e = .returned (.bool (decide (a = b))) ∧ Below w.heap.size w w' := by
  have HV := Lib.hid hv
  have HU := Lib.hid hu
  have HS := Lib.hid hS
  have HT := Lib.hid hT
  have hla := trls_len a
  have hlb := trls_len b
  obtain ⟨aa, ca, rfl⟩ := hv.len
  obtain ⟨ab, cb, rfl⟩ := hu.len
  clear hv hu hS hT
  by_cases hlen : a.length = b.length
  · have HLen := Lib.hid hlen
    have hne : ((a.length : Int) != (b.length : Int)) = false := by simp [hlen]
    clear hlen
    go_enter Tryd.func62, Tryd.ntmps62
    go_wp2_with fail
    go_loopw [7, 8, 9, 17] (fun _ _ _ i wr => ∃ j : Nat, j ≤ a.length ∧ i = .int .i64 j ∧ Hid (a.take j = b.take j) ∧ Hid (Below w.heap.size w wr)) (fun _ _ _ i _ => a.length - (intOf i).toNat)
    case atStart => exact ⟨0, by omega, rfl, Lib.hid rfl, Lib.hid (Below.refl _ _)⟩
    case round =>
      obtain ⟨j, hj, rfl, HTk, BW⟩ := hrel
      by_cases hlt : j < a.length
      · obtain ⟨x, hx⟩ : ∃ x, a[j]? = some x := ⟨a[j], List.getElem?_eq_getElem hlt⟩
        obtain ⟨y, hy⟩ : ∃ y, b[j]? = some y := ⟨b[j]'(by have := HLen.out; omega), List.getElem?_eq_getElem _⟩
        have hi0 : (j : Int) < (a.length : Int) := by omega
        have hi2 : (j : Int) < (b.length : Int) := by have := HLen.out; omega
        have hi1 : (0 : Int) ≤ (j : Int) := by omega
        have lx := trls_le hx
        have ly := trls_le hy
        have tx : trl x = 1 + x.2.length + lens x.2 := rfl
        have ty : trl y = 1 + y.2.length + lens y.2 := rfl
        obtain ⟨g1, o1, p1, z1, rfl, -, c1, d1, s1⟩ := (HV.out.keep (Kp.below BW.out HS.out)).at hx
        have bl := below_lit wr (.cells (trcell (x.1, (p1, x.2.length, z1))).toArray 60)
        obtain ⟨g2, o2, p2, z2, rfl, -, c2, d2, s2⟩ := (HU.out.keep (Kp.below (BW.out.trans (bl.mono BW.out.size)) HT.out)).at hy
        have bl2 := bel2 wr (.cells (trcell (x.1, (p1, x.2.length, z1))).toArray 60) (.cells (trcell (y.1, (p2, y.2.length, z2))).toArray 60)
        have bl3 := below_lit (wr.alloc (.cells (trcell (x.1, (p1, x.2.length, z1))).toArray 60)) (.cells (trcell (y.1, (p2, y.2.length, z2))).toArray 60)
        have HC := Lib.hid (psametable1_any S T (x.1, (p1, x.2.length, z1)) (y.1, (p2, y.2.length, z2)) x y _ rfl rfl (s1.keep (Kp.below bl2 (fun b hb => Nat.lt_of_lt_of_le (HS.out b hb) BW.out.size))) (s2.keep (Kp.below bl3 (fun b hb => Nat.lt_of_lt_of_le (HT.out b hb) (Nat.le_trans BW.out.size bl.size)))) (by omega) (by omega) (fun b hb => Nat.lt_of_lt_of_le (HS.out b hb) (Nat.le_trans BW.out.size bl2.size)) (fun b hb => Nat.lt_of_lt_of_le (HT.out b hb) (Nat.le_trans BW.out.size bl2.size)))
        have BL2 := Lib.hid (BW.out.trans (bl2.mono BW.out.size))
        simp only [trcell, pv] at c2 d2 HC BL2
        by_cases hxy : x = y
        · have HTT := Lib.hid (take_one HTk.out hx hy hxy)
          rw [decide_eq_true hxy] at HC
          clear hx hy hxy s1 s2 bl bl2 bl3 tx ty
          go_wp2_with fail
          refine HC.out.mono ?_
          rintro e w1 ⟨rfl, b1⟩
          have B1 := Lib.hid (BL2.out.trans (b1.mono BL2.out.size))
          clear b1 HC c1 c2 d1 d2
          go_wp2_with fail
          go_roundw
          case rel => exact ⟨j + 1, by omega, by go_num, HTT, B1⟩
          case measure => (simp [intOf]; try omega)
        · have HTT := Lib.hid (decide_eq_false (not_same hx hy hxy))
          rw [decide_eq_false hxy] at HC
          clear hx hy hxy s1 s2 bl bl2 bl3 tx ty
          go_wp2_with fail
          refine HC.out.mono ?_
          rintro e w1 ⟨rfl, b1⟩
          have B1 := Lib.hid (BL2.out.trans (b1.mono BL2.out.size))
          clear b1 HC c1 c2 d1 d2
          go_wp2_with fail
          go_ret
          exact ⟨ret_bool HTT.out.symm, B1.out⟩
      · obtain rfl : j = a.length := by omega
        have hlt' : ¬ (a.length : Int) < (a.length : Int) := by omega
        have hs : a = b := by
          have h := HTk.out
          rw [List.take_length, HLen.out, List.take_length] at h
          exact h
        have HTT := Lib.hid (decide_eq_true hs)
        clear hs
        go_wp2_with fail
        go_ret
        exact ⟨ret_bool HTT.out.symm, BW.out⟩
  · have hne : ((a.length : Int) != (b.length : Int)) = true := by simp; omega
    have HTT := Lib.hid (decide_eq_false (show ¬ a = b from fun h => hlen (by rw [h])))
    clear hlen
    go_enter Tryd.func62, Tryd.ntmps62
    go_wp2_with fail
    go_ret
    exact ⟨ret_bool HTT.out.symm, Below.refl _ _⟩

def tabL (t : Tab) (r : PV) : List Value := [.string ⟨t.cols.toArray⟩, pv r, .bool t.box, .bool t.all]
theorem dec_all {p q : Prop} [Decidable p] [Decidable q] (h : p ↔ q) : decide p = decide q := by simp [h]
set_option maxRecDepth 100000 in
set_option maxHeartbeats 2000000 in
theorem psametable_any (S T : Nat → Prop) (a b : Tab) (r1 r2 : PV) (w : World) (hv : TrS S w (pv r1) a.rows) (hu : TrS T w (pv r2) b.rows) (hl : trls a.rows ≤ 100000) (hl' : trls b.rows ≤ 100000) (hS : ∀ x, S x → x < w.heap.size) (hT : ∀ x, T x → x < w.heap.size) :
    Calls Tryd.prog 29 #[tabV a r1, tabV b r2] w fun e w' => e = .returned (.bool (decide (a = b))) ∧ Below w.heap.size w w' := by
  obtain ⟨u1, u2, u3⟩ := r1
  obtain ⟨v1, v2, v3⟩ := r2
  have B2 := Lib.hid (bel2 w (.cells (tabL a (u1, u2, u3)).toArray 35) (.cells (tabL b (v1, v2, v3)).toArray 35))
  have HR := Lib.hid (eqft_any S T a.rows b.rows _ _ ((w.alloc (.cells (tabL a (u1, u2, u3)).toArray 35)).alloc (.cells (tabL b (v1, v2, v3)).toArray 35)) (hv.keep (Kp.below B2.out hS)) (hu.keep (Kp.below B2.out hT)) hl hl' (fun x hx => Nat.lt_of_lt_of_le (hS x hx) B2.out.size) (fun x hx => Nat.lt_of_lt_of_le (hT x hx) B2.out.size))
  obtain ⟨a1, a2, a3, a4⟩ := a
  obtain ⟨b1, b2, b3, b4⟩ := b
  have q1 := eqT_run a1 b1
  simp only [tabL, pv] at B2 HR
  simp only [tabV, pv]
  clear hv hu hS hT hl hl'
  by_cases h1 : a1 = b1
  · subst h1
    rw [decide_eq_true rfl] at q1
    by_cases h2 : a3 = b3
    · subst h2
      have e2 : (a3 == a3) = true := by simp
      by_cases h3 : a4 = b4
      · subst h3
        have e3 : (a4 == a4) = true := by simp
        have HE : Hid (decide ((⟨a1, a2, a3, a4⟩ : Tab) = ⟨a1, b2, a3, a4⟩) = decide (a2 = b2)) := Lib.hid (dec_all (by simp))
        rw [HE.out]
        clear HE
        obtain ⟨B, hB⟩ : ∃ B, decide (a2 = b2) = B := ⟨_, rfl⟩
        rw [hB] at HR ⊢
        clear hB
        go_enter Tryd.func29, Tryd.ntmps29
        go_wp2_with fail
        refine HR.out.mono ?_
        rintro e w1 ⟨rfl, b1⟩
        have B1 := Lib.hid (B2.out.trans (b1.mono B2.out.size))
        clear b1
        go_wp2_with fail
        go_ret
        exact ⟨rfl, B1.out⟩
      · have e3 : (a4 == b4) = false := by simpa using h3
        have HE : Hid (decide ((⟨a1, a2, a3, a4⟩ : Tab) = ⟨a1, b2, a3, b4⟩) = false) := Lib.hid (by simp [h3])
        rw [HE.out]
        clear HE h3 HR
        go_enter Tryd.func29, Tryd.ntmps29
        go_wp2_with fail
        go_ret
        exact ⟨rfl, B2.out⟩
    · have e2 : (a3 == b3) = false := by simpa using h2
      have HE : Hid (decide ((⟨a1, a2, a3, a4⟩ : Tab) = ⟨a1, b2, b3, b4⟩) = false) := Lib.hid (by simp [h2])
      rw [HE.out]
      clear HE h2 HR
      go_enter Tryd.func29, Tryd.ntmps29
      go_wp2_with fail
      go_ret
      exact ⟨rfl, B2.out⟩
  · rw [decide_eq_false h1] at q1
    have HE : Hid (decide ((⟨a1, a2, a3, a4⟩ : Tab) = ⟨b1, b2, b3, b4⟩) = false) := Lib.hid (by simp [h1])
    rw [HE.out]
    clear HE h1 HR
    go_enter Tryd.func29, Tryd.ntmps29
    go_wp2_with fail
    go_ret
    exact ⟨rfl, B2.out⟩
end Go.Proofs.YtienjlbpaedbjaaDoor
namespace Go.Proofs.YtienjlbpaedbjaaDoor
open Go.RowKit

set_option maxRecDepth 100000 in
set_option maxHeartbeats 4000000 in
theorem palike_any (S T : Nat → Prop) (x y : NV) (a b : Hd) (w : World) (hx : HdIs S w x a) (hy : HdIs T w y b) (hl : hdl a ≤ 90000) (hl' : hdl b ≤ 90000) (hS : ∀ x, S x → x < w.heap.size) (hT : ∀ x, T x → x < w.heap.size) :
    Calls Tryd.prog 58 #[.agg (ncell x).toArray, .agg (ncell y).toArray] w fun e w' => e = .returned (.bool (decide (a = b))) ∧ Below w.heap.size w w' := by
  have da : hdl a = 3 + a.text.length + a.grid.cols.length + (a.rows.length + lens a.rows) + trls a.grid.rows := rfl
  have db : hdl b = 3 + b.text.length + b.grid.cols.length + (b.rows.length + lens b.rows) + trls b.grid.rows := rfl
  have B2 := Lib.hid (bel2 w (.cells (ncell x).toArray 39) (.cells (ncell y).toArray 39))
  obtain ⟨W, hW⟩ : ∃ W, (w.alloc (.cells (ncell x).toArray 39)).alloc (.cells (ncell y).toArray 39) = W := ⟨_, rfl⟩
  have hXA : Blk W w.heap.size 39 (ncell x) := by rw [← hW]; exact (heap_alloc_old _ _ (by simp)).trans (heap_alloc_new w _)
  have hXB : Blk W (w.heap.size + 1) 39 (ncell y) := by
    have := heap_alloc_new (w.alloc (.cells (ncell x).toArray 39)) (.cells (ncell y).toArray 39)
    rw [World.size_alloc, hW] at this
    exact this
  rw [hW] at B2
  have HA := Lib.hid (fun W' (h : Below W.heap.size W W') => hx.keep (Kp.below (B2.out.trans (h.mono B2.out.size)) hS))
  have HB := Lib.hid (fun W' (h : Below W.heap.size W W') => hy.keep (Kp.below (B2.out.trans (h.mono B2.out.size)) hT))
  have HXA := Lib.hid (fun W' (h : Below W.heap.size W W') => hXA.below h)
  have HXB := Lib.hid (fun W' (h : Below W.heap.size W W') => hXB.below h)
  have HSS := Lib.hid (fun W' (h : Below W.heap.size W W') b (hb : S b) => Nat.lt_of_lt_of_le (Nat.lt_of_lt_of_le (hS b hb) B2.out.size) h.size)
  have HTT := Lib.hid (fun W' (h : Below W.heap.size W W') b (hb : T b) => Nat.lt_of_lt_of_le (Nat.lt_of_lt_of_le (hT b hb) B2.out.size) h.size)
  have ek := Lib.hid hx.kind
  have el := Lib.hid hx.line
  have en := Lib.hid hx.n
  have fk := Lib.hid hy.kind
  have fl := Lib.hid hy.line
  have fn := Lib.hid hy.n
  obtain ⟨xk, xl, xn, ⟨t1, t2, t3⟩, ⟨k1, k2, k3⟩, ⟨r1, r2, r3⟩, xc, ⟨q1, q2, q3⟩, xb, xa⟩ := x
  obtain ⟨yk, yl, yn, ⟨t1', t2', t3'⟩, ⟨k1', k2', k3'⟩, ⟨r1', r2', r3'⟩, yc, ⟨q1', q2', q3'⟩, yb, ya⟩ := y
  simp only [ncell, pv] at hW ⊢
  clear hx hy hS hT hXA hXB
  have fin0 : ∀ (p : Bool), decide (a = b) = p → ∀ e w', (e = Ending.returned (.bool p) ∧ Below w.heap.size w w') → (e = Ending.returned (.bool (decide (a = b))) ∧ Below w.heap.size w w') := fun p hp e w' h => by rw [hp]; exact h
  by_cases h0 : xk = yk
  · have e0 : (xk == yk) = true := by simpa using h0
    have H0 := Lib.hid h0
    clear h0
    by_cases h1 : xl = yl
    · have e1 : (xl == yl) = true := by simpa using h1
      have H1 := Lib.hid h1
      clear h1
      by_cases h2 : xn = yn
      · have e2 : (xn == yn) = true := by simpa using h2
        have H2 := Lib.hid h2
        clear h2
        have HDEC : Hid (decide (a = b) = (decide (a.text = b.text) && (decide (a.rows = b.rows) && decide (a.grid = b.grid)))) := Lib.hid (by
          have i0 := H0.out
          have i1 := H1.out
          have i2 := H2.out
          have j0 := ek.out
          have j1 := el.out
          have j2 := en.out
          have l0 := fk.out
          have l1 := fl.out
          have l2 := fn.out
          simp only at j0 j1 j2 l0 l1 l2
          rw [← Bool.decide_and, ← Bool.decide_and]
          refine dec_all ?_
          rw [hd_eq, ← j0, ← j1, ← j2, ← l0, ← l1, ← l2, i0, i1, i2]
          simp)
        rw [HDEC.out]
        clear HDEC fin0 H0 H1 H2 ek el en fk fl fn
        have hC := csame_any a.text b.text _ _ W (HA.out W (Below.refl _ _)).text.1 (HB.out W (Below.refl _ _)).text.1 (by omega) (by omega)
        obtain ⟨p, hp⟩ : ∃ p, decide (a.text = b.text) = p := ⟨_, rfl⟩
        obtain ⟨p2, hp2⟩ : ∃ p, decide (a.rows = b.rows) = p := ⟨_, rfl⟩
        obtain ⟨p3, hp3⟩ : ∃ p, decide (a.grid = b.grid) = p := ⟨_, rfl⟩
        rw [hp] at hC
        rw [hp, hp2, hp3]
        simp only [pv] at hC
        have HC := Lib.hid hC
        have HP2 := Lib.hid hp2
        have HP3 := Lib.hid hp3
        clear hC hp hp2 hp3
        subst hW
        go_enter Tryd.func58, Tryd.ntmps58
        go_wp2_with fail
        refine HC.out.mono ?_
        rintro e w1 ⟨rfl, b1⟩
        have B1 := Lib.hid b1
        have BB := Lib.hid (B2.out.trans (b1.mono B2.out.size))
        clear b1 HC
        cases p
        · go_wp2_with fail
          go_ret
          exact ⟨rfl, BB.out⟩
        · have x5 : w1.cell? ⟨w.heap.size, 5, none⟩ = some (.slice r1 r2 r3) := (HXA.out w1 B1.out).cell 5
          have y5 : w1.cell? ⟨w.heap.size + 1, 5, none⟩ = some (.slice r1' r2' r3') := (HXB.out w1 B1.out).cell 5
          have hR := psamerows_any S T a.rows b.rows _ _ w1 (HA.out w1 B1.out).rows (HB.out w1 B1.out).rows (by omega) (by omega) (HSS.out w1 B1.out) (HTT.out w1 B1.out)
          rw [HP2.out] at hR
          simp only [pv] at hR
          have HR := Lib.hid hR
          clear hR
          go_wp2_with fail
          refine HR.out.mono ?_
          rintro e w2 ⟨rfl, b2⟩
          have BB2 := Lib.hid (BB.out.trans (b2.mono BB.out.size))
          have B3 := Lib.hid (B1.out.trans (b2.mono B1.out.size))
          clear b2 HR x5 y5
          cases p2
          · go_wp2_with fail
            go_ret
            exact ⟨rfl, BB2.out⟩
          · have hxA := HXA.out w2 B3.out
            have hxB := HXB.out w2 B3.out
            have x6 : w2.cell? ⟨w.heap.size, 6, none⟩ = some (.string ⟨xc.toArray⟩) := hxA.cell 6
            have x7 : w2.cell? ⟨w.heap.size, 7, none⟩ = some (.slice q1 q2 q3) := hxA.cell 7
            have x8 : w2.cell? ⟨w.heap.size, 8, none⟩ = some (.bool xb) := hxA.cell 8
            have x9 : w2.cell? ⟨w.heap.size, 9, none⟩ = some (.bool xa) := hxA.cell 9
            have y6 : w2.cell? ⟨w.heap.size + 1, 6, none⟩ = some (.string ⟨yc.toArray⟩) := hxB.cell 6
            have y7 : w2.cell? ⟨w.heap.size + 1, 7, none⟩ = some (.slice q1' q2' q3') := hxB.cell 7
            have y8 : w2.cell? ⟨w.heap.size + 1, 8, none⟩ = some (.bool yb) := hxB.cell 8
            have y9 : w2.cell? ⟨w.heap.size + 1, 9, none⟩ = some (.bool ya) := hxB.cell 9
            have hA2 := HA.out w2 B3.out
            have hB2 := HB.out w2 B3.out
            have hG := psametable_any S T a.grid b.grid (q1, q2, q3) (q1', q2', q3') w2 hA2.trows hB2.trows (by omega) (by omega) (HSS.out w2 B3.out) (HTT.out w2 B3.out)
            unfold tabV at hG
            rw [← hA2.cols, ← hA2.box, ← hA2.all, ← hB2.cols, ← hB2.box, ← hB2.all] at hG
            rw [HP3.out] at hG
            simp only [pv] at hG
            have HG := Lib.hid hG
            clear hG hA2 hB2 hxA hxB
            go_wp2_with fail
            refine HG.out.mono ?_
            rintro e w3 ⟨rfl, b3⟩
            have BB3 := Lib.hid (BB2.out.trans (b3.mono BB2.out.size))
            clear b3 HG x6 x7 x8 x9 y6 y7 y8 y9
            go_wp2_with fail
            go_ret
            exact ⟨rfl, BB3.out⟩
      · have e2 : (xn == yn) = false := by simpa using h2
        have hp : decide (a = b) = false := decide_eq_false (fun h => h2 (en.out.trans ((congrArg Hd.n h).trans fn.out.symm)))
        have HP := Lib.hid (fin0 _ hp)
        clear hp h2 fin0
        subst hW
        go_enter Tryd.func58, Tryd.ntmps58
        go_wp2_with fail
        go_ret
        exact HP.out _ _ ⟨rfl, B2.out⟩
    · have e1 : (xl == yl) = false := by simpa using h1
      have hp : decide (a = b) = false := decide_eq_false (fun h => h1 (el.out.trans ((congrArg Hd.line h).trans fl.out.symm)))
      have HP := Lib.hid (fin0 _ hp)
      clear hp h1 fin0
      subst hW
      go_enter Tryd.func58, Tryd.ntmps58
      go_wp2_with fail
      go_ret
      exact HP.out _ _ ⟨rfl, B2.out⟩
  · have e0 : (xk == yk) = false := by simpa using h0
    have hp : decide (a = b) = false := decide_eq_false (fun h => h0 (ek.out.trans ((congrArg Hd.kind h).trans fk.out.symm)))
    have HP := Lib.hid (fin0 _ hp)
    clear hp h0 fin0
    subst hW
    go_enter Tryd.func58, Tryd.ntmps58
    go_wp2_with fail
    go_ret
    exact HP.out _ _ ⟨rfl, B2.out⟩

set_option maxRecDepth 100000 in
set_option maxHeartbeats 4000000 in
theorem psame1_any (S T : Nat → Prop) (x y : NV) (a b : Nd) (w : World) (hx : HdIs S w x a.hd) (hy : HdIs T w y b.hd) (hl : hdl a.hd ≤ 90000) (hl' : hdl b.hd ≤ 90000) (hS : ∀ x, S x → x < w.heap.size) (hT : ∀ x, T x → x < w.heap.size)
    (HK : ∀ W, Below w.heap.size w W → Calls Tryd.prog 27 #[pv x.kids, pv y.kids] W fun e w' => e = .returned (.bool (eqNs a.kids b.kids)) ∧ Below W.heap.size W w') :
    Calls Tryd.prog 57 #[.agg (ncell x).toArray, .agg (ncell y).toArray] w fun e w' => e = .returned (.bool (decide (a.hd = b.hd) && eqNs a.kids b.kids)) ∧ Below w.heap.size w w' := by
  have B2 := Lib.hid (bel2 w (.cells (ncell x).toArray 39) (.cells (ncell y).toArray 39))
  obtain ⟨W, hW⟩ : ∃ W, (w.alloc (.cells (ncell x).toArray 39)).alloc (.cells (ncell y).toArray 39) = W := ⟨_, rfl⟩
  have hXA : Blk W w.heap.size 39 (ncell x) := by rw [← hW]; exact (heap_alloc_old _ _ (by simp)).trans (heap_alloc_new w _)
  have hXB : Blk W (w.heap.size + 1) 39 (ncell y) := by
    have := heap_alloc_new (w.alloc (.cells (ncell x).toArray 39)) (.cells (ncell y).toArray 39)
    rw [World.size_alloc, hW] at this
    exact this
  rw [hW] at B2
  have hA := palike_any S T x y a.hd b.hd W (hx.keep (Kp.below B2.out hS)) (hy.keep (Kp.below B2.out hT)) hl hl' (fun b hb => Nat.lt_of_lt_of_le (hS b hb) B2.out.size) (fun b hb => Nat.lt_of_lt_of_le (hT b hb) B2.out.size)
  have HXA := Lib.hid hXA
  have HXB := Lib.hid hXB
  have HKK := Lib.hid HK
  obtain ⟨xk, xl, xn, ⟨t1, t2, t3⟩, ⟨k1, k2, k3⟩, ⟨r1, r2, r3⟩, xc, ⟨q1, q2, q3⟩, xb, xa⟩ := x
  obtain ⟨yk, yl, yn, ⟨t1', t2', t3'⟩, ⟨k1', k2', k3'⟩, ⟨r1', r2', r3'⟩, yc, ⟨q1', q2', q3'⟩, yb, ya⟩ := y
  obtain ⟨p, hp⟩ : ∃ p, decide (a.hd = b.hd) = p := ⟨_, rfl⟩
  obtain ⟨p2, hp2⟩ : ∃ p, eqNs a.kids b.kids = p := ⟨_, rfl⟩
  rw [hp] at hA
  rw [hp, hp2]
  rw [hp2] at HKK
  simp only [ncell, pv] at hA hW HKK ⊢
  have HA := Lib.hid hA
  clear hA hp hp2 hx hy hS hT hXA hXB HK hl hl'
  subst hW
  go_enter Tryd.func57, Tryd.ntmps57
  go_wp2_with fail
  refine HA.out.mono ?_
  rintro e w1 ⟨rfl, b1⟩
  have BB := Lib.hid (B2.out.trans (b1.mono B2.out.size))
  have x4 : w1.cell? ⟨w.heap.size, 4, none⟩ = some (.slice k1 k2 k3) := (HXA.out.below b1).cell 4
  have y4 : w1.cell? ⟨w.heap.size + 1, 4, none⟩ = some (.slice k1' k2' k3') := (HXB.out.below b1).cell 4
  clear b1 HA
  cases p
  · go_wp2_with fail
    go_ret
    exact ⟨rfl, BB.out⟩
  · go_wp2_with fail
    refine (HKK.out w1 BB.out).mono ?_
    rintro e w2 ⟨rfl, b2⟩
    have BB2 := Lib.hid (BB.out.trans (b2.mono BB.out.size))
    clear b2 HKK x4 y4
    go_wp2_with fail
    go_ret
    exact ⟨rfl, BB2.out⟩

theorem ndeq_split {a b : Nd} : (a = b) ↔ (decide (a.hd = b.hd) && eqNs a.kids b.kids) = true := by
  rw [nd_eq, Bool.and_eq_true, decide_eq_true_eq]
  constructor
  · rintro ⟨h1, h2⟩
    exact ⟨h1, eqNs_true h2⟩
  · rintro ⟨h1, h2⟩
    refine ⟨h1, ?_⟩
    by_cases h : a.kids = b.kids
    · exact h
    · rw [eqNs_false h] at h2; cases h2

set_option maxRecDepth 100000 in
set_option maxHeartbeats 4000000 in
theorem eqfn_any (S T : Nat → Prop) (a b : List Nd) (v u : Value) (w : World) (hv : NsS S w v a) (hu : NsS T w u b) (hl : nlL a ≤ 90000) (hl' : nlL b ≤ 90000) (hS : ∀ x, S x → x < w.heap.size) (hT : ∀ x, T x → x < w.heap.size)
    (HK : ∀ (k m : List Nd), cntL k < cntL a → nlL k ≤ 90000 → nlL m ≤ 90000 → ∀ (v u : Value) (w : World), NsS S w v k → NsS T w u m → (∀ x, S x → x < w.heap.size) → (∀ x, T x → x < w.heap.size) →
      Calls Tryd.prog 27 #[v, u] w fun e w' => e = .returned (.bool (eqNs k m)) ∧ Below w.heap.size w w') :
    Calls Tryd.prog 59 #[v, u, .func (.func 57) #[] #[]] w fun e w' => e = .returned (.bool (eqNs a b)) ∧ Below w.heap.size w w' := by
  have HV := Lib.hid hv
  have HU := Lib.hid hu
  have HS := Lib.hid hS
  have HT := Lib.hid hT
  have HKK := Lib.hid HK
  have hla := cnt_len a
  have hnl := cnt_nlL a
  obtain ⟨aa, ca, rfl⟩ := hv.len
  obtain ⟨ab, cb, rfl⟩ := hu.len
  clear hv hu hS hT HK
  by_cases hlen : a.length = b.length
  · have HLen := Lib.hid hlen
    have hne : ((a.length : Int) != (b.length : Int)) = false := by simp [hlen]
    clear hlen
    go_enter Tryd.func59, Tryd.ntmps59
    go_wp2_with fail
    go_loopw [7, 8, 9, 17] (fun _ _ _ i wr => ∃ j : Nat, j ≤ a.length ∧ i = .int .i64 j ∧ Hid (a.take j = b.take j) ∧ Hid (Below w.heap.size w wr)) (fun _ _ _ i _ => a.length - (intOf i).toNat)
    case atStart => exact ⟨0, by omega, rfl, Lib.hid rfl, Lib.hid (Below.refl _ _)⟩
    case round =>
      obtain ⟨j, hj, rfl, HTk, BW⟩ := hrel
      by_cases hlt : j < a.length
      · obtain ⟨x, hx⟩ : ∃ x, a[j]? = some x := ⟨a[j], List.getElem?_eq_getElem hlt⟩
        obtain ⟨y, hy⟩ : ∃ y, b[j]? = some y := ⟨b[j]'(by have := HLen.out; omega), List.getElem?_eq_getElem _⟩
        have hi0 : (j : Int) < (a.length : Int) := by omega
        have hi2 : (j : Int) < (b.length : Int) := by have := HLen.out; omega
        have hi1 : (0 : Int) ≤ (j : Int) := by omega
        have lx := nl_le hx
        have ly := nl_le hy
        have cx := cnt_le hx
        obtain ⟨g1, o1, X, rfl, hC1, hH1, hK1⟩ := (below_ns HV.out BW.out HS.out).atC hx
        have bl := below_lit wr (.cells (ncell X).toArray 39)
        obtain ⟨g2, o2, Y, rfl, hC2, hH2, hK2⟩ := (below_ns HU.out (BW.out.trans (bl.mono BW.out.size)) HT.out).atC hy
        have bl2 := bel2 wr (.cells (ncell X).toArray 39) (.cells (ncell Y).toArray 39)
        have bl3 := below_lit (wr.alloc (.cells (ncell X).toArray 39)) (.cells (ncell Y).toArray 39)
        have s1 : ∀ b, S b → b < wr.heap.size := fun b hb => Nat.lt_of_lt_of_le (HS.out b hb) BW.out.size
        have s2 : ∀ b, T b → b < (wr.alloc (.cells (ncell X).toArray 39)).heap.size := fun b hb => Nat.lt_of_lt_of_le (HT.out b hb) (Nat.le_trans BW.out.size bl.size)
        have HC := Lib.hid (psame1_any S T X Y x y _ (hH1.keep (Kp.below bl2 s1)) (hH2.keep (Kp.below bl3 s2)) (by omega) (by omega) (fun b hb => Nat.lt_of_lt_of_le (s1 b hb) bl2.size) (fun b hb => Nat.lt_of_lt_of_le (s2 b hb) bl3.size)
          (fun W hW => HKK.out x.kids y.kids (by omega) (by omega) (by omega) _ _ W ((hK1.keep (Kp.below bl2 s1)).keep (Kp.below hW (fun b hb => Nat.lt_of_lt_of_le (s1 b hb) bl2.size))) ((hK2.keep (Kp.below bl3 s2)).keep (Kp.below hW (fun b hb => Nat.lt_of_lt_of_le (s2 b hb) bl3.size)))
            (fun b hb => Nat.lt_of_lt_of_le (Nat.lt_of_lt_of_le (s1 b hb) bl2.size) hW.size) (fun b hb => Nat.lt_of_lt_of_le (Nat.lt_of_lt_of_le (s2 b hb) bl3.size) hW.size)))
        have BL2 := Lib.hid (BW.out.trans (bl2.mono BW.out.size))
        obtain ⟨xk, xl, xn, ⟨t1, t2, t3⟩, ⟨k1, k2, k3⟩, ⟨r1, r2, r3⟩, xc, ⟨q1, q2, q3⟩, xb, xa⟩ := X
        obtain ⟨yk, yl, yn, ⟨t1', t2', t3'⟩, ⟨k1', k2', k3'⟩, ⟨r1', r2', r3'⟩, yc, ⟨q1', q2', q3'⟩, yb, ya⟩ := Y
        have c0 := hC1.c0
        have c1 := hC1.c1
        have c2 := hC1.c2
        have c3 := hC1.c3
        have c4 := hC1.c4
        have c5 := hC1.c5
        have c6 := hC1.c6
        have c7 := hC1.c7
        have c8 := hC1.c8
        have c9 := hC1.c9
        have d0 := hC2.c0
        have d1 := hC2.c1
        have d2 := hC2.c2
        have d3 := hC2.c3
        have d4 := hC2.c4
        have d5 := hC2.c5
        have d6 := hC2.c6
        have d7 := hC2.c7
        have d8 := hC2.c8
        have d9 := hC2.c9
        simp only [ncell, pv] at HC BL2 d0 d1 d2 d3 d4 d5 d6 d7 d8 d9
        by_cases hxy : x = y
        · have HTT := Lib.hid (take_one HTk.out hx hy hxy)
          rw [ndeq_split.1 hxy] at HC
          clear hx hy hxy s1 s2 bl bl2 bl3 hC1 hC2 hH1 hH2 hK1 hK2
          go_wp2_with fail
          refine HC.out.mono ?_
          rintro e w1 ⟨rfl, b1⟩
          have B1 := Lib.hid (BL2.out.trans (b1.mono BL2.out.size))
          clear b1 HC c0 c1 c2 c3 c4 c5 c6 c7 c8 c9 d0 d1 d2 d3 d4 d5 d6 d7 d8 d9
          go_wp2_with fail
          go_roundw
          case rel => exact ⟨j + 1, by omega, by go_num, HTT, B1⟩
          case measure => (simp [intOf]; try omega)
        · have HTT := Lib.hid (eqNs_false (not_same hx hy hxy))
          have hfl : (decide (x.hd = y.hd) && eqNs x.kids y.kids) = false := by
            cases h : (decide (x.hd = y.hd) && eqNs x.kids y.kids) with
            | false => rfl
            | true => exact absurd (ndeq_split.2 h) hxy
          rw [hfl] at HC
          clear hx hy hxy s1 s2 bl bl2 bl3 hC1 hC2 hH1 hH2 hK1 hK2 hfl
          go_wp2_with fail
          refine HC.out.mono ?_
          rintro e w1 ⟨rfl, b1⟩
          have B1 := Lib.hid (BL2.out.trans (b1.mono BL2.out.size))
          clear b1 HC c0 c1 c2 c3 c4 c5 c6 c7 c8 c9 d0 d1 d2 d3 d4 d5 d6 d7 d8 d9
          go_wp2_with fail
          go_ret
          exact ⟨ret_bool HTT.out.symm, B1.out⟩
      · obtain rfl : j = a.length := by omega
        have hlt' : ¬ (a.length : Int) < (a.length : Int) := by omega
        have hs : a = b := by
          have h := HTk.out
          rw [List.take_length, HLen.out, List.take_length] at h
          exact h
        have HTT := Lib.hid (eqNs_true hs)
        clear hs
        go_wp2_with fail
        go_ret
        exact ⟨ret_bool HTT.out.symm, BW.out⟩
  · have hne : ((a.length : Int) != (b.length : Int)) = true := by simp; omega
    have HTT := Lib.hid (eqNs_false (show ¬ a = b from fun h => hlen (by rw [h])))
    clear hlen
    go_enter Tryd.func59, Tryd.ntmps59
    go_wp2_with fail
    go_ret
    exact ⟨ret_bool HTT.out.symm, Below.refl _ _⟩

set_option maxRecDepth 100000 in
theorem psame_any (S T : Nat → Prop) : ∀ (n : Nat) (a b : List Nd), cntL a = n → nlL a ≤ 90000 → nlL b ≤ 90000 → ∀ (v u : Value) (w : World), NsS S w v a → NsS T w u b → (∀ x, S x → x < w.heap.size) → (∀ x, T x → x < w.heap.size) →
    Calls Tryd.prog 27 #[v, u] w fun e w' => e = .returned (.bool (eqNs a b)) ∧ Below w.heap.size w w' := by
  intro n
  induction n using Nat.strongRecOn with
  | _ n IH =>
    intro a b hn hba hbb v u w hv hu hS hT
    have HR := Lib.hid (eqfn_any S T a b v u w hv hu hba hbb hS hT (fun k m hk h1 h2 => IH (cntL k) (hn ▸ hk) k m rfl h1 h2))
    obtain ⟨p, hp⟩ : ∃ p, eqNs a b = p := ⟨_, rfl⟩
    rw [hp] at HR ⊢
    clear IH hv hu hS hT hp hn
    go_enter Tryd.func27, Tryd.ntmps27
    go_wp2_with fail
    refine HR.out.mono ?_
    rintro e w1 ⟨rfl, b1⟩
    have B1 := Lib.hid b1
    clear b1
    go_wp2_with fail
    go_ret
    exact ⟨rfl, B1.out⟩
end Go.Proofs.YtienjlbpaedbjaaDoor
