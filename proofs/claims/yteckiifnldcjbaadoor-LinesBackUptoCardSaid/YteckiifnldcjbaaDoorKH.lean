/- Whether two rows of texts, of rows, are the same, by the document's own answer. -/
import Derived.Test.YteckiifnldcjbaaDoorK8
import Derived.Deep.QuietTactic
import Derived.BigQuiet
namespace Go.Proofs.YteckiifnldcjbaaDoor
open Go.RowKit
attribute [local go_sem ↓ high] binop_eqlS binop_neqS

theorem neqS_same (x : List UInt8) (W : World) : (neqS (.string ⟨x.toArray⟩) (.string ⟨x.toArray⟩)).run Tryd.prog W = .ok (.bool false) W := by
  have := neqS_run x x W
  simpa using this
theorem neqS_other {x y : List UInt8} (h : x ≠ y) (W : World) : (neqS (.string ⟨x.toArray⟩) (.string ⟨y.toArray⟩)).run Tryd.prog W = .ok (.bool true) W := by
  have := neqS_run x y W
  rw [decide_eq_false h] at this
  exact this
theorem drewN_add (w : World) (a b : Nat) : (w.drewN a).drewN b = w.drewN (a + b) := World.drewN_drewN ..
theorem fs_drewN {α : Type} {n : Nat} {f : α → List Value} {w : World} {v : Value} {l : List α} (h : Fs n f w v l) (m : Nat) : Fs n f (w.drewN m) v l := h.below (below_drewN (Below.refl _ _) m)

set_option maxRecDepth 100000 in
set_option maxHeartbeats 1000000 in
theorem sameS_any (a b : List (List UInt8)) (v u : Value) (w : World) (hv : Ss w v a) (hu : Ss w u b) (hl : a.length ≤ 200000) (hl' : b.length ≤ 200000) :
    Calls Tryd.prog 14 #[v, u] w fun e w' => e = .returned (.bool (decide (a = b))) ∧ ∃ m, w' = w.drewN m := by
  have HV := Lib.hid hv
  have HU := Lib.hid hu
  obtain ⟨aa, ca, rfl, -, -⟩ := hv
  obtain ⟨ab, cb, rfl, -, -⟩ := hu
  by_cases hlen : a.length = b.length
  · have HLen := Lib.hid hlen
    have hne : ((a.length : Int) != (b.length : Int)) = false := by simp [hlen]
    clear hlen
    go_enter Tryd.func14, Tryd.ntmps14
    go_wp2_with fail
    go_loopw [5] (fun i wr => ∃ j : Nat, j ≤ a.length ∧ i = .int .i64 j ∧ a.take j = b.take j ∧ ∃ m, wr = w.drewN m) (fun i _ => a.length - (intOf i).toNat)
    case atStart => exact ⟨0, by omega, rfl, rfl, 0, rfl⟩
    case round =>
      obtain ⟨j, hj, rfl, hs, m, rfl⟩ := hrel
      have HS := Lib.hid hs
      clear hs
      by_cases hlt : j < a.length
      · obtain ⟨x, hx⟩ : ∃ x, a[j]? = some x := ⟨a[j], List.getElem?_eq_getElem hlt⟩
        obtain ⟨y, hy⟩ : ∃ y, b[j]? = some y := ⟨b[j]'(by have := HLen.out; omega), List.getElem?_eq_getElem _⟩
        obtain ⟨g, off, rfl, c0⟩ := Ss.at (fs_drewN HV.out m) hx
        obtain ⟨g', off', rfl, c0'⟩ := Ss.at (fs_drewN HU.out m) hy
        have hi0 : (j : Int) < (a.length : Int) := by omega
        have hi2 : (j : Int) < (b.length : Int) := by have := HLen.out; omega
        have hi1 : (0 : Int) ≤ (j : Int) := by omega
        obtain ⟨wd, hwd⟩ : ∃ wd, w.drewN m = wd := ⟨_, rfl⟩
        rw [hwd] at c0 c0' ⊢
        have HW := Lib.hid hwd
        clear hwd
        by_cases hxy : x = y
        · subst hxy
          have HT := Lib.hid (take_same HS.out hx hy)
          have hq := neqS_same x
          clear hx hy
          go_wp2_with fail
          go_quiet (fail)
          go_wp2
          go_roundw
          case rel => exact ⟨j + 1, by omega, by go_num, HT.out, _, by rw [← HW.out, drewN_add]⟩
          case measure => simp [intOf]; omega
        · have HT := Lib.hid (decide_eq_false (not_same hx hy hxy))
          have hq := neqS_other hxy
          clear hx hy hxy
          go_wp2_with fail
          go_quiet (fail)
          go_wp2
          go_ret
          exact ⟨ret_bool HT.out.symm, _, by rw [← HW.out, drewN_add]⟩
      · obtain rfl : j = a.length := by omega
        have hs : a = b := by
          have h := HS.out
          rw [List.take_length, HLen.out, List.take_length] at h
          exact h
        have HT := Lib.hid (decide_eq_true hs)
        clear hs
        go_wp2_with fail
        go_ret
        exact ⟨ret_bool HT.out.symm, _, rfl⟩
  · have hne : ((a.length : Int) != (b.length : Int)) = true := by simp; omega
    have HT := Lib.hid (decide_eq_false (show ¬ a = b from fun h => hlen (by rw [h])))
    clear hlen
    go_enter Tryd.func14, Tryd.ntmps14
    go_wp2_with fail
    go_ret
    exact ⟨ret_bool HT.out.symm, 0, rfl⟩

/-- A slice of rows, as it reads. -/
def Rws (w : World) (v : Value) (l : List Row) : Prop := ∃ L : List RV, Fs 4 rcell w v L ∧ AllIs (Ss w) L l
theorem Rws.below {w w' : World} {v : Value} {l : List Row} (h : Rws w v l) (hb : Below w.heap.size w w') : Rws w' v l := by
  obtain ⟨L, hL, hA⟩ := h
  exact ⟨L, hL.below hb, hA.mono fun v a ha => ha.below hb⟩
theorem RwOwn.sl {base : Nat} {w : World} {v : Value} {l : List Row} (h : RwOwn base w v l) : Rws w v l := by
  obtain ⟨L, hL, hA⟩ := h
  exact ⟨L, FOwn.sl rcell_len hL, hA.mono fun v a ha => FOwn.sl scell_len ha⟩
theorem Rws.len {w : World} {v : Value} {l : List Row} (h : Rws w v l) : ∃ a cap, v = .slice a l.length cap := by
  obtain ⟨L, hL, hA⟩ := h
  obtain ⟨a, cap, e⟩ := hL.len
  rw [hA.1] at e
  exact ⟨a, cap, e⟩
theorem Rws.at {w : World} {a : Option Addr} {k cap : Nat} {l : List Row} (h : Rws w (.slice a k cap) l) {j : Nat} {y : Row} (hj : l[j]? = some y) :
    ∃ b off, a = some ⟨b, off, none⟩ ∧ w.cell? ⟨b, off + j * 4, none⟩ = some (.int .i64 y.1) ∧ w.cell? ⟨b, off + j * 4 + 1, none⟩ = some (.string ⟨y.2.1.toArray⟩) ∧ (∃ aa na ca, w.cell? ⟨b, off + j * 4 + 2, none⟩ = some (.slice aa na ca) ∧ Ss w (.slice aa na ca) y.2.2.1) ∧ w.cell? ⟨b, off + j * 4 + 3, none⟩ = some (.string ⟨y.2.2.2.toArray⟩) := by
  obtain ⟨L, hL, hA⟩ := h
  have hjl : j < L.length := by rw [hA.1]; exact (List.getElem?_eq_some_iff.1 hj).1
  obtain ⟨x, hx⟩ : ∃ x, L[j]? = some x := ⟨L[j], List.getElem?_eq_getElem hjl⟩
  have hi := hA.2 j x y hx hj
  obtain ⟨a', cap', hv, _, hr⟩ := hL
  injection hv with h1 h2 h3
  subst h1
  obtain ⟨b, off, rfl, h0⟩ := hr j x hx
  refine ⟨b, off, rfl, ?_, ?_, ⟨x.2.2.1.1, x.2.2.1.2.1, x.2.2.1.2.2, h0 2 _ rfl, hi.args⟩, ?_⟩
  · have := h0 0 _ rfl; rw [← hi.line]; exact this
  · have := h0 1 _ rfl; rw [← hi.mac]; exact this
  · have := h0 3 _ rfl; rw [← hi.text]; exact this

set_option maxRecDepth 100000 in
set_option maxHeartbeats 4000000 in
theorem sameR_any (a b : List Row) (v u : Value) (w : World) (hv : Rws w v a) (hu : Rws w u b) (hl : a.length ≤ 100000) (hl' : b.length ≤ 100000) (hA : ∀ y ∈ a, y.2.2.1.length ≤ 100000) (hB : ∀ y ∈ b, y.2.2.1.length ≤ 100000) :
    Calls Tryd.prog 24 #[v, u] w fun e w' => e = .returned (.bool (decide (a = b))) ∧ ∃ m, w' = w.drewN m := by
  have HV := Lib.hid hv
  have HU := Lib.hid hu
  have HA := Lib.hid hA
  have HB := Lib.hid hB
  obtain ⟨aa, ca, rfl⟩ := hv.len
  obtain ⟨ab, cb, rfl⟩ := hu.len
  clear hv hu hA hB
  by_cases hlen : a.length = b.length
  · have HLen := Lib.hid hlen
    have hne : ((a.length : Int) != (b.length : Int)) = false := by simp [hlen]
    clear hlen
    go_enter Tryd.func24, Tryd.ntmps24
    go_wp2_with fail
    go_loopw [5] (fun i wr => ∃ j : Nat, j ≤ a.length ∧ i = .int .i64 j ∧ a.take j = b.take j ∧ ∃ m, wr = w.drewN m) (fun i _ => a.length - (intOf i).toNat)
    case atStart => exact ⟨0, by omega, rfl, rfl, 0, rfl⟩
    case round =>
      obtain ⟨j, hj, rfl, hs, m, rfl⟩ := hrel
      have HS := Lib.hid hs
      clear hs
      by_cases hlt : j < a.length
      · obtain ⟨x, hx⟩ : ∃ x, a[j]? = some x := ⟨a[j], List.getElem?_eq_getElem hlt⟩
        obtain ⟨y, hy⟩ : ∃ y, b[j]? = some y := ⟨b[j]'(by have := HLen.out; omega), List.getElem?_eq_getElem _⟩
        obtain ⟨wd, hwd⟩ : ∃ wd, w.drewN m = wd := ⟨_, rfl⟩
        have hbd : Below w.heap.size w wd := hwd ▸ below_drewN (Below.refl _ _) m
        obtain ⟨g, off, rfl, c0, c1, ⟨a1, n1, p1, c2, s2⟩, c3⟩ := (HV.out.below hbd).at hx
        obtain ⟨g', off', rfl, d0, d1, ⟨a2, n2, p2, d2, t2⟩, d3⟩ := (HU.out.below hbd).at hy
        have hi0 : (j : Int) < (a.length : Int) := by omega
        have hi2 : (j : Int) < (b.length : Int) := by have := HLen.out; omega
        have hi1 : (0 : Int) ≤ (j : Int) := by omega
        have ST := Lib.hid (fun k => sameS_any x.2.2.1 y.2.2.1 _ _ (wd.drewN k) (fs_drewN s2 k) (fs_drewN t2 k) (by have := HA.out x (List.mem_iff_getElem?.2 ⟨j, hx⟩); omega) (by have := HB.out y (List.mem_iff_getElem?.2 ⟨j, hy⟩); omega))
        have HXY : Hid (x = y ↔ x.1 = y.1 ∧ x.2.1 = y.2.1 ∧ x.2.2.2 = y.2.2.2 ∧ x.2.2.1 = y.2.2.1) := Lib.hid ⟨fun h => by rw [h]; exact ⟨rfl, rfl, rfl, rfl⟩, fun ⟨h1, h2, h3, h4⟩ => Prod.ext h1 (Prod.ext h2 (Prod.ext h4 h3))⟩
        rw [hwd]
        have HW := Lib.hid hwd
        have HX := Lib.hid hx
        have HYY := Lib.hid hy
        clear hwd hbd s2 t2 hx hy
        obtain ⟨x0, x1, x2, x3⟩ := x
        obtain ⟨y0, y1, y2, y3⟩ := y
        simp only at c0 c1 c3 d0 d1 d3 ST HXY
        have fin : ∀ (h : ¬ ((x0, x1, x2, x3) : Row) = (y0, y1, y2, y3)), decide (a = b) = false := fun h => decide_eq_false (not_same HX.out HYY.out h)
        by_cases e0 : x0 = y0
        · have q0 : (x0 != y0) = false := by simp [e0]
          by_cases e1 : x1 = y1
          · subst e1
            have q1 := neqS_same x1
            by_cases e3 : x3 = y3
            · subst e3
              have q3 := neqS_same x3
              by_cases e2 : x2 = y2
              · have hxy := HXY.out.2 ⟨e0, rfl, rfl, e2⟩
                have HT := Lib.hid (take_same HS.out HX.out (by rw [hxy]; exact HYY.out))
                have ST2 : Hid (∀ k, Calls Tryd.prog 14 #[.slice a1 n1 p1, .slice a2 n2 p2] (wd.drewN k) fun e w' => e = .returned (.bool true) ∧ ∃ m, w' = (wd.drewN k).drewN m) := Lib.hid fun k => by
                  have h := ST.out k
                  rw [decide_eq_true e2] at h
                  exact h
                clear ST HXY fin hxy e0 e2
                go_wp2_with fail
                go_quiet (first | (go_at_call 14; exact Calls.quiet_of (ST2.out _)))
                go_wp2
                go_roundw
                case rel => exact ⟨j + 1, by omega, by go_num, HT.out, _, by rw [← HW.out, drewN_add]⟩
                case measure => simp [intOf]; omega
              · have HT := Lib.hid (fin (fun h => e2 (HXY.out.1 h).2.2.2))
                have ST2 : Hid (∀ k, Calls Tryd.prog 14 #[.slice a1 n1 p1, .slice a2 n2 p2] (wd.drewN k) fun e w' => e = .returned (.bool false) ∧ ∃ m, w' = (wd.drewN k).drewN m) := Lib.hid fun k => by
                  have h := ST.out k
                  rw [decide_eq_false e2] at h
                  exact h
                clear ST HXY fin e0 e2
                go_wp2_with fail
                go_quiet (first | (go_at_call 14; exact Calls.quiet_of (ST2.out _)))
                go_wp2
                go_ret
                exact ⟨ret_bool HT.out.symm, _, by rw [← HW.out, drewN_add]⟩
            · have HT := Lib.hid (fin (fun h => e3 (HXY.out.1 h).2.2.1))
              have q3 := neqS_other e3
              clear ST HXY fin e0 e3
              go_wp2_with fail
              go_quiet (fail)
              go_wp2
              go_ret
              exact ⟨ret_bool HT.out.symm, _, by rw [← HW.out, drewN_add]⟩
          · have HT := Lib.hid (fin (fun h => e1 (HXY.out.1 h).2.1))
            have q1 := neqS_other e1
            clear ST HXY fin e0 e1
            go_wp2_with fail
            go_quiet (fail)
            go_wp2
            go_ret
            exact ⟨ret_bool HT.out.symm, _, by rw [← HW.out, drewN_add]⟩
        · have HT := Lib.hid (fin (fun h => e0 (HXY.out.1 h).1))
          have q0 : (x0 != y0) = true := by simp [e0]
          clear ST HXY fin e0
          go_wp2_with fail
          go_quiet (fail)
          go_wp2
          go_ret
          exact ⟨ret_bool HT.out.symm, _, by rw [← HW.out, drewN_add]⟩
      · obtain rfl : j = a.length := by omega
        have hs : a = b := by
          have h := HS.out
          rw [List.take_length, HLen.out, List.take_length] at h
          exact h
        have HT := Lib.hid (decide_eq_true hs)
        clear hs
        go_wp2_with fail
        go_ret
        exact ⟨ret_bool HT.out.symm, _, rfl⟩
  · have hne : ((a.length : Int) != (b.length : Int)) = true := by simp; omega
    have HT := Lib.hid (decide_eq_false (show ¬ a = b from fun h => hlen (by rw [h])))
    clear hlen
    go_enter Tryd.func24, Tryd.ntmps24
    go_wp2_with fail
    go_ret
    exact ⟨ret_bool HT.out.symm, 0, rfl⟩
end Go.Proofs.YteckiifnldcjbaaDoor
