/- A row of diags that is sorted in place: exchanges. -/
import Derived.Test.YtalopkplpbdgjaaDoorS1
import Derived.Test.YtalopkplpbdgjaaDoorZ5
import Derived.BigRegion
namespace Go.Proofs.YtalopkplpbdgjaaDoor
open Go.RowKit

/-- A row of the call's own that holds ds. -/
def Rw (base g n cap : Nat) (W : World) (ds : List D) : Prop := ds.length = n ∧ W.ownsRow base 29 3 (.slice (some ⟨g, 0, none⟩) n cap) n (dcells ds)
theorem Rw.cells {base g n cap : Nat} {W : World} {ds : List D} (h : Rw base g n cap W ds) (j : Nat) (x : D) (hj : ds[j]? = some x) :
    W.cell? ⟨g, j * 3, none⟩ = some (.int .i64 x.1) ∧ W.cell? ⟨g, j * 3 + 1, none⟩ = some (.int .i64 x.2.1) ∧ W.cell? ⟨g, j * 3 + 2, none⟩ = some (.int .i64 x.2.2) := by
  have key : ∀ (ds : List D) (j : Nat) (x : D), ds[j]? = some x → (dcells ds)[j * 3]? = some (.int .i64 x.1) ∧ (dcells ds)[j * 3 + 1]? = some (.int .i64 x.2.1) ∧ (dcells ds)[j * 3 + 2]? = some (.int .i64 x.2.2) := by
    intro ds
    induction ds with
    | nil => intro j x hj; simp at hj
    | cons d ds ih =>
      intro j x hj
      have e : dcells (d :: ds) = .int .i64 d.1 :: .int .i64 d.2.1 :: .int .i64 d.2.2 :: dcells ds := rfl
      rw [e]
      match j, hj with
      | 0, hj => simp at hj; subst hj; simp
      | j + 1, hj =>
        have := ih j x (by simpa using hj)
        rw [show (j + 1) * 3 = j * 3 + 1 + 1 + 1 by omega]
        simpa using this
  obtain ⟨k0, k1, k2⟩ := key ds j x hj
  have hc := World.ownsRow.cells (g := g) h.2 rfl
  have e0 := hc _ _ k0
  have e1 := hc _ _ k1
  have e2 := hc _ _ k2
  rw [Addr.add_lit, Nat.zero_add] at e0 e1 e2
  exact ⟨e0, e1, e2⟩

/-- An exchange of two. -/
def swp (ds : List D) (p q : Nat) : List D := (ds.set p (ds.getD q (0, 0, 0))).set q (ds.getD p (0, 0, 0))
theorem swp_length (ds : List D) (p q : Nat) : (swp ds p q).length = ds.length := by simp [swp]
theorem dcells_set (ds : List D) (j : Nat) (x : D) : dcells (ds.set j x) = (((dcells ds).set (j * 3) (.int .i64 x.1)).set (j * 3 + 1) (.int .i64 x.2.1)).set (j * 3 + 2) (.int .i64 x.2.2) := by
  induction ds generalizing j with
  | nil => simp [dcells]
  | cons d ds ih =>
    have e : ∀ (d : D) (ds : List D), dcells (d :: ds) = .int .i64 d.1 :: .int .i64 d.2.1 :: .int .i64 d.2.2 :: dcells ds := fun _ _ => rfl
    cases j with
    | zero => simp [e]
    | succ j =>
      rw [List.set_cons_succ, e, e, ih]
      rw [show (j + 1) * 3 = j * 3 + 1 + 1 + 1 by omega, show j * 3 + 1 + 1 + 1 + 1 = j * 3 + 1 + 1 + 1 + 1 by rfl]
      simp

theorem Rw.set {base g n cap : Nat} {W : World} {ds : List D} (h : Rw base g n cap W ds) (j : Nat) (x : D) :
    Rw base g n cap (((W.setCell ⟨g, j * 3, none⟩ (.int .i64 x.1)).setCell ⟨g, j * 3 + 1, none⟩ (.int .i64 x.2.1)).setCell ⟨g, j * 3 + 2, none⟩ (.int .i64 x.2.2)) (ds.set j x) := by
  refine ⟨by simpa using h.1, ?_⟩
  rw [dcells_set]
  exact (World.ownsRow.stored (World.ownsRow.stored (World.ownsRow.stored h.2 _ _).1 _ _).1 _ _).1
theorem Rw.base {base g n cap : Nat} {W : World} {ds : List D} (h : Rw base g n cap W ds) : base ≤ g := (World.ownsRow.lt h.2 g rfl).1
theorem Rw.drew {base g n cap : Nat} {W : World} {ds : List D} (h : Rw base g n cap W ds) : Rw base g n cap W.drew ds := ⟨h.1, h.2⟩
theorem Rw.below {base g n cap : Nat} {W W' : World} {ds : List D} (h : Rw base g n cap W ds) (hb : Below W.heap.size W W') : Rw base g n cap W' ds := ⟨h.1, owns_below h.2 hb⟩

/-- The world behind an exchange. -/
theorem Rw.swp {base g n cap : Nat} {W : World} {ds : List D} (h : Rw base g n cap W ds) (p q : Nat) (x y : D) (hx : ds[p]? = some x) (hy : ds[q]? = some y) :
    Rw base g n cap ((((((W.setCell ⟨g, p * 3, none⟩ (.int .i64 y.1)).setCell ⟨g, p * 3 + 1, none⟩ (.int .i64 y.2.1)).setCell ⟨g, p * 3 + 2, none⟩ (.int .i64 y.2.2)).setCell ⟨g, q * 3, none⟩ (.int .i64 x.1)).setCell ⟨g, q * 3 + 1, none⟩ (.int .i64 x.2.1)).setCell ⟨g, q * 3 + 2, none⟩ (.int .i64 x.2.2)).drew (YtalopkplpbdgjaaDoor.swp ds p q) := by
  unfold YtalopkplpbdgjaaDoor.swp
  rw [List.getD_eq_getElem?_getD, List.getD_eq_getElem?_getD, hx, hy]
  exact ((h.set p y).set q x).drew
theorem below_six {base g : Nat} {W0 W : World} (h : Below base W0 W) (hg : base ≤ g) (o0 o1 o2 o3 o4 o5 : Nat) (v0 v1 v2 v3 v4 v5 : Value) :
    Below base W0 ((((((W.setCell ⟨g, o0, none⟩ v0).setCell ⟨g, o1, none⟩ v1).setCell ⟨g, o2, none⟩ v2).setCell ⟨g, o3, none⟩ v3).setCell ⟨g, o4, none⟩ v4).setCell ⟨g, o5, none⟩ v5).drew :=
  ((((((h.setCell (p := ⟨g, o0, none⟩) hg v0).setCell (p := ⟨g, o1, none⟩) hg v1).setCell (p := ⟨g, o2, none⟩) hg v2).setCell (p := ⟨g, o3, none⟩) hg v3).setCell (p := ⟨g, o4, none⟩) hg v4).setCell (p := ⟨g, o5, none⟩) hg v5).drew

/-- m exchanges, from a and b on. -/
def swps (ds : List D) (a b : Nat) : Nat → List D
  | 0 => ds
  | m + 1 => YtalopkplpbdgjaaDoor.swp (swps ds a b m) (a + m) (b + m)
theorem swps_length (ds : List D) (a b : Nat) : ∀ m, (swps ds a b m).length = ds.length
  | 0 => rfl
  | m + 1 => by rw [swps, swp_length, swps_length ds a b m]

set_option maxRecDepth 100000 in
set_option maxHeartbeats 1000000 in
theorem swapr_any (base g n cap a b m : Nat) (f : Value) (w : World) (ds : List D) (h : Rw base g n cap w ds) (ha : a + m ≤ n) (hb : b + m ≤ n) (hn : n ≤ 1000) (hab : a ≠ b) :
    Calls Tryd.prog 61 #[.slice (some ⟨g, 0, none⟩) n cap, .int .i64 a, .int .i64 b, .int .i64 m, f] w fun e w' => e = .returned (.tuple #[]) ∧ Rw base g n cap w' (swps ds a b m) ∧ Below base w w' := by
  have H := Lib.hid h
  go_enter Tryd.func61, Tryd.ntmps61
  go_wp2_with fail
  go_loopw [10] (fun i wr => ∃ (j : Nat) (es : List D), j ≤ m ∧ i = .int .i64 j ∧ Rw base g n cap wr es ∧ es = swps ds a b j ∧ Below base w wr) (fun i _ => m - (intOf i).toNat)
  case atStart => exact ⟨0, ds, by omega, rfl, H.out, rfl, Below.refl _ _⟩
  case round =>
    obtain ⟨j, es, hj, rfl, hr, hes, hbl⟩ := hrel
    have HES := Lib.hid hes
    have HBL := Lib.hid hbl
    clear hes hbl
    by_cases hlt : j < m
    · have hi0 : (j : Int) < (m : Int) := by omega
      obtain ⟨p, hp⟩ : ∃ p : Nat, a + j = p := ⟨_, rfl⟩
      obtain ⟨q, hq⟩ : ∃ q : Nat, b + j = q := ⟨_, rfl⟩
      have hpz : (a : Int) + (j : Int) = (p : Int) := by omega
      have hqz : (b : Int) + (j : Int) = (q : Int) := by omega
      have hpn : p < n := by omega
      have hqn : q < n := by omega
      obtain ⟨⟨xk, xl, xc⟩, hx⟩ : ∃ x, es[p]? = some x := ⟨es[p]'(by rw [hr.1]; exact hpn), List.getElem?_eq_getElem _⟩
      obtain ⟨⟨yk, yl, yc⟩, hy⟩ : ∃ x, es[q]? = some x := ⟨es[q]'(by rw [hr.1]; exact hqn), List.getElem?_eq_getElem _⟩
      obtain ⟨x0, x1, x2⟩ := hr.cells p _ hx
      obtain ⟨y0, y1, y2⟩ := hr.cells q _ hy
      simp only at x0 x1 x2 y0 y1 y2
      have hp1 : (p : Int) < (n : Int) := by omega
      have hq1 : (q : Int) < (n : Int) := by omega
      have hp0 : (0 : Int) ≤ (p : Int) := by omega
      have hq0 : (0 : Int) ≤ (q : Int) := by omega
      have fz := fun i => World.ownsRow.frozenAt hr.2 i
      have hpq : p ≠ q := by omega
      have n00 : ¬ p * 3 = q * 3 := by omega
      have m00 : ¬ q * 3 = p * 3 := by omega
      have n01 : ¬ p * 3 = q * 3 + 1 := by omega
      have m01 : ¬ q * 3 + 1 = p * 3 := by omega
      have n02 : ¬ p * 3 = q * 3 + 2 := by omega
      have m02 : ¬ q * 3 + 2 = p * 3 := by omega
      have n10 : ¬ p * 3 + 1 = q * 3 := by omega
      have m10 : ¬ q * 3 = p * 3 + 1 := by omega
      have n11 : ¬ p * 3 + 1 = q * 3 + 1 := by omega
      have m11 : ¬ q * 3 + 1 = p * 3 + 1 := by omega
      have n12 : ¬ p * 3 + 1 = q * 3 + 2 := by omega
      have m12 : ¬ q * 3 + 2 = p * 3 + 1 := by omega
      have n20 : ¬ p * 3 + 2 = q * 3 := by omega
      have m20 : ¬ q * 3 = p * 3 + 2 := by omega
      have n21 : ¬ p * 3 + 2 = q * 3 + 1 := by omega
      have m21 : ¬ q * 3 + 1 = p * 3 + 2 := by omega
      have n22 : ¬ p * 3 + 2 = q * 3 + 2 := by omega
      have m22 : ¬ q * 3 + 2 = p * 3 + 2 := by omega
      have HR := Lib.hid (hr.swp p q _ _ hx hy)
      have HB2 := Lib.hid (fun o0 o1 o2 o3 o4 o5 v0 v1 v2 v3 v4 v5 => below_six HBL.out hr.base o0 o1 o2 o3 o4 o5 v0 v1 v2 v3 v4 v5)
      have HPQ := Lib.hid (And.intro hp hq)
      clear hr hx hy hp hq h hpq
      go_wp2_with fail
      go_region
      go_wp2_with fail
      go_roundw
      case rel =>
        refine ⟨j + 1, _, by omega, by go_num, HR.out, ?_, HB2.out _ _ _ _ _ _ _ _ _ _ _ _⟩
        obtain ⟨e1, e2⟩ := HPQ.out
        rw [swps, ← HES.out, e1, e2]
      case measure => simp [intOf]; omega
    · obtain rfl : j = m := by omega
      have HR := Lib.hid hr
      clear hr h
      go_wp2_with fail
      go_end0
      exact ⟨rfl, HES.out ▸ HR.out, HBL.out⟩
end Go.Proofs.YtalopkplpbdgjaaDoor
