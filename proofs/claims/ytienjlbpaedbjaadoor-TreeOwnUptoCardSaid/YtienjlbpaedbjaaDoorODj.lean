/- The document's own answer for documents: what a node of a kind has of another one. The document's own answer for documents: own, the walk. -/
import Derived.Test.YtienjlbpaedbjaaDoorODh
namespace Go.Proofs.YtienjlbpaedbjaaDoor
open Go.RowKit

/-- 'min' of two numbers, kept whole. -/
noncomputable def mnS (args : Array Value) : Sem Next := do pure (.value (← Builtin.min_ #[3, 3] 3 args))
theorem builtin_mnS (cs : Array Bool) (args : Array Value) : builtin .min #[3, 3] 3 cs args = mnS args := rfl
theorem mnS_run (x y z : Int) (hz : (if y < x then y else x) = z) (w : World) : (mnS #[.int .i64 x, .int .i64 y]).run Tryd.prog w = .ok (.value (.int .i64 z)) w := by
  unfold mnS
  simp only [Sem.run_bind, Sem.run_pure, run_min_int2, Result.andThen_ok, hz]
def zNd : List Value := [.int .i64 0, .int .i64 0, .int .i64 0, .slice none 0 0, .slice none 0 0, .slice none 0 0, .string ⟨#[]⟩, .slice none 0 0, .bool false, .bool false]
/-- A node, of some kind and line, that is made. -/
def nv0 (k l : Int) : NV := ⟨k, l, 0, (none, 0, 0), (none, 0, 0), (none, 0, 0), [], (none, 0, 0), false, false⟩
/-- own's three nodes. -/
structure OS (w : World) (x : NV) (W : World) (y : NV) : Prop where
  bel : Below w.heap.size w W
  box : Blk W w.heap.size 39 (ncell x)
  res : Blk W (w.heap.size + 1) 39 zNd
  y : Blk W (w.heap.size + 1 + 1) 39 (ncell y)
section
variable {w W W' : World} {x y y' : NV}
theorem OS.keep (h : OS w x W y) (hb : Below W.heap.size W W') : OS w x W' y := ⟨h.bel.trans (hb.mono h.bel.size), h.box.below hb, h.res.below hb, h.y.below hb⟩
theorem OS.set (h : OS w x W y) (j : Nat) (v : Value) (hy : (ncell y).set j v = ncell y') : OS w x (W.setCell ⟨w.heap.size + 1 + 1, j, none⟩ v) y' :=
  ⟨h.bel.setCell (by show w.heap.size ≤ w.heap.size + 1 + 1; omega) _, h.box.other (by omega) _ _, h.res.other (by omega) _ _, hy ▸ h.y.set j v⟩
end
/-- Ten cells of a block, one by one. -/
def set10 (W : World) (g : Nat) (x : NV) : World :=
  ((((((((((W.setCell ⟨g, 0, none⟩ (.int .i64 x.kind)).setCell ⟨g, 1, none⟩ (.int .i64 x.line)).setCell ⟨g, 2, none⟩ (.int .i64 x.n)).setCell ⟨g, 3, none⟩ (pv x.text)).setCell ⟨g, 4, none⟩ (pv x.kids)).setCell ⟨g, 5, none⟩ (pv x.rows)).setCell ⟨g, 6, none⟩ (.string ⟨x.cols.toArray⟩)).setCell ⟨g, 7, none⟩ (pv x.trows)).setCell ⟨g, 8, none⟩ (.bool x.box)).setCell ⟨g, 9, none⟩ (.bool x.all))
theorem set10_heap (W : World) (g : Nat) (x : NV) {k : Nat} (h : k ≠ g) : (set10 W g x).heap[k]? = W.heap[k]? := by
  unfold set10
  simp only [Below.heap_setCell _ (⟨g, _, none⟩ : Addr) _ k h]
theorem set10_size (W : World) (g : Nat) (x : NV) : (set10 W g x).heap.size = W.heap.size := by simp [set10, World.setCell]
theorem set10_blk {W : World} {g : Nat} {e : TypeId} {a0 a1 a2 a3 a4 a5 a6 a7 a8 a9 : Value} (h : Blk W g e [a0, a1, a2, a3, a4, a5, a6, a7, a8, a9]) (x : NV) : Blk (set10 W g x) g e (ncell x) :=
  (((((((((h.set 0 _).set 1 _).set 2 _).set 3 _).set 4 _).set 5 _).set 6 _).set 7 _).set 8 _).set 9 _
theorem set10_below {D : Nat} {a W : World} (h : Below D a W) {g : Nat} (hg : D ≤ g) (x : NV) : Below D a (set10 W g x) :=
  (((((((((h.setCell hg _).setCell hg _).setCell hg _).setCell hg _).setCell hg _).setCell hg _).setCell hg _).setCell hg _).setCell hg _).setCell hg _
/-- What own leaves: the result's cells, all else as it stood. -/
theorem OS.fin {w W : World} {x y : NV} (h : OS w x W y) : Below w.heap.size w (set10 W (w.heap.size + 1) y) ∧ Blk (set10 W (w.heap.size + 1) y) (w.heap.size + 1) 39 (ncell y) ∧
    (∀ b, b ≠ w.heap.size + 1 → (set10 W (w.heap.size + 1) y).heap[b]? = W.heap[b]?) ∧ (set10 W (w.heap.size + 1) y).heap.size = W.heap.size :=
  ⟨set10_below h.bel (by omega) _, set10_blk h.res _, fun b hb => set10_heap _ _ _ hb, set10_size _ _ _⟩
/-- Blocks that are no node's keep. -/
theorem kp_lit {w W W' : World} {S : Nat → Prop} (hS : ∀ b, S b → b < w.heap.size) (h : Below w.heap.size W W') : Kp S W W' := fun b hb => h.block b (hS b hb)
/-- A block of another kind is none of own's nodes. -/
theorem OS.apart {w W : World} {x y : NV} (h : OS w x W y) {b : Nat} {cur : Array Value} {e : TypeId} {fz : Nat × Nat} (hb : W.heap[b]? = some (.cells cur e fz)) (he : e ≠ 39) : b ≠ w.heap.size + 1 ∧ b ≠ w.heap.size + 1 + 1 := by
  constructor
  · rintro rfl
    have h1 : W.heap[w.heap.size + 1]? = _ := h.res
    rw [h1] at hb
    injection hb with hb
    injection hb with _ h2
    exact he h2.symm
  · rintro rfl
    have h1 : W.heap[w.heap.size + 1 + 1]? = _ := h.y
    rw [h1] at hb
    injection hb with hb
    injection hb with _ h2
    exact he h2.symm
end Go.Proofs.YtienjlbpaedbjaaDoor
namespace Go.Proofs.YtienjlbpaedbjaaDoor
open Go.RowKit
attribute [local go_sem ↓ high] builtin_mxS builtin_mnS

theorem szset (W : World) (a : Addr) (v : Value) : (W.setCell a v).heap.size = W.heap.size := by simp [World.setCell]
theorem clip_run (lo hi x : Int) : (if (if hi < x then hi else x) > lo then (if hi < x then hi else x) else lo) = clipI lo hi x := by
  unfold clipI
  repeat' split
  all_goals omega
set_option maxRecDepth 100000 in
set_option maxHeartbeats 16000000 in
theorem rown_any (S : Nat → Prop) (x : NV) (h : Hd) (k : Int) (w : World) (hh : HdIs S w x h) (hl : hdl h ≤ 90000) (hS : ∀ b, S b → b < w.heap.size) :
    Calls Tryd.prog 66 #[.agg (ncell x).toArray, .int .i64 k] w fun e w' => ∃ y : NV, e = .returned (.agg (ncell y).toArray) ∧ y.kids = (none, 0, 0) ∧ HdIs (fun b => S b ∨ (w.heap.size ≤ b ∧ b < w'.heap.size)) w' y (ownH h k) ∧ Below w.heap.size w w' := by
  have HH := Lib.hid hh
  have HS := Lib.hid hS
  have hdd : hdl h = 3 + h.text.length + h.grid.cols.length + (h.rows.length + lens h.rows) + trls h.grid.rows := rfl
  rw [hdd] at hl
  clear hh hS hdd
  obtain ⟨xk, xl, xn, ⟨t1, t2, t3⟩, ⟨s1, s2, s3⟩, ⟨r1, r2, r3⟩, co, ⟨q1, q2, q3⟩, xb, xa⟩ := x
  obtain ⟨L, hL⟩ : ∃ L, clipI 0 1099511627775 xl = L := ⟨_, rfl⟩
  obtain ⟨M0, hM0⟩ : ∃ M, (if (1099511627775 : Int) < xl then (1099511627775 : Int) else xl) = M := ⟨_, rfl⟩
  have m0 := fun w => mnS_run xl 1099511627775 M0 hM0 w
  have m1 := fun w => mxS_run 0 M0 L (by rw [← hM0, clip_run, hL]) w
  have HO : Hid (OS w ⟨xk, xl, xn, (t1, t2, t3), (s1, s2, s3), (r1, r2, r3), co, (q1, q2, q3), xb, xa⟩
      (((w.alloc (.cells (ncell ⟨xk, xl, xn, (t1, t2, t3), (s1, s2, s3), (r1, r2, r3), co, (q1, q2, q3), xb, xa⟩).toArray 39)).alloc (.cells zNd.toArray 39)).alloc (.cells (ncell (nv0 k L)).toArray 39)) (nv0 k L)) := Lib.hid (by
    obtain ⟨W0, hW0⟩ : ∃ W, W = (w.alloc (.cells (ncell ⟨xk, xl, xn, (t1, t2, t3), (s1, s2, s3), (r1, r2, r3), co, (q1, q2, q3), xb, xa⟩).toArray 39)).alloc (.cells zNd.toArray 39) := ⟨_, rfl⟩
    obtain ⟨bl, h1, h2⟩ := two_lits w _ _ W0 hW0
    rw [← hW0]
    have hz : W0.heap.size = w.heap.size + 2 := by rw [hW0, World.size_alloc, World.size_alloc]
    have b := below_lit W0 (.cells (ncell (nv0 k L)).toArray 39)
    refine ⟨bl.trans (b.mono bl.size), h1.below b, h2.below b, ?_⟩
    rw [← hz]
    exact heap_alloc_new W0 _)
  obtain ⟨W0, hW0⟩ : ∃ W, W = (((w.alloc (.cells (ncell ⟨xk, xl, xn, (t1, t2, t3), (s1, s2, s3), (r1, r2, r3), co, (q1, q2, q3), xb, xa⟩).toArray 39)).alloc (.cells zNd.toArray 39)).alloc (.cells (ncell (nv0 k L)).toArray 39)) := ⟨_, rfl⟩
  rw [← hW0] at HO
  have hz0 : W0.heap.size = w.heap.size + 1 + 1 + 1 := by rw [hW0, World.size_alloc, World.size_alloc, World.size_alloc]
  have HI4 := Lib.hid (fun W => rin1234 k W)
  have HI5 := Lib.hid (fun W => rin45 k W)
  rw [c1234] at HI4
  rw [c45] at HI5
  have HI40 := HI4.out W0
  rw [hz0, hW0] at HI40
  have H0 := Lib.hid hW0
  have HZ0 := Lib.hid hz0
  clear hW0 hz0
  unfold ncell nv0 zNd pv at HI40 H0
  unfold ncell pv
  simp only at HI40 H0 ⊢
  have HI0 := Lib.hid HI40
  clear HI40 hM0
  go_enter Tryd.func66, Tryd.ntmps66
  by_cases hA : 1 ≤ k ∧ k ≤ 3
  · rw [decide_eq_true (show 1 ≤ k ∧ k ≤ 4 by omega)] at HI0
    rw [decide_eq_false (show ¬ (k = 4 ∨ k = 5) by omega)] at HI5
    have n6 : (k == 6) = false := by simp; omega
    have n7 : (k == 7) = false := by simp; omega
    have HKD := Lib.hid hA
    clear hA
    go_wp2_with fail
    refine HI0.out.mono ?_
    rintro e w1 ⟨rfl, hw1⟩
    have HO1 : Hid (OS w ⟨xk, xl, xn, (t1, t2, t3), (s1, s2, s3), (r1, r2, r3), co, (q1, q2, q3), xb, xa⟩ w1 ⟨k, L, 0, (none, 0, 0), (none, 0, 0), (none, 0, 0), [], (none, 0, 0), false, false⟩) := Lib.hid (by rw [hw1, ← H0.out]; exact HO.out.keep (below_lit W0 _))
    clear hw1 HI0 HO H0 HZ0 m0 m1
    have c3 : w1.cell? ⟨w.heap.size, 3, none⟩ = some (.slice t1 t2 t3) := HO1.out.box.cell 3
    have hT : Gs w1 (.slice t1 t2 t3) h.text := (HH.out.text.keep (kp_lit HS.out HO1.out.bel)).1
    have HSQ := Lib.hid (rsqueeze_any h.text _ w1 hT (by omega))
    clear hT
    go_wp2_with fail
    refine HSQ.out.mono ?_
    rintro e w2 ⟨u, rfl, hu, b2⟩
    obtain ⟨ua, uc, hue⟩ := (FOwn.sl gcell_len hu).len
    obtain ⟨um, hum⟩ : ∃ m, (sqz h.text).length = m := ⟨_, rfl⟩
    rw [hum] at hue
    subst hue
    have HO2 := Lib.hid (HO1.out.keep b2)
    have HB1 := Lib.hid HO1.out.bel.size
    have HU2 := Lib.hid hu
    have f3 : w2.frozen? ⟨w.heap.size + 1 + 1, 3, none⟩ = false := HO2.out.y.frozen (by simp [ncell])
    have g3 : w2.cell? ⟨w.heap.size + 1 + 1, 3, none⟩ = some (.slice none 0 0) := HO2.out.y.cell 3
    have hI := HI5.out (w2.setCell ⟨w.heap.size + 1 + 1, 3, none⟩ (.slice ua um uc))
    rw [szset] at hI
    have HI := Lib.hid hI
    clear hI hu hum b2 HSQ c3
    go_wp2_with fail
    refine HI.out.mono ?_
    rintro e w3 ⟨rfl, hw3⟩
    have HO3 : Hid (OS w ⟨xk, xl, xn, (t1, t2, t3), (s1, s2, s3), (r1, r2, r3), co, (q1, q2, q3), xb, xa⟩ w3 ⟨k, L, 0, (ua, um, uc), (none, 0, 0), (none, 0, 0), [], (none, 0, 0), false, false⟩) := Lib.hid (by rw [hw3]; exact (HO2.out.set (y' := ⟨k, L, 0, (ua, um, uc), (none, 0, 0), (none, 0, 0), [], (none, 0, 0), false, false⟩) 3 (.slice ua um uc) rfl).keep (below_lit _ _))
    have HU3 : Hid (GOwn w1.heap.size w3 (.slice ua um uc) (sqz h.text)) := Lib.hid (by rw [hw3]; exact (HU2.out.sam (SamT.set HO2.out.y (by decide) 3 _)).keep (below_lit _ _))
    clear hw3 HI HU2 HO2 f3 g3
    have HO4 := HO3
    have y0 : w3.cell? ⟨w.heap.size + 1 + 1, 0, none⟩ = some (.int .i64 k) := HO4.out.y.cell 0
    have z0 : w3.cell? ⟨w.heap.size + 1, 0, none⟩ = some (.int .i64 0) := HO4.out.res.cell 0
    have v0 : w3.frozen? ⟨w.heap.size + 1, 0, none⟩ = false := HO4.out.res.frozen (by simp [zNd])
    have y1 : w3.cell? ⟨w.heap.size + 1 + 1, 1, none⟩ = some (.int .i64 L) := HO4.out.y.cell 1
    have z1 : w3.cell? ⟨w.heap.size + 1, 1, none⟩ = some (.int .i64 0) := HO4.out.res.cell 1
    have v1 : w3.frozen? ⟨w.heap.size + 1, 1, none⟩ = false := HO4.out.res.frozen (by simp [zNd])
    have y2 : w3.cell? ⟨w.heap.size + 1 + 1, 2, none⟩ = some (.int .i64 0) := HO4.out.y.cell 2
    have z2 : w3.cell? ⟨w.heap.size + 1, 2, none⟩ = some (.int .i64 0) := HO4.out.res.cell 2
    have v2 : w3.frozen? ⟨w.heap.size + 1, 2, none⟩ = false := HO4.out.res.frozen (by simp [zNd])
    have y3 : w3.cell? ⟨w.heap.size + 1 + 1, 3, none⟩ = some (.slice ua um uc) := HO4.out.y.cell 3
    have z3 : w3.cell? ⟨w.heap.size + 1, 3, none⟩ = some (.slice none 0 0) := HO4.out.res.cell 3
    have v3 : w3.frozen? ⟨w.heap.size + 1, 3, none⟩ = false := HO4.out.res.frozen (by simp [zNd])
    have y4 : w3.cell? ⟨w.heap.size + 1 + 1, 4, none⟩ = some (.slice none 0 0) := HO4.out.y.cell 4
    have z4 : w3.cell? ⟨w.heap.size + 1, 4, none⟩ = some (.slice none 0 0) := HO4.out.res.cell 4
    have v4 : w3.frozen? ⟨w.heap.size + 1, 4, none⟩ = false := HO4.out.res.frozen (by simp [zNd])
    have y5 : w3.cell? ⟨w.heap.size + 1 + 1, 5, none⟩ = some (.slice none 0 0) := HO4.out.y.cell 5
    have z5 : w3.cell? ⟨w.heap.size + 1, 5, none⟩ = some (.slice none 0 0) := HO4.out.res.cell 5
    have v5 : w3.frozen? ⟨w.heap.size + 1, 5, none⟩ = false := HO4.out.res.frozen (by simp [zNd])
    have y6 : w3.cell? ⟨w.heap.size + 1 + 1, 6, none⟩ = some (.string ⟨#[]⟩) := HO4.out.y.cell 6
    have z6 : w3.cell? ⟨w.heap.size + 1, 6, none⟩ = some (.string ⟨#[]⟩) := HO4.out.res.cell 6
    have v6 : w3.frozen? ⟨w.heap.size + 1, 6, none⟩ = false := HO4.out.res.frozen (by simp [zNd])
    have y7 : w3.cell? ⟨w.heap.size + 1 + 1, 7, none⟩ = some (.slice none 0 0) := HO4.out.y.cell 7
    have z7 : w3.cell? ⟨w.heap.size + 1, 7, none⟩ = some (.slice none 0 0) := HO4.out.res.cell 7
    have v7 : w3.frozen? ⟨w.heap.size + 1, 7, none⟩ = false := HO4.out.res.frozen (by simp [zNd])
    have y8 : w3.cell? ⟨w.heap.size + 1 + 1, 8, none⟩ = some (.bool false) := HO4.out.y.cell 8
    have z8 : w3.cell? ⟨w.heap.size + 1, 8, none⟩ = some (.bool false) := HO4.out.res.cell 8
    have v8 : w3.frozen? ⟨w.heap.size + 1, 8, none⟩ = false := HO4.out.res.frozen (by simp [zNd])
    have y9 : w3.cell? ⟨w.heap.size + 1 + 1, 9, none⟩ = some (.bool false) := HO4.out.y.cell 9
    have z9 : w3.cell? ⟨w.heap.size + 1, 9, none⟩ = some (.bool false) := HO4.out.res.cell 9
    have v9 : w3.frozen? ⟨w.heap.size + 1, 9, none⟩ = false := HO4.out.res.frozen (by simp [zNd])
    obtain ⟨hbel, hblk, hoth, hsz⟩ := HO4.out.fin
    have k0 := hblk
    have HF := Lib.hid (And.intro hbel (And.intro hblk (And.intro hoth hsz)))
    clear hbel hblk hoth hsz k0 HI4 HI5
    go_wp2_with fail
    have hblk := HF.out.2.1
    have k0 := hblk.cell 0
    have k1 := hblk.cell 1
    have k2 := hblk.cell 2
    have k3 := hblk.cell 3
    have k4 := hblk.cell 4
    have k5 := hblk.cell 5
    have k6 := hblk.cell 6
    have k7 := hblk.cell 7
    have k8 := hblk.cell 8
    have k9 := hblk.cell 9
    unfold set10 at k0 k1 k2 k3 k4 k5 k6 k7 k8 k9
    simp [ncell, pv] at k0 k1 k2 k3 k4 k5 k6 k7 k8 k9
    refine bodyPost_ret (v := .agg #[.int .i64 k, .int .i64 L, .int .i64 0, .slice ua um uc, .slice none 0 0, .slice none 0 0, .string ⟨#[]⟩, .slice none 0 0, .bool false, .bool false]) (by simp [results, Tryd.results66, go_sem, k0, k1, k2, k3, k4, k5, k6, k7, k8, k9]) rfl ?_
    refine ⟨⟨k, L, 0, (ua, um, uc), (none, 0, 0), (none, 0, 0), [], (none, 0, 0), false, false⟩, rfl, rfl, ?_, HF.out.1⟩
    have hHH := HH.out
    obtain ⟨hbel, -, hoth, hsz⟩ := HF.out
    refine ⟨rfl, (show L = clipI 0 1099511627775 h.line from hL.symm.trans (congrArg (clipI 0 1099511627775) hHH.line)), ?_, ?_, ?_, ?_, ?_, ?_, ?_⟩
    · show (0 : Int) = if k = 4 ∨ k = 5 then clipI 0 200 h.n else 0
      rw [if_neg (by have := HKD.out; omega)]
    · show FsS _ 2 gcell _ (pv (ua, um, uc)) (if 1 ≤ (k : Int) ∧ (k : Int) ≤ 4 then sqz h.text else [])
      rw [if_pos (by have := HKD.out; omega)]
      have hf := own_foot gcell_len HU3.out
      have key : ∀ b, (w1.heap.size ≤ b ∧ ∃ cur fz, w3.heap[b]? = some (.cells cur 50 fz)) → b ≠ w.heap.size + 1 ∧ b ≠ w.heap.size + 1 + 1 := fun b ⟨_, cur, fz, hb⟩ => HO3.out.apart hb (by decide)
      refine (hf.keep (fun b hb => hoth b (key b hb).1)).mono (fun b hb => .inr ⟨Nat.le_trans HB1.out hb.1, ?_⟩)
      obtain ⟨-, cur, fz, hb⟩ := hb
      exact Nat.lt_of_lt_of_eq (Array.getElem?_eq_some_iff.1 hb).1 hsz.symm
    · show GrS _ _ (pv (none, 0, 0)) (if (k : Int) = 6 then h.rows else [])
      rw [if_neg (by have := HKD.out; omega)]
      exact GrS.nil _ _
    · show ([] : List UInt8) = (if (k : Int) = 7 then mend h.grid else noGrid).cols
      rw [if_neg (by have := HKD.out; omega)]
      rfl
    · show TrS _ _ (pv (none, 0, 0)) (if (k : Int) = 7 then mend h.grid else noGrid).rows
      rw [if_neg (by have := HKD.out; omega)]
      exact TrS.nil _ _
    · show false = (if (k : Int) = 7 then mend h.grid else noGrid).box
      rw [if_neg (by have := HKD.out; omega)]
      rfl
    · show false = (if (k : Int) = 7 then mend h.grid else noGrid).all
      rw [if_neg (by have := HKD.out; omega)]
      rfl
  · by_cases h4 : k = 4
    · subst h4
      rw [decide_eq_true (by decide)] at HI0
      rw [decide_eq_true (by decide)] at HI5
      clear hA
      go_wp2_with fail
      refine HI0.out.mono ?_
      rintro e w1 ⟨rfl, hw1⟩
      have HO1 : Hid (OS w ⟨xk, xl, xn, (t1, t2, t3), (s1, s2, s3), (r1, r2, r3), co, (q1, q2, q3), xb, xa⟩ w1 ⟨4, L, 0, (none, 0, 0), (none, 0, 0), (none, 0, 0), [], (none, 0, 0), false, false⟩) := Lib.hid (by rw [hw1, ← H0.out]; exact HO.out.keep (below_lit W0 _))
      clear hw1 HI0 HO H0 HZ0 m0 m1
      have c3 : w1.cell? ⟨w.heap.size, 3, none⟩ = some (.slice t1 t2 t3) := HO1.out.box.cell 3
      have hT : Gs w1 (.slice t1 t2 t3) h.text := (HH.out.text.keep (kp_lit HS.out HO1.out.bel)).1
      have HSQ := Lib.hid (rsqueeze_any h.text _ w1 hT (by omega))
      clear hT
      go_wp2_with fail
      refine HSQ.out.mono ?_
      rintro e w2 ⟨u, rfl, hu, b2⟩
      obtain ⟨ua, uc, hue⟩ := (FOwn.sl gcell_len hu).len
      obtain ⟨um, hum⟩ : ∃ m, (sqz h.text).length = m := ⟨_, rfl⟩
      rw [hum] at hue
      subst hue
      have HO2 := Lib.hid (HO1.out.keep b2)
      have HB1 := Lib.hid HO1.out.bel.size
      have HU2 := Lib.hid hu
      have f3 : w2.frozen? ⟨w.heap.size + 1 + 1, 3, none⟩ = false := HO2.out.y.frozen (by simp [ncell])
      have g3 : w2.cell? ⟨w.heap.size + 1 + 1, 3, none⟩ = some (.slice none 0 0) := HO2.out.y.cell 3
      have hI := HI5.out (w2.setCell ⟨w.heap.size + 1 + 1, 3, none⟩ (.slice ua um uc))
      rw [szset] at hI
      have HI := Lib.hid hI
      clear hI hu hum b2 HSQ c3
      go_wp2_with fail
      refine HI.out.mono ?_
      rintro e w3 ⟨rfl, hw3⟩
      have HO3 : Hid (OS w ⟨xk, xl, xn, (t1, t2, t3), (s1, s2, s3), (r1, r2, r3), co, (q1, q2, q3), xb, xa⟩ w3 ⟨4, L, 0, (ua, um, uc), (none, 0, 0), (none, 0, 0), [], (none, 0, 0), false, false⟩) := Lib.hid (by rw [hw3]; exact (HO2.out.set (y' := ⟨4, L, 0, (ua, um, uc), (none, 0, 0), (none, 0, 0), [], (none, 0, 0), false, false⟩) 3 (.slice ua um uc) rfl).keep (below_lit _ _))
      have HU3 : Hid (GOwn w1.heap.size w3 (.slice ua um uc) (sqz h.text)) := Lib.hid (by rw [hw3]; exact (HU2.out.sam (SamT.set HO2.out.y (by decide) 3 _)).keep (below_lit _ _))
      clear hw3 HI HU2 HO2 f3 g3
      have c2 : w3.cell? ⟨w.heap.size, 2, none⟩ = some (.int .i64 xn) := HO3.out.box.cell 2
      obtain ⟨N, hN⟩ : ∃ N, clipI 0 200 xn = N := ⟨_, rfl⟩
      obtain ⟨N0, hN0⟩ : ∃ M, (if (200 : Int) < xn then (200 : Int) else xn) = M := ⟨_, rfl⟩
      have m2 := fun w => mnS_run xn 200 N0 hN0 w
      have m3 := fun w => mxS_run 0 N0 N (by rw [← hN0, clip_run, hN]) w
      have f2 : w3.frozen? ⟨w.heap.size + 1 + 1, 2, none⟩ = false := HO3.out.y.frozen (by simp [ncell])
      have g2 : w3.cell? ⟨w.heap.size + 1 + 1, 2, none⟩ = some (.int .i64 0) := HO3.out.y.cell 2
      have HNN := Lib.hid hN
      clear hN hN0
      have HO4 := Lib.hid (HO3.out.set (y' := ⟨4, L, N, (ua, um, uc), (none, 0, 0), (none, 0, 0), [], (none, 0, 0), false, false⟩) 2 (.int .i64 N) rfl)
      have y0 : (w3.setCell ⟨w.heap.size + 1 + 1, 2, none⟩ (.int .i64 N)).cell? ⟨w.heap.size + 1 + 1, 0, none⟩ = some (.int .i64 4) := HO4.out.y.cell 0
      have z0 : (w3.setCell ⟨w.heap.size + 1 + 1, 2, none⟩ (.int .i64 N)).cell? ⟨w.heap.size + 1, 0, none⟩ = some (.int .i64 0) := HO4.out.res.cell 0
      have v0 : (w3.setCell ⟨w.heap.size + 1 + 1, 2, none⟩ (.int .i64 N)).frozen? ⟨w.heap.size + 1, 0, none⟩ = false := HO4.out.res.frozen (by simp [zNd])
      have y1 : (w3.setCell ⟨w.heap.size + 1 + 1, 2, none⟩ (.int .i64 N)).cell? ⟨w.heap.size + 1 + 1, 1, none⟩ = some (.int .i64 L) := HO4.out.y.cell 1
      have z1 : (w3.setCell ⟨w.heap.size + 1 + 1, 2, none⟩ (.int .i64 N)).cell? ⟨w.heap.size + 1, 1, none⟩ = some (.int .i64 0) := HO4.out.res.cell 1
      have v1 : (w3.setCell ⟨w.heap.size + 1 + 1, 2, none⟩ (.int .i64 N)).frozen? ⟨w.heap.size + 1, 1, none⟩ = false := HO4.out.res.frozen (by simp [zNd])
      have y2 : (w3.setCell ⟨w.heap.size + 1 + 1, 2, none⟩ (.int .i64 N)).cell? ⟨w.heap.size + 1 + 1, 2, none⟩ = some (.int .i64 N) := HO4.out.y.cell 2
      have z2 : (w3.setCell ⟨w.heap.size + 1 + 1, 2, none⟩ (.int .i64 N)).cell? ⟨w.heap.size + 1, 2, none⟩ = some (.int .i64 0) := HO4.out.res.cell 2
      have v2 : (w3.setCell ⟨w.heap.size + 1 + 1, 2, none⟩ (.int .i64 N)).frozen? ⟨w.heap.size + 1, 2, none⟩ = false := HO4.out.res.frozen (by simp [zNd])
      have y3 : (w3.setCell ⟨w.heap.size + 1 + 1, 2, none⟩ (.int .i64 N)).cell? ⟨w.heap.size + 1 + 1, 3, none⟩ = some (.slice ua um uc) := HO4.out.y.cell 3
      have z3 : (w3.setCell ⟨w.heap.size + 1 + 1, 2, none⟩ (.int .i64 N)).cell? ⟨w.heap.size + 1, 3, none⟩ = some (.slice none 0 0) := HO4.out.res.cell 3
      have v3 : (w3.setCell ⟨w.heap.size + 1 + 1, 2, none⟩ (.int .i64 N)).frozen? ⟨w.heap.size + 1, 3, none⟩ = false := HO4.out.res.frozen (by simp [zNd])
      have y4 : (w3.setCell ⟨w.heap.size + 1 + 1, 2, none⟩ (.int .i64 N)).cell? ⟨w.heap.size + 1 + 1, 4, none⟩ = some (.slice none 0 0) := HO4.out.y.cell 4
      have z4 : (w3.setCell ⟨w.heap.size + 1 + 1, 2, none⟩ (.int .i64 N)).cell? ⟨w.heap.size + 1, 4, none⟩ = some (.slice none 0 0) := HO4.out.res.cell 4
      have v4 : (w3.setCell ⟨w.heap.size + 1 + 1, 2, none⟩ (.int .i64 N)).frozen? ⟨w.heap.size + 1, 4, none⟩ = false := HO4.out.res.frozen (by simp [zNd])
      have y5 : (w3.setCell ⟨w.heap.size + 1 + 1, 2, none⟩ (.int .i64 N)).cell? ⟨w.heap.size + 1 + 1, 5, none⟩ = some (.slice none 0 0) := HO4.out.y.cell 5
      have z5 : (w3.setCell ⟨w.heap.size + 1 + 1, 2, none⟩ (.int .i64 N)).cell? ⟨w.heap.size + 1, 5, none⟩ = some (.slice none 0 0) := HO4.out.res.cell 5
      have v5 : (w3.setCell ⟨w.heap.size + 1 + 1, 2, none⟩ (.int .i64 N)).frozen? ⟨w.heap.size + 1, 5, none⟩ = false := HO4.out.res.frozen (by simp [zNd])
      have y6 : (w3.setCell ⟨w.heap.size + 1 + 1, 2, none⟩ (.int .i64 N)).cell? ⟨w.heap.size + 1 + 1, 6, none⟩ = some (.string ⟨#[]⟩) := HO4.out.y.cell 6
      have z6 : (w3.setCell ⟨w.heap.size + 1 + 1, 2, none⟩ (.int .i64 N)).cell? ⟨w.heap.size + 1, 6, none⟩ = some (.string ⟨#[]⟩) := HO4.out.res.cell 6
      have v6 : (w3.setCell ⟨w.heap.size + 1 + 1, 2, none⟩ (.int .i64 N)).frozen? ⟨w.heap.size + 1, 6, none⟩ = false := HO4.out.res.frozen (by simp [zNd])
      have y7 : (w3.setCell ⟨w.heap.size + 1 + 1, 2, none⟩ (.int .i64 N)).cell? ⟨w.heap.size + 1 + 1, 7, none⟩ = some (.slice none 0 0) := HO4.out.y.cell 7
      have z7 : (w3.setCell ⟨w.heap.size + 1 + 1, 2, none⟩ (.int .i64 N)).cell? ⟨w.heap.size + 1, 7, none⟩ = some (.slice none 0 0) := HO4.out.res.cell 7
      have v7 : (w3.setCell ⟨w.heap.size + 1 + 1, 2, none⟩ (.int .i64 N)).frozen? ⟨w.heap.size + 1, 7, none⟩ = false := HO4.out.res.frozen (by simp [zNd])
      have y8 : (w3.setCell ⟨w.heap.size + 1 + 1, 2, none⟩ (.int .i64 N)).cell? ⟨w.heap.size + 1 + 1, 8, none⟩ = some (.bool false) := HO4.out.y.cell 8
      have z8 : (w3.setCell ⟨w.heap.size + 1 + 1, 2, none⟩ (.int .i64 N)).cell? ⟨w.heap.size + 1, 8, none⟩ = some (.bool false) := HO4.out.res.cell 8
      have v8 : (w3.setCell ⟨w.heap.size + 1 + 1, 2, none⟩ (.int .i64 N)).frozen? ⟨w.heap.size + 1, 8, none⟩ = false := HO4.out.res.frozen (by simp [zNd])
      have y9 : (w3.setCell ⟨w.heap.size + 1 + 1, 2, none⟩ (.int .i64 N)).cell? ⟨w.heap.size + 1 + 1, 9, none⟩ = some (.bool false) := HO4.out.y.cell 9
      have z9 : (w3.setCell ⟨w.heap.size + 1 + 1, 2, none⟩ (.int .i64 N)).cell? ⟨w.heap.size + 1, 9, none⟩ = some (.bool false) := HO4.out.res.cell 9
      have v9 : (w3.setCell ⟨w.heap.size + 1 + 1, 2, none⟩ (.int .i64 N)).frozen? ⟨w.heap.size + 1, 9, none⟩ = false := HO4.out.res.frozen (by simp [zNd])
      obtain ⟨hbel, hblk, hoth, hsz⟩ := HO4.out.fin
      have k0 := hblk
      have HF := Lib.hid (And.intro hbel (And.intro hblk (And.intro hoth hsz)))
      clear hbel hblk hoth hsz k0 HI4 HI5
      go_wp2_with fail
      have hblk := HF.out.2.1
      have k0 := hblk.cell 0
      have k1 := hblk.cell 1
      have k2 := hblk.cell 2
      have k3 := hblk.cell 3
      have k4 := hblk.cell 4
      have k5 := hblk.cell 5
      have k6 := hblk.cell 6
      have k7 := hblk.cell 7
      have k8 := hblk.cell 8
      have k9 := hblk.cell 9
      unfold set10 at k0 k1 k2 k3 k4 k5 k6 k7 k8 k9
      simp [ncell, pv] at k0 k1 k2 k3 k4 k5 k6 k7 k8 k9
      refine bodyPost_ret (v := .agg #[.int .i64 4, .int .i64 L, .int .i64 N, .slice ua um uc, .slice none 0 0, .slice none 0 0, .string ⟨#[]⟩, .slice none 0 0, .bool false, .bool false]) (by simp [results, Tryd.results66, go_sem, k0, k1, k2, k3, k4, k5, k6, k7, k8, k9]) rfl ?_
      refine ⟨⟨4, L, N, (ua, um, uc), (none, 0, 0), (none, 0, 0), [], (none, 0, 0), false, false⟩, rfl, rfl, ?_, HF.out.1⟩
      have hHH := HH.out
      obtain ⟨hbel, -, hoth, hsz⟩ := HF.out
      refine ⟨rfl, (show L = clipI 0 1099511627775 h.line from hL.symm.trans (congrArg (clipI 0 1099511627775) hHH.line)), ?_, ?_, ?_, ?_, ?_, ?_, ?_⟩
      · show N = if (4 : Int) = 4 ∨ (4 : Int) = 5 then clipI 0 200 h.n else 0
        rw [if_pos (by decide), ← HNN.out]
        exact congrArg _ hHH.n
      · show FsS _ 2 gcell _ (pv (ua, um, uc)) (if 1 ≤ (4 : Int) ∧ (4 : Int) ≤ 4 then sqz h.text else [])
        rw [if_pos (by decide)]
        have hf := own_foot gcell_len HU3.out
        have key : ∀ b, (w1.heap.size ≤ b ∧ ∃ cur fz, w3.heap[b]? = some (.cells cur 50 fz)) → b ≠ w.heap.size + 1 ∧ b ≠ w.heap.size + 1 + 1 := fun b ⟨_, cur, fz, hb⟩ => HO3.out.apart hb (by decide)
        refine (hf.keep (fun b hb => (hoth b (key b hb).1).trans (Below.heap_setCell _ _ _ _ (key b hb).2))).mono (fun b hb => .inr ⟨Nat.le_trans HB1.out hb.1, ?_⟩)
        obtain ⟨-, cur, fz, hb⟩ := hb
        exact Nat.lt_of_lt_of_eq (Array.getElem?_eq_some_iff.1 hb).1 (hsz.trans (szset _ _ _)).symm
      · show GrS _ _ (pv (none, 0, 0)) (if (4 : Int) = 6 then h.rows else [])
        rw [if_neg (by decide)]
        exact GrS.nil _ _
      · show ([] : List UInt8) = (if (4 : Int) = 7 then mend h.grid else noGrid).cols
        rw [if_neg (by decide)]
        rfl
      · show TrS _ _ (pv (none, 0, 0)) (if (4 : Int) = 7 then mend h.grid else noGrid).rows
        rw [if_neg (by decide)]
        exact TrS.nil _ _
      · show false = (if (4 : Int) = 7 then mend h.grid else noGrid).box
        rw [if_neg (by decide)]
        rfl
      · show false = (if (4 : Int) = 7 then mend h.grid else noGrid).all
        rw [if_neg (by decide)]
        rfl
    · by_cases h5 : k = 5
      · subst h5
        rw [decide_eq_false (by decide)] at HI0
        rw [decide_eq_true (by decide)] at HI5
        clear hA h4
        go_wp2_with fail
        refine HI0.out.mono ?_
        rintro e w1 ⟨rfl, hw1⟩
        have HO1 : Hid (OS w ⟨xk, xl, xn, (t1, t2, t3), (s1, s2, s3), (r1, r2, r3), co, (q1, q2, q3), xb, xa⟩ w1 ⟨5, L, 0, (none, 0, 0), (none, 0, 0), (none, 0, 0), [], (none, 0, 0), false, false⟩) := Lib.hid (by rw [hw1, ← H0.out]; exact HO.out.keep (below_lit W0 _))
        clear hw1 HI0 HO H0 HZ0 m0 m1
        have hI := HI5.out w1
        have HI := Lib.hid hI
        clear hI
        go_wp2_with fail
        refine HI.out.mono ?_
        rintro e w3 ⟨rfl, hw3⟩
        have HO3 : Hid (OS w ⟨xk, xl, xn, (t1, t2, t3), (s1, s2, s3), (r1, r2, r3), co, (q1, q2, q3), xb, xa⟩ w3 ⟨5, L, 0, (none, 0, 0), (none, 0, 0), (none, 0, 0), [], (none, 0, 0), false, false⟩) := Lib.hid (by rw [hw3]; exact HO1.out.keep (below_lit _ _))
        clear hw3 HI
        have c2 : w3.cell? ⟨w.heap.size, 2, none⟩ = some (.int .i64 xn) := HO3.out.box.cell 2
        obtain ⟨N, hN⟩ : ∃ N, clipI 0 200 xn = N := ⟨_, rfl⟩
        obtain ⟨N0, hN0⟩ : ∃ M, (if (200 : Int) < xn then (200 : Int) else xn) = M := ⟨_, rfl⟩
        have m2 := fun w => mnS_run xn 200 N0 hN0 w
        have m3 := fun w => mxS_run 0 N0 N (by rw [← hN0, clip_run, hN]) w
        have f2 : w3.frozen? ⟨w.heap.size + 1 + 1, 2, none⟩ = false := HO3.out.y.frozen (by simp [ncell])
        have g2 : w3.cell? ⟨w.heap.size + 1 + 1, 2, none⟩ = some (.int .i64 0) := HO3.out.y.cell 2
        have HNN := Lib.hid hN
        clear hN hN0
        have HO4 := Lib.hid (HO3.out.set (y' := ⟨5, L, N, (none, 0, 0), (none, 0, 0), (none, 0, 0), [], (none, 0, 0), false, false⟩) 2 (.int .i64 N) rfl)
        have y0 : (w3.setCell ⟨w.heap.size + 1 + 1, 2, none⟩ (.int .i64 N)).cell? ⟨w.heap.size + 1 + 1, 0, none⟩ = some (.int .i64 5) := HO4.out.y.cell 0
        have z0 : (w3.setCell ⟨w.heap.size + 1 + 1, 2, none⟩ (.int .i64 N)).cell? ⟨w.heap.size + 1, 0, none⟩ = some (.int .i64 0) := HO4.out.res.cell 0
        have v0 : (w3.setCell ⟨w.heap.size + 1 + 1, 2, none⟩ (.int .i64 N)).frozen? ⟨w.heap.size + 1, 0, none⟩ = false := HO4.out.res.frozen (by simp [zNd])
        have y1 : (w3.setCell ⟨w.heap.size + 1 + 1, 2, none⟩ (.int .i64 N)).cell? ⟨w.heap.size + 1 + 1, 1, none⟩ = some (.int .i64 L) := HO4.out.y.cell 1
        have z1 : (w3.setCell ⟨w.heap.size + 1 + 1, 2, none⟩ (.int .i64 N)).cell? ⟨w.heap.size + 1, 1, none⟩ = some (.int .i64 0) := HO4.out.res.cell 1
        have v1 : (w3.setCell ⟨w.heap.size + 1 + 1, 2, none⟩ (.int .i64 N)).frozen? ⟨w.heap.size + 1, 1, none⟩ = false := HO4.out.res.frozen (by simp [zNd])
        have y2 : (w3.setCell ⟨w.heap.size + 1 + 1, 2, none⟩ (.int .i64 N)).cell? ⟨w.heap.size + 1 + 1, 2, none⟩ = some (.int .i64 N) := HO4.out.y.cell 2
        have z2 : (w3.setCell ⟨w.heap.size + 1 + 1, 2, none⟩ (.int .i64 N)).cell? ⟨w.heap.size + 1, 2, none⟩ = some (.int .i64 0) := HO4.out.res.cell 2
        have v2 : (w3.setCell ⟨w.heap.size + 1 + 1, 2, none⟩ (.int .i64 N)).frozen? ⟨w.heap.size + 1, 2, none⟩ = false := HO4.out.res.frozen (by simp [zNd])
        have y3 : (w3.setCell ⟨w.heap.size + 1 + 1, 2, none⟩ (.int .i64 N)).cell? ⟨w.heap.size + 1 + 1, 3, none⟩ = some (.slice none 0 0) := HO4.out.y.cell 3
        have z3 : (w3.setCell ⟨w.heap.size + 1 + 1, 2, none⟩ (.int .i64 N)).cell? ⟨w.heap.size + 1, 3, none⟩ = some (.slice none 0 0) := HO4.out.res.cell 3
        have v3 : (w3.setCell ⟨w.heap.size + 1 + 1, 2, none⟩ (.int .i64 N)).frozen? ⟨w.heap.size + 1, 3, none⟩ = false := HO4.out.res.frozen (by simp [zNd])
        have y4 : (w3.setCell ⟨w.heap.size + 1 + 1, 2, none⟩ (.int .i64 N)).cell? ⟨w.heap.size + 1 + 1, 4, none⟩ = some (.slice none 0 0) := HO4.out.y.cell 4
        have z4 : (w3.setCell ⟨w.heap.size + 1 + 1, 2, none⟩ (.int .i64 N)).cell? ⟨w.heap.size + 1, 4, none⟩ = some (.slice none 0 0) := HO4.out.res.cell 4
        have v4 : (w3.setCell ⟨w.heap.size + 1 + 1, 2, none⟩ (.int .i64 N)).frozen? ⟨w.heap.size + 1, 4, none⟩ = false := HO4.out.res.frozen (by simp [zNd])
        have y5 : (w3.setCell ⟨w.heap.size + 1 + 1, 2, none⟩ (.int .i64 N)).cell? ⟨w.heap.size + 1 + 1, 5, none⟩ = some (.slice none 0 0) := HO4.out.y.cell 5
        have z5 : (w3.setCell ⟨w.heap.size + 1 + 1, 2, none⟩ (.int .i64 N)).cell? ⟨w.heap.size + 1, 5, none⟩ = some (.slice none 0 0) := HO4.out.res.cell 5
        have v5 : (w3.setCell ⟨w.heap.size + 1 + 1, 2, none⟩ (.int .i64 N)).frozen? ⟨w.heap.size + 1, 5, none⟩ = false := HO4.out.res.frozen (by simp [zNd])
        have y6 : (w3.setCell ⟨w.heap.size + 1 + 1, 2, none⟩ (.int .i64 N)).cell? ⟨w.heap.size + 1 + 1, 6, none⟩ = some (.string ⟨#[]⟩) := HO4.out.y.cell 6
        have z6 : (w3.setCell ⟨w.heap.size + 1 + 1, 2, none⟩ (.int .i64 N)).cell? ⟨w.heap.size + 1, 6, none⟩ = some (.string ⟨#[]⟩) := HO4.out.res.cell 6
        have v6 : (w3.setCell ⟨w.heap.size + 1 + 1, 2, none⟩ (.int .i64 N)).frozen? ⟨w.heap.size + 1, 6, none⟩ = false := HO4.out.res.frozen (by simp [zNd])
        have y7 : (w3.setCell ⟨w.heap.size + 1 + 1, 2, none⟩ (.int .i64 N)).cell? ⟨w.heap.size + 1 + 1, 7, none⟩ = some (.slice none 0 0) := HO4.out.y.cell 7
        have z7 : (w3.setCell ⟨w.heap.size + 1 + 1, 2, none⟩ (.int .i64 N)).cell? ⟨w.heap.size + 1, 7, none⟩ = some (.slice none 0 0) := HO4.out.res.cell 7
        have v7 : (w3.setCell ⟨w.heap.size + 1 + 1, 2, none⟩ (.int .i64 N)).frozen? ⟨w.heap.size + 1, 7, none⟩ = false := HO4.out.res.frozen (by simp [zNd])
        have y8 : (w3.setCell ⟨w.heap.size + 1 + 1, 2, none⟩ (.int .i64 N)).cell? ⟨w.heap.size + 1 + 1, 8, none⟩ = some (.bool false) := HO4.out.y.cell 8
        have z8 : (w3.setCell ⟨w.heap.size + 1 + 1, 2, none⟩ (.int .i64 N)).cell? ⟨w.heap.size + 1, 8, none⟩ = some (.bool false) := HO4.out.res.cell 8
        have v8 : (w3.setCell ⟨w.heap.size + 1 + 1, 2, none⟩ (.int .i64 N)).frozen? ⟨w.heap.size + 1, 8, none⟩ = false := HO4.out.res.frozen (by simp [zNd])
        have y9 : (w3.setCell ⟨w.heap.size + 1 + 1, 2, none⟩ (.int .i64 N)).cell? ⟨w.heap.size + 1 + 1, 9, none⟩ = some (.bool false) := HO4.out.y.cell 9
        have z9 : (w3.setCell ⟨w.heap.size + 1 + 1, 2, none⟩ (.int .i64 N)).cell? ⟨w.heap.size + 1, 9, none⟩ = some (.bool false) := HO4.out.res.cell 9
        have v9 : (w3.setCell ⟨w.heap.size + 1 + 1, 2, none⟩ (.int .i64 N)).frozen? ⟨w.heap.size + 1, 9, none⟩ = false := HO4.out.res.frozen (by simp [zNd])
        obtain ⟨hbel, hblk, hoth, hsz⟩ := HO4.out.fin
        have k0 := hblk
        have HF := Lib.hid (And.intro hbel (And.intro hblk (And.intro hoth hsz)))
        clear hbel hblk hoth hsz k0 HI4 HI5
        go_wp2_with fail
        have hblk := HF.out.2.1
        have k0 := hblk.cell 0
        have k1 := hblk.cell 1
        have k2 := hblk.cell 2
        have k3 := hblk.cell 3
        have k4 := hblk.cell 4
        have k5 := hblk.cell 5
        have k6 := hblk.cell 6
        have k7 := hblk.cell 7
        have k8 := hblk.cell 8
        have k9 := hblk.cell 9
        unfold set10 at k0 k1 k2 k3 k4 k5 k6 k7 k8 k9
        simp [ncell, pv] at k0 k1 k2 k3 k4 k5 k6 k7 k8 k9
        refine bodyPost_ret (v := .agg #[.int .i64 5, .int .i64 L, .int .i64 N, .slice none 0 0, .slice none 0 0, .slice none 0 0, .string ⟨#[]⟩, .slice none 0 0, .bool false, .bool false]) (by simp [results, Tryd.results66, go_sem, k0, k1, k2, k3, k4, k5, k6, k7, k8, k9]) rfl ?_
        refine ⟨⟨5, L, N, (none, 0, 0), (none, 0, 0), (none, 0, 0), [], (none, 0, 0), false, false⟩, rfl, rfl, ?_, HF.out.1⟩
        have hHH := HH.out
        obtain ⟨hbel, -, hoth, hsz⟩ := HF.out
        refine ⟨rfl, (show L = clipI 0 1099511627775 h.line from hL.symm.trans (congrArg (clipI 0 1099511627775) hHH.line)), ?_, ?_, ?_, ?_, ?_, ?_, ?_⟩
        · show N = if (5 : Int) = 4 ∨ (5 : Int) = 5 then clipI 0 200 h.n else 0
          rw [if_pos (by decide), ← HNN.out]
          exact congrArg _ hHH.n
        · show FsS _ 2 gcell _ (pv (none, 0, 0)) (if 1 ≤ (5 : Int) ∧ (5 : Int) ≤ 4 then sqz h.text else [])
          rw [if_neg (by decide)]
          exact FsS.nil _ _ _ _
        · show GrS _ _ (pv (none, 0, 0)) (if (5 : Int) = 6 then h.rows else [])
          rw [if_neg (by decide)]
          exact GrS.nil _ _
        · show ([] : List UInt8) = (if (5 : Int) = 7 then mend h.grid else noGrid).cols
          rw [if_neg (by decide)]
          rfl
        · show TrS _ _ (pv (none, 0, 0)) (if (5 : Int) = 7 then mend h.grid else noGrid).rows
          rw [if_neg (by decide)]
          exact TrS.nil _ _
        · show false = (if (5 : Int) = 7 then mend h.grid else noGrid).box
          rw [if_neg (by decide)]
          rfl
        · show false = (if (5 : Int) = 7 then mend h.grid else noGrid).all
          rw [if_neg (by decide)]
          rfl
      · by_cases h6 : k = 6
        · subst h6
          rw [decide_eq_false (by decide)] at HI0
          rw [decide_eq_false (by decide)] at HI5
          clear hA h4 h5
          go_wp2_with fail
          refine HI0.out.mono ?_
          rintro e w1 ⟨rfl, hw1⟩
          have HO1 : Hid (OS w ⟨xk, xl, xn, (t1, t2, t3), (s1, s2, s3), (r1, r2, r3), co, (q1, q2, q3), xb, xa⟩ w1 ⟨6, L, 0, (none, 0, 0), (none, 0, 0), (none, 0, 0), [], (none, 0, 0), false, false⟩) := Lib.hid (by rw [hw1, ← H0.out]; exact HO.out.keep (below_lit W0 _))
          clear hw1 HI0 HO H0 HZ0 m0 m1
          have hI := HI5.out w1
          have HI := Lib.hid hI
          clear hI
          go_wp2_with fail
          refine HI.out.mono ?_
          rintro e w3 ⟨rfl, hw3⟩
          have HO3 : Hid (OS w ⟨xk, xl, xn, (t1, t2, t3), (s1, s2, s3), (r1, r2, r3), co, (q1, q2, q3), xb, xa⟩ w3 ⟨6, L, 0, (none, 0, 0), (none, 0, 0), (none, 0, 0), [], (none, 0, 0), false, false⟩) := Lib.hid (by rw [hw3]; exact HO1.out.keep (below_lit _ _))
          clear hw3 HI
          have c5 : w3.cell? ⟨w.heap.size, 5, none⟩ = some (.slice r1 r2 r3) := HO3.out.box.cell 5
          have f5 : w3.frozen? ⟨w.heap.size + 1 + 1, 5, none⟩ = false := HO3.out.y.frozen (by simp [ncell])
          have g5 : w3.cell? ⟨w.heap.size + 1 + 1, 5, none⟩ = some (.slice none 0 0) := HO3.out.y.cell 5
          have HO4 := Lib.hid (HO3.out.set (y' := ⟨6, L, 0, (none, 0, 0), (none, 0, 0), (r1, r2, r3), [], (none, 0, 0), false, false⟩) 5 (.slice r1 r2 r3) rfl)
          have y0 : (w3.setCell ⟨w.heap.size + 1 + 1, 5, none⟩ (.slice r1 r2 r3)).cell? ⟨w.heap.size + 1 + 1, 0, none⟩ = some (.int .i64 6) := HO4.out.y.cell 0
          have z0 : (w3.setCell ⟨w.heap.size + 1 + 1, 5, none⟩ (.slice r1 r2 r3)).cell? ⟨w.heap.size + 1, 0, none⟩ = some (.int .i64 0) := HO4.out.res.cell 0
          have v0 : (w3.setCell ⟨w.heap.size + 1 + 1, 5, none⟩ (.slice r1 r2 r3)).frozen? ⟨w.heap.size + 1, 0, none⟩ = false := HO4.out.res.frozen (by simp [zNd])
          have y1 : (w3.setCell ⟨w.heap.size + 1 + 1, 5, none⟩ (.slice r1 r2 r3)).cell? ⟨w.heap.size + 1 + 1, 1, none⟩ = some (.int .i64 L) := HO4.out.y.cell 1
          have z1 : (w3.setCell ⟨w.heap.size + 1 + 1, 5, none⟩ (.slice r1 r2 r3)).cell? ⟨w.heap.size + 1, 1, none⟩ = some (.int .i64 0) := HO4.out.res.cell 1
          have v1 : (w3.setCell ⟨w.heap.size + 1 + 1, 5, none⟩ (.slice r1 r2 r3)).frozen? ⟨w.heap.size + 1, 1, none⟩ = false := HO4.out.res.frozen (by simp [zNd])
          have y2 : (w3.setCell ⟨w.heap.size + 1 + 1, 5, none⟩ (.slice r1 r2 r3)).cell? ⟨w.heap.size + 1 + 1, 2, none⟩ = some (.int .i64 0) := HO4.out.y.cell 2
          have z2 : (w3.setCell ⟨w.heap.size + 1 + 1, 5, none⟩ (.slice r1 r2 r3)).cell? ⟨w.heap.size + 1, 2, none⟩ = some (.int .i64 0) := HO4.out.res.cell 2
          have v2 : (w3.setCell ⟨w.heap.size + 1 + 1, 5, none⟩ (.slice r1 r2 r3)).frozen? ⟨w.heap.size + 1, 2, none⟩ = false := HO4.out.res.frozen (by simp [zNd])
          have y3 : (w3.setCell ⟨w.heap.size + 1 + 1, 5, none⟩ (.slice r1 r2 r3)).cell? ⟨w.heap.size + 1 + 1, 3, none⟩ = some (.slice none 0 0) := HO4.out.y.cell 3
          have z3 : (w3.setCell ⟨w.heap.size + 1 + 1, 5, none⟩ (.slice r1 r2 r3)).cell? ⟨w.heap.size + 1, 3, none⟩ = some (.slice none 0 0) := HO4.out.res.cell 3
          have v3 : (w3.setCell ⟨w.heap.size + 1 + 1, 5, none⟩ (.slice r1 r2 r3)).frozen? ⟨w.heap.size + 1, 3, none⟩ = false := HO4.out.res.frozen (by simp [zNd])
          have y4 : (w3.setCell ⟨w.heap.size + 1 + 1, 5, none⟩ (.slice r1 r2 r3)).cell? ⟨w.heap.size + 1 + 1, 4, none⟩ = some (.slice none 0 0) := HO4.out.y.cell 4
          have z4 : (w3.setCell ⟨w.heap.size + 1 + 1, 5, none⟩ (.slice r1 r2 r3)).cell? ⟨w.heap.size + 1, 4, none⟩ = some (.slice none 0 0) := HO4.out.res.cell 4
          have v4 : (w3.setCell ⟨w.heap.size + 1 + 1, 5, none⟩ (.slice r1 r2 r3)).frozen? ⟨w.heap.size + 1, 4, none⟩ = false := HO4.out.res.frozen (by simp [zNd])
          have y5 : (w3.setCell ⟨w.heap.size + 1 + 1, 5, none⟩ (.slice r1 r2 r3)).cell? ⟨w.heap.size + 1 + 1, 5, none⟩ = some (.slice r1 r2 r3) := HO4.out.y.cell 5
          have z5 : (w3.setCell ⟨w.heap.size + 1 + 1, 5, none⟩ (.slice r1 r2 r3)).cell? ⟨w.heap.size + 1, 5, none⟩ = some (.slice none 0 0) := HO4.out.res.cell 5
          have v5 : (w3.setCell ⟨w.heap.size + 1 + 1, 5, none⟩ (.slice r1 r2 r3)).frozen? ⟨w.heap.size + 1, 5, none⟩ = false := HO4.out.res.frozen (by simp [zNd])
          have y6 : (w3.setCell ⟨w.heap.size + 1 + 1, 5, none⟩ (.slice r1 r2 r3)).cell? ⟨w.heap.size + 1 + 1, 6, none⟩ = some (.string ⟨#[]⟩) := HO4.out.y.cell 6
          have z6 : (w3.setCell ⟨w.heap.size + 1 + 1, 5, none⟩ (.slice r1 r2 r3)).cell? ⟨w.heap.size + 1, 6, none⟩ = some (.string ⟨#[]⟩) := HO4.out.res.cell 6
          have v6 : (w3.setCell ⟨w.heap.size + 1 + 1, 5, none⟩ (.slice r1 r2 r3)).frozen? ⟨w.heap.size + 1, 6, none⟩ = false := HO4.out.res.frozen (by simp [zNd])
          have y7 : (w3.setCell ⟨w.heap.size + 1 + 1, 5, none⟩ (.slice r1 r2 r3)).cell? ⟨w.heap.size + 1 + 1, 7, none⟩ = some (.slice none 0 0) := HO4.out.y.cell 7
          have z7 : (w3.setCell ⟨w.heap.size + 1 + 1, 5, none⟩ (.slice r1 r2 r3)).cell? ⟨w.heap.size + 1, 7, none⟩ = some (.slice none 0 0) := HO4.out.res.cell 7
          have v7 : (w3.setCell ⟨w.heap.size + 1 + 1, 5, none⟩ (.slice r1 r2 r3)).frozen? ⟨w.heap.size + 1, 7, none⟩ = false := HO4.out.res.frozen (by simp [zNd])
          have y8 : (w3.setCell ⟨w.heap.size + 1 + 1, 5, none⟩ (.slice r1 r2 r3)).cell? ⟨w.heap.size + 1 + 1, 8, none⟩ = some (.bool false) := HO4.out.y.cell 8
          have z8 : (w3.setCell ⟨w.heap.size + 1 + 1, 5, none⟩ (.slice r1 r2 r3)).cell? ⟨w.heap.size + 1, 8, none⟩ = some (.bool false) := HO4.out.res.cell 8
          have v8 : (w3.setCell ⟨w.heap.size + 1 + 1, 5, none⟩ (.slice r1 r2 r3)).frozen? ⟨w.heap.size + 1, 8, none⟩ = false := HO4.out.res.frozen (by simp [zNd])
          have y9 : (w3.setCell ⟨w.heap.size + 1 + 1, 5, none⟩ (.slice r1 r2 r3)).cell? ⟨w.heap.size + 1 + 1, 9, none⟩ = some (.bool false) := HO4.out.y.cell 9
          have z9 : (w3.setCell ⟨w.heap.size + 1 + 1, 5, none⟩ (.slice r1 r2 r3)).cell? ⟨w.heap.size + 1, 9, none⟩ = some (.bool false) := HO4.out.res.cell 9
          have v9 : (w3.setCell ⟨w.heap.size + 1 + 1, 5, none⟩ (.slice r1 r2 r3)).frozen? ⟨w.heap.size + 1, 9, none⟩ = false := HO4.out.res.frozen (by simp [zNd])
          obtain ⟨hbel, hblk, hoth, hsz⟩ := HO4.out.fin
          have k0 := hblk
          have HF := Lib.hid (And.intro hbel (And.intro hblk (And.intro hoth hsz)))
          clear hbel hblk hoth hsz k0 HI4 HI5
          go_wp2_with fail
          have hblk := HF.out.2.1
          have k0 := hblk.cell 0
          have k1 := hblk.cell 1
          have k2 := hblk.cell 2
          have k3 := hblk.cell 3
          have k4 := hblk.cell 4
          have k5 := hblk.cell 5
          have k6 := hblk.cell 6
          have k7 := hblk.cell 7
          have k8 := hblk.cell 8
          have k9 := hblk.cell 9
          unfold set10 at k0 k1 k2 k3 k4 k5 k6 k7 k8 k9
          simp [ncell, pv] at k0 k1 k2 k3 k4 k5 k6 k7 k8 k9
          refine bodyPost_ret (v := .agg #[.int .i64 6, .int .i64 L, .int .i64 0, .slice none 0 0, .slice none 0 0, .slice r1 r2 r3, .string ⟨#[]⟩, .slice none 0 0, .bool false, .bool false]) (by simp [results, Tryd.results66, go_sem, k0, k1, k2, k3, k4, k5, k6, k7, k8, k9]) rfl ?_
          refine ⟨⟨6, L, 0, (none, 0, 0), (none, 0, 0), (r1, r2, r3), [], (none, 0, 0), false, false⟩, rfl, rfl, ?_, HF.out.1⟩
          have hHH := HH.out
          obtain ⟨hbel, -, hoth, hsz⟩ := HF.out
          refine ⟨rfl, (show L = clipI 0 1099511627775 h.line from hL.symm.trans (congrArg (clipI 0 1099511627775) hHH.line)), ?_, ?_, ?_, ?_, ?_, ?_, ?_⟩
          · show (0 : Int) = if (6 : Int) = 4 ∨ (6 : Int) = 5 then clipI 0 200 h.n else 0
            rw [if_neg (by decide)]
          · show FsS _ 2 gcell _ (pv (none, 0, 0)) (if 1 ≤ (6 : Int) ∧ (6 : Int) ≤ 4 then sqz h.text else [])
            rw [if_neg (by decide)]
            exact FsS.nil _ _ _ _
          · show GrS _ _ (pv (r1, r2, r3)) (if (6 : Int) = 6 then h.rows else [])
            rw [if_pos rfl]
            exact (hHH.rows.keep (kp_lit HS.out hbel)).mono (fun b hb => .inl hb)
          · show ([] : List UInt8) = (if (6 : Int) = 7 then mend h.grid else noGrid).cols
            rw [if_neg (by decide)]
            rfl
          · show TrS _ _ (pv (none, 0, 0)) (if (6 : Int) = 7 then mend h.grid else noGrid).rows
            rw [if_neg (by decide)]
            exact TrS.nil _ _
          · show false = (if (6 : Int) = 7 then mend h.grid else noGrid).box
            rw [if_neg (by decide)]
            rfl
          · show false = (if (6 : Int) = 7 then mend h.grid else noGrid).all
            rw [if_neg (by decide)]
            rfl
        · by_cases h7 : k = 7
          · subst h7
            rw [decide_eq_false (by decide)] at HI0
            rw [decide_eq_false (by decide)] at HI5
            clear hA h4 h5 h6
            go_wp2_with fail
            refine HI0.out.mono ?_
            rintro e w1 ⟨rfl, hw1⟩
            have HO1 : Hid (OS w ⟨xk, xl, xn, (t1, t2, t3), (s1, s2, s3), (r1, r2, r3), co, (q1, q2, q3), xb, xa⟩ w1 ⟨7, L, 0, (none, 0, 0), (none, 0, 0), (none, 0, 0), [], (none, 0, 0), false, false⟩) := Lib.hid (by rw [hw1, ← H0.out]; exact HO.out.keep (below_lit W0 _))
            clear hw1 HI0 HO H0 HZ0 m0 m1
            have hI := HI5.out w1
            have HI := Lib.hid hI
            clear hI
            go_wp2_with fail
            refine HI.out.mono ?_
            rintro e w3 ⟨rfl, hw3⟩
            have HO3 : Hid (OS w ⟨xk, xl, xn, (t1, t2, t3), (s1, s2, s3), (r1, r2, r3), co, (q1, q2, q3), xb, xa⟩ w3 ⟨7, L, 0, (none, 0, 0), (none, 0, 0), (none, 0, 0), [], (none, 0, 0), false, false⟩) := Lib.hid (by rw [hw3]; exact HO1.out.keep (below_lit _ _))
            clear hw3 HI
            have c6 : w3.cell? ⟨w.heap.size, 6, none⟩ = some (.string ⟨co.toArray⟩) := HO3.out.box.cell 6
            have c7 : w3.cell? ⟨w.heap.size, 7, none⟩ = some (.slice q1 q2 q3) := HO3.out.box.cell 7
            have c8 : w3.cell? ⟨w.heap.size, 8, none⟩ = some (.bool xb) := HO3.out.box.cell 8
            have c9 : w3.cell? ⟨w.heap.size, 9, none⟩ = some (.bool xa) := HO3.out.box.cell 9
            have hM := rmend_any S h.grid (q1, q2, q3) w3 (HH.out.trows.keep (kp_lit HS.out HO3.out.bel)) (by omega) (by omega) (fun b hb => Nat.lt_of_lt_of_le (HS.out b hb) HO3.out.bel.size)
            unfold tabV pv at hM
            have e1 : co = h.grid.cols := HH.out.cols
            have e2 : xb = h.grid.box := HH.out.box
            have e3 : xa = h.grid.all := HH.out.all
            rw [← e1, ← e2, ← e3] at hM
            simp only at hM
            clear e1 e2 e3
            obtain ⟨G, hG⟩ : ∃ G, mend h.grid = G := ⟨_, rfl⟩
            rw [hG] at hM
            have HGG := Lib.hid hG
            have HM := Lib.hid hM
            clear hM hG
            go_wp2_with fail
            refine HM.out.mono ?_
            rintro e w5 ⟨⟨p1, p2, p3⟩, rfl, hp, b5⟩
            have HO5 := Lib.hid (HO3.out.keep b5)
            have HP5 := Lib.hid hp
            have HB3 := Lib.hid HO3.out.bel.size
            have HB5 := Lib.hid b5.size
            have HL3 : Hid (w.heap.size + 1 + 1 < w3.heap.size) := Lib.hid (Array.getElem?_eq_some_iff.1 HO3.out.y).1
            obtain ⟨G1, G2, G3, G4⟩ := G
            simp only
            have f6 : w5.frozen? ⟨w.heap.size + 1 + 1, 6, none⟩ = false := HO5.out.y.frozen (by simp [ncell])
            have g6 : w5.cell? ⟨w.heap.size + 1 + 1, 6, none⟩ = some (.string ⟨#[]⟩) := HO5.out.y.cell 6
            have f7 : w5.frozen? ⟨w.heap.size + 1 + 1, 7, none⟩ = false := HO5.out.y.frozen (by simp [ncell])
            have g7 : w5.cell? ⟨w.heap.size + 1 + 1, 7, none⟩ = some (.slice none 0 0) := HO5.out.y.cell 7
            have f8 : w5.frozen? ⟨w.heap.size + 1 + 1, 8, none⟩ = false := HO5.out.y.frozen (by simp [ncell])
            have g8 : w5.cell? ⟨w.heap.size + 1 + 1, 8, none⟩ = some (.bool false) := HO5.out.y.cell 8
            have f9 : w5.frozen? ⟨w.heap.size + 1 + 1, 9, none⟩ = false := HO5.out.y.frozen (by simp [ncell])
            have g9 : w5.cell? ⟨w.heap.size + 1 + 1, 9, none⟩ = some (.bool false) := HO5.out.y.cell 9
            have HO4 := Lib.hid ((((HO5.out.set (y' := ⟨7, L, 0, (none, 0, 0), (none, 0, 0), (none, 0, 0), G1, (none, 0, 0), false, false⟩) 6 (.string ⟨G1.toArray⟩) rfl).set (y' := ⟨7, L, 0, (none, 0, 0), (none, 0, 0), (none, 0, 0), G1, (p1, p2, p3), false, false⟩) 7 (.slice p1 p2 p3) rfl).set (y' := ⟨7, L, 0, (none, 0, 0), (none, 0, 0), (none, 0, 0), G1, (p1, p2, p3), G3, false⟩) 8 (.bool G3) rfl).set (y' := ⟨7, L, 0, (none, 0, 0), (none, 0, 0), (none, 0, 0), G1, (p1, p2, p3), G3, G4⟩) 9 (.bool G4) rfl)
            clear hp b5 HM HO3 c6 c7 c8 c9
            have y0 : ((((w5.setCell ⟨w.heap.size + 1 + 1, 6, none⟩ (.string ⟨G1.toArray⟩)).setCell ⟨w.heap.size + 1 + 1, 7, none⟩ (.slice p1 p2 p3)).setCell ⟨w.heap.size + 1 + 1, 8, none⟩ (.bool G3)).setCell ⟨w.heap.size + 1 + 1, 9, none⟩ (.bool G4)).cell? ⟨w.heap.size + 1 + 1, 0, none⟩ = some (.int .i64 7) := HO4.out.y.cell 0
            have z0 : ((((w5.setCell ⟨w.heap.size + 1 + 1, 6, none⟩ (.string ⟨G1.toArray⟩)).setCell ⟨w.heap.size + 1 + 1, 7, none⟩ (.slice p1 p2 p3)).setCell ⟨w.heap.size + 1 + 1, 8, none⟩ (.bool G3)).setCell ⟨w.heap.size + 1 + 1, 9, none⟩ (.bool G4)).cell? ⟨w.heap.size + 1, 0, none⟩ = some (.int .i64 0) := HO4.out.res.cell 0
            have v0 : ((((w5.setCell ⟨w.heap.size + 1 + 1, 6, none⟩ (.string ⟨G1.toArray⟩)).setCell ⟨w.heap.size + 1 + 1, 7, none⟩ (.slice p1 p2 p3)).setCell ⟨w.heap.size + 1 + 1, 8, none⟩ (.bool G3)).setCell ⟨w.heap.size + 1 + 1, 9, none⟩ (.bool G4)).frozen? ⟨w.heap.size + 1, 0, none⟩ = false := HO4.out.res.frozen (by simp [zNd])
            have y1 : ((((w5.setCell ⟨w.heap.size + 1 + 1, 6, none⟩ (.string ⟨G1.toArray⟩)).setCell ⟨w.heap.size + 1 + 1, 7, none⟩ (.slice p1 p2 p3)).setCell ⟨w.heap.size + 1 + 1, 8, none⟩ (.bool G3)).setCell ⟨w.heap.size + 1 + 1, 9, none⟩ (.bool G4)).cell? ⟨w.heap.size + 1 + 1, 1, none⟩ = some (.int .i64 L) := HO4.out.y.cell 1
            have z1 : ((((w5.setCell ⟨w.heap.size + 1 + 1, 6, none⟩ (.string ⟨G1.toArray⟩)).setCell ⟨w.heap.size + 1 + 1, 7, none⟩ (.slice p1 p2 p3)).setCell ⟨w.heap.size + 1 + 1, 8, none⟩ (.bool G3)).setCell ⟨w.heap.size + 1 + 1, 9, none⟩ (.bool G4)).cell? ⟨w.heap.size + 1, 1, none⟩ = some (.int .i64 0) := HO4.out.res.cell 1
            have v1 : ((((w5.setCell ⟨w.heap.size + 1 + 1, 6, none⟩ (.string ⟨G1.toArray⟩)).setCell ⟨w.heap.size + 1 + 1, 7, none⟩ (.slice p1 p2 p3)).setCell ⟨w.heap.size + 1 + 1, 8, none⟩ (.bool G3)).setCell ⟨w.heap.size + 1 + 1, 9, none⟩ (.bool G4)).frozen? ⟨w.heap.size + 1, 1, none⟩ = false := HO4.out.res.frozen (by simp [zNd])
            have y2 : ((((w5.setCell ⟨w.heap.size + 1 + 1, 6, none⟩ (.string ⟨G1.toArray⟩)).setCell ⟨w.heap.size + 1 + 1, 7, none⟩ (.slice p1 p2 p3)).setCell ⟨w.heap.size + 1 + 1, 8, none⟩ (.bool G3)).setCell ⟨w.heap.size + 1 + 1, 9, none⟩ (.bool G4)).cell? ⟨w.heap.size + 1 + 1, 2, none⟩ = some (.int .i64 0) := HO4.out.y.cell 2
            have z2 : ((((w5.setCell ⟨w.heap.size + 1 + 1, 6, none⟩ (.string ⟨G1.toArray⟩)).setCell ⟨w.heap.size + 1 + 1, 7, none⟩ (.slice p1 p2 p3)).setCell ⟨w.heap.size + 1 + 1, 8, none⟩ (.bool G3)).setCell ⟨w.heap.size + 1 + 1, 9, none⟩ (.bool G4)).cell? ⟨w.heap.size + 1, 2, none⟩ = some (.int .i64 0) := HO4.out.res.cell 2
            have v2 : ((((w5.setCell ⟨w.heap.size + 1 + 1, 6, none⟩ (.string ⟨G1.toArray⟩)).setCell ⟨w.heap.size + 1 + 1, 7, none⟩ (.slice p1 p2 p3)).setCell ⟨w.heap.size + 1 + 1, 8, none⟩ (.bool G3)).setCell ⟨w.heap.size + 1 + 1, 9, none⟩ (.bool G4)).frozen? ⟨w.heap.size + 1, 2, none⟩ = false := HO4.out.res.frozen (by simp [zNd])
            have y3 : ((((w5.setCell ⟨w.heap.size + 1 + 1, 6, none⟩ (.string ⟨G1.toArray⟩)).setCell ⟨w.heap.size + 1 + 1, 7, none⟩ (.slice p1 p2 p3)).setCell ⟨w.heap.size + 1 + 1, 8, none⟩ (.bool G3)).setCell ⟨w.heap.size + 1 + 1, 9, none⟩ (.bool G4)).cell? ⟨w.heap.size + 1 + 1, 3, none⟩ = some (.slice none 0 0) := HO4.out.y.cell 3
            have z3 : ((((w5.setCell ⟨w.heap.size + 1 + 1, 6, none⟩ (.string ⟨G1.toArray⟩)).setCell ⟨w.heap.size + 1 + 1, 7, none⟩ (.slice p1 p2 p3)).setCell ⟨w.heap.size + 1 + 1, 8, none⟩ (.bool G3)).setCell ⟨w.heap.size + 1 + 1, 9, none⟩ (.bool G4)).cell? ⟨w.heap.size + 1, 3, none⟩ = some (.slice none 0 0) := HO4.out.res.cell 3
            have v3 : ((((w5.setCell ⟨w.heap.size + 1 + 1, 6, none⟩ (.string ⟨G1.toArray⟩)).setCell ⟨w.heap.size + 1 + 1, 7, none⟩ (.slice p1 p2 p3)).setCell ⟨w.heap.size + 1 + 1, 8, none⟩ (.bool G3)).setCell ⟨w.heap.size + 1 + 1, 9, none⟩ (.bool G4)).frozen? ⟨w.heap.size + 1, 3, none⟩ = false := HO4.out.res.frozen (by simp [zNd])
            have y4 : ((((w5.setCell ⟨w.heap.size + 1 + 1, 6, none⟩ (.string ⟨G1.toArray⟩)).setCell ⟨w.heap.size + 1 + 1, 7, none⟩ (.slice p1 p2 p3)).setCell ⟨w.heap.size + 1 + 1, 8, none⟩ (.bool G3)).setCell ⟨w.heap.size + 1 + 1, 9, none⟩ (.bool G4)).cell? ⟨w.heap.size + 1 + 1, 4, none⟩ = some (.slice none 0 0) := HO4.out.y.cell 4
            have z4 : ((((w5.setCell ⟨w.heap.size + 1 + 1, 6, none⟩ (.string ⟨G1.toArray⟩)).setCell ⟨w.heap.size + 1 + 1, 7, none⟩ (.slice p1 p2 p3)).setCell ⟨w.heap.size + 1 + 1, 8, none⟩ (.bool G3)).setCell ⟨w.heap.size + 1 + 1, 9, none⟩ (.bool G4)).cell? ⟨w.heap.size + 1, 4, none⟩ = some (.slice none 0 0) := HO4.out.res.cell 4
            have v4 : ((((w5.setCell ⟨w.heap.size + 1 + 1, 6, none⟩ (.string ⟨G1.toArray⟩)).setCell ⟨w.heap.size + 1 + 1, 7, none⟩ (.slice p1 p2 p3)).setCell ⟨w.heap.size + 1 + 1, 8, none⟩ (.bool G3)).setCell ⟨w.heap.size + 1 + 1, 9, none⟩ (.bool G4)).frozen? ⟨w.heap.size + 1, 4, none⟩ = false := HO4.out.res.frozen (by simp [zNd])
            have y5 : ((((w5.setCell ⟨w.heap.size + 1 + 1, 6, none⟩ (.string ⟨G1.toArray⟩)).setCell ⟨w.heap.size + 1 + 1, 7, none⟩ (.slice p1 p2 p3)).setCell ⟨w.heap.size + 1 + 1, 8, none⟩ (.bool G3)).setCell ⟨w.heap.size + 1 + 1, 9, none⟩ (.bool G4)).cell? ⟨w.heap.size + 1 + 1, 5, none⟩ = some (.slice none 0 0) := HO4.out.y.cell 5
            have z5 : ((((w5.setCell ⟨w.heap.size + 1 + 1, 6, none⟩ (.string ⟨G1.toArray⟩)).setCell ⟨w.heap.size + 1 + 1, 7, none⟩ (.slice p1 p2 p3)).setCell ⟨w.heap.size + 1 + 1, 8, none⟩ (.bool G3)).setCell ⟨w.heap.size + 1 + 1, 9, none⟩ (.bool G4)).cell? ⟨w.heap.size + 1, 5, none⟩ = some (.slice none 0 0) := HO4.out.res.cell 5
            have v5 : ((((w5.setCell ⟨w.heap.size + 1 + 1, 6, none⟩ (.string ⟨G1.toArray⟩)).setCell ⟨w.heap.size + 1 + 1, 7, none⟩ (.slice p1 p2 p3)).setCell ⟨w.heap.size + 1 + 1, 8, none⟩ (.bool G3)).setCell ⟨w.heap.size + 1 + 1, 9, none⟩ (.bool G4)).frozen? ⟨w.heap.size + 1, 5, none⟩ = false := HO4.out.res.frozen (by simp [zNd])
            have y6 : ((((w5.setCell ⟨w.heap.size + 1 + 1, 6, none⟩ (.string ⟨G1.toArray⟩)).setCell ⟨w.heap.size + 1 + 1, 7, none⟩ (.slice p1 p2 p3)).setCell ⟨w.heap.size + 1 + 1, 8, none⟩ (.bool G3)).setCell ⟨w.heap.size + 1 + 1, 9, none⟩ (.bool G4)).cell? ⟨w.heap.size + 1 + 1, 6, none⟩ = some (.string ⟨G1.toArray⟩) := HO4.out.y.cell 6
            have z6 : ((((w5.setCell ⟨w.heap.size + 1 + 1, 6, none⟩ (.string ⟨G1.toArray⟩)).setCell ⟨w.heap.size + 1 + 1, 7, none⟩ (.slice p1 p2 p3)).setCell ⟨w.heap.size + 1 + 1, 8, none⟩ (.bool G3)).setCell ⟨w.heap.size + 1 + 1, 9, none⟩ (.bool G4)).cell? ⟨w.heap.size + 1, 6, none⟩ = some (.string ⟨#[]⟩) := HO4.out.res.cell 6
            have v6 : ((((w5.setCell ⟨w.heap.size + 1 + 1, 6, none⟩ (.string ⟨G1.toArray⟩)).setCell ⟨w.heap.size + 1 + 1, 7, none⟩ (.slice p1 p2 p3)).setCell ⟨w.heap.size + 1 + 1, 8, none⟩ (.bool G3)).setCell ⟨w.heap.size + 1 + 1, 9, none⟩ (.bool G4)).frozen? ⟨w.heap.size + 1, 6, none⟩ = false := HO4.out.res.frozen (by simp [zNd])
            have y7 : ((((w5.setCell ⟨w.heap.size + 1 + 1, 6, none⟩ (.string ⟨G1.toArray⟩)).setCell ⟨w.heap.size + 1 + 1, 7, none⟩ (.slice p1 p2 p3)).setCell ⟨w.heap.size + 1 + 1, 8, none⟩ (.bool G3)).setCell ⟨w.heap.size + 1 + 1, 9, none⟩ (.bool G4)).cell? ⟨w.heap.size + 1 + 1, 7, none⟩ = some (.slice p1 p2 p3) := HO4.out.y.cell 7
            have z7 : ((((w5.setCell ⟨w.heap.size + 1 + 1, 6, none⟩ (.string ⟨G1.toArray⟩)).setCell ⟨w.heap.size + 1 + 1, 7, none⟩ (.slice p1 p2 p3)).setCell ⟨w.heap.size + 1 + 1, 8, none⟩ (.bool G3)).setCell ⟨w.heap.size + 1 + 1, 9, none⟩ (.bool G4)).cell? ⟨w.heap.size + 1, 7, none⟩ = some (.slice none 0 0) := HO4.out.res.cell 7
            have v7 : ((((w5.setCell ⟨w.heap.size + 1 + 1, 6, none⟩ (.string ⟨G1.toArray⟩)).setCell ⟨w.heap.size + 1 + 1, 7, none⟩ (.slice p1 p2 p3)).setCell ⟨w.heap.size + 1 + 1, 8, none⟩ (.bool G3)).setCell ⟨w.heap.size + 1 + 1, 9, none⟩ (.bool G4)).frozen? ⟨w.heap.size + 1, 7, none⟩ = false := HO4.out.res.frozen (by simp [zNd])
            have y8 : ((((w5.setCell ⟨w.heap.size + 1 + 1, 6, none⟩ (.string ⟨G1.toArray⟩)).setCell ⟨w.heap.size + 1 + 1, 7, none⟩ (.slice p1 p2 p3)).setCell ⟨w.heap.size + 1 + 1, 8, none⟩ (.bool G3)).setCell ⟨w.heap.size + 1 + 1, 9, none⟩ (.bool G4)).cell? ⟨w.heap.size + 1 + 1, 8, none⟩ = some (.bool G3) := HO4.out.y.cell 8
            have z8 : ((((w5.setCell ⟨w.heap.size + 1 + 1, 6, none⟩ (.string ⟨G1.toArray⟩)).setCell ⟨w.heap.size + 1 + 1, 7, none⟩ (.slice p1 p2 p3)).setCell ⟨w.heap.size + 1 + 1, 8, none⟩ (.bool G3)).setCell ⟨w.heap.size + 1 + 1, 9, none⟩ (.bool G4)).cell? ⟨w.heap.size + 1, 8, none⟩ = some (.bool false) := HO4.out.res.cell 8
            have v8 : ((((w5.setCell ⟨w.heap.size + 1 + 1, 6, none⟩ (.string ⟨G1.toArray⟩)).setCell ⟨w.heap.size + 1 + 1, 7, none⟩ (.slice p1 p2 p3)).setCell ⟨w.heap.size + 1 + 1, 8, none⟩ (.bool G3)).setCell ⟨w.heap.size + 1 + 1, 9, none⟩ (.bool G4)).frozen? ⟨w.heap.size + 1, 8, none⟩ = false := HO4.out.res.frozen (by simp [zNd])
            have y9 : ((((w5.setCell ⟨w.heap.size + 1 + 1, 6, none⟩ (.string ⟨G1.toArray⟩)).setCell ⟨w.heap.size + 1 + 1, 7, none⟩ (.slice p1 p2 p3)).setCell ⟨w.heap.size + 1 + 1, 8, none⟩ (.bool G3)).setCell ⟨w.heap.size + 1 + 1, 9, none⟩ (.bool G4)).cell? ⟨w.heap.size + 1 + 1, 9, none⟩ = some (.bool G4) := HO4.out.y.cell 9
            have z9 : ((((w5.setCell ⟨w.heap.size + 1 + 1, 6, none⟩ (.string ⟨G1.toArray⟩)).setCell ⟨w.heap.size + 1 + 1, 7, none⟩ (.slice p1 p2 p3)).setCell ⟨w.heap.size + 1 + 1, 8, none⟩ (.bool G3)).setCell ⟨w.heap.size + 1 + 1, 9, none⟩ (.bool G4)).cell? ⟨w.heap.size + 1, 9, none⟩ = some (.bool false) := HO4.out.res.cell 9
            have v9 : ((((w5.setCell ⟨w.heap.size + 1 + 1, 6, none⟩ (.string ⟨G1.toArray⟩)).setCell ⟨w.heap.size + 1 + 1, 7, none⟩ (.slice p1 p2 p3)).setCell ⟨w.heap.size + 1 + 1, 8, none⟩ (.bool G3)).setCell ⟨w.heap.size + 1 + 1, 9, none⟩ (.bool G4)).frozen? ⟨w.heap.size + 1, 9, none⟩ = false := HO4.out.res.frozen (by simp [zNd])
            obtain ⟨hbel, hblk, hoth, hsz⟩ := HO4.out.fin
            have k0 := hblk
            have HF := Lib.hid (And.intro hbel (And.intro hblk (And.intro hoth hsz)))
            clear hbel hblk hoth hsz k0 HI4 HI5
            go_wp2_with fail
            have hblk := HF.out.2.1
            have k0 := hblk.cell 0
            have k1 := hblk.cell 1
            have k2 := hblk.cell 2
            have k3 := hblk.cell 3
            have k4 := hblk.cell 4
            have k5 := hblk.cell 5
            have k6 := hblk.cell 6
            have k7 := hblk.cell 7
            have k8 := hblk.cell 8
            have k9 := hblk.cell 9
            unfold set10 at k0 k1 k2 k3 k4 k5 k6 k7 k8 k9
            simp [ncell, pv] at k0 k1 k2 k3 k4 k5 k6 k7 k8 k9
            refine bodyPost_ret (v := .agg #[.int .i64 7, .int .i64 L, .int .i64 0, .slice none 0 0, .slice none 0 0, .slice none 0 0, .string ⟨G1.toArray⟩, .slice p1 p2 p3, .bool G3, .bool G4]) (by simp [results, Tryd.results66, go_sem, k0, k1, k2, k3, k4, k5, k6, k7, k8, k9]) rfl ?_
            refine ⟨⟨7, L, 0, (none, 0, 0), (none, 0, 0), (none, 0, 0), G1, (p1, p2, p3), G3, G4⟩, rfl, rfl, ?_, HF.out.1⟩
            have hHH := HH.out
            obtain ⟨hbel, -, hoth, hsz⟩ := HF.out
            refine ⟨rfl, (show L = clipI 0 1099511627775 h.line from hL.symm.trans (congrArg (clipI 0 1099511627775) hHH.line)), ?_, ?_, ?_, ?_, ?_, ?_, ?_⟩
            · show (0 : Int) = if (7 : Int) = 4 ∨ (7 : Int) = 5 then clipI 0 200 h.n else 0
              rw [if_neg (by decide)]
            · show FsS _ 2 gcell _ (pv (none, 0, 0)) (if 1 ≤ (7 : Int) ∧ (7 : Int) ≤ 4 then sqz h.text else [])
              rw [if_neg (by decide)]
              exact FsS.nil _ _ _ _
            · show GrS _ _ (pv (none, 0, 0)) (if (7 : Int) = 6 then h.rows else [])
              rw [if_neg (by decide)]
              exact GrS.nil _ _
            · show G1 = (if (7 : Int) = 7 then mend h.grid else noGrid).cols
              rw [if_pos rfl, HGG.out]
            · show TrS _ _ (pv (p1, p2, p3)) (if (7 : Int) = 7 then mend h.grid else noGrid).rows
              rw [if_pos rfl, HGG.out]
              have h3 := HL3.out
              have h4 := HB3.out
              refine (HP5.out.keep (fun b hb => ?_)).mono (fun b hb => .inr ⟨by omega, ?_⟩)
              · refine (hoth b (by omega)).trans ?_
                repeat rw [Below.heap_setCell _ _ _ _ (by show b ≠ w.heap.size + 1 + 1; omega)]
              · have hs3 := hsz
                simp only [szset] at hs3
                exact Nat.lt_of_lt_of_eq hb.2 hs3.symm
            · show G3 = (if (7 : Int) = 7 then mend h.grid else noGrid).box
              rw [if_pos rfl, HGG.out]
            · show G4 = (if (7 : Int) = 7 then mend h.grid else noGrid).all
              rw [if_pos rfl, HGG.out]
          · rw [decide_eq_false (show ¬ (1 ≤ k ∧ k ≤ 4) by omega)] at HI0
            rw [decide_eq_false (show ¬ (k = 4 ∨ k = 5) by omega)] at HI5
            have n6 : (k == 6) = false := by simpa using h6
            have n7 : (k == 7) = false := by simpa using h7
            have HKD : Hid (¬ (1 ≤ k ∧ k ≤ 7)) := Lib.hid (by omega)
            clear hA h4 h5 h6 h7
            go_wp2_with fail
            refine HI0.out.mono ?_
            rintro e w1 ⟨rfl, hw1⟩
            have HO1 : Hid (OS w ⟨xk, xl, xn, (t1, t2, t3), (s1, s2, s3), (r1, r2, r3), co, (q1, q2, q3), xb, xa⟩ w1 ⟨k, L, 0, (none, 0, 0), (none, 0, 0), (none, 0, 0), [], (none, 0, 0), false, false⟩) := Lib.hid (by rw [hw1, ← H0.out]; exact HO.out.keep (below_lit W0 _))
            clear hw1 HI0 HO H0 HZ0 m0 m1
            have hI := HI5.out w1
            have HI := Lib.hid hI
            clear hI
            go_wp2_with fail
            refine HI.out.mono ?_
            rintro e w3 ⟨rfl, hw3⟩
            have HO3 : Hid (OS w ⟨xk, xl, xn, (t1, t2, t3), (s1, s2, s3), (r1, r2, r3), co, (q1, q2, q3), xb, xa⟩ w3 ⟨k, L, 0, (none, 0, 0), (none, 0, 0), (none, 0, 0), [], (none, 0, 0), false, false⟩) := Lib.hid (by rw [hw3]; exact HO1.out.keep (below_lit _ _))
            clear hw3 HI
            have HO4 := HO3
            have y0 : w3.cell? ⟨w.heap.size + 1 + 1, 0, none⟩ = some (.int .i64 k) := HO4.out.y.cell 0
            have z0 : w3.cell? ⟨w.heap.size + 1, 0, none⟩ = some (.int .i64 0) := HO4.out.res.cell 0
            have v0 : w3.frozen? ⟨w.heap.size + 1, 0, none⟩ = false := HO4.out.res.frozen (by simp [zNd])
            have y1 : w3.cell? ⟨w.heap.size + 1 + 1, 1, none⟩ = some (.int .i64 L) := HO4.out.y.cell 1
            have z1 : w3.cell? ⟨w.heap.size + 1, 1, none⟩ = some (.int .i64 0) := HO4.out.res.cell 1
            have v1 : w3.frozen? ⟨w.heap.size + 1, 1, none⟩ = false := HO4.out.res.frozen (by simp [zNd])
            have y2 : w3.cell? ⟨w.heap.size + 1 + 1, 2, none⟩ = some (.int .i64 0) := HO4.out.y.cell 2
            have z2 : w3.cell? ⟨w.heap.size + 1, 2, none⟩ = some (.int .i64 0) := HO4.out.res.cell 2
            have v2 : w3.frozen? ⟨w.heap.size + 1, 2, none⟩ = false := HO4.out.res.frozen (by simp [zNd])
            have y3 : w3.cell? ⟨w.heap.size + 1 + 1, 3, none⟩ = some (.slice none 0 0) := HO4.out.y.cell 3
            have z3 : w3.cell? ⟨w.heap.size + 1, 3, none⟩ = some (.slice none 0 0) := HO4.out.res.cell 3
            have v3 : w3.frozen? ⟨w.heap.size + 1, 3, none⟩ = false := HO4.out.res.frozen (by simp [zNd])
            have y4 : w3.cell? ⟨w.heap.size + 1 + 1, 4, none⟩ = some (.slice none 0 0) := HO4.out.y.cell 4
            have z4 : w3.cell? ⟨w.heap.size + 1, 4, none⟩ = some (.slice none 0 0) := HO4.out.res.cell 4
            have v4 : w3.frozen? ⟨w.heap.size + 1, 4, none⟩ = false := HO4.out.res.frozen (by simp [zNd])
            have y5 : w3.cell? ⟨w.heap.size + 1 + 1, 5, none⟩ = some (.slice none 0 0) := HO4.out.y.cell 5
            have z5 : w3.cell? ⟨w.heap.size + 1, 5, none⟩ = some (.slice none 0 0) := HO4.out.res.cell 5
            have v5 : w3.frozen? ⟨w.heap.size + 1, 5, none⟩ = false := HO4.out.res.frozen (by simp [zNd])
            have y6 : w3.cell? ⟨w.heap.size + 1 + 1, 6, none⟩ = some (.string ⟨#[]⟩) := HO4.out.y.cell 6
            have z6 : w3.cell? ⟨w.heap.size + 1, 6, none⟩ = some (.string ⟨#[]⟩) := HO4.out.res.cell 6
            have v6 : w3.frozen? ⟨w.heap.size + 1, 6, none⟩ = false := HO4.out.res.frozen (by simp [zNd])
            have y7 : w3.cell? ⟨w.heap.size + 1 + 1, 7, none⟩ = some (.slice none 0 0) := HO4.out.y.cell 7
            have z7 : w3.cell? ⟨w.heap.size + 1, 7, none⟩ = some (.slice none 0 0) := HO4.out.res.cell 7
            have v7 : w3.frozen? ⟨w.heap.size + 1, 7, none⟩ = false := HO4.out.res.frozen (by simp [zNd])
            have y8 : w3.cell? ⟨w.heap.size + 1 + 1, 8, none⟩ = some (.bool false) := HO4.out.y.cell 8
            have z8 : w3.cell? ⟨w.heap.size + 1, 8, none⟩ = some (.bool false) := HO4.out.res.cell 8
            have v8 : w3.frozen? ⟨w.heap.size + 1, 8, none⟩ = false := HO4.out.res.frozen (by simp [zNd])
            have y9 : w3.cell? ⟨w.heap.size + 1 + 1, 9, none⟩ = some (.bool false) := HO4.out.y.cell 9
            have z9 : w3.cell? ⟨w.heap.size + 1, 9, none⟩ = some (.bool false) := HO4.out.res.cell 9
            have v9 : w3.frozen? ⟨w.heap.size + 1, 9, none⟩ = false := HO4.out.res.frozen (by simp [zNd])
            obtain ⟨hbel, hblk, hoth, hsz⟩ := HO4.out.fin
            have k0 := hblk
            have HF := Lib.hid (And.intro hbel (And.intro hblk (And.intro hoth hsz)))
            clear hbel hblk hoth hsz k0 HI4 HI5
            go_wp2_with fail
            have hblk := HF.out.2.1
            have k0 := hblk.cell 0
            have k1 := hblk.cell 1
            have k2 := hblk.cell 2
            have k3 := hblk.cell 3
            have k4 := hblk.cell 4
            have k5 := hblk.cell 5
            have k6 := hblk.cell 6
            have k7 := hblk.cell 7
            have k8 := hblk.cell 8
            have k9 := hblk.cell 9
            unfold set10 at k0 k1 k2 k3 k4 k5 k6 k7 k8 k9
            simp [ncell, pv] at k0 k1 k2 k3 k4 k5 k6 k7 k8 k9
            refine bodyPost_ret (v := .agg #[.int .i64 k, .int .i64 L, .int .i64 0, .slice none 0 0, .slice none 0 0, .slice none 0 0, .string ⟨#[]⟩, .slice none 0 0, .bool false, .bool false]) (by simp [results, Tryd.results66, go_sem, k0, k1, k2, k3, k4, k5, k6, k7, k8, k9]) rfl ?_
            refine ⟨⟨k, L, 0, (none, 0, 0), (none, 0, 0), (none, 0, 0), [], (none, 0, 0), false, false⟩, rfl, rfl, ?_, HF.out.1⟩
            have hHH := HH.out
            obtain ⟨hbel, -, hoth, hsz⟩ := HF.out
            refine ⟨rfl, (show L = clipI 0 1099511627775 h.line from hL.symm.trans (congrArg (clipI 0 1099511627775) hHH.line)), ?_, ?_, ?_, ?_, ?_, ?_, ?_⟩
            · show (0 : Int) = if k = 4 ∨ k = 5 then clipI 0 200 h.n else 0
              rw [if_neg (by have := HKD.out; omega)]
            · show FsS _ 2 gcell _ (pv (none, 0, 0)) (if 1 ≤ (k : Int) ∧ (k : Int) ≤ 4 then sqz h.text else [])
              rw [if_neg (by have := HKD.out; omega)]
              exact FsS.nil _ _ _ _
            · show GrS _ _ (pv (none, 0, 0)) (if (k : Int) = 6 then h.rows else [])
              rw [if_neg (by have := HKD.out; omega)]
              exact GrS.nil _ _
            · show ([] : List UInt8) = (if (k : Int) = 7 then mend h.grid else noGrid).cols
              rw [if_neg (by have := HKD.out; omega)]
              rfl
            · show TrS _ _ (pv (none, 0, 0)) (if (k : Int) = 7 then mend h.grid else noGrid).rows
              rw [if_neg (by have := HKD.out; omega)]
              exact TrS.nil _ _
            · show false = (if (k : Int) = 7 then mend h.grid else noGrid).box
              rw [if_neg (by have := HKD.out; omega)]
              rfl
            · show false = (if (k : Int) = 7 then mend h.grid else noGrid).all
              rw [if_neg (by have := HKD.out; omega)]
              rfl
end Go.Proofs.YtienjlbpaedbjaaDoor
