/- The document's own answer for documents: what a node of a kind has of another one. The document's own answer for documents: own, the walk. Rows of nodes that are made. The document's own answer for documents: tidy; what its walk wants. The document's own answer for documents: tidy; the round's memory. A builder in memory: its cells, and what they say. The program's own for documents: which kind may stand where; what a node of a kind lacks; what it may have. How much there is of what was put right. -/
import Derived.Test.YtpccjgoeoeehoaaDoorDh
import Derived.Test.YtpccjgoeoeehoaaDoorB0
import Derived.Test.YtpccjgoeoeehoaaDoorQ2
import Derived.Test.YtpccjgoeoeehoaaDoorC0
set_option linter.unusedVariables false
set_option linter.unusedSimpArgs false
namespace Go.Proofs.YtpccjgoeoeehoaaDoor
open Go.RowKit
/-- 'min' of two numbers, kept whole. -/
noncomputable def mnS (args : Array Value) : Sem Next := do pure (.value (← Builtin.min_ #[3, 3] 3 args))
theorem builtin_mnS (cs : Array Bool) (args : Array Value) : builtin .min #[3, 3] 3 cs args = mnS args := rfl
theorem mnS_run (x y z : Int) (hz : (if y < x then y else x) = z) (w : World) : (mnS #[.int .i64 x, .int .i64 y]).run Tryd.prog w = .ok (.value (.int .i64 z)) w := by
  unfold mnS
  simp only [Sem.run_bind, Sem.run_pure, run_min_int2, Result.andThen_ok, hz]
def zNd : List Value := [.int .i64 0, .int .i64 0, .int .i64 0, .slice none 0 0, .slice none 0 0, .slice none 0 0, .string ⟨#[]⟩, .slice none 0 0, .bool false, .bool false]
/-- A node, of some kind and line, that is made. -/
def nv0 (k l : Int) : NV := ⟨k, l, 0, (none, 0, 0), (none, 0, 0), (none, 0, 0), [], (none, 0, 0), false, false⟩
/-- own's three nodes. -/
structure OS (w : World) (x : NV) (W : World) (y : NV) : Prop where
  bel : Below w.heap.size w W
  box : Blk W w.heap.size 40 (ncell x)
  res : Blk W (w.heap.size + 1) 40 zNd
  y : Blk W (w.heap.size + 1 + 1) 40 (ncell y)
section
variable {w W W' : World} {x y y' : NV}
theorem OS.keep (h : OS w x W y) (hb : Below W.heap.size W W') : OS w x W' y := ⟨h.bel.trans (hb.mono h.bel.size), h.box.below hb, h.res.below hb, h.y.below hb⟩
theorem OS.set (h : OS w x W y) (j : Nat) (v : Value) (hy : (ncell y).set j v = ncell y') : OS w x (W.setCell ⟨w.heap.size + 1 + 1, j, none⟩ v) y' :=
  ⟨h.bel.setCell (by show w.heap.size ≤ w.heap.size + 1 + 1; omega) _, h.box.other (by omega) _ _, h.res.other (by omega) _ _, hy ▸ h.y.set j v⟩
end
/-- Ten cells of a block, one by one. -/
def set10 (W : World) (g : Nat) (x : NV) : World :=
  ((((((((((W.setCell ⟨g, 0, none⟩ (.int .i64 x.kind)).setCell ⟨g, 1, none⟩ (.int .i64 x.line)).setCell ⟨g, 2, none⟩ (.int .i64 x.n)).setCell ⟨g, 3, none⟩ (pv x.text)).setCell ⟨g, 4, none⟩ (pv x.kids)).setCell ⟨g, 5, none⟩ (pv x.rows)).setCell ⟨g, 6, none⟩ (.string ⟨x.cols.toArray⟩)).setCell ⟨g, 7, none⟩ (pv x.trows)).setCell ⟨g, 8, none⟩ (.bool x.box)).setCell ⟨g, 9, none⟩ (.bool x.all))
theorem set10_heap (W : World) (g : Nat) (x : NV) {k : Nat} (h : k ≠ g) : (set10 W g x).heap[k]? = W.heap[k]? := by
  unfold set10
  simp only [Below.heap_setCell _ (⟨g, _, none⟩ : Addr) _ k h]
theorem set10_size (W : World) (g : Nat) (x : NV) : (set10 W g x).heap.size = W.heap.size := by simp [set10, World.setCell]
theorem set10_blk {W : World} {g : Nat} {e : TypeId} {a0 a1 a2 a3 a4 a5 a6 a7 a8 a9 : Value} (h : Blk W g e [a0, a1, a2, a3, a4, a5, a6, a7, a8, a9]) (x : NV) : Blk (set10 W g x) g e (ncell x) :=
  (((((((((h.set 0 _).set 1 _).set 2 _).set 3 _).set 4 _).set 5 _).set 6 _).set 7 _).set 8 _).set 9 _
theorem set10_below {D : Nat} {a W : World} (h : Below D a W) {g : Nat} (hg : D ≤ g) (x : NV) : Below D a (set10 W g x) :=
  (((((((((h.setCell hg _).setCell hg _).setCell hg _).setCell hg _).setCell hg _).setCell hg _).setCell hg _).setCell hg _).setCell hg _).setCell hg _
/-- What own leaves: the result's cells, all else as it stood. -/
theorem OS.fin {w W : World} {x y : NV} (h : OS w x W y) : Below w.heap.size w (set10 W (w.heap.size + 1) y) ∧ Blk (set10 W (w.heap.size + 1) y) (w.heap.size + 1) 40 (ncell y) ∧
    (∀ b, b ≠ w.heap.size + 1 → (set10 W (w.heap.size + 1) y).heap[b]? = W.heap[b]?) ∧ (set10 W (w.heap.size + 1) y).heap.size = W.heap.size :=
  ⟨set10_below h.bel (by omega) _, set10_blk h.res _, fun b hb => set10_heap _ _ _ hb, set10_size _ _ _⟩
/-- Blocks that are no node's keep. -/
theorem kp_lit {w W W' : World} {S : Nat → Prop} (hS : ∀ b, S b → b < w.heap.size) (h : Below w.heap.size W W') : Kp S W W' := fun b hb => h.block b (hS b hb)
/-- A block of another kind is none of own's nodes. -/
theorem OS.apart {w W : World} {x y : NV} (h : OS w x W y) {b : Nat} {cur : Array Value} {e : TypeId} {fz : Nat × Nat} (hb : W.heap[b]? = some (.cells cur e fz)) (he : e ≠ 40) : b ≠ w.heap.size + 1 ∧ b ≠ w.heap.size + 1 + 1 := by
  constructor
  · rintro rfl
    have h1 : W.heap[w.heap.size + 1]? = _ := h.res
    rw [h1] at hb
    injection hb with hb
    injection hb with _ h2
    exact he h2.symm
  · rintro rfl
    have h1 : W.heap[w.heap.size + 1 + 1]? = _ := h.y
    rw [h1] at hb
    injection hb with hb
    injection hb with _ h2
    exact he h2.symm
end Go.Proofs.YtpccjgoeoeehoaaDoor
namespace Go.Proofs.YtpccjgoeoeehoaaDoor
open Go.RowKit
attribute [local go_sem ↓ high] builtin_mxS builtin_mnS
theorem szset (W : World) (a : Addr) (v : Value) : (W.setCell a v).heap.size = W.heap.size := by simp [World.setCell]
theorem clip_run (lo hi x : Int) : (if (if hi < x then hi else x) > lo then (if hi < x then hi else x) else lo) = clipI lo hi x := by
  unfold clipI
  repeat' split
  all_goals omega
set_option maxRecDepth 100000 in
set_option maxHeartbeats 16000000 in
theorem rown_any (S : Nat → Prop) (x : NV) (h : Hd) (k : Int) (w : World) (hh : HdIs S w x h) (hl : hdl h ≤ 90000) (hS : ∀ b, S b → b < w.heap.size) :
    Calls Tryd.prog 80 #[.agg (ncell x).toArray, .int .i64 k] w fun e w' => ∃ y : NV, e = .returned (.agg (ncell y).toArray) ∧ y.kids = (none, 0, 0) ∧ HdIs (fun b => S b ∨ (w.heap.size ≤ b ∧ b < w'.heap.size)) w' y (ownH h k) ∧ Below w.heap.size w w' := by
  have HH := Lib.hid hh
  have HS := Lib.hid hS
  have hdd : hdl h = 3 + h.text.length + h.grid.cols.length + (h.rows.length + lens h.rows) + trls h.grid.rows := rfl
  rw [hdd] at hl
  clear hh hS hdd
  obtain ⟨xk, xl, xn, ⟨t1, t2, t3⟩, ⟨s1, s2, s3⟩, ⟨r1, r2, r3⟩, co, ⟨q1, q2, q3⟩, xb, xa⟩ := x
  obtain ⟨L, hL⟩ : ∃ L, clipI 0 1099511627775 xl = L := ⟨_, rfl⟩
  obtain ⟨M0, hM0⟩ : ∃ M, (if (1099511627775 : Int) < xl then (1099511627775 : Int) else xl) = M := ⟨_, rfl⟩
  have m0 := fun w => mnS_run xl 1099511627775 M0 hM0 w
  have m1 := fun w => mxS_run 0 M0 L (by rw [← hM0, clip_run, hL]) w
  have HO : Hid (OS w ⟨xk, xl, xn, (t1, t2, t3), (s1, s2, s3), (r1, r2, r3), co, (q1, q2, q3), xb, xa⟩
      (((w.alloc (.cells (ncell ⟨xk, xl, xn, (t1, t2, t3), (s1, s2, s3), (r1, r2, r3), co, (q1, q2, q3), xb, xa⟩).toArray 40)).alloc (.cells zNd.toArray 40)).alloc (.cells (ncell (nv0 k L)).toArray 40)) (nv0 k L)) := Lib.hid (by
    obtain ⟨W0, hW0⟩ : ∃ W, W = (w.alloc (.cells (ncell ⟨xk, xl, xn, (t1, t2, t3), (s1, s2, s3), (r1, r2, r3), co, (q1, q2, q3), xb, xa⟩).toArray 40)).alloc (.cells zNd.toArray 40) := ⟨_, rfl⟩
    obtain ⟨bl, h1, h2⟩ := two_lits w _ _ W0 hW0
    rw [← hW0]
    have hz : W0.heap.size = w.heap.size + 2 := by rw [hW0, World.size_alloc, World.size_alloc]
    have b := below_lit W0 (.cells (ncell (nv0 k L)).toArray 40)
    refine ⟨bl.trans (b.mono bl.size), h1.below b, h2.below b, ?_⟩
    rw [← hz]
    exact heap_alloc_new W0 _)
  obtain ⟨W0, hW0⟩ : ∃ W, W = (((w.alloc (.cells (ncell ⟨xk, xl, xn, (t1, t2, t3), (s1, s2, s3), (r1, r2, r3), co, (q1, q2, q3), xb, xa⟩).toArray 40)).alloc (.cells zNd.toArray 40)).alloc (.cells (ncell (nv0 k L)).toArray 40)) := ⟨_, rfl⟩
  rw [← hW0] at HO
  have hz0 : W0.heap.size = w.heap.size + 1 + 1 + 1 := by rw [hW0, World.size_alloc, World.size_alloc, World.size_alloc]
  have HI4 := Lib.hid (fun W => rin1234 k W)
  have HI5 := Lib.hid (fun W => rin45 k W)
  rw [c1234] at HI4
  rw [c45] at HI5
  have HI40 := HI4.out W0
  rw [hz0, hW0] at HI40
  have H0 := Lib.hid hW0
  have HZ0 := Lib.hid hz0
  clear hW0 hz0
  unfold ncell nv0 zNd pv at HI40 H0
  unfold ncell pv
  simp only at HI40 H0 ⊢
  have HI0 := Lib.hid HI40
  clear HI40 hM0
  go_enter Tryd.func80, Tryd.ntmps80
  by_cases hA : 1 ≤ k ∧ k ≤ 3
  · rw [decide_eq_true (show 1 ≤ k ∧ k ≤ 4 by omega)] at HI0
    rw [decide_eq_false (show ¬ (k = 4 ∨ k = 5) by omega)] at HI5
    have n6 : (k == 6) = false := by simp; omega
    have n7 : (k == 7) = false := by simp; omega
    have HKD := Lib.hid hA
    clear hA
    go_wp2_with fail
    refine HI0.out.mono ?_
    rintro e w1 ⟨rfl, hw1⟩
    have HO1 : Hid (OS w ⟨xk, xl, xn, (t1, t2, t3), (s1, s2, s3), (r1, r2, r3), co, (q1, q2, q3), xb, xa⟩ w1 ⟨k, L, 0, (none, 0, 0), (none, 0, 0), (none, 0, 0), [], (none, 0, 0), false, false⟩) := Lib.hid (by rw [hw1, ← H0.out]; exact HO.out.keep (below_lit W0 _))
    clear hw1 HI0 HO H0 HZ0 m0 m1
    have c3 : w1.cell? ⟨w.heap.size, 3, none⟩ = some (.slice t1 t2 t3) := HO1.out.box.cell 3
    have hT : Gs w1 (.slice t1 t2 t3) h.text := (HH.out.text.keep (kp_lit HS.out HO1.out.bel)).1
    have HSQ := Lib.hid (rsqueeze_any h.text _ w1 hT (by omega))
    clear hT
    go_wp2_with fail
    refine HSQ.out.mono ?_
    rintro e w2 ⟨u, rfl, hu, b2⟩
    obtain ⟨ua, uc, hue⟩ := (FOwn.sl gcell_len hu).len
    obtain ⟨um, hum⟩ : ∃ m, (sqz h.text).length = m := ⟨_, rfl⟩
    rw [hum] at hue
    subst hue
    have HO2 := Lib.hid (HO1.out.keep b2)
    have HB1 := Lib.hid HO1.out.bel.size
    have HU2 := Lib.hid hu
    have f3 : w2.frozen? ⟨w.heap.size + 1 + 1, 3, none⟩ = false := HO2.out.y.frozen (by simp [ncell])
    have g3 : w2.cell? ⟨w.heap.size + 1 + 1, 3, none⟩ = some (.slice none 0 0) := HO2.out.y.cell 3
    have hI := HI5.out (w2.setCell ⟨w.heap.size + 1 + 1, 3, none⟩ (.slice ua um uc))
    rw [szset] at hI
    have HI := Lib.hid hI
    clear hI hu hum b2 HSQ c3
    go_wp2_with fail
    refine HI.out.mono ?_
    rintro e w3 ⟨rfl, hw3⟩
    have HO3 : Hid (OS w ⟨xk, xl, xn, (t1, t2, t3), (s1, s2, s3), (r1, r2, r3), co, (q1, q2, q3), xb, xa⟩ w3 ⟨k, L, 0, (ua, um, uc), (none, 0, 0), (none, 0, 0), [], (none, 0, 0), false, false⟩) := Lib.hid (by rw [hw3]; exact (HO2.out.set (y' := ⟨k, L, 0, (ua, um, uc), (none, 0, 0), (none, 0, 0), [], (none, 0, 0), false, false⟩) 3 (.slice ua um uc) rfl).keep (below_lit _ _))
    have HU3 : Hid (GOwn w1.heap.size w3 (.slice ua um uc) (sqz h.text)) := Lib.hid (by rw [hw3]; exact (HU2.out.sam (SamT.set HO2.out.y (by decide) 3 _)).keep (below_lit _ _))
    clear hw3 HI HU2 HO2 f3 g3
    have HO4 := HO3
    have y0 : w3.cell? ⟨w.heap.size + 1 + 1, 0, none⟩ = some (.int .i64 k) := HO4.out.y.cell 0
    have z0 : w3.cell? ⟨w.heap.size + 1, 0, none⟩ = some (.int .i64 0) := HO4.out.res.cell 0
    have v0 : w3.frozen? ⟨w.heap.size + 1, 0, none⟩ = false := HO4.out.res.frozen (by simp [zNd])
    have y1 : w3.cell? ⟨w.heap.size + 1 + 1, 1, none⟩ = some (.int .i64 L) := HO4.out.y.cell 1
    have z1 : w3.cell? ⟨w.heap.size + 1, 1, none⟩ = some (.int .i64 0) := HO4.out.res.cell 1
    have v1 : w3.frozen? ⟨w.heap.size + 1, 1, none⟩ = false := HO4.out.res.frozen (by simp [zNd])
    have y2 : w3.cell? ⟨w.heap.size + 1 + 1, 2, none⟩ = some (.int .i64 0) := HO4.out.y.cell 2
    have z2 : w3.cell? ⟨w.heap.size + 1, 2, none⟩ = some (.int .i64 0) := HO4.out.res.cell 2
    have v2 : w3.frozen? ⟨w.heap.size + 1, 2, none⟩ = false := HO4.out.res.frozen (by simp [zNd])
    have y3 : w3.cell? ⟨w.heap.size + 1 + 1, 3, none⟩ = some (.slice ua um uc) := HO4.out.y.cell 3
    have z3 : w3.cell? ⟨w.heap.size + 1, 3, none⟩ = some (.slice none 0 0) := HO4.out.res.cell 3
    have v3 : w3.frozen? ⟨w.heap.size + 1, 3, none⟩ = false := HO4.out.res.frozen (by simp [zNd])
    have y4 : w3.cell? ⟨w.heap.size + 1 + 1, 4, none⟩ = some (.slice none 0 0) := HO4.out.y.cell 4
    have z4 : w3.cell? ⟨w.heap.size + 1, 4, none⟩ = some (.slice none 0 0) := HO4.out.res.cell 4
    have v4 : w3.frozen? ⟨w.heap.size + 1, 4, none⟩ = false := HO4.out.res.frozen (by simp [zNd])
    have y5 : w3.cell? ⟨w.heap.size + 1 + 1, 5, none⟩ = some (.slice none 0 0) := HO4.out.y.cell 5
    have z5 : w3.cell? ⟨w.heap.size + 1, 5, none⟩ = some (.slice none 0 0) := HO4.out.res.cell 5
    have v5 : w3.frozen? ⟨w.heap.size + 1, 5, none⟩ = false := HO4.out.res.frozen (by simp [zNd])
    have y6 : w3.cell? ⟨w.heap.size + 1 + 1, 6, none⟩ = some (.string ⟨#[]⟩) := HO4.out.y.cell 6
    have z6 : w3.cell? ⟨w.heap.size + 1, 6, none⟩ = some (.string ⟨#[]⟩) := HO4.out.res.cell 6
    have v6 : w3.frozen? ⟨w.heap.size + 1, 6, none⟩ = false := HO4.out.res.frozen (by simp [zNd])
    have y7 : w3.cell? ⟨w.heap.size + 1 + 1, 7, none⟩ = some (.slice none 0 0) := HO4.out.y.cell 7
    have z7 : w3.cell? ⟨w.heap.size + 1, 7, none⟩ = some (.slice none 0 0) := HO4.out.res.cell 7
    have v7 : w3.frozen? ⟨w.heap.size + 1, 7, none⟩ = false := HO4.out.res.frozen (by simp [zNd])
    have y8 : w3.cell? ⟨w.heap.size + 1 + 1, 8, none⟩ = some (.bool false) := HO4.out.y.cell 8
    have z8 : w3.cell? ⟨w.heap.size + 1, 8, none⟩ = some (.bool false) := HO4.out.res.cell 8
    have v8 : w3.frozen? ⟨w.heap.size + 1, 8, none⟩ = false := HO4.out.res.frozen (by simp [zNd])
    have y9 : w3.cell? ⟨w.heap.size + 1 + 1, 9, none⟩ = some (.bool false) := HO4.out.y.cell 9
    have z9 : w3.cell? ⟨w.heap.size + 1, 9, none⟩ = some (.bool false) := HO4.out.res.cell 9
    have v9 : w3.frozen? ⟨w.heap.size + 1, 9, none⟩ = false := HO4.out.res.frozen (by simp [zNd])
    obtain ⟨hbel, hblk, hoth, hsz⟩ := HO4.out.fin
    have k0 := hblk
    have HF := Lib.hid (And.intro hbel (And.intro hblk (And.intro hoth hsz)))
    clear hbel hblk hoth hsz k0 HI4 HI5
    go_wp2_with fail
    have hblk := HF.out.2.1
    have k0 := hblk.cell 0
    have k1 := hblk.cell 1
    have k2 := hblk.cell 2
    have k3 := hblk.cell 3
    have k4 := hblk.cell 4
    have k5 := hblk.cell 5
    have k6 := hblk.cell 6
    have k7 := hblk.cell 7
    have k8 := hblk.cell 8
    have k9 := hblk.cell 9
    unfold set10 at k0 k1 k2 k3 k4 k5 k6 k7 k8 k9
    simp [ncell, pv] at k0 k1 k2 k3 k4 k5 k6 k7 k8 k9
    refine bodyPost_ret (v := .agg #[.int .i64 k, .int .i64 L, .int .i64 0, .slice ua um uc, .slice none 0 0, .slice none 0 0, .string ⟨#[]⟩, .slice none 0 0, .bool false, .bool false]) (by simp [results, Tryd.results80, go_sem, k0, k1, k2, k3, k4, k5, k6, k7, k8, k9]) rfl ?_
    refine ⟨⟨k, L, 0, (ua, um, uc), (none, 0, 0), (none, 0, 0), [], (none, 0, 0), false, false⟩, rfl, rfl, ?_, HF.out.1⟩
    have hHH := HH.out
    obtain ⟨hbel, -, hoth, hsz⟩ := HF.out
    refine ⟨rfl, (show L = clipI 0 1099511627775 h.line from hL.symm.trans (congrArg (clipI 0 1099511627775) hHH.line)), ?_, ?_, ?_, ?_, ?_, ?_, ?_⟩
    · show (0 : Int) = if k = 4 ∨ k = 5 then clipI 0 200 h.n else 0
      rw [if_neg (by have := HKD.out; omega)]
    · show FsS _ 2 gcell _ (pv (ua, um, uc)) (if 1 ≤ (k : Int) ∧ (k : Int) ≤ 4 then sqz h.text else [])
      rw [if_pos (by have := HKD.out; omega)]
      have hf := own_foot gcell_len HU3.out
      have key : ∀ b, (w1.heap.size ≤ b ∧ ∃ cur fz, w3.heap[b]? = some (.cells cur 56 fz)) → b ≠ w.heap.size + 1 ∧ b ≠ w.heap.size + 1 + 1 := fun b ⟨_, cur, fz, hb⟩ => HO3.out.apart hb (by decide)
      refine (hf.keep (fun b hb => hoth b (key b hb).1)).mono (fun b hb => .inr ⟨Nat.le_trans HB1.out hb.1, ?_⟩)
      obtain ⟨-, cur, fz, hb⟩ := hb
      exact Nat.lt_of_lt_of_eq (Array.getElem?_eq_some_iff.1 hb).1 hsz.symm
    · show GrS _ _ (pv (none, 0, 0)) (if (k : Int) = 6 then h.rows else [])
      rw [if_neg (by have := HKD.out; omega)]
      exact GrS.nil _ _
    · show ([] : List UInt8) = (if (k : Int) = 7 then mend h.grid else noGrid).cols
      rw [if_neg (by have := HKD.out; omega)]
      rfl
    · show TrS _ _ (pv (none, 0, 0)) (if (k : Int) = 7 then mend h.grid else noGrid).rows
      rw [if_neg (by have := HKD.out; omega)]
      exact TrS.nil _ _
    · show false = (if (k : Int) = 7 then mend h.grid else noGrid).box
      rw [if_neg (by have := HKD.out; omega)]
      rfl
    · show false = (if (k : Int) = 7 then mend h.grid else noGrid).all
      rw [if_neg (by have := HKD.out; omega)]
      rfl
  · by_cases h4 : k = 4
    · subst h4
      rw [decide_eq_true (by decide)] at HI0
      rw [decide_eq_true (by decide)] at HI5
      clear hA
      go_wp2_with fail
      refine HI0.out.mono ?_
      rintro e w1 ⟨rfl, hw1⟩
      have HO1 : Hid (OS w ⟨xk, xl, xn, (t1, t2, t3), (s1, s2, s3), (r1, r2, r3), co, (q1, q2, q3), xb, xa⟩ w1 ⟨4, L, 0, (none, 0, 0), (none, 0, 0), (none, 0, 0), [], (none, 0, 0), false, false⟩) := Lib.hid (by rw [hw1, ← H0.out]; exact HO.out.keep (below_lit W0 _))
      clear hw1 HI0 HO H0 HZ0 m0 m1
      have c3 : w1.cell? ⟨w.heap.size, 3, none⟩ = some (.slice t1 t2 t3) := HO1.out.box.cell 3
      have hT : Gs w1 (.slice t1 t2 t3) h.text := (HH.out.text.keep (kp_lit HS.out HO1.out.bel)).1
      have HSQ := Lib.hid (rsqueeze_any h.text _ w1 hT (by omega))
      clear hT
      go_wp2_with fail
      refine HSQ.out.mono ?_
      rintro e w2 ⟨u, rfl, hu, b2⟩
      obtain ⟨ua, uc, hue⟩ := (FOwn.sl gcell_len hu).len
      obtain ⟨um, hum⟩ : ∃ m, (sqz h.text).length = m := ⟨_, rfl⟩
      rw [hum] at hue
      subst hue
      have HO2 := Lib.hid (HO1.out.keep b2)
      have HB1 := Lib.hid HO1.out.bel.size
      have HU2 := Lib.hid hu
      have f3 : w2.frozen? ⟨w.heap.size + 1 + 1, 3, none⟩ = false := HO2.out.y.frozen (by simp [ncell])
      have g3 : w2.cell? ⟨w.heap.size + 1 + 1, 3, none⟩ = some (.slice none 0 0) := HO2.out.y.cell 3
      have hI := HI5.out (w2.setCell ⟨w.heap.size + 1 + 1, 3, none⟩ (.slice ua um uc))
      rw [szset] at hI
      have HI := Lib.hid hI
      clear hI hu hum b2 HSQ c3
      go_wp2_with fail
      refine HI.out.mono ?_
      rintro e w3 ⟨rfl, hw3⟩
      have HO3 : Hid (OS w ⟨xk, xl, xn, (t1, t2, t3), (s1, s2, s3), (r1, r2, r3), co, (q1, q2, q3), xb, xa⟩ w3 ⟨4, L, 0, (ua, um, uc), (none, 0, 0), (none, 0, 0), [], (none, 0, 0), false, false⟩) := Lib.hid (by rw [hw3]; exact (HO2.out.set (y' := ⟨4, L, 0, (ua, um, uc), (none, 0, 0), (none, 0, 0), [], (none, 0, 0), false, false⟩) 3 (.slice ua um uc) rfl).keep (below_lit _ _))
      have HU3 : Hid (GOwn w1.heap.size w3 (.slice ua um uc) (sqz h.text)) := Lib.hid (by rw [hw3]; exact (HU2.out.sam (SamT.set HO2.out.y (by decide) 3 _)).keep (below_lit _ _))
      clear hw3 HI HU2 HO2 f3 g3
      have c2 : w3.cell? ⟨w.heap.size, 2, none⟩ = some (.int .i64 xn) := HO3.out.box.cell 2
      obtain ⟨N, hN⟩ : ∃ N, clipI 0 200 xn = N := ⟨_, rfl⟩
      obtain ⟨N0, hN0⟩ : ∃ M, (if (200 : Int) < xn then (200 : Int) else xn) = M := ⟨_, rfl⟩
      have m2 := fun w => mnS_run xn 200 N0 hN0 w
      have m3 := fun w => mxS_run 0 N0 N (by rw [← hN0, clip_run, hN]) w
      have f2 : w3.frozen? ⟨w.heap.size + 1 + 1, 2, none⟩ = false := HO3.out.y.frozen (by simp [ncell])
      have g2 : w3.cell? ⟨w.heap.size + 1 + 1, 2, none⟩ = some (.int .i64 0) := HO3.out.y.cell 2
      have HNN := Lib.hid hN
      clear hN hN0
      have HO4 := Lib.hid (HO3.out.set (y' := ⟨4, L, N, (ua, um, uc), (none, 0, 0), (none, 0, 0), [], (none, 0, 0), false, false⟩) 2 (.int .i64 N) rfl)
      have y0 : (w3.setCell ⟨w.heap.size + 1 + 1, 2, none⟩ (.int .i64 N)).cell? ⟨w.heap.size + 1 + 1, 0, none⟩ = some (.int .i64 4) := HO4.out.y.cell 0
      have z0 : (w3.setCell ⟨w.heap.size + 1 + 1, 2, none⟩ (.int .i64 N)).cell? ⟨w.heap.size + 1, 0, none⟩ = some (.int .i64 0) := HO4.out.res.cell 0
      have v0 : (w3.setCell ⟨w.heap.size + 1 + 1, 2, none⟩ (.int .i64 N)).frozen? ⟨w.heap.size + 1, 0, none⟩ = false := HO4.out.res.frozen (by simp [zNd])
      have y1 : (w3.setCell ⟨w.heap.size + 1 + 1, 2, none⟩ (.int .i64 N)).cell? ⟨w.heap.size + 1 + 1, 1, none⟩ = some (.int .i64 L) := HO4.out.y.cell 1
      have z1 : (w3.setCell ⟨w.heap.size + 1 + 1, 2, none⟩ (.int .i64 N)).cell? ⟨w.heap.size + 1, 1, none⟩ = some (.int .i64 0) := HO4.out.res.cell 1
      have v1 : (w3.setCell ⟨w.heap.size + 1 + 1, 2, none⟩ (.int .i64 N)).frozen? ⟨w.heap.size + 1, 1, none⟩ = false := HO4.out.res.frozen (by simp [zNd])
      have y2 : (w3.setCell ⟨w.heap.size + 1 + 1, 2, none⟩ (.int .i64 N)).cell? ⟨w.heap.size + 1 + 1, 2, none⟩ = some (.int .i64 N) := HO4.out.y.cell 2
      have z2 : (w3.setCell ⟨w.heap.size + 1 + 1, 2, none⟩ (.int .i64 N)).cell? ⟨w.heap.size + 1, 2, none⟩ = some (.int .i64 0) := HO4.out.res.cell 2
      have v2 : (w3.setCell ⟨w.heap.size + 1 + 1, 2, none⟩ (.int .i64 N)).frozen? ⟨w.heap.size + 1, 2, none⟩ = false := HO4.out.res.frozen (by simp [zNd])
      have y3 : (w3.setCell ⟨w.heap.size + 1 + 1, 2, none⟩ (.int .i64 N)).cell? ⟨w.heap.size + 1 + 1, 3, none⟩ = some (.slice ua um uc) := HO4.out.y.cell 3
      have z3 : (w3.setCell ⟨w.heap.size + 1 + 1, 2, none⟩ (.int .i64 N)).cell? ⟨w.heap.size + 1, 3, none⟩ = some (.slice none 0 0) := HO4.out.res.cell 3
      have v3 : (w3.setCell ⟨w.heap.size + 1 + 1, 2, none⟩ (.int .i64 N)).frozen? ⟨w.heap.size + 1, 3, none⟩ = false := HO4.out.res.frozen (by simp [zNd])
      have y4 : (w3.setCell ⟨w.heap.size + 1 + 1, 2, none⟩ (.int .i64 N)).cell? ⟨w.heap.size + 1 + 1, 4, none⟩ = some (.slice none 0 0) := HO4.out.y.cell 4
      have z4 : (w3.setCell ⟨w.heap.size + 1 + 1, 2, none⟩ (.int .i64 N)).cell? ⟨w.heap.size + 1, 4, none⟩ = some (.slice none 0 0) := HO4.out.res.cell 4
      have v4 : (w3.setCell ⟨w.heap.size + 1 + 1, 2, none⟩ (.int .i64 N)).frozen? ⟨w.heap.size + 1, 4, none⟩ = false := HO4.out.res.frozen (by simp [zNd])
      have y5 : (w3.setCell ⟨w.heap.size + 1 + 1, 2, none⟩ (.int .i64 N)).cell? ⟨w.heap.size + 1 + 1, 5, none⟩ = some (.slice none 0 0) := HO4.out.y.cell 5
      have z5 : (w3.setCell ⟨w.heap.size + 1 + 1, 2, none⟩ (.int .i64 N)).cell? ⟨w.heap.size + 1, 5, none⟩ = some (.slice none 0 0) := HO4.out.res.cell 5
      have v5 : (w3.setCell ⟨w.heap.size + 1 + 1, 2, none⟩ (.int .i64 N)).frozen? ⟨w.heap.size + 1, 5, none⟩ = false := HO4.out.res.frozen (by simp [zNd])
      have y6 : (w3.setCell ⟨w.heap.size + 1 + 1, 2, none⟩ (.int .i64 N)).cell? ⟨w.heap.size + 1 + 1, 6, none⟩ = some (.string ⟨#[]⟩) := HO4.out.y.cell 6
      have z6 : (w3.setCell ⟨w.heap.size + 1 + 1, 2, none⟩ (.int .i64 N)).cell? ⟨w.heap.size + 1, 6, none⟩ = some (.string ⟨#[]⟩) := HO4.out.res.cell 6
      have v6 : (w3.setCell ⟨w.heap.size + 1 + 1, 2, none⟩ (.int .i64 N)).frozen? ⟨w.heap.size + 1, 6, none⟩ = false := HO4.out.res.frozen (by simp [zNd])
      have y7 : (w3.setCell ⟨w.heap.size + 1 + 1, 2, none⟩ (.int .i64 N)).cell? ⟨w.heap.size + 1 + 1, 7, none⟩ = some (.slice none 0 0) := HO4.out.y.cell 7
      have z7 : (w3.setCell ⟨w.heap.size + 1 + 1, 2, none⟩ (.int .i64 N)).cell? ⟨w.heap.size + 1, 7, none⟩ = some (.slice none 0 0) := HO4.out.res.cell 7
      have v7 : (w3.setCell ⟨w.heap.size + 1 + 1, 2, none⟩ (.int .i64 N)).frozen? ⟨w.heap.size + 1, 7, none⟩ = false := HO4.out.res.frozen (by simp [zNd])
      have y8 : (w3.setCell ⟨w.heap.size + 1 + 1, 2, none⟩ (.int .i64 N)).cell? ⟨w.heap.size + 1 + 1, 8, none⟩ = some (.bool false) := HO4.out.y.cell 8
      have z8 : (w3.setCell ⟨w.heap.size + 1 + 1, 2, none⟩ (.int .i64 N)).cell? ⟨w.heap.size + 1, 8, none⟩ = some (.bool false) := HO4.out.res.cell 8
      have v8 : (w3.setCell ⟨w.heap.size + 1 + 1, 2, none⟩ (.int .i64 N)).frozen? ⟨w.heap.size + 1, 8, none⟩ = false := HO4.out.res.frozen (by simp [zNd])
      have y9 : (w3.setCell ⟨w.heap.size + 1 + 1, 2, none⟩ (.int .i64 N)).cell? ⟨w.heap.size + 1 + 1, 9, none⟩ = some (.bool false) := HO4.out.y.cell 9
      have z9 : (w3.setCell ⟨w.heap.size + 1 + 1, 2, none⟩ (.int .i64 N)).cell? ⟨w.heap.size + 1, 9, none⟩ = some (.bool false) := HO4.out.res.cell 9
      have v9 : (w3.setCell ⟨w.heap.size + 1 + 1, 2, none⟩ (.int .i64 N)).frozen? ⟨w.heap.size + 1, 9, none⟩ = false := HO4.out.res.frozen (by simp [zNd])
      obtain ⟨hbel, hblk, hoth, hsz⟩ := HO4.out.fin
      have k0 := hblk
      have HF := Lib.hid (And.intro hbel (And.intro hblk (And.intro hoth hsz)))
      clear hbel hblk hoth hsz k0 HI4 HI5
      go_wp2_with fail
      have hblk := HF.out.2.1
      have k0 := hblk.cell 0
      have k1 := hblk.cell 1
      have k2 := hblk.cell 2
      have k3 := hblk.cell 3
      have k4 := hblk.cell 4
      have k5 := hblk.cell 5
      have k6 := hblk.cell 6
      have k7 := hblk.cell 7
      have k8 := hblk.cell 8
      have k9 := hblk.cell 9
      unfold set10 at k0 k1 k2 k3 k4 k5 k6 k7 k8 k9
      simp [ncell, pv] at k0 k1 k2 k3 k4 k5 k6 k7 k8 k9
      refine bodyPost_ret (v := .agg #[.int .i64 4, .int .i64 L, .int .i64 N, .slice ua um uc, .slice none 0 0, .slice none 0 0, .string ⟨#[]⟩, .slice none 0 0, .bool false, .bool false]) (by simp [results, Tryd.results80, go_sem, k0, k1, k2, k3, k4, k5, k6, k7, k8, k9]) rfl ?_
      refine ⟨⟨4, L, N, (ua, um, uc), (none, 0, 0), (none, 0, 0), [], (none, 0, 0), false, false⟩, rfl, rfl, ?_, HF.out.1⟩
      have hHH := HH.out
      obtain ⟨hbel, -, hoth, hsz⟩ := HF.out
      refine ⟨rfl, (show L = clipI 0 1099511627775 h.line from hL.symm.trans (congrArg (clipI 0 1099511627775) hHH.line)), ?_, ?_, ?_, ?_, ?_, ?_, ?_⟩
      · show N = if (4 : Int) = 4 ∨ (4 : Int) = 5 then clipI 0 200 h.n else 0
        rw [if_pos (by decide), ← HNN.out]
        exact congrArg _ hHH.n
      · show FsS _ 2 gcell _ (pv (ua, um, uc)) (if 1 ≤ (4 : Int) ∧ (4 : Int) ≤ 4 then sqz h.text else [])
        rw [if_pos (by decide)]
        have hf := own_foot gcell_len HU3.out
        have key : ∀ b, (w1.heap.size ≤ b ∧ ∃ cur fz, w3.heap[b]? = some (.cells cur 56 fz)) → b ≠ w.heap.size + 1 ∧ b ≠ w.heap.size + 1 + 1 := fun b ⟨_, cur, fz, hb⟩ => HO3.out.apart hb (by decide)
        refine (hf.keep (fun b hb => (hoth b (key b hb).1).trans (Below.heap_setCell _ _ _ _ (key b hb).2))).mono (fun b hb => .inr ⟨Nat.le_trans HB1.out hb.1, ?_⟩)
        obtain ⟨-, cur, fz, hb⟩ := hb
        exact Nat.lt_of_lt_of_eq (Array.getElem?_eq_some_iff.1 hb).1 (hsz.trans (szset _ _ _)).symm
      · show GrS _ _ (pv (none, 0, 0)) (if (4 : Int) = 6 then h.rows else [])
        rw [if_neg (by decide)]
        exact GrS.nil _ _
      · show ([] : List UInt8) = (if (4 : Int) = 7 then mend h.grid else noGrid).cols
        rw [if_neg (by decide)]
        rfl
      · show TrS _ _ (pv (none, 0, 0)) (if (4 : Int) = 7 then mend h.grid else noGrid).rows
        rw [if_neg (by decide)]
        exact TrS.nil _ _
      · show false = (if (4 : Int) = 7 then mend h.grid else noGrid).box
        rw [if_neg (by decide)]
        rfl
      · show false = (if (4 : Int) = 7 then mend h.grid else noGrid).all
        rw [if_neg (by decide)]
        rfl
    · by_cases h5 : k = 5
      · subst h5
        rw [decide_eq_false (by decide)] at HI0
        rw [decide_eq_true (by decide)] at HI5
        clear hA h4
        go_wp2_with fail
        refine HI0.out.mono ?_
        rintro e w1 ⟨rfl, hw1⟩
        have HO1 : Hid (OS w ⟨xk, xl, xn, (t1, t2, t3), (s1, s2, s3), (r1, r2, r3), co, (q1, q2, q3), xb, xa⟩ w1 ⟨5, L, 0, (none, 0, 0), (none, 0, 0), (none, 0, 0), [], (none, 0, 0), false, false⟩) := Lib.hid (by rw [hw1, ← H0.out]; exact HO.out.keep (below_lit W0 _))
        clear hw1 HI0 HO H0 HZ0 m0 m1
        have hI := HI5.out w1
        have HI := Lib.hid hI
        clear hI
        go_wp2_with fail
        refine HI.out.mono ?_
        rintro e w3 ⟨rfl, hw3⟩
        have HO3 : Hid (OS w ⟨xk, xl, xn, (t1, t2, t3), (s1, s2, s3), (r1, r2, r3), co, (q1, q2, q3), xb, xa⟩ w3 ⟨5, L, 0, (none, 0, 0), (none, 0, 0), (none, 0, 0), [], (none, 0, 0), false, false⟩) := Lib.hid (by rw [hw3]; exact HO1.out.keep (below_lit _ _))
        clear hw3 HI
        have c2 : w3.cell? ⟨w.heap.size, 2, none⟩ = some (.int .i64 xn) := HO3.out.box.cell 2
        obtain ⟨N, hN⟩ : ∃ N, clipI 0 200 xn = N := ⟨_, rfl⟩
        obtain ⟨N0, hN0⟩ : ∃ M, (if (200 : Int) < xn then (200 : Int) else xn) = M := ⟨_, rfl⟩
        have m2 := fun w => mnS_run xn 200 N0 hN0 w
        have m3 := fun w => mxS_run 0 N0 N (by rw [← hN0, clip_run, hN]) w
        have f2 : w3.frozen? ⟨w.heap.size + 1 + 1, 2, none⟩ = false := HO3.out.y.frozen (by simp [ncell])
        have g2 : w3.cell? ⟨w.heap.size + 1 + 1, 2, none⟩ = some (.int .i64 0) := HO3.out.y.cell 2
        have HNN := Lib.hid hN
        clear hN hN0
        have HO4 := Lib.hid (HO3.out.set (y' := ⟨5, L, N, (none, 0, 0), (none, 0, 0), (none, 0, 0), [], (none, 0, 0), false, false⟩) 2 (.int .i64 N) rfl)
        have y0 : (w3.setCell ⟨w.heap.size + 1 + 1, 2, none⟩ (.int .i64 N)).cell? ⟨w.heap.size + 1 + 1, 0, none⟩ = some (.int .i64 5) := HO4.out.y.cell 0
        have z0 : (w3.setCell ⟨w.heap.size + 1 + 1, 2, none⟩ (.int .i64 N)).cell? ⟨w.heap.size + 1, 0, none⟩ = some (.int .i64 0) := HO4.out.res.cell 0
        have v0 : (w3.setCell ⟨w.heap.size + 1 + 1, 2, none⟩ (.int .i64 N)).frozen? ⟨w.heap.size + 1, 0, none⟩ = false := HO4.out.res.frozen (by simp [zNd])
        have y1 : (w3.setCell ⟨w.heap.size + 1 + 1, 2, none⟩ (.int .i64 N)).cell? ⟨w.heap.size + 1 + 1, 1, none⟩ = some (.int .i64 L) := HO4.out.y.cell 1
        have z1 : (w3.setCell ⟨w.heap.size + 1 + 1, 2, none⟩ (.int .i64 N)).cell? ⟨w.heap.size + 1, 1, none⟩ = some (.int .i64 0) := HO4.out.res.cell 1
        have v1 : (w3.setCell ⟨w.heap.size + 1 + 1, 2, none⟩ (.int .i64 N)).frozen? ⟨w.heap.size + 1, 1, none⟩ = false := HO4.out.res.frozen (by simp [zNd])
        have y2 : (w3.setCell ⟨w.heap.size + 1 + 1, 2, none⟩ (.int .i64 N)).cell? ⟨w.heap.size + 1 + 1, 2, none⟩ = some (.int .i64 N) := HO4.out.y.cell 2
        have z2 : (w3.setCell ⟨w.heap.size + 1 + 1, 2, none⟩ (.int .i64 N)).cell? ⟨w.heap.size + 1, 2, none⟩ = some (.int .i64 0) := HO4.out.res.cell 2
        have v2 : (w3.setCell ⟨w.heap.size + 1 + 1, 2, none⟩ (.int .i64 N)).frozen? ⟨w.heap.size + 1, 2, none⟩ = false := HO4.out.res.frozen (by simp [zNd])
        have y3 : (w3.setCell ⟨w.heap.size + 1 + 1, 2, none⟩ (.int .i64 N)).cell? ⟨w.heap.size + 1 + 1, 3, none⟩ = some (.slice none 0 0) := HO4.out.y.cell 3
        have z3 : (w3.setCell ⟨w.heap.size + 1 + 1, 2, none⟩ (.int .i64 N)).cell? ⟨w.heap.size + 1, 3, none⟩ = some (.slice none 0 0) := HO4.out.res.cell 3
        have v3 : (w3.setCell ⟨w.heap.size + 1 + 1, 2, none⟩ (.int .i64 N)).frozen? ⟨w.heap.size + 1, 3, none⟩ = false := HO4.out.res.frozen (by simp [zNd])
        have y4 : (w3.setCell ⟨w.heap.size + 1 + 1, 2, none⟩ (.int .i64 N)).cell? ⟨w.heap.size + 1 + 1, 4, none⟩ = some (.slice none 0 0) := HO4.out.y.cell 4
        have z4 : (w3.setCell ⟨w.heap.size + 1 + 1, 2, none⟩ (.int .i64 N)).cell? ⟨w.heap.size + 1, 4, none⟩ = some (.slice none 0 0) := HO4.out.res.cell 4
        have v4 : (w3.setCell ⟨w.heap.size + 1 + 1, 2, none⟩ (.int .i64 N)).frozen? ⟨w.heap.size + 1, 4, none⟩ = false := HO4.out.res.frozen (by simp [zNd])
        have y5 : (w3.setCell ⟨w.heap.size + 1 + 1, 2, none⟩ (.int .i64 N)).cell? ⟨w.heap.size + 1 + 1, 5, none⟩ = some (.slice none 0 0) := HO4.out.y.cell 5
        have z5 : (w3.setCell ⟨w.heap.size + 1 + 1, 2, none⟩ (.int .i64 N)).cell? ⟨w.heap.size + 1, 5, none⟩ = some (.slice none 0 0) := HO4.out.res.cell 5
        have v5 : (w3.setCell ⟨w.heap.size + 1 + 1, 2, none⟩ (.int .i64 N)).frozen? ⟨w.heap.size + 1, 5, none⟩ = false := HO4.out.res.frozen (by simp [zNd])
        have y6 : (w3.setCell ⟨w.heap.size + 1 + 1, 2, none⟩ (.int .i64 N)).cell? ⟨w.heap.size + 1 + 1, 6, none⟩ = some (.string ⟨#[]⟩) := HO4.out.y.cell 6
        have z6 : (w3.setCell ⟨w.heap.size + 1 + 1, 2, none⟩ (.int .i64 N)).cell? ⟨w.heap.size + 1, 6, none⟩ = some (.string ⟨#[]⟩) := HO4.out.res.cell 6
        have v6 : (w3.setCell ⟨w.heap.size + 1 + 1, 2, none⟩ (.int .i64 N)).frozen? ⟨w.heap.size + 1, 6, none⟩ = false := HO4.out.res.frozen (by simp [zNd])
        have y7 : (w3.setCell ⟨w.heap.size + 1 + 1, 2, none⟩ (.int .i64 N)).cell? ⟨w.heap.size + 1 + 1, 7, none⟩ = some (.slice none 0 0) := HO4.out.y.cell 7
        have z7 : (w3.setCell ⟨w.heap.size + 1 + 1, 2, none⟩ (.int .i64 N)).cell? ⟨w.heap.size + 1, 7, none⟩ = some (.slice none 0 0) := HO4.out.res.cell 7
        have v7 : (w3.setCell ⟨w.heap.size + 1 + 1, 2, none⟩ (.int .i64 N)).frozen? ⟨w.heap.size + 1, 7, none⟩ = false := HO4.out.res.frozen (by simp [zNd])
        have y8 : (w3.setCell ⟨w.heap.size + 1 + 1, 2, none⟩ (.int .i64 N)).cell? ⟨w.heap.size + 1 + 1, 8, none⟩ = some (.bool false) := HO4.out.y.cell 8
        have z8 : (w3.setCell ⟨w.heap.size + 1 + 1, 2, none⟩ (.int .i64 N)).cell? ⟨w.heap.size + 1, 8, none⟩ = some (.bool false) := HO4.out.res.cell 8
        have v8 : (w3.setCell ⟨w.heap.size + 1 + 1, 2, none⟩ (.int .i64 N)).frozen? ⟨w.heap.size + 1, 8, none⟩ = false := HO4.out.res.frozen (by simp [zNd])
        have y9 : (w3.setCell ⟨w.heap.size + 1 + 1, 2, none⟩ (.int .i64 N)).cell? ⟨w.heap.size + 1 + 1, 9, none⟩ = some (.bool false) := HO4.out.y.cell 9
        have z9 : (w3.setCell ⟨w.heap.size + 1 + 1, 2, none⟩ (.int .i64 N)).cell? ⟨w.heap.size + 1, 9, none⟩ = some (.bool false) := HO4.out.res.cell 9
        have v9 : (w3.setCell ⟨w.heap.size + 1 + 1, 2, none⟩ (.int .i64 N)).frozen? ⟨w.heap.size + 1, 9, none⟩ = false := HO4.out.res.frozen (by simp [zNd])
        obtain ⟨hbel, hblk, hoth, hsz⟩ := HO4.out.fin
        have k0 := hblk
        have HF := Lib.hid (And.intro hbel (And.intro hblk (And.intro hoth hsz)))
        clear hbel hblk hoth hsz k0 HI4 HI5
        go_wp2_with fail
        have hblk := HF.out.2.1
        have k0 := hblk.cell 0
        have k1 := hblk.cell 1
        have k2 := hblk.cell 2
        have k3 := hblk.cell 3
        have k4 := hblk.cell 4
        have k5 := hblk.cell 5
        have k6 := hblk.cell 6
        have k7 := hblk.cell 7
        have k8 := hblk.cell 8
        have k9 := hblk.cell 9
        unfold set10 at k0 k1 k2 k3 k4 k5 k6 k7 k8 k9
        simp [ncell, pv] at k0 k1 k2 k3 k4 k5 k6 k7 k8 k9
        refine bodyPost_ret (v := .agg #[.int .i64 5, .int .i64 L, .int .i64 N, .slice none 0 0, .slice none 0 0, .slice none 0 0, .string ⟨#[]⟩, .slice none 0 0, .bool false, .bool false]) (by simp [results, Tryd.results80, go_sem, k0, k1, k2, k3, k4, k5, k6, k7, k8, k9]) rfl ?_
        refine ⟨⟨5, L, N, (none, 0, 0), (none, 0, 0), (none, 0, 0), [], (none, 0, 0), false, false⟩, rfl, rfl, ?_, HF.out.1⟩
        have hHH := HH.out
        obtain ⟨hbel, -, hoth, hsz⟩ := HF.out
        refine ⟨rfl, (show L = clipI 0 1099511627775 h.line from hL.symm.trans (congrArg (clipI 0 1099511627775) hHH.line)), ?_, ?_, ?_, ?_, ?_, ?_, ?_⟩
        · show N = if (5 : Int) = 4 ∨ (5 : Int) = 5 then clipI 0 200 h.n else 0
          rw [if_pos (by decide), ← HNN.out]
          exact congrArg _ hHH.n
        · show FsS _ 2 gcell _ (pv (none, 0, 0)) (if 1 ≤ (5 : Int) ∧ (5 : Int) ≤ 4 then sqz h.text else [])
          rw [if_neg (by decide)]
          exact FsS.nil _ _ _ _
        · show GrS _ _ (pv (none, 0, 0)) (if (5 : Int) = 6 then h.rows else [])
          rw [if_neg (by decide)]
          exact GrS.nil _ _
        · show ([] : List UInt8) = (if (5 : Int) = 7 then mend h.grid else noGrid).cols
          rw [if_neg (by decide)]
          rfl
        · show TrS _ _ (pv (none, 0, 0)) (if (5 : Int) = 7 then mend h.grid else noGrid).rows
          rw [if_neg (by decide)]
          exact TrS.nil _ _
        · show false = (if (5 : Int) = 7 then mend h.grid else noGrid).box
          rw [if_neg (by decide)]
          rfl
        · show false = (if (5 : Int) = 7 then mend h.grid else noGrid).all
          rw [if_neg (by decide)]
          rfl
      · by_cases h6 : k = 6
        · subst h6
          rw [decide_eq_false (by decide)] at HI0
          rw [decide_eq_false (by decide)] at HI5
          clear hA h4 h5
          go_wp2_with fail
          refine HI0.out.mono ?_
          rintro e w1 ⟨rfl, hw1⟩
          have HO1 : Hid (OS w ⟨xk, xl, xn, (t1, t2, t3), (s1, s2, s3), (r1, r2, r3), co, (q1, q2, q3), xb, xa⟩ w1 ⟨6, L, 0, (none, 0, 0), (none, 0, 0), (none, 0, 0), [], (none, 0, 0), false, false⟩) := Lib.hid (by rw [hw1, ← H0.out]; exact HO.out.keep (below_lit W0 _))
          clear hw1 HI0 HO H0 HZ0 m0 m1
          have hI := HI5.out w1
          have HI := Lib.hid hI
          clear hI
          go_wp2_with fail
          refine HI.out.mono ?_
          rintro e w3 ⟨rfl, hw3⟩
          have HO3 : Hid (OS w ⟨xk, xl, xn, (t1, t2, t3), (s1, s2, s3), (r1, r2, r3), co, (q1, q2, q3), xb, xa⟩ w3 ⟨6, L, 0, (none, 0, 0), (none, 0, 0), (none, 0, 0), [], (none, 0, 0), false, false⟩) := Lib.hid (by rw [hw3]; exact HO1.out.keep (below_lit _ _))
          clear hw3 HI
          have c5 : w3.cell? ⟨w.heap.size, 5, none⟩ = some (.slice r1 r2 r3) := HO3.out.box.cell 5
          have f5 : w3.frozen? ⟨w.heap.size + 1 + 1, 5, none⟩ = false := HO3.out.y.frozen (by simp [ncell])
          have g5 : w3.cell? ⟨w.heap.size + 1 + 1, 5, none⟩ = some (.slice none 0 0) := HO3.out.y.cell 5
          have HO4 := Lib.hid (HO3.out.set (y' := ⟨6, L, 0, (none, 0, 0), (none, 0, 0), (r1, r2, r3), [], (none, 0, 0), false, false⟩) 5 (.slice r1 r2 r3) rfl)
          have y0 : (w3.setCell ⟨w.heap.size + 1 + 1, 5, none⟩ (.slice r1 r2 r3)).cell? ⟨w.heap.size + 1 + 1, 0, none⟩ = some (.int .i64 6) := HO4.out.y.cell 0
          have z0 : (w3.setCell ⟨w.heap.size + 1 + 1, 5, none⟩ (.slice r1 r2 r3)).cell? ⟨w.heap.size + 1, 0, none⟩ = some (.int .i64 0) := HO4.out.res.cell 0
          have v0 : (w3.setCell ⟨w.heap.size + 1 + 1, 5, none⟩ (.slice r1 r2 r3)).frozen? ⟨w.heap.size + 1, 0, none⟩ = false := HO4.out.res.frozen (by simp [zNd])
          have y1 : (w3.setCell ⟨w.heap.size + 1 + 1, 5, none⟩ (.slice r1 r2 r3)).cell? ⟨w.heap.size + 1 + 1, 1, none⟩ = some (.int .i64 L) := HO4.out.y.cell 1
          have z1 : (w3.setCell ⟨w.heap.size + 1 + 1, 5, none⟩ (.slice r1 r2 r3)).cell? ⟨w.heap.size + 1, 1, none⟩ = some (.int .i64 0) := HO4.out.res.cell 1
          have v1 : (w3.setCell ⟨w.heap.size + 1 + 1, 5, none⟩ (.slice r1 r2 r3)).frozen? ⟨w.heap.size + 1, 1, none⟩ = false := HO4.out.res.frozen (by simp [zNd])
          have y2 : (w3.setCell ⟨w.heap.size + 1 + 1, 5, none⟩ (.slice r1 r2 r3)).cell? ⟨w.heap.size + 1 + 1, 2, none⟩ = some (.int .i64 0) := HO4.out.y.cell 2
          have z2 : (w3.setCell ⟨w.heap.size + 1 + 1, 5, none⟩ (.slice r1 r2 r3)).cell? ⟨w.heap.size + 1, 2, none⟩ = some (.int .i64 0) := HO4.out.res.cell 2
          have v2 : (w3.setCell ⟨w.heap.size + 1 + 1, 5, none⟩ (.slice r1 r2 r3)).frozen? ⟨w.heap.size + 1, 2, none⟩ = false := HO4.out.res.frozen (by simp [zNd])
          have y3 : (w3.setCell ⟨w.heap.size + 1 + 1, 5, none⟩ (.slice r1 r2 r3)).cell? ⟨w.heap.size + 1 + 1, 3, none⟩ = some (.slice none 0 0) := HO4.out.y.cell 3
          have z3 : (w3.setCell ⟨w.heap.size + 1 + 1, 5, none⟩ (.slice r1 r2 r3)).cell? ⟨w.heap.size + 1, 3, none⟩ = some (.slice none 0 0) := HO4.out.res.cell 3
          have v3 : (w3.setCell ⟨w.heap.size + 1 + 1, 5, none⟩ (.slice r1 r2 r3)).frozen? ⟨w.heap.size + 1, 3, none⟩ = false := HO4.out.res.frozen (by simp [zNd])
          have y4 : (w3.setCell ⟨w.heap.size + 1 + 1, 5, none⟩ (.slice r1 r2 r3)).cell? ⟨w.heap.size + 1 + 1, 4, none⟩ = some (.slice none 0 0) := HO4.out.y.cell 4
          have z4 : (w3.setCell ⟨w.heap.size + 1 + 1, 5, none⟩ (.slice r1 r2 r3)).cell? ⟨w.heap.size + 1, 4, none⟩ = some (.slice none 0 0) := HO4.out.res.cell 4
          have v4 : (w3.setCell ⟨w.heap.size + 1 + 1, 5, none⟩ (.slice r1 r2 r3)).frozen? ⟨w.heap.size + 1, 4, none⟩ = false := HO4.out.res.frozen (by simp [zNd])
          have y5 : (w3.setCell ⟨w.heap.size + 1 + 1, 5, none⟩ (.slice r1 r2 r3)).cell? ⟨w.heap.size + 1 + 1, 5, none⟩ = some (.slice r1 r2 r3) := HO4.out.y.cell 5
          have z5 : (w3.setCell ⟨w.heap.size + 1 + 1, 5, none⟩ (.slice r1 r2 r3)).cell? ⟨w.heap.size + 1, 5, none⟩ = some (.slice none 0 0) := HO4.out.res.cell 5
          have v5 : (w3.setCell ⟨w.heap.size + 1 + 1, 5, none⟩ (.slice r1 r2 r3)).frozen? ⟨w.heap.size + 1, 5, none⟩ = false := HO4.out.res.frozen (by simp [zNd])
          have y6 : (w3.setCell ⟨w.heap.size + 1 + 1, 5, none⟩ (.slice r1 r2 r3)).cell? ⟨w.heap.size + 1 + 1, 6, none⟩ = some (.string ⟨#[]⟩) := HO4.out.y.cell 6
          have z6 : (w3.setCell ⟨w.heap.size + 1 + 1, 5, none⟩ (.slice r1 r2 r3)).cell? ⟨w.heap.size + 1, 6, none⟩ = some (.string ⟨#[]⟩) := HO4.out.res.cell 6
          have v6 : (w3.setCell ⟨w.heap.size + 1 + 1, 5, none⟩ (.slice r1 r2 r3)).frozen? ⟨w.heap.size + 1, 6, none⟩ = false := HO4.out.res.frozen (by simp [zNd])
          have y7 : (w3.setCell ⟨w.heap.size + 1 + 1, 5, none⟩ (.slice r1 r2 r3)).cell? ⟨w.heap.size + 1 + 1, 7, none⟩ = some (.slice none 0 0) := HO4.out.y.cell 7
          have z7 : (w3.setCell ⟨w.heap.size + 1 + 1, 5, none⟩ (.slice r1 r2 r3)).cell? ⟨w.heap.size + 1, 7, none⟩ = some (.slice none 0 0) := HO4.out.res.cell 7
          have v7 : (w3.setCell ⟨w.heap.size + 1 + 1, 5, none⟩ (.slice r1 r2 r3)).frozen? ⟨w.heap.size + 1, 7, none⟩ = false := HO4.out.res.frozen (by simp [zNd])
          have y8 : (w3.setCell ⟨w.heap.size + 1 + 1, 5, none⟩ (.slice r1 r2 r3)).cell? ⟨w.heap.size + 1 + 1, 8, none⟩ = some (.bool false) := HO4.out.y.cell 8
          have z8 : (w3.setCell ⟨w.heap.size + 1 + 1, 5, none⟩ (.slice r1 r2 r3)).cell? ⟨w.heap.size + 1, 8, none⟩ = some (.bool false) := HO4.out.res.cell 8
          have v8 : (w3.setCell ⟨w.heap.size + 1 + 1, 5, none⟩ (.slice r1 r2 r3)).frozen? ⟨w.heap.size + 1, 8, none⟩ = false := HO4.out.res.frozen (by simp [zNd])
          have y9 : (w3.setCell ⟨w.heap.size + 1 + 1, 5, none⟩ (.slice r1 r2 r3)).cell? ⟨w.heap.size + 1 + 1, 9, none⟩ = some (.bool false) := HO4.out.y.cell 9
          have z9 : (w3.setCell ⟨w.heap.size + 1 + 1, 5, none⟩ (.slice r1 r2 r3)).cell? ⟨w.heap.size + 1, 9, none⟩ = some (.bool false) := HO4.out.res.cell 9
          have v9 : (w3.setCell ⟨w.heap.size + 1 + 1, 5, none⟩ (.slice r1 r2 r3)).frozen? ⟨w.heap.size + 1, 9, none⟩ = false := HO4.out.res.frozen (by simp [zNd])
          obtain ⟨hbel, hblk, hoth, hsz⟩ := HO4.out.fin
          have k0 := hblk
          have HF := Lib.hid (And.intro hbel (And.intro hblk (And.intro hoth hsz)))
          clear hbel hblk hoth hsz k0 HI4 HI5
          go_wp2_with fail
          have hblk := HF.out.2.1
          have k0 := hblk.cell 0
          have k1 := hblk.cell 1
          have k2 := hblk.cell 2
          have k3 := hblk.cell 3
          have k4 := hblk.cell 4
          have k5 := hblk.cell 5
          have k6 := hblk.cell 6
          have k7 := hblk.cell 7
          have k8 := hblk.cell 8
          have k9 := hblk.cell 9
          unfold set10 at k0 k1 k2 k3 k4 k5 k6 k7 k8 k9
          simp [ncell, pv] at k0 k1 k2 k3 k4 k5 k6 k7 k8 k9
          refine bodyPost_ret (v := .agg #[.int .i64 6, .int .i64 L, .int .i64 0, .slice none 0 0, .slice none 0 0, .slice r1 r2 r3, .string ⟨#[]⟩, .slice none 0 0, .bool false, .bool false]) (by simp [results, Tryd.results80, go_sem, k0, k1, k2, k3, k4, k5, k6, k7, k8, k9]) rfl ?_
          refine ⟨⟨6, L, 0, (none, 0, 0), (none, 0, 0), (r1, r2, r3), [], (none, 0, 0), false, false⟩, rfl, rfl, ?_, HF.out.1⟩
          have hHH := HH.out
          obtain ⟨hbel, -, hoth, hsz⟩ := HF.out
          refine ⟨rfl, (show L = clipI 0 1099511627775 h.line from hL.symm.trans (congrArg (clipI 0 1099511627775) hHH.line)), ?_, ?_, ?_, ?_, ?_, ?_, ?_⟩
          · show (0 : Int) = if (6 : Int) = 4 ∨ (6 : Int) = 5 then clipI 0 200 h.n else 0
            rw [if_neg (by decide)]
          · show FsS _ 2 gcell _ (pv (none, 0, 0)) (if 1 ≤ (6 : Int) ∧ (6 : Int) ≤ 4 then sqz h.text else [])
            rw [if_neg (by decide)]
            exact FsS.nil _ _ _ _
          · show GrS _ _ (pv (r1, r2, r3)) (if (6 : Int) = 6 then h.rows else [])
            rw [if_pos rfl]
            exact (hHH.rows.keep (kp_lit HS.out hbel)).mono (fun b hb => .inl hb)
          · show ([] : List UInt8) = (if (6 : Int) = 7 then mend h.grid else noGrid).cols
            rw [if_neg (by decide)]
            rfl
          · show TrS _ _ (pv (none, 0, 0)) (if (6 : Int) = 7 then mend h.grid else noGrid).rows
            rw [if_neg (by decide)]
            exact TrS.nil _ _
          · show false = (if (6 : Int) = 7 then mend h.grid else noGrid).box
            rw [if_neg (by decide)]
            rfl
          · show false = (if (6 : Int) = 7 then mend h.grid else noGrid).all
            rw [if_neg (by decide)]
            rfl
        · by_cases h7 : k = 7
          · subst h7
            rw [decide_eq_false (by decide)] at HI0
            rw [decide_eq_false (by decide)] at HI5
            clear hA h4 h5 h6
            go_wp2_with fail
            refine HI0.out.mono ?_
            rintro e w1 ⟨rfl, hw1⟩
            have HO1 : Hid (OS w ⟨xk, xl, xn, (t1, t2, t3), (s1, s2, s3), (r1, r2, r3), co, (q1, q2, q3), xb, xa⟩ w1 ⟨7, L, 0, (none, 0, 0), (none, 0, 0), (none, 0, 0), [], (none, 0, 0), false, false⟩) := Lib.hid (by rw [hw1, ← H0.out]; exact HO.out.keep (below_lit W0 _))
            clear hw1 HI0 HO H0 HZ0 m0 m1
            have hI := HI5.out w1
            have HI := Lib.hid hI
            clear hI
            go_wp2_with fail
            refine HI.out.mono ?_
            rintro e w3 ⟨rfl, hw3⟩
            have HO3 : Hid (OS w ⟨xk, xl, xn, (t1, t2, t3), (s1, s2, s3), (r1, r2, r3), co, (q1, q2, q3), xb, xa⟩ w3 ⟨7, L, 0, (none, 0, 0), (none, 0, 0), (none, 0, 0), [], (none, 0, 0), false, false⟩) := Lib.hid (by rw [hw3]; exact HO1.out.keep (below_lit _ _))
            clear hw3 HI
            have c6 : w3.cell? ⟨w.heap.size, 6, none⟩ = some (.string ⟨co.toArray⟩) := HO3.out.box.cell 6
            have c7 : w3.cell? ⟨w.heap.size, 7, none⟩ = some (.slice q1 q2 q3) := HO3.out.box.cell 7
            have c8 : w3.cell? ⟨w.heap.size, 8, none⟩ = some (.bool xb) := HO3.out.box.cell 8
            have c9 : w3.cell? ⟨w.heap.size, 9, none⟩ = some (.bool xa) := HO3.out.box.cell 9
            have hM := rmend_any S h.grid (q1, q2, q3) w3 (HH.out.trows.keep (kp_lit HS.out HO3.out.bel)) (by omega) (by omega) (fun b hb => Nat.lt_of_lt_of_le (HS.out b hb) HO3.out.bel.size)
            unfold tabV pv at hM
            have e1 : co = h.grid.cols := HH.out.cols
            have e2 : xb = h.grid.box := HH.out.box
            have e3 : xa = h.grid.all := HH.out.all
            rw [← e1, ← e2, ← e3] at hM
            simp only at hM
            clear e1 e2 e3
            obtain ⟨G, hG⟩ : ∃ G, mend h.grid = G := ⟨_, rfl⟩
            rw [hG] at hM
            have HGG := Lib.hid hG
            have HM := Lib.hid hM
            clear hM hG
            go_wp2_with fail
            refine HM.out.mono ?_
            rintro e w5 ⟨⟨p1, p2, p3⟩, rfl, hp, b5⟩
            have HO5 := Lib.hid (HO3.out.keep b5)
            have HP5 := Lib.hid hp
            have HB3 := Lib.hid HO3.out.bel.size
            have HB5 := Lib.hid b5.size
            have HL3 : Hid (w.heap.size + 1 + 1 < w3.heap.size) := Lib.hid (Array.getElem?_eq_some_iff.1 HO3.out.y).1
            obtain ⟨G1, G2, G3, G4⟩ := G
            simp only
            have f6 : w5.frozen? ⟨w.heap.size + 1 + 1, 6, none⟩ = false := HO5.out.y.frozen (by simp [ncell])
            have g6 : w5.cell? ⟨w.heap.size + 1 + 1, 6, none⟩ = some (.string ⟨#[]⟩) := HO5.out.y.cell 6
            have f7 : w5.frozen? ⟨w.heap.size + 1 + 1, 7, none⟩ = false := HO5.out.y.frozen (by simp [ncell])
            have g7 : w5.cell? ⟨w.heap.size + 1 + 1, 7, none⟩ = some (.slice none 0 0) := HO5.out.y.cell 7
            have f8 : w5.frozen? ⟨w.heap.size + 1 + 1, 8, none⟩ = false := HO5.out.y.frozen (by simp [ncell])
            have g8 : w5.cell? ⟨w.heap.size + 1 + 1, 8, none⟩ = some (.bool false) := HO5.out.y.cell 8
            have f9 : w5.frozen? ⟨w.heap.size + 1 + 1, 9, none⟩ = false := HO5.out.y.frozen (by simp [ncell])
            have g9 : w5.cell? ⟨w.heap.size + 1 + 1, 9, none⟩ = some (.bool false) := HO5.out.y.cell 9
            have HO4 := Lib.hid ((((HO5.out.set (y' := ⟨7, L, 0, (none, 0, 0), (none, 0, 0), (none, 0, 0), G1, (none, 0, 0), false, false⟩) 6 (.string ⟨G1.toArray⟩) rfl).set (y' := ⟨7, L, 0, (none, 0, 0), (none, 0, 0), (none, 0, 0), G1, (p1, p2, p3), false, false⟩) 7 (.slice p1 p2 p3) rfl).set (y' := ⟨7, L, 0, (none, 0, 0), (none, 0, 0), (none, 0, 0), G1, (p1, p2, p3), G3, false⟩) 8 (.bool G3) rfl).set (y' := ⟨7, L, 0, (none, 0, 0), (none, 0, 0), (none, 0, 0), G1, (p1, p2, p3), G3, G4⟩) 9 (.bool G4) rfl)
            clear hp b5 HM HO3 c6 c7 c8 c9
            have y0 : ((((w5.setCell ⟨w.heap.size + 1 + 1, 6, none⟩ (.string ⟨G1.toArray⟩)).setCell ⟨w.heap.size + 1 + 1, 7, none⟩ (.slice p1 p2 p3)).setCell ⟨w.heap.size + 1 + 1, 8, none⟩ (.bool G3)).setCell ⟨w.heap.size + 1 + 1, 9, none⟩ (.bool G4)).cell? ⟨w.heap.size + 1 + 1, 0, none⟩ = some (.int .i64 7) := HO4.out.y.cell 0
            have z0 : ((((w5.setCell ⟨w.heap.size + 1 + 1, 6, none⟩ (.string ⟨G1.toArray⟩)).setCell ⟨w.heap.size + 1 + 1, 7, none⟩ (.slice p1 p2 p3)).setCell ⟨w.heap.size + 1 + 1, 8, none⟩ (.bool G3)).setCell ⟨w.heap.size + 1 + 1, 9, none⟩ (.bool G4)).cell? ⟨w.heap.size + 1, 0, none⟩ = some (.int .i64 0) := HO4.out.res.cell 0
            have v0 : ((((w5.setCell ⟨w.heap.size + 1 + 1, 6, none⟩ (.string ⟨G1.toArray⟩)).setCell ⟨w.heap.size + 1 + 1, 7, none⟩ (.slice p1 p2 p3)).setCell ⟨w.heap.size + 1 + 1, 8, none⟩ (.bool G3)).setCell ⟨w.heap.size + 1 + 1, 9, none⟩ (.bool G4)).frozen? ⟨w.heap.size + 1, 0, none⟩ = false := HO4.out.res.frozen (by simp [zNd])
            have y1 : ((((w5.setCell ⟨w.heap.size + 1 + 1, 6, none⟩ (.string ⟨G1.toArray⟩)).setCell ⟨w.heap.size + 1 + 1, 7, none⟩ (.slice p1 p2 p3)).setCell ⟨w.heap.size + 1 + 1, 8, none⟩ (.bool G3)).setCell ⟨w.heap.size + 1 + 1, 9, none⟩ (.bool G4)).cell? ⟨w.heap.size + 1 + 1, 1, none⟩ = some (.int .i64 L) := HO4.out.y.cell 1
            have z1 : ((((w5.setCell ⟨w.heap.size + 1 + 1, 6, none⟩ (.string ⟨G1.toArray⟩)).setCell ⟨w.heap.size + 1 + 1, 7, none⟩ (.slice p1 p2 p3)).setCell ⟨w.heap.size + 1 + 1, 8, none⟩ (.bool G3)).setCell ⟨w.heap.size + 1 + 1, 9, none⟩ (.bool G4)).cell? ⟨w.heap.size + 1, 1, none⟩ = some (.int .i64 0) := HO4.out.res.cell 1
            have v1 : ((((w5.setCell ⟨w.heap.size + 1 + 1, 6, none⟩ (.string ⟨G1.toArray⟩)).setCell ⟨w.heap.size + 1 + 1, 7, none⟩ (.slice p1 p2 p3)).setCell ⟨w.heap.size + 1 + 1, 8, none⟩ (.bool G3)).setCell ⟨w.heap.size + 1 + 1, 9, none⟩ (.bool G4)).frozen? ⟨w.heap.size + 1, 1, none⟩ = false := HO4.out.res.frozen (by simp [zNd])
            have y2 : ((((w5.setCell ⟨w.heap.size + 1 + 1, 6, none⟩ (.string ⟨G1.toArray⟩)).setCell ⟨w.heap.size + 1 + 1, 7, none⟩ (.slice p1 p2 p3)).setCell ⟨w.heap.size + 1 + 1, 8, none⟩ (.bool G3)).setCell ⟨w.heap.size + 1 + 1, 9, none⟩ (.bool G4)).cell? ⟨w.heap.size + 1 + 1, 2, none⟩ = some (.int .i64 0) := HO4.out.y.cell 2
            have z2 : ((((w5.setCell ⟨w.heap.size + 1 + 1, 6, none⟩ (.string ⟨G1.toArray⟩)).setCell ⟨w.heap.size + 1 + 1, 7, none⟩ (.slice p1 p2 p3)).setCell ⟨w.heap.size + 1 + 1, 8, none⟩ (.bool G3)).setCell ⟨w.heap.size + 1 + 1, 9, none⟩ (.bool G4)).cell? ⟨w.heap.size + 1, 2, none⟩ = some (.int .i64 0) := HO4.out.res.cell 2
            have v2 : ((((w5.setCell ⟨w.heap.size + 1 + 1, 6, none⟩ (.string ⟨G1.toArray⟩)).setCell ⟨w.heap.size + 1 + 1, 7, none⟩ (.slice p1 p2 p3)).setCell ⟨w.heap.size + 1 + 1, 8, none⟩ (.bool G3)).setCell ⟨w.heap.size + 1 + 1, 9, none⟩ (.bool G4)).frozen? ⟨w.heap.size + 1, 2, none⟩ = false := HO4.out.res.frozen (by simp [zNd])
            have y3 : ((((w5.setCell ⟨w.heap.size + 1 + 1, 6, none⟩ (.string ⟨G1.toArray⟩)).setCell ⟨w.heap.size + 1 + 1, 7, none⟩ (.slice p1 p2 p3)).setCell ⟨w.heap.size + 1 + 1, 8, none⟩ (.bool G3)).setCell ⟨w.heap.size + 1 + 1, 9, none⟩ (.bool G4)).cell? ⟨w.heap.size + 1 + 1, 3, none⟩ = some (.slice none 0 0) := HO4.out.y.cell 3
            have z3 : ((((w5.setCell ⟨w.heap.size + 1 + 1, 6, none⟩ (.string ⟨G1.toArray⟩)).setCell ⟨w.heap.size + 1 + 1, 7, none⟩ (.slice p1 p2 p3)).setCell ⟨w.heap.size + 1 + 1, 8, none⟩ (.bool G3)).setCell ⟨w.heap.size + 1 + 1, 9, none⟩ (.bool G4)).cell? ⟨w.heap.size + 1, 3, none⟩ = some (.slice none 0 0) := HO4.out.res.cell 3
            have v3 : ((((w5.setCell ⟨w.heap.size + 1 + 1, 6, none⟩ (.string ⟨G1.toArray⟩)).setCell ⟨w.heap.size + 1 + 1, 7, none⟩ (.slice p1 p2 p3)).setCell ⟨w.heap.size + 1 + 1, 8, none⟩ (.bool G3)).setCell ⟨w.heap.size + 1 + 1, 9, none⟩ (.bool G4)).frozen? ⟨w.heap.size + 1, 3, none⟩ = false := HO4.out.res.frozen (by simp [zNd])
            have y4 : ((((w5.setCell ⟨w.heap.size + 1 + 1, 6, none⟩ (.string ⟨G1.toArray⟩)).setCell ⟨w.heap.size + 1 + 1, 7, none⟩ (.slice p1 p2 p3)).setCell ⟨w.heap.size + 1 + 1, 8, none⟩ (.bool G3)).setCell ⟨w.heap.size + 1 + 1, 9, none⟩ (.bool G4)).cell? ⟨w.heap.size + 1 + 1, 4, none⟩ = some (.slice none 0 0) := HO4.out.y.cell 4
            have z4 : ((((w5.setCell ⟨w.heap.size + 1 + 1, 6, none⟩ (.string ⟨G1.toArray⟩)).setCell ⟨w.heap.size + 1 + 1, 7, none⟩ (.slice p1 p2 p3)).setCell ⟨w.heap.size + 1 + 1, 8, none⟩ (.bool G3)).setCell ⟨w.heap.size + 1 + 1, 9, none⟩ (.bool G4)).cell? ⟨w.heap.size + 1, 4, none⟩ = some (.slice none 0 0) := HO4.out.res.cell 4
            have v4 : ((((w5.setCell ⟨w.heap.size + 1 + 1, 6, none⟩ (.string ⟨G1.toArray⟩)).setCell ⟨w.heap.size + 1 + 1, 7, none⟩ (.slice p1 p2 p3)).setCell ⟨w.heap.size + 1 + 1, 8, none⟩ (.bool G3)).setCell ⟨w.heap.size + 1 + 1, 9, none⟩ (.bool G4)).frozen? ⟨w.heap.size + 1, 4, none⟩ = false := HO4.out.res.frozen (by simp [zNd])
            have y5 : ((((w5.setCell ⟨w.heap.size + 1 + 1, 6, none⟩ (.string ⟨G1.toArray⟩)).setCell ⟨w.heap.size + 1 + 1, 7, none⟩ (.slice p1 p2 p3)).setCell ⟨w.heap.size + 1 + 1, 8, none⟩ (.bool G3)).setCell ⟨w.heap.size + 1 + 1, 9, none⟩ (.bool G4)).cell? ⟨w.heap.size + 1 + 1, 5, none⟩ = some (.slice none 0 0) := HO4.out.y.cell 5
            have z5 : ((((w5.setCell ⟨w.heap.size + 1 + 1, 6, none⟩ (.string ⟨G1.toArray⟩)).setCell ⟨w.heap.size + 1 + 1, 7, none⟩ (.slice p1 p2 p3)).setCell ⟨w.heap.size + 1 + 1, 8, none⟩ (.bool G3)).setCell ⟨w.heap.size + 1 + 1, 9, none⟩ (.bool G4)).cell? ⟨w.heap.size + 1, 5, none⟩ = some (.slice none 0 0) := HO4.out.res.cell 5
            have v5 : ((((w5.setCell ⟨w.heap.size + 1 + 1, 6, none⟩ (.string ⟨G1.toArray⟩)).setCell ⟨w.heap.size + 1 + 1, 7, none⟩ (.slice p1 p2 p3)).setCell ⟨w.heap.size + 1 + 1, 8, none⟩ (.bool G3)).setCell ⟨w.heap.size + 1 + 1, 9, none⟩ (.bool G4)).frozen? ⟨w.heap.size + 1, 5, none⟩ = false := HO4.out.res.frozen (by simp [zNd])
            have y6 : ((((w5.setCell ⟨w.heap.size + 1 + 1, 6, none⟩ (.string ⟨G1.toArray⟩)).setCell ⟨w.heap.size + 1 + 1, 7, none⟩ (.slice p1 p2 p3)).setCell ⟨w.heap.size + 1 + 1, 8, none⟩ (.bool G3)).setCell ⟨w.heap.size + 1 + 1, 9, none⟩ (.bool G4)).cell? ⟨w.heap.size + 1 + 1, 6, none⟩ = some (.string ⟨G1.toArray⟩) := HO4.out.y.cell 6
            have z6 : ((((w5.setCell ⟨w.heap.size + 1 + 1, 6, none⟩ (.string ⟨G1.toArray⟩)).setCell ⟨w.heap.size + 1 + 1, 7, none⟩ (.slice p1 p2 p3)).setCell ⟨w.heap.size + 1 + 1, 8, none⟩ (.bool G3)).setCell ⟨w.heap.size + 1 + 1, 9, none⟩ (.bool G4)).cell? ⟨w.heap.size + 1, 6, none⟩ = some (.string ⟨#[]⟩) := HO4.out.res.cell 6
            have v6 : ((((w5.setCell ⟨w.heap.size + 1 + 1, 6, none⟩ (.string ⟨G1.toArray⟩)).setCell ⟨w.heap.size + 1 + 1, 7, none⟩ (.slice p1 p2 p3)).setCell ⟨w.heap.size + 1 + 1, 8, none⟩ (.bool G3)).setCell ⟨w.heap.size + 1 + 1, 9, none⟩ (.bool G4)).frozen? ⟨w.heap.size + 1, 6, none⟩ = false := HO4.out.res.frozen (by simp [zNd])
            have y7 : ((((w5.setCell ⟨w.heap.size + 1 + 1, 6, none⟩ (.string ⟨G1.toArray⟩)).setCell ⟨w.heap.size + 1 + 1, 7, none⟩ (.slice p1 p2 p3)).setCell ⟨w.heap.size + 1 + 1, 8, none⟩ (.bool G3)).setCell ⟨w.heap.size + 1 + 1, 9, none⟩ (.bool G4)).cell? ⟨w.heap.size + 1 + 1, 7, none⟩ = some (.slice p1 p2 p3) := HO4.out.y.cell 7
            have z7 : ((((w5.setCell ⟨w.heap.size + 1 + 1, 6, none⟩ (.string ⟨G1.toArray⟩)).setCell ⟨w.heap.size + 1 + 1, 7, none⟩ (.slice p1 p2 p3)).setCell ⟨w.heap.size + 1 + 1, 8, none⟩ (.bool G3)).setCell ⟨w.heap.size + 1 + 1, 9, none⟩ (.bool G4)).cell? ⟨w.heap.size + 1, 7, none⟩ = some (.slice none 0 0) := HO4.out.res.cell 7
            have v7 : ((((w5.setCell ⟨w.heap.size + 1 + 1, 6, none⟩ (.string ⟨G1.toArray⟩)).setCell ⟨w.heap.size + 1 + 1, 7, none⟩ (.slice p1 p2 p3)).setCell ⟨w.heap.size + 1 + 1, 8, none⟩ (.bool G3)).setCell ⟨w.heap.size + 1 + 1, 9, none⟩ (.bool G4)).frozen? ⟨w.heap.size + 1, 7, none⟩ = false := HO4.out.res.frozen (by simp [zNd])
            have y8 : ((((w5.setCell ⟨w.heap.size + 1 + 1, 6, none⟩ (.string ⟨G1.toArray⟩)).setCell ⟨w.heap.size + 1 + 1, 7, none⟩ (.slice p1 p2 p3)).setCell ⟨w.heap.size + 1 + 1, 8, none⟩ (.bool G3)).setCell ⟨w.heap.size + 1 + 1, 9, none⟩ (.bool G4)).cell? ⟨w.heap.size + 1 + 1, 8, none⟩ = some (.bool G3) := HO4.out.y.cell 8
            have z8 : ((((w5.setCell ⟨w.heap.size + 1 + 1, 6, none⟩ (.string ⟨G1.toArray⟩)).setCell ⟨w.heap.size + 1 + 1, 7, none⟩ (.slice p1 p2 p3)).setCell ⟨w.heap.size + 1 + 1, 8, none⟩ (.bool G3)).setCell ⟨w.heap.size + 1 + 1, 9, none⟩ (.bool G4)).cell? ⟨w.heap.size + 1, 8, none⟩ = some (.bool false) := HO4.out.res.cell 8
            have v8 : ((((w5.setCell ⟨w.heap.size + 1 + 1, 6, none⟩ (.string ⟨G1.toArray⟩)).setCell ⟨w.heap.size + 1 + 1, 7, none⟩ (.slice p1 p2 p3)).setCell ⟨w.heap.size + 1 + 1, 8, none⟩ (.bool G3)).setCell ⟨w.heap.size + 1 + 1, 9, none⟩ (.bool G4)).frozen? ⟨w.heap.size + 1, 8, none⟩ = false := HO4.out.res.frozen (by simp [zNd])
            have y9 : ((((w5.setCell ⟨w.heap.size + 1 + 1, 6, none⟩ (.string ⟨G1.toArray⟩)).setCell ⟨w.heap.size + 1 + 1, 7, none⟩ (.slice p1 p2 p3)).setCell ⟨w.heap.size + 1 + 1, 8, none⟩ (.bool G3)).setCell ⟨w.heap.size + 1 + 1, 9, none⟩ (.bool G4)).cell? ⟨w.heap.size + 1 + 1, 9, none⟩ = some (.bool G4) := HO4.out.y.cell 9
            have z9 : ((((w5.setCell ⟨w.heap.size + 1 + 1, 6, none⟩ (.string ⟨G1.toArray⟩)).setCell ⟨w.heap.size + 1 + 1, 7, none⟩ (.slice p1 p2 p3)).setCell ⟨w.heap.size + 1 + 1, 8, none⟩ (.bool G3)).setCell ⟨w.heap.size + 1 + 1, 9, none⟩ (.bool G4)).cell? ⟨w.heap.size + 1, 9, none⟩ = some (.bool false) := HO4.out.res.cell 9
            have v9 : ((((w5.setCell ⟨w.heap.size + 1 + 1, 6, none⟩ (.string ⟨G1.toArray⟩)).setCell ⟨w.heap.size + 1 + 1, 7, none⟩ (.slice p1 p2 p3)).setCell ⟨w.heap.size + 1 + 1, 8, none⟩ (.bool G3)).setCell ⟨w.heap.size + 1 + 1, 9, none⟩ (.bool G4)).frozen? ⟨w.heap.size + 1, 9, none⟩ = false := HO4.out.res.frozen (by simp [zNd])
            obtain ⟨hbel, hblk, hoth, hsz⟩ := HO4.out.fin
            have k0 := hblk
            have HF := Lib.hid (And.intro hbel (And.intro hblk (And.intro hoth hsz)))
            clear hbel hblk hoth hsz k0 HI4 HI5
            go_wp2_with fail
            have hblk := HF.out.2.1
            have k0 := hblk.cell 0
            have k1 := hblk.cell 1
            have k2 := hblk.cell 2
            have k3 := hblk.cell 3
            have k4 := hblk.cell 4
            have k5 := hblk.cell 5
            have k6 := hblk.cell 6
            have k7 := hblk.cell 7
            have k8 := hblk.cell 8
            have k9 := hblk.cell 9
            unfold set10 at k0 k1 k2 k3 k4 k5 k6 k7 k8 k9
            simp [ncell, pv] at k0 k1 k2 k3 k4 k5 k6 k7 k8 k9
            refine bodyPost_ret (v := .agg #[.int .i64 7, .int .i64 L, .int .i64 0, .slice none 0 0, .slice none 0 0, .slice none 0 0, .string ⟨G1.toArray⟩, .slice p1 p2 p3, .bool G3, .bool G4]) (by simp [results, Tryd.results80, go_sem, k0, k1, k2, k3, k4, k5, k6, k7, k8, k9]) rfl ?_
            refine ⟨⟨7, L, 0, (none, 0, 0), (none, 0, 0), (none, 0, 0), G1, (p1, p2, p3), G3, G4⟩, rfl, rfl, ?_, HF.out.1⟩
            have hHH := HH.out
            obtain ⟨hbel, -, hoth, hsz⟩ := HF.out
            refine ⟨rfl, (show L = clipI 0 1099511627775 h.line from hL.symm.trans (congrArg (clipI 0 1099511627775) hHH.line)), ?_, ?_, ?_, ?_, ?_, ?_, ?_⟩
            · show (0 : Int) = if (7 : Int) = 4 ∨ (7 : Int) = 5 then clipI 0 200 h.n else 0
              rw [if_neg (by decide)]
            · show FsS _ 2 gcell _ (pv (none, 0, 0)) (if 1 ≤ (7 : Int) ∧ (7 : Int) ≤ 4 then sqz h.text else [])
              rw [if_neg (by decide)]
              exact FsS.nil _ _ _ _
            · show GrS _ _ (pv (none, 0, 0)) (if (7 : Int) = 6 then h.rows else [])
              rw [if_neg (by decide)]
              exact GrS.nil _ _
            · show G1 = (if (7 : Int) = 7 then mend h.grid else noGrid).cols
              rw [if_pos rfl, HGG.out]
            · show TrS _ _ (pv (p1, p2, p3)) (if (7 : Int) = 7 then mend h.grid else noGrid).rows
              rw [if_pos rfl, HGG.out]
              have h3 := HL3.out
              have h4 := HB3.out
              refine (HP5.out.keep (fun b hb => ?_)).mono (fun b hb => .inr ⟨by omega, ?_⟩)
              · refine (hoth b (by omega)).trans ?_
                repeat rw [Below.heap_setCell _ _ _ _ (by show b ≠ w.heap.size + 1 + 1; omega)]
              · have hs3 := hsz
                simp only [szset] at hs3
                exact Nat.lt_of_lt_of_eq hb.2 hs3.symm
            · show G3 = (if (7 : Int) = 7 then mend h.grid else noGrid).box
              rw [if_pos rfl, HGG.out]
            · show G4 = (if (7 : Int) = 7 then mend h.grid else noGrid).all
              rw [if_pos rfl, HGG.out]
          · rw [decide_eq_false (show ¬ (1 ≤ k ∧ k ≤ 4) by omega)] at HI0
            rw [decide_eq_false (show ¬ (k = 4 ∨ k = 5) by omega)] at HI5
            have n6 : (k == 6) = false := by simpa using h6
            have n7 : (k == 7) = false := by simpa using h7
            have HKD : Hid (¬ (1 ≤ k ∧ k ≤ 7)) := Lib.hid (by omega)
            clear hA h4 h5 h6 h7
            go_wp2_with fail
            refine HI0.out.mono ?_
            rintro e w1 ⟨rfl, hw1⟩
            have HO1 : Hid (OS w ⟨xk, xl, xn, (t1, t2, t3), (s1, s2, s3), (r1, r2, r3), co, (q1, q2, q3), xb, xa⟩ w1 ⟨k, L, 0, (none, 0, 0), (none, 0, 0), (none, 0, 0), [], (none, 0, 0), false, false⟩) := Lib.hid (by rw [hw1, ← H0.out]; exact HO.out.keep (below_lit W0 _))
            clear hw1 HI0 HO H0 HZ0 m0 m1
            have hI := HI5.out w1
            have HI := Lib.hid hI
            clear hI
            go_wp2_with fail
            refine HI.out.mono ?_
            rintro e w3 ⟨rfl, hw3⟩
            have HO3 : Hid (OS w ⟨xk, xl, xn, (t1, t2, t3), (s1, s2, s3), (r1, r2, r3), co, (q1, q2, q3), xb, xa⟩ w3 ⟨k, L, 0, (none, 0, 0), (none, 0, 0), (none, 0, 0), [], (none, 0, 0), false, false⟩) := Lib.hid (by rw [hw3]; exact HO1.out.keep (below_lit _ _))
            clear hw3 HI
            have HO4 := HO3
            have y0 : w3.cell? ⟨w.heap.size + 1 + 1, 0, none⟩ = some (.int .i64 k) := HO4.out.y.cell 0
            have z0 : w3.cell? ⟨w.heap.size + 1, 0, none⟩ = some (.int .i64 0) := HO4.out.res.cell 0
            have v0 : w3.frozen? ⟨w.heap.size + 1, 0, none⟩ = false := HO4.out.res.frozen (by simp [zNd])
            have y1 : w3.cell? ⟨w.heap.size + 1 + 1, 1, none⟩ = some (.int .i64 L) := HO4.out.y.cell 1
            have z1 : w3.cell? ⟨w.heap.size + 1, 1, none⟩ = some (.int .i64 0) := HO4.out.res.cell 1
            have v1 : w3.frozen? ⟨w.heap.size + 1, 1, none⟩ = false := HO4.out.res.frozen (by simp [zNd])
            have y2 : w3.cell? ⟨w.heap.size + 1 + 1, 2, none⟩ = some (.int .i64 0) := HO4.out.y.cell 2
            have z2 : w3.cell? ⟨w.heap.size + 1, 2, none⟩ = some (.int .i64 0) := HO4.out.res.cell 2
            have v2 : w3.frozen? ⟨w.heap.size + 1, 2, none⟩ = false := HO4.out.res.frozen (by simp [zNd])
            have y3 : w3.cell? ⟨w.heap.size + 1 + 1, 3, none⟩ = some (.slice none 0 0) := HO4.out.y.cell 3
            have z3 : w3.cell? ⟨w.heap.size + 1, 3, none⟩ = some (.slice none 0 0) := HO4.out.res.cell 3
            have v3 : w3.frozen? ⟨w.heap.size + 1, 3, none⟩ = false := HO4.out.res.frozen (by simp [zNd])
            have y4 : w3.cell? ⟨w.heap.size + 1 + 1, 4, none⟩ = some (.slice none 0 0) := HO4.out.y.cell 4
            have z4 : w3.cell? ⟨w.heap.size + 1, 4, none⟩ = some (.slice none 0 0) := HO4.out.res.cell 4
            have v4 : w3.frozen? ⟨w.heap.size + 1, 4, none⟩ = false := HO4.out.res.frozen (by simp [zNd])
            have y5 : w3.cell? ⟨w.heap.size + 1 + 1, 5, none⟩ = some (.slice none 0 0) := HO4.out.y.cell 5
            have z5 : w3.cell? ⟨w.heap.size + 1, 5, none⟩ = some (.slice none 0 0) := HO4.out.res.cell 5
            have v5 : w3.frozen? ⟨w.heap.size + 1, 5, none⟩ = false := HO4.out.res.frozen (by simp [zNd])
            have y6 : w3.cell? ⟨w.heap.size + 1 + 1, 6, none⟩ = some (.string ⟨#[]⟩) := HO4.out.y.cell 6
            have z6 : w3.cell? ⟨w.heap.size + 1, 6, none⟩ = some (.string ⟨#[]⟩) := HO4.out.res.cell 6
            have v6 : w3.frozen? ⟨w.heap.size + 1, 6, none⟩ = false := HO4.out.res.frozen (by simp [zNd])
            have y7 : w3.cell? ⟨w.heap.size + 1 + 1, 7, none⟩ = some (.slice none 0 0) := HO4.out.y.cell 7
            have z7 : w3.cell? ⟨w.heap.size + 1, 7, none⟩ = some (.slice none 0 0) := HO4.out.res.cell 7
            have v7 : w3.frozen? ⟨w.heap.size + 1, 7, none⟩ = false := HO4.out.res.frozen (by simp [zNd])
            have y8 : w3.cell? ⟨w.heap.size + 1 + 1, 8, none⟩ = some (.bool false) := HO4.out.y.cell 8
            have z8 : w3.cell? ⟨w.heap.size + 1, 8, none⟩ = some (.bool false) := HO4.out.res.cell 8
            have v8 : w3.frozen? ⟨w.heap.size + 1, 8, none⟩ = false := HO4.out.res.frozen (by simp [zNd])
            have y9 : w3.cell? ⟨w.heap.size + 1 + 1, 9, none⟩ = some (.bool false) := HO4.out.y.cell 9
            have z9 : w3.cell? ⟨w.heap.size + 1, 9, none⟩ = some (.bool false) := HO4.out.res.cell 9
            have v9 : w3.frozen? ⟨w.heap.size + 1, 9, none⟩ = false := HO4.out.res.frozen (by simp [zNd])
            obtain ⟨hbel, hblk, hoth, hsz⟩ := HO4.out.fin
            have k0 := hblk
            have HF := Lib.hid (And.intro hbel (And.intro hblk (And.intro hoth hsz)))
            clear hbel hblk hoth hsz k0 HI4 HI5
            go_wp2_with fail
            have hblk := HF.out.2.1
            have k0 := hblk.cell 0
            have k1 := hblk.cell 1
            have k2 := hblk.cell 2
            have k3 := hblk.cell 3
            have k4 := hblk.cell 4
            have k5 := hblk.cell 5
            have k6 := hblk.cell 6
            have k7 := hblk.cell 7
            have k8 := hblk.cell 8
            have k9 := hblk.cell 9
            unfold set10 at k0 k1 k2 k3 k4 k5 k6 k7 k8 k9
            simp [ncell, pv] at k0 k1 k2 k3 k4 k5 k6 k7 k8 k9
            refine bodyPost_ret (v := .agg #[.int .i64 k, .int .i64 L, .int .i64 0, .slice none 0 0, .slice none 0 0, .slice none 0 0, .string ⟨#[]⟩, .slice none 0 0, .bool false, .bool false]) (by simp [results, Tryd.results80, go_sem, k0, k1, k2, k3, k4, k5, k6, k7, k8, k9]) rfl ?_
            refine ⟨⟨k, L, 0, (none, 0, 0), (none, 0, 0), (none, 0, 0), [], (none, 0, 0), false, false⟩, rfl, rfl, ?_, HF.out.1⟩
            have hHH := HH.out
            obtain ⟨hbel, -, hoth, hsz⟩ := HF.out
            refine ⟨rfl, (show L = clipI 0 1099511627775 h.line from hL.symm.trans (congrArg (clipI 0 1099511627775) hHH.line)), ?_, ?_, ?_, ?_, ?_, ?_, ?_⟩
            · show (0 : Int) = if k = 4 ∨ k = 5 then clipI 0 200 h.n else 0
              rw [if_neg (by have := HKD.out; omega)]
            · show FsS _ 2 gcell _ (pv (none, 0, 0)) (if 1 ≤ (k : Int) ∧ (k : Int) ≤ 4 then sqz h.text else [])
              rw [if_neg (by have := HKD.out; omega)]
              exact FsS.nil _ _ _ _
            · show GrS _ _ (pv (none, 0, 0)) (if (k : Int) = 6 then h.rows else [])
              rw [if_neg (by have := HKD.out; omega)]
              exact GrS.nil _ _
            · show ([] : List UInt8) = (if (k : Int) = 7 then mend h.grid else noGrid).cols
              rw [if_neg (by have := HKD.out; omega)]
              rfl
            · show TrS _ _ (pv (none, 0, 0)) (if (k : Int) = 7 then mend h.grid else noGrid).rows
              rw [if_neg (by have := HKD.out; omega)]
              exact TrS.nil _ _
            · show false = (if (k : Int) = 7 then mend h.grid else noGrid).box
              rw [if_neg (by have := HKD.out; omega)]
              rfl
            · show false = (if (k : Int) = 7 then mend h.grid else noGrid).all
              rw [if_neg (by have := HKD.out; omega)]
              rfl
end Go.Proofs.YtpccjgoeoeehoaaDoor
namespace Go.Proofs.YtpccjgoeoeehoaaDoor
open Go.RowKit
theorem infoNd : (Tryd.prog.info? 40).map (fun i => (i.zero, i.size, i.bytes)) = some (some (.agg zNd.toArray), 10, 144) := by kernel_rfl
noncomputable def appN (args : Array Value) : Sem Next := do pure (.value (← Builtin.append_ #[27, 27] 27 args))
theorem builtin_appN (cs : Array Bool) (args : Array Value) : builtin .append #[27, 27] 27 cs args = appN args := rfl
/-- A node as it lies, and what it says. -/
theorem NsS.atR {S : Nat → Prop} {w : World} {a : Option Addr} {k cap : Nat} {l : List Nd} (h : NsS S w (.slice a k cap) l) {j : Nat} {y : Nd} (hy : l[j]? = some y) :
    ∃ g off x, a = some ⟨g, off, none⟩ ∧ S g ∧ (∀ (i : Nat) c, (ncell x)[i]? = some c → w.cell? ⟨g, off + j * 10 + i, none⟩ = some c) ∧ HdIs S w x y.hd ∧ NsS S w (pv x.kids) y.kids := by
  cases h with
  | mk _ _ L hl hs hh hk =>
    obtain ⟨x, hx⟩ : ∃ x, L[j]? = some x := ⟨L[j]'(by have := (List.getElem?_eq_some_iff.1 hy).1; omega), List.getElem?_eq_getElem _⟩
    obtain ⟨g, off, e, hg, hc⟩ := hs.at hx
    exact ⟨g, off, x, e, hg, fun i c hi => by rw [Nat.add_assoc]; exact hc i c hi, hh j x y hx hy, hk j x y hx hy⟩
/-- Nodes that are made: a row of one's own; what they hold lies among what came in (SI), or was made, apart from the row itself. -/
structure NInv (SI : Nat → Prop) (base : Nat) (W : World) (v : Value) (l : List Nd) : Prop where
  lt : ∀ b, SI b → b < base
  sz : base ≤ W.heap.size
  own : ∃ (L : List NV) (S : Nat → Prop), FOwn 40 10 ncell base W v L ∧ L.length = l.length ∧ (∀ b, S b → SI b ∨ (base ≤ b ∧ b < W.heap.size ∧ v.ownBlock ≠ some b)) ∧
    ∀ (i : Nat) x y, L[i]? = some x → l[i]? = some y → HdIs S W x y.hd ∧ NsS S W (pv x.kids) y.kids
section
variable {SI : Nat → Prop} {base : Nat} {W W' : World} {v : Value} {l : List Nd}
theorem NInv.nil (h1 : ∀ b, SI b → b < base) (h2 : base ≤ W.heap.size) : NInv SI base W (.slice none 0 0) [] :=
  ⟨h1, h2, ⟨[], fun _ => False, FOwn.nil _ _, rfl, fun _ h => h.elim, fun i x y h => by simp at h⟩⟩
theorem NInv.len (h : NInv SI base W v l) : ∃ a cap, v = .slice a l.length cap := by
  obtain ⟨L, S, hL, hl, -, -⟩ := h.own
  obtain ⟨a, cap, e⟩ := (FOwn.sl ncell_len hL).len
  exact ⟨a, cap, hl ▸ e⟩
theorem NInv.keep (h : NInv SI base W v l) (hb : Below W.heap.size W W') : NInv SI base W' v l := by
  obtain ⟨L, S, hL, hl, hS, hE⟩ := h.own
  have hk : Kp S W W' := fun b hb' => hb.block b (by
    rcases hS b hb' with q | q
    · exact Nat.lt_of_lt_of_le (h.lt b q) h.sz
    · exact q.2.1)
  refine ⟨h.lt, Nat.le_trans h.sz hb.size, ⟨L, S, hL.keep hb, hl, fun b hb' => ?_, fun i x y a c => ⟨(hE i x y a c).1.keep hk, (hE i x y a c).2.keep hk⟩⟩⟩
  rcases hS b hb' with q | q
  · exact .inl q
  · exact .inr ⟨q.1, Nat.lt_of_lt_of_le q.2.1 hb.size, q.2.2⟩
/-- The row's own block is older than what was made behind it. -/
theorem NInv.old (h : NInv SI base W v l) {b : Nat} (hb : W.heap.size ≤ b) : v.ownBlock ≠ some b := by
  obtain ⟨L, S, hL, -⟩ := h.own
  intro e
  obtain ⟨-, cur, hc⟩ := hL.ty e
  have := (Array.getElem?_eq_some_iff.1 hc).1
  omega
theorem NInv.nss (h : NInv SI base W v l) : NsS (fun b => SI b ∨ (base ≤ b ∧ b < W.heap.size)) W v l := by
  obtain ⟨L, S, hL, hl, hS, hE⟩ := h.own
  have hm : ∀ b, S b → SI b ∨ (base ≤ b ∧ b < W.heap.size) := fun b hb => (hS b hb).imp id fun q => ⟨q.1, q.2.1⟩
  refine .mk _ _ L hl ((own_foot ncell_len hL).mono fun b hb => .inr ⟨hb.1, ?_⟩) (fun i x y a c => (hE i x y a c).1.mono hm) (fun i x y a c => (hE i x y a c).2.mono hm)
  obtain ⟨-, cur, fz, hc⟩ := hb
  exact (Array.getElem?_eq_some_iff.1 hc).1
/-- Nodes behind them. -/
theorem NInv.app (h : NInv SI base W v l) {u : Value} {M : List NV} {m : List Nd} {T : Nat → Prop} (hu : Fs 10 ncell W u M) (hM : M.length = m.length) (hT : ∀ b, T b → SI b ∨ (base ≤ b ∧ b < W.heap.size ∧ v.ownBlock ≠ some b))
    (hm : ∀ (i : Nat) x y, M[i]? = some x → m[i]? = some y → HdIs T W x y.hd ∧ NsS T W (pv x.kids) y.kids) (hd : l.length + m.length ≤ 1000000) :
    ∃ a' c' w', (appN #[v, u]).run Tryd.prog W = .ok (.value (.slice a' (l.length + m.length) c')) w' ∧ NInv SI base w' (.slice a' (l.length + m.length) c') (l ++ m) ∧ Below base W w' ∧ ∀ b, b < W.heap.size → v.ownBlock ≠ some b → w'.heap[b]? = W.heap[b]? := by
  obtain ⟨L, S, hL, hl, hS, hE⟩ := h.own
  obtain ⟨i0, hi, hz0, hz1, hz2⟩ := info_parts infoNd
  obtain ⟨x', w', hr, ho, hg, hq⟩ := fapp (P := Tryd.prog) (t := 27) ncell_len ncell_one (by decide) Tryd.underlying27 hi hz0 hz1 hz2 rfl (by decide) hL hu h.sz (by rw [hl, hM]; exact hd)
  obtain ⟨a', c', e⟩ := (FOwn.sl ncell_len ho).len
  rw [List.length_append, hl, hM] at e
  subst e
  have kp : ∀ T : Nat → Prop, (∀ b, T b → SI b ∨ (base ≤ b ∧ b < W.heap.size ∧ v.ownBlock ≠ some b)) → Kp T W w' := fun T hT => Kp.grown hg fun b hb => by
    rcases hT b hb with q | q
    · refine ⟨Nat.lt_of_lt_of_le (h.lt b q) h.sz, fun e => ?_⟩
      have := (hL.ty e.symm).1
      have := h.lt b q
      omega
    · exact ⟨q.2.1, fun e => q.2.2 e.symm⟩
  have k1 := kp S hS
  have k2 := kp T hT
  have hsz := hg.size
  have step : ∀ T : Nat → Prop, (∀ b, T b → SI b ∨ (base ≤ b ∧ b < W.heap.size ∧ v.ownBlock ≠ some b)) → ∀ b, T b → SI b ∨ (base ≤ b ∧ b < w'.heap.size ∧ (Value.slice a' (l.length + m.length) c').ownBlock ≠ some b) := fun T hT b hb => by
    rcases hT b hb with q | q
    · exact .inl q
    · refine .inr ⟨q.1, by omega, ?_⟩
      rcases hq with e | e
      · rw [e]; exact q.2.2
      · rw [e]
        intro e2
        injection e2 with e2
        omega
  refine ⟨a', c', w', ?_, ⟨h.lt, Nat.le_trans h.sz hsz, ⟨L ++ M, fun b => S b ∨ T b, ho, by simp [hl, hM], fun b hb => hb.elim (step S hS b) (step T hT b), fun i x y hx hy => ?_⟩⟩, hL.below (Below.refl _ _) h.sz hg, fun b hb hn => hg.block b hb (fun e => hn e.symm)⟩
  · unfold appN
    simp only [Sem.run_bind, Sem.run_pure, Result.andThen_ok, hr]
  · by_cases hil : i < l.length
    · rw [List.getElem?_append_left (by omega)] at hx hy
      obtain ⟨q1, q2⟩ := hE i x y hx hy
      exact ⟨(q1.keep k1).mono fun b hb => .inl hb, (q2.keep k1).mono fun b hb => .inl hb⟩
    · rw [List.getElem?_append_right (by omega), hl] at hx
      rw [List.getElem?_append_right (by omega)] at hy
      obtain ⟨q1, q2⟩ := hm _ x y hx hy
      exact ⟨(q1.keep k2).mono fun b hb => .inr hb, (q2.keep k2).mono fun b hb => .inr hb⟩
/-- A node behind them. -/
theorem NInv.push (h : NInv SI base W v l) {x : NV} {y : Nd} {T : Nat → Prop} (hT : ∀ b, T b → SI b ∨ (base ≤ b ∧ b < W.heap.size ∧ v.ownBlock ≠ some b)) (hx : HdIs T W x y.hd) (hk : NsS T W (pv x.kids) y.kids) (hd : l.length ≤ 500000) :
    ∃ a' c' w', (appN #[v, .slice (some ⟨W.heap.size, 0, none⟩) 1 1]).run Tryd.prog (W.alloc (.cells (ncell x).toArray 40)) = .ok (.value (.slice a' (l.length + 1) c')) w' ∧ NInv SI base w' (.slice a' (l.length + 1) c') (l ++ [y]) ∧ Below base W w' ∧ ∀ b, b < W.heap.size → v.ownBlock ≠ some b → w'.heap[b]? = W.heap[b]? := by
  have b1 := below_lit W (.cells (ncell x).toArray 40)
  have hkp : Kp T W (W.alloc (.cells (ncell x).toArray 40)) := fun b hb => b1.block b (by
    rcases hT b hb with q | q
    · exact Nat.lt_of_lt_of_le (h.lt b q) h.sz
    · exact q.2.1)
  have hu : Fs 10 ncell (W.alloc (.cells (ncell x).toArray 40)) (.slice (some ⟨W.heap.size, 0, none⟩) 1 1) [x] := by
    have := fs_lit ncell_len W 40 [x]
    rw [flatV_one] at this
    exact this
  obtain ⟨a', c', w', hr, hi, hb, ho⟩ := (h.keep b1).app (m := [y]) hu rfl (fun b hb => (hT b hb).imp id fun q => ⟨q.1, Nat.lt_of_lt_of_le q.2.1 b1.size, q.2.2⟩) (fun i x' y' hx' hy' => by
    match i, hx', hy' with
    | 0, hx', hy' =>
      simp at hx' hy'
      subst hx' hy'
      exact ⟨hx.keep hkp, hk.keep hkp⟩
    | i + 1, hx', _ => simp at hx') (by simp; omega)
  exact ⟨a', c', w', hr, hi, (b1.mono h.sz).trans hb, fun b hb' hn => (ho b (Nat.lt_of_lt_of_le hb' b1.size) hn).trans (b1.block b hb')⟩
end
end Go.Proofs.YtpccjgoeoeehoaaDoor
namespace Go.Proofs.YtpccjgoeoeehoaaDoor
open Go.RowKit
theorem pv_len {α : Type} {n : Nat} {f : α → List Value} {w : World} {s : PV} {l : List α} (h : Fs n f w (pv s) l) : s.2.1 = l.length := by
  obtain ⟨a, c, e⟩ := h.len
  rw [pv_eq e]
theorem full_of {S : Nat → Prop} {w : World} {x : NV} {h : Hd} (hh : HdIs S w x h) (c : Nat) : fullV x.kind x.text.2.1 c x.rows.2.1 x.trows.2.1 = fullB h (decide (0 < c)) := by
  have e1 := pv_len hh.text.1
  obtain ⟨a2, c2, e2⟩ := hh.rows.len
  obtain ⟨a3, c3, e3⟩ := hh.trows.len
  rw [e1, pv_eq e2, pv_eq e3, hh.kind]
  simp only
  unfold fullV fullB
  have p : ∀ {α : Type} (l : List α), decide (0 < l.length) = decide (l ≠ []) := fun l => by
    cases l <;> simp
  rw [p, p, p]
theorem hasK_len {α : Type} (l : List α) : decide (0 < l.length) = hasK l := by cases l <;> simp [hasK]
/-- 'full' of a node as it lies. -/
theorem rfull_of {S : Nat → Prop} {w0 : World} {x : NV} {h : Hd} (hh : HdIs S w0 x h) (w : World) :
    Calls Tryd.prog 71 #[.agg (ncell x).toArray] w fun e w' => e = .returned (.bool (fullB h (decide (0 < x.kids.2.1)))) ∧ Below w.heap.size w w' := by
  have := rfull_any x.kind x.line x.n x.text x.kids x.rows x.cols x.trows x.box x.all w
  rw [full_of hh] at this
  exact this
/-- What stands in the round of tidy: the two nodes' blocks, all older ones as they stood. -/
structure TS (wo : World) (x : NV) (gy : Nat) (y : NV) (W : World) : Prop where
  bel : Below wo.heap.size wo W
  bx : Blk W wo.heap.size 40 (ncell x)
  by' : Blk W gy 40 (ncell y)
  lt : wo.heap.size < gy
theorem TS.keep {wo W W' : World} {x y : NV} {gy : Nat} (h : TS wo x gy y W) (hb : Below W.heap.size W W') : TS wo x gy y W' := ⟨h.bel.trans (hb.mono h.bel.size), h.bx.below hb, h.by'.below hb, h.lt⟩
theorem TS.set {wo W : World} {x y y' : NV} {gy : Nat} (h : TS wo x gy y W) (j : Nat) (v : Value) (hy : (ncell y).set j v = ncell y') : TS wo x gy y' (W.setCell ⟨gy, j, none⟩ v) :=
  ⟨h.bel.setCell (by have := h.lt; show wo.heap.size ≤ gy; omega) _, h.bx.other (by have := h.lt; omega) _ _, hy ▸ h.by'.set j v, h.lt⟩
theorem TS.sz {wo W : World} {x y : NV} {gy : Nat} (h : TS wo x gy y W) : gy < W.heap.size := (Array.getElem?_eq_some_iff.1 h.by').1
/-- What is put behind, in the ways of tidy. -/
theorem td_in {h : Hd} {ks : List Nd} {m : Int} {d n : Nat} {K : Int} (hK : kindAt h.kind m = K) (hi : innerB h m = true) :
    tdN (.mk h ks) m d n = (if fullB (ownH h K) (hasK (tdL ks K (d + 1) n).1) then [.mk (ownH h K) (tdL ks K (d + 1) n).1] else [], (tdL ks K (d + 1) n).2) := by
  rw [tdN_mk, if_pos hi, hK]
theorem td_out {h : Hd} {ks : List Nd} {m : Int} {d n : Nat} {K : Int} (hK : kindAt h.kind m = K) (hi : innerB h m = false) (hm : mayK h.kind = true) :
    tdN (.mk h ks) m d n = ((if fullB (ownH h K) false then [.mk (ownH h K) []] else []) ++ (tdL ks m d n).1, (tdL ks m d n).2) := by
  rw [tdN_mk, if_neg (by rw [hi]; simp), hK, if_pos hm, if_pos hm]
theorem td_no {h : Hd} {ks : List Nd} {m : Int} {d n : Nat} {K : Int} (hK : kindAt h.kind m = K) (hm : mayK h.kind = false) :
    tdN (.mk h ks) m d n = (if fullB (ownH h K) false then [.mk (ownH h K) []] else [], n) := by
  have hi : innerB h m = false := by unfold innerB; rw [hm]; rfl
  rw [tdN_mk, if_neg (by rw [hi]; simp), hK]
  simp [hm]
theorem full_kind4 {h : Hd} (hk : h.kind = 4) (b : Bool) : fullB h b = true := by unfold fullB; rw [hk]; rfl
theorem NsS.parts {S : Nat → Prop} {w : World} {v : Value} {l : List Nd} (h : NsS S w v l) : ∃ L : List NV, L.length = l.length ∧ Fs 10 ncell w v L ∧ ∀ (i : Nat) x y, L[i]? = some x → l[i]? = some y → HdIs S w x y.hd ∧ NsS S w (pv x.kids) y.kids := by
  cases h with
  | mk _ _ L hl hs hh hk => exact ⟨L, hl, hs.1, fun i x y a b => ⟨hh i x y a b, hk i x y a b⟩⟩
end Go.Proofs.YtpccjgoeoeehoaaDoor
namespace Go.Proofs.YtpccjgoeoeehoaaDoor
open Go.RowKit
def NV.wk (y : NV) (s : PV) : NV := ⟨y.kind, y.line, y.n, y.text, s, y.rows, y.cols, y.trows, y.box, y.all⟩
/-- The two nodes of tidy's round, and what the second says. -/
structure TR (SI : Nat → Prop) (base : Nat) (wo : World) (x : NV) (gy : Nat) (y : NV) (hy : Hd) (W : World) : Prop where
  ts : TS wo x gy y W
  hd : HdIs (fun b => SI b ∨ (wo.heap.size < b ∧ b < gy)) W y hy
  lt : ∀ b, SI b → b < base
  le : base ≤ wo.heap.size
section
variable {SI : Nat → Prop} {base gy : Nat} {wo W W' : World} {x y : NV} {hy : Hd} {v : Value} {l : List Nd}
theorem TR.old (h : TR SI base wo x gy y hy W) (b : Nat) (q : SI b ∨ (wo.heap.size < b ∧ b < gy)) : b < W.heap.size ∧ b ≠ gy := by
  have h1 := h.ts.sz
  have h2 := h.ts.bel.size
  have h3 := h.le
  have h4 := h.ts.lt
  rcases q with q | q
  · have := h.lt b q
    omega
  · omega
theorem TR.keep (h : TR SI base wo x gy y hy W) (hb : Below W.heap.size W W') : TR SI base wo x gy y hy W' :=
  ⟨h.ts.keep hb, h.hd.keep (fun b q => hb.block b (h.old b q).1), h.lt, h.le⟩
theorem TR.setK (h : TR SI base wo x gy y hy W) (s : PV) : TR SI base wo x gy (y.wk s) hy (W.setCell ⟨gy, 4, none⟩ (pv s)) := by
  have k := h.hd.keep (w' := W.setCell ⟨gy, 4, none⟩ (pv s)) (fun b q => Below.heap_setCell W ⟨gy, 4, none⟩ (pv s) b (h.old b q).2)
  exact ⟨h.ts.set 4 _ rfl, ⟨k.kind, k.line, k.n, k.text, k.rows, k.cols, k.trows, k.box, k.all⟩, h.lt, h.le⟩
theorem TR.start {w2 : World} (h1 : ∀ b, SI b → b < base) (h2 : base ≤ wo.heap.size) (hb : Below (wo.heap.size + 1) (wo.alloc (.cells (ncell x).toArray 40)) w2) (hh : HdIs (fun b => SI b ∨ (wo.heap.size + 1 ≤ b ∧ b < w2.heap.size)) w2 y hy) :
    TR SI base wo x w2.heap.size y hy (w2.alloc (.cells (ncell y).toArray 40)) := by
  have b0 := below_lit wo (.cells (ncell x).toArray 40)
  have b2 := below_lit w2 (.cells (ncell y).toArray 40)
  have hs := hb.size
  rw [World.size_alloc] at hs
  have bx : Blk w2 wo.heap.size 40 (ncell x) := (hb.block wo.heap.size (by omega)).trans (heap_alloc_new wo _)
  refine ⟨⟨(b0.trans (hb.mono (by omega))).trans (b2.mono (by omega)), bx.below b2, heap_alloc_new w2 _, by omega⟩, ?_, h1, h2⟩
  refine (hh.mono ?_).keep (fun b q => b2.block b ?_)
  · rintro b (q | q)
    · exact .inl q
    · exact .inr (by omega)
  · rcases q with q | q
    · have := h1 b q
      omega
    · exact q.2
/-- The second node behind the others. -/
theorem TR.push (h : TR SI base wo x gy y hy W) (hi : NInv SI base wo v l) {kl : List Nd} (hk : NsS (fun b => SI b ∨ (wo.heap.size ≤ b ∧ b < W.heap.size)) W (pv y.kids) kl) (hl : l.length ≤ 500000) :
    ∃ a' c' w', (appN #[v, .slice (some ⟨W.heap.size, 0, none⟩) 1 1]).run Tryd.prog (W.alloc (.cells (ncell y).toArray 40)) = .ok (.value (.slice a' (l.length + 1) c')) w' ∧ NInv SI base w' (.slice a' (l.length + 1) c') (l ++ [.mk hy kl]) ∧ Below base W w' ∧ Blk w' wo.heap.size 40 (ncell x) := by
  have hz := h.ts.bel.size
  have hle := h.le
  obtain ⟨a', c', w', hr, hI, hb, ho⟩ := (hi.keep h.ts.bel).push (y := .mk hy kl) (T := fun b => SI b ∨ (wo.heap.size ≤ b ∧ b < W.heap.size)) (fun b q => q.imp id fun q => ⟨by omega, q.2, hi.old q.1⟩)
    (h.hd.mono fun b q => q.imp id fun q => ⟨by omega, Nat.lt_trans q.2 h.ts.sz⟩) hk hl
  exact ⟨a', c', w', hr, hI, hb, (ho wo.heap.size (by have := h.ts.sz; have := h.ts.lt; omega) (hi.old (Nat.le_refl _))).trans h.ts.bx⟩
/-- What was put right within, behind the others. -/
theorem NInv.kids (h : NInv SI base W v l) (hb : Below W.heap.size W W') {s : PV} {m : List Nd} (hs : NsS (fun b => SI b ∨ (W.heap.size ≤ b ∧ b < W'.heap.size)) W' (pv s) m) (hd : l.length + m.length ≤ 1000000) :
    ∃ a' c' w', (appN #[v, pv s]).run Tryd.prog W' = .ok (.value (.slice a' (l.length + m.length) c')) w' ∧ NInv SI base w' (.slice a' (l.length + m.length) c') (l ++ m) ∧ Below base W' w' := by
  obtain ⟨M, hM, hu, hm⟩ := hs.parts
  have hz := h.sz
  obtain ⟨a', c', w', hr, hi, hb', -⟩ := (h.keep hb).app (M := M) (m := m) (T := fun b => SI b ∨ (W.heap.size ≤ b ∧ b < W'.heap.size)) hu hM (fun b q => q.imp id fun q => ⟨by omega, q.2, h.old q.1⟩) hm hd
  exact ⟨a', c', w', hr, hi, hb'⟩
end
theorem td_len (l : List Nd) (m : Int) (d n : Nat) : (tdL l m d n).1.length + (tdL l m d n).2 ≤ n := by
  have h1 := tdL_cnt l m d n
  have h2 := cnt_len (tdL l m d n).1
  omega
end Go.Proofs.YtpccjgoeoeehoaaDoor
namespace Go.Proofs.YtpccjgoeoeehoaaDoor
open Go.RowKit
/-- A builder's state as it lies: nine cells. -/
structure TV where
  kids : PV
  opn : PV
  text : PV
deriving DecidableEq
def tvcell (t : Bt) (x : TV) : List Value := [.string ⟨t.nm.a.toArray⟩, .string ⟨t.nm.b.toArray⟩, .string ⟨t.nm.c.toArray⟩, .string ⟨t.nm.d.toArray⟩, pv x.kids, pv x.opn, pv x.text, .int .i64 t.line, .bool t.has]
structure BtIs (S : Nat → Prop) (w : World) (x : TV) (t : Bt) : Prop where
  kids : NsS S w (pv x.kids) t.kids
  opn : NsS S w (pv x.opn) t.opn
  text : FsS S 2 gcell w (pv x.text) t.text
theorem BtIs.keep {S : Nat → Prop} {w w' : World} {x : TV} {t : Bt} (h : BtIs S w x t) (k : Kp S w w') : BtIs S w' x t := ⟨h.kids.keep k, h.opn.keep k, h.text.keep k⟩
theorem BtIs.mono {S T : Nat → Prop} {w : World} {x : TV} {t : Bt} (h : BtIs S w x t) (k : ∀ b, S b → T b) : BtIs T w x t := ⟨h.kids.mono k, h.opn.mono k, h.text.mono k⟩
/-- How much there is of a builder. -/
def btl (t : Bt) : Nat := nlL t.kids + nlL t.opn + t.text.length
theorem nl_own (y x : Nd) : nlN (ownKid y x) = nlN y + nlN x := by
  cases y
  simp only [ownKid, nlN, Nd.hd, Nd.kids, nlL_app, nlL]
  omega
theorem btl_lay (t : Bt) (x : Nd) : btl (bLay t x) = btl t + nlN x := by
  rcases opn_cases t.opn with h | ⟨l, y, h⟩
  · rw [lay_none x h]
    simp only [btl, nlL_app, nlL]
    omega
  · rw [lay_some x h]
    unfold btl
    simp only
    rw [h, nlL_app, nlL_app]
    simp only [nlL, nl_own]
    omega
theorem btl_pop (t : Bt) : btl (bPop t) = btl t := by
  rcases opn_cases t.opn with h | ⟨l, x, h⟩
  · rw [pop_none h]
  · rw [pop_some h, btl_lay]
    unfold btl
    simp only
    rw [h, nlL_app]
    simp only [nlL]
    omega
theorem nl_para (t : Bt) : nlN (paraN t) = 3 + t.text.length := by simp [paraN, nlN, hdl, nlL, noGrid, lens, trls]
theorem btl_end (t : Bt) : btl (bEnd t) ≤ btl t + 3 := by
  unfold bEnd
  split
  · unfold btl bFlat
    simp only [List.length_nil]
    omega
  · have h := btl_lay t (paraN t)
    rw [nl_para] at h
    have e : btl (bFlat (bLay t (paraN t))) + (bLay t (paraN t)).text.length = btl (bLay t (paraN t)) := by
      unfold btl bFlat
      simp only [List.length_nil]
      omega
    have e2 : (bLay t (paraN t)).text = t.text := (lay_sameP t _).2.1
    rw [e2] at e
    omega
theorem jn_len_le (a b : List Gly) : (jn a b).length ≤ a.length + b.length + 1 := by
  unfold jn
  split
  · omega
  · split
    · omega
    · simp; omega
theorem btl_text (t : Bt) (l : List Gly) (i : Int) : btl (bText t l i) ≤ btl t + l.length + 1 := by
  have := jn_len_le t.text l
  unfold btl bText
  simp only
  omega
theorem btl_open (t : Bt) (x : Nd) : btl (bOpen t x) ≤ btl t + 3 + nlN x := by
  have := btl_end t
  unfold bOpen btl at *
  simp only [nlL_app, nlL] at *
  omega
theorem btl_add (t : Bt) (x : Nd) : btl (bAdd t x) ≤ btl t + 3 + nlN x := by
  have := btl_end t
  unfold bAdd
  rw [btl_lay]
  omega
theorem btl_popAll (K : List Int) : ∀ (n : Nat) (t : Bt), btl (popAll K n t) = btl t
  | 0, t => rfl
  | n + 1, t => by
    unfold popAll
    split
    · rfl
    · split
      · rw [btl_popAll K n, btl_pop]
      · rfl
theorem btl_popTo (k : Int) : ∀ (n : Nat) (t : Bt), btl (popTo k n t) = btl t
  | 0, t => rfl
  | n + 1, t => by
    unfold popTo
    split
    · rfl
    · split
      · exact btl_pop t
      · rw [btl_popTo k n, btl_pop]
theorem btl_shut (t : Bt) (K : List Int) : btl (bShut t K) ≤ btl t + 3 := by unfold bShut; rw [btl_popAll]; exact btl_end t
theorem btl_close (t : Bt) (k : Int) : btl (bClose t k).1 ≤ btl t + 3 := by
  unfold bClose
  split
  · rw [btl_popTo]; exact btl_end t
  · exact btl_end t
theorem nl_wrap : ∀ l : List Nd, nlL (wrapK l) = nlL l
  | [] => rfl
  | y :: r => by
    have := nl_wrap r
    cases y
    simp only [wrapK, nlL, nlN, Nd.hd, Nd.kids, nlL_app]
    omega
theorem btl_all (t : Bt) : nlL (bAll t) ≤ btl t := by
  unfold bAll btl
  rw [nlL_app, nl_wrap]
  omega
end Go.Proofs.YtpccjgoeoeehoaaDoor
namespace Go.Proofs.YtpccjgoeoeehoaaDoor
open Go.RowKit
def pst (m k : Int) : Bool := if k = 1 then m == 0 else if k = 2 then m == 1 else true
set_option maxRecDepth 100000 in
theorem pstands_any (m k : Int) (w : World) : Calls Tryd.prog 86 #[.int .i64 m, .int .i64 k] w fun e w' => e = .returned (.bool (pst m k)) ∧ w = w' := by
  unfold pst
  by_cases h1 : k = 1
  · subst h1
    rw [if_pos rfl]
    go_enter Tryd.func86, Tryd.ntmps86
    go_wp2_with fail
    go_ret
    exact ⟨rfl, rfl⟩
  · rw [if_neg h1]
    have n1 : (k == 1) = false := by simpa using h1
    by_cases h2 : k = 2
    · subst h2
      rw [if_pos rfl]
      go_enter Tryd.func86, Tryd.ntmps86
      go_wp2_with fail
      go_ret
      exact ⟨rfl, rfl⟩
    · rw [if_neg h2]
      have n2 : (k == 2) = false := by simpa using h2
      clear h1 h2
      go_enter Tryd.func86, Tryd.ntmps86
      go_wp2_with fail
      go_ret
      exact ⟨rfl, rfl⟩
theorem ret_int0 {a b : Bool} (h : a = b) : Ending.returned (.bool a) = .returned (.bool b) := by rw [h]
set_option maxRecDepth 100000 in
set_option maxHeartbeats 4000000 in
theorem placks_any (x : NV) (w : World) :
    Calls Tryd.prog 87 #[.agg (ncell x).toArray] w fun e w' => e = .returned (.bool (!fullV x.kind x.text.2.1 x.kids.2.1 x.rows.2.1 x.trows.2.1)) ∧ Below w.heap.size w w' := by
  have B1 := Lib.hid (below_lit w (.cells (ncell x).toArray 40))
  obtain ⟨k, xl, xn, ⟨t1, t2, t3⟩, ⟨k1, k2, k3⟩, ⟨r1, r2, r3⟩, xc, ⟨q1, q2, q3⟩, xb, xa⟩ := x
  simp only [ncell, pv] at B1 ⊢
  unfold fullV
  by_cases h1 : k = 1
  · subst h1
    have HF : Hid ((((t2 : Nat) : Int) == 0) = !decide (0 < t2)) := Lib.hid (by cases t2 <;> simp <;> omega)
    go_enter Tryd.func87, Tryd.ntmps87
    go_wp2_with fail
    go_ret
    exact ⟨ret_int0 (by first | (simp; done) | (have := HF.out; simpa using this)), B1.out⟩
  · have n1 : (k == 1) = false := by simpa using h1
    by_cases h2 : k = 2
    · subst h2
      have HF : Hid ((((t2 : Nat) : Int) == 0) = !decide (0 < t2)) := Lib.hid (by cases t2 <;> simp <;> omega)
      clear h1
      go_enter Tryd.func87, Tryd.ntmps87
      go_wp2_with fail
      go_ret
      exact ⟨ret_int0 (by first | (simp; done) | (have := HF.out; simpa using this)), B1.out⟩
    · have n2 : (k == 2) = false := by simpa using h2
      by_cases h3 : k = 3
      · subst h3
        have HF : Hid ((((t2 : Nat) : Int) == 0) = !decide (0 < t2)) := Lib.hid (by cases t2 <;> simp <;> omega)
        clear h1 h2
        go_enter Tryd.func87, Tryd.ntmps87
        go_wp2_with fail
        go_ret
        exact ⟨ret_int0 (by first | (simp; done) | (have := HF.out; simpa using this)), B1.out⟩
      · have n3 : (k == 3) = false := by simpa using h3
        by_cases h4 : k = 4
        · subst h4
          clear h1 h2 h3
          go_enter Tryd.func87, Tryd.ntmps87
          go_wp2_with fail
          go_ret
          exact ⟨ret_int0 (by simp), B1.out⟩
        · have n4 : (k == 4) = false := by simpa using h4
          by_cases h5 : k = 5
          · subst h5
            have HF : Hid ((((k2 : Nat) : Int) == 0) = !decide (0 < k2)) := Lib.hid (by cases k2 <;> simp <;> omega)
            clear h1 h2 h3 h4
            go_enter Tryd.func87, Tryd.ntmps87
            go_wp2_with fail
            go_ret
            exact ⟨ret_int0 (by first | (simp; done) | (have := HF.out; simpa using this)), B1.out⟩
          · have n5 : (k == 5) = false := by simpa using h5
            by_cases h6 : k = 6
            · subst h6
              have HF : Hid ((((r2 : Nat) : Int) == 0) = !decide (0 < r2)) := Lib.hid (by cases r2 <;> simp <;> omega)
              clear h1 h2 h3 h4 h5
              go_enter Tryd.func87, Tryd.ntmps87
              go_wp2_with fail
              go_ret
              exact ⟨ret_int0 (by first | (simp; done) | (have := HF.out; simpa using this)), B1.out⟩
            · have n6 : (k == 6) = false := by simpa using h6
              by_cases h7 : k = 7
              · subst h7
                have HF : Hid ((((q2 : Nat) : Int) == 0) = !decide (0 < q2)) := Lib.hid (by cases q2 <;> simp <;> omega)
                clear h1 h2 h3 h4 h5 h6
                go_enter Tryd.func87, Tryd.ntmps87
                go_wp2_with fail
                go_ret
                exact ⟨ret_int0 (by first | (simp; done) | (have := HF.out; simpa using this)), B1.out⟩
              · have n7 : (k == 7) = false := by simpa using h7
                have HR : Hid ((!(if 1 ≤ k ∧ k ≤ 3 then decide (0 < t2) else if k = 5 then decide (0 < k2) else if k = 6 then decide (0 < r2) else k == 4 || (k == 7 && decide (0 < q2)))) = true) := Lib.hid (by rw [if_neg (by omega), if_neg h5, if_neg h6, n4, n7]; rfl)
                rw [HR.out]
                clear h1 h2 h3 h4 h5 h6 h7
                go_enter Tryd.func87, Tryd.ntmps87
                go_wp2_with fail
                go_ret
                exact ⟨rfl, B1.out⟩
/-- What a node of its kind may have, as it is. -/
abbrev nilP : PV := (none, 0, 0)
def ownV (x : NV) : NV :=
  ⟨x.kind, x.line, if x.kind = 4 ∨ x.kind = 5 then x.n else 0, if 1 ≤ x.kind ∧ x.kind ≤ 4 then x.text else nilP, if mayK x.kind then x.kids else nilP, if x.kind = 6 then x.rows else nilP, if x.kind = 7 then x.cols else [], if x.kind = 7 then x.trows else nilP, if x.kind = 7 then x.box else false, if x.kind = 7 then x.all else false⟩
def ownP (h : Hd) : Hd :=
  ⟨h.kind, h.line, if h.kind = 4 ∨ h.kind = 5 then h.n else 0, if 1 ≤ h.kind ∧ h.kind ≤ 4 then h.text else [], if h.kind = 6 then h.rows else [], if h.kind = 7 then h.grid else noGrid⟩
theorem HdIs.own {S : Nat → Prop} {w : World} {x : NV} {h : Hd} (k : HdIs S w x h) : HdIs S w (ownV x) (ownP h) := by
  have e := k.kind
  unfold ownV ownP
  rw [← e]
  have c1 : (if x.kind = 7 then x.cols else []) = (if x.kind = 7 then h.grid else noGrid).cols := by split; exact k.cols; rfl
  have c2 : (if x.kind = 7 then x.box else false) = (if x.kind = 7 then h.grid else noGrid).box := by split; exact k.box; rfl
  have c3 : (if x.kind = 7 then x.all else false) = (if x.kind = 7 then h.grid else noGrid).all := by split; exact k.all; rfl
  refine ⟨rfl, k.line, ?_, ?_, ?_, c1, ?_, c2, c3⟩
  · simp only; split; exact k.n; rfl
  · simp only; split; exact k.text; exact FsS.nil _ _ _ _
  · simp only; split; exact k.rows; exact GrS.nil _ _
  · simp only; split; exact k.trows; exact TrS.nil _ _
set_option maxRecDepth 100000 in
set_option maxHeartbeats 8000000 in
theorem pown_any (x : NV) (w : World) :
    Calls Tryd.prog 90 #[.agg (ncell x).toArray] w fun e w' => e = .returned (.agg (ncell (ownV x)).toArray) ∧ Below w.heap.size w w' := by
  obtain ⟨k, xl, xn, ⟨t1, t2, t3⟩, ⟨k1, k2, k3⟩, ⟨r1, r2, r3⟩, xc, ⟨q1, q2, q3⟩, xb, xa⟩ := x
  by_cases h1 : k = 1
  · subst h1
    have HE : Hid (ownV ⟨1, xl, xn, (t1, t2, t3), (k1, k2, k3), (r1, r2, r3), xc, (q1, q2, q3), xb, xa⟩ = ⟨1, xl, 0, (t1, t2, t3), (k1, k2, k3), nilP, [], nilP, false, false⟩) := Lib.hid (rfl)
    rw [HE.out]
    simp only [ncell, pv, nilP]
    clear HE
    go_enter Tryd.func90, Tryd.ntmps90
    go_wp2_with fail
    refine bodyPost_ret (v := .agg #[.int .i64 1, .int .i64 xl, .int .i64 0, .slice t1 t2 t3, .slice k1 k2 k3, .slice none 0 0, .string ⟨#[]⟩, .slice none 0 0, .bool false, .bool false]) (by simp [results, Tryd.results90, go_sem]) rfl ?_
    exact ⟨rfl, ((((Below.refl _ w).alloc (Nat.le_refl _) _).alloc (by simp) _).alloc (by simp; omega) _)⟩
  · have n1 : (k == 1) = false := by simpa using h1
    by_cases h2 : k = 2
    · subst h2
      have HE : Hid (ownV ⟨2, xl, xn, (t1, t2, t3), (k1, k2, k3), (r1, r2, r3), xc, (q1, q2, q3), xb, xa⟩ = ⟨2, xl, 0, (t1, t2, t3), (k1, k2, k3), nilP, [], nilP, false, false⟩) := Lib.hid (rfl)
      rw [HE.out]
      simp only [ncell, pv, nilP]
      clear HE h1
      go_enter Tryd.func90, Tryd.ntmps90
      go_wp2_with fail
      refine bodyPost_ret (v := .agg #[.int .i64 2, .int .i64 xl, .int .i64 0, .slice t1 t2 t3, .slice k1 k2 k3, .slice none 0 0, .string ⟨#[]⟩, .slice none 0 0, .bool false, .bool false]) (by simp [results, Tryd.results90, go_sem]) rfl ?_
      exact ⟨rfl, ((((Below.refl _ w).alloc (Nat.le_refl _) _).alloc (by simp) _).alloc (by simp; omega) _)⟩
    · have n2 : (k == 2) = false := by simpa using h2
      by_cases h3 : k = 3
      · subst h3
        have HE : Hid (ownV ⟨3, xl, xn, (t1, t2, t3), (k1, k2, k3), (r1, r2, r3), xc, (q1, q2, q3), xb, xa⟩ = ⟨3, xl, 0, (t1, t2, t3), nilP, nilP, [], nilP, false, false⟩) := Lib.hid (rfl)
        rw [HE.out]
        simp only [ncell, pv, nilP]
        clear HE h1 h2
        go_enter Tryd.func90, Tryd.ntmps90
        go_wp2_with fail
        refine bodyPost_ret (v := .agg #[.int .i64 3, .int .i64 xl, .int .i64 0, .slice t1 t2 t3, .slice none 0 0, .slice none 0 0, .string ⟨#[]⟩, .slice none 0 0, .bool false, .bool false]) (by simp [results, Tryd.results90, go_sem]) rfl ?_
        exact ⟨rfl, ((((Below.refl _ w).alloc (Nat.le_refl _) _).alloc (by simp) _).alloc (by simp; omega) _)⟩
      · have n3 : (k == 3) = false := by simpa using h3
        by_cases h4 : k = 4
        · subst h4
          have HE : Hid (ownV ⟨4, xl, xn, (t1, t2, t3), (k1, k2, k3), (r1, r2, r3), xc, (q1, q2, q3), xb, xa⟩ = ⟨4, xl, xn, (t1, t2, t3), (k1, k2, k3), nilP, [], nilP, false, false⟩) := Lib.hid (rfl)
          rw [HE.out]
          simp only [ncell, pv, nilP]
          clear HE h1 h2 h3
          go_enter Tryd.func90, Tryd.ntmps90
          go_wp2_with fail
          go_region
          go_wp2_with fail
          refine bodyPost_ret (v := .agg #[.int .i64 4, .int .i64 xl, .int .i64 xn, .slice t1 t2 t3, .slice k1 k2 k3, .slice none 0 0, .string ⟨#[]⟩, .slice none 0 0, .bool false, .bool false]) (by simp [results, Tryd.results90, go_sem]) rfl ?_
          exact ⟨rfl, ((((Below.refl _ w).alloc (Nat.le_refl _) _).alloc (by simp) _).alloc (by simp; omega) _).drew⟩
        · have n4 : (k == 4) = false := by simpa using h4
          by_cases h5 : k = 5
          · subst h5
            have HE : Hid (ownV ⟨5, xl, xn, (t1, t2, t3), (k1, k2, k3), (r1, r2, r3), xc, (q1, q2, q3), xb, xa⟩ = ⟨5, xl, xn, nilP, (k1, k2, k3), nilP, [], nilP, false, false⟩) := Lib.hid (rfl)
            rw [HE.out]
            simp only [ncell, pv, nilP]
            clear HE h1 h2 h3 h4
            go_enter Tryd.func90, Tryd.ntmps90
            go_wp2_with fail
            go_region
            go_wp2_with fail
            refine bodyPost_ret (v := .agg #[.int .i64 5, .int .i64 xl, .int .i64 xn, .slice none 0 0, .slice k1 k2 k3, .slice none 0 0, .string ⟨#[]⟩, .slice none 0 0, .bool false, .bool false]) (by simp [results, Tryd.results90, go_sem]) rfl ?_
            exact ⟨rfl, ((((Below.refl _ w).alloc (Nat.le_refl _) _).alloc (by simp) _).alloc (by simp; omega) _).drew⟩
          · have n5 : (k == 5) = false := by simpa using h5
            by_cases h6 : k = 6
            · subst h6
              have HE : Hid (ownV ⟨6, xl, xn, (t1, t2, t3), (k1, k2, k3), (r1, r2, r3), xc, (q1, q2, q3), xb, xa⟩ = ⟨6, xl, 0, nilP, nilP, (r1, r2, r3), [], nilP, false, false⟩) := Lib.hid (rfl)
              rw [HE.out]
              simp only [ncell, pv, nilP]
              clear HE h1 h2 h3 h4 h5
              go_enter Tryd.func90, Tryd.ntmps90
              go_wp2_with fail
              refine bodyPost_ret (v := .agg #[.int .i64 6, .int .i64 xl, .int .i64 0, .slice none 0 0, .slice none 0 0, .slice r1 r2 r3, .string ⟨#[]⟩, .slice none 0 0, .bool false, .bool false]) (by simp [results, Tryd.results90, go_sem]) rfl ?_
              exact ⟨rfl, ((((Below.refl _ w).alloc (Nat.le_refl _) _).alloc (by simp) _).alloc (by simp; omega) _)⟩
            · have n6 : (k == 6) = false := by simpa using h6
              by_cases h7 : k = 7
              · subst h7
                have HE : Hid (ownV ⟨7, xl, xn, (t1, t2, t3), (k1, k2, k3), (r1, r2, r3), xc, (q1, q2, q3), xb, xa⟩ = ⟨7, xl, 0, nilP, nilP, nilP, xc, (q1, q2, q3), xb, xa⟩) := Lib.hid (rfl)
                rw [HE.out]
                simp only [ncell, pv, nilP]
                clear HE h1 h2 h3 h4 h5 h6
                go_enter Tryd.func90, Tryd.ntmps90
                go_wp2_with fail
                refine bodyPost_ret (v := .agg #[.int .i64 7, .int .i64 xl, .int .i64 0, .slice none 0 0, .slice none 0 0, .slice none 0 0, .string ⟨xc.toArray⟩, .slice q1 q2 q3, .bool xb, .bool xa]) (by simp [results, Tryd.results90, go_sem]) rfl ?_
                exact ⟨rfl, ((((Below.refl _ w).alloc (Nat.le_refl _) _).alloc (by simp) _).alloc (by simp; omega) _)⟩
              · have n7 : (k == 7) = false := by simpa using h7
                have hm : mayK k = false := by unfold mayK; rw [n1, n2, n4, n5]; rfl
                have HE : Hid (ownV ⟨k, xl, xn, (t1, t2, t3), (k1, k2, k3), (r1, r2, r3), xc, (q1, q2, q3), xb, xa⟩ = ⟨k, xl, 0, nilP, nilP, nilP, [], nilP, false, false⟩) := Lib.hid (by unfold ownV; simp only [hm]; rw [if_neg (by omega), if_neg (by omega), if_neg h6, if_neg h7, if_neg h7, if_neg h7, if_neg h7]; rfl)
                rw [HE.out]
                simp only [ncell, pv, nilP]
                clear HE h1 h2 h3 h4 h5 h6 h7 hm
                go_enter Tryd.func90, Tryd.ntmps90
                go_wp2_with fail
                refine bodyPost_ret (v := .agg #[.int .i64 k, .int .i64 xl, .int .i64 0, .slice none 0 0, .slice none 0 0, .slice none 0 0, .string ⟨#[]⟩, .slice none 0 0, .bool false, .bool false]) (by simp [results, Tryd.results90, go_sem]) rfl ?_
                exact ⟨rfl, ((((Below.refl _ w).alloc (Nat.le_refl _) _).alloc (by simp) _).alloc (by simp; omega) _)⟩
end Go.Proofs.YtpccjgoeoeehoaaDoor
namespace Go.Proofs.YtpccjgoeoeehoaaDoor
open Go.RowKit
theorem lens_mcells : ∀ (n : Nat) (l : List (List Gly)), lens (mcells n l) ≤ lens l
  | 0, l => by simp [mcells, lens]
  | n + 1, [] => by have := lens_mcells n []; simp [mcells, lens] at this ⊢; exact this
  | n + 1, c :: l => by
    have := lens_mcells n l
    have := sqz_len c
    simp only [mcells, lens, List.map_cons, List.sum_cons] at *
    omega
theorem trl_mrow (n : Nat) (r : Trow) : trl (mrowT n r) ≤ n + trl r := by
  obtain ⟨b, l⟩ := r
  have := lens_mcells n l
  have := mcells_len n l
  unfold trl mrowT
  cases b
  · simp only [Bool.false_eq_true, if_false]
    omega
  · simp [lens]
    omega
theorem trls_mrows (n : Nat) : ∀ l : List Trow, trls (l.map (mrowT n)) ≤ n * l.length + trls l
  | [] => by simp [trls]
  | r :: l => by
    have h1 := trls_mrows n l
    have h2 := trl_mrow n r
    simp only [trls, List.map_cons, List.sum_cons, List.length_cons, Nat.mul_add, Nat.mul_one] at *
    omega
theorem mend_size2 (t : Tab) : trls (mend t).rows ≤ 21 * trls t.rows ∧ (mend t).cols.length ≤ 20 := by
  have h1 := trls_mrows (mcols t.cols).length t.rows
  have h2 := trls_len t.rows
  have h3 := (mcols_ok t.cols).2.1
  have h4 : (mcols t.cols).length * t.rows.length ≤ 20 * trls t.rows := Nat.mul_le_mul h3 h2
  refine ⟨?_, h3⟩
  show trls (t.rows.map (mrowT (mcols t.cols).length)) ≤ _
  omega
theorem hdl_own (h : Hd) (k : Int) : hdl (ownH h k) ≤ 24 * hdl h := by
  have da : hdl h = 3 + h.text.length + h.grid.cols.length + (h.rows.length + lens h.rows) + trls h.grid.rows := rfl
  have db : hdl (ownH h k) = 3 + (ownH h k).text.length + (ownH h k).grid.cols.length + ((ownH h k).rows.length + lens (ownH h k).rows) + trls (ownH h k).grid.rows := rfl
  have h1 : (ownH h k).text.length ≤ h.text.length := by
    unfold ownH
    simp only
    split
    · exact sqz_len _
    · simp
  have h2 : (ownH h k).rows.length + lens (ownH h k).rows ≤ h.rows.length + lens h.rows := by
    unfold ownH
    simp only
    split
    · exact Nat.le_refl _
    · simp [lens]
  have h3 : (ownH h k).grid.cols.length ≤ 20 ∧ trls (ownH h k).grid.rows ≤ 21 * trls h.grid.rows := by
    unfold ownH
    simp only
    split
    · exact ⟨(mend_size2 _).2, (mend_size2 _).1⟩
    · simp [noGrid, trls]
  omega
mutual
theorem tdN_size : ∀ (x : Nd) (w : Int) (d n : Nat), nlL (tdN x w d n).1 ≤ 24 * nlN x
  | .mk h ks, w, d, n => by
    rw [tdN_mk]
    have ho := hdl_own h (kindAt h.kind w)
    split
    · have i1 := tdL_size ks (kindAt h.kind w) (d + 1) n
      simp only
      split
      · simp only [nlL, nlN]; omega
      · simp only [nlL, nlN]; omega
    · simp only
      rw [nlL_app]
      have h1 : nlL (if fullB (ownH h (kindAt h.kind w)) false = true then [Nd.mk (ownH h (kindAt h.kind w)) []] else []) ≤ hdl (ownH h (kindAt h.kind w)) := by
        split <;> simp [nlL, nlN]
      by_cases hm : mayK h.kind = true
      · rw [if_pos hm]
        have i1 := tdL_size ks w d n
        simp only [nlN]
        omega
      · rw [if_neg hm]
        simp only [nlL, nlN]; omega
theorem tdL_size : ∀ (l : List Nd) (w : Int) (d n : Nat), nlL (tdL l w d n).1 ≤ 24 * nlL l
  | [], w, d, n => by rw [tdL_nil]; simp [nlL]
  | x :: l, w, d, n => by
    rw [tdL_cons]
    split
    · simp [nlL]
    · simp only
      rw [nlL_app]
      have h1 := tdN_size x w d (n - 1)
      have h3 := tdL_size l w d (tdN x w d (n - 1)).2
      simp only [nlL]
      omega
end
theorem tidy_size (l : List Nd) : nlL (tidyL l) ≤ 24 * nlL l := tdL_size l 0 0 20000
end Go.Proofs.YtpccjgoeoeehoaaDoor
