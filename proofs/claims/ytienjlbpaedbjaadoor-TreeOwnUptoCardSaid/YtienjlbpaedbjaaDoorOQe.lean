/- The program's own for documents: a node put right, but for its kids. -/
import Derived.Test.YtienjlbpaedbjaaDoorOQa
import Derived.Test.YtienjlbpaedbjaaDoorOQ7
import Derived.Test.YtienjlbpaedbjaaDoorODo
namespace Go.Proofs.YtienjlbpaedbjaaDoor
open Go.RowKit
attribute [local go_sem ↓ high] builtin_mnS builtin_mxS

/-- mended's three nodes. -/
structure MD (w : World) (x : NV) (o : Nat) (W : World) (y : NV) : Prop where
  bel : Below w.heap.size w W
  box : Blk W w.heap.size 39 (ncell x)
  res : Blk W (w.heap.size + 1) 39 zNd
  y : Blk W o 39 (ncell y)
  lt : w.heap.size + 1 < o
section
variable {w W W' : World} {x y y' : NV} {o : Nat}
theorem MD.keep (h : MD w x o W y) (hb : Below W.heap.size W W') : MD w x o W' y := ⟨h.bel.trans (hb.mono h.bel.size), h.box.below hb, h.res.below hb, h.y.below hb, h.lt⟩
theorem MD.set (h : MD w x o W y) (j : Nat) (v : Value) (hy : (ncell y).set j v = ncell y') : MD w x o (W.setCell ⟨o, j, none⟩ v) y' :=
  have := h.lt
  ⟨h.bel.setCell (by show w.heap.size ≤ o; omega) _, h.box.other (by omega) _ _, h.res.other (by omega) _ _, hy ▸ h.y.set j v, h.lt⟩
theorem MD.fin (h : MD w x o W y) : Below w.heap.size w (set10 W (w.heap.size + 1) y) ∧ Blk (set10 W (w.heap.size + 1) y) (w.heap.size + 1) 39 (ncell y) ∧
    (∀ b, b ≠ w.heap.size + 1 → (set10 W (w.heap.size + 1) y).heap[b]? = W.heap[b]?) ∧ (set10 W (w.heap.size + 1) y).heap.size = W.heap.size :=
  ⟨set10_below h.bel (by omega) _, set10_blk h.res _, fun b hb => set10_heap _ _ _ hb, set10_size _ _ _⟩
/-- What lies behind o, but o. -/
abbrev Bh (o : Nat) (W : World) (b : Nat) : Prop := o < b ∧ b < W.heap.size
theorem Bh.kp (hb : Below W.heap.size W W') : Kp (Bh o W) W W' := fun b hb' => hb.block b hb'.2
theorem Bh.up (hb : W.heap.size ≤ W'.heap.size) : ∀ b, Bh o W b → Bh o W' b := fun b h => ⟨h.1, Nat.lt_of_lt_of_le h.2 hb⟩
theorem Bh.set (j : Nat) (v : Value) : Kp (Bh o W) W (W.setCell ⟨o, j, none⟩ v) := fun b hb => Below.heap_setCell W ⟨o, j, none⟩ v b (by have := hb.1; show b ≠ o; omega)
theorem FsS.bh {α : Type} {n : Nat} {f : α → List Value} {v : Value} {l : List α} (h : FsS (Bh o W) n f W v l) (hb : Below W.heap.size W W') : FsS (Bh o W') n f W' v l := (h.keep (Bh.kp hb)).mono (Bh.up hb.size)
theorem FsS.bhs {α : Type} {n : Nat} {f : α → List Value} {v : Value} {l : List α} (h : FsS (Bh o W) n f W v l) (j : Nat) (u : Value) : FsS (Bh o (W.setCell ⟨o, j, none⟩ u)) n f (W.setCell ⟨o, j, none⟩ u) v l := (h.keep (Bh.set j u)).mono (fun b q => ⟨q.1, by rw [szset]; exact q.2⟩)
theorem GrS.bh {v : Value} {l : List (List Gly)} (h : GrS (Bh o W) W v l) (hb : Below W.heap.size W W') : GrS (Bh o W') W' v l := (h.keep (Bh.kp hb)).mono (Bh.up hb.size)
theorem GrS.bhs {v : Value} {l : List (List Gly)} (h : GrS (Bh o W) W v l) (j : Nat) (u : Value) : GrS (Bh o (W.setCell ⟨o, j, none⟩ u)) (W.setCell ⟨o, j, none⟩ u) v l := (h.keep (Bh.set j u)).mono (fun b q => ⟨q.1, by rw [szset]; exact q.2⟩)
theorem TrS.bhs {v : Value} {l : List Trow} (h : TrS (Bh o W) W v l) (j : Nat) (u : Value) : TrS (Bh o (W.setCell ⟨o, j, none⟩ u)) (W.setCell ⟨o, j, none⟩ u) v l := (h.keep (Bh.set j u)).mono (fun b q => ⟨q.1, by rw [szset]; exact q.2⟩)
end
theorem clip_run2 (lo hi x : Int) (h : lo ≤ hi) : (if hi < (if lo > x then lo else x) then hi else (if lo > x then lo else x)) = clipI lo hi x := by unfold clipI; split <;> split <;> omega
theorem ownH_ownP (h : Hd) : ownH h h.kind = ⟨h.kind, clipI 0 1099511627775 (ownP h).line, clipI 0 200 (ownP h).n, sqz (ownP h).text, (ownP h).rows, if h.kind = 7 then mend (ownP h).grid else noGrid⟩ := by
  unfold ownH ownP
  simp only
  congr 1
  · split
    · rfl
    · rfl
  · split
    · rfl
    · exact sqz_nil.symm
  · split <;> simp_all
def MedP (h : Hd) (w : World) (e : Ending) (w' : World) : Prop := ∃ y : NV, e = .returned (.agg (ncell y).toArray) ∧ y.kids = nilP ∧ HdIs (fun b => w.heap.size ≤ b ∧ b < w'.heap.size) w' y (ownH h h.kind) ∧ Below w.heap.size w w'
set_option maxRecDepth 100000 in
set_option maxHeartbeats 8000000 in
theorem pmended_any (S : Nat → Prop) (x : NV) (h : Hd) (w : World) (hU : U8 w) (hh : HdIs S w x h) (hl : hdl h ≤ 90000) (hS : ∀ b, S b → b < w.heap.size) :
    Calls Tryd.prog 83 #[.agg (ncell x).toArray] w (MedP h w) := by
  have hdd : hdl h = 3 + h.text.length + h.grid.cols.length + (h.rows.length + lens h.rows) + trls h.grid.rows := rfl
  have HO := hh.own
  have hk := hh.kind
  have hlt : (ownP h).text.length ≤ 90000 := by unfold ownP; simp only; split; omega; simp
  have hlr : (ownP h).rows.length + lens (ownP h).rows ≤ 90000 := by unfold ownP; simp only; split; omega; simp [lens]
  have hlg : (ownP h).grid.cols.length ≤ 90000 ∧ trls (ownP h).grid.rows ≤ 90000 := by unfold ownP; simp only; split; omega; exact ⟨by simp [noGrid], by simp [noGrid, trls]⟩
  have hOK : (ownP h).kind = h.kind := rfl
  unfold MedP
  rw [ownH_ownP h]
  have hxk : x.kind = (ownV x).kind := rfl
  have hkd : (ownV x).kids = if mayK x.kind then x.kids else nilP := rfl
  have HOWN := Lib.hid (pown_any x ((w.alloc (.cells (ncell x).toArray 39)).alloc (.cells zNd.toArray 39)))
  obtain ⟨W1, hW1⟩ : ∃ W, W = (w.alloc (.cells (ncell x).toArray 39)).alloc (.cells zNd.toArray 39) := ⟨_, rfl⟩
  obtain ⟨b1, hX, hR⟩ := two_lits w _ _ W1 hW1
  rw [← hW1] at HOWN
  have hz1 : W1.heap.size = w.heap.size + 1 + 1 := by rw [hW1, World.size_alloc, World.size_alloc]
  obtain ⟨Q, hQ⟩ : ∃ Q, ownP h = Q := ⟨_, rfl⟩
  rw [hQ] at HO hlt hlr hlg ⊢
  obtain ⟨Y, hY⟩ : ∃ Y, ownV x = Y := ⟨_, rfl⟩
  have HYY := Lib.hid hY
  rw [hY] at HO HOWN hxk
  rw [← hk, hxk] at ⊢
  have HDS : Hid (∀ w1, Below W1.heap.size W1 w1 → HdIs S w1 Y Q) := Lib.hid (fun w1 hb => HO.keep (Kp.below (b1.trans (hb.mono b1.size)) hS))
  have HB1 := Lib.hid b1
  have HX := Lib.hid hX
  have HR := Lib.hid hR
  have HU := Lib.hid hU
  have HS := Lib.hid hS
  have HW1 := Lib.hid hW1
  have HZ1 := Lib.hid hz1
  have HXK := Lib.hid (hxk : x.kind = Y.kind)
  have hYl := HO.line
  have hYn := HO.n
  have HTL := Lib.hid HO.text
  have e0 : Hid (x.kind = Y.kind) := Lib.hid hxk
  have HNG0 : Hid (¬ x.kind = 7 → Y.cols = [] ∧ Y.trows = nilP ∧ Y.box = false ∧ Y.all = false) := Lib.hid (fun h7 => by rw [← HYY.out]; unfold ownV; simp only [if_neg h7]; exact ⟨trivial, trivial, trivial, trivial⟩)
  obtain ⟨xk, xl, xn, ⟨t1, t2, t3⟩, ⟨k1, k2, k3⟩, ⟨r1, r2, r3⟩, xc, ⟨q1, q2, q3⟩, xb, xa⟩ := x
  obtain ⟨yk, yl, yn, ⟨t1', t2', t3'⟩, ⟨k1', k2', k3'⟩, ⟨r1', r2', r3'⟩, yc, ⟨q1', q2', q3'⟩, yb, ya⟩ := Y
  simp only at hYl hYn HXK hxk ⊢
  subst hxk
  rw [← hYl, ← hYn]
  have mx1 := fun w => mxS_run yl 0 _ rfl w
  have mn1 := fun w => mnS_run (if (0 : Int) > yl then (0 : Int) else yl) 1099511627775 (clipI 0 1099511627775 yl) (clip_run2 _ _ _ (by decide)) w
  have mx2 := fun w => mxS_run yn 0 _ rfl w
  have mn2 := fun w => mnS_run (if (0 : Int) > yn then (0 : Int) else yn) 200 (clipI 0 200 yn) (clip_run2 _ _ _ (by decide)) w
  obtain ⟨M1, hM1⟩ : ∃ M, (if (0 : Int) > yl then (0 : Int) else yl) = M := ⟨_, rfl⟩
  obtain ⟨M2, hM2⟩ : ∃ M, (if (0 : Int) > yn then (0 : Int) else yn) = M := ⟨_, rfl⟩
  rw [hM1] at mx1 mn1
  rw [hM2] at mx2 mn2
  obtain ⟨CL, hCL⟩ : ∃ M, clipI 0 1099511627775 yl = M := ⟨_, rfl⟩
  obtain ⟨CN, hCN⟩ : ∃ M, clipI 0 200 yn = M := ⟨_, rfl⟩
  rw [hCL] at mn1 ⊢
  rw [hCN] at mn2 ⊢
  obtain ⟨GR, hGR⟩ : ∃ G, (if xk = 7 then mend Q.grid else noGrid) = G := ⟨_, rfl⟩
  rw [hGR]
  have HGR := Lib.hid hGR
  have HNG : Hid (¬ xk = 7 → yc = [] ∧ ((q1', q2', q3') : PV) = nilP ∧ yb = false ∧ ya = false) := Lib.hid (fun h7 => HNG0.out h7)
  simp only [ncell, pv, zNd] at HOWN HW1 ⊢
  clear HO hk hdd hl hQ hY hkd b1 hX hR hU hS hW1 hz1 hYl hYn hM1 hM2 hCL hCN hOK hh HXK hGR HNG0
  go_enter Tryd.func83, Tryd.ntmps83
  go_wp2_with fail
  rw [← HW1.out]
  refine HOWN.out.mono ?_
  rintro e w1 ⟨rfl, b1⟩
  have HD1 := Lib.hid (HDS.out w1 b1)
  obtain ⟨W3, hW3⟩ : ∃ W, W = w1.alloc (.cells (ncell ⟨xk, CL, CN, (t1', t2', t3'), nilP, (r1', r2', r3'), yc, (q1', q2', q3'), yb, ya⟩).toArray 39) := ⟨_, rfl⟩
  have b3 : Below w1.heap.size w1 W3 := by rw [hW3]; exact below_lit _ _
  have HM3 : Hid (MD w ⟨xk, xl, xn, (t1, t2, t3), (k1, k2, k3), (r1, r2, r3), xc, (q1, q2, q3), xb, xa⟩ w1.heap.size W3 ⟨xk, CL, CN, (t1', t2', t3'), nilP, (r1', r2', r3'), yc, (q1', q2', q3'), yb, ya⟩) := Lib.hid
    ⟨(HB1.out.trans (b1.mono HB1.out.size)).trans (b3.mono (Nat.le_trans HB1.out.size b1.size)), (HX.out.below b1).below b3, (HR.out.below b1).below b3, by rw [hW3]; exact heap_alloc_new w1 _, by have := HZ1.out; have := b1.size; omega⟩
  obtain ⟨o, ho⟩ : ∃ o, w1.heap.size = o := ⟨_, rfl⟩
  rw [ho] at HM3
  have hoz : W3.heap.size = o + 1 := by rw [hW3, World.size_alloc, ho]
  have HOZ := Lib.hid hoz
  have hS3 : ∀ b, S b → b < W3.heap.size := fun b hb => Nat.lt_of_lt_of_le (HS.out b hb) HM3.out.bel.size
  have HD3 := HD1.out.keep (Kp.below b3 (fun b hb => Nat.lt_of_lt_of_le (HS.out b hb) (Nat.le_trans HB1.out.size b1.size)))
  have HSQ := Lib.hid (psqueeze_any Q.text _ W3 HD3.text.1 hlt)
  have HD3' := Lib.hid HD3
  have HS3 := Lib.hid hS3
  have HHO := Lib.hid ho
  simp only [ncell, pv, nilP] at hW3
  have HW3 := Lib.hid hW3
  simp only [pv] at HSQ
  clear HD3 hS3 hoz b3 b1 HD1 HDS HX HR HOWN ho hW3
  go_wp2_with fail
  rw [HHO.out, ← HW3.out]
  refine HSQ.out.mono ?_
  rintro e w4 ⟨u, rfl, hu, b4⟩
  obtain ⟨ua, uc, hue⟩ := (FOwn.sl gcell_len hu).len
  obtain ⟨um, hum⟩ : ∃ m, (sqz Q.text).length = m := ⟨_, rfl⟩
  rw [hum] at hue
  subst hue
  have HM4 := Lib.hid (HM3.out.keep b4)
  have HT4 : Hid (FsS (Bh o w4) 2 gcell w4 (.slice ua um uc) (sqz Q.text)) := Lib.hid ((own_foot gcell_len hu).mono (fun b q => ⟨by have := HOZ.out; omega, by obtain ⟨-, cur, fz, hc⟩ := q; exact (Array.getElem?_eq_some_iff.1 hc).1⟩))
  have f3 : w4.frozen? ⟨o, 3, none⟩ = false := HM4.out.y.frozen (by simp [ncell])
  have g3 : w4.cell? ⟨o, 3, none⟩ = some (.slice t1' t2' t3') := HM4.out.y.cell 3
  obtain ⟨W5, hW5⟩ : ∃ W, W = w4.setCell ⟨o, 3, none⟩ (.slice ua um uc) := ⟨_, rfl⟩
  have HM5 : Hid (MD w ⟨xk, xl, xn, (t1, t2, t3), (k1, k2, k3), (r1, r2, r3), xc, (q1, q2, q3), xb, xa⟩ o W5 ⟨xk, CL, CN, (ua, um, uc), nilP, (r1', r2', r3'), yc, (q1', q2', q3'), yb, ya⟩) := Lib.hid (by rw [hW5]; exact HM4.out.set 3 _ rfl)
  have HT5 : Hid (FsS (Bh o W5) 2 gcell W5 (.slice ua um uc) (sqz Q.text)) := Lib.hid (by rw [hW5]; exact HT4.out.bhs 3 _)
  have hkS : Kp S W3 W5 := fun b hb => by
    rw [hW5, Below.heap_setCell _ _ _ _ (show b ≠ o by have := HS.out b hb; have := HM3.out.lt; omega)]
    exact b4.block b (HS3.out b hb)
  have hS5 : ∀ b, S b → b < W5.heap.size := fun b hb => Nat.lt_of_lt_of_le (HS.out b hb) HM5.out.bel.size
  have HCP := Lib.hid (pcopied_any S Q.rows _ W5 (HD3'.out.rows.keep hkS) hlr hS5)
  have HKS := Lib.hid hkS
  have HS5 := Lib.hid hS5
  have HSZ5 : Hid (o < W5.heap.size) := Lib.hid HM5.out.y.lt
  have g5 : W5.cell? ⟨o, 5, none⟩ = some (.slice r1' r2' r3') := HM5.out.y.cell 5
  simp only [pv] at HCP
  clear hu hum b4 hkS hS5 HSQ HM3 HM4 HT4
  subst hW5
  go_wp2_with fail
  refine HCP.out.mono ?_
  rintro e w6 ⟨u6, rfl, hu6, b6⟩
  obtain ⟨va, vc, hue⟩ := hu6.len
  obtain ⟨vm, hvm⟩ : ∃ m, Q.rows.length = m := ⟨_, rfl⟩
  rw [hvm] at hue
  subst hue
  have HM6 := Lib.hid (HM5.out.keep b6)
  have HT6 := Lib.hid (HT5.out.bh b6)
  have HR6 : Hid (GrS (Bh o w6) w6 (.slice va vm vc) Q.rows) := Lib.hid (hu6.grs.mono (fun b q => ⟨by have := HSZ5.out; omega, by obtain ⟨-, cur, e, fz, hc, -⟩ := q; exact (Array.getElem?_eq_some_iff.1 hc).1⟩))
  have f5 : w6.frozen? ⟨o, 5, none⟩ = false := HM6.out.y.frozen (by simp [ncell])
  have g5' : w6.cell? ⟨o, 5, none⟩ = some (.slice r1' r2' r3') := HM6.out.y.cell 5
  obtain ⟨W7, hW7⟩ : ∃ W, W = w6.setCell ⟨o, 5, none⟩ (.slice va vm vc) := ⟨_, rfl⟩
  have HM7 : Hid (MD w ⟨xk, xl, xn, (t1, t2, t3), (k1, k2, k3), (r1, r2, r3), xc, (q1, q2, q3), xb, xa⟩ o W7 ⟨xk, CL, CN, (ua, um, uc), nilP, (va, vm, vc), yc, (q1', q2', q3'), yb, ya⟩) := Lib.hid (by rw [hW7]; exact HM6.out.set 5 _ rfl)
  have HT7 : Hid (FsS (Bh o W7) 2 gcell W7 (.slice ua um uc) (sqz Q.text)) := Lib.hid (by rw [hW7]; exact HT6.out.bhs 5 _)
  have HR7 : Hid (GrS (Bh o W7) W7 (.slice va vm vc) Q.rows) := Lib.hid (by rw [hW7]; exact HR6.out.bhs 5 _)
  have hkS7 : Kp S W3 W7 := fun b hb => by
    rw [hW7, Below.heap_setCell _ _ _ _ (show b ≠ o by have := HS.out b hb; have := HM6.out.lt; omega)]
    exact (b6.block b (HS5.out b hb)).trans (HKS.out b hb)
  have HKS7 := Lib.hid hkS7
  have c0 : W7.cell? ⟨w.heap.size, 0, none⟩ = some (.int .i64 xk) := HM7.out.box.cell 0
  clear hu6 hvm b6 hkS7 HCP HM5 HM6 HT5 HT6 HR6 g5 HKS HSZ5
  by_cases h7 : xk = 7
  · subst h7
    have HG : Hid (Calls Tryd.prog 16 #[.agg #[.string ⟨yc.toArray⟩, .slice q1' q2' q3', .bool yb, .bool ya]] W7 (MendP (mend Q.grid) W7)) := Lib.hid (by
      have hh := HD3'.out.keep HKS7.out
      have hU7 := HU.out.below HM7.out.bel
      have := pmend_any S Q.grid (q1', q2', q3') W7 hU7 hh.trows hlg.1 hlg.2 (fun b hb => Nat.lt_of_lt_of_le (HS.out b hb) HM7.out.bel.size)
      unfold tabV at this
      rw [← hh.cols, ← hh.box, ← hh.all] at this
      exact this)
    have g6 : W7.cell? ⟨o, 6, none⟩ = some (.string ⟨yc.toArray⟩) := HM7.out.y.cell 6
    have g7 : W7.cell? ⟨o, 7, none⟩ = some (.slice q1' q2' q3') := HM7.out.y.cell 7
    have g8 : W7.cell? ⟨o, 8, none⟩ = some (.bool yb) := HM7.out.y.cell 8
    have g9 : W7.cell? ⟨o, 9, none⟩ = some (.bool ya) := HM7.out.y.cell 9
    have HSZ7 : Hid (o < W7.heap.size) := Lib.hid HM7.out.y.lt
    rw [show mend Q.grid = GR by have := HGR.out; rwa [if_pos rfl] at this] at HG
    subst hW7
    go_wp2_with fail
    refine HG.out.mono ?_
    rintro e w8 ⟨⟨ga, gm, gc⟩, rfl, hg8, b8⟩
    simp only [tabV, pv]
    have HM8 := Lib.hid (HM7.out.keep b8)
    have HT8 := Lib.hid (HT7.out.bh b8)
    have HR8 := Lib.hid (HR7.out.bh b8)
    have HG8 : Hid (TrS (Bh o w8) w8 (.slice ga gm gc) GR.rows) := Lib.hid (hg8.trs.mono (fun b q => ⟨by have := HSZ7.out; omega, q.2⟩))
    have f6 : w8.frozen? ⟨o, 6, none⟩ = false := HM8.out.y.frozen (by simp [ncell])
    have f7 : w8.frozen? ⟨o, 7, none⟩ = false := HM8.out.y.frozen (by simp [ncell])
    have f8 : w8.frozen? ⟨o, 8, none⟩ = false := HM8.out.y.frozen (by simp [ncell])
    have f9 : w8.frozen? ⟨o, 9, none⟩ = false := HM8.out.y.frozen (by simp [ncell])
    have j6 : w8.cell? ⟨o, 6, none⟩ = some (.string ⟨yc.toArray⟩) := HM8.out.y.cell 6
    have j7 : w8.cell? ⟨o, 7, none⟩ = some (.slice q1' q2' q3') := HM8.out.y.cell 7
    have j8 : w8.cell? ⟨o, 8, none⟩ = some (.bool yb) := HM8.out.y.cell 8
    have j9 : w8.cell? ⟨o, 9, none⟩ = some (.bool ya) := HM8.out.y.cell 9
    obtain ⟨W9, hW9⟩ : ∃ W, W = (((w8.setCell ⟨o, 6, none⟩ (.string ⟨GR.cols.toArray⟩)).setCell ⟨o, 7, none⟩ (.slice ga gm gc)).setCell ⟨o, 8, none⟩ (.bool GR.box)).setCell ⟨o, 9, none⟩ (.bool GR.all) := ⟨_, rfl⟩
    have HM9 : Hid (MD w ⟨7, xl, xn, (t1, t2, t3), (k1, k2, k3), (r1, r2, r3), xc, (q1, q2, q3), xb, xa⟩ o W9 ⟨7, CL, CN, (ua, um, uc), nilP, (va, vm, vc), GR.cols, (ga, gm, gc), GR.box, GR.all⟩) := Lib.hid (by
      rw [hW9]
      exact (((HM8.out.set (y' := ⟨7, CL, CN, (ua, um, uc), nilP, (va, vm, vc), GR.cols, (q1', q2', q3'), yb, ya⟩) 6 _ rfl).set (y' := ⟨7, CL, CN, (ua, um, uc), nilP, (va, vm, vc), GR.cols, (ga, gm, gc), yb, ya⟩) 7 _ rfl).set (y' := ⟨7, CL, CN, (ua, um, uc), nilP, (va, vm, vc), GR.cols, (ga, gm, gc), GR.box, ya⟩) 8 _ rfl).set 9 _ rfl)
    have HTF : Hid (FsS (Bh o W9) 2 gcell W9 (.slice ua um uc) (sqz Q.text)) := Lib.hid (by rw [hW9]; exact (((HT8.out.bhs 6 _).bhs 7 _).bhs 8 _).bhs 9 _)
    have HRF : Hid (GrS (Bh o W9) W9 (.slice va vm vc) Q.rows) := Lib.hid (by rw [hW9]; exact (((HR8.out.bhs 6 _).bhs 7 _).bhs 8 _).bhs 9 _)
    have HGF : Hid (TrS (Bh o W9) W9 (.slice ga gm gc) GR.rows) := Lib.hid (by rw [hW9]; exact (((HG8.out.bhs 6 _).bhs 7 _).bhs 8 _).bhs 9 _)
    clear hg8 b8 HM8 HT8 HR8 HG8 HM7 HT7 HR7 g6 g7 g8 g9 HG c0

    have y0 : W9.cell? ⟨o, 0, none⟩ = some (.int .i64 7) := HM9.out.y.cell 0
    have z0 : W9.cell? ⟨w.heap.size + 1, 0, none⟩ = some (.int .i64 0) := HM9.out.res.cell 0
    have v0 : W9.frozen? ⟨w.heap.size + 1, 0, none⟩ = false := HM9.out.res.frozen (by simp [zNd])
    have y1 : W9.cell? ⟨o, 1, none⟩ = some (.int .i64 CL) := HM9.out.y.cell 1
    have z1 : W9.cell? ⟨w.heap.size + 1, 1, none⟩ = some (.int .i64 0) := HM9.out.res.cell 1
    have v1 : W9.frozen? ⟨w.heap.size + 1, 1, none⟩ = false := HM9.out.res.frozen (by simp [zNd])
    have y2 : W9.cell? ⟨o, 2, none⟩ = some (.int .i64 CN) := HM9.out.y.cell 2
    have z2 : W9.cell? ⟨w.heap.size + 1, 2, none⟩ = some (.int .i64 0) := HM9.out.res.cell 2
    have v2 : W9.frozen? ⟨w.heap.size + 1, 2, none⟩ = false := HM9.out.res.frozen (by simp [zNd])
    have y3 : W9.cell? ⟨o, 3, none⟩ = some (.slice ua um uc) := HM9.out.y.cell 3
    have z3 : W9.cell? ⟨w.heap.size + 1, 3, none⟩ = some (.slice none 0 0) := HM9.out.res.cell 3
    have v3 : W9.frozen? ⟨w.heap.size + 1, 3, none⟩ = false := HM9.out.res.frozen (by simp [zNd])
    have y4 : W9.cell? ⟨o, 4, none⟩ = some (.slice none 0 0) := HM9.out.y.cell 4
    have z4 : W9.cell? ⟨w.heap.size + 1, 4, none⟩ = some (.slice none 0 0) := HM9.out.res.cell 4
    have v4 : W9.frozen? ⟨w.heap.size + 1, 4, none⟩ = false := HM9.out.res.frozen (by simp [zNd])
    have y5 : W9.cell? ⟨o, 5, none⟩ = some (.slice va vm vc) := HM9.out.y.cell 5
    have z5 : W9.cell? ⟨w.heap.size + 1, 5, none⟩ = some (.slice none 0 0) := HM9.out.res.cell 5
    have v5 : W9.frozen? ⟨w.heap.size + 1, 5, none⟩ = false := HM9.out.res.frozen (by simp [zNd])
    have y6 : W9.cell? ⟨o, 6, none⟩ = some (.string ⟨GR.cols.toArray⟩) := HM9.out.y.cell 6
    have z6 : W9.cell? ⟨w.heap.size + 1, 6, none⟩ = some (.string ⟨#[]⟩) := HM9.out.res.cell 6
    have v6 : W9.frozen? ⟨w.heap.size + 1, 6, none⟩ = false := HM9.out.res.frozen (by simp [zNd])
    have y7 : W9.cell? ⟨o, 7, none⟩ = some (.slice ga gm gc) := HM9.out.y.cell 7
    have z7 : W9.cell? ⟨w.heap.size + 1, 7, none⟩ = some (.slice none 0 0) := HM9.out.res.cell 7
    have v7 : W9.frozen? ⟨w.heap.size + 1, 7, none⟩ = false := HM9.out.res.frozen (by simp [zNd])
    have y8 : W9.cell? ⟨o, 8, none⟩ = some (.bool GR.box) := HM9.out.y.cell 8
    have z8 : W9.cell? ⟨w.heap.size + 1, 8, none⟩ = some (.bool false) := HM9.out.res.cell 8
    have v8 : W9.frozen? ⟨w.heap.size + 1, 8, none⟩ = false := HM9.out.res.frozen (by simp [zNd])
    have y9 : W9.cell? ⟨o, 9, none⟩ = some (.bool GR.all) := HM9.out.y.cell 9
    have z9 : W9.cell? ⟨w.heap.size + 1, 9, none⟩ = some (.bool false) := HM9.out.res.cell 9
    have v9 : W9.frozen? ⟨w.heap.size + 1, 9, none⟩ = false := HM9.out.res.frozen (by simp [zNd])
    have HF := Lib.hid HM9.out.fin
    subst hW9
    go_wp2_with fail
    have hblk := HF.out.2.1
    have k0' := hblk.cell 0
    have k1' := hblk.cell 1
    have k2' := hblk.cell 2
    have k3' := hblk.cell 3
    have k4' := hblk.cell 4
    have k5' := hblk.cell 5
    have k6' := hblk.cell 6
    have k7' := hblk.cell 7
    have k8' := hblk.cell 8
    have k9' := hblk.cell 9
    unfold set10 at k0' k1' k2' k3' k4' k5' k6' k7' k8' k9'
    simp [ncell, pv] at k0' k1' k2' k3' k4' k5' k6' k7' k8' k9'
    refine bodyPost_ret (v := .agg #[.int .i64 7, .int .i64 CL, .int .i64 CN, .slice ua um uc, .slice none 0 0, .slice va vm vc, .string ⟨GR.cols.toArray⟩, .slice ga gm gc, .bool GR.box, .bool GR.all]) (by simp [results, Tryd.results83, go_sem, k0', k1', k2', k3', k4', k5', k6', k7', k8', k9']) rfl ?_
    have hlt := HM9.out.lt
    have hsz := HF.out.2.2.2
    obtain ⟨W9, hWW⟩ : ∃ W, W = (((w8.setCell ⟨o, 6, none⟩ (.string ⟨GR.cols.toArray⟩)).setCell ⟨o, 7, none⟩ (.slice ga gm gc)).setCell ⟨o, 8, none⟩ (.bool GR.box)).setCell ⟨o, 9, none⟩ (.bool GR.all) := ⟨_, rfl⟩
    rw [← hWW] at HF HTF HRF hsz HGF ⊢
    have kF : Kp (Bh o W9) W9 (set10 W9 (w.heap.size + 1) ⟨7, CL, CN, (ua, um, uc), nilP, (va, vm, vc), GR.cols, (ga, gm, gc), GR.box, GR.all⟩) := fun b hb => HF.out.2.2.1 b (by have := hb.1; omega)
    have mF : ∀ b, Bh o W9 b → (w.heap.size ≤ b ∧ b < (set10 W9 (w.heap.size + 1) ⟨7, CL, CN, (ua, um, uc), nilP, (va, vm, vc), GR.cols, (ga, gm, gc), GR.box, GR.all⟩).heap.size) := fun b hb => ⟨by have := hb.1; omega, by rw [hsz]; exact hb.2⟩
    exact ⟨⟨7, CL, CN, (ua, um, uc), nilP, (va, vm, vc), GR.cols, (ga, gm, gc), GR.box, GR.all⟩, rfl, rfl, ⟨rfl, rfl, rfl, (HTF.out.keep kF).mono mF, (HRF.out.keep kF).mono mF, rfl, (HGF.out.keep kF).mono mF, rfl, rfl⟩, HF.out.1⟩
  · have n7 : (xk == 7) = false := by simpa using h7
    have HGN : Hid (GR = noGrid) := Lib.hid (by have := HGR.out; rw [if_neg h7] at this; exact this.symm)
    have HM9 : Hid (MD w ⟨xk, xl, xn, (t1, t2, t3), (k1, k2, k3), (r1, r2, r3), xc, (q1, q2, q3), xb, xa⟩ o W7 ⟨xk, CL, CN, (ua, um, uc), nilP, (va, vm, vc), [], nilP, false, false⟩) := Lib.hid (by
      obtain ⟨a1, a2, a3, a4⟩ := HNG.out h7
      injection a2 with a2 a5
      injection a5 with a5 a6
      have := HM7.out
      rw [a1, a2, a3, a4, a5, a6] at this
      exact this)
    have HTF := HT7
    have HRF := HR7
    clear HM7 h7
    have y0 : W7.cell? ⟨o, 0, none⟩ = some (.int .i64 xk) := HM9.out.y.cell 0
    have z0 : W7.cell? ⟨w.heap.size + 1, 0, none⟩ = some (.int .i64 0) := HM9.out.res.cell 0
    have v0 : W7.frozen? ⟨w.heap.size + 1, 0, none⟩ = false := HM9.out.res.frozen (by simp [zNd])
    have y1 : W7.cell? ⟨o, 1, none⟩ = some (.int .i64 CL) := HM9.out.y.cell 1
    have z1 : W7.cell? ⟨w.heap.size + 1, 1, none⟩ = some (.int .i64 0) := HM9.out.res.cell 1
    have v1 : W7.frozen? ⟨w.heap.size + 1, 1, none⟩ = false := HM9.out.res.frozen (by simp [zNd])
    have y2 : W7.cell? ⟨o, 2, none⟩ = some (.int .i64 CN) := HM9.out.y.cell 2
    have z2 : W7.cell? ⟨w.heap.size + 1, 2, none⟩ = some (.int .i64 0) := HM9.out.res.cell 2
    have v2 : W7.frozen? ⟨w.heap.size + 1, 2, none⟩ = false := HM9.out.res.frozen (by simp [zNd])
    have y3 : W7.cell? ⟨o, 3, none⟩ = some (.slice ua um uc) := HM9.out.y.cell 3
    have z3 : W7.cell? ⟨w.heap.size + 1, 3, none⟩ = some (.slice none 0 0) := HM9.out.res.cell 3
    have v3 : W7.frozen? ⟨w.heap.size + 1, 3, none⟩ = false := HM9.out.res.frozen (by simp [zNd])
    have y4 : W7.cell? ⟨o, 4, none⟩ = some (.slice none 0 0) := HM9.out.y.cell 4
    have z4 : W7.cell? ⟨w.heap.size + 1, 4, none⟩ = some (.slice none 0 0) := HM9.out.res.cell 4
    have v4 : W7.frozen? ⟨w.heap.size + 1, 4, none⟩ = false := HM9.out.res.frozen (by simp [zNd])
    have y5 : W7.cell? ⟨o, 5, none⟩ = some (.slice va vm vc) := HM9.out.y.cell 5
    have z5 : W7.cell? ⟨w.heap.size + 1, 5, none⟩ = some (.slice none 0 0) := HM9.out.res.cell 5
    have v5 : W7.frozen? ⟨w.heap.size + 1, 5, none⟩ = false := HM9.out.res.frozen (by simp [zNd])
    have y6 : W7.cell? ⟨o, 6, none⟩ = some (.string ⟨#[]⟩) := HM9.out.y.cell 6
    have z6 : W7.cell? ⟨w.heap.size + 1, 6, none⟩ = some (.string ⟨#[]⟩) := HM9.out.res.cell 6
    have v6 : W7.frozen? ⟨w.heap.size + 1, 6, none⟩ = false := HM9.out.res.frozen (by simp [zNd])
    have y7 : W7.cell? ⟨o, 7, none⟩ = some (.slice none 0 0) := HM9.out.y.cell 7
    have z7 : W7.cell? ⟨w.heap.size + 1, 7, none⟩ = some (.slice none 0 0) := HM9.out.res.cell 7
    have v7 : W7.frozen? ⟨w.heap.size + 1, 7, none⟩ = false := HM9.out.res.frozen (by simp [zNd])
    have y8 : W7.cell? ⟨o, 8, none⟩ = some (.bool false) := HM9.out.y.cell 8
    have z8 : W7.cell? ⟨w.heap.size + 1, 8, none⟩ = some (.bool false) := HM9.out.res.cell 8
    have v8 : W7.frozen? ⟨w.heap.size + 1, 8, none⟩ = false := HM9.out.res.frozen (by simp [zNd])
    have y9 : W7.cell? ⟨o, 9, none⟩ = some (.bool false) := HM9.out.y.cell 9
    have z9 : W7.cell? ⟨w.heap.size + 1, 9, none⟩ = some (.bool false) := HM9.out.res.cell 9
    have v9 : W7.frozen? ⟨w.heap.size + 1, 9, none⟩ = false := HM9.out.res.frozen (by simp [zNd])
    have HF := Lib.hid HM9.out.fin
    subst hW7
    go_wp2_with fail
    have hblk := HF.out.2.1
    have k0' := hblk.cell 0
    have k1' := hblk.cell 1
    have k2' := hblk.cell 2
    have k3' := hblk.cell 3
    have k4' := hblk.cell 4
    have k5' := hblk.cell 5
    have k6' := hblk.cell 6
    have k7' := hblk.cell 7
    have k8' := hblk.cell 8
    have k9' := hblk.cell 9
    unfold set10 at k0' k1' k2' k3' k4' k5' k6' k7' k8' k9'
    simp [ncell, pv] at k0' k1' k2' k3' k4' k5' k6' k7' k8' k9'
    refine bodyPost_ret (v := .agg #[.int .i64 xk, .int .i64 CL, .int .i64 CN, .slice ua um uc, .slice none 0 0, .slice va vm vc, .string ⟨#[]⟩, .slice none 0 0, .bool false, .bool false]) (by simp [results, Tryd.results83, go_sem, k0', k1', k2', k3', k4', k5', k6', k7', k8', k9']) rfl ?_
    have hlt := HM9.out.lt
    have hsz := HF.out.2.2.2
    obtain ⟨W7, hWW⟩ : ∃ W, W = w6.setCell ⟨o, 5, none⟩ (.slice va vm vc) := ⟨_, rfl⟩
    rw [← hWW] at HF HTF HRF hsz  ⊢
    have kF : Kp (Bh o W7) W7 (set10 W7 (w.heap.size + 1) ⟨xk, CL, CN, (ua, um, uc), nilP, (va, vm, vc), [], nilP, false, false⟩) := fun b hb => HF.out.2.2.1 b (by have := hb.1; omega)
    have mF : ∀ b, Bh o W7 b → (w.heap.size ≤ b ∧ b < (set10 W7 (w.heap.size + 1) ⟨xk, CL, CN, (ua, um, uc), nilP, (va, vm, vc), [], nilP, false, false⟩).heap.size) := fun b hb => ⟨by have := hb.1; omega, by rw [hsz]; exact hb.2⟩
    rw [HGN.out]
    exact ⟨⟨xk, CL, CN, (ua, um, uc), nilP, (va, vm, vc), [], nilP, false, false⟩, rfl, rfl, ⟨rfl, rfl, rfl, (HTF.out.keep kF).mono mF, (HRF.out.keep kF).mono mF, rfl, TrS.nil _ _, rfl, rfl⟩, HF.out.1⟩
end Go.Proofs.YtienjlbpaedbjaaDoor
