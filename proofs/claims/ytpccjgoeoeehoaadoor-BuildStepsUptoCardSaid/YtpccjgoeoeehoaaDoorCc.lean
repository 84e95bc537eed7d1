/- The program's builder: New, Depth, put. The program's builder: Title, find, Inside. The program's builder: slices.Delete of the last of a row of nodes; what becomes of the builder. The program's builder: closeTo. The program's builder: End, Close, Shut. The program's builder: Close, Shut. The program's builder: a node copied; rows of table rows, of nodes, that are made anew one by one. -/
import Derived.Test.YtpccjgoeoeehoaaDoorC5
import Derived.BigRegion
import Derived.Deep.RegionWith
import Derived.Deep.RegionHeld3
import Derived.Deep.RegionLaw
import Derived.Deep.DeepCutAuto
import Derived.StillTailTactics
import Derived.Test.YtpccjgoeoeehoaaDoorC0
set_option linter.unusedVariables false
set_option linter.unusedSimpArgs false
namespace Go.Proofs.YtpccjgoeoeehoaaDoor
open Go.RowKit
theorem cell_blk {W W' : World} {g : Nat} {j : Nat} (h : W'.heap[g]? = W.heap[g]?) : W'.cell? ⟨g, j, none⟩ = W.cell? ⟨g, j, none⟩ := by simp only [World.cell?, h]
theorem setCell_comm (W : World) {g p : Nat} (h : g ≠ p) (i j : Nat) (u v : Value) : (W.setCell ⟨g, i, none⟩ u).setCell ⟨p, j, none⟩ v = (W.setCell ⟨p, j, none⟩ v).setCell ⟨g, i, none⟩ u := by
  simp only [World.setCell]
  congr 1
  apply Array.ext_getElem?
  intro k
  simp only [Array.getElem?_modify]
  by_cases h1 : g = k
  · have h2 : ¬ p = k := fun e => h (h1.trans e.symm)
    simp only [if_pos h1, if_neg h2]
  · by_cases h2 : p = k
    · simp only [if_neg h1, if_pos h2]
    · simp only [if_neg h1, if_neg h2]
theorem setCells_comm {g p : Nat} (h : g ≠ p) (j : Nat) (v : Value) : ∀ (vs : List Value) (o : Nat) (W : World), (W.setCells g o vs).setCell ⟨p, j, none⟩ v = (W.setCell ⟨p, j, none⟩ v).setCells g o vs
  | [], _, _ => rfl
  | u :: vs, o, W => (setCells_comm h j v vs (o + 1) _).trans (congrArg (fun w => World.setCells w g (o + 1) vs) (setCell_comm W h o j u v))
theorem wp_append_run {P : Program} {o : Oper} {a : Act} {w : World} {K : Act → World → Prop} {Q : Exit → Act → World → Prop}
    (d s : Operand) (t t' : TypeId) (hop : o.op = Op.call { callee := Callee.builtin Builtin.append, args := #[d, s], argTypes := #[t, t'] })
    (vd vs : Value) (hd : a.eval d = vd) (hs : a.eval s = vs) {v' : Value} {w' : World} (hrun : (Builtin.append_ #[t, t'] o.type #[vd, vs]).run P w = .ok v' w') (hK : K (a.put o.dst v') w') : Oper.wp P o a w K Q := by
  unfold Oper.wp
  have hb : builtin .append #[t, t'] o.type = fun _ args => (do pure (.value (← Builtin.append_ #[t, t'] o.type args)) : Sem Next) := rfl
  simp [execOp, hop, resolve, invoke, hb, hd, hs, hrun, Result.andThen]
  exact hK
abbrev ptrB (b : Nat) : Value := .pointer (some ⟨b, 0, none⟩)
set_option maxRecDepth 100000 in
set_option maxHeartbeats 1000000 in
theorem bdepth_any {m : Bool} {X R : Nat → Prop} {w : World} {b : Nat} {t : Bt} (h : BM m X R w b t) :
    Calls Tryd.prog 13 #[ptrB b] w fun e w' => e = .returned (.int .i64 (t.opn.length : Int)) ∧ w = w' := by
  obtain ⟨kv, ov, pa, LO, lab, h1, h2⟩ := h
  obtain ⟨a, c, e, -⟩ := h1.olen
  have c5 : w.cell? ⟨b, 5, none⟩ = some (.slice a t.opn.length c) := by rw [h1.box.cell 5, ← e]; rfl
  clear h1 h2
  go_enter Tryd.func13, Tryd.ntmps13
  go_wp2_with fail
  go_ret
  exact ⟨rfl, rfl⟩
set_option maxRecDepth 100000 in
set_option maxHeartbeats 1000000 in
theorem bdepth_nil (w : World) : Calls Tryd.prog 13 #[.pointer none] w fun e w' => e = .returned (.int .i64 0) ∧ w = w' := by
  go_enter Tryd.func13, Tryd.ntmps13
  go_wp2_with fail
  go_ret
  exact ⟨rfl, rfl⟩
def bt00 : Bt := ⟨⟨[], [], [], []⟩, [], [], [], 0, false⟩
set_option maxRecDepth 100000 in
set_option maxHeartbeats 1000000 in
theorem bnew_any (w : World) : Calls Tryd.prog 10 #[] w fun e w' => e = .returned (ptrB w.heap.size) ∧ BM true (fun k => k = w.heap.size) (fun _ => False) w' w.heap.size bt00 ∧ Below w.heap.size w w' := by
  have hb := below_lit w (.cells (bcell ⟨[], [], [], []⟩ nilP nilP (.pointer none)).toArray 71)
  have hB : Hid (BM true (fun k => k = w.heap.size) (fun _ => False) (w.alloc (.cells (bcell ⟨[], [], [], []⟩ nilP nilP (.pointer none)).toArray 71)) w.heap.size bt00) := Lib.hid (by
    refine ⟨nilP, nilP, .pointer none, [], fun k => if k = w.heap.size then 1 else 0, ⟨fun k q => ?_, fun k q => q.elim, fun k q => q.elim, by simp, heap_alloc_new w _, RwN.nil _ _ _, FOwn.nil _ _, (fun k e => by cases e), rfl, (fun i x y q => by simp at q), .inl ⟨rfl, rfl, rfl, rfl⟩⟩, fun k => by by_cases e : k = w.heap.size <;> simp [e]⟩
    by_cases e : k = w.heap.size
    · rw [e]; simp
    · simp [e] at q)
  have HB := Lib.hid hb
  clear hb
  go_enter Tryd.func10, Tryd.ntmps10
  go_wp2_with fail
  go_ret
  exact ⟨rfl, hB.out, HB.out⟩
def AfB (m : Bool) (X R : Nat → Prop) (b : Nat) (t' : Bt) (w w' : World) : Prop := ∃ X', BM m X' R w' b t' ∧ Exc X w w' ∧ ∀ k, X' k → X k ∨ w.heap.size ≤ k
def BPutP (m : Bool) (X R : Nat → Prop) (b : Nat) (t' : Bt) (w : World) (e : Ending) (w' : World) : Prop := e = .returned (.tuple #[]) ∧ AfB m X R b t' w w'
def PtrP (pb po : Nat) (c : Value) (w wx : World) : Prop := c = .pointer (some ⟨pb, po, none⟩) ∧ w = wx
set_option maxRecDepth 100000 in
set_option maxHeartbeats 4000000 in
theorem bput_any {m : Bool} {X R : Nat → Prop} {w : World} {b : Nat} {t : Bt} (h : BM m X R w b t) {x : NV} {y : Nd} (hx : HdIs R w x y.hd) (hk : NsS R w (pv x.kids) y.kids) (hl : t.kids.length ≤ 400000) (ho : ∀ y ∈ t.opn, y.kids.length ≤ 400000) (hol : t.opn.length ≤ 400000) :
    Calls Tryd.prog 47 #[ptrB b, .agg (ncell x).toArray] w (BPutP m X R b (bLay t y) w) := by
  have HLAY : ∃ pb po ka kn kc, LayP m X R w b t (bLay t y) x pb po ka kn kc ∧ ((t.opn.length = 0 ∧ pb = b ∧ po = 4) ∨ (∃ n oc, t.opn.length = n + 1 ∧ w.cell? ⟨b, 5, none⟩ = some (.slice (some ⟨pb, 0, none⟩) (n + 1) oc) ∧ po = n * 10 + 4)) := by
    rcases opn_cases t.opn with e | ⟨l, y0, e⟩
    · obtain ⟨ka, kn, kc, q⟩ := h.lay0 e hl hx hk
      exact ⟨b, 4, ka, kn, kc, q, .inl ⟨by rw [e]; rfl, rfl, rfl⟩⟩
    · obtain ⟨og, oc, ka, kn, kc, q0, q⟩ := h.lay1 e (ho y0 (by rw [e]; simp)) hx hk
      exact ⟨og, _, ka, kn, kc, q, .inr ⟨l.length, oc, by rw [e]; simp, q0, rfl⟩⟩
  obtain ⟨pb, po, ka, kn, kc, ⟨hXp, hpc, hL⟩, hcase⟩ := HLAY
  obtain ⟨W0, hW0⟩ : ∃ W, W = w.alloc (.cells (ncell x).toArray 40) := ⟨_, rfl⟩
  have b0 : Below w.heap.size w W0 := by rw [hW0]; exact below_lit _ _
  have kx : Blk W0 w.heap.size 40 (ncell x) := by rw [hW0]; exact heap_alloc_new w _
  have bz := below_lit W0 (.cells zNd.toArray 40)
  have hplt := World.block_lt_of_cell? w _ hpc
  obtain ⟨g, c, w', hr, hc, hkn, hcell, d1, f1, d0, f0, hgp, hgww, HF⟩ := hL W0 (W0.alloc (.cells zNd.toArray 40)).drew b0 bz.drew (heap_alloc_new W0 _)
  obtain ⟨hgw0, hww0⟩ := hgww w.heap.size (Nat.le_refl _) kx.lt
  have hgw0 : w.heap.size ≠ g := hgw0
  have p0 : W0.cell? ⟨pb, po, none⟩ = some (.slice ka kn kc) := (b0.cell (p := ⟨pb, po, none⟩) hplt).trans hpc
  have HOP : Hid (∃ a oc, w.cell? ⟨b, 5, none⟩ = some (.slice a t.opn.length oc)) := by
    obtain ⟨kv, ov, pa, LO, lab, h1, -⟩ := h
    obtain ⟨a, oc, e, -⟩ := h1.olen
    exact Lib.hid ⟨a, oc, by rw [h1.box.cell 5, ← e]; rfl⟩
  have hblt : b < w.heap.size := h.lt b (.inl h.self)
  have HGW : Hid (w.heap.size ≠ g) := Lib.hid hgw0
  have HWW : Hid (w'.heap[w.heap.size]? = W0.heap[w.heap.size]?) := Lib.hid hww0
  have HPB : Hid (w.heap.size ≠ pb) := Lib.hid (fun e => by rw [← e] at hplt; exact Nat.lt_irrefl _ hplt)
  have HGW : Hid (w.heap.size ≠ g) := Lib.hid hgw0
  have HWW : Hid (w'.heap[w.heap.size]? = W0.heap[w.heap.size]?) := Lib.hid hww0
  have HPB : Hid (w.heap.size ≠ pb) := Lib.hid (fun e => by rw [← e] at hplt; exact Nat.lt_irrefl _ hplt)
  have HGW : Hid (w.heap.size ≠ g) := Lib.hid hgw0
  have HWW : Hid (w'.heap[w.heap.size]? = W0.heap[w.heap.size]?) := Lib.hid hww0
  have HPB : Hid (w.heap.size ≠ pb) := Lib.hid (fun e => by rw [← e] at hplt; exact Nat.lt_irrefl _ hplt)
  have HGW : Hid (w.heap.size ≠ g) := Lib.hid hgw0
  have HWW : Hid (w'.heap[w.heap.size]? = W0.heap[w.heap.size]?) := Lib.hid hww0
  have HPB : Hid (w.heap.size ≠ pb) := Lib.hid (fun e => by rw [← e] at hplt; exact Nat.lt_irrefl _ hplt)
  have HGW : Hid (w.heap.size ≠ g) := Lib.hid hgw0
  have HWW : Hid (w'.heap[w.heap.size]? = W0.heap[w.heap.size]?) := Lib.hid hww0
  have HPB : Hid (w.heap.size ≠ pb) := Lib.hid (fun e => by rw [← e] at hplt; exact Nat.lt_irrefl _ hplt)
  have HK := Lib.hid kx
  have HFF := Lib.hid HF
  have HW0 := Lib.hid hW0
  have HB0 := Lib.hid b0
  obtain ⟨tl, htl⟩ : ∃ tl, t.opn.length = tl := ⟨_, rfl⟩
  rw [htl] at hcase HOP hol
  clear HF hL h hx hk hl ho bz b0 kx hXp htl hW0
  obtain ⟨xk, xl, xn, ⟨t1, t2, t3⟩, ⟨k1, k2, k3⟩, ⟨r1, r2, r3⟩, xc, ⟨q1, q2, q3⟩, xb, xa⟩ := x
  simp only [ncell, pv] at HK hr HFF d1 f1
  have x0 := HK.out.cell 0
  have x1 := HK.out.cell 1
  have x2 := HK.out.cell 2
  have x3 := HK.out.cell 3
  have x4 := HK.out.cell 4
  have x5 := HK.out.cell 5
  have x6 := HK.out.cell 6
  have x7 := HK.out.cell 7
  have x8 := HK.out.cell 8
  have x9 := HK.out.cell 9
  simp only [List.getElem?_cons_zero, List.getElem?_cons_succ] at x0 x1 x2 x3 x4 x5 x6 x7 x8 x9
  simp only [ncell, pv] at HW0 ⊢
  go_enter Tryd.func47, Tryd.ntmps47
  go_upto_region 1 with fail
  rw [← HW0.out]
  obtain ⟨oa, oc, o5⟩ := HOP.out
  have o5' : W0.cell? ⟨b, 5, none⟩ = some (.slice oa tl oc) := (HB0.out.cell (p := ⟨b, 5, none⟩) hblt).trans o5
  go_upto_if 16 with fail
  go_cut [4] (fun c wx => PtrP pb po c W0 wx)
  case first =>
    clear hr hcell d1 f1 d0 f0 x0 x1 x2 x3 x4 x5 x6 x7 x8 x9
    rcases hcase with ⟨rfl, rfl, rfl⟩ | ⟨n, oc', rfl, e5, rfl⟩
    · go_wp2_with fail
      go_meet
      exact ⟨rfl, rfl⟩
    · rw [o5] at e5
      injection e5 with e5
      injection e5 with e5 e6 e7
      subst e5
      have hn2 : (0 : Int) ≤ (n : Int) := by omega
      go_wp2_with fail
      go_meet
      exact ⟨rfl, rfl⟩
  case rest =>
  obtain ⟨rfl, rfl⟩ := hcut
  clear hcase HOP
  have HSX : Hid (∀ W : World, W.heap[w.heap.size]? = W0.heap[w.heap.size]? → W.cell? ⟨w.heap.size, 0, none⟩ = some (.int .i64 xk) ∧ W.cell? ⟨w.heap.size, 1, none⟩ = some (.int .i64 xl) ∧ W.cell? ⟨w.heap.size, 2, none⟩ = some (.int .i64 xn) ∧ W.cell? ⟨w.heap.size, 3, none⟩ = some (.slice t1 t2 t3) ∧ W.cell? ⟨w.heap.size, 4, none⟩ = some (.slice k1 k2 k3) ∧ W.cell? ⟨w.heap.size, 5, none⟩ = some (.slice r1 r2 r3) ∧ W.cell? ⟨w.heap.size, 6, none⟩ = some (.string ⟨xc.toArray⟩) ∧ W.cell? ⟨w.heap.size, 7, none⟩ = some (.slice q1 q2 q3) ∧ W.cell? ⟨w.heap.size, 8, none⟩ = some (.bool xb) ∧ W.cell? ⟨w.heap.size, 9, none⟩ = some (.bool xa)) := Lib.hid (fun W e => ⟨(cell_blk e).trans x0, (cell_blk e).trans x1, (cell_blk e).trans x2, (cell_blk e).trans x3, (cell_blk e).trans x4, (cell_blk e).trans x5, (cell_blk e).trans x6, (cell_blk e).trans x7, (cell_blk e).trans x8, (cell_blk e).trans x9⟩)
  have hwl : w.heap.size < W0.heap.size := HK.out.lt
  have p1 : (W0.alloc (.cells #[.int .i64 0, .int .i64 0, .int .i64 0, .slice none 0 0, .slice none 0 0, .slice none 0 0, .string ⟨#[]⟩, .slice none 0 0, .bool false, .bool false] 40)).cell? ⟨pb, po, none⟩ = some (.slice ka kn kc) := (Below.cell (below_lit W0 _) (p := ⟨pb, po, none⟩) (World.block_lt_of_cell? W0 _ p0)).trans p0
  have hgw : w.heap.size ≠ g := HGW.out
  have HSW : Hid (w'.heap[w.heap.size]? = W0.heap[w.heap.size]?) := Lib.hid HWW.out
  have z0 : w'.cell? ⟨g, kn * 10, none⟩ = some (.int .i64 0) := (hcell 0 _ rfl).1
  have z1 : w'.cell? ⟨g, kn * 10 + 1, none⟩ = some (.int .i64 0) := (hcell 1 _ rfl).1
  have z2 : w'.cell? ⟨g, kn * 10 + 2, none⟩ = some (.int .i64 0) := (hcell 2 _ rfl).1
  have z3 : w'.cell? ⟨g, kn * 10 + 3, none⟩ = some (.slice none 0 0) := (hcell 3 _ rfl).1
  have z4 : w'.cell? ⟨g, kn * 10 + 4, none⟩ = some (.slice none 0 0) := (hcell 4 _ rfl).1
  have z5 : w'.cell? ⟨g, kn * 10 + 5, none⟩ = some (.slice none 0 0) := (hcell 5 _ rfl).1
  have z6 : w'.cell? ⟨g, kn * 10 + 6, none⟩ = some (.string ⟨#[]⟩) := (hcell 6 _ rfl).1
  have z7 : w'.cell? ⟨g, kn * 10 + 7, none⟩ = some (.slice none 0 0) := (hcell 7 _ rfl).1
  have z8 : w'.cell? ⟨g, kn * 10 + 8, none⟩ = some (.bool false) := (hcell 8 _ rfl).1
  have z9 : w'.cell? ⟨g, kn * 10 + 9, none⟩ = some (.bool false) := (hcell 9 _ rfl).1
  have v0 : w'.frozen? ⟨g, kn * 10, none⟩ = false := (hcell 0 _ rfl).2
  have v1 : w'.frozen? ⟨g, kn * 10 + 1, none⟩ = false := (hcell 1 _ rfl).2
  have v2 : w'.frozen? ⟨g, kn * 10 + 2, none⟩ = false := (hcell 2 _ rfl).2
  have v3 : w'.frozen? ⟨g, kn * 10 + 3, none⟩ = false := (hcell 3 _ rfl).2
  have v4 : w'.frozen? ⟨g, kn * 10 + 4, none⟩ = false := (hcell 4 _ rfl).2
  have v5 : w'.frozen? ⟨g, kn * 10 + 5, none⟩ = false := (hcell 5 _ rfl).2
  have v6 : w'.frozen? ⟨g, kn * 10 + 6, none⟩ = false := (hcell 6 _ rfl).2
  have v7 : w'.frozen? ⟨g, kn * 10 + 7, none⟩ = false := (hcell 7 _ rfl).2
  have v8 : w'.frozen? ⟨g, kn * 10 + 8, none⟩ = false := (hcell 8 _ rfl).2
  have v9 : w'.frozen? ⟨g, kn * 10 + 9, none⟩ = false := (hcell 9 _ rfl).2
  have hk0 : (0 : Int) ≤ (kn : Int) := by omega
  have hk1 : (kn : Int) < (kn : Int) + 1 := by omega
  have hk2 : (kn : Int) < ((kn + 1 : Nat) : Int) := by omega
  have hk3 : (kn : Int) ≤ 400000 := by omega
  have hgp' : pb ≠ g := fun e => hgp e.symm
  clear hcell d1 f1
  go_wp2_with fail
  refine wp_region_held_drew (S := (fun W' => W'.cell? ⟨w.heap.size, 0, none⟩ = some (.int .i64 xk) ∧ W'.cell? ⟨w.heap.size, 1, none⟩ = some (.int .i64 xl) ∧ W'.cell? ⟨w.heap.size, 2, none⟩ = some (.int .i64 xn) ∧ W'.cell? ⟨w.heap.size, 3, none⟩ = some (.slice t1 t2 t3) ∧ W'.cell? ⟨w.heap.size, 4, none⟩ = some (.slice k1 k2 k3) ∧ W'.cell? ⟨w.heap.size, 5, none⟩ = some (.slice r1 r2 r3) ∧ W'.cell? ⟨w.heap.size, 6, none⟩ = some (.string ⟨xc.toArray⟩) ∧ W'.cell? ⟨w.heap.size, 7, none⟩ = some (.slice q1 q2 q3) ∧ W'.cell? ⟨w.heap.size, 8, none⟩ = some (.bool xb) ∧ W'.cell? ⟨w.heap.size, 9, none⟩ = some (.bool xa))) (by kernel_rfl) ?_ (fun hHeld => ?_)
  · exact HSX.out _ rfl
  refine wpAnyH_take (i := 0) (v := .pointer (some ⟨pb, po, none⟩)) rfl (by kernel_rfl) (by kernel_rfl) (by kernel_rfl) (fun _ _ _ h => h) (Or.inl ⟨by rfl, fun w' hSw => by (try dsimp only at hSw); go_simp⟩) (by assumption) ?_
  simp only [List.getElem_toArray, List.getElem_cons_succ, List.getElem_cons_zero, Act.put, List.setIfInBounds_toArray, List.set_cons_zero, List.set_cons_succ]
  refine wpAnyH_take (i := 1) (v := .pointer (some ⟨pb, po, none⟩)) rfl (by kernel_rfl) (by kernel_rfl) (by kernel_rfl) (fun _ _ _ h => h) (Or.inl ⟨by rfl, fun w' hSw => by (try dsimp only at hSw); go_simp⟩) (by assumption) ?_
  simp only [List.getElem_toArray, List.getElem_cons_succ, List.getElem_cons_zero, Act.put, List.setIfInBounds_toArray, List.set_cons_zero, List.set_cons_succ]
  refine wpAnyH_take (i := 3) (v := .agg #[.int .i64 xk, .int .i64 xl, .int .i64 xn, .slice t1 t2 t3, .slice k1 k2 k3, .slice r1 r2 r3, .string ⟨xc.toArray⟩, .slice q1 q2 q3, .bool xb, .bool xa]) rfl (by kernel_rfl) (by kernel_rfl) (by kernel_rfl) (fun _ _ _ h => h) (Or.inl ⟨by rfl, fun w' hSw => by (try dsimp only at hSw); go_simp⟩) (by assumption) ?_
  simp only [List.getElem_toArray, List.getElem_cons_succ, List.getElem_cons_zero, Act.put, List.setIfInBounds_toArray, List.set_cons_zero, List.set_cons_succ]
  refine wpAnyH_ready (rs := [2, 5]) (by kernel_rfl) (by simp) ?_
  refine AllReadyH.cons rfl (fun K hK => ?_) (AllReadyH.cons rfl (fun K hK => ?_) AllReadyH.nil)
  · try simp only [List.getElem_toArray, List.getElem_cons_succ, List.getElem_cons_zero]
    go_simp
    refine hK.out _ _ ?_ (fun hHeld => ?_)
    · exact HSX.out _ rfl
    clear hK K
    try simp only [List.getElem_toArray, List.getElem_cons_succ, List.getElem_cons_zero, Act.put, List.setIfInBounds_toArray, List.set_cons_zero, List.set_cons_succ]
    refine wpAnyH_take (i := 4) (v := .int .i64 (kn : Int)) rfl (by kernel_rfl) (by kernel_rfl) (by kernel_rfl) (fun _ _ _ h => h) (Or.inl ⟨by rfl, fun w' hSw => by (try dsimp only at hSw); go_simp⟩) (by assumption) ?_
    simp only [List.getElem_toArray, List.getElem_cons_succ, List.getElem_cons_zero, Act.put, List.setIfInBounds_toArray, List.set_cons_zero, List.set_cons_succ]
    refine wpAnyH_ready (rs := [5]) (by kernel_rfl) (by simp) ?_
    refine AllReadyH.cons rfl (fun K hK => ?_) AllReadyH.nil
    try simp only [List.getElem_toArray, List.getElem_cons_succ, List.getElem_cons_zero]
    go_simp
    refine hK.out _ _ ?_ (fun hHeld => ?_)
    · exact HSX.out _ (heap_alloc_old W0.drew _ hwl)
    clear hK K
    try simp only [List.getElem_toArray, List.getElem_cons_succ, List.getElem_cons_zero, Act.put, List.setIfInBounds_toArray, List.set_cons_zero, List.set_cons_succ]
    refine wpAnyH_ready (rs := [6]) (by kernel_rfl) (by simp) ?_
    refine AllReadyH.cons rfl (fun K hK => ?_) AllReadyH.nil
    try simp only [List.getElem_toArray, List.getElem_cons_succ, List.getElem_cons_zero]
    rw [if_pos (by kernel_rfl)]
    refine wp_append_run (.tmp 27) (.tmp 30) 27 27 rfl _ _ rfl rfl hr ?_
    refine hK.out _ _ ?_ (fun hHeld => ?_)
    · exact HSX.out _ HSW.out
    clear hK K
    try simp only [List.getElem_toArray, List.getElem_cons_succ, List.getElem_cons_zero, Act.put, List.setIfInBounds_toArray, List.set_cons_zero, List.set_cons_succ]
    refine wpAnyH_take (i := 7) (v := .pointer (some ⟨g, kn * 10, none⟩)) rfl (by kernel_rfl) (by kernel_rfl) (by kernel_rfl) (fun _ _ _ h => h) (Or.inl ⟨by rfl, fun w' hSw => by (try dsimp only at hSw); go_simp⟩) (by assumption) ?_
    simp only [List.getElem_toArray, List.getElem_cons_succ, List.getElem_cons_zero, Act.put, List.setIfInBounds_toArray, List.set_cons_zero, List.set_cons_succ]
    refine wpAnyH_take (i := 9) (v := .pointer (some ⟨pb, po, none⟩)) rfl (by kernel_rfl) (by kernel_rfl) (by kernel_rfl) (fun _ _ _ h => h) (Or.inl ⟨by rfl, fun w' hSw => by (try dsimp only at hSw); go_simp⟩) (by assumption) ?_
    simp only [List.getElem_toArray, List.getElem_cons_succ, List.getElem_cons_zero, Act.put, List.setIfInBounds_toArray, List.set_cons_zero, List.set_cons_succ]
    refine wpAnyH_ready (rs := [8, 10]) (by kernel_rfl) (by simp) ?_
    refine AllReadyH.cons rfl (fun K hK => ?_) (AllReadyH.cons rfl (fun K hK => ?_) AllReadyH.nil)
    · try simp only [List.getElem_toArray, List.getElem_cons_succ, List.getElem_cons_zero]
      go_simp
      refine hK.out _ _ ?_ (fun hHeld => ?_)
      · exact HSX.out (w'.setCells g (kn * 10) [.int .i64 xk, .int .i64 xl, .int .i64 xn, .slice t1 t2 t3, .slice k1 k2 k3, .slice r1 r2 r3, .string ⟨xc.toArray⟩, .slice q1 q2 q3, .bool xb, .bool xa]) ((heap_setC hgw _ _ _).trans HSW.out)
      clear hK K
      try simp only [List.getElem_toArray, List.getElem_cons_succ, List.getElem_cons_zero, Act.put, List.setIfInBounds_toArray, List.set_cons_zero, List.set_cons_succ]
      refine wpAnyH_ready (rs := [10]) (by kernel_rfl) (by simp) ?_
      refine AllReadyH.cons rfl (fun K hK => ?_) AllReadyH.nil
      try simp only [List.getElem_toArray, List.getElem_cons_succ, List.getElem_cons_zero]
      go_simp
      refine hK.out _ _ ?_ (fun hHeld => ?_)
      · exact HSX.out ((w'.setCells g (kn * 10) [.int .i64 xk, .int .i64 xl, .int .i64 xn, .slice t1 t2 t3, .slice k1 k2 k3, .slice r1 r2 r3, .string ⟨xc.toArray⟩, .slice q1 q2 q3, .bool xb, .bool xa]).setCell ⟨pb, po, none⟩ (.slice (some ⟨g, 0, none⟩) (kn + 1) c)) ((Below.heap_setCell _ ⟨pb, po, none⟩ _ _ HPB.out).trans ((heap_setC hgw _ _ _).trans HSW.out))
      clear hK K
      try simp only [List.getElem_toArray, List.getElem_cons_succ, List.getElem_cons_zero, Act.put, List.setIfInBounds_toArray, List.set_cons_zero, List.set_cons_succ]
      refine wpAnyH_done (by kernel_rfl) ?_ _
      go_wp2_with fail
      go_end0
      exact ⟨rfl, HFF.out⟩
    · try simp only [List.getElem_toArray, List.getElem_cons_succ, List.getElem_cons_zero]
      go_simp
      refine hK.out _ _ ?_ (fun hHeld => ?_)
      · exact HSX.out (w'.setCell ⟨pb, po, none⟩ (.slice (some ⟨g, 0, none⟩) (kn + 1) c)) ((Below.heap_setCell _ ⟨pb, po, none⟩ _ _ HPB.out).trans HSW.out)
      clear hK K
      try simp only [List.getElem_toArray, List.getElem_cons_succ, List.getElem_cons_zero, Act.put, List.setIfInBounds_toArray, List.set_cons_zero, List.set_cons_succ]
      refine wpAnyH_ready (rs := [8]) (by kernel_rfl) (by simp) ?_
      refine AllReadyH.cons rfl (fun K hK => ?_) AllReadyH.nil
      try simp only [List.getElem_toArray, List.getElem_cons_succ, List.getElem_cons_zero]
      go_simp
      refine hK.out _ _ ?_ (fun hHeld => ?_)
      · exact HSX.out ((w'.setCell ⟨pb, po, none⟩ (.slice (some ⟨g, 0, none⟩) (kn + 1) c)).setCells g (kn * 10) [.int .i64 xk, .int .i64 xl, .int .i64 xn, .slice t1 t2 t3, .slice k1 k2 k3, .slice r1 r2 r3, .string ⟨xc.toArray⟩, .slice q1 q2 q3, .bool xb, .bool xa]) ((heap_setC hgw _ _ _).trans ((Below.heap_setCell _ ⟨pb, po, none⟩ _ _ HPB.out).trans HSW.out))
      clear hK K
      try simp only [List.getElem_toArray, List.getElem_cons_succ, List.getElem_cons_zero, Act.put, List.setIfInBounds_toArray, List.set_cons_zero, List.set_cons_succ]
      refine wpAnyH_done (by kernel_rfl) ?_ _
      go_wp2_with fail
      go_end0
      refine ⟨rfl, ?_⟩
      have q := HFF.out
      rw [setCells_comm hgp] at q
      exact q
  · try simp only [List.getElem_toArray, List.getElem_cons_succ, List.getElem_cons_zero]
    go_simp
    refine hK.out _ _ ?_ (fun hHeld => ?_)
    · exact HSX.out _ (heap_alloc_old W0.drew _ hwl)
    clear hK K
    try simp only [List.getElem_toArray, List.getElem_cons_succ, List.getElem_cons_zero, Act.put, List.setIfInBounds_toArray, List.set_cons_zero, List.set_cons_succ]
    refine wpAnyH_ready (rs := [2]) (by kernel_rfl) (by simp) ?_
    refine AllReadyH.cons rfl (fun K hK => ?_) AllReadyH.nil
    try simp only [List.getElem_toArray, List.getElem_cons_succ, List.getElem_cons_zero]
    go_simp
    refine hK.out _ _ ?_ (fun hHeld => ?_)
    · exact HSX.out _ (heap_alloc_old W0.drew _ hwl)
    clear hK K
    try simp only [List.getElem_toArray, List.getElem_cons_succ, List.getElem_cons_zero, Act.put, List.setIfInBounds_toArray, List.set_cons_zero, List.set_cons_succ]
    refine wpAnyH_take (i := 4) (v := .int .i64 (kn : Int)) rfl (by kernel_rfl) (by kernel_rfl) (by kernel_rfl) (fun _ _ _ h => h) (Or.inl ⟨by rfl, fun w' hSw => by (try dsimp only at hSw); go_simp⟩) (by assumption) ?_
    simp only [List.getElem_toArray, List.getElem_cons_succ, List.getElem_cons_zero, Act.put, List.setIfInBounds_toArray, List.set_cons_zero, List.set_cons_succ]
    refine wpAnyH_ready (rs := [6]) (by kernel_rfl) (by simp) ?_
    refine AllReadyH.cons rfl (fun K hK => ?_) AllReadyH.nil
    try simp only [List.getElem_toArray, List.getElem_cons_succ, List.getElem_cons_zero]
    rw [if_pos (by kernel_rfl)]
    refine wp_append_run (.tmp 27) (.tmp 30) 27 27 rfl _ _ rfl rfl hr ?_
    refine hK.out _ _ ?_ (fun hHeld => ?_)
    · exact HSX.out _ HSW.out
    clear hK K
    try simp only [List.getElem_toArray, List.getElem_cons_succ, List.getElem_cons_zero, Act.put, List.setIfInBounds_toArray, List.set_cons_zero, List.set_cons_succ]
    refine wpAnyH_take (i := 7) (v := .pointer (some ⟨g, kn * 10, none⟩)) rfl (by kernel_rfl) (by kernel_rfl) (by kernel_rfl) (fun _ _ _ h => h) (Or.inl ⟨by rfl, fun w' hSw => by (try dsimp only at hSw); go_simp⟩) (by assumption) ?_
    simp only [List.getElem_toArray, List.getElem_cons_succ, List.getElem_cons_zero, Act.put, List.setIfInBounds_toArray, List.set_cons_zero, List.set_cons_succ]
    refine wpAnyH_take (i := 9) (v := .pointer (some ⟨pb, po, none⟩)) rfl (by kernel_rfl) (by kernel_rfl) (by kernel_rfl) (fun _ _ _ h => h) (Or.inl ⟨by rfl, fun w' hSw => by (try dsimp only at hSw); go_simp⟩) (by assumption) ?_
    simp only [List.getElem_toArray, List.getElem_cons_succ, List.getElem_cons_zero, Act.put, List.setIfInBounds_toArray, List.set_cons_zero, List.set_cons_succ]
    refine wpAnyH_ready (rs := [8, 10]) (by kernel_rfl) (by simp) ?_
    refine AllReadyH.cons rfl (fun K hK => ?_) (AllReadyH.cons rfl (fun K hK => ?_) AllReadyH.nil)
    · try simp only [List.getElem_toArray, List.getElem_cons_succ, List.getElem_cons_zero]
      go_simp
      refine hK.out _ _ ?_ (fun hHeld => ?_)
      · exact HSX.out (w'.setCells g (kn * 10) [.int .i64 xk, .int .i64 xl, .int .i64 xn, .slice t1 t2 t3, .slice k1 k2 k3, .slice r1 r2 r3, .string ⟨xc.toArray⟩, .slice q1 q2 q3, .bool xb, .bool xa]) ((heap_setC hgw _ _ _).trans HSW.out)
      clear hK K
      try simp only [List.getElem_toArray, List.getElem_cons_succ, List.getElem_cons_zero, Act.put, List.setIfInBounds_toArray, List.set_cons_zero, List.set_cons_succ]
      refine wpAnyH_ready (rs := [10]) (by kernel_rfl) (by simp) ?_
      refine AllReadyH.cons rfl (fun K hK => ?_) AllReadyH.nil
      try simp only [List.getElem_toArray, List.getElem_cons_succ, List.getElem_cons_zero]
      go_simp
      refine hK.out _ _ ?_ (fun hHeld => ?_)
      · exact HSX.out ((w'.setCells g (kn * 10) [.int .i64 xk, .int .i64 xl, .int .i64 xn, .slice t1 t2 t3, .slice k1 k2 k3, .slice r1 r2 r3, .string ⟨xc.toArray⟩, .slice q1 q2 q3, .bool xb, .bool xa]).setCell ⟨pb, po, none⟩ (.slice (some ⟨g, 0, none⟩) (kn + 1) c)) ((Below.heap_setCell _ ⟨pb, po, none⟩ _ _ HPB.out).trans ((heap_setC hgw _ _ _).trans HSW.out))
      clear hK K
      try simp only [List.getElem_toArray, List.getElem_cons_succ, List.getElem_cons_zero, Act.put, List.setIfInBounds_toArray, List.set_cons_zero, List.set_cons_succ]
      refine wpAnyH_done (by kernel_rfl) ?_ _
      go_wp2_with fail
      go_end0
      exact ⟨rfl, HFF.out⟩
    · try simp only [List.getElem_toArray, List.getElem_cons_succ, List.getElem_cons_zero]
      go_simp
      refine hK.out _ _ ?_ (fun hHeld => ?_)
      · exact HSX.out (w'.setCell ⟨pb, po, none⟩ (.slice (some ⟨g, 0, none⟩) (kn + 1) c)) ((Below.heap_setCell _ ⟨pb, po, none⟩ _ _ HPB.out).trans HSW.out)
      clear hK K
      try simp only [List.getElem_toArray, List.getElem_cons_succ, List.getElem_cons_zero, Act.put, List.setIfInBounds_toArray, List.set_cons_zero, List.set_cons_succ]
      refine wpAnyH_ready (rs := [8]) (by kernel_rfl) (by simp) ?_
      refine AllReadyH.cons rfl (fun K hK => ?_) AllReadyH.nil
      try simp only [List.getElem_toArray, List.getElem_cons_succ, List.getElem_cons_zero]
      go_simp
      refine hK.out _ _ ?_ (fun hHeld => ?_)
      · exact HSX.out ((w'.setCell ⟨pb, po, none⟩ (.slice (some ⟨g, 0, none⟩) (kn + 1) c)).setCells g (kn * 10) [.int .i64 xk, .int .i64 xl, .int .i64 xn, .slice t1 t2 t3, .slice k1 k2 k3, .slice r1 r2 r3, .string ⟨xc.toArray⟩, .slice q1 q2 q3, .bool xb, .bool xa]) ((heap_setC hgw _ _ _).trans ((Below.heap_setCell _ ⟨pb, po, none⟩ _ _ HPB.out).trans HSW.out))
      clear hK K
      try simp only [List.getElem_toArray, List.getElem_cons_succ, List.getElem_cons_zero, Act.put, List.setIfInBounds_toArray, List.set_cons_zero, List.set_cons_succ]
      refine wpAnyH_done (by kernel_rfl) ?_ _
      go_wp2_with fail
      go_end0
      refine ⟨rfl, ?_⟩
      have q := HFF.out
      rw [setCells_comm hgp] at q
      exact q
end Go.Proofs.YtpccjgoeoeehoaaDoor
namespace Go.Proofs.YtpccjgoeoeehoaaDoor
open Go.RowKit
theorem BM.title {m : Bool} {X R : Nat → Prop} {w : World} {b : Nat} {t : Bt} (h : BM m X R w b t) (n : Nm) :
    BM m X R ((((w.setCell ⟨b, 0, none⟩ (.string ⟨n.a.toArray⟩)).setCell ⟨b, 1, none⟩ (.string ⟨n.b.toArray⟩)).setCell ⟨b, 2, none⟩ (.string ⟨n.c.toArray⟩)).setCell ⟨b, 3, none⟩ (.string ⟨n.d.toArray⟩)) b { t with nm := n } ∧
    Exc X w ((((w.setCell ⟨b, 0, none⟩ (.string ⟨n.a.toArray⟩)).setCell ⟨b, 1, none⟩ (.string ⟨n.b.toArray⟩)).setCell ⟨b, 2, none⟩ (.string ⟨n.c.toArray⟩)).setCell ⟨b, 3, none⟩ (.string ⟨n.d.toArray⟩)) := by
  have hs := h.self
  obtain ⟨kv, ov, pa, LO, lab, h1, h2⟩ := h
  have hE : Exc (fun k => k = b) w ((((w.setCell ⟨b, 0, none⟩ (.string ⟨n.a.toArray⟩)).setCell ⟨b, 1, none⟩ (.string ⟨n.b.toArray⟩)).setCell ⟨b, 2, none⟩ (.string ⟨n.c.toArray⟩)).setCell ⟨b, 3, none⟩ (.string ⟨n.d.toArray⟩)) :=
    ((((Exc.refl (fun k => k = b) w).set 0 _ (fun _ => rfl)).set 1 _ (fun _ => rfl)).set 2 _ (fun _ => rfl)).set 3 _ (fun _ => rfl)
  have hbox := (((h1.box.set 0 (.string ⟨n.a.toArray⟩)).set 1 (.string ⟨n.b.toArray⟩)).set 2 (.string ⟨n.c.toArray⟩)).set 3 (.string ⟨n.d.toArray⟩)
  obtain ⟨F, hF⟩ : ∃ F, (((w.setCell ⟨b, 0, none⟩ (.string ⟨n.a.toArray⟩)).setCell ⟨b, 1, none⟩ (.string ⟨n.b.toArray⟩)).setCell ⟨b, 2, none⟩ (.string ⟨n.c.toArray⟩)).setCell ⟨b, 3, none⟩ (.string ⟨n.d.toArray⟩) = F := ⟨_, rfl⟩
  rw [hF] at hE hbox ⊢
  have kS : ∀ k, k < w.heap.size → lab k ≠ 1 → F.heap[k]? = w.heap[k]? := fun k q1 q2 => hE.block k q1 (fun e => q2 (by rw [e]; exact h1.lb))
  have kR : Kp R w F := fun k q => kS k (h1.rl k q) (by rw [h1.sep k q]; decide)
  have kz : ∀ z, z ≠ 0 → z ≠ 1 → Kp (fun k => lab k = z) w F := fun z a0 a1 k q => kS k (h1.ll k (by rw [show lab k = z from q]; exact a0)) (by rw [show lab k = z from q]; exact a1)
  refine ⟨⟨kv, ov, pa, LO, lab, ⟨fun k q => Nat.lt_of_lt_of_le (h1.ll k q) hE.size, fun k q => Nat.lt_of_lt_of_le (h1.rl k q) hE.size, h1.sep, h1.lb, hbox, h1.kids.keep kR (kz 2 (by decide) (by decide)), h1.opn.kp (fun k e => kz 3 (by decide) (by decide) k (h1.opb k e)), h1.opb, h1.ol,
    fun i x y p q => ⟨(h1.on i x y p q).1.keep kR, (h1.on i x y p q).2.keep kR (kz _ (by omega) (by omega))⟩, PaIs.keep (t := t) h1.para kR (fun k q => q.elim (kz 4 (by decide) (by decide) k) (kz 5 (by decide) (by decide) k))⟩, h2⟩, hE.mono (fun k _ e => by rw [e]; exact hs)⟩
set_option maxRecDepth 100000 in
set_option maxHeartbeats 1000000 in
theorem btitle_any {m : Bool} {X R : Nat → Prop} {w : World} {b : Nat} {t : Bt} (h : BM m X R w b t) (n : Nm) :
    Calls Tryd.prog 28 #[ptrB b, .string ⟨n.a.toArray⟩, .string ⟨n.b.toArray⟩, .string ⟨n.c.toArray⟩, .string ⟨n.d.toArray⟩] w fun e w' => e = .returned (.tuple #[]) ∧ BM m X R w' b { t with nm := n } ∧ Exc X w w' := by
  have HF := Lib.hid (h.title n)
  obtain ⟨kv, ov, pa, LO, lab, h1, h2⟩ := h
  have c0 := h1.box.cell 0
  have c1 := h1.box.cell 1
  have c2 := h1.box.cell 2
  have c3 := h1.box.cell 3
  simp only [bcell, List.getElem?_cons_zero, List.getElem?_cons_succ] at c0 c1 c2 c3
  have f0 : w.frozen? ⟨b, 0, none⟩ = false := h1.box.frozen (by simp [bcell])
  have f1 : w.frozen? ⟨b, 1, none⟩ = false := h1.box.frozen (by simp [bcell])
  have f2 : w.frozen? ⟨b, 2, none⟩ = false := h1.box.frozen (by simp [bcell])
  have f3 : w.frozen? ⟨b, 3, none⟩ = false := h1.box.frozen (by simp [bcell])
  clear h1 h2
  go_enter Tryd.func28, Tryd.ntmps28
  go_wp2_with fail
  go_end0
  exact ⟨rfl, HF.out⟩
def FindQ (l : List Nd) (k : Int) (r : Int) : Prop := (r = -1 ∧ ∀ y ∈ l, y.hd.kind ≠ k) ∨ ∃ p y, r = ((p : Nat) : Int) ∧ l[p]? = some y ∧ y.hd.kind = k ∧ ∀ q z, p < q → l[q]? = some z → z.hd.kind ≠ k
set_option maxRecDepth 100000 in
set_option maxHeartbeats 2000000 in
theorem bfind_any {m : Bool} {X R : Nat → Prop} {w : World} {b : Nat} {t : Bt} (h : BM m X R w b t) (k : Int) (hl : t.opn.length ≤ 400000) :
    Calls Tryd.prog 40 #[ptrB b, .int .i64 k] w fun e w' => ∃ r, e = .returned (.int .i64 r) ∧ FindQ t.opn k r ∧ w = w' := by
  have HD := Lib.hid (bdepth_any h)
  obtain ⟨kv, ov, pa, LO, lab, h1, h2⟩ := h
  obtain ⟨oa, oc, eo, hoc⟩ := h1.olen
  have c5 : w.cell? ⟨b, 5, none⟩ = some (.slice oa t.opn.length oc) := by rw [h1.box.cell 5, ← eo]; rfl
  have HAT : Hid (∀ (i : Nat) y, t.opn[i]? = some y → ∃ g, oa = some ⟨g, 0, none⟩ ∧ w.cell? ⟨g, i * 10, none⟩ = some (.int .i64 y.hd.kind)) := Lib.hid (fun i y hy => by
    obtain ⟨g, c, x, e, -, -, -, hc, hH, -⟩ := h1.at hy
    rw [eo] at e
    injection e with e1
    refine ⟨g, e1, ?_⟩
    have := (hc 0 _ rfl).1
    rw [hH.kind] at this
    exact this)
  obtain ⟨l, hl0⟩ : ∃ l, t.opn = l := ⟨_, rfl⟩
  rw [hl0] at HD c5 HAT hl ⊢
  clear h1 h2 eo hoc hl0
  go_enter Tryd.func40, Tryd.ntmps40
  go_wp2_with fail
  refine HD.out.mono ?_
  rintro e w1 ⟨rfl, rfl⟩
  clear HD
  go_wp2_with fail
  go_loopw [5] (fun s wr => ∃ n : Nat, n ≤ l.length ∧ s = .int .i64 ((n : Int) - 1) ∧ Hid (∀ q z, n ≤ q → l[q]? = some z → z.hd.kind ≠ k) ∧ w = wr) (fun s _ => (intOf s + 1).toNat)
  case atStart => exact ⟨l.length, Nat.le_refl _, by go_num, Lib.hid (fun q z hq hz => by rw [List.getElem?_eq_none hq] at hz; cases hz), rfl⟩
  case round =>
    obtain ⟨n, hn, rfl, HN, rfl⟩ := hrel
    by_cases h0 : 0 < n
    · obtain ⟨p, rfl⟩ : ∃ p, n = p + 1 := ⟨n - 1, by omega⟩
      obtain ⟨y, hy⟩ : ∃ y, l[p]? = some y := ⟨l[p]'(by omega), List.getElem?_eq_getElem _⟩
      obtain ⟨g, rfl, c0⟩ := HAT.out p y hy
      have HY := Lib.hid hy
      have hi0 : (p : Int) < (l.length : Int) := by omega
      have hi1 : (0 : Int) ≤ (p : Int) := by omega
      have e1 : ((p + 1 : Nat) : Int) - 1 = (p : Int) := by omega
      rw [e1]
      obtain ⟨z, hz⟩ : ∃ z, y.hd.kind = z := ⟨_, rfl⟩
      rw [hz] at c0
      have HZ := Lib.hid hz
      clear hy hz e1
      by_cases hk : z = k
      · subst hk
        go_wp2_with fail
        go_ret
        exact ⟨_, rfl, .inr ⟨p, y, rfl, HY.out, HZ.out, fun q x hq hx => HN.out q x (by omega) hx⟩, rfl⟩
      · have hq : (z == k) = false := by simpa using hk
        have HK := Lib.hid hk
        go_wp2_with fail
        go_roundw
        case rel => exact ⟨p, by omega, by go_num, Lib.hid (fun q x hq hx => by
          by_cases e : q = p
          · subst e
            rw [HY.out] at hx
            obtain rfl := Option.some.inj hx
            rw [HZ.out]; exact HK.out
          · exact HN.out q x (by omega) hx), by first | trivial | rfl⟩
        case measure => (simp [intOf]; try omega)
    · obtain rfl : n = 0 := by omega
      go_wp2_with fail
      go_ret
      exact ⟨-1, rfl, .inl ⟨rfl, fun y hy => by
        obtain ⟨q, hq⟩ := List.mem_iff_getElem?.1 hy
        exact HN.out q y (Nat.zero_le _) hq⟩, rfl⟩
set_option maxRecDepth 100000 in
set_option maxHeartbeats 1000000 in
theorem binside_any {m : Bool} {X R : Nat → Prop} {w : World} {b : Nat} {t : Bt} (h : BM m X R w b t) (k : Int) (hl : t.opn.length ≤ 400000) :
    Calls Tryd.prog 14 #[ptrB b, .int .i64 k] w fun e w' => e = .returned (.bool (bIn t k)) ∧ w = w' := by
  have HF := Lib.hid (bfind_any h k hl)
  clear h
  go_enter Tryd.func14, Tryd.ntmps14
  go_wp2_with fail
  refine HF.out.mono ?_
  rintro e w1 ⟨r, rfl, hr, rfl⟩
  have HB : Hid (decide (r ≥ 0) = bIn t k) := Lib.hid (by
    unfold bIn
    rcases hr with ⟨rfl, hn⟩ | ⟨p, y, rfl, hy, hk, -⟩
    · symm
      simp only [ge_iff_le, show ¬ ((0 : Int) ≤ -1) by decide, decide_false]
      rw [List.any_eq_false]
      intro y hy
      simpa using hn y hy
    · have e : decide (((p : Nat) : Int) ≥ 0) = true := by simp
      rw [e]
      symm
      rw [List.any_eq_true]
      exact ⟨y, List.mem_of_getElem? hy, by simpa using hk⟩)
  clear hr HF
  go_wp2_with fail
  go_ret
  exact ⟨ret_bool HB.out, rfl⟩
end Go.Proofs.YtpccjgoeoeehoaaDoor
namespace Go.Proofs.YtpccjgoeoeehoaaDoor
open Go.RowKit
noncomputable def frontN (x hi : Value) : Sem Value := Instr.slice 27 x none (some hi) none
theorem slice_frontN (x hi : Value) : Instr.slice 27 x none (some hi) none = frontN x hi := rfl
noncomputable def backN (x lo : Value) : Sem Value := Instr.slice 27 x (some lo) none none
theorem slice_backN (x lo : Value) : Instr.slice 27 x (some lo) none none = backN x lo := rfl
noncomputable def midN (x lo hi : Value) : Sem Value := Instr.slice 27 x (some lo) (some hi) none
theorem slice_midN (x lo hi : Value) : Instr.slice 27 x (some lo) (some hi) none = midN x lo hi := rfl
noncomputable def triN (x lo hi mx : Value) : Sem Value := Instr.slice 27 x (some lo) (some hi) (some mx)
theorem slice_triN (x lo hi mx : Value) : Instr.slice 27 x (some lo) (some hi) (some mx) = triN x lo hi mx := rfl
noncomputable def clrN (args : Array Value) : Sem Next := do pure (.value (← Builtin.clear_ #[27] 0 args))
theorem builtin_clrN (cs : Array Bool) (args : Array Value) : builtin .clear #[27] 0 cs args = clrN args := rfl
theorem zeroN (w : World) : (zeroValue 40).run Tryd.prog w = .ok (.agg zNd.toArray) w := by kernel_rfl
theorem frontN_at (g N c k : Nat) (hk : k ≤ c) (W : World) : (frontN (.slice (some ⟨g, 0, none⟩) N c) (.int .i64 (k : Int))).run Tryd.prog W = .ok (.slice (some ⟨g, 0, none⟩) k c) W := by
  obtain ⟨i0, hi, hz0, hz1, hz2⟩ := info_parts infoNd
  unfold frontN
  simp [Instr.slice, Instr.sliceBounds, Instr.sliceBound, asIntOf, run_underlying Tryd.underlying27, hk, sizeOf, typeInfo, hi]
  intro _
  rfl
theorem backN_at (g N c : Nat) (hc : N ≤ c) : ∃ u, (∀ W, (backN (.slice (some ⟨g, 0, none⟩) N c) (.int .i64 (N : Int))).run Tryd.prog W = .ok (.slice (some u) 0 (c - N)) W) := by
  obtain ⟨i0, hi, hz0, hz1, hz2⟩ := info_parts infoNd
  refine ⟨if c = N then ⟨g, 0, none⟩ else (⟨g, 0, none⟩ : Addr).add (N * 10), fun W => ?_⟩
  unfold backN
  by_cases hcn : c = N
  · subst hcn
    simp [Instr.slice, Instr.sliceBounds, Instr.sliceBound, asIntOf, run_underlying Tryd.underlying27, sizeOf, typeInfo, hi, hz1]
  · simp [Instr.slice, Instr.sliceBounds, Instr.sliceBound, asIntOf, run_underlying Tryd.underlying27, hc, hcn, sizeOf, typeInfo, hi, hz1]
theorem midN_at (g N c lo hi' : Nat) (h0 : lo < hi') (h1 : hi' ≤ c) (W : World) : (midN (.slice (some ⟨g, 0, none⟩) N c) (.int .i64 (lo : Int)) (.int .i64 (hi' : Int))).run Tryd.prog W = .ok (.slice (some ⟨g, lo * 10, none⟩) (hi' - lo) (c - lo)) W := by
  obtain ⟨i0, hi, hz0, hz1, hz2⟩ := info_parts infoNd
  have h2 : ¬ c = lo := by omega
  have h3 : lo ≤ hi' := by omega
  unfold midN
  simp [Instr.slice, Instr.sliceBounds, Instr.sliceBound, asIntOf, run_underlying Tryd.underlying27, h1, h2, h3, sizeOf, typeInfo, hi, hz1, Addr.add_lit]
theorem triN_at (g N c lo hi' mx : Nat) (h0 : lo ≤ hi') (h1 : hi' ≤ mx) (h2 : mx ≤ c) (W : World) : ∃ u, (triN (.slice (some ⟨g, 0, none⟩) N c) (.int .i64 (lo : Int)) (.int .i64 (hi' : Int)) (.int .i64 (mx : Int))).run Tryd.prog W = .ok u W := by
  obtain ⟨i0, hi, hz0, hz1, hz2⟩ := info_parts infoNd
  unfold triN
  simp [Instr.slice, Instr.sliceBounds, Instr.sliceBound, asIntOf, run_underlying Tryd.underlying27, h0, h1, h2, sizeOf, typeInfo, hi, hz1]
theorem appN_none (a : Option Addr) (u : Addr) (n c c' : Nat) (h : n ≤ c) (W : World) : (appN #[.slice a n c, .slice (some u) 0 c']).run Tryd.prog W = .ok (.value (.slice a n c)) W := by
  obtain ⟨i0, hi, hz0, hz1, hz2⟩ := info_parts infoNd
  have hf := run_firstCells_some (P := Tryd.prog) W i0.size 0 u 0 c' [] (by simp) (by intro _ _ h'; simp at h')
  unfold appN
  cases a <;> simp [Builtin.append_, run_underlying Tryd.underlying27, sizeOf, typeInfo, hi, Builtin.lenOf, h, hf, storeCells]
theorem own_behind {g N c : Nat} {L : List NV} : ∀ (vs : List Value) (q : Nat) (W : World), FOwn 40 10 ncell 0 W (.slice (some ⟨g, 0, none⟩) N c) L → L.length * 10 ≤ q → FOwn 40 10 ncell 0 (W.setCells g q vs) (.slice (some ⟨g, 0, none⟩) N c) L
  | [], _, _, h, _ => h
  | v :: vs, q, W, h, hq => own_behind vs (q + 1) _ (h.behind ncell_len hq) (by omega)
theorem clrN_run {W : World} {g n c c' : Nat} {L : List NV} {x : NV} (h : FOwn 40 10 ncell 0 W (.slice (some ⟨g, 0, none⟩) (n + 1) c) (L ++ [x])) (hl : L.length = n) :
    (clrN #[.slice (some ⟨g, n * 10, none⟩) 1 c']).run Tryd.prog W = .ok (.value (.tuple #[])) (W.setCells g (n * 10) zNd) := by
  have hc : ∀ j, j < 10 → (W.cell? ⟨g, n * 10 + 0 + j, none⟩).isSome = true ∧ W.frozen? ⟨g, n * 10 + 0 + j, none⟩ = false := fun j hj => by
    obtain ⟨u, hu⟩ : ∃ u, (ncell x)[j]? = some u := ⟨(ncell x)[j]'(by rw [ncell_len]; exact hj), List.getElem?_eq_getElem _⟩
    have hx : (L ++ [x])[n]? = some x := by rw [← hl]; simp
    obtain ⟨q1, q2⟩ := h.slotA ncell_len hx hu
    rw [Nat.add_zero]
    exact ⟨by rw [q1]; rfl, q2⟩
  have hst := run_storeCells_cells (P := Tryd.prog) g (n * 10) zNd 0 W (fun j hj => (hc j hj).1) (fun j hj => (hc j hj).2) (fun v hv => by
    have hv' : v ∈ ncell (⟨0, 0, 0, nilP, nilP, nilP, [], nilP, false, false⟩ : NV) := hv
    exact ncell_one _ v hv')
  rw [Nat.add_zero] at hst
  have hz : (Builtin.zeroCells #[.int .i64 0, .int .i64 0, .int .i64 0, .slice none 0 0, .slice none 0 0, .slice none 0 0, .string ⟨#[]⟩, .slice none 0 0, .bool false, .bool false] 1).toList = zNd := by kernel_rfl
  unfold clrN
  simp [Builtin.clear_, run_underlying Tryd.underlying27, zeroN, Value.cells, hz, hst]
def DelP (g n c : Nat) (L : List NV) (w : World) (e : Ending) (w' : World) : Prop := e = .returned (.slice (some ⟨g, 0, none⟩) n c) ∧ FOwn 40 10 ncell 0 w' (.slice (some ⟨g, 0, none⟩) n c) L ∧ Exc (· = g) w w'
attribute [local go_sem ↓ high] slice_frontN slice_backN slice_midN slice_triN builtin_clrN builtin_appN
set_option maxRecDepth 100000 in
set_option maxHeartbeats 2000000 in
theorem bdelete_any {w : World} {g n c : Nat} {L : List NV} {x : NV} (h : FOwn 40 10 ncell 0 w (.slice (some ⟨g, 0, none⟩) (n + 1) c) (L ++ [x])) (hl : L.length = n) (hn : n ≤ 400000) :
    Calls Tryd.prog 63 #[.slice (some ⟨g, 0, none⟩) (n + 1) c, .int .i64 (n : Int), .int .i64 ((n : Int) + 1)] w (DelP g n c L w) := by
  have hc : n + 1 ≤ c := by
    obtain ⟨a, c', e, hc', -⟩ := FOwn.sl ncell_len h
    injection e with e1 e2 e3
    subst e3
    rw [List.length_append, hl] at hc'
    exact hc'
  have HFIN : Hid (DelP g n c L w (.returned (.slice (some ⟨g, 0, none⟩) n c)) (w.drew.setCells g (n * 10) zNd)) := Lib.hid (by
    refine ⟨rfl, ?_, ?_⟩
    · have k := h.cut ncell_len (k := n) (by rw [List.length_append, hl]; omega)
      rw [← hl, List.take_left] at k
      rw [hl] at k
      exact own_behind zNd (n * 10) w.drew (k.kp (fun _ _ => rfl)) (by omega)
    · have k0 : Exc (· = g) w w.drew := ⟨rfl, rfl, rfl, Nat.le_refl _, fun _ _ _ => rfl⟩
      exact exc_setC (X := (· = g)) (a := w) (g := g) (fun _ => rfl) zNd (n * 10) w.drew k0)
  have e1 : ((n + 1 : Nat) : Int) = (n : Int) + 1 := by omega
  obtain ⟨tr, ft⟩ := triN_at g (n + 1) c n (n + 1) (n + 1) (by omega) (by omega) hc w
  have ff : ∀ W : World, (frontN (.slice (some ⟨g, 0, none⟩) (n + 1) c) (.int .i64 (n : Int))).run Tryd.prog W = .ok (.slice (some ⟨g, 0, none⟩) n c) W := fun W => frontN_at g _ c n (by omega) W
  obtain ⟨u, fb⟩ := backN_at g (n + 1) c hc
  have fa : ∀ W : World, (appN #[.slice (some ⟨g, 0, none⟩) n c, .slice (some u) 0 (c - (n + 1))]).run Tryd.prog W = .ok (.value (.slice (some ⟨g, 0, none⟩) n c)) W := fun W => appN_none _ u n c _ (by omega) W
  have fm : ∀ W : World, (midN (.slice (some ⟨g, 0, none⟩) n c) (.int .i64 (n : Int)) (.int .i64 ((n + 1 : Nat) : Int))).run Tryd.prog W = .ok (.slice (some ⟨g, n * 10, none⟩) (n + 1 - n) (c - n)) W := fun W => midN_at g _ c n (n + 1) (by omega) hc W
  rw [e1] at ft fm fb
  rw [show n + 1 - n = 1 by omega] at fm
  have fc : (clrN #[.slice (some ⟨g, n * 10, none⟩) 1 (c - n)]).run Tryd.prog w.drew = .ok (.value (.tuple #[])) (w.drew.setCells g (n * 10) zNd) := clrN_run (h.kp (fun _ _ => rfl)) hl
  have hne : ¬ (n : Int) = (n : Int) + 1 := by omega
  obtain ⟨F, hF⟩ : ∃ F, w.drew.setCells g (n * 10) zNd = F := ⟨_, rfl⟩
  rw [hF] at fc HFIN
  clear h hF
  go_enter Tryd.func63, Tryd.ntmps63
  go_wp2_with fail
  go_region
  all_goals
    go_wp2_with fail
    go_ret
    exact HFIN.out
end Go.Proofs.YtpccjgoeoeehoaaDoor
namespace Go.Proofs.YtpccjgoeoeehoaaDoor
open Go.RowKit
theorem BM.drop {m : Bool} {X R : Nat → Prop} {w : World} {b : Nat} {t : Bt} (h : BM m X R w b t) {l : List Nd} {y : Nd} (ho : t.opn = l ++ [y]) :
    ∃ g c L x, w.cell? ⟨b, 5, none⟩ = some (.slice (some ⟨g, 0, none⟩) (l.length + 1) c) ∧ FOwn 40 10 ncell 0 w (.slice (some ⟨g, 0, none⟩) (l.length + 1) c) (L ++ [x]) ∧ L.length = l.length ∧ l.length + 1 ≤ c ∧
      (∀ (j : Nat) u, (ncell x)[j]? = some u → w.cell? ⟨g, l.length * 10 + j, none⟩ = some u) ∧ g ≠ b ∧ g < w.heap.size ∧ b < w.heap.size ∧
      ∀ W w', Below w.heap.size w W → FOwn 40 10 ncell 0 w' (.slice (some ⟨g, 0, none⟩) l.length c) L → Exc (· = g) W w' →
        w'.cell? ⟨b, 5, none⟩ = some (.slice (some ⟨g, 0, none⟩) (l.length + 1) c) ∧ w'.frozen? ⟨b, 5, none⟩ = false ∧
        ∃ X' R', BM m X' R' (w'.setCell ⟨b, 5, none⟩ (.slice (some ⟨g, 0, none⟩) l.length c)) b { t with opn := l } ∧ HdIs R' (w'.setCell ⟨b, 5, none⟩ (.slice (some ⟨g, 0, none⟩) l.length c)) x y.hd ∧ NsS R' (w'.setCell ⟨b, 5, none⟩ (.slice (some ⟨g, 0, none⟩) l.length c)) (pv x.kids) y.kids ∧
          Exc X w (w'.setCell ⟨b, 5, none⟩ (.slice (some ⟨g, 0, none⟩) l.length c)) ∧ (∀ k, X' k → X k) ∧ ∀ k, R' k → R k ∨ X k := by
  obtain ⟨kv, ov, pa, LO, lab, h1, h2⟩ := h
  have hy0 : t.opn[l.length]? = some y := by rw [ho]; simp
  obtain ⟨g, c, x, eo, hoc, hog, hx0, hcel, hH0, hK0⟩ := h1.at hy0
  have htl : t.opn.length = l.length + 1 := by rw [ho]; simp
  rw [htl] at eo hoc
  obtain ⟨L, x', hLO⟩ : ∃ L x', LO = L ++ [x'] := by
    rcases List.eq_nil_or_concat LO with e | ⟨r, z, e⟩
    · subst e
      simp at hx0
    · exact ⟨r, z, by simpa using e⟩
  have hLl : L.length = l.length := by
    have := h1.ol
    rw [hLO, htl] at this
    simpa using this
  have hxx : x' = x := by
    rw [hLO, ← hLl] at hx0
    simpa using hx0
  subst hxx
  have hbg : g ≠ b := fun e => by
    have := h1.lb
    rw [← e, hog] at this
    omega
  have hglt : g < w.heap.size := h1.ll g (by omega)
  have hblt : b < w.heap.size := h1.box.lt
  have ho1 := h1.opn
  rw [eo, hLO] at ho1
  refine ⟨g, c, L, x', by rw [h1.box.cell 5, ← eo]; rfl, ho1, hLl, hoc, fun j u hu => (hcel j u hu).1, hbg, hglt, hblt, fun W w' hb hF hE => ?_⟩
  have hEw : Exc (fun k => k = g) w w' := (Exc.of (X := fun k => k = g) hb).trans hE (fun _ _ q => q)
  have box' : Blk w' b 71 (bcell t.nm kv ov pa) := hEw.blk h1.box (fun e => hbg e.symm)
  have box2 := box'.set 5 (.slice (some ⟨g, 0, none⟩) l.length c)
  have eb : (bcell t.nm kv ov pa).set 5 (.slice (some ⟨g, 0, none⟩) l.length c) = bcell t.nm kv (some ⟨g, 0, none⟩, l.length, c) pa := rfl
  rw [eb] at box2
  refine ⟨by rw [box'.cell 5, ← eo]; rfl, box'.frozen (by simp [bcell]), ?_⟩
  obtain ⟨F, hFF⟩ : ∃ F, w'.setCell ⟨b, 5, none⟩ (.slice (some ⟨g, 0, none⟩) l.length c) = F := ⟨_, rfl⟩
  have hEF : Exc (fun k => k = g ∨ k = b) w F := by
    rw [← hFF]
    exact (hEw.mono (fun k _ q => .inl q)).set 5 _ (fun _ => .inr rfl)
  have hFo : FOwn 40 10 ncell 0 F (.slice (some ⟨g, 0, none⟩) l.length c) L := hF.kp (fun k e => by
    obtain rfl := Option.some.inj e
    rw [← hFF]
    exact Below.heap_setCell _ ⟨b, 5, none⟩ _ _ hbg)
  rw [hFF] at box2 ⊢
  have kS : ∀ k, k < w.heap.size → lab k ≠ 3 → lab k ≠ 1 → F.heap[k]? = w.heap[k]? := fun k q1 q2 q3 => hEF.block k q1 (fun e => e.elim (fun e => q2 (by rw [e]; exact hog)) (fun e => q3 (by rw [e]; exact h1.lb)))
  have kR : Kp R w F := fun k q => kS k (h1.rl k q) (by rw [h1.sep k q]; decide) (by rw [h1.sep k q]; decide)
  have kz : ∀ z, z ≠ 0 → z ≠ 3 → z ≠ 1 → Kp (fun k => lab k = z) w F := fun z a0 a1 a2 k q => kS k (h1.ll k (by rw [show lab k = z from q]; exact a0)) (by rw [show lab k = z from q]; exact a1) (by rw [show lab k = z from q]; exact a2)
  have hrr : ∀ k, R k → R k ∨ lab k = 6 + l.length := fun k q => .inl q
  have ln : ∀ k z, z ≠ 6 + l.length → lab k = z → (if lab k = 6 + l.length then 0 else lab k) = z := fun k z hz q => by rw [if_neg (by omega), q]
  refine ⟨fun k => (if lab k = 6 + l.length then 0 else lab k) ≠ 0, fun k => R k ∨ lab k = 6 + l.length, ⟨kv, (some ⟨g, 0, none⟩, l.length, c), pa, L, fun k => if lab k = 6 + l.length then 0 else lab k, ⟨fun k q => ?_, fun k q => ?_, fun k q => ?_, ln b 1 (by omega) h1.lb, box2, ?_, hFo, fun k e => ?_, hLl, fun i x2 y2 p q => ?_, ?_⟩, fun k => Iff.rfl⟩, (hH0.keep kR).mono hrr, ?_, hEF.mono (fun k _ q => (h2 k).2 ?_), fun k q => (h2 k).2 ?_, fun k q => ?_⟩
  · refine Nat.lt_of_lt_of_le (h1.ll k fun e => q ?_) hEF.size
    simp only [e]; rw [if_neg (by omega)]
  · exact Nat.lt_of_lt_of_le (q.elim (h1.rl k) (fun q => h1.ll k (by omega))) hEF.size
  · rcases q with q | q
    · have := h1.sep k q
      exact ln k 0 (by omega) this
    · simp only [q]; simp
  · exact (h1.kids.keep kR (kz 2 (by decide) (by decide) (by decide))).mono hrr (fun k q => ln k 2 (by omega) q)
  · obtain rfl := Option.some.inj e
    exact ln _ 3 (by omega) hog
  · have hil : i < l.length := (List.getElem?_eq_some_iff.1 q).1
    obtain ⟨q1, q2⟩ := h1.on i x2 y2 (by rw [hLO, List.getElem?_append_left (by omega)]; exact p) (by rw [ho, List.getElem?_append_left hil]; exact q)
    exact ⟨(q1.keep kR).mono hrr, (q2.keep kR (kz _ (by omega) (by omega) (by omega))).mono hrr (fun k z => ln k _ (by omega) z)⟩
  · have := PaIs.keep (t := { t with opn := l }) h1.para kR (fun k q => q.elim (kz 4 (by decide) (by decide) (by decide) k) (kz 5 (by decide) (by decide) (by decide) k))
    exact PaIs.relab this hrr (fun k q => ln k 4 (by omega) q) (fun k q => ln k 5 (by omega) q)
  · exact (hK0.keep kR (kz _ (by omega) (by omega) (by omega))).nss
  · rcases q with q | q
    · rw [q]; omega
    · rw [q, h1.lb]; omega
  · intro e
    apply q
    simp only [e]; rw [if_neg (by omega)]
  · exact q.imp id (fun q => (h2 k).2 (by omega))
def AfC (m : Bool) (X R : Nat → Prop) (b : Nat) (t' : Bt) (w w' : World) : Prop := ∃ X' R', BM m X' R' w' b t' ∧ Exc X w w' ∧ (∀ k, X' k → X k ∨ w.heap.size ≤ k) ∧ ∀ k, R' k → R k ∨ X k ∨ w.heap.size ≤ k
theorem AfB.c {m : Bool} {X R : Nat → Prop} {b : Nat} {t' : Bt} {w w' : World} (h : AfB m X R b t' w w') : AfC m X R b t' w w' := by
  obtain ⟨X', h1, h2, h3⟩ := h
  exact ⟨X', R, h1, h2, h3, fun k q => .inl q⟩
theorem AfC.refl {m : Bool} {X R : Nat → Prop} {b : Nat} {t : Bt} {w : World} (h : BM m X R w b t) : AfC m X R b t w w := ⟨X, R, h, Exc.refl _ _, fun k q => .inl q, fun k q => .inl q⟩
theorem AfC.step {m : Bool} {X R X1 R1 : Nat → Prop} {b : Nat} {t1 : Bt} {w w1 w2 : World} (hE : Exc X w w1) (hX : ∀ k, X1 k → X k ∨ w.heap.size ≤ k) (hR : ∀ k, R1 k → R k ∨ X k ∨ w.heap.size ≤ k) (h : AfC m X1 R1 b t1 w1 w2) : AfC m X R b t1 w w2 := by
  obtain ⟨X', R', h1, h2, h3, h4⟩ := h
  have hs := hE.size
  refine ⟨X', R', h1, hE.trans h2 (fun k q z => (hX k z).elim id (fun z => by omega)), fun k q => (h3 k q).elim (hX k) (fun z => .inr (by omega)), fun k q => ?_⟩
  rcases h4 k q with z | z | z
  · exact hR k z
  · exact .inr (hX k z)
  · exact .inr (.inr (by omega))
def popN : Nat → Bt → Bt
  | 0, t => t
  | n + 1, t => popN n (bPop t)
theorem popN_succ : ∀ (n : Nat) (t : Bt), popN (n + 1) t = bPop (popN n t)
  | 0, t => rfl
  | n + 1, t => popN_succ n (bPop t)
theorem popN_len : ∀ (n : Nat) (t : Bt), (popN n t).opn.length = t.opn.length - n
  | 0, t => rfl
  | n + 1, t => by rw [popN_succ, pop_len, popN_len n t]; omega
theorem popN_btl : ∀ (n : Nat) (t : Bt), btl (popN n t) = btl t
  | 0, t => rfl
  | n + 1, t => by rw [popN_succ, btl_pop, popN_btl n t]
theorem popN_all : ∀ (n : Nat) (t : Bt), bAll (popN n t) = bAll t
  | 0, t => rfl
  | n + 1, t => by rw [popN_succ, pop_all, popN_all n t]
theorem popN_sameP : ∀ (n : Nat) (t : Bt), sameP t (popN n t)
  | 0, t => ⟨rfl, rfl, rfl, rfl⟩
  | n + 1, t => by rw [popN_succ]; exact (popN_sameP n t).trans (pop_sameP _)
theorem nl_len : ∀ l : List Nd, l.length ≤ nlL l := fun l => by
  have := cnt_len l
  have := cnt_nlL l
  omega
theorem btl_small {t : Bt} {N : Nat} (h : btl t ≤ N) : t.kids.length ≤ N ∧ t.opn.length ≤ N ∧ (∀ y ∈ t.opn, y.kids.length ≤ N) ∧ t.text.length ≤ N := by
  unfold btl at h
  have h1 := nl_len t.kids
  have h2 := nl_len t.opn
  refine ⟨by omega, by omega, fun y hy => ?_, by omega⟩
  obtain ⟨q, hq⟩ := List.mem_iff_getElem?.1 hy
  have h3 := nl_le hq
  have h4 := nl_len y.kids
  omega
def ClosP (m : Bool) (X R : Nat → Prop) (b : Nat) (t' : Bt) (w : World) (e : Ending) (w' : World) : Prop := e = .returned (.tuple #[]) ∧ AfC m X R b t' w w'
set_option maxRecDepth 100000 in
set_option maxHeartbeats 4000000 in
theorem bcloseTo_any {m : Bool} {X R : Nat → Prop} {w : World} {b : Nat} {t : Bt} (h : BM m X R w b t) (d : Nat) (hb : btl t ≤ 200000) (hd : d ≤ 200000) :
    Calls Tryd.prog 43 #[ptrB b, .int .i64 (d : Int)] w (ClosP m X R b (popN (t.opn.length - d) t) w) := by
  have HD := Lib.hid (bdepth_any h)
  have H0 := Lib.hid (AfC.refl h)
  have HBT := Lib.hid hb
  have hol := (btl_small hb).2.1
  obtain ⟨N, hN⟩ : ∃ N, t.opn.length = N := ⟨_, rfl⟩
  have HN := Lib.hid hN
  rw [hN] at HD hol ⊢
  clear h hb hN
  go_enter Tryd.func43, Tryd.ntmps43
  go_wp2_with fail
  refine HD.out.mono ?_
  rintro e w1 ⟨rfl, rfl⟩
  clear HD
  go_wp2_with fail
  go_loopw [4, 5] (fun s _ wr => ∃ n : Nat, n ≤ N ∧ s = .int .i64 (n : Int) ∧ (n = N ∨ d ≤ n) ∧ Hid (AfC m X R b (popN (N - n) t) w wr)) (fun s _ _ => (intOf s).toNat)
  case atStart => exact ⟨N, Nat.le_refl _, rfl, .inl rfl, by rw [Nat.sub_self]; exact H0⟩
  case round =>
    obtain ⟨n, hn, rfl, hnd, HA⟩ := hrel
    by_cases hlt : d < n
    · obtain ⟨p, rfl⟩ : ∃ p, n = p + 1 := ⟨n - 1, by omega⟩
      obtain ⟨X1, R1, hB, hE, hX, hR⟩ := HA.out
      have hbl := popN_btl (N - (p + 1)) t
      have hlen := popN_len (N - (p + 1)) t
      have hsm := btl_small (show btl (popN (N - (p + 1)) t) ≤ 200000 by rw [hbl]; exact HBT.out)
      have hpop := popN_succ (N - (p + 1)) t
      rw [show N - (p + 1) + 1 = N - p by omega] at hpop
      obtain ⟨tj, htj⟩ : ∃ tj, popN (N - (p + 1)) t = tj := ⟨_, rfl⟩
      rw [htj] at hB hlen hsm hpop
      rw [HN.out] at hlen
      obtain ⟨l, y, ho⟩ : ∃ l y, tj.opn = l ++ [y] := by
        rcases opn_cases tj.opn with e | q
        · rw [e] at hlen; simp at hlen; omega
        · exact q
      have hl : l.length = p := by
        rw [ho] at hlen
        simp at hlen
        omega
      rw [pop_some ho] at hpop
      obtain ⟨g, c, L, x, c5, hOW, hLl, hgc, hcel, hgb, hgl, hbl2, hDR⟩ := hB.drop ho
      rw [hl] at c5 hOW hLl hgc hcel hDR
      have hcl := HN
      obtain ⟨W1, hW1⟩ : ∃ W, W = wr.alloc (.cells (ncell x).toArray 40) := ⟨_, rfl⟩
      have b1 : Below wr.heap.size wr W1 := by rw [hW1]; exact below_lit _ _
      have kx : Blk W1 wr.heap.size 40 (ncell x) := by rw [hW1]; exact heap_alloc_new wr _
      have hOW1 : FOwn 40 10 ncell 0 W1 (.slice (some ⟨g, 0, none⟩) (p + 1) c) (L ++ [x]) := hOW.kp (fun k e => by
        obtain rfl := Option.some.inj e
        exact b1.block _ hgl)
      have HDEL := Lib.hid (bdelete_any (n := p) hOW1 hLl (by omega))
      have d5 : W1.cell? ⟨b, 5, none⟩ = some (.slice (some ⟨g, 0, none⟩) (p + 1) c) := (b1.cell (p := ⟨b, 5, none⟩) hbl2).trans c5
      have HPUT : Hid (∀ w2, DelP g p c L W1 (.returned (.slice (some ⟨g, 0, none⟩) p c)) w2 → w2.cell? ⟨b, 5, none⟩ = some (.slice (some ⟨g, 0, none⟩) (p + 1) c) ∧ w2.frozen? ⟨b, 5, none⟩ = false ∧
          (∀ (j : Nat) u, (ncell x)[j]? = some u → (w2.setCell ⟨b, 5, none⟩ (.slice (some ⟨g, 0, none⟩) p c)).cell? ⟨wr.heap.size, j, none⟩ = some u) ∧
          Calls Tryd.prog 47 #[ptrB b, .agg (ncell x).toArray] (w2.setCell ⟨b, 5, none⟩ (.slice (some ⟨g, 0, none⟩) p c)) fun e w' => e = .returned (.tuple #[]) ∧ AfC m X R b (popN (N - p) t) w w') := Lib.hid (fun w2 ⟨_, q1, q2⟩ => by
        obtain ⟨e5, f5, X2, R2, hB2, hH2, hK2, hE2, hX2, hR2⟩ := hDR W1 w2 b1 q1 q2
        refine ⟨e5, f5, fun j u hu => ?_, ?_⟩
        · have hne : wr.heap.size ≠ b := by omega
          have hne2 : wr.heap.size ≠ g := by omega
          rw [cell_blk ((Below.heap_setCell w2 ⟨b, 5, none⟩ _ _ hne).trans (q2.block _ kx.lt hne2)), kx.cell j]
          exact hu
        · have hs2 : ({ tj with opn := l } : Bt).kids.length ≤ 400000 := by show tj.kids.length ≤ _; omega
          refine (bput_any hB2 hH2 hK2 hs2 (fun z hz => ?_) (by show l.length ≤ _; omega)).mono ?_
          · have := hsm.2.2.1 z (by rw [ho]; exact List.mem_append_left _ hz)
            omega
          · rintro e w' ⟨h1, h2⟩
            refine ⟨h1, ?_⟩
            rw [hpop]
            refine AfC.step hE hX hR (AfC.step hE2 (fun k q => .inl (hX2 k q)) (fun k q => (hR2 k q).elim .inl (fun q => .inr (.inl q))) h2.c))
      have hi0 : (d : Int) < (p : Int) + 1 := by omega
      have hi1 : (0 : Int) ≤ (p : Int) := by omega
      have hi2 : (p : Int) ≤ 200000 := by omega
      have hi3 : (d : Int) < ((p + 1 : Nat) : Int) := by omega
      obtain ⟨xk, xl, xn, ⟨t1, t2, t3⟩, ⟨k1, k2, k3⟩, ⟨r1, r2, r3⟩, xc, ⟨q1, q2, q3⟩, xb, xa⟩ := x
      simp only [ncell, pv] at hcel hW1 HPUT
      have x0 := hcel 0 _ rfl
      have x1 := hcel 1 _ rfl
      have x2 := hcel 2 _ rfl
      have x3 := hcel 3 _ rfl
      have x4 := hcel 4 _ rfl
      have x5 := hcel 5 _ rfl
      have x6 := hcel 6 _ rfl
      have x7 := hcel 7 _ rfl
      have x8 := hcel 8 _ rfl
      have x9 := hcel 9 _ rfl
      simp only [Nat.add_zero] at x0
      have HW1 := Lib.hid hW1
      have HWW := Lib.hid (show wr.heap.size < W1.heap.size from kx.lt)
      clear hcel hW1 b1 kx hOW1 hOW hDR hB hE hX hR hpop hbl hlen hsm ho hcl hgb hgl hbl2 HA hol
      go_upto_region 4 with fail
      rw [← HW1.out]
      clear x0 x1 x2 x3 x4 x5 x6 x7 x8 x9 c5
      go_wp2_with fail
      refine HDEL.out.mono ?_
      rintro e w2 ⟨rfl, hq1, hq2⟩
      obtain ⟨e5, f5, hxc, hcall⟩ := HPUT.out w2 ⟨rfl, hq1, hq2⟩
      have x0 := hxc 0 _ rfl
      have x1 := hxc 1 _ rfl
      have x2 := hxc 2 _ rfl
      have x3 := hxc 3 _ rfl
      have x4 := hxc 4 _ rfl
      have x5 := hxc 5 _ rfl
      have x6 := hxc 6 _ rfl
      have x7 := hxc 7 _ rfl
      have x8 := hxc 8 _ rfl
      have x9 := hxc 9 _ rfl
      have HC := Lib.hid hcall
      clear hcall hxc hq1 hq2 HDEL HPUT
      go_wp2_with fail
      refine HC.out.mono ?_
      rintro e w3 ⟨rfl, hA⟩
      have HA3 := Lib.hid hA
      clear hA HC x0 x1 x2 x3 x4 x5 x6 x7 x8 x9 e5 f5
      go_wp2_with fail
      go_roundw
      case rel => exact ⟨p, by omega, by go_num, .inr (by omega), HA3⟩
      case measure => (simp [intOf]; try omega)
    · have hnd' : ¬ (d : Int) < (n : Int) := by omega
      have HE : Hid (N - n = N - d) := Lib.hid (by omega)
      go_wp2_with fail
      go_end0
      exact ⟨rfl, HE.out ▸ HA.out⟩
end Go.Proofs.YtpccjgoeoeehoaaDoor
namespace Go.Proofs.YtpccjgoeoeehoaaDoor
open Go.RowKit
theorem below_eq {W W' : World} (hb : Below W.heap.size W W') {g j : Nat} {v : Value} (h : W.cell? ⟨g, j, none⟩ = some v) : W'.cell? ⟨g, j, none⟩ = some v := (hb.cell (p := ⟨g, j, none⟩) (World.block_lt_of_cell? W _ h)).trans h
theorem trm_nil_ink : ∀ l : List Gly, trm l = [] ↔ ink l = []
  | [] => by simp [trm, ink]
  | g :: l => by
    have ih := trm_nil_ink l
    rw [trm_cons]
    by_cases hg : g.1 = 32
    · have e : ink (g :: l) = ink l := by simp [ink, hg]
      rw [e, ← ih]
      by_cases ht : trm l = []
      · simp [ht, hg]
      · simp [ht]
    · have e : ink (g :: l) = g :: ink l := by simp [ink, hg]
      rw [e]
      simp [hg]
theorem BM.flat {m : Bool} {X R : Nat → Prop} {w : World} {b : Nat} {t : Bt} (h : BM m X R w b t) (hh : t.has = true) :
    ∃ g tv, w.cell? ⟨b, 6, none⟩ = some (.pointer (some ⟨g, 0, none⟩)) ∧ w.frozen? ⟨b, 6, none⟩ = false ∧ b < w.heap.size ∧ g < w.heap.size ∧ (∀ (j : Nat) u, (ncell (pnode t.line tv))[j]? = some u → w.cell? ⟨g, j, none⟩ = some u) ∧
      ∀ W, Below w.heap.size w W → ∃ X' R', BM m X' R' (W.setCell ⟨b, 6, none⟩ (.pointer none)) b (bFlat t) ∧ FsS R' 2 gcell (W.setCell ⟨b, 6, none⟩ (.pointer none)) (pv tv) t.text ∧ Exc X w (W.setCell ⟨b, 6, none⟩ (.pointer none)) ∧ (∀ k, X' k → X k) ∧ ∀ k, R' k → R k ∨ X k := by
  obtain ⟨kv, ov, pa, LO, lab, h1, h2⟩ := h
  rcases h1.para with ⟨q, -⟩ | ⟨-, g, tv, rfl, hg, hp⟩
  · rw [hh] at q; cases q
  refine ⟨g, tv, h1.box.cell 6, h1.box.frozen (by simp [bcell]), h1.box.lt, hg.lt, fun j u hu => by rw [hg.cell j]; exact hu, fun W hb => ?_⟩
  have box' := (h1.box.below hb).set 6 (.pointer none)
  have eb : (bcell t.nm kv ov (.pointer (some ⟨g, 0, none⟩))).set 6 (.pointer none) = bcell t.nm kv ov (.pointer none) := rfl
  rw [eb] at box'
  obtain ⟨F, hFF⟩ : ∃ F, W.setCell ⟨b, 6, none⟩ (.pointer none) = F := ⟨_, rfl⟩
  have hEF : Exc (fun k => k = b) w F := by
    rw [← hFF]
    exact (Exc.of (X := fun k => k = b) hb).set 6 _ (fun _ => rfl)
  rw [hFF] at box' ⊢
  have kS : ∀ k, k < w.heap.size → lab k ≠ 1 → F.heap[k]? = w.heap[k]? := fun k q1 q2 => hEF.block k q1 (fun e => q2 (by rw [e]; exact h1.lb))
  have kR : Kp R w F := fun k q => kS k (h1.rl k q) (by rw [h1.sep k q]; decide)
  have kz : ∀ z, z ≠ 0 → z ≠ 1 → Kp (fun k => lab k = z) w F := fun z a0 a1 k q => kS k (h1.ll k (by rw [show lab k = z from q]; exact a0)) (by rw [show lab k = z from q]; exact a1)
  have ln : ∀ k z, z ≠ 5 → lab k = z → (if lab k = 5 then 0 else lab k) = z := fun k z hz q => by rw [if_neg (by omega), q]
  refine ⟨fun k => (if lab k = 5 then 0 else lab k) ≠ 0, fun k => R k ∨ lab k = 5, ⟨kv, ov, .pointer none, LO, fun k => if lab k = 5 then 0 else lab k, ⟨fun k q => ?_, fun k q => ?_, fun k q => ?_, ln b 1 (by omega) h1.lb, box', ?_, h1.opn.kp (fun k e => kz 3 (by decide) (by decide) k (h1.opb k e)), fun k e => ln k 3 (by omega) (h1.opb k e), h1.ol, fun i x2 y2 p q => ?_, .inl ⟨rfl, rfl, rfl, rfl⟩⟩, fun k => Iff.rfl⟩, ?_, hEF.mono (fun k _ q => (h2 k).2 (by rw [q, h1.lb]; decide)), fun k q => (h2 k).2 ?_, fun k q => ?_⟩
  · refine Nat.lt_of_lt_of_le (h1.ll k fun e => q ?_) hEF.size
    simp only [e]; rw [if_neg (by omega)]
  · exact Nat.lt_of_lt_of_le (q.elim (h1.rl k) (fun q => h1.ll k (by omega))) hEF.size
  · rcases q with q | q
    · have := h1.sep k q
      exact ln k 0 (by omega) this
    · simp only [q]; simp
  · exact (h1.kids.keep kR (kz 2 (by decide) (by decide))).mono (fun k q => .inl q) (fun k q => ln k 2 (by omega) q)
  · obtain ⟨q1, q2⟩ := h1.on i x2 y2 p q
    exact ⟨(q1.keep kR).mono (fun k q => .inl q), (q2.keep kR (kz _ (by omega) (by omega))).mono (fun k q => .inl q) (fun k z => ln k _ (by omega) z)⟩
  · rcases hp with ⟨-, -, ho, hob⟩ | ⟨-, -, hf⟩
    · exact (own_blk gcell_len (ho.kp (fun k e => kz 5 (by decide) (by decide) k (hob k e)))).mono (fun k e => .inr (hob k e))
    · exact (hf.keep kR).mono (fun k q => .inl q)
  · intro e
    apply q
    simp only [e]; rw [if_neg (by omega)]
  · exact q.imp id (fun q => (h2 k).2 (by omega))
theorem BM.none6 {m : Bool} {X R : Nat → Prop} {w : World} {b : Nat} {t : Bt} (h : BM m X R w b t) (hh : t.has = false) : w.cell? ⟨b, 6, none⟩ = some (.pointer none) ∧ flatB t := by
  obtain ⟨kv, ov, pa, LO, lab, h1, h2⟩ := h
  rcases h1.para with ⟨-, rfl, q1, q2⟩ | ⟨q, -⟩
  · exact ⟨h1.box.cell 6, q1, q2, hh⟩
  · rw [hh] at q; cases q
set_option maxRecDepth 100000 in
set_option maxHeartbeats 4000000 in
theorem bend_any {m : Bool} {X R : Nat → Prop} {w : World} {b : Nat} {t : Bt} (h : BM m X R w b t) (hb : btl t ≤ 90000) :
    Calls Tryd.prog 22 #[ptrB b] w (ClosP m X R b (bEnd t) w) := by
  cases hh : t.has with
  | false =>
    obtain ⟨c6, hf⟩ := h.none6 hh
    have HA : Hid (AfC m X R b (bEnd t) w w) := Lib.hid (by rw [end_of hf]; exact AfC.refl h)
    have hblt := h.lt b (.inl h.self)
    clear h hb hh hf
    go_enter Tryd.func22, Tryd.ntmps22
    go_wp2_with fail
    go_end0
    exact ⟨rfl, HA.out⟩
  | true =>
    obtain ⟨g, tv, c6, f6, hbl, hgl, hcel, hFL⟩ := h.flat hh
    have hsm := btl_small hb
    obtain ⟨W1, hW1⟩ : ∃ W, W = w.alloc (.cells (ncell (pnode t.line tv)).toArray 40) := ⟨_, rfl⟩
    have b1 : Below w.heap.size w W1 := by rw [hW1]; exact below_lit _ _
    have kx : Blk W1 w.heap.size 40 (ncell (pnode t.line tv)) := by rw [hW1]; exact heap_alloc_new w _
    obtain ⟨X2, R2, hB2, hT2, hE2, hX2, hR2⟩ := hFL W1 b1
    obtain ⟨F, hF⟩ : ∃ F, W1.setCell ⟨b, 6, none⟩ (.pointer none) = F := ⟨_, rfl⟩
    have kxF : Blk F w.heap.size 40 (ncell (pnode t.line tv)) := by
      rw [← hF]
      exact kx.other (by omega) 6 _
    rw [hF] at hB2 hT2 hE2
    have HTR := Lib.hid (trim_any t.text (pv tv) F hT2.1 (by omega))
    have HK := Lib.hid kxF
    have HINK : Hid (∀ w3, Below F.heap.size F w3 → ink t.text = [] → AfC m X R b (bEnd t) w w3) := Lib.hid (fun w3 hb3 e => by
      have e2 : bEnd t = bFlat t := by unfold bEnd; rw [if_pos e]
      rw [e2]
      exact ⟨X2, R2, hB2.keep (Kp.below hb3 (fun k q => hB2.lt k (.inl q))) (Kp.below hb3 (fun k q => hB2.lt k (.inr q))) hb3.size, hE2.trans (Exc.of (X := fun _ => False) hb3) (fun _ _ q => q.elim), fun k q => .inl (hX2 k q), fun k q => (hR2 k q).elim .inl (fun q => .inr (.inl q))⟩)
    have HPUT : Hid (∀ w3, Below F.heap.size F w3 → ink t.text ≠ [] → Calls Tryd.prog 47 #[ptrB b, .agg (ncell (pnode t.line tv)).toArray] w3 fun e w' => e = .returned (.tuple #[]) ∧ AfC m X R b (bEnd t) w w') := Lib.hid (fun w3 hb3 e => by
      have kR3 : Kp R2 F w3 := Kp.below hb3 (fun k q => hB2.lt k (.inr q))
      have hB3 := hB2.keep (Kp.below hb3 (fun k q => hB2.lt k (.inl q))) kR3 hb3.size
      have hH : HdIs R2 w3 (pnode t.line tv) (paraN t).hd := ⟨rfl, rfl, rfl, hT2.keep kR3, GrS.nil _ _, rfl, TrS.nil _ _, rfl, rfl⟩
      refine (bput_any hB3 (y := paraN t) hH (NsS.nil _ _) (by show t.kids.length ≤ _; omega) (fun y hy => by have := hsm.2.2.1 y hy; omega) (by show t.opn.length ≤ _; omega)).mono ?_
      rintro e' w' ⟨h1, h2⟩
      refine ⟨h1, ?_⟩
      have e2 : bEnd t = bLay (bFlat t) (paraN t) := by
        unfold bEnd
        rw [if_neg e]
        rcases opn_cases t.opn with q | ⟨l, y, q⟩
        · rw [lay_none _ q, lay_none _ (show (bFlat t).opn = [] from q)]; rfl
        · rw [lay_some _ q, lay_some _ (show (bFlat t).opn = l ++ [y] from q)]; rfl
      rw [e2]
      have hE3 : Exc X w w3 := hE2.trans (Exc.of (X := fun _ => False) hb3) (fun _ _ q => q.elim)
      exact AfC.step hE3 (fun k q => .inl (hX2 k q)) (fun k q => (hR2 k q).elim .inl (fun q => .inr (.inl q))) h2.c)
    have HTL : Hid ((trimL t.text).length = 0 ↔ ink t.text = []) := Lib.hid (by
      rw [trm_trimL, ← trm_nil_ink]
      exact List.length_eq_zero_iff)
    have HTN : Hid ((trimL t.text).length ≤ 200000) := Lib.hid (by
      rw [trimL_len]
      have := trimN_le t.text
      omega)
    obtain ⟨t1, t2, t3⟩ := tv
    obtain ⟨tx, htx⟩ : ∃ tx, t.text = tx := ⟨_, rfl⟩
    obtain ⟨tl, htl⟩ : ∃ tl, t.line = tl := ⟨_, rfl⟩
    rw [htx] at HTR HINK HPUT HTL HTN
    rw [htl] at HK HPUT hW1 hcel
    simp only [ncell, pnode, pv, nilP] at HTR HK HPUT hW1 hcel
    have x0 := hcel 0 _ rfl
    have x1 := hcel 1 _ rfl
    have x2 := hcel 2 _ rfl
    have x3 := hcel 3 _ rfl
    have x4 := hcel 4 _ rfl
    have x5 := hcel 5 _ rfl
    have x6 := hcel 6 _ rfl
    have x7 := hcel 7 _ rfl
    have x8 := hcel 8 _ rfl
    have x9 := hcel 9 _ rfl
    have d6 : W1.cell? ⟨b, 6, none⟩ = some (.pointer (some ⟨g, 0, none⟩)) := (b1.cell (p := ⟨b, 6, none⟩) hbl).trans c6
    have e6 : W1.frozen? ⟨b, 6, none⟩ = false := (b1.frozen (p := ⟨b, 6, none⟩) hbl).trans f6
    have HW1 := Lib.hid hW1
    have HFF := Lib.hid hF
    clear h hb hh hFL hcel hW1 b1 kx hB2 hT2 hE2 hX2 hR2 kxF hF hsm htx htl hgl
    go_enter Tryd.func22, Tryd.ntmps22
    go_upto_region 2 with fail
    rw [← HW1.out]
    clear x0 x1 x2 x3 x4 x5 x6 x7 x8 x9 c6 f6
    go_upto_region 3 with fail
    rw [HFF.out]
    have y0 := HK.out.cell 0
    have y1 := HK.out.cell 1
    have y2 := HK.out.cell 2
    have y3 := HK.out.cell 3
    have y4 := HK.out.cell 4
    have y5 := HK.out.cell 5
    have y6 := HK.out.cell 6
    have y7 := HK.out.cell 7
    have y8 := HK.out.cell 8
    have y9 := HK.out.cell 9
    simp only [List.getElem?_cons_zero, List.getElem?_cons_succ] at y0 y1 y2 y3 y4 y5 y6 y7 y8 y9
    clear d6 e6 HW1 HFF
    go_wp2_with fail
    refine HTR.out.mono ?_
    rintro e w3 ⟨u, rfl, ho, hb3⟩
    obtain ⟨ua, uc, rfl⟩ := (FOwn.sl gcell_len ho).len
    have z0 := below_eq hb3 y0
    have z1 := below_eq hb3 y1
    have z2 := below_eq hb3 y2
    have z3 := below_eq hb3 y3
    have z4 := below_eq hb3 y4
    have z5 := below_eq hb3 y5
    have z6 := below_eq hb3 y6
    have z7 := below_eq hb3 y7
    have z8 := below_eq hb3 y8
    have z9 := below_eq hb3 y9
    have HB3 := Lib.hid hb3
    have hTN := HTN.out
    obtain ⟨n, hn⟩ : ∃ n, (trimL tx).length = n := ⟨_, rfl⟩
    rw [hn] at HTL hTN ⊢
    clear ho hb3 hn HTN HTR HK y0 y1 y2 y3 y4 y5 y6 y7 y8 y9
    by_cases hn0 : n = 0
    · have HQ := Lib.hid (HINK.out w3 HB3.out (HTL.out.1 hn0))
      subst hn0
      clear HINK HPUT
      go_wp2_with fail
      go_end0
      exact ⟨rfl, HQ.out⟩
    · have HQ := Lib.hid (HPUT.out w3 HB3.out (fun e => hn0 (HTL.out.2 e)))
      have hp : (0 : Int) < (n : Int) := by omega
      clear HINK HPUT
      go_wp2_with fail
      refine HQ.out.mono ?_
      rintro e w4 ⟨rfl, hA⟩
      have HA := Lib.hid hA
      clear hA HQ
      go_wp2_with fail
      go_end0
      exact ⟨rfl, HA.out⟩
end Go.Proofs.YtpccjgoeoeehoaaDoor
namespace Go.Proofs.YtpccjgoeoeehoaaDoor
open Go.RowKit
def kds (t : Bt) : List Int := t.opn.map (·.hd.kind)
theorem kds_len (t : Bt) : (kds t).length = t.opn.length := by simp [kds]
theorem kds_at {t : Bt} {i : Nat} {y : Nd} (h : t.opn[i]? = some y) : (kds t)[i]? = some y.hd.kind := by simp [kds, h]
theorem kds_pop (t : Bt) : kds (bPop t) = (kds t).dropLast := by
  unfold kds
  rcases opn_cases t.opn with h | ⟨l, x, h⟩
  · rw [pop_none h, h]; rfl
  · rw [pop_some h, h]
    rcases opn_cases l with h2 | ⟨r, y, h2⟩
    · rw [lay_none x (by exact h2)]
      simp [h2]
    · rw [lay_some x (show ({ t with opn := l } : Bt).opn = r ++ [y] from h2), h2]
      simp [ownKid, Nd.hd]
theorem kds_last {t : Bt} {n : Nat} (h : t.opn.length = n + 1) : ∃ y, t.opn.getLast? = some y ∧ (kds t)[n]? = some y.hd.kind := by
  rcases opn_cases t.opn with e | ⟨l, y, e⟩
  · rw [e] at h; simp at h
  · have hl : l.length = n := by rw [e] at h; simpa using h
    refine ⟨y, by rw [e]; simp, ?_⟩
    apply kds_at
    rw [e, ← hl]
    simp
theorem kds_drop {t : Bt} {n i : Nat} (h : t.opn.length = n + 1) (hi : i < n) : (kds (bPop t))[i]? = (kds t)[i]? := by
  rw [kds_pop, List.getElem?_dropLast, if_pos (by rw [kds_len]; omega)]
theorem popTo_popN (k : Int) : ∀ (n : Nat) (t : Bt) (p : Nat), t.opn.length = n → (kds t)[p]? = some k → (∀ (q : Nat) z, p < q → (kds t)[q]? = some z → z ≠ k) → popTo k n t = popN (n - p) t
  | 0, t, p, h, hp, _ => by
    have := (List.getElem?_eq_some_iff.1 hp).1
    rw [kds_len] at this
    omega
  | n + 1, t, p, h, hp, hq => by
    obtain ⟨y, hy, hk⟩ := kds_last h
    have hlt := (List.getElem?_eq_some_iff.1 hp).1
    rw [kds_len] at hlt
    unfold popTo
    rw [hy]
    simp only
    by_cases e : p = n
    · subst e
      rw [hk] at hp
      rw [if_pos (Option.some.inj hp), show p + 1 - p = 1 by omega]
      rfl
    · have hne : ¬ y.hd.kind = k := hq n _ (by omega) hk
      rw [if_neg hne, popTo_popN k n (bPop t) p (by rw [pop_len, h]; rfl) (by rw [kds_drop h (by omega)]; exact hp) (fun q z h1 h2 => by
        by_cases hqn : q < n
        · rw [kds_drop h hqn] at h2
          exact hq q z h1 h2
        · have := (List.getElem?_eq_some_iff.1 h2).1
          rw [kds_len, pop_len, h] at this
          omega), show n + 1 - p = (n - p) + 1 by omega]
      rfl
theorem popAll_popN (K : List Int) : ∀ (n : Nat) (t : Bt) (d : Nat), t.opn.length = n → d ≤ n → (∀ (q : Nat) z, d ≤ q → (kds t)[q]? = some z → z ∈ K) → (∀ z, 0 < d → (kds t)[d - 1]? = some z → z ∉ K) → popAll K n t = popN (n - d) t
  | 0, t, d, h, hd, _, _ => by
    obtain rfl : d = 0 := by omega
    rfl
  | n + 1, t, d, h, hd, h1, h2 => by
    obtain ⟨y, hy, hk⟩ := kds_last h
    unfold popAll
    rw [hy]
    simp only
    by_cases e : d = n + 1
    · subst e
      rw [if_neg (h2 _ (by omega) hk), Nat.sub_self]
      rfl
    · rw [if_pos (h1 n _ (by omega) hk), popAll_popN K n (bPop t) d (by rw [pop_len, h]; rfl) (by omega) (fun q z hq hz => by
        by_cases hqn : q < n
        · rw [kds_drop h hqn] at hz
          exact h1 q z hq hz
        · have := (List.getElem?_eq_some_iff.1 hz).1
          rw [kds_len, pop_len, h] at this
          omega) (fun z h0 hz => h2 z h0 (by rw [kds_drop h (by omega)] at hz; exact hz)), show n + 1 - d = (n - d) + 1 by omega]
      rfl
def ClsP (m : Bool) (X R : Nat → Prop) (b : Nat) (t' : Bt) (r : Bool) (w : World) (e : Ending) (w' : World) : Prop := e = .returned (.bool r) ∧ AfC m X R b t' w w'
set_option maxRecDepth 100000 in
set_option maxHeartbeats 2000000 in
theorem bclose_any {m : Bool} {X R : Nat → Prop} {w : World} {b : Nat} {t : Bt} (h : BM m X R w b t) (k : Int) (hb : btl t ≤ 80000) :
    Calls Tryd.prog 27 #[ptrB b, .int .i64 k] w (ClsP m X R b (bClose t k).1 (bClose t k).2 w) := by
  have HE := Lib.hid (bend_any h (by omega))
  have hbe := btl_end t
  have HBE : Hid (btl (bEnd t) ≤ 90000) := Lib.hid (by omega)
  clear h hb hbe
  go_enter Tryd.func27, Tryd.ntmps27
  go_wp2_with fail
  refine HE.out.mono ?_
  rintro e w1 ⟨rfl, X1, R1, hB, hE, hX, hR⟩
  obtain ⟨te, hte⟩ : ∃ te, bEnd t = te := ⟨_, rfl⟩
  have HTE := Lib.hid hte
  rw [hte] at hB HBE
  have hsm := btl_small HBE.out
  have HF := Lib.hid (bfind_any hB k (by omega))
  have HA1 : Hid (AfC m X R b te w w1) := Lib.hid ⟨X1, R1, hB, hE, hX, hR⟩
  have HCL : Hid (∀ d : Nat, d ≤ 200000 → Calls Tryd.prog 43 #[ptrB b, .int .i64 (d : Int)] w1 fun e w' => e = .returned (.tuple #[]) ∧ AfC m X R b (popN (te.opn.length - d) te) w w') := Lib.hid (fun d hd => by
    refine (bcloseTo_any hB d (by have := HBE.out; omega) hd).mono ?_
    rintro e w' ⟨h1, h2⟩
    exact ⟨h1, AfC.step hE hX hR h2⟩)
  have HOL : Hid (te.opn.length ≤ 90000) := Lib.hid hsm.2.1
  clear HE hB hE hX hR hsm hte
  go_wp2_with fail
  refine HF.out.mono ?_
  rintro e w2 ⟨r, rfl, hr, rfl⟩
  rcases hr with ⟨rfl, hn⟩ | ⟨p, y, rfl, hy, hk, hq⟩
  · have hi : bIn te k = false := by
      unfold bIn
      rw [List.any_eq_false]
      intro y hy
      simpa using hn y hy
    have HC : Hid (bClose t k = (te, false)) := Lib.hid (by
      unfold bClose
      rw [HTE.out, if_neg (by rw [hi]; decide)])
    clear hn hi HF
    go_wp2_with fail
    go_ret
    refine ⟨?_, ?_⟩
    · rw [HC.out]; rfl
    · rw [HC.out]; exact HA1.out
  · have hpl := (List.getElem?_eq_some_iff.1 hy).1
    have hi : bIn te k = true := by
      unfold bIn
      rw [List.any_eq_true]
      exact ⟨y, List.mem_of_getElem? hy, by simpa using hk⟩
    have HC : Hid (bClose t k = (popN (te.opn.length - p) te, true)) := Lib.hid (by
      unfold bClose
      rw [HTE.out, if_pos hi]
      rw [popTo_popN k _ te p rfl (by rw [kds_at hy, hk]) (fun q z h1 h2 => by
        unfold kds at h2
        rw [List.getElem?_map] at h2
        cases hz : te.opn[q]? with
        | none => rw [hz] at h2; cases h2
        | some z' =>
          rw [hz] at h2
          obtain rfl := Option.some.inj h2
          exact hq q z' h1 hz)])
    have HCC := Lib.hid (HCL.out p (by have := HOL.out; omega))
    have hp0 : (0 : Int) ≤ (p : Int) := by omega
    have hp1 : ¬ (p : Int) < 0 := by omega
    clear hy hk hq hpl hi HF HCL
    go_wp2_with fail
    refine HCC.out.mono ?_
    rintro e w3 ⟨rfl, hA⟩
    have HA := Lib.hid hA
    clear hA HCC
    go_wp2_with fail
    go_ret
    refine ⟨?_, ?_⟩
    · rw [HC.out]; rfl
    · rw [HC.out]; exact HA.out
def IdxQ (r k : Int) (l : List Int) : Prop := decide (r ≥ 0) = decide (k ∈ l)
set_option maxRecDepth 100000 in
set_option maxHeartbeats 1000000 in
theorem bindex_any (k : Int) (l : List Int) (v : Value) (w : World) (hv : Fs 1 icell w v l) (hl : l.length ≤ 1000000) :
    Calls Tryd.prog 75 #[v, .int .i64 k] w fun e w' => ∃ r, e = .returned (.int .i64 r) ∧ IdxQ r k l ∧ w = w' := by
  have HV := Lib.hid hv
  obtain ⟨aa, ca, rfl⟩ := hv.len
  clear hv
  go_enter Tryd.func75, Tryd.ntmps75
  go_wp2_with fail
  go_loopw [5, 8] (fun _ i wr => ∃ j : Nat, j ≤ l.length ∧ i = .int .i64 j ∧ Hid (k ∉ l.take j) ∧ Hid (w = wr)) (fun _ i _ => l.length - (intOf i).toNat)
  case atStart => exact ⟨0, by omega, rfl, Lib.hid (by simp), Lib.hid rfl⟩
  case round =>
    obtain ⟨j, hj, rfl, HN, HW⟩ := hrel
    by_cases hlt : j < l.length
    · obtain ⟨x, hx⟩ : ∃ x, l[j]? = some x := ⟨l[j], List.getElem?_eq_getElem hlt⟩
      obtain ⟨a0, c0, hv0, -, hr⟩ := HV.out
      injection hv0 with e1 e2 e3
      subst e1
      obtain ⟨g, off, rfl, hc⟩ := hr j x hx
      have c0 := hc 0 _ rfl
      rw [Nat.mul_one, Nat.add_zero, HW.out] at c0
      have hi0 : (j : Int) < (l.length : Int) := by omega
      have hi1 : (0 : Int) ≤ (j : Int) := by omega
      by_cases hk : x = k
      · have HT : Hid (IdxQ (j : Int) k l) := Lib.hid (by
          unfold IdxQ
          have h1 : k ∈ l := List.mem_iff_getElem?.2 ⟨j, hk ▸ hx⟩
          simp [h1])
        have hq : (k == x) = true := by simpa using hk.symm
        subst hk
        clear hx hr hc HV
        go_wp2_with fail
        go_ret
        exact ⟨_, rfl, HT.out, HW.out⟩
      · have HT : Hid (k ∉ l.take (j + 1)) := Lib.hid (by
          rw [List.take_add_one, hx]
          simp only [Option.toList_some, List.mem_append, List.mem_singleton, not_or]
          exact ⟨HN.out, fun e => hk e.symm⟩)
        have hq : (k == x) = false := by
          have : ¬ k = x := fun e => hk e.symm
          simpa using this
        clear hx hr hc
        go_wp2_with fail
        go_roundw
        case rel => exact ⟨j + 1, by omega, by go_num, HT, HW⟩
        case measure => (simp [intOf]; try omega)
    · obtain rfl : j = l.length := by omega
      have hlt' : ¬ (l.length : Int) < (l.length : Int) := by omega
      rw [List.take_length] at HN
      have HT : Hid (IdxQ (-1) k l) := Lib.hid (by unfold IdxQ; simp [HN.out])
      go_wp2_with fail
      go_ret
      exact ⟨_, rfl, HT.out, HW.out⟩
set_option maxRecDepth 100000 in
set_option maxHeartbeats 1000000 in
theorem bcontains_any (k : Int) (l : List Int) (v : Value) (w : World) (hv : Fs 1 icell w v l) (hl : l.length ≤ 1000000) :
    Calls Tryd.prog 53 #[v, .int .i64 k] w fun e w' => e = .returned (.bool (decide (k ∈ l))) ∧ w = w' := by
  have HI := Lib.hid (bindex_any k l v w hv hl)
  obtain ⟨aa, ca, rfl⟩ := hv.len
  clear hv
  go_enter Tryd.func53, Tryd.ntmps53
  go_wp2_with fail
  refine HI.out.mono ?_
  rintro e w1 ⟨r, rfl, hr, rfl⟩
  have HR : Hid (decide (r ≥ 0) = decide (k ∈ l)) := Lib.hid hr
  clear hr HI
  go_wp2_with fail
  go_ret
  exact ⟨ret_bool HR.out, rfl⟩
set_option maxRecDepth 100000 in
set_option maxHeartbeats 4000000 in
theorem bshut_any {m : Bool} {X R : Nat → Prop} {w : World} {b : Nat} {t : Bt} (h : BM m X R w b t) (K : List Int) (v : Value) {S : Nat → Prop} (hv : FsS S 1 icell w v K) (hS : ∀ k, S k → k < w.heap.size ∧ ¬ X k) (hK : K.length ≤ 1000000) (hb : btl t ≤ 80000) :
    Calls Tryd.prog 23 #[ptrB b, v] w (ClosP m X R b (bShut t K) w) := by
  have HE := Lib.hid (bend_any h (by omega))
  have hbe := btl_end t
  have HBE : Hid (btl (bEnd t) ≤ 90000) := Lib.hid (by omega)
  have HV := Lib.hid hv
  have HS := Lib.hid hS
  obtain ⟨va, vc, rfl⟩ := hv.1.len
  clear h hb hbe hv hS
  go_enter Tryd.func23, Tryd.ntmps23
  go_wp2_with fail
  go_step3
  go_wp2_with fail
  refine HE.out.mono ?_
  rintro e w1 ⟨rfl, X1, R1, hB, hE, hX, hR⟩
  obtain ⟨te, hte⟩ : ∃ te, bEnd t = te := ⟨_, rfl⟩
  have HTE := Lib.hid hte
  rw [hte] at hB HBE
  have hsm := btl_small HBE.out
  have HD := Lib.hid (bdepth_any hB)
  have HCON : Hid (∀ k, Calls Tryd.prog 53 #[.slice va K.length vc, .int .i64 k] w1 fun e w' => e = .returned (.bool (decide (k ∈ K))) ∧ w1 = w') := Lib.hid (fun k => bcontains_any k K _ w1 (HV.out.keep (fun k q => hE.block k (HS.out k q).1 (HS.out k q).2)).1 hK)
  have HCL : Hid (∀ d : Nat, d ≤ 200000 → Calls Tryd.prog 43 #[ptrB b, .int .i64 (d : Int)] w1 fun e w' => e = .returned (.tuple #[]) ∧ AfC m X R b (popN (te.opn.length - d) te) w w') := Lib.hid (fun d hd => by
    refine (bcloseTo_any hB d (by have := HBE.out; omega) hd).mono ?_
    rintro e w' ⟨h1, h2⟩
    exact ⟨h1, AfC.step hE hX hR h2⟩)
  have HAT : Hid (∃ oa oc, w1.cell? ⟨b, 5, none⟩ = some (.slice oa te.opn.length oc) ∧ ∀ (i : Nat) z, (kds te)[i]? = some z → ∃ g, oa = some ⟨g, 0, none⟩ ∧ w1.cell? ⟨g, i * 10, none⟩ = some (.int .i64 z)) := by
    obtain ⟨kv, ov, pa, LO, lab, h1, h2⟩ := hB
    obtain ⟨oa, oc, eo, -⟩ := h1.olen
    refine Lib.hid ⟨oa, oc, by rw [h1.box.cell 5, ← eo]; rfl, fun i z hz => ?_⟩
    unfold kds at hz
    rw [List.getElem?_map] at hz
    cases hy : te.opn[i]? with
    | none => rw [hy] at hz; cases hz
    | some y =>
      rw [hy] at hz
      obtain rfl := Option.some.inj hz
      obtain ⟨g, c, x, e, -, -, -, hc, hH, -⟩ := h1.at hy
      rw [eo] at e
      injection e with e1
      refine ⟨g, e1, ?_⟩
      have := (hc 0 _ rfl).1
      rw [hH.kind] at this
      exact this
  have HOL : Hid (te.opn.length ≤ 90000) := Lib.hid hsm.2.1
  have HKL := Lib.hid (kds_len te)
  obtain ⟨N, hN⟩ : ∃ N, te.opn.length = N := ⟨_, rfl⟩
  rw [hN] at HD HAT HOL HKL
  have HN := Lib.hid hN
  clear HE hB hE hX hR hsm hte hN HV HS
  go_wp2_with fail
  refine HD.out.mono ?_
  rintro e w2 ⟨rfl, rfl⟩
  obtain ⟨oa, oc, o5, hat⟩ := HAT.out
  have HAT2 := Lib.hid hat
  clear HD HAT hat
  go_wp2_with fail
  go_step3
  go_wp2_with fail
  go_loopw [4, 5, 21] (fun s _ _ wr => ∃ n : Nat, n ≤ N ∧ s = .int .i64 (n : Int) ∧ Hid (∀ (q : Nat) z, n ≤ q → (kds te)[q]? = some z → z ∈ K) ∧ w1 = wr) (fun s _ _ _ => (intOf s).toNat)
  case atStart => exact ⟨N, Nat.le_refl _, rfl, Lib.hid (fun q z hq hz => by
    have := (List.getElem?_eq_some_iff.1 hz).1
    have := HKL.out
    omega), rfl⟩
  case round =>
    obtain ⟨n, hn, rfl, HALL, rfl⟩ := hrel
    by_cases hlt : 0 < n
    · obtain ⟨p, rfl⟩ : ∃ p, n = p + 1 := ⟨n - 1, by omega⟩
      obtain ⟨z, hz⟩ : ∃ z, (kds te)[p]? = some z := ⟨(kds te)[p]'(by have := HKL.out; omega), List.getElem?_eq_getElem _⟩
      obtain ⟨g, rfl, c0⟩ := HAT2.out p z hz
      have HC := Lib.hid (HCON.out z)
      have hp9 : (p : Int) ≤ 90000 := by have := HOL.out; omega
      have HZ := Lib.hid hz
      have hi0 : (p : Int) < (N : Int) := by omega
      have hi1 : (0 : Int) ≤ (p : Int) := by omega
      obtain ⟨d, hd⟩ : ∃ d, decide (z ∈ K) = d := ⟨_, rfl⟩
      rw [hd] at HC
      have HD := Lib.hid hd
      clear hz hd
      go_wp2_with fail
      refine HC.out.mono ?_
      rintro e w3 ⟨rfl, rfl⟩
      clear HC
      cases d with
      | true =>
        have HALL2 : Hid (∀ (q : Nat) z, p ≤ q → (kds te)[q]? = some z → z ∈ K) := Lib.hid (fun q z' hq hz' => by
          by_cases e : q = p
          · subst e
            rw [HZ.out] at hz'
            obtain rfl := Option.some.inj hz'
            exact of_decide_eq_true HD.out
          · exact HALL.out q z' (by omega) hz')
        go_wp2_with fail
        go_roundw
        case rel => exact ⟨p, by omega, by go_num, HALL2, by first | trivial | rfl⟩
        case measure => (simp [intOf]; try omega)
      | false =>
        have HSH : Hid (bShut t K = popN (N - (p + 1)) te) := Lib.hid (by
          unfold bShut
          rw [HTE.out, popAll_popN K _ te (p + 1) rfl (by rw [HN.out]; omega) HALL.out (fun z' _ hz' => by
            rw [show p + 1 - 1 = p by omega, HZ.out] at hz'
            obtain rfl := Option.some.inj hz'
            exact of_decide_eq_false HD.out), HN.out])
        have HCC := Lib.hid (HCL.out (p + 1) (by have := HOL.out; omega))
        rw [HN.out] at HCC
        have e1 : ((p + 1 : Nat) : Int) = (p : Int) + 1 := by omega
        rw [e1] at HCC
        clear e1
        go_wp2_with fail
        refine HCC.out.mono ?_
        rintro e w4 ⟨rfl, hA⟩
        have HA := Lib.hid hA
        clear hA HCC
        go_wp2_with fail
        go_end0
        exact ⟨rfl, HSH.out ▸ HA.out⟩
    · obtain rfl : n = 0 := by omega
      have HSH : Hid (bShut t K = popN (N - 0) te) := Lib.hid (by
        unfold bShut
        rw [HTE.out, popAll_popN K _ te 0 rfl (by omega) HALL.out (fun z' h0 _ => by omega), HN.out])
      have HCC := Lib.hid (HCL.out 0 (by omega))
      rw [HN.out] at HCC
      simp only [Int.natCast_zero, Int.cast_ofNat_Int] at HCC
      go_wp2_with fail
      refine HCC.out.mono ?_
      rintro e w4 ⟨rfl, hA⟩
      have HA := Lib.hid hA
      clear hA HCC
      go_wp2_with fail
      go_end0
      exact ⟨rfl, HSH.out ▸ HA.out⟩
end Go.Proofs.YtpccjgoeoeehoaaDoor
namespace Go.Proofs.YtpccjgoeoeehoaaDoor
open Go.RowKit
abbrev Md (base : Nat) (W : World) (v : Value) : Nat → Prop := fun k => base ≤ k ∧ k < W.heap.size ∧ v.ownBlock ≠ some k
structure TI (SI : Nat → Prop) (base : Nat) (W : World) (v : Value) (l : List Trow) (j : Nat) : Prop where
  lt : ∀ b, SI b → b < base
  sz : base ≤ W.heap.size
  own : ∃ L : List (Bool × PV), FOwn 83 2 trcell base W v L ∧ L.length = l.length ∧
    (∀ (i : Nat) s r, i < j → L[i]? = some s → l[i]? = some r → s.1 = r.1 ∧ GrS (Md base W v) W (pv s.2) r.2) ∧ (∀ (i : Nat) s r, j ≤ i → L[i]? = some s → l[i]? = some r → s.1 = r.1 ∧ GrS SI W (pv s.2) r.2)
structure KI (SI : Nat → Prop) (base : Nat) (W : World) (v : Value) (l : List Nd) (j : Nat) : Prop where
  lt : ∀ b, SI b → b < base
  sz : base ≤ W.heap.size
  own : ∃ L : List NV, FOwn 40 10 ncell base W v L ∧ L.length = l.length ∧
    (∀ (i : Nat) x y, i < j → L[i]? = some x → l[i]? = some y → HdIs (Md base W v) W x y.hd ∧ NsS (Md base W v) W (pv x.kids) y.kids) ∧ (∀ (i : Nat) x y, j ≤ i → L[i]? = some x → l[i]? = some y → HdIs SI W x y.hd ∧ NsS SI W (pv x.kids) y.kids)
section
variable {SI : Nat → Prop} {base : Nat} {W W' : World} {v : Value} {j : Nat}
theorem Md.up (hb : W.heap.size ≤ W'.heap.size) : ∀ k, Md base W v k → Md base W' v k := fun k q => ⟨q.1, Nat.lt_of_lt_of_le q.2.1 hb, q.2.2⟩
theorem TI.keep {l : List Trow} (h : TI SI base W v l j) (hb : Below W.heap.size W W') : TI SI base W' v l j := by
  obtain ⟨L, h1, h2, h3, h4⟩ := h.own
  have kI : Kp SI W W' := Kp.below hb (fun b q => Nat.lt_of_lt_of_le (h.lt b q) h.sz)
  have kM : Kp (Md base W v) W W' := Kp.below hb (fun b q => q.2.1)
  exact ⟨h.lt, Nat.le_trans h.sz hb.size, L, h1.keep hb, h2, fun i s r a c d => ⟨(h3 i s r a c d).1, ((h3 i s r a c d).2.keep kM).mono (Md.up hb.size)⟩, fun i s r a c d => ⟨(h4 i s r a c d).1, (h4 i s r a c d).2.keep kI⟩⟩
theorem KI.keep {l : List Nd} (h : KI SI base W v l j) (hb : Below W.heap.size W W') : KI SI base W' v l j := by
  obtain ⟨L, h1, h2, h3, h4⟩ := h.own
  have kI : Kp SI W W' := Kp.below hb (fun b q => Nat.lt_of_lt_of_le (h.lt b q) h.sz)
  have kM : Kp (Md base W v) W W' := Kp.below hb (fun b q => q.2.1)
  exact ⟨h.lt, Nat.le_trans h.sz hb.size, L, h1.keep hb, h2, fun i s r a c d => ⟨((h3 i s r a c d).1.keep kM).mono (Md.up hb.size), ((h3 i s r a c d).2.keep kM).mono (Md.up hb.size)⟩, fun i s r a c d => ⟨(h4 i s r a c d).1.keep kI, (h4 i s r a c d).2.keep kI⟩⟩
theorem TI.set {l : List Trow} (h : TI SI base W v l j) {g o : Nat} {u : Value} (hg : g < base) (hS : ¬ SI g) : TI SI base (W.setCell ⟨g, o, none⟩ u) v l j := by
  obtain ⟨L, h1, h2, h3, h4⟩ := h.own
  have ne : ∀ k, k ≠ g → (W.setCell ⟨g, o, none⟩ u).heap[k]? = W.heap[k]? := fun k q => Below.heap_setCell W ⟨g, o, none⟩ u k q
  have kI : Kp SI W (W.setCell ⟨g, o, none⟩ u) := fun k q => ne k (fun e => hS (e ▸ q))
  have kM : Kp (Md base W v) W (W.setCell ⟨g, o, none⟩ u) := fun k q => ne k (fun e => by have := q.1; omega)
  have hz : (W.setCell ⟨g, o, none⟩ u).heap.size = W.heap.size := szset _ _ _
  exact ⟨h.lt, by rw [hz]; exact h.sz, L, h1.kp (fun k e => ne k (fun e2 => by have := (h1.ty e).1; omega)), h2, fun i s r a c d => ⟨(h3 i s r a c d).1, ((h3 i s r a c d).2.keep kM).mono (Md.up (Nat.le_of_eq hz.symm))⟩, fun i s r a c d => ⟨(h4 i s r a c d).1, (h4 i s r a c d).2.keep kI⟩⟩
theorem KI.set {l : List Nd} (h : KI SI base W v l j) {g o : Nat} {u : Value} (hg : g < base) (hS : ¬ SI g) : KI SI base (W.setCell ⟨g, o, none⟩ u) v l j := by
  obtain ⟨L, h1, h2, h3, h4⟩ := h.own
  have ne : ∀ k, k ≠ g → (W.setCell ⟨g, o, none⟩ u).heap[k]? = W.heap[k]? := fun k q => Below.heap_setCell W ⟨g, o, none⟩ u k q
  have kI : Kp SI W (W.setCell ⟨g, o, none⟩ u) := fun k q => ne k (fun e => hS (e ▸ q))
  have kM : Kp (Md base W v) W (W.setCell ⟨g, o, none⟩ u) := fun k q => ne k (fun e => by have := q.1; omega)
  have hz : (W.setCell ⟨g, o, none⟩ u).heap.size = W.heap.size := szset _ _ _
  exact ⟨h.lt, by rw [hz]; exact h.sz, L, h1.kp (fun k e => ne k (fun e2 => by have := (h1.ty e).1; omega)), h2, fun i s r a c d => ⟨((h3 i s r a c d).1.keep kM).mono (Md.up (Nat.le_of_eq hz.symm)), ((h3 i s r a c d).2.keep kM).mono (Md.up (Nat.le_of_eq hz.symm))⟩, fun i s r a c d => ⟨(h4 i s r a c d).1.keep kI, (h4 i s r a c d).2.keep kI⟩⟩
theorem TI.at {l : List Trow} {a : Option Addr} {n c : Nat} (h : TI SI base W (.slice a n c) l j) {r : Trow} (hr : l[j]? = some r) :
    ∃ g s, a = some ⟨g, 0, none⟩ ∧ base ≤ g ∧ g < W.heap.size ∧ W.cell? ⟨g, j * 2, none⟩ = some (.bool r.1) ∧ W.cell? ⟨g, j * 2 + 1, none⟩ = some (pv s) ∧ W.frozen? ⟨g, j * 2 + 1, none⟩ = false ∧ GrS SI W (pv s) r.2 := by
  obtain ⟨L, h1, h2, h3, h4⟩ := h.own
  have hj := (List.getElem?_eq_some_iff.1 hr).1
  obtain ⟨s, hs⟩ : ∃ s, L[j]? = some s := ⟨L[j]'(by omega), List.getElem?_eq_getElem _⟩
  obtain ⟨g, rfl, hg, cur, hc⟩ := h1.addr (by omega)
  obtain ⟨q1, q2⟩ := h1.slotA trcell_len hs (i := 0) (u := .bool s.1) rfl
  obtain ⟨q3, q4⟩ := h1.slotA trcell_len hs (i := 1) (u := pv s.2) rfl
  have h5 := h4 j s r (Nat.le_refl _) hs hr
  rw [h5.1] at q1
  exact ⟨g, s.2, rfl, hg, (Array.getElem?_eq_some_iff.1 hc).1, q1, q3, q4, h5.2⟩
theorem KI.at {l : List Nd} {a : Option Addr} {n c : Nat} (h : KI SI base W (.slice a n c) l j) {y : Nd} (hy : l[j]? = some y) :
    ∃ g x, a = some ⟨g, 0, none⟩ ∧ base ≤ g ∧ g < W.heap.size ∧ (∀ (i : Nat) u, (ncell x)[i]? = some u → W.cell? ⟨g, j * 10 + i, none⟩ = some u ∧ W.frozen? ⟨g, j * 10 + i, none⟩ = false) ∧ HdIs SI W x y.hd ∧ NsS SI W (pv x.kids) y.kids := by
  obtain ⟨L, h1, h2, h3, h4⟩ := h.own
  have hj := (List.getElem?_eq_some_iff.1 hy).1
  obtain ⟨x, hx⟩ : ∃ s, L[j]? = some s := ⟨L[j]'(by omega), List.getElem?_eq_getElem _⟩
  obtain ⟨g, rfl, hg, cur, hc⟩ := h1.addr (by omega)
  exact ⟨g, x, rfl, hg, (Array.getElem?_eq_some_iff.1 hc).1, fun i u hu => h1.slotA ncell_len hx hu, (h4 j x y (Nat.le_refl _) hx hy).1, (h4 j x y (Nat.le_refl _) hx hy).2⟩
theorem TI.step {l : List Trow} {g n c : Nat} (h : TI SI base W (.slice (some ⟨g, 0, none⟩) n c) l j) (hb : Below W.heap.size W W') {r : Trow} (hr : l[j]? = some r) {s : PV} (hs : GrS (fun k => W.heap.size ≤ k ∧ k < W'.heap.size) W' (pv s) r.2) :
    TI SI base (W'.setCell ⟨g, j * 2 + 1, none⟩ (pv s)) (.slice (some ⟨g, 0, none⟩) n c) l (j + 1) ∧ Exc (· = g) W (W'.setCell ⟨g, j * 2 + 1, none⟩ (pv s)) := by
  obtain ⟨L, h1, h2, h3, h4⟩ := h.own
  have hj := (List.getElem?_eq_some_iff.1 hr).1
  obtain ⟨s0, hs0⟩ : ∃ s, L[j]? = some s := ⟨L[j]'(by omega), List.getElem?_eq_getElem _⟩
  obtain ⟨g', e1, hg, cur, hcur⟩ := h1.addr (by omega)
  injection e1 with e1
  injection e1 with e1
  subst e1
  have hgl : g < W.heap.size := (Array.getElem?_eq_some_iff.1 hcur).1
  have ne : ∀ k, k ≠ g → (W'.setCell ⟨g, j * 2 + 1, none⟩ (pv s)).heap[k]? = W'.heap[k]? := fun k q => Below.heap_setCell W' ⟨g, _, none⟩ _ k q
  have kI : Kp SI W (W'.setCell ⟨g, j * 2 + 1, none⟩ (pv s)) := fun k q => (ne k (fun e => by have := h.lt k q; omega)).trans (hb.block k (Nat.lt_of_lt_of_le (h.lt k q) h.sz))
  have kM : Kp (Md base W (.slice (some ⟨g, 0, none⟩) n c)) W (W'.setCell ⟨g, j * 2 + 1, none⟩ (pv s)) := fun k q => (ne k (fun e => q.2.2 (by rw [e]; rfl))).trans (hb.block k q.2.1)
  have hz : (W'.setCell ⟨g, j * 2 + 1, none⟩ (pv s)).heap.size = W'.heap.size := szset _ _ _
  have up : ∀ k, Md base W (.slice (some ⟨g, 0, none⟩) n c) k → Md base (W'.setCell ⟨g, j * 2 + 1, none⟩ (pv s)) (.slice (some ⟨g, 0, none⟩) n c) k := Md.up (by rw [hz]; exact hb.size)
  have hh1 := (h1.keep hb).set1 trcell_len (s' := (s0.1, s)) hs0 (i := 1) (u := pv s) (by decide) rfl
  refine ⟨⟨h.lt, by rw [hz]; exact Nat.le_trans h.sz hb.size, L.set j (s0.1, s), hh1, by rw [List.length_set]; exact h2, fun i s' r' hi hs' hr' => ?_, fun i s' r' hi hs' hr' => ?_⟩, (Exc.of hb).set _ _ (fun _ => rfl)⟩
  · by_cases e : i = j
    · subst e
      rw [List.getElem?_set_self (by omega)] at hs'
      obtain rfl := Option.some.inj hs'
      rw [hr] at hr'
      obtain rfl := Option.some.inj hr'
      refine ⟨(h4 i s0 r (Nat.le_refl _) hs0 hr).1, (hs.keep (fun k q => ne k (by omega))).mono (fun k q => ⟨by have := h.sz; omega, by rw [hz]; exact q.2, fun e => by simp only [Value.ownBlock, Option.some.injEq] at e; omega⟩)⟩
    · rw [List.getElem?_set_ne (fun z => e z.symm)] at hs'
      exact ⟨(h3 i s' r' (by omega) hs' hr').1, ((h3 i s' r' (by omega) hs' hr').2.keep kM).mono up⟩
  · rw [List.getElem?_set_ne (by omega)] at hs'
    exact ⟨(h4 i s' r' (by omega) hs' hr').1, (h4 i s' r' (by omega) hs' hr').2.keep kI⟩
theorem KI.step {l : List Nd} {g n c : Nat} (h : KI SI base W (.slice (some ⟨g, 0, none⟩) n c) l j) (hb : Below W.heap.size W W') {y : Nd} (hy : l[j]? = some y) {x : NV} (hx : HdIs (fun k => W.heap.size ≤ k ∧ k < W'.heap.size) W' x y.hd) (hk : NsS (fun k => W.heap.size ≤ k ∧ k < W'.heap.size) W' (pv x.kids) y.kids) :
    KI SI base (W'.setCells g (j * 10) (ncell x)) (.slice (some ⟨g, 0, none⟩) n c) l (j + 1) ∧ Exc (· = g) W (W'.setCells g (j * 10) (ncell x)) := by
  obtain ⟨L, h1, h2, h3, h4⟩ := h.own
  have hj := (List.getElem?_eq_some_iff.1 hy).1
  obtain ⟨g', e1, hg, cur, hcur⟩ := h1.addr (by omega)
  injection e1 with e1
  injection e1 with e1
  subst e1
  have hgl : g < W.heap.size := (Array.getElem?_eq_some_iff.1 hcur).1
  have ne : ∀ k, k ≠ g → (W'.setCells g (j * 10) (ncell x)).heap[k]? = W'.heap[k]? := fun k q => heap_setC q _ _ _
  have kI : Kp SI W (W'.setCells g (j * 10) (ncell x)) := fun k q => (ne k (fun e => by have := h.lt k q; omega)).trans (hb.block k (Nat.lt_of_lt_of_le (h.lt k q) h.sz))
  have kM : Kp (Md base W (.slice (some ⟨g, 0, none⟩) n c)) W (W'.setCells g (j * 10) (ncell x)) := fun k q => (ne k (fun e => q.2.2 (by rw [e]; rfl))).trans (hb.block k q.2.1)
  have hz : (W'.setCells g (j * 10) (ncell x)).heap.size = W'.heap.size := sz_setC _ _ _
  have up : ∀ k, Md base W (.slice (some ⟨g, 0, none⟩) n c) k → Md base (W'.setCells g (j * 10) (ncell x)) (.slice (some ⟨g, 0, none⟩) n c) k := Md.up (by rw [hz]; exact hb.size)
  have hh1 := (h1.keep hb).putA ncell_len (j := j) (by omega) x
  have kN : Kp (fun k => W.heap.size ≤ k ∧ k < W'.heap.size) W' (W'.setCells g (j * 10) (ncell x)) := fun k q => ne k (by omega)
  have mN : ∀ k, (W.heap.size ≤ k ∧ k < W'.heap.size) → Md base (W'.setCells g (j * 10) (ncell x)) (.slice (some ⟨g, 0, none⟩) n c) k := fun k q => ⟨by have := h.sz; omega, by rw [hz]; exact q.2, fun e => by simp only [Value.ownBlock, Option.some.injEq] at e; omega⟩
  refine ⟨⟨h.lt, by rw [hz]; exact Nat.le_trans h.sz hb.size, L.set j x, hh1, by rw [List.length_set]; exact h2, fun i s' r' hi hs' hr' => ?_, fun i s' r' hi hs' hr' => ?_⟩, exc_setC (X := (· = g)) (a := W) (g := g) (fun _ => rfl) _ _ _ (Exc.of hb)⟩
  · by_cases e : i = j
    · subst e
      rw [List.getElem?_set_self (by omega)] at hs'
      obtain rfl := Option.some.inj hs'
      rw [hy] at hr'
      obtain rfl := Option.some.inj hr'
      exact ⟨(hx.keep kN).mono mN, (hk.keep kN).mono mN⟩
    · rw [List.getElem?_set_ne (fun z => e z.symm)] at hs'
      exact ⟨((h3 i s' r' (by omega) hs' hr').1.keep kM).mono up, ((h3 i s' r' (by omega) hs' hr').2.keep kM).mono up⟩
  · rw [List.getElem?_set_ne (by omega)] at hs'
    exact ⟨(h4 i s' r' (by omega) hs' hr').1.keep kI, (h4 i s' r' (by omega) hs' hr').2.keep kI⟩
theorem TI.done {l : List Trow} (h : TI SI base W v l l.length) : TrS (fun k => base ≤ k ∧ k < W.heap.size) W v l := by
  obtain ⟨L, h1, h2, h3, -⟩ := h.own
  refine ⟨L, h2, (own_blk trcell_len h1).mono (fun k e => ⟨(h1.ty e).1, h1.ltb e⟩), fun i s r a c => ?_⟩
  obtain ⟨q1, q2⟩ := h3 i s r (List.getElem?_eq_some_iff.1 c).1 a c
  exact ⟨q1, q2.mono (fun k q => ⟨q.1, q.2.1⟩)⟩
theorem KI.done {l : List Nd} (h : KI SI base W v l l.length) : NInv (fun _ => False) base W v l := by
  obtain ⟨L, h1, h2, h3, -⟩ := h.own
  exact ⟨fun _ q => q.elim, h.sz, L, Md base W v, h1, h2, fun k q => .inr q, fun i x y a c => h3 i x y (List.getElem?_eq_some_iff.1 c).1 a c⟩
end
structure CopyM (base : Nat) (w' : World) (x : NV) (y : Nd) : Prop where
  hd : HdIs (Md base w' (pv x.kids)) w' x y.hd
  kids : NInv (fun _ => False) base w' (pv x.kids) y.kids
theorem CopyM.all {base : Nat} {w' : World} {x : NV} {y : Nd} (h : CopyM base w' x y) : HdIs (fun k => base ≤ k ∧ k < w'.heap.size) w' x y.hd ∧ NsS (fun k => base ≤ k ∧ k < w'.heap.size) w' (pv x.kids) y.kids :=
  ⟨h.hd.mono (fun k q => ⟨q.1, q.2.1⟩), h.kids.nss.mono (fun k q => q.elim (fun q => q.elim) id)⟩
def CopyQ (y : Nd) (w : World) (e : Ending) (w' : World) : Prop := ∃ x : NV, e = .returned (.agg (ncell x).toArray) ∧ CopyM w.heap.size w' x y ∧ Below w.heap.size w w'
end Go.Proofs.YtpccjgoeoeehoaaDoor
