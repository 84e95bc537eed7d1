/- The program's own for documents: a table, mended. -/
import Derived.Test.YtaeplneiicobgaaDoorJ7
import Derived.BigRegion
import Derived.Deep.RegionWith
import Derived.Deep.RegionHeld3
import Derived.Deep.RegionLaw
import Derived.Deep.DeepCutAuto
import Derived.StillTailTactics
set_option linter.unusedVariables false
set_option linter.unusedSimpArgs false
namespace Go.Proofs.YtaeplneiicobgaaDoor
open Go.RowKit
attribute [local go_sem ↓ high] builtin_appW
/-- Mend's three tables, and the rows made so far. -/
structure PM (w : World) (cols C : List UInt8) (rv : Value) (gb ga al : Bool) (o : Nat) (W : World) (v : Value) (rows : List Trow) : Prop where
  bel : Below w.heap.size w W
  box : Blk W w.heap.size 36 [.string ⟨cols.toArray⟩, rv, .bool gb, .bool ga]
  res : Blk W (w.heap.size + 1) 36 [.string ⟨#[]⟩, .slice none 0 0, .bool false, .bool false]
  out : Blk W o 36 [.string ⟨C.toArray⟩, v, .bool gb, .bool al]
  rows : WInv w.heap.size W v rows
  lt : w.heap.size + 1 < o
section
variable {w W W' : World} {cols C : List UInt8} {rv v : Value} {gb ga al : Bool} {o : Nat} {rows : List Trow}
theorem PM.start {W0 : World} (h1 : Below w.heap.size w W0) (h2 : Blk W0 w.heap.size 36 [.string ⟨cols.toArray⟩, rv, .bool gb, .bool ga]) (h3 : Blk W0 (w.heap.size + 1) 36 [.string ⟨#[]⟩, .slice none 0 0, .bool false, .bool false]) :
    PM w cols C rv gb ga al W0.heap.size (W0.alloc (.cells #[.string ⟨C.toArray⟩, .slice none 0 0, .bool gb, .bool al] 36)) (.slice none 0 0) [] := by
  have b := below_lit W0 (.cells #[.string ⟨C.toArray⟩, .slice none 0 0, .bool gb, .bool al] 36)
  exact ⟨h1.trans (b.mono h1.size), h2.below b, h3.below b, heap_alloc_new W0 _, WInv.nil _ _, h3.lt⟩
theorem PM.keep (h : PM w cols C rv gb ga al o W v rows) (hb : Below W.heap.size W W') : PM w cols C rv gb ga al o W' v rows :=
  ⟨h.bel.trans (hb.mono h.bel.size), h.box.below hb, h.res.below hb, h.out.below hb, h.rows.keep hb, h.lt⟩
theorem PM.push (h : PM w cols C rv gb ga al o W v rows) (hl : rows.length ≤ 500000) (b : Bool) (s : PV) (r : List (List Gly))
    (hs : GrS (fun b => w.heap.size ≤ b ∧ ∃ cur e fz, W.heap[b]? = some (.cells cur e fz) ∧ (e = 46 ∨ e = 45)) W (pv s) r) :
    ∃ a' c' w', (appW #[v, .slice (some ⟨W.heap.size, 0, none⟩) 1 1]).run Tryd.prog (W.alloc (.cells #[.bool b, pv s] 49)) = .ok (.value (.slice a' (rows.length + 1) c')) w' ∧
      w'.frozen? ⟨o, 1, none⟩ = false ∧ w'.cell? ⟨o, 1, none⟩ = some v ∧ PM w cols C rv gb ga al o (w'.setCell ⟨o, 1, none⟩ (.slice a' (rows.length + 1) c')) (.slice a' (rows.length + 1) c') (rows ++ [(b, r)]) := by
  obtain ⟨a', c', w', hr, hi, hb, hsam⟩ := h.rows.push h.bel.size hl b s r hs
  have st := hsam 36 (by decide)
  have hlt := h.lt
  have hbox := h.box.sam (Nat.le_refl _) st
  have hres := h.res.sam (Nat.le_add_right _ _) st
  have hout := h.out.sam (by omega) st
  refine ⟨a', c', w', hr, hout.frozen (by simp), hout.cell 1, ?_⟩
  refine ⟨(h.bel.trans hb).setCell (show w.heap.size ≤ o by omega) _, hbox.other (by omega) _ _, hres.other (by omega) _ _, hout.set 1 _, ?_, hlt⟩
  exact hi.sam (SamT.set hout (by decide) _ _) (SamT.set hout (by decide) _ _) (SamT.set hout (by decide) _ _)
theorem PM.fin (h : PM w cols C rv gb ga al o W v rows) (x0 x1 x2 x3 : Value) :
    Blk ((((W.setCell ⟨w.heap.size + 1, 0, none⟩ x0).setCell ⟨w.heap.size + 1, 1, none⟩ x1).setCell ⟨w.heap.size + 1, 2, none⟩ x2).setCell ⟨w.heap.size + 1, 3, none⟩ x3) (w.heap.size + 1) 36 [x0, x1, x2, x3] ∧
    WInv w.heap.size ((((W.setCell ⟨w.heap.size + 1, 0, none⟩ x0).setCell ⟨w.heap.size + 1, 1, none⟩ x1).setCell ⟨w.heap.size + 1, 2, none⟩ x2).setCell ⟨w.heap.size + 1, 3, none⟩ x3) v rows ∧
    Below w.heap.size w ((((W.setCell ⟨w.heap.size + 1, 0, none⟩ x0).setCell ⟨w.heap.size + 1, 1, none⟩ x1).setCell ⟨w.heap.size + 1, 2, none⟩ x2).setCell ⟨w.heap.size + 1, 3, none⟩ x3) := by
  have r1 := h.res.set 0 x0
  have r2 := r1.set 1 x1
  have r3 := r2.set 2 x2
  have r4 := r3.set 3 x3
  have i1 := h.rows.sam (SamT.set h.res (by decide) 0 x0) (SamT.set h.res (by decide) 0 x0) (SamT.set h.res (by decide) 0 x0)
  have i2 := i1.sam (SamT.set r1 (by decide) 1 x1) (SamT.set r1 (by decide) 1 x1) (SamT.set r1 (by decide) 1 x1)
  have i3 := i2.sam (SamT.set r2 (by decide) 2 x2) (SamT.set r2 (by decide) 2 x2) (SamT.set r2 (by decide) 2 x2)
  have i4 := i3.sam (SamT.set r3 (by decide) 3 x3) (SamT.set r3 (by decide) 3 x3) (SamT.set r3 (by decide) 3 x3)
  exact ⟨r4, i4, (((h.bel.setCell (by simp) _).setCell (by simp) _).setCell (by simp) _).setCell (by simp) _⟩
end
theorem appW_raw {W W' : World} {args : Array Value} {v : Value} (h : (appW args).run Tryd.prog W = .ok (.value v) W') : (Builtin.append_ #[34, 34] 34 args).run Tryd.prog W = .ok v W' := by
  unfold appW at h
  rw [Sem.run_bind] at h
  cases k : (Builtin.append_ #[34, 34] 34 args).run Tryd.prog W with
  | ok u w1 =>
    rw [k, Result.andThen_ok, Sem.run_pure] at h
    injection h with h1 h2
    injection h1 with h1
    rw [h1, h2]
  | _ => rw [k] at h; cases h
def StP (w : World) (cols C : List UInt8) (rv : Value) (gb ga al : Bool) (c : Value) (W : World) : Prop := ∃ o, c = .pointer (some ⟨o, 0, none⟩) ∧ PM w cols C rv gb ga al o W (.slice none 0 0) []
def MendP (t : Tab) (w : World) (e : Ending) (w' : World) : Prop := ∃ s : PV, e = .returned (tabV t s) ∧ WInv w.heap.size w' (pv s) t.rows ∧ Below w.heap.size w w'
set_option maxRecDepth 100000 in
set_option maxHeartbeats 8000000 in
theorem pmend_any (S : Nat → Prop) (t : Tab) (r : PV) (w : World) (hU : U8 w) (hv : TrS S w (pv r) t.rows) (hb : t.cols.length ≤ 90000) (hl : trls t.rows ≤ 90000) (hS : ∀ x, S x → x < w.heap.size) :
    Calls Tryd.prog 30 #[tabV t r] w (MendP (mend t) w) := by
  obtain ⟨cols, rows, gb, ga⟩ := t
  obtain ⟨r1, r2, r3⟩ := r
  simp only at hv hb hl
  obtain ⟨ra, rc, er⟩ := hv.len
  have er' := pv_eq er
  injection er' with e1 e2
  injection e2 with e2 e3
  subst e1 e2 e3
  unfold mend
  simp only
  have hcl := mcols_ok cols
  obtain ⟨C, hC⟩ : ∃ C, mcols cols = C := ⟨_, rfl⟩
  obtain ⟨W1, hW1⟩ : ∃ W, W = (w.alloc (.cells ([.string ⟨cols.toArray⟩, .slice r1 rows.length r3, .bool gb, .bool ga] : List Value).toArray 36)).alloc (.cells ([.string ⟨#[]⟩, .slice none 0 0, .bool false, .bool false] : List Value).toArray 36) := ⟨_, rfl⟩
  have b2 := bel2 w (.cells ([.string ⟨cols.toArray⟩, .slice r1 rows.length r3, .bool gb, .bool ga] : List Value).toArray 36) (.cells ([.string ⟨#[]⟩, .slice none 0 0, .bool false, .bool false] : List Value).toArray 36)
  rw [← hW1] at b2
  have hX : Blk W1 w.heap.size 36 [.string ⟨cols.toArray⟩, .slice r1 rows.length r3, .bool gb, .bool ga] := by rw [hW1]; exact (heap_alloc_old _ _ (by simp)).trans (heap_alloc_new w _)
  have hR : Blk W1 (w.heap.size + 1) 36 [.string ⟨#[]⟩, .slice none 0 0, .bool false, .bool false] := by
    have := heap_alloc_new (w.alloc (.cells ([.string ⟨cols.toArray⟩, .slice r1 rows.length r3, .bool gb, .bool ga] : List Value).toArray 36)) (.cells ([.string ⟨#[]⟩, .slice none 0 0, .bool false, .bool false] : List Value).toArray 36)
    rw [World.size_alloc, ← hW1] at this
    exact this
  have HC : Hid (∀ W, Below W1.heap.size W1 W → Calls Tryd.prog 47 #[.string ⟨cols.toArray⟩] W fun e w' => e = .returned (.string ⟨C.toArray⟩) ∧ Below W.heap.size W w') := Lib.hid (fun W h => hC ▸ pcolumns_any cols W (hU.below (b2.trans (h.mono b2.size))) hb)
  have HX : Hid (∀ W, Below W1.heap.size W1 W → W.cell? ⟨w.heap.size, 0, none⟩ = some (.string ⟨cols.toArray⟩) ∧ W.cell? ⟨w.heap.size, 2, none⟩ = some (.bool gb) ∧ W.cell? ⟨w.heap.size, 3, none⟩ = some (.bool ga)) := Lib.hid (fun W h => ⟨(hX.below h).cell 0, (hX.below h).cell 2, (hX.below h).cell 3⟩)
  have HST : Hid (∀ W (al : Bool), Below W1.heap.size W1 W → PM w cols C (.slice r1 rows.length r3) gb ga al W.heap.size (W.alloc (.cells #[.string ⟨C.toArray⟩, .slice none 0 0, .bool gb, .bool al] 36)) (.slice none 0 0) []) := Lib.hid (fun W al h => PM.start (b2.trans (h.mono b2.size)) (hX.below h) (hR.below h))
  have HV := Lib.hid (fun W (h : Below w.heap.size w W) => hv.keep (Kp.below h hS))
  have HS := Lib.hid hS
  rw [hC] at hcl ⊢
  simp only [tabV, pv]
  have HAL : Hid ((ga && gb) = (gb && ga)) := Lib.hid (Bool.and_comm _ _)
  rw [HAL.out]
  have hz1 : W1.heap.size = w.heap.size + 1 + 1 := by rw [hW1, World.size_alloc, World.size_alloc]
  have b0 := Lib.hid (Below.refl W1.heap.size W1).drew
  obtain ⟨d0, d2, d3⟩ := HX.out _ b0.out
  have HST2 : Hid (∀ (o : Obj) (al : Bool) W, o = .cells #[.string ⟨#[]⟩, .slice none 0 0, .bool false, .bool false] 36 → Below (W1.alloc o).drew.heap.size (W1.alloc o).drew W →
      (Blk W W1.heap.size 36 [.string ⟨#[]⟩, .slice none 0 0, .bool false, .bool false]) ∧ Below W1.heap.size W1 W ∧
      PM w cols C (.slice r1 rows.length r3) gb ga al W1.heap.size ((((W.setCell ⟨W1.heap.size, 0, none⟩ (.string ⟨C.toArray⟩)).setCell ⟨W1.heap.size, 1, none⟩ (.slice none 0 0)).setCell ⟨W1.heap.size, 2, none⟩ (.bool gb)).setCell ⟨W1.heap.size, 3, none⟩ (.bool al)) (.slice none 0 0) []) := Lib.hid (fun o al W ho hb => by
    have k1 : Below W1.heap.size W1 W := (below_lit W1 o).drew.trans (hb.mono (by show _ ≤ (W1.alloc o).heap.size; rw [World.size_alloc]; exact Nat.le_succ _))
    have kB : Blk W W1.heap.size 36 [.string ⟨#[]⟩, .slice none 0 0, .bool false, .bool false] := Blk.below (by subst ho; exact heap_alloc_new W1 _) hb
    have x := hX.below k1
    have y := hR.below k1
    refine ⟨kB, k1, ?_⟩
    refine ⟨?_, ?_, ?_, (((kB.set 0 _).set 1 _).set 2 _).set 3 _, WInv.nil _ _, by omega⟩
    · exact ((((b2.trans (k1.mono b2.size)).setCell (show w.heap.size ≤ W1.heap.size by omega) _).setCell (show w.heap.size ≤ W1.heap.size by omega) _).setCell (show w.heap.size ≤ W1.heap.size by omega) _).setCell (show w.heap.size ≤ W1.heap.size by omega) _
    · exact (((x.other (by omega) _ _).other (by omega) _ _).other (by omega) _ _).other (by omega) _ _
    · exact (((y.other (by omega) _ _).other (by omega) _ _).other (by omega) _ _).other (by omega) _ _)
  have HW1 := Lib.hid hW1
  clear HAL hX hR b2 hv hS hU hC er hW1 hz1
  go_enter Tryd.func30, Tryd.ntmps30
  go_upto_region 1 with fail
  rw [← HW1.out]
  go_cut [3] (fun c wx => StP w cols C (.slice r1 rows.length r3) gb ga (gb && ga) c wx)
  case first =>
    clear HW1
    cases gb
    · go_wp2_with fail
      refine wp_region_held_drew (S := (fun W' => W'.cell? ⟨w.heap.size, 0, none⟩ = some (.string ⟨cols.toArray⟩) ∧ W'.cell? ⟨w.heap.size, 2, none⟩ = some (.bool false))) (by kernel_rfl) ?_ (fun hHeld => ?_)
      · exact ⟨d0, d2⟩
      refine wpAnyH_take (i := 0) (v := .pointer (some ⟨w.heap.size, 0, none⟩)) rfl (by kernel_rfl) (by kernel_rfl) (by kernel_rfl) (fun _ _ _ h => h) (Or.inl ⟨by rfl, fun w' hSw => by (try dsimp only at hSw); go_simp⟩) (by assumption) ?_
      simp only [List.getElem_toArray, List.getElem_cons_succ, List.getElem_cons_zero, Act.put, List.setIfInBounds_toArray, List.set_cons_zero, List.set_cons_succ]
      refine wpAnyH_take (i := 1) (v := .string ⟨cols.toArray⟩) rfl (by kernel_rfl) (by kernel_rfl) (by kernel_rfl) (fun _ _ _ h => h) (Or.inl ⟨by rfl, fun w' hSw => by (try dsimp only at hSw); go_simp⟩) (by assumption) ?_
      simp only [List.getElem_toArray, List.getElem_cons_succ, List.getElem_cons_zero, Act.put, List.setIfInBounds_toArray, List.set_cons_zero, List.set_cons_succ]
      refine wpAnyH_take (i := 3) (v := .pointer (some ⟨w.heap.size, 2, none⟩)) rfl (by kernel_rfl) (by kernel_rfl) (by kernel_rfl) (fun _ _ _ h => h) (Or.inl ⟨by rfl, fun w' hSw => by (try dsimp only at hSw); go_simp⟩) (by assumption) ?_
      simp only [List.getElem_toArray, List.getElem_cons_succ, List.getElem_cons_zero, Act.put, List.setIfInBounds_toArray, List.set_cons_zero, List.set_cons_succ]
      refine wpAnyH_take (i := 4) (v := .bool false) rfl (by kernel_rfl) (by kernel_rfl) (by kernel_rfl) (fun _ _ _ h => h) (Or.inl ⟨by rfl, fun w' hSw => by (try dsimp only at hSw); go_simp⟩) (by assumption) ?_
      simp only [List.getElem_toArray, List.getElem_cons_succ, List.getElem_cons_zero, Act.put, List.setIfInBounds_toArray, List.set_cons_zero, List.set_cons_succ]
      refine wpAnyH_take (i := 5) (v := .pointer (some ⟨w.heap.size, 2, none⟩)) rfl (by kernel_rfl) (by kernel_rfl) (by kernel_rfl) (fun _ _ _ h => h) (Or.inl ⟨by rfl, fun w' hSw => by (try dsimp only at hSw); go_simp⟩) (by assumption) ?_
      simp only [List.getElem_toArray, List.getElem_cons_succ, List.getElem_cons_zero, Act.put, List.setIfInBounds_toArray, List.set_cons_zero, List.set_cons_succ]
      refine wpAnyH_take (i := 6) (v := .bool false) rfl (by kernel_rfl) (by kernel_rfl) (by kernel_rfl) (fun _ _ _ h => h) (Or.inl ⟨by rfl, fun w' hSw => by (try dsimp only at hSw); go_simp⟩) (by assumption) ?_
      simp only [List.getElem_toArray, List.getElem_cons_succ, List.getElem_cons_zero, Act.put, List.setIfInBounds_toArray, List.set_cons_zero, List.set_cons_succ]
      refine wpAnyH_ready (rs := [2, 12]) (by kernel_rfl) (by simp) ?_
      refine AllReadyH.cons rfl (fun K hK => ?_) (AllReadyH.cons rfl (fun K hK => ?_) AllReadyH.nil)
      · try simp only [List.getElem_toArray, List.getElem_cons_succ, List.getElem_cons_zero]
        go_simp
        go_at_call 47; (with_reducible refine (HC.out _ b0.out).mono ?_); rintro e w1 ⟨rfl, b1⟩; have B1 := Lib.hid (Below.trans b0.out (b1.mono b0.out.size)); clear b1
        go_wp2_with fail
        refine hK.out _ _ ?_ (fun hHeld => ?_)
        · exact ⟨(HX.out _ B1.out).1, (HX.out _ B1.out).2.1⟩
        clear hK K
        try simp only [List.getElem_toArray, List.getElem_cons_succ, List.getElem_cons_zero, Act.put, List.setIfInBounds_toArray, List.set_cons_zero, List.set_cons_succ]
        refine wpAnyH_take (i := 7) (v := .bool false) rfl (by kernel_rfl) (by kernel_rfl) (by kernel_rfl) (fun _ _ _ h => h) (Or.inl ⟨by rfl, fun w' hSw => by (try dsimp only at hSw); go_simp⟩) (by assumption) ?_
        simp only [List.getElem_toArray, List.getElem_cons_succ, List.getElem_cons_zero, Act.put, List.setIfInBounds_toArray, List.set_cons_zero, List.set_cons_succ]
        refine wpAnyH_take (i := 8) (v := undef) rfl (by kernel_rfl) (by kernel_rfl) (by kernel_rfl) (fun _ _ _ h => h) (Or.inr ⟨by rfl, rfl⟩) (by assumption) ?_
        simp only [List.getElem_toArray, List.getElem_cons_succ, List.getElem_cons_zero, Act.put, List.setIfInBounds_toArray, List.set_cons_zero, List.set_cons_succ]
        refine wpAnyH_take (i := 9) (v := undef) rfl (by kernel_rfl) (by kernel_rfl) (by kernel_rfl) (fun _ _ _ h => h) (Or.inr ⟨by rfl, rfl⟩) (by assumption) ?_
        simp only [List.getElem_toArray, List.getElem_cons_succ, List.getElem_cons_zero, Act.put, List.setIfInBounds_toArray, List.set_cons_zero, List.set_cons_succ]
        refine wpAnyH_take (i := 10) (v := .bool false) rfl (by kernel_rfl) (by kernel_rfl) (by kernel_rfl) (fun _ _ _ h => h) (Or.inl ⟨by rfl, fun w' hSw => by (try dsimp only at hSw); go_simp⟩) (by assumption) ?_
        simp only [List.getElem_toArray, List.getElem_cons_succ, List.getElem_cons_zero, Act.put, List.setIfInBounds_toArray, List.set_cons_zero, List.set_cons_succ]
        refine wpAnyH_take (i := 11) (v := .agg #[.string ⟨C.toArray⟩, .slice none 0 0, .bool false, .bool false]) rfl (by kernel_rfl) (by kernel_rfl) (by kernel_rfl) (fun _ _ _ h => h) (Or.inl ⟨by rfl, fun w' hSw => by (try dsimp only at hSw); go_simp⟩) (by assumption) ?_
        simp only [List.getElem_toArray, List.getElem_cons_succ, List.getElem_cons_zero, Act.put, List.setIfInBounds_toArray, List.set_cons_zero, List.set_cons_succ]
        refine wpAnyH_ready (rs := [12]) (by kernel_rfl) (by simp) ?_
        refine AllReadyH.cons rfl (fun K hK => ?_) AllReadyH.nil
        try simp only [List.getElem_toArray, List.getElem_cons_succ, List.getElem_cons_zero]
        go_simp
        refine hK.out _ _ ?_ (fun hHeld => ?_)
        · exact ⟨(HX.out _ (Below.alloc B1.out B1.out.size _)).1, (HX.out _ (Below.alloc B1.out B1.out.size _)).2.1⟩
        clear hK K
        try simp only [List.getElem_toArray, List.getElem_cons_succ, List.getElem_cons_zero, Act.put, List.setIfInBounds_toArray, List.set_cons_zero, List.set_cons_succ]
        refine wpAnyH_ready (rs := [13]) (by kernel_rfl) (by simp) ?_
        refine AllReadyH.cons rfl (fun K hK => ?_) AllReadyH.nil
        try simp only [List.getElem_toArray, List.getElem_cons_succ, List.getElem_cons_zero]
        go_simp
        refine hK.out _ _ ?_ (fun hHeld => ?_)
        · exact ⟨(HX.out _ (Below.alloc B1.out B1.out.size _)).1, (HX.out _ (Below.alloc B1.out B1.out.size _)).2.1⟩
        clear hK K
        try simp only [List.getElem_toArray, List.getElem_cons_succ, List.getElem_cons_zero, Act.put, List.setIfInBounds_toArray, List.set_cons_zero, List.set_cons_succ]
        refine wpAnyH_done (by kernel_rfl) ?_ _
        go_wp2_with fail; go_meet; first | exact ⟨_, rfl, HST.out w1 _ B1.out⟩ | exact ⟨_, rfl, (HST2.out _ _ w1 rfl HB1.out).2.2⟩
      · try simp only [List.getElem_toArray, List.getElem_cons_succ, List.getElem_cons_zero]
        go_simp
        refine hK.out _ _ ?_ (fun hHeld => ?_)
        · exact ⟨(HX.out _ (Below.drew (Below.alloc (Below.refl _ W1) (Nat.le_refl _) _))).1, (HX.out _ (Below.drew (Below.alloc (Below.refl _ W1) (Nat.le_refl _) _))).2.1⟩
        clear hK K
        try simp only [List.getElem_toArray, List.getElem_cons_succ, List.getElem_cons_zero, Act.put, List.setIfInBounds_toArray, List.set_cons_zero, List.set_cons_succ]
        refine wpAnyH_ready (rs := [2]) (by kernel_rfl) (by simp) ?_
        refine AllReadyH.cons rfl (fun K hK => ?_) AllReadyH.nil
        try simp only [List.getElem_toArray, List.getElem_cons_succ, List.getElem_cons_zero]
        go_simp
        go_at_call 47; (with_reducible refine (HC.out _ (Below.drew (Below.alloc (Below.refl _ W1) (Nat.le_refl _) _))).mono ?_); rintro e w1 ⟨rfl, b1⟩; obtain ⟨kB, B1', -⟩ := HST2.out _ false w1 rfl b1; have HB1 := Lib.hid b1; have B1 := Lib.hid B1'; have y0 := kB.cell 0; have y1 := kB.cell 1; have y2 := kB.cell 2; have y3 := kB.cell 3; have z0 := kB.frozen (j := 0) (by simp); have z1 := kB.frozen (j := 1) (by simp); have z2 := kB.frozen (j := 2) (by simp); have z3 := kB.frozen (j := 3) (by simp); clear b1 kB B1'
        go_wp2_with fail
        refine hK.out _ _ ?_ (fun hHeld => ?_)
        · exact ⟨(HX.out _ B1.out).1, (HX.out _ B1.out).2.1⟩
        clear hK K
        try simp only [List.getElem_toArray, List.getElem_cons_succ, List.getElem_cons_zero, Act.put, List.setIfInBounds_toArray, List.set_cons_zero, List.set_cons_succ]
        refine wpAnyH_take (i := 7) (v := .bool false) rfl (by kernel_rfl) (by kernel_rfl) (by kernel_rfl) (fun _ _ _ h => h) (Or.inl ⟨by rfl, fun w' hSw => by (try dsimp only at hSw); go_simp⟩) (by assumption) ?_
        simp only [List.getElem_toArray, List.getElem_cons_succ, List.getElem_cons_zero, Act.put, List.setIfInBounds_toArray, List.set_cons_zero, List.set_cons_succ]
        refine wpAnyH_take (i := 8) (v := undef) rfl (by kernel_rfl) (by kernel_rfl) (by kernel_rfl) (fun _ _ _ h => h) (Or.inr ⟨by rfl, rfl⟩) (by assumption) ?_
        simp only [List.getElem_toArray, List.getElem_cons_succ, List.getElem_cons_zero, Act.put, List.setIfInBounds_toArray, List.set_cons_zero, List.set_cons_succ]
        refine wpAnyH_take (i := 9) (v := undef) rfl (by kernel_rfl) (by kernel_rfl) (by kernel_rfl) (fun _ _ _ h => h) (Or.inr ⟨by rfl, rfl⟩) (by assumption) ?_
        simp only [List.getElem_toArray, List.getElem_cons_succ, List.getElem_cons_zero, Act.put, List.setIfInBounds_toArray, List.set_cons_zero, List.set_cons_succ]
        refine wpAnyH_take (i := 10) (v := .bool false) rfl (by kernel_rfl) (by kernel_rfl) (by kernel_rfl) (fun _ _ _ h => h) (Or.inl ⟨by rfl, fun w' hSw => by (try dsimp only at hSw); go_simp⟩) (by assumption) ?_
        simp only [List.getElem_toArray, List.getElem_cons_succ, List.getElem_cons_zero, Act.put, List.setIfInBounds_toArray, List.set_cons_zero, List.set_cons_succ]
        refine wpAnyH_take (i := 11) (v := .agg #[.string ⟨C.toArray⟩, .slice none 0 0, .bool false, .bool false]) rfl (by kernel_rfl) (by kernel_rfl) (by kernel_rfl) (fun _ _ _ h => h) (Or.inl ⟨by rfl, fun w' hSw => by (try dsimp only at hSw); go_simp⟩) (by assumption) ?_
        simp only [List.getElem_toArray, List.getElem_cons_succ, List.getElem_cons_zero, Act.put, List.setIfInBounds_toArray, List.set_cons_zero, List.set_cons_succ]
        refine wpAnyH_ready (rs := [13]) (by kernel_rfl) (by simp) ?_
        refine AllReadyH.cons rfl (fun K hK => ?_) AllReadyH.nil
        try simp only [List.getElem_toArray, List.getElem_cons_succ, List.getElem_cons_zero]
        go_simp
        refine hK.out _ _ ?_ (fun hHeld => ?_)
        · exact ⟨(HX.out _ ((((B1.out.setCell (Nat.le_refl _) _).setCell (Nat.le_refl _) _).setCell (Nat.le_refl _) _).setCell (Nat.le_refl _) _)).1, (HX.out _ ((((B1.out.setCell (Nat.le_refl _) _).setCell (Nat.le_refl _) _).setCell (Nat.le_refl _) _).setCell (Nat.le_refl _) _)).2.1⟩
        clear hK K
        try simp only [List.getElem_toArray, List.getElem_cons_succ, List.getElem_cons_zero, Act.put, List.setIfInBounds_toArray, List.set_cons_zero, List.set_cons_succ]
        refine wpAnyH_done (by kernel_rfl) ?_ _
        go_wp2_with fail; go_meet; first | exact ⟨_, rfl, HST.out w1 _ B1.out⟩ | exact ⟨_, rfl, (HST2.out _ _ w1 rfl HB1.out).2.2⟩
    · go_wp2_with fail
      first | (go_region_held3 (fun W' => W'.cell? ⟨w.heap.size, 0, none⟩ = some (.string ⟨cols.toArray⟩) ∧ W'.cell? ⟨w.heap.size, 2, none⟩ = some (.bool true) ∧ W'.cell? ⟨w.heap.size, 3, none⟩ = some (.bool ga)) (first | exact HX.out _ b0.out | exact HX.out _ (Below.drew (Below.alloc (Below.refl _ W1) (Nat.le_refl _) _)) | exact HX.out _ B1.out | exact HX.out _ (Below.alloc B1.out B1.out.size _) | exact HX.out _ ((((B1.out.setCell (Nat.le_refl _) _).setCell (Nat.le_refl _) _).setCell (Nat.le_refl _) _).setCell (Nat.le_refl _) _)) ((first | (go_at_call 47; (with_reducible refine (HC.out _ b0.out).mono ?_); rintro e w1 ⟨rfl, b1⟩; have B1 := Lib.hid (Below.trans b0.out (b1.mono b0.out.size)); clear b1) | (go_at_call 47; (with_reducible refine (HC.out _ (Below.drew (Below.alloc (Below.refl _ W1) (Nat.le_refl _) _))).mono ?_); rintro e w1 ⟨rfl, b1⟩; obtain ⟨kB, B1', -⟩ := HST2.out _ false w1 rfl b1; have HB1 := Lib.hid b1; have B1 := Lib.hid B1'; have y0 := kB.cell 0; have y1 := kB.cell 1; have y2 := kB.cell 2; have y3 := kB.cell 3; have z0 := kB.frozen (j := 0) (by simp); have z1 := kB.frozen (j := 1) (by simp); have z2 := kB.frozen (j := 2) (by simp); have z3 := kB.frozen (j := 3) (by simp); clear b1 kB B1')))) | skip
      all_goals (go_wp2_with fail; go_meet; first | exact ⟨_, rfl, HST.out w1 _ B1.out⟩ | exact ⟨_, rfl, (HST2.out _ _ w1 rfl HB1.out).2.2⟩)
  case rest =>
  obtain ⟨o, rfl, hPM⟩ := hcut
  obtain ⟨al, hal⟩ : ∃ al, (gb && ga) = al := ⟨_, rfl⟩
  rw [hal] at hPM
  have HAL := Lib.hid hal
  have x1 : wc.cell? ⟨w.heap.size, 1, none⟩ = some (.slice r1 rows.length r3) := hPM.box.cell 1
  have HP0 := Lib.hid hPM
  have HLT := Lib.hid hPM.lt
  have hrl := trls_len rows
  clear hPM HC HX HST HST2 b0 d0 d2 d3 hal
  go_wp2_with fail
  go_loopw [21] (fun i wr => ∃ (j : Nat) (v : Value), j ≤ rows.length ∧ i = .int .i64 j ∧ Hid (PM w cols C (.slice r1 rows.length r3) gb ga al o wr v ((rows.take j).map (mrowT C.length)))) (fun i _ => rows.length - (intOf i).toNat)
  case atStart => exact ⟨0, _, by omega, rfl, HP0⟩
  case round =>
    obtain ⟨j, v, hj, rfl, HP⟩ := hrel
    clear HP0 x1
    obtain ⟨va, vc, rfl⟩ := HP.out.rows.len
    have hml : ((rows.take j).map (mrowT C.length)).length = j := by rw [List.length_map, List.length_take]; omega
    rw [hml] at HP
    by_cases hlt : j < rows.length
    · obtain ⟨r, hr⟩ : ∃ r, rows[j]? = some r := ⟨rows[j], List.getElem?_eq_getElem hlt⟩
      have lr := trls_le hr
      have tr : trl r = 1 + r.2.length + lens r.2 := rfl
      have HTS : Hid ((rows.take (j + 1)).map (mrowT C.length) = (rows.take j).map (mrowT C.length) ++ [(r.1, (mrowT C.length r).2)]) := Lib.hid (by rw [take_snoc' hr, List.map_append]; rfl)
      obtain ⟨g, off, b, c, hra, -, c0, c1, hG⟩ := (HV.out wr HP.out.bel).at hr
      simp only [pv] at hra
      subst hra
      have hi0 : (j : Int) < (rows.length : Int) := by omega
      have hi1 : (0 : Int) ≤ (j : Int) := by omega
      obtain ⟨wb, hwb⟩ : ∃ wb, wb = wr.alloc (.cells #[.bool r.1, .slice b r.2.length c] 49) := ⟨_, rfl⟩
      have b1 : Below wr.heap.size wr wb := by rw [hwb]; exact below_lit _ _
      have hPb := HP.out.keep b1
      have z0 : wb.cell? ⟨o, 0, none⟩ = some (.string ⟨C.toArray⟩) := hPb.out.cell 0
      have z1 : wb.cell? ⟨o, 1, none⟩ = some (.slice va j vc) := hPb.out.cell 1
      have hXB : Blk wb wr.heap.size 49 [.bool r.1, .slice b r.2.length c] := by rw [hwb]; exact heap_alloc_new wr _
      have y0 : wb.cell? ⟨wr.heap.size, 0, none⟩ = some (.bool r.1) := hXB.cell 0
      have y1 : wb.cell? ⟨wr.heap.size, 1, none⟩ = some (.slice b r.2.length c) := hXB.cell 1
      have hSw : ∀ x, S x → x < wb.heap.size := fun x hx => Nat.lt_of_lt_of_le (HS.out x hx) hPb.bel.size
      have hGb := (hG.keep (Kp.below b1 (fun x hx => Nat.lt_of_lt_of_le (HS.out x hx) HP.out.bel.size)))
      have hGd := hGb.keep (w' := wb.drew) (Kp.below (Below.refl wb.heap.size wb).drew hSw)
      have hPd := hPb.keep (Below.refl wb.heap.size wb).drew
      have HM : Hid (Calls Tryd.prog 48 #[.agg #[.bool r.1, .slice b r.2.length c], .int .i64 (C.length : Int)] wb.drew fun e w6 => ∃ s1 s2 s3 a' c' w7, e = .returned (.agg #[.bool r.1, .slice s1 s2 s3]) ∧ w6.cell? ⟨o, 0, none⟩ = some (.string ⟨C.toArray⟩) ∧ w6.cell? ⟨o, 1, none⟩ = some (.slice va j vc) ∧
        (Builtin.append_ #[34, 34] 34 #[.slice va j vc, .slice (some ⟨w6.heap.size, 0, none⟩) 1 1]).run Tryd.prog (w6.alloc (.cells #[.bool r.1, .slice s1 s2 s3] 49)) = .ok (.slice a' (j + 1) c') w7 ∧
        (w6.alloc (.cells #[.bool r.1, .slice s1 s2 s3] 49)).cell? ⟨o, 1, none⟩ = some (.slice va j vc) ∧ w7.frozen? ⟨o, 1, none⟩ = false ∧ w7.cell? ⟨o, 1, none⟩ = some (.slice va j vc) ∧
        Hid (PM w cols C (.slice (some ⟨g, off, none⟩) rows.length r3) gb ga al o (w7.setCell ⟨o, 1, none⟩ (.slice a' (j + 1) c')) (.slice a' (j + 1) c') ((rows.take (j + 1)).map (mrowT C.length)))) :=
        Lib.hid ((pmendrow_any S (r.1, (b, r.2.length, c)) r C.length wb.drew rfl hGd hSw (by omega) (by omega) (by omega)).mono fun e w6 h => by
          obtain ⟨⟨s1, s2, s3⟩, he, hci, b6⟩ := h
          have hP6 := hPd.keep b6
          have hlt6 : w.heap.size ≤ wb.drew.heap.size := hPb.bel.size
          obtain ⟨a', c', w7, hr7, hf7, hc7, hp7⟩ := hP6.push (by rw [hml]; omega) r.1 (s1, s2, s3) (mrowT C.length r).2 (hci.grs.mono (fun b q => ⟨Nat.le_trans hlt6 q.1, q.2⟩))
          rw [hml] at hr7 hp7
          refine ⟨s1, s2, s3, a', c', w7, he, hP6.out.cell 0, hP6.out.cell 1, appW_raw hr7, (hP6.out.below (below_lit w6 _)).cell 1, hf7, hc7, Lib.hid ?_⟩
          rw [HTS.out]
          exact hp7)
      have e0 : wb.drew.cell? ⟨o, 0, none⟩ = some (.string ⟨C.toArray⟩) := hPd.out.cell 0
      have e1 : wb.drew.cell? ⟨o, 1, none⟩ = some (.slice va j vc) := hPd.out.cell 1
      have e2 : wb.drew.cell? ⟨wr.heap.size, 0, none⟩ = some (.bool r.1) := (hXB.below (Below.refl wb.heap.size wb).drew).cell 0
      have e3 : wb.drew.cell? ⟨wr.heap.size, 1, none⟩ = some (.slice b r.2.length c) := (hXB.below (Below.refl wb.heap.size wb).drew).cell 1
      have hCs := bsz C
      have HWB := Lib.hid hwb
      clear hr hG hGb hGd hPb hPd b1 hXB hSw hwb hml tr lr HTS
      go_wp2_with fail
      rw [← HWB.out]
      go_region_law ((first | (refine step_append_run rfl (.tmp 26) (.tmp 32) 34 34 rfl _ _ rfl rfl kk ?_) | (go_simp; go_at_call 48; (with_reducible refine HM.out.mono ?_); rintro e w6 ⟨s1, s2, s3, a', c', w7, rfl, u0, u1, kk, v1, f1, g1, HP7⟩)))
      all_goals
        go_wp2_with fail
        go_roundw
        case rel => exact ⟨j + 1, _, by omega, by go_num, HP7⟩
        case measure => (simp [intOf]; try omega)
    · obtain rfl : j = rows.length := by omega
      have hlt' : ¬ (rows.length : Int) < (rows.length : Int) := by omega
      rw [List.take_length] at HP
      have p := HP.out
      have c0 : wr.cell? ⟨o, 0, none⟩ = some (.string ⟨C.toArray⟩) := p.out.cell 0
      have c1 : wr.cell? ⟨o, 1, none⟩ = some (.slice va rows.length vc) := p.out.cell 1
      have c2 : wr.cell? ⟨o, 2, none⟩ = some (.bool gb) := p.out.cell 2
      have c3 : wr.cell? ⟨o, 3, none⟩ = some (.bool al) := p.out.cell 3
      have q0 : wr.cell? ⟨w.heap.size + 1, 0, none⟩ = some (.string ⟨#[]⟩) := p.res.cell 0
      have q1 : wr.cell? ⟨w.heap.size + 1, 1, none⟩ = some (.slice none 0 0) := p.res.cell 1
      have q2 : wr.cell? ⟨w.heap.size + 1, 2, none⟩ = some (.bool false) := p.res.cell 2
      have q3 : wr.cell? ⟨w.heap.size + 1, 3, none⟩ = some (.bool false) := p.res.cell 3
      have v0 : wr.frozen? ⟨w.heap.size + 1, 0, none⟩ = false := p.res.frozen (by simp)
      have v1 : wr.frozen? ⟨w.heap.size + 1, 1, none⟩ = false := p.res.frozen (by simp)
      have v2 : wr.frozen? ⟨w.heap.size + 1, 2, none⟩ = false := p.res.frozen (by simp)
      have v3 : wr.frozen? ⟨w.heap.size + 1, 3, none⟩ = false := p.res.frozen (by simp)
      have HF := Lib.hid (p.fin (.string ⟨C.toArray⟩) (.slice va rows.length vc) (.bool gb) (.bool al))
      clear p hml HP
      go_wp2_with fail
      have hF := HF.out
      have k0 := hF.1.cell 0
      have k1 := hF.1.cell 1
      have k2 := hF.1.cell 2
      have k3 := hF.1.cell 3
      simp at k0 k1 k2 k3
      refine bodyPost_ret (v := .agg #[.string ⟨C.toArray⟩, .slice va rows.length vc, .bool gb, .bool al]) (by simp [results, Tryd.results30, go_sem, k0, k1, k2, k3]) rfl ?_
      refine ⟨(va, rows.length, vc), ?_, hF.2.1, hF.2.2⟩
      rw [HAL.out]
      rfl
end Go.Proofs.YtaeplneiicobgaaDoor
