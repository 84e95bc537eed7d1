/- Rows of what is told, that came in. Openers: rows of rows, Bools, one node. -/
import Derived.Test.YtpccjgoeoeehoaaDoorRD
import Derived.Test.YtpccjgoeoeehoaaDoorBq
set_option linter.unusedVariables false
set_option linter.unusedSimpArgs false
namespace Go.Proofs.YtpccjgoeoeehoaaDoor
open Go.ChangeShapes Go.WideShapes Go.ChangeAt Go.RowKit
section
variable {H : Type} {enc : TypeId × Value → H} {w : World} {held : Bool}
theorem cellsStr : Tryd.prog.cellsOf 9 = 1 := by kernel_rfl
theorem cellsI1 : Tryd.prog.cellsOf 3 = 1 := by kernel_rfl
theorem strs_of {fuel : Nat} {v : Value} {x : DataW H × List MemPlace} (h : DataW.trod enc Tryd.prog w 0 (fun _ => true) held fuel 34 [v] = some x) :
    ∃ l : List (List UInt8), FsS (fun b => b < w.heap.size) 1 scell w v l ∧ 1 + l.length ≤ Rows.uptoBulk x.1 := by
  rcases open_sl Tryd.underlying34 h with ⟨rfl, hx⟩ | ⟨a, len, cap, n, ys, rest, -, rfl, hl, hyl, hx, hi⟩
  · exact ⟨[], FsS.nil _ _ _ _, by rw [hx]; simp [Rows.uptoBulk]⟩
  · rw [cellsStr] at hi
    obtain ⟨L, l, h1, h2, h3⟩ := two_lists (fun i (g : List UInt8) (_ : Unit) => ∀ (j : Nat) c, (scell g)[j]? = some c → w.cell? (a.add (i * 1 + j)) = some c) len (fun i hil => by
      obtain ⟨cs, y, hy, hcl, hc, ht⟩ := hi i hil
      rcases cs with _ | ⟨c, _ | ⟨d, cs⟩⟩
      · simp at hcl
      · obtain ⟨b, rfl, -⟩ := text_of ht
        exact ⟨b, (), hc⟩
      · simp at hcl)
    refine ⟨L, fss_of scell_len (by decide) h1 hl (fun i x hx j c hj => ?_), ?_⟩
    · have hil := (List.getElem?_eq_some_iff.1 hx).1
      obtain ⟨u, hu⟩ := get_of_len h2 (j := i) (by omega)
      exact h3 i x u hx hu j c hj
    · have := bulk_len (ys.map (·.1))
      rw [List.length_map] at this
      rw [hx]
      simp only [Rows.uptoBulk]
      omega
theorem ints_of {fuel : Nat} {v : Value} {x : DataW H × List MemPlace} (h : DataW.trod enc Tryd.prog w 0 (fun _ => true) held fuel 41 [v] = some x) :
    ∃ l : List Int, FsS (fun b => b < w.heap.size) 1 icell w v l ∧ 1 + l.length ≤ Rows.uptoBulk x.1 := by
  rcases open_sl Tryd.underlying41 h with ⟨rfl, hx⟩ | ⟨a, len, cap, n, ys, rest, -, rfl, hl, hyl, hx, hi⟩
  · exact ⟨[], FsS.nil _ _ _ _, by rw [hx]; simp [Rows.uptoBulk]⟩
  · rw [cellsI1] at hi
    obtain ⟨L, l, h1, h2, h3⟩ := two_lists (fun i (g : Int) (_ : Unit) => ∀ (j : Nat) c, (icell g)[j]? = some c → w.cell? (a.add (i * 1 + j)) = some c) len (fun i hil => by
      obtain ⟨cs, y, hy, hcl, hc, ht⟩ := hi i hil
      rcases cs with _ | ⟨c, _ | ⟨d, cs⟩⟩
      · simp at hcl
      · obtain ⟨x0, hx0, -⟩ := DataW.trod_int Tryd.underlying3 ht
        have q0 : c = .int .i64 x0 := by simpa using hx0
        subst q0
        exact ⟨x0, (), hc⟩
      · simp at hcl)
    refine ⟨L, fss_of icell_len (by decide) h1 hl (fun i x hx j c hj => ?_), ?_⟩
    · have hil := (List.getElem?_eq_some_iff.1 hx).1
      obtain ⟨u, hu⟩ := get_of_len h2 (j := i) (by omega)
      exact h3 i x u hx hu j c hj
    · have := bulk_len (ys.map (·.1))
      rw [List.length_map] at this
      rw [hx]
      simp only [Rows.uptoBulk]
      omega
theorem cellsDo : Tryd.prog.cellsOf 43 = 15 := by kernel_rfl
theorem cellsSSt : Tryd.prog.cellsOf 34 = 1 := by kernel_rfl
theorem cellsSI : Tryd.prog.cellsOf 41 = 1 := by kernel_rfl
theorem fieldsDo : ∃ fs : Array Field, Tryd.prog.underlying 43 = some (.struct fs) ∧ ∃ f0 f1 f2 f3 f4 f5 : Field, fs = #[f0, f1, f2, f3, f4, f5] ∧ (f0.type = 3 ∧ f0.offset = 0) ∧ (f1.type = 34 ∧ f1.offset = 1) ∧ (f2.type = 40 ∧ f2.offset = 2) ∧
    (f3.type = 3 ∧ f3.offset = 12) ∧ (f4.type = 41 ∧ f4.offset = 13) ∧ (f5.type = 30 ∧ f5.offset = 14) :=
  ⟨_, Tryd.underlying43, _, _, _, _, _, _, rfl, ⟨rfl, rfl⟩, ⟨rfl, rfl⟩, ⟨rfl, rfl⟩, ⟨rfl, rfl⟩, ⟨rfl, rfl⟩, ⟨rfl, rfl⟩⟩
set_option maxRecDepth 100000 in
theorem do_of {n : Nat} {cs : List Value} {y : DataW H × List MemPlace} (h : DataW.trod enc Tryd.prog w 0 (fun _ => true) held n 43 cs = some y) :
    ∃ (x : DV) (d : Dd), cs = dcell x ∧ DdIs (fun b => b < w.heap.size) w x d ∧ ddl d ≤ Rows.uptoBulk y.1 ∧ d.s.length ≤ Rows.uptoBulk y.1 := by
  obtain ⟨fs, hu, f0, f1, f2, f3, f4, f5, rfl, ⟨ht0, o0⟩, ⟨ht1, o1⟩, ⟨ht2, o2⟩, ⟨ht3, o3⟩, ⟨ht4, o4⟩, ⟨ht5, o5⟩⟩ := fieldsDo
  obtain ⟨ys, n', hn', hy, hcl, hyl, hf⟩ := DataW.trod_struct hu h
  rw [cellsDo] at hcl
  rcases cs with _ | ⟨c0, _ | ⟨c1, _ | ⟨c2, _ | ⟨c3, _ | ⟨c4, _ | ⟨c5, _ | ⟨c6, _ | ⟨c7, _ | ⟨c8, _ | ⟨c9, _ | ⟨c10, _ | ⟨c11, _ | ⟨c12, _ | ⟨c13, _ | ⟨c14, _ | ⟨c15, cs⟩⟩⟩⟩⟩⟩⟩⟩⟩⟩⟩⟩⟩⟩⟩⟩
  iterate 15 (simp at hcl)
  · rcases ys with _ | ⟨y0, _ | ⟨y1, _ | ⟨y2, _ | ⟨y3, _ | ⟨y4, _ | ⟨y5, _ | ⟨y6, ys⟩⟩⟩⟩⟩⟩⟩
    iterate 6 (simp at hyl)
    · have k0 := hf 0 f0 rfl
      have k1 := hf 1 f1 rfl
      have k2 := hf 2 f2 rfl
      have k3 := hf 3 f3 rfl
      have k4 := hf 4 f4 rfl
      have k5 := hf 5 f5 rfl
      rw [ht0, o0, cellsI1] at k0
      rw [ht1, o1, cellsSSt] at k1
      rw [ht2, o2, cellsNd] at k2
      rw [ht3, o3, cellsI1] at k3
      rw [ht4, o4, cellsSI] at k4
      rw [ht5, o5, cellsSG] at k5
      obtain ⟨x0, hx0, -⟩ := DataW.trod_int Tryd.underlying3 (show DataW.trod enc Tryd.prog w 0 (fun _ => true) held n' 3 [c0] = some y0 from k0)
      obtain ⟨ls, hS, bS⟩ := strs_of (show DataW.trod enc Tryd.prog w 0 (fun _ => true) held n' 34 [c1] = some y1 from k1)
      obtain ⟨nv, nd, hN, hNh, hNk, bN⟩ := node_of (fun n' _ => nodes_of n') (show DataW.trod enc Tryd.prog w 0 (fun _ => true) held n' 40 [c2, c3, c4, c5, c6, c7, c8, c9, c10, c11] = some y2 from k2)
      obtain ⟨x3, hx3, -⟩ := DataW.trod_int Tryd.underlying3 (show DataW.trod enc Tryd.prog w 0 (fun _ => true) held n' 3 [c12] = some y3 from k3)
      obtain ⟨li, hI, bI⟩ := ints_of (show DataW.trod enc Tryd.prog w 0 (fun _ => true) held n' 41 [c13] = some y4 from k4)
      obtain ⟨lg, hG, bG⟩ := glyphs_of (show DataW.trod enc Tryd.prog w 0 (fun _ => true) held n' 30 [c14] = some y5 from k5)
      have q0 : c0 = .int .i64 x0 := by simpa using hx0
      have q3 : c12 = .int .i64 x3 := by simpa using hx3
      obtain ⟨s, rfl⟩ := pv_of hS.1
      obtain ⟨i, rfl⟩ := pv_of hI.1
      obtain ⟨g, rfl⟩ := pv_of hG.1
      subst q0 q3
      unfold ncell at hN
      injection hN with g0 hN
      injection hN with g1 hN
      injection hN with g2 hN
      injection hN with g3 hN
      injection hN with g4 hN
      injection hN with g5 hN
      injection hN with g6 hN
      injection hN with g7 hN
      injection hN with g8 hN
      injection hN with g9 hN
      subst g0 g1 g2 g3 g4 g5 g6 g7 g8 g9
      refine ⟨⟨x0, s, nv, x3, i, g⟩, ⟨x0, ls, nd, x3, li, lg⟩, rfl, ⟨rfl, hS, ⟨hNh, hNk⟩, rfl, hI, hG⟩, ?_, ?_⟩
      · have hb0 := bulk_one y0.1
        have hb3 := bulk_one y3.1
        rw [hy]
        simp only [List.map_cons, List.map_nil, Rows.uptoBulk, Rows.uptoBulkAll, ddl]
        omega
      · rw [hy]
        simp only [List.map_cons, List.map_nil, Rows.uptoBulk, Rows.uptoBulkAll]
        omega
    · simp at hyl
  · simp at hcl
theorem dos_of {fuel : Nat} {v : Value} {x : DataW H × List MemPlace} (h : DataW.trod enc Tryd.prog w 0 (fun _ => true) held fuel 22 [v] = some x) :
    ∃ l : List Dd, DosS (fun b => b < w.heap.size) w v l ∧ ddls l ≤ Rows.uptoBulk x.1 ∧ ∀ d ∈ l, d.s.length ≤ Rows.uptoBulk x.1 := by
  rcases open_sl Tryd.underlying22 h with ⟨rfl, hx⟩ | ⟨a, len, cap, n, ys, rest, -, rfl, hl, hyl, hx, hi⟩
  · exact ⟨[], ⟨[], rfl, FsS.nil _ _ _ _, fun i x y h => by simp at h⟩, by simp [ddls], fun d hd => by cases hd⟩
  · rw [cellsDo] at hi
    obtain ⟨L, l, h1, h2, h3⟩ := two_lists (fun i (s : DV) (d : Dd) => (∀ (j : Nat) c, (dcell s)[j]? = some c → w.cell? (a.add (i * 15 + j)) = some c) ∧ DdIs (fun b => b < w.heap.size) w s d ∧ ∃ y, ys[i]? = some y ∧ ddl d ≤ Rows.uptoBulk y.1 ∧ d.s.length ≤ Rows.uptoBulk y.1) len (fun i hil => by
      obtain ⟨cs, y, hy, hcl, hc, ht⟩ := hi i hil
      obtain ⟨s, d, rfl, hh, hb, hs⟩ := do_of ht
      exact ⟨s, d, hc, hh, y, hy, hb, hs⟩)
    have hsum : ∀ F : Dd → Nat, (∀ (i : Nat) s d, L[i]? = some s → l[i]? = some d → ∃ y, ys[i]? = some y ∧ F d ≤ Rows.uptoBulk y.1) → (l.map F).sum ≤ Rows.uptoBulkAll (ys.map (·.1)) := fun F hF =>
      bulk_sum F l (ys.map (·.1)) (by rw [List.length_map, h2, hyl]) (fun i r d hr hd => by
        obtain ⟨u, hu⟩ := get_of_len h1 (j := i) (by have := (List.getElem?_eq_some_iff.1 hr).1; omega)
        obtain ⟨y, hy, hb⟩ := hF i u r hu hr
        rw [List.getElem?_map, hy] at hd
        simp at hd
        subst hd
        exact hb)
    refine ⟨l, ⟨L, by rw [h1, h2], fss_of dcell_len (by decide) h1 hl (fun i x hx j c hj => ?_), fun i s r hs hr => (h3 i s r hs hr).2.1⟩, ?_, fun d hd => ?_⟩
    · have hil := (List.getElem?_eq_some_iff.1 hx).1
      obtain ⟨u, hu⟩ := get_of_len h2 (j := i) (by omega)
      exact (h3 i x u hx hu).1 j c hj
    · have hs := hsum ddl (fun i s d a b => by obtain ⟨y, e1, e2, e3⟩ := (h3 i s d a b).2.2; exact ⟨y, e1, e2⟩)
      rw [hx]
      simp only [Rows.uptoBulk]
      unfold ddls
      omega
    · have hs := hsum (fun d => d.s.length) (fun i s d a b => by obtain ⟨y, e1, e2, e3⟩ := (h3 i s d a b).2.2; exact ⟨y, e1, e3⟩)
      have : d.s.length ≤ (l.map fun d => d.s.length).sum := by
        clear hs hsum h3 h2
        induction l with
        | nil => cases hd
        | cons z l ih =>
          simp only [List.map_cons, List.sum_cons]
          rcases List.mem_cons.1 hd with rfl | hd
          · omega
          · have := ih hd; omega
      rw [hx]
      simp only [Rows.uptoBulk]
      omega
set_option maxRecDepth 100000 in
theorem dos_open {r : Reach} {b0 : Nat} {v : Value} {d : DataW H} {p : List MemPlace} (hval : Value.okWide Tryd.prog w r b0 22 v) (h : DataW.Trod enc Tryd.prog w 0 (fun _ => true) true 22 v d p) :
    ∃ l : List Dd, DosS (fun b => b < w.heap.size) w v l ∧ ddls l ≤ Rows.uptoBulk d ∧ ∀ e ∈ l, e.s.length ≤ Rows.uptoBulk d := by
  obtain ⟨a, len, cap, rfl⟩ := okWide_slice Tryd.underlying22 hval
  obtain ⟨fu, hf⟩ := h
  exact dos_of hf
end
end Go.Proofs.YtpccjgoeoeehoaaDoor
namespace Go.Proofs.YtpccjgoeoeehoaaDoor
open Go.ChangeShapes Go.WideShapes Go.ChangeAt Go.RowKit
section
variable {H : Type} {enc : TypeId × Value → H} {w : World} {held : Bool}
theorem cellsBl : Tryd.prog.cellsOf 4 = 1 := by kernel_rfl
theorem bools_of {fuel : Nat} {v : Value} {x : DataW H × List MemPlace} (h : DataW.trod enc Tryd.prog w 0 (fun _ => true) held fuel 60 [v] = some x) :
    ∃ l : List Bool, FsS (fun b => b < w.heap.size) 1 blcell w v l ∧ 1 + l.length ≤ Rows.uptoBulk x.1 := by
  rcases open_sl Tryd.underlying60 h with ⟨rfl, hx⟩ | ⟨a, len, cap, n, ys, rest, -, rfl, hl, hyl, hx, hi⟩
  · exact ⟨[], FsS.nil _ _ _ _, by rw [hx]; simp [Rows.uptoBulk]⟩
  · rw [cellsBl] at hi
    obtain ⟨L, l, h1, h2, h3⟩ := two_lists (fun i (g : Bool) (_ : Unit) => ∀ (j : Nat) c, (blcell g)[j]? = some c → w.cell? (a.add (i * 1 + j)) = some c) len (fun i hil => by
      obtain ⟨cs, y, hy, hcl, hc, ht⟩ := hi i hil
      rcases cs with _ | ⟨c, _ | ⟨d, cs⟩⟩
      · simp at hcl
      · obtain ⟨x0, hx0, -⟩ := DataW.trod_bool Tryd.underlying4 ht
        have q0 : c = .bool x0 := by simpa using hx0
        subst q0
        exact ⟨x0, (), hc⟩
      · simp at hcl)
    refine ⟨L, fss_of blcell_len (by decide) h1 hl (fun i x hx j c hj => ?_), ?_⟩
    · have hil := (List.getElem?_eq_some_iff.1 hx).1
      obtain ⟨u, hu⟩ := get_of_len h2 (j := i) (by omega)
      exact h3 i x u hx hu j c hj
    · have := bulk_len (ys.map (·.1))
      rw [List.length_map] at this
      rw [hx]
      simp only [Rows.uptoBulk]
      omega
set_option maxRecDepth 100000 in
theorem bools_open {r : Reach} {b0 : Nat} {v : Value} {d : DataW H} {p : List MemPlace} (hval : Value.okWide Tryd.prog w r b0 60 v) (h : DataW.Trod enc Tryd.prog w 0 (fun _ => true) true 60 v d p) :
    ∃ l : List Bool, FsS (fun b => b < w.heap.size) 1 blcell w v l ∧ 1 + l.length ≤ Rows.uptoBulk d := by
  obtain ⟨a, len, cap, rfl⟩ := okWide_slice Tryd.underlying60 hval
  obtain ⟨fu, hf⟩ := h
  exact bools_of hf
set_option maxRecDepth 100000 in
theorem rowsG_open {r : Reach} {b0 : Nat} {v : Value} {d : DataW H} {p : List MemPlace} (hval : Value.okWide Tryd.prog w r b0 35 v) (h : DataW.Trod enc Tryd.prog w 0 (fun _ => true) true 35 v d p) :
    ∃ l : List (List Gly), GrS (fun b => b < w.heap.size) w v l ∧ 1 + (l.length + lens l) ≤ Rows.uptoBulk d := by
  obtain ⟨a, len, cap, rfl⟩ := okWide_slice Tryd.underlying35 hval
  obtain ⟨fu, hf⟩ := h
  exact rowsG_of hf
end
end Go.Proofs.YtpccjgoeoeehoaaDoor
