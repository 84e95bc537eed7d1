/- Pieces that came in: opened. -/
import Derived.Test.YtpcbbhfbldchlaaAe
import Derived.Test.YtpcbbhfbldchlaaJ8
set_option linter.unusedVariables false
set_option linter.unusedSimpArgs false
namespace Go.Proofs.Ytpcbbhfbldchlaa
open Go.ChangeShapes Go.WideShapes Go.ChangeAt Go.RowKit
section
variable {H : Type} {enc : TypeId × Value → H} {w : World} {held : Bool}
theorem cellsPc : Try.prog.cellsOf 25 = 3 := by kernel_rfl
theorem cellsPcG : Try.prog.cellsOf 23 = 1 := by kernel_rfl
theorem cellsPcB : Try.prog.cellsOf 4 = 1 := by kernel_rfl
theorem fieldsPc : ∃ fs : Array Field, Try.prog.underlying 25 = some (.struct fs) ∧ ∃ f0 f1 f2 : Field, fs = #[f0, f1, f2] ∧ (f0.type = 23 ∧ f0.offset = 0) ∧ (f1.type = 4 ∧ f1.offset = 1) ∧ (f2.type = 4 ∧ f2.offset = 2) :=
  ⟨_, Try.underlying25, _, _, _, rfl, ⟨rfl, rfl⟩, ⟨rfl, rfl⟩, ⟨rfl, rfl⟩⟩
set_option maxRecDepth 100000 in
theorem piece_of {n : Nat} {cs : List Value} {y : DataW H × List MemPlace} (h : DataW.trod enc Try.prog w 0 (fun _ => true) held n 25 cs = some y) :
    ∃ (x : PcV) (p : Pc), cs = pccell x ∧ Gs w (pv x.1) p.g ∧ x.2.1 = p.l ∧ x.2.2 = p.r ∧ 1 + p.g.length ≤ Rows.uptoBulk y.1 := by
  obtain ⟨fs, hu, f0, f1, f2, rfl, ⟨ht0, o0⟩, ⟨ht1, o1⟩, ⟨ht2, o2⟩⟩ := fieldsPc
  obtain ⟨ys, n', hn', hy, hcl, hyl, hf⟩ := DataW.trod_struct hu h
  rw [cellsPc] at hcl
  rcases cs with _ | ⟨c0, _ | ⟨c1, _ | ⟨c2, _ | ⟨c3, cs⟩⟩⟩⟩
  iterate 3 (simp at hcl)
  · rcases ys with _ | ⟨y0, _ | ⟨y1, _ | ⟨y2, _ | ⟨y3, ys⟩⟩⟩⟩
    iterate 3 (simp at hyl)
    · have k0 := hf 0 f0 rfl
      have k1 := hf 1 f1 rfl
      have k2 := hf 2 f2 rfl
      rw [ht0, o0, cellsPcG] at k0
      rw [ht1, o1, cellsPcB] at k1
      rw [ht2, o2, cellsPcB] at k2
      obtain ⟨lg, hG, bG⟩ := glyphs_of (show DataW.trod enc Try.prog w 0 (fun _ => true) held n' 23 [c0] = some y0 from k0)
      obtain ⟨b1, hb1, -⟩ := DataW.trod_bool Try.underlying4 (show DataW.trod enc Try.prog w 0 (fun _ => true) held n' 4 [c1] = some y1 from k1)
      obtain ⟨b2, hb2, -⟩ := DataW.trod_bool Try.underlying4 (show DataW.trod enc Try.prog w 0 (fun _ => true) held n' 4 [c2] = some y2 from k2)
      have q1 : c1 = .bool b1 := by simpa using hb1
      have q2 : c2 = .bool b2 := by simpa using hb2
      obtain ⟨g, rfl⟩ := pv_of hG.1
      subst q1 q2
      refine ⟨(g, b1, b2), ⟨lg, b1, b2⟩, rfl, hG.1, rfl, rfl, ?_⟩
      rw [hy]
      simp only [List.map_cons, List.map_nil, Rows.uptoBulk, Rows.uptoBulkAll]
      omega
    · simp at hyl
  · simp at hcl
theorem pieces_of {fuel : Nat} {v : Value} {x : DataW H × List MemPlace} (h : DataW.trod enc Try.prog w 0 (fun _ => true) held fuel 22 [v] = some x) :
    ∃ l : List Pc, PcsR w v l ∧ 1 + pcL l ≤ Rows.uptoBulk x.1 := by
  rcases open_sl Try.underlying22 h with ⟨rfl, hx⟩ | ⟨a, len, cap, n, ys, rest, -, rfl, hl, hyl, hx, hi⟩
  · exact ⟨[], ⟨[], rfl, Fs.nil _, fun i x p q => by simp at q⟩, by rw [hx]; simp [Rows.uptoBulk, pcL]⟩
  · rw [cellsPc] at hi
    obtain ⟨L, l, h1, h2, h3⟩ := two_lists (fun i (s : PcV) (p : Pc) => (∀ (j : Nat) c, (pccell s)[j]? = some c → w.cell? (a.add (i * 3 + j)) = some c) ∧ (Gs w (pv s.1) p.g ∧ s.2.1 = p.l ∧ s.2.2 = p.r) ∧ ∃ y, ys[i]? = some y ∧ 1 + p.g.length ≤ Rows.uptoBulk y.1) len (fun i hil => by
      obtain ⟨cs, y, hy, hcl, hc, ht⟩ := hi i hil
      obtain ⟨s, p, rfl, g1, g2, g3, hb⟩ := piece_of ht
      exact ⟨s, p, hc, ⟨g1, g2, g3⟩, y, hy, hb⟩)
    have hf : FsS (fun b => b < w.heap.size) 3 pccell w (.slice (some a) len cap) L := fss_of pccell_len (by decide) h1 hl (fun i x hx j c hj => by
      have hil := (List.getElem?_eq_some_iff.1 hx).1
      obtain ⟨u, hu⟩ := get_of_len h2 (j := i) (by omega)
      exact (h3 i x u hx hu).1 j c hj)
    refine ⟨l, ⟨L, by rw [h1, h2], hf.1, fun i s p hs hp => (h3 i s p hs hp).2.1⟩, ?_⟩
    have hs := bulk_sum (fun p : Pc => 1 + p.g.length) l (ys.map (·.1)) (by rw [List.length_map, h2, hyl]) (fun i r d hr hd => by
      obtain ⟨u, hu⟩ := get_of_len h1 (j := i) (by have := (List.getElem?_eq_some_iff.1 hr).1; omega)
      obtain ⟨y, hy, hb⟩ := (h3 i u r hu hr).2.2
      rw [List.getElem?_map, hy] at hd
      simp at hd
      subst hd
      exact hb)
    have he : (l.map fun p : Pc => 1 + p.g.length).sum = pcL l := by
      clear hs hf h3 h2 hx hi hyl
      induction l with
      | nil => rfl
      | cons p l ih => simp only [List.map_cons, List.sum_cons, pcL, ih]
    rw [hx]
    simp only [Rows.uptoBulk]
    omega
set_option maxRecDepth 100000 in
theorem pieces_open {r : Reach} {b0 : Nat} {v : Value} {d : DataW H} {p : List MemPlace} (hval : Value.okWide Try.prog w r b0 22 v) (h : DataW.Trod enc Try.prog w 0 (fun _ => true) true 22 v d p) :
    ∃ l : List Pc, PcsR w v l ∧ 1 + pcL l ≤ Rows.uptoBulk d := by
  obtain ⟨a, len, cap, rfl⟩ := okWide_slice Try.underlying22 hval
  obtain ⟨fu, hf⟩ := h
  exact pieces_of hf
end
end Go.Proofs.Ytpcbbhfbldchlaa
