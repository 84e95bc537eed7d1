/- A phrase's word. -/
import Derived.Test.YtpcbbhfbldchlaaA5
import Derived.Deep.RegionWith
import Derived.Deep.RegionLaw
set_option linter.unusedVariables false
set_option linter.unusedSimpArgs false
namespace Go.Proofs.Ytpcbbhfbldchlaa
open Go.RowKit
section
variable {base : Nat} {w : World} {B : Nat} {s : Ph}
theorem lgS_dgsW (f : Int) (s : Txt) : (scanL 0 (dec s)).2 = dgsW (lgS f s).2 := by
  unfold lgS dgsW
  simp only [List.map_map]
  have hz : ∀ (n p : Nat) (s : List Int), ∀ d ∈ (scanF n p s).2, d.2.1 = 0 := fun n => by
    induction n with
    | zero => intro p s d h; simp [scanF] at h
    | succ n ih =>
      intro p s d h
      unfold scanF at h
      split at h
      · simp at h
      · simp only [List.mem_append] at h
        rcases h with h | h
        · unfold dgs at h
          obtain ⟨k, hk, rfl⟩ := List.mem_map.1 h
          rfl
        · exact ih _ _ d h
  have h : ∀ l : List Dg, (∀ d ∈ l, d.2.1 = 0) → l = l.map ((fun q : Int × Int => ((q.1, 0, q.2) : Dg)) ∘ fun d : Dg => (d.1, d.2.2)) := fun l => by
    induction l with
    | nil => intro _; rfl
    | cons x l ih =>
      intro hl
      rw [List.map_cons, ← ih (fun d hd => hl d (List.mem_cons_of_mem _ hd))]
      have := hl x List.mem_cons_self
      obtain ⟨a, b, c⟩ := x
      simp only at this
      subst this
      rfl
  exact h _ (fun d hd => hz _ _ _ d hd)
theorem lgW_len (f : Int) (s : Txt) : (lgS f s).1.length ≤ s.length ∧ (lgS f s).2.length ≤ s.length := by
  have h1 := scan_len (dec s)
  have h2 := dec_le s
  have h3 := gset_len (f, f) (scanL 0 (dec s)).1
  unfold lgS
  simp only [List.length_map]
  omega
theorem ofG_len (f : Int) (s : Txt) : (ofG f s).length ≤ s.length := by unfold ofG; rw [List.length_map]; exact dec_le s
theorem face_below (w : World) (f1 f2 : Int) : Below w.heap.size w (w.alloc (.cells #[.int .u8 f1, .int .u8 f2] 54)) := below_lit w _
theorem word_len {f f1 f2 : Int} {t a b : Txt} (ht : t.length ≤ 2000) (ha : a.length ≤ 10) (hb : b.length ≤ 10) : (ofG f1 a).length + (lgS f t).1.length + (ofG f2 b).length ≤ 400000 := by
  have h1 := (lgW_len f t).1
  have h2 := ofG_len f1 a
  have h3 := ofG_len f2 b
  omega
/-- The three rows that a word's glyphs are made of, at the last world. -/
theorem word_row {V w2 E w4 w5 : World} {X u1 u3 : Value} {g g1 g3 : List Gly} (o1 : GOwn V.heap.size w2 X g) (b2 : Below V.heap.size V w2) (bE : Below w2.heap.size w2 E) (p1 : GOwn E.heap.size w4 u1 g1) (p2 : Below E.heap.size E w4) (q1 : GOwn w4.heap.size w5 u3 g3) (q2 : Below w4.heap.size w4 w5) :
    Gs w5 u1 g1 ∧ Gs w5 X g ∧ Gs w5 u3 g3 ∧ Below w2.heap.size w2 w5 := by
  have b25 : Below w2.heap.size w2 w5 := bE.trans ((p2.mono bE.size).trans (q2.mono (Nat.le_trans bE.size p2.size)))
  exact ⟨Fs.below (FOwn.sl gcell_len p1) q2, Fs.below (FOwn.sl gcell_len o1) b25, FOwn.sl gcell_len q1, b25⟩
theorem word_dl {f : Int} {t : Txt} {m : Nat} (ht : t.length ≤ 2000) (hd : m ≤ 500000) : m + (lgS f t).2.length ≤ 1000000 := by have := (lgW_len f t).2; omega
theorem word_bel {V w2 w5 w7 : World} (b2 : Below V.heap.size V w2) (b25 : Below w2.heap.size w2 w5) (p2 : Below w5.heap.size w5 w7) : Below V.heap.size V w7 :=
  b2.trans ((b25.mono b2.size).trans (p2.mono (Nat.le_trans b2.size b25.size)))
theorem word_own {V w2 w5 w7 : World} {U : Value} {g : List Gly} (b2 : Below V.heap.size V w2) (b25 : Below w2.heap.size w2 w5) (p1 : GOwn w5.heap.size w7 U g) : GOwn V.heap.size w7 U g := p1.mono (Nat.le_trans b2.size b25.size)
theorem word_dgs {V w2 w5 w7 : World} {U : Value} {D : List Dg} (o : DOwn V.heap.size w2 U D) (b2 : Below V.heap.size V w2) (b25 : Below w2.heap.size w2 w5) (p2 : Below w5.heap.size w5 w7) : DOwn V.heap.size w7 U D := o.keep (b25.trans (p2.mono b25.size))
/-- Behind the glyphs: the piece, and what is wrong. -/
theorem word_fin {b0 V w7 : World} {x : Nat} {lf : Bool} (h : PhM base b0 B s) (hx : Blk V x 25 [.slice none 0 0, .bool lf, .bool false]) (hxs : b0.heap.size ≤ x) (bV : Below b0.heap.size b0 V) (b7 : Below V.heap.size V w7) {xa : Option Addr} {xn xc : Nat} {g : List Gly} (o : GOwn V.heap.size w7 (.slice xa xn xc) g) {dv : Value} {D : List (Int × Int)} (od : DOwn V.heap.size w7 dv (dgsW D)) (hp : s.p.length ≤ 500000) (hd : s.d.length + D.length ≤ 1000000) :
    w7.cell? ⟨x, 0, none⟩ = some (.slice none 0 0) ∧ w7.frozen? ⟨x, 0, none⟩ = false ∧ ∃ W8, w7.setCell ⟨x, 0, none⟩ (.slice xa xn xc) = W8 ∧ W8.cell? ⟨x, 0, none⟩ = some (.slice xa xn xc) ∧ W8.cell? ⟨x, 1, none⟩ = some (.bool lf) ∧ W8.cell? ⟨x, 2, none⟩ = some (.bool false) ∧
    ∃ pa pc a' c' w9, W8.cell? ⟨B, 2, none⟩ = some (.slice pa s.p.length pc) ∧ (W8.alloc (.cells #[.slice xa xn xc, .bool lf, .bool false] 25)).drew.cell? ⟨B, 2, none⟩ = some (.slice pa s.p.length pc) ∧ (appPc #[.slice pa s.p.length pc, .slice (some ⟨W8.heap.size, 0, none⟩) 1 1]).run Try.prog (W8.drew.alloc (.cells #[.slice xa xn xc, .bool lf, .bool false] 25)) = .ok (.value (.slice a' (s.p.length + 1) c')) w9 ∧ w9.cell? ⟨B, 2, none⟩ = some (.slice pa s.p.length pc) ∧ w9.frozen? ⟨B, 2, none⟩ = false ∧
    ∃ F, w9.setCell ⟨B, 2, none⟩ (.slice a' (s.p.length + 1) c') = F ∧ ∃ qa qc a2 m2 c2 w10, F.cell? ⟨B, 3, none⟩ = some (.slice qa s.d.length qc) ∧ (appDg #[.slice qa s.d.length qc, dv]).run Try.prog F = .ok (.value (.slice a2 m2 c2)) w10 ∧ w10.cell? ⟨B, 3, none⟩ = some (.slice qa s.d.length qc) ∧ w10.frozen? ⟨B, 3, none⟩ = false ∧
    Hid (PhM base (w10.setCell ⟨B, 3, none⟩ (.slice a2 m2 c2)) B ⟨s.name, s.op, s.p ++ [⟨g, lf, false⟩], s.d ++ D⟩ ∧ Below base b0 (w10.setCell ⟨B, 3, none⟩ (.slice a2 m2 c2))) := by
  obtain ⟨pr, dv0, P, hv⟩ := h
  have h7 := hx.below b7
  have hxl := hx.lt
  have hs7 := b7.size
  have hsV := bV.size
  obtain ⟨W8, hW8⟩ : ∃ W, w7.setCell ⟨x, 0, none⟩ (.slice xa xn xc) = W := ⟨_, rfl⟩
  have hx8 : Blk W8 x 25 [.slice xa xn xc, .bool lf, .bool false] := by rw [← hW8]; exact h7.set 0 _
  have hE8 : Exc (fun k => k = x) w7 W8 := by rw [← hW8]; exact (Exc.refl _ w7).set 0 _ (fun _ => rfl)
  have b8 : Below b0.heap.size b0 W8 := (bV.trans (b7.mono hsV)).trans (hE8.below (by omega) (fun k hk q => by omega))
  have o8 : GOwn V.heap.size W8 (.slice xa xn xc) g := o.kp (fun k e => hE8.block k (o.ltb e) (fun q => by have := (o.ty e).1; omega))
  have d8 : DOwn V.heap.size W8 dv (dgsW D) := od.kp (fun k e => hE8.block k (od.ltb e) (fun q => by have := (od.ty e).1; omega))
  have hs8 := hE8.size
  have bd : Below W8.heap.size W8 W8.drew := (Below.refl _ _).drew
  have bl := below_lit W8.drew (.cells #[.slice xa xn xc, .bool lf, .bool false] 25)
  have bdl : Below W8.heap.size W8 (W8.drew.alloc (.cells #[.slice xa xn xc, .bool lf, .bool false] 25)) := bd.trans bl
  have hk := hv.bs
  have oL : GOwn base (W8.drew.alloc (.cells #[.slice xa xn xc, .bool lf, .bool false] 25)) (pv (xa, xn, xc)) g := (o8.mono (by omega)).keep bdl
  obtain ⟨pa, pc, a', c', w9, e1, hr, q1, q2, q3, hM, hB, hX⟩ := hv.piece (b8.trans (bdl.mono (by omega))) (x := ((xa, xn, xc), lf, false)) (p := ⟨g, lf, false⟩) oL rfl rfl (fs_lit pccell_len W8.drew 25 [((xa, xn, xc), lf, false)]) hp
  obtain ⟨F, hF⟩ : ∃ F, w9.setCell ⟨B, 2, none⟩ (.slice a' (s.p.length + 1) c') = F := ⟨_, rfl⟩
  rw [hF] at hM hB hX
  have c2 := (hv.box.below b8).cell 2
  subst e1
  obtain ⟨pr2, dv2, P2, hv2⟩ := hM
  have dL := d8.keep bdl
  have dF : DOwn V.heap.size F dv (dgsW D) := dL.kp (fun k e => hX.block k (dL.ltb e) (fun q => by have := (dL.ty e).1; omega))
  obtain ⟨qa, qc, a2, c2', w10, e2, hr2, r1, r2, r3, hM2, hB2, -⟩ := hv2.more (Below.refl _ F) (FOwn.sl edcell_len dF) (by simpa using hd)
  subst e2
  exact ⟨h7.cell 0, h7.frozen (by simp), W8, hW8, hx8.cell 0, hx8.cell 1, hx8.cell 2, pa, pc, a', c', w9, c2, q1, hr, q2, q3, F, hF, qa, qc, a2, _, c2', w10, r1, hr2, r2, r3, Lib.hid ⟨hM2, hB.trans hB2⟩⟩
attribute [local go_sem ↓ high] builtin_appPc builtin_appDg
def WX (s : Ph) (k t : Txt) (n : Nat) (f : Int) (aT bT nm : Txt) (lf : Bool) : Prop := wset k n = f ∧ wahead k n = aT ∧ wbehind k n = bT ∧ (if k = cNm ∧ s.name = [] then t else s.name) = nm ∧ decide (k = cXr ∧ n = 1) = lf
theorem word_new (w : World) (B j : Nat) (v : Value) (L : List Value) (ty : TypeId) : Blk ((w.setCell ⟨B, j, none⟩ v).alloc (.cells L.toArray ty)) w.heap.size ty L := by
  have := heap_alloc_new (w.setCell ⟨B, j, none⟩ v) (.cells L.toArray ty)
  rw [setCell_szz] at this
  exact this
theorem wordP_ph {V : World} {k t : Txt} {n : Nat} {f : Int} {aT bT nm : Txt} {lf : Bool} (hM : PhM base V B ⟨nm, s.op, s.p ++ [⟨ofG f aT ++ (lgS f t).1 ++ ofG f bT, lf, false⟩], s.d ++ (lgS f t).2⟩) (hX : WX s k t n f aT bT nm lf) : PhM base V B (wordP k n t s) := by
  obtain ⟨h1, h2, h3, h4, h5⟩ := hX
  unfold wordP wordG
  rw [h1, h2, h3, h4, h5]
  exact hM
theorem word_hl {t : Txt} (ht : t.length ≤ 2000) : (∀ f V, Calls Try.prog 23 #[.agg #[.int .u8 f, .int .u8 f], .string ⟨t.toArray⟩] V fun e w' => ∃ a na c f1 f2 da dn dc, e = .returned (.tuple #[.slice a na c, .agg #[.int .u8 f1, .int .u8 f2], .slice da dn dc]) ∧ GOwn V.heap.size w' (.slice a na c) (lgS f t).1 ∧ DOwn V.heap.size w' (.slice da dn dc) (dgsW (lgS f t).2) ∧ Below V.heap.size V w') := fun f V => by
  have h0 := line_any f f t V ht
  rw [lgS_dgsW f t] at h0
  refine h0.mono ?_
  rintro e w' ⟨x, d, rfl, o1, o2, o3⟩
  obtain ⟨a, c, rfl⟩ := (FOwn.sl gcell_len o1).len
  obtain ⟨da, dc, rfl⟩ := (FOwn.sl edcell_len o2).len
  exact ⟨a, _, c, _, _, da, _, dc, rfl, o1, o2, o3⟩
theorem word_ho : ∀ (s : Txt) f V, s.length ≤ 10 → Calls Try.prog 20 #[.string ⟨s.toArray⟩, .int .u8 f] V fun e w' => ∃ a na c, e = .returned (.slice a na c) ∧ GOwn V.heap.size w' (.slice a na c) (ofG f s) ∧ Below V.heap.size V w' := fun s f V hs => by
  refine (of_any s f V (by omega)).mono ?_
  rintro e w' ⟨u, rfl, o, b⟩
  obtain ⟨a, c, rfl⟩ := (FOwn.sl gcell_len o).len
  exact ⟨a, _, c, rfl, o, b⟩
theorem word_hc : ∀ g1 g2 g3 v1 v2 v3 V, Gs V v1 g1 → Gs V v2 g2 → Gs V v3 g3 → g1.length + g2.length + g3.length ≤ 400000 → Calls Try.prog 24 #[.slice (some ⟨V.heap.size, 0, none⟩) 3 3] (V.alloc (.cells #[v1, v2, v3] 23)) fun e w' => ∃ a na c, e = .returned (.slice a na c) ∧ GOwn V.heap.size w' (.slice a na c) (g1 ++ g2 ++ g3) ∧ Below V.heap.size V w' := fun g1 g2 g3 v1 v2 v3 V h1 h2 h3 hl => by
  have hb := below_lit V (.cells #[v1, v2, v3] 23)
  have hk : Blk (V.alloc (.cells #[v1, v2, v3] 23)) V.heap.size 23 [v1, v2, v3] := heap_alloc_new V _
  refine (concat3_any g1 g2 g3 v1 v2 v3 V.heap.size _ (hk.cell 0) (hk.cell 1) (hk.cell 2) (Fs.below h1 hb) (Fs.below h2 hb) (Fs.below h3 hb) hl).mono ?_
  rintro e w' ⟨u, rfl, o, b⟩
  obtain ⟨a, c, rfl⟩ := (FOwn.sl gcell_len o).len
  exact ⟨a, _, c, rfl, o.mono hb.size, hb.trans (b.mono hb.size)⟩
end
end Go.Proofs.Ytpcbbhfbldchlaa
