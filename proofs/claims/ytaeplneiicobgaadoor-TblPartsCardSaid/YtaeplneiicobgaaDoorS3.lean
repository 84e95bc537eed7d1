/- A text set as it is read: styles.Line, and the document's. -/
import Derived.Test.YtaeplneiicobgaaDoorEc
import Derived.Test.YtaeplneiicobgaaDoorEe
set_option linter.unusedVariables false
set_option linter.unusedSimpArgs false
namespace Go.Proofs.YtaeplneiicobgaaDoor
open Go.RowKit
def LEnd (w : World) (c : List Gly × Fce) (D : List Dg) (e : Ending) (w' : World) : Prop :=
  ∃ x vd, e = .returned (.tuple #[x, .agg #[.int .u8 c.2.1, .int .u8 c.2.2], vd]) ∧ GOwn w.heap.size w' x c.1 ∧ DOwn w.heap.size w' vd D ∧ Below w.heap.size w w'
set_option maxRecDepth 100000 in
set_option maxHeartbeats 4000000 in
theorem line_any (p q : Int) (b : List UInt8) (w : World) (hb : b.length ≤ 2000) :
    Calls Tryd.prog 60 #[.agg #[.int .u8 p, .int .u8 q], .string ⟨b.toArray⟩] w (LEnd w (gset (p, q) (scanL 0 (dec b)).1) (scanL 0 (dec b)).2) := by
  have hdl := dec_le b
  obtain ⟨W2, hW2⟩ : ∃ W2, (w.alloc (.cells #[.int .u8 p, .int .u8 q] 97)).alloc (.cells #[.int .u8 0, .int .u8 0] 97) = W2 := ⟨_, rfl⟩
  have hR0 := SetR.start w p q
  rw [hW2] at hR0
  have HA := Lib.hid (scan_any b W2 (by omega))
  have hlen := scan_len (dec b)
  unfold ScanEnd at HA
  obtain ⟨TT, hTT⟩ : ∃ TT, (scanL 0 (dec b)).1 = TT := ⟨_, rfl⟩
  obtain ⟨DD, hDD⟩ : ∃ DD, (scanL 0 (dec b)).2 = DD := ⟨_, rfl⟩
  rw [hTT, hDD] at HA hlen ⊢
  have htl : TT.length ≤ 100000 := by omega
  obtain ⟨⟨X, A, B⟩, hS⟩ : ∃ S, gset (p, q) TT = S := ⟨_, rfl⟩
  have HS := Lib.hid (fun v W (h : Ts W v TT) => set_any p q TT v W h htl)
  unfold SEnd at HS
  rw [hS] at HS ⊢
  have R0 := Lib.hid hR0
  clear hdl hlen hTT hDD hS htl hR0
  go_enter Tryd.func60, Tryd.ntmps60
  go_wp2_with fail
  refine HA.out.mono ?_
  rintro e w1 ⟨vt, vd, rfl, o1, o2, b1⟩
  have h1 := R0.out.keep b1
  have c0 : w1.cell? ⟨w.heap.size, 0, none⟩ = some (.int .u8 p) := h1.b0.cell 0
  have c1 : w1.cell? ⟨w.heap.size, 1, none⟩ = some (.int .u8 q) := h1.b0.cell 1
  have hbig := h1.big
  have z2 := R0.out.big
  have HS1 := Lib.hid (HS.out vt w1 (FOwn.sl tcell_len o1))
  have R1 := Lib.hid h1
  have O2 := Lib.hid o2
  obtain ⟨ta, tc, rfl⟩ := (FOwn.sl tcell_len o1).len
  obtain ⟨da, dc, rfl⟩ := (FOwn.sl edcell_len o2).len
  obtain ⟨n1, hn1⟩ : ∃ n, TT.length = n := ⟨_, rfl⟩
  obtain ⟨n2, hn2⟩ : ∃ n, DD.length = n := ⟨_, rfl⟩
  rw [hn1] at HS1
  rw [hn2] at O2
  rw [hn1, hn2]
  clear h1 o1 o2 b1 HA HS hn1 hn2 R0 hW2
  go_wp2_with fail
  refine HS1.out.mono ?_
  rintro e w2 ⟨x, rfl, ox, bx⟩
  have h2 := R1.out.keep bx
  have h3 := h2.turn A B
  have g0 : w2.cell? ⟨w.heap.size, 0, none⟩ = some (.int .u8 p) := h2.b0.cell 0
  have g1 : w2.cell? ⟨w.heap.size, 1, none⟩ = some (.int .u8 q) := h2.b0.cell 1
  have e0 : w2.frozen? ⟨w.heap.size, 0, none⟩ = false := h2.b0.frozen (by simp)
  have e1 : w2.frozen? ⟨w.heap.size, 1, none⟩ = false := h2.b0.frozen (by simp)
  have hz2 := bx.size
  have ox2 : GOwn w1.heap.size ((w2.setCell ⟨w.heap.size, 0, none⟩ (.int .u8 A)).setCell ⟨w.heap.size, 1, none⟩ (.int .u8 B)) x X := ownsRow_setCell_below (ownsRow_setCell_below ox (by simp only; omega) _) (by simp only; omega) _
  have od2 : DOwn W2.heap.size ((w2.setCell ⟨w.heap.size, 0, none⟩ (.int .u8 A)).setCell ⟨w.heap.size, 1, none⟩ (.int .u8 B)) (.slice da n2 dc) DD := ownsRow_setCell_below (ownsRow_setCell_below (O2.out.keep bx) (by simp only; omega) _) (by simp only; omega) _
  clear c0 c1 HS1 R1 bx O2 ox
  obtain ⟨sa, sc, hs⟩ := (FOwn.sl gcell_len ox2).len
  obtain ⟨xl, hxl⟩ : ∃ xl, X.length = xl := ⟨_, rfl⟩
  rw [hxl] at hs
  subst hs
  have HF := Lib.hid h3
  have HX := Lib.hid ox2
  have HD := Lib.hid od2
  clear h2 h3 ox2 od2 hxl
  go_wp2_with fail
  obtain ⟨W3, hW3⟩ : ∃ W3, (w2.setCell ⟨w.heap.size, 0, none⟩ (.int .u8 A)).setCell ⟨w.heap.size, 1, none⟩ (.int .u8 B) = W3 := ⟨_, rfl⟩
  rw [hW3] at HF HX HD
  have k0 : W3.cell? ⟨w.heap.size, 0, none⟩ = some (.int .u8 A) := HF.out.b0.cell 0
  have k1 : W3.cell? ⟨w.heap.size, 1, none⟩ = some (.int .u8 B) := HF.out.b0.cell 1
  have k2 : W3.cell? ⟨w.heap.size + 1, 0, none⟩ = some (.int .u8 0) := HF.out.b1.cell 0
  have k3 : W3.cell? ⟨w.heap.size + 1, 1, none⟩ = some (.int .u8 0) := HF.out.b1.cell 1
  have k4 : W3.frozen? ⟨w.heap.size + 1, 0, none⟩ = false := HF.out.b1.frozen (by simp)
  have k5 : W3.frozen? ⟨w.heap.size + 1, 1, none⟩ = false := HF.out.b1.frozen (by simp)
  rw [hW3]
  obtain ⟨-, o4, o5⟩ := HF.out.fin (.int .u8 A) (.int .u8 B)
  have q0 := o5.cell 0
  have q1 := o5.cell 1
  have o6 : GOwn w1.heap.size ((W3.setCell ⟨w.heap.size + 1, 0, none⟩ (.int .u8 A)).setCell ⟨w.heap.size + 1, 1, none⟩ (.int .u8 B)) (.slice sa xl sc) X := ownsRow_setCell_below (ownsRow_setCell_below HX.out (by simp only; omega) _) (by simp only; omega) _
  have o7 : DOwn W2.heap.size ((W3.setCell ⟨w.heap.size + 1, 0, none⟩ (.int .u8 A)).setCell ⟨w.heap.size + 1, 1, none⟩ (.int .u8 B)) (.slice da n2 dc) DD := ownsRow_setCell_below (ownsRow_setCell_below HD.out (by simp only; omega) _) (by simp only; omega) _
  have O6 := Lib.hid (FOwn.mono (base' := w.heap.size) (o6.keep (Below.refl _ _).drew) (by omega))
  have O7 := Lib.hid (FOwn.mono (base' := w.heap.size) (o7.keep (Below.refl _ _).drew) (by omega))
  have O4 := Lib.hid o4
  simp at q0 q1
  clear o4 o5 o6 o7 HX HD HF hW3
  go_region
  go_wp2_with fail
  exact bodyPost_ret (v := .tuple #[.slice sa xl sc, .agg #[.int .u8 A, .int .u8 B], .slice da n2 dc]) (by simp [results, Tryd.results60, go_sem, q0, q1]) rfl ⟨_, _, rfl, O6.out, O7.out, O4.out⟩
end Go.Proofs.YtaeplneiicobgaaDoor
