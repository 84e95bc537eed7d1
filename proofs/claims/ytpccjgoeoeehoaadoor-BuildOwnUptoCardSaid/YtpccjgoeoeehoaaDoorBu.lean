/- The walk of BuildOwn, over whatever a builder keeps. -/
import Derived.Test.YtpccjgoeoeehoaaDoorBk
import Derived.Test.YtpccjgoeoeehoaaDoorBs
import Derived.Test.YtpccjgoeoeehoaaDoorCc
import Derived.Deep.RegionHeld3
set_option linter.unusedVariables false
set_option linter.unusedSimpArgs false
namespace Go.Proofs.YtpccjgoeoeehoaaDoor
open Go.RowKit
attribute [local go_sem ↓ high] builtin_appG
theorem cell_of_blk {W W' : World} {g : Nat} {j : Nat} (h : W'.heap[g]? = W.heap[g]?) : W'.cell? ⟨g, j, none⟩ = W.cell? ⟨g, j, none⟩ := by simp only [World.cell?, h]
theorem hdl_parts' (h : Hd) : h.text.length ≤ hdl h ∧ h.rows.length + lens h.rows ≤ hdl h ∧ trls h.grid.rows ≤ hdl h := by unfold hdl; omega
def SpK (g o n : Nat) (W : World) : Prop := ∀ i, i < n → (∃ v, W.cell? ⟨g, o + i * 10 + 1, none⟩ = some v) ∧ (∃ v, W.cell? ⟨g, o + i * 10 + 4, none⟩ = some v) ∧ W.frozen? ⟨g, o + i * 10 + 1, none⟩ = false ∧ W.frozen? ⟨g, o + i * 10 + 4, none⟩ = false
theorem set_some (W : World) (g p q : Nat) (u : Value) (h : ∃ v, W.cell? ⟨g, q, none⟩ = some v) : ∃ v, (W.setCell ⟨g, p, none⟩ u).cell? ⟨g, q, none⟩ = some v := by
  have h1 := World.isSome_setCells g [u] p W ⟨g, q, none⟩ (by obtain ⟨v, hv⟩ := h; rw [hv]; rfl)
  exact Option.isSome_iff_exists.1 h1
theorem set_frozen (W : World) (g p q : Nat) (u : Value) : (W.setCell ⟨g, p, none⟩ u).frozen? ⟨g, q, none⟩ = W.frozen? ⟨g, q, none⟩ := World.frozen?_setCells g [u] p W ⟨g, q, none⟩
theorem SpK.set {g o n p : Nat} {u : Value} {W : World} (h : SpK g o n W) : SpK g o n (W.setCell ⟨g, p, none⟩ u) := fun i hi => by
  obtain ⟨h1, h2, h3, h4⟩ := h i hi
  exact ⟨set_some W g p _ u h1, set_some W g p _ u h2, by rw [set_frozen]; exact h3, by rw [set_frozen]; exact h4⟩
theorem NsS.spk {S : Nat → Prop} {w : World} {g o n c : Nat} {l : List Nd} (h : NsS S w (.slice (some ⟨g, o, none⟩) n c) l) (h0 : ¬ S 0) : SpK g o l.length w := fun i hi => by
  cases h with
  | mk _ _ L hl hs hh hk =>
    obtain ⟨x, hx⟩ : ∃ x, L[i]? = some x := ⟨L[i]'(by omega), List.getElem?_eq_getElem _⟩
    have hn : n = L.length := by
      obtain ⟨a, c', e⟩ := hs.1.len
      injection e
    obtain ⟨g', o', e, hg, hc⟩ := hs.at hx
    injection e with e
    injection e with e1 e2
    subst e1 e2
    have hf := (hs.2 _ _ _ rfl (by omega)).2 h0
    refine ⟨⟨_, by rw [Nat.add_assoc]; exact hc 1 _ rfl⟩, ⟨_, by rw [Nat.add_assoc]; exact hc 4 _ rfl⟩, ?_, ?_⟩
    · rw [Nat.add_assoc]; exact hf _ (by omega)
    · rw [Nat.add_assoc]; exact hf _ (by omega)
set_option maxRecDepth 100000 in
set_option maxHeartbeats 16000000 in
theorem buildown_walk (BI : BIT) (TB : World → Prop) (I : Impl BI TB) (hAdd : ∀ {X R S : Nat → Prop} {w : World} {b : Nat} {t : Bt} {nv : NV} {y : Nd}, BI X R w b t → TB w → NdIs S w nv y → (∀ k, S k → k < w.heap.size ∧ ¬ X k) → btl t + nlN y ≤ 30000 → Calls Tryd.prog 20 #[ptrV b, .agg (ncell nv).toArray] w fun e w' => e = .returned (.tuple #[]) ∧ Aft BI X R (fun _ => False) w b (bAdd t y) w')
    (hC : ∀ (S : Nat → Prop) (m : Nm) (l : List Nd) (v : Value) (w : World), nlL l ≤ 90000 → NsS S w v l → (∀ x, S x → x < w.heap.size) → Calls Tryd.prog 21 #[docV m v] w fun e w' => e = .returned (.int .i64 (checkL l)) ∧ Below w.heap.size w w')
    (hK : ∀ W, TB W → Calls Tryd.prog 9 #[] W fun e w' => e = .returned (.bool true) ∧ Below W.heap.size W w') (l : List Dd) (v : Value) (xn : NV) (yn : Nd) (w : World) (hTB : TB w) (hv : DosS (fun k => k < w.heap.size) w v l) (hb : ddls l ≤ 1000000000) (hsl : ∀ d ∈ l, d.s.length ≤ 2000000) (hx : NdIs (fun k => k < w.heap.size) w xn yn) (hnl : nlN yn ≤ 900000000) :
    Calls Tryd.prog 4 #[v, .agg (ncell xn).toArray] w fun e w' => e = .returned (.bool true) ∧ Below w.heap.size w w' := by
  obtain ⟨W0, hW0⟩ : ∃ W, W = w.alloc (.cells (ncell xn).toArray 40) := ⟨_, rfl⟩
  have b0 : Below w.heap.size w W0 := by rw [hW0]; exact below_lit _ _
  have kx : Blk W0 w.heap.size 40 (ncell xn) := by rw [hW0]; exact heap_alloc_new w _
  have hz0 : W0.heap.size = w.heap.size + 1 := by rw [hW0, World.size_alloc]
  have kw : Kp (fun k => k < w.heap.size) w W0 := Kp.below b0 (fun k q => q)
  have up : ∀ k, k < w.heap.size → k < W0.heap.size := fun k q => by omega
  have hv0 : DosS (fun k => k < W0.heap.size) W0 v l := (hv.keep kw).mono up
  have hx0 : NdIs (fun k => k < w.heap.size) W0 xn yn := hx.keep kw
  have HLG := Lib.hid (llong_any _ l v W0 (fun k q => q) hv0 hb)
  have hlf : longD l = false → ddls l ≤ 800 ∧ l.length ≤ 60 := longD_false
  obtain ⟨xg, hxg⟩ : ∃ x, longD l = x := ⟨_, rfl⟩
  rw [hxg] at HLG hlf
  have HV := Lib.hid hv0
  have HTB : Hid (TB W0) := Lib.hid (I.tb hTB b0)
  have HSL := Lib.hid hsl
  have HLF := Lib.hid hlf
  have HB0 := Lib.hid b0
  have HZ0 := Lib.hid hz0
  have HX0N := Lib.hid hx0
  have HKX := Lib.hid kx
  have HK : Hid (∀ W, Below W0.heap.size W0 W → Calls Tryd.prog 9 #[] W fun e w' => e = .returned (.bool true) ∧ Below w.heap.size w w') := Lib.hid (fun W q => (hK W (I.tb HTB.out q)).mono fun e w' ⟨e1, e2⟩ => ⟨e1, b0.trans ((q.trans (e2.mono q.size)).mono (by omega))⟩)
  have HL7 : Hid (∀ W, Below W0.heap.size W0 W → Calls Tryd.prog 19 #[.slice (some ⟨W.heap.size, 0, none⟩) 1 1] (W.alloc (.cells (ncell xn).toArray 40)) fun e w' => e = .returned (.int .i64 (nlN yn : Int)) ∧ Below W.heap.size W w') := Lib.hid (fun W hW => by
    have hl := below_lit W (.cells (ncell xn).toArray 40)
    have hlw : Kp (fun k => k < w.heap.size) W0 (W.alloc (.cells (ncell xn).toArray 40)) := Kp.below (hW.trans (hl.mono hW.size)) up
    have hns : NsS (fun k => k < w.heap.size ∨ k = W.heap.size) (W.alloc (.cells (ncell xn).toArray 40)) (.slice (some ⟨W.heap.size, 0, none⟩) 1 1) [yn] := by
      have hf := fs_lit ncell_len W 40 [xn]
      rw [flatV_one] at hf
      refine .mk _ _ [xn] rfl ⟨hf, fun a k c e _ => ?_⟩ (fun i x y p q => ?_) (fun i x y p q => ?_)
      · injection e with e1
        injection e1 with e1
        subst e1
        have hg := heap_alloc_new W (.cells (ncell xn).toArray 40)
        exact ⟨.inr rfl, fun _ i _ => by simp only [World.frozen?, hg]; simp⟩
      · obtain ⟨rfl, rfl⟩ := one_at' p q
        exact (hx0.keep hlw).1.mono (fun k q => .inl q)
      · obtain ⟨rfl, rfl⟩ := one_at' p q
        exact (hx0.keep hlw).2.mono (fun k q => .inl q)
    refine (rlong_any _ _ [yn] rfl (by simp only [nlL]; omega) _ _ hns).mono ?_
    rintro e w' ⟨h1, m, h2⟩
    refine ⟨by rw [h1]; simp [nlL], ?_⟩
    rw [h2]
    exact ⟨hl.os, hl.tape, hl.output, hl.size, hl.block⟩)
  obtain ⟨va, vc, rfl⟩ := hv.len
  obtain ⟨ln, hln⟩ : ∃ n, l.length = n := ⟨_, rfl⟩
  have HLN := Lib.hid hln
  rw [hln] at HV HLG ⊢
  have htt : FsS (fun k => k < w.heap.size) 2 gcell W0 (pv xn.text) yn.hd.text := hx0.1.text
  have hgt0 := hx0.1
  obtain ⟨xk, xl, xm, ⟨t1, t2, t3⟩, ⟨k1, k2, k3⟩, ⟨r1, r2, r3⟩, xc, ⟨q1, q2, q3⟩, xb, xa⟩ := xn
  obtain ⟨tx, htx⟩ : ∃ q, yn.hd.text = q := ⟨_, rfl⟩
  simp only at htt
  rw [htx] at htt
  obtain rfl : t2 = tx.length := by
    obtain ⟨a, c, e⟩ := htt.1.len
    simp only [pv] at e
    injection e
  have HTT := Lib.hid htt
  have HTX := Lib.hid htx
  have htn : tx.length ≤ nlN yn := by
    have h1 := (hdl_parts' yn.hd).1
    rw [nlN_eq, ← htx]
    omega
  have HTN := Lib.hid htn
  simp only [ncell, pv] at hW0 HL7 HTT ⊢
  have HW0 := Lib.hid hW0
  have c0 := HKX.out.cell 0
  have c1 := HKX.out.cell 1
  have c2 := HKX.out.cell 2
  have c3 := HKX.out.cell 3
  have c4 := HKX.out.cell 4
  have c5 := HKX.out.cell 5
  have c6 := HKX.out.cell 6
  have c7 := HKX.out.cell 7
  have c8 := HKX.out.cell 8
  have c9 := HKX.out.cell 9
  simp only [ncell, pv, List.getElem?_cons_zero, List.getElem?_cons_succ] at c0 c1 c2 c3 c4 c5 c6 c7 c8 c9
  have HCX : Hid (∀ W, Below W0.heap.size W0 W → W.cell? ⟨w.heap.size, 0, none⟩ = some (.int .i64 xk) ∧ W.cell? ⟨w.heap.size, 1, none⟩ = some (.int .i64 xl) ∧ W.cell? ⟨w.heap.size, 2, none⟩ = some (.int .i64 xm) ∧ W.cell? ⟨w.heap.size, 3, none⟩ = some (.slice t1 tx.length t3) ∧ W.cell? ⟨w.heap.size, 4, none⟩ = some (.slice k1 k2 k3) ∧ W.cell? ⟨w.heap.size, 5, none⟩ = some (.slice r1 r2 r3) ∧ W.cell? ⟨w.heap.size, 6, none⟩ = some (.string ⟨xc.toArray⟩) ∧ W.cell? ⟨w.heap.size, 7, none⟩ = some (.slice q1 q2 q3) ∧ W.cell? ⟨w.heap.size, 8, none⟩ = some (.bool xb) ∧ W.cell? ⟨w.heap.size, 9, none⟩ = some (.bool xa)) := Lib.hid (fun W hW => ⟨below_eq hW c0, below_eq hW c1, below_eq hW c2, below_eq hW c3, below_eq hW c4, below_eq hW c5, below_eq hW c6, below_eq hW c7, below_eq hW c8, below_eq hW c9⟩)
  obtain ⟨nx, hnx⟩ : ∃ n, nlN yn = n := ⟨_, rfl⟩
  rw [hnx] at HL7 hnl HTN
  have HNX2 := Lib.hid hnx
  clear hv hTB hsl hlf hxg hln b0 kx hz0 kw up hv0 hx0 hx htt hgt0 htx htn hW0 hnx
  go_enter Tryd.func4, Tryd.ntmps4
  go_upto_region 1 with fail
  rw [← HW0.out]
  clear HW0
  go_wp2_with fail
  refine HLG.out.mono ?_
  rintro e w1 ⟨rfl, hb1⟩
  have HB1 := Lib.hid hb1
  clear hb1 HLG
  cases xg with
  | true =>
    go_wp2_with fail
    refine (HK.out _ HB1.out).mono ?_
    rintro e w9 ⟨rfl, b9⟩
    have B9 := Lib.hid b9
    clear b9
    go_wp2_with fail
    go_ret
    exact ⟨rfl, B9.out⟩
  | false =>
    obtain ⟨hl1, hl2⟩ := HLF.out rfl
    rw [HLN.out] at hl2
    obtain ⟨d0, d1, d2, d3, d4, d5, d6, d7, d8, d9⟩ := HCX.out _ HB1.out
    have HL8 := Lib.hid (HL7.out _ HB1.out)
    go_wp2_with fail
    refine HL8.out.mono ?_
    rintro e w1b ⟨rfl, hb1b⟩
    have HB1b : Hid (Below W0.heap.size W0 w1b) := Lib.hid (HB1.out.trans (hb1b.mono HB1.out.size))
    clear hb1b HL8 HL7 d0 d1 d2 d3 d4 d5 d6 d7 d8 d9 c0 c1 c2 c3 c4 c5 c6 c7 c8 c9 HB1
    by_cases hnx2 : 200 < nx
    · have hq : (200 : Int) < (nx : Int) := by omega
      go_wp2_with fail
      refine (HK.out _ HB1b.out).mono ?_
      rintro e w9 ⟨rfl, b9⟩
      have B9 := Lib.hid b9
      clear b9
      go_wp2_with fail
      go_ret
      exact ⟨rfl, B9.out⟩
    · have hq : ¬ (200 : Int) < (nx : Int) := by omega
      have HNW := Lib.hid (I.new w1b)
      go_wp2_with fail
      refine HNW.out.mono ?_
      rintro e w2 ⟨b, X0, rfl, h1, h2, h3⟩
      have HBI0 := Lib.hid h1
      have HBW0 : Hid (Below W0.heap.size W0 w2) := Lib.hid (HB1b.out.trans (h2.mono HB1b.out.size))
      have HX0 : Hid (∀ k, X0 k → W0.heap.size ≤ k) := Lib.hid (fun k q => Nat.le_trans HB1b.out.size (h3 k q))
      have HNX200 : Hid (nx ≤ 200) := Lib.hid (by omega)
      clear h1 h2 h3 HNW HB1b hq hnx2 hnl HLF
      go_wp2_with fail
      go_loopw [6] (fun i wr => ∃ (p : Nat) (t : Bt) (X R : Nat → Prop), p ≤ ln ∧ i = .int .i64 (p : Int) ∧ Hid (BI X R wr b t) ∧ Hid (Below W0.heap.size W0 wr) ∧ Hid (∀ k, X k → W0.heap.size ≤ k) ∧ Hid (btl t ≤ ddls (l.take p) + 3 * p)) (fun i _ => ln - (intOf i).toNat)
      case atStart => exact ⟨0, bt0, X0, _, by omega, rfl, HBI0, HBW0, HX0, Lib.hid (by show btl bt0 ≤ _; exact Nat.zero_le _)⟩
      case round =>
        obtain ⟨p, t, X, R, hp, rfl, HBI, HBW, HX, HBT⟩ := hrel
        by_cases hlt : p < ln
        · skip
          obtain ⟨y, hy⟩ : ∃ y, l[p]? = some y := ⟨l[p]'(by rw [HLN.out]; exact hlt), List.getElem?_eq_getElem _⟩
          have hmem := List.mem_of_getElem? hy
          have HNX := Lib.hid (ddls_next hy)
          have hle := ddls_le hy
          have hst := btl_step t y
          have hbt := HBT.out
          obtain ⟨g, off, dv, rfl, -, hC, hD⟩ := (HV.out.keep (Kp.below HBW.out (fun k q => q))).at hy
          have hSX : ∀ k, (fun k => k < W0.heap.size) k → k < wr.heap.size ∧ ¬ X k := fun k q => ⟨Nat.lt_of_lt_of_le q HBW.out.size, fun z => by have h1 := HX.out k z; simp only at q; omega⟩
          have HDN := Lib.hid (ldone_any (Aft BI X R (fun k => k < W0.heap.size) wr b) (fun k => k < W0.heap.size) b t dv y wr (fun k q => (hSX k q).1) hD (HSL.out y hmem) (I.told HBI.out (I.tb HTB.out HBW.out) hD hSX (by omega)))
          obtain ⟨dk, ⟨s1, s2, s3⟩, ⟨xk, xl, xn, ⟨t1, t2, t3⟩, ⟨k1, k2, k3⟩, ⟨r1, r2, r3⟩, xc, ⟨q1, q2, q3⟩, xb, xa⟩, dn, ⟨l1, l2, l3⟩, ⟨g1, g2, g3⟩⟩ := dv
          simp only [dcell, pv] at HDN
          have hlt' : (p : Int) < (ln : Int) := by omega
          have hp0 : (0 : Int) ≤ (p : Int) := by omega
          have c0 : wr.cell? ⟨g, off + p * 15, none⟩ = some (.int .i64 dk) := hC 0 _ rfl
          have c1 : wr.cell? ⟨g, off + p * 15 + 1, none⟩ = some (.slice s1 s2 s3) := hC 1 _ rfl
          have c2 : wr.cell? ⟨g, off + p * 15 + 2, none⟩ = some (.int .i64 xk) := hC 2 _ rfl
          have c3 : wr.cell? ⟨g, off + p * 15 + 3, none⟩ = some (.int .i64 xl) := hC 3 _ rfl
          have c4 : wr.cell? ⟨g, off + p * 15 + 4, none⟩ = some (.int .i64 xn) := hC 4 _ rfl
          have c5 : wr.cell? ⟨g, off + p * 15 + 5, none⟩ = some (.slice t1 t2 t3) := hC 5 _ rfl
          have c6 : wr.cell? ⟨g, off + p * 15 + 6, none⟩ = some (.slice k1 k2 k3) := hC 6 _ rfl
          have c7 : wr.cell? ⟨g, off + p * 15 + 7, none⟩ = some (.slice r1 r2 r3) := hC 7 _ rfl
          have c8 : wr.cell? ⟨g, off + p * 15 + 8, none⟩ = some (.string ⟨xc.toArray⟩) := hC 8 _ rfl
          have c9 : wr.cell? ⟨g, off + p * 15 + 9, none⟩ = some (.slice q1 q2 q3) := hC 9 _ rfl
          have c10 : wr.cell? ⟨g, off + p * 15 + 10, none⟩ = some (.bool xb) := hC 10 _ rfl
          have c11 : wr.cell? ⟨g, off + p * 15 + 11, none⟩ = some (.bool xa) := hC 11 _ rfl
          have c12 : wr.cell? ⟨g, off + p * 15 + 12, none⟩ = some (.int .i64 dn) := hC 12 _ rfl
          have c13 : wr.cell? ⟨g, off + p * 15 + 13, none⟩ = some (.slice l1 l2 l3) := hC 13 _ rfl
          have c14 : wr.cell? ⟨g, off + p * 15 + 14, none⟩ = some (.slice g1 g2 g3) := hC 14 _ rfl
          have HST : Hid (btl (bStep t y).1 ≤ ddls (l.take (p + 1)) + 3 * (p + 1)) := Lib.hid (by rw [HNX.out]; omega)
          clear hy hmem hC hD hSX hst hbt hle
          go_wp2_with fail
          refine HDN.out.mono ?_
          rintro e wq ⟨rfl, X', R', h1, h2, h3, h4⟩
          have HB' := Lib.hid h1
          have HW' : Hid (Below W0.heap.size W0 wq) := Lib.hid (HBW.out.trans (h2.below HBW.out.size HX.out))
          have HX' : Hid (∀ k, X' k → W0.heap.size ≤ k) := Lib.hid (fun k q => (h3 k q).elim (HX.out k) (fun z => Nat.le_trans HBW.out.size z))
          clear h1 h2 h3 h4 HDN c0 c1 c2 c3 c4 c5 c6 c7 c8 c9 c10 c11 c12 c13 c14
          go_wp2_with fail
          go_roundw
          case rel => exact ⟨p + 1, _, X', R', by omega, by go_num, HB', HW', HX', HST⟩
          case measure => (simp [intOf]; try omega)
        · have hlt' : ¬ (p : Int) < (ln : Int) := by omega
          have hbt := HBT.out
          have hdt := ddls_take l p
          have hB9 : btl t ≤ 1000 := by omega
          have HB9 := Lib.hid hB9
          have hs1 := HBW.out.size
          have hwz : w.heap.size < W0.heap.size := by rw [HZ0.out]; omega
          have HWR := Lib.hid (HCX.out _ HBW.out)
          obtain ⟨d0, d1, d2, d3, d4, d5, d6, d7, d8, d9⟩ := HWR.out
          have htg : Gs wr (.slice t1 tx.length t3) tx := (HTT.out.keep (Kp.below HBW.out (fun k q => by omega))).1
          obtain ⟨u, w3, hr3, ho3, hg3, hq3⟩ := appG_own (FOwn.nil (e := 56) (n := 2) (f := gcell) wr.heap.size wr) htg (Nat.le_refl _) (by have := HTN.out; have := HNX200.out; simp; omega)
          rw [List.nil_append] at ho3
          have hb3 : Below wr.heap.size wr w3 := (FOwn.nil (e := 56) (n := 2) (f := gcell) wr.heap.size wr).below (Below.refl _ _) (Nat.le_refl _) hg3
          obtain ⟨ua, uc, rfl⟩ := (FOwn.sl gcell_len ho3).len
          obtain ⟨Y5, hY5⟩ : ∃ W, W = w3.alloc (.cells #[.int .i64 xk, .int .i64 xl, .int .i64 xm, .slice ua tx.length uc, .slice k1 k2 k3, .slice r1 r2 r3, .string ⟨xc.toArray⟩, .slice q1 q2 q3, .bool xb, .bool xa] 40) := ⟨_, rfl⟩
          have b35 : Below w3.heap.size w3 Y5 := by rw [hY5]; exact below_lit _ _
          have b5 : Below wr.heap.size wr Y5 := hb3.trans (b35.mono hb3.size)
          have hz5 : Y5.heap.size = w3.heap.size + 1 := by rw [hY5, World.size_alloc]
          obtain ⟨d0', d1', d2', d3', d4', d5', d6', d7', d8', d9'⟩ := HCX.out w3 (HBW.out.trans (hb3.mono HBW.out.size))
          have kY : Blk Y5 w3.heap.size 40 [.int .i64 xk, .int .i64 xl, .int .i64 xm, .slice ua tx.length uc, .slice k1 k2 k3, .slice r1 r2 r3, .string ⟨xc.toArray⟩, .slice q1 q2 q3, .bool xb, .bool xa] := by rw [hY5]; exact heap_alloc_new w3 _
          have ho5 : FOwn 56 2 gcell wr.heap.size Y5 (.slice ua tx.length uc) tx := ho3.keep b35
          have hBI5 := I.keep HBI.out (Kp.below b5 (fun k q => I.lt HBI.out k (.inl q))) (Kp.below b5 (fun k q => I.lt HBI.out k (.inr q))) b5.size
          have hBW5 := HBW.out.trans (b5.mono HBW.out.size)
          have kX5 : Kp (fun k => k < w.heap.size) W0 Y5 := Kp.below hBW5 (fun k q => by omega)
          have hH := HX0N.out.1.keep kX5
          have hN := HX0N.out.2.keep kX5
          have hnd : NdIs (fun k => k < w.heap.size ∨ (Value.slice ua tx.length uc).ownBlock = some k) Y5 ⟨xk, xl, xm, (ua, tx.length, uc), (k1, k2, k3), (r1, r2, r3), xc, (q1, q2, q3), xb, xa⟩ yn :=
            ⟨⟨hH.kind, hH.line, hH.n, by rw [HTX.out]; exact (own_blk gcell_len ho5).mono (fun k e => .inr e), hH.rows.mono (fun k q => .inl q), hH.cols, hH.trows.mono (fun k q => .inl q), hH.box, hH.all⟩, hN.mono (fun k q => .inl q)⟩
          have hob : ∀ k, (Value.slice ua tx.length uc).ownBlock = some k → wr.heap.size ≤ k ∧ k < Y5.heap.size := fun k e => ⟨(ho5.ty e).1, ho5.ltb e⟩
          have HADD := Lib.hid (hAdd hBI5 (I.tb HTB.out hBW5) hnd (fun k q => ⟨q.elim (fun q => by have := hBW5.size; omega) (fun q => (hob k q).2), fun z => by
            have h1 := I.lt HBI.out k (.inl z)
            have h2 := HX.out k z
            rcases q with q | q
            · omega
            · have := (hob k q).1; omega⟩) (by rw [HNX2.out]; have := HNX200.out; omega))
          simp only [ncell, pv] at HADD
          have e0 := kY.cell 0
          have e1 := kY.cell 1
          have e2 := kY.cell 2
          have e3 := kY.cell 3
          have e4 := kY.cell 4
          have e5 := kY.cell 5
          have e6 := kY.cell 6
          have e7 := kY.cell 7
          have e8 := kY.cell 8
          have e9 := kY.cell 9
          simp only [List.getElem?_cons_zero, List.getElem?_cons_succ] at e0 e1 e2 e3 e4 e5 e6 e7 e8 e9
          have HLTX : Hid (∀ k, X k ∨ R k → k < wr.heap.size) := Lib.hid (fun k q => I.lt HBI.out k q)
          have HO5 := Lib.hid ho5
          have HBW5 := Lib.hid hBW5
          have HY5 := Lib.hid hY5
          have HS5 := Lib.hid b5.size
          obtain ⟨M, hM⟩ : ∃ M, wr.heap.size = M := ⟨_, rfl⟩
          rw [hM] at ho5
          have HMW : Hid (W0.heap.size ≤ M) := Lib.hid (by rw [← hM]; exact HBW.out.size)
          have HLTX : Hid (∀ k, X k ∨ R k → k < M) := Lib.hid (fun k q => by rw [← hM]; exact I.lt HBI.out k q)
          have HO5 := Lib.hid ho5
          have HBW5 := Lib.hid hBW5
          have HY5 := Lib.hid hY5
          clear hbt hdt hB9 hs1 htg ho3 hg3 hq3 hb3 b35 b5 hz5 kY ho5 hBI5 hBW5 kX5 hH hN hnd hob hY5 HBI HBT hM
          obtain ⟨n, hn⟩ : ∃ n, tx.length = n := ⟨_, rfl⟩
          have HNN := Lib.hid hn
          rw [hn] at HADD HO5 HY5 HTN e3 d3 d3' hr3 ⊢
          clear hn
          have hn9 : n ≤ 200 := by have := HTN.out; have := HNX200.out; omega
          go_upto_region 12 with fail
          rw [← HY5.out]
          clear HY5 d0 d1 d2 d3 d4 d5 d6 d7 d8 d9 d0' d1' d2' d3' d4' d5' d6' d7' d8' d9' hr3
          go_wp2_with fail
          refine HADD.out.mono ?_
          rintro e w6 ⟨rfl, X2, R2, g1, g2, g3, g4⟩
          have hBW6 := HBW5.out.trans (g2.below HBW5.out.size HX.out)
          have hlt2 : ∀ k, X2 k ∨ R2 k → k < w6.heap.size := I.lt g1
          have hnob : ∀ k, (Value.slice ua n uc).ownBlock = some k → ¬ X2 k ∧ ¬ R2 k ∧ k < w6.heap.size := fun k e => by
            have h1 := (HO5.out.ty e).1
            have h2 := HO5.out.ltb e
            have h3 := g2.size
            refine ⟨fun z => ?_, fun z => ?_, by omega⟩
            · rcases g3 k z with z | z
              · have := HLTX.out k (.inl z); omega
              · omega
            · rcases g4 k z with z | z | z | z
              · have := HLTX.out k (.inr z); omega
              · exact z
              · have := HLTX.out k (.inl z); omega
              · omega
          have ho6 : FOwn 56 2 gcell M w6 (.slice ua n uc) tx := HO5.out.kp (fun k e => g2.block k (HO5.out.ltb e) (fun z => by have := HLTX.out k (.inl z); have := (HO5.out.ty e).1; omega))
          have hbt6 : btl (bAdd t yn) ≤ 1300 := by
            have h1 := btl_add t yn
            have h2 := HB9.out
            have h3 := HNX2.out
            have h4 := HNX200.out
            omega
          obtain ⟨tt, htt⟩ : ∃ q, bAdd t yn = q := ⟨_, rfl⟩
          rw [htt] at g1 hbt6
          obtain ⟨nm, hnm⟩ : ∃ q, tt.nm = q := ⟨_, rfl⟩
          obtain ⟨A, hA⟩ : ∃ q, bDoc tt = q := ⟨_, rfl⟩
          have hdc : ∀ W, Below W0.heap.size W0 W → Kp X2 w6 W → Kp R2 w6 W → w6.heap.size ≤ W.heap.size → Calls Tryd.prog 17 #[ptrV b] W fun e w' => ∃ s : PV, e = .returned (docV nm (pv s)) ∧ NsS (fun k => W.heap.size ≤ k ∧ k < w'.heap.size) w' (pv s) A ∧ Below W.heap.size W w' := fun W h0 hX' hR' hs => by
            have h := I.doc (I.keep g1 hX' hR' hs) (I.tb HTB.out h0) (by omega)
            rw [hnm, hA] at h
            exact h
          unfold docV docL at hdc
          have HDC := Lib.hid hdc
          have HCK : Hid (checkL A = 0) := Lib.hid (by rw [← hA]; exact check_tidy _)
          have HSZ : Hid (nlL A ≤ 90000) := Lib.hid (by
            have h1 := tidy_size (bAll (bEnd tt))
            have h2 := btl_all (bEnd tt)
            have h3 := btl_end tt
            have h5 : bDoc tt = tidyL (bAll (bEnd tt)) := rfl
            rw [← h5, hA] at h1
            omega)
          have HBW6 := Lib.hid hBW6
          have HLT2 := Lib.hid hlt2
          have HNOB := Lib.hid hnob
          have HO6 := Lib.hid ho6
          have HD1 := Lib.hid (HDC.out w6 hBW6 (Kp.refl _ _) (Kp.refl _ _) (Nat.le_refl _))
          clear g1 g2 g3 g4 hBW6 hlt2 hnob ho6 hbt6 htt hnm hA hdc HADD HLTX HO5 HBW5 HX HB9 HX0N e0 e1 e2 e3 e4 e5 e6 e7 e8 e9
          go_wp2_with fail
          refine HD1.out.mono ?_
          rintro e w7 ⟨⟨s1, s2, s3⟩, rfl, hn1, hb7⟩
          simp only [pv] at hn1 ⊢
          obtain ⟨X7, hX7⟩ : ∃ Y, Y = w7.alloc (.cells #[.string ⟨nm.a.toArray⟩, .string ⟨nm.b.toArray⟩, .string ⟨nm.c.toArray⟩, .string ⟨nm.d.toArray⟩, .slice s1 s2 s3] 29) := ⟨_, rfl⟩
          have b7 : Below w7.heap.size w7 X7 := by rw [hX7]; exact below_lit _ _
          have b67 : Below w6.heap.size w6 X7 := hb7.trans (b7.mono hb7.size)
          obtain ⟨a1, ha1⟩ : ∃ q, w6.heap.size = q := ⟨_, rfl⟩
          obtain ⟨o1, ho1⟩ : ∃ q, w7.heap.size = q := ⟨_, rfl⟩
          have hao : a1 ≤ o1 := by rw [← ha1, ← ho1]; exact hb7.size
          have D7 : OneD o1 a1 nm (s1, s2, s3) A X7 := ⟨by rw [← ho1, hX7]; exact heap_alloc_new w7 _, (hn1.keep (Kp.below b7 (fun k q => q.2))).mono (fun k q => ⟨by rw [← ha1]; exact q.1, by rw [← ho1]; exact q.2⟩)⟩
          have HD7 := Lib.hid D7
          have HBW7 : Hid (Below W0.heap.size W0 X7) := Lib.hid (HBW6.out.trans (b67.mono HBW6.out.size))
          have HO7 : Hid (∃ L : List Gly, FOwn 56 2 gcell M X7 (.slice ua n uc) L ∧ L.length = n) := Lib.hid ⟨tx, HO6.out.keep b67, HNN.out⟩
          have HB67 := Lib.hid b67
          have HA1 := Lib.hid ha1
          have HO1 := Lib.hid ho1
          have HX7 := Lib.hid hX7
          have HZ7 : Hid (X7.heap.size = o1 + 1) := Lib.hid (by rw [hX7, World.size_alloc, ho1])
          clear hn1 hb7 hX7 b7 b67 ha1 ho1 D7 HD1 HO6 HBW6
          go_upto_region 14 with fail
          rw [← HX7.out, HO1.out]
          clear HX7 HO1
          go_wp2_with fail
          go_loopw [10] (fun i wz => ∃ j : Nat, j ≤ n ∧ i = .int .i64 (j : Int) ∧ Hid (∃ L : List Gly, FOwn 56 2 gcell M wz (.slice ua n uc) L ∧ L.length = n) ∧ Hid (Exc (fun k => (Value.slice ua n uc).ownBlock = some k) X7 wz)) (fun i _ => n - (intOf i).toNat)
          case atStart => exact ⟨0, by omega, rfl, HO7, Lib.hid (Exc.refl _ _)⟩
          case round =>
            rename World => wz
            obtain ⟨j, hj, rfl, HLO, HEX⟩ := hrel
            clear HO7
            by_cases hlj : j < n
            · obtain ⟨LG, hLG, hLl⟩ := HLO.out
              obtain ⟨⟨gr, gs⟩, hgx⟩ : ∃ q, LG[j]? = some q := ⟨LG[j]'(by omega), List.getElem?_eq_getElem _⟩
              obtain ⟨g, c', e, -, hg, cur, hcur, -⟩ := hLG.place gcell_len (by omega)
              rw [hLl] at e
              injection e with e1 e2 e3
              subst e1 e3
              obtain ⟨q1, f1⟩ := hLG.slotA gcell_len hgx (i := 0) (u := .int .i32 gr) rfl
              obtain ⟨q2, f2⟩ := hLG.slotA gcell_len hgx (i := 1) (u := .int .u8 gs) rfl
              simp only [Nat.add_zero] at q1 f1
              have hp := hLG.putA gcell_len (j := j) (by omega) ((33, 0) : Gly)
              have HP : Hid (∃ L : List Gly, FOwn 56 2 gcell M ((wz.setCell ⟨g, j * 2, none⟩ (.int .i32 33)).setCell ⟨g, j * 2 + 1, none⟩ (.int .u8 0)) (.slice (some ⟨g, 0, none⟩) n uc) L ∧ L.length = n) := Lib.hid ⟨_, hp, by rw [List.length_set]; exact hLl⟩
              have HEP : Hid (Exc (fun k => (Value.slice (some ⟨g, 0, none⟩) n uc).ownBlock = some k) X7 ((wz.setCell ⟨g, j * 2, none⟩ (.int .i32 33)).setCell ⟨g, j * 2 + 1, none⟩ (.int .u8 0))) := Lib.hid ((HEX.out.set _ _ (fun _ => rfl)).set _ _ (fun _ => rfl))
              have hi0 : (j : Int) < (n : Int) := by omega
              have hi1 : (0 : Int) ≤ (j : Int) := by omega
              clear hLG hLl hgx hg hcur e2 hp HLO HEX
              go_wp2_with fail
              go_roundw
              case rel => exact ⟨j + 1, by omega, by go_num, HP, HEP⟩
              case measure => (simp [intOf]; try omega)
            · have hlj' : ¬ (j : Int) < (n : Int) := by omega
              obtain rfl : j = n := by omega
              have hE := HEX.out
              have hbw : Below W0.heap.size W0 wz := HBW7.out.trans (hE.below HBW7.out.size (fun k q z => by
                obtain ⟨LG, hLG, -⟩ := HLO.out
                have h1 := (hLG.ty z).1
                have h2 := HMW.out
                omega))
              have kX : ∀ S : Nat → Prop, (∀ k, S k → k < w6.heap.size ∧ (Value.slice ua j uc).ownBlock ≠ some k) → Kp S w6 wz := fun S hS k q => (hE.block k (Nat.lt_of_lt_of_le (hS k q).1 HB67.out.size) (hS k q).2).trans (HB67.out.block k (hS k q).1)
              have hk1 := kX X2 (fun k q => ⟨HLT2.out k (.inl q), fun e => (HNOB.out k e).1 q⟩)
              have hk2 := kX R2 (fun k q => ⟨HLT2.out k (.inr q), fun e => (HNOB.out k e).2.1 q⟩)
              have hsz : w6.heap.size ≤ wz.heap.size := Nat.le_trans HB67.out.size hE.size
              have D8 : OneD o1 a1 nm (s1, s2, s3) A wz := HD7.out.keep hao (fun k h1 h2 => hE.block k (by have := HZ7.out; omega) (fun e => by have := (HNOB.out k e).2.2; have := HA1.out; omega))
              have HD2 := Lib.hid (HDC.out wz hbw hk1 hk2 hsz)
              have HD8 := Lib.hid D8
              have HBW8 := Lib.hid hbw
              have HK1 := Lib.hid hk1
              have HK2 := Lib.hid hk2
              have HSZ6 := Lib.hid hsz
              have HO1W : Hid (o1 < wz.heap.size) := Lib.hid D8.lt
              clear hE hbw kX hk1 hk2 hsz D8 HD7 HEX HLO HBW7 HNOB
              go_wp2_with fail
              refine HD2.out.mono ?_
              rintro e w9 ⟨⟨u1, u2, u3⟩, rfl, hn2, hb9⟩
              simp only [pv] at hn2 ⊢
              obtain ⟨X9, hX9⟩ : ∃ Y, Y = w9.alloc (.cells #[.string ⟨nm.a.toArray⟩, .string ⟨nm.b.toArray⟩, .string ⟨nm.c.toArray⟩, .string ⟨nm.d.toArray⟩, .slice u1 u2 u3] 29) := ⟨_, rfl⟩
              have b9 : Below w9.heap.size w9 X9 := by rw [hX9]; exact below_lit _ _
              have b89 : Below wz.heap.size wz X9 := hb9.trans (b9.mono hb9.size)
              obtain ⟨a2, ha2⟩ : ∃ q, wz.heap.size = q := ⟨_, rfl⟩
              obtain ⟨o2, ho2⟩ : ∃ q, w9.heap.size = q := ⟨_, rfl⟩
              have hao2 : a2 ≤ o2 := by rw [← ha2, ← ho2]; exact hb9.size
              have h12 : o1 < a2 := by rw [← ha2]; exact HO1W.out
              have E9 : OneD o2 a2 nm (u1, u2, u3) A X9 := ⟨by rw [← ho2, hX9]; exact heap_alloc_new w9 _, (hn2.keep (Kp.below b9 (fun k q => q.2))).mono (fun k q => ⟨by rw [← ha2]; exact q.1, by rw [← ho2]; exact q.2⟩)⟩
              have D9 : OneD o1 a1 nm (s1, s2, s3) A X9 := HD8.out.keep hao (fun k h1 h2 => b89.block k (by omega))
              have hz9 : X9.heap.size = o2 + 1 := by rw [hX9, World.size_alloc, ho2]
              have h0 : 0 < W0.heap.size := by rw [HZ0.out]; omega
              have hcx9 : NsS (fun k => k < X9.heap.size) X9 (.slice u1 u2 u3) A := E9.2.mono (fun k q => by omega)
              have hcx8 : NsS (fun k => k < X9.heap.size) X9 (.slice s1 s2 s3) A := D9.2.mono (fun k q => by omega)
              have HSD := Lib.hid (rsamedoc_any _ _ nm A A (.slice u1 u2 u3) (.slice s1 s2 s3) X9 (by have := HSZ.out; omega) (by have := HSZ.out; omega) hcx9 hcx8 (fun b q => q) (fun b q => q))
              have hu2 : u2 = A.length := by
                obtain ⟨a, c, e⟩ := hcx9.len
                injection e
              have hsp : ∀ g o, u1 = some ⟨g, o, none⟩ → SpK g o A.length X9 := fun g o e => by
                have h := E9.2
                simp only [pv] at h
                rw [e] at h
                exact h.spk (fun q => by have := HBW8.out.size; have := ha2; omega)
              have hat : ∀ j, j < A.length → ∃ g o, u1 = some ⟨g, o, none⟩ ∧ a2 ≤ g ∧ g < o2 := fun j hj => by
                have h := E9.2
                simp only [pv] at h
                rw [hu2] at h
                obtain ⟨g, o, x, e, hg, -⟩ := h.atR (List.getElem?_eq_getElem hj)
                exact ⟨g, o, e, hg⟩
              have HE9 := Lib.hid E9
              have HD9 := Lib.hid D9
              have HB89 := Lib.hid b89
              have HSP := Lib.hid hsp
              have HAT := Lib.hid hat
              have HU2 := Lib.hid hu2
              have HX9 := Lib.hid hX9
              have HO2 := Lib.hid ho2
              have HA2 := Lib.hid ha2
              have HZ9 := Lib.hid hz9
              clear hn2 hb9 hX9 b9 b89 ha2 ho2 E9 D9 hcx9 hcx8 hu2 hsp hat hz9 h0 HD2 HD8
              unfold docV docL at HSD
              go_upto_region 19 with fail
              rw [← HX9.out, HO2.out]
              clear HX9 HO2
              have x0 := HE9.out.1.cell 0
              have x1 := HE9.out.1.cell 1
              have x2 := HE9.out.1.cell 2
              have x3 := HE9.out.1.cell 3
              have x4 := HE9.out.1.cell 4
              have y0 := HD9.out.1.cell 0
              have y1 := HD9.out.1.cell 1
              have y2 := HD9.out.1.cell 2
              have y3 := HD9.out.1.cell 3
              have y4 := HD9.out.1.cell 4
              simp only [docL, pv, List.getElem?_cons_zero, List.getElem?_cons_succ] at x0 x1 x2 x3 x4 y0 y1 y2 y3 y4
              go_wp2_with fail
              refine HSD.out.mono ?_
              rintro e w10 ⟨rfl, hb10⟩
              have HB10 := Lib.hid hb10
              have hsame : eqNs A A = true := eqNs_true rfl
              rw [hsame]
              have x4' := below_eq hb10 x4
              have HX4 := Lib.hid x4'
              have HSP0 : Hid (∀ g o, u1 = some ⟨g, o, none⟩ → SpK g o A.length w10) := Lib.hid (fun g o e i hi => by
                obtain ⟨⟨v1, h1⟩, ⟨v4, h4⟩, h5, h6⟩ := HSP.out g o e i hi
                have hl := World.block_lt_of_cell? X9 _ h1
                exact ⟨⟨v1, below_eq hb10 h1⟩, ⟨v4, below_eq hb10 h4⟩, (hb10.frozen (p := ⟨g, o + i * 10 + 1, none⟩) hl).trans h5, (hb10.frozen (p := ⟨g, o + i * 10 + 4, none⟩) hl).trans h6⟩)
              clear hb10 hsame x0 x1 x2 x3 x4 x4' y0 y1 y2 y3 y4 HSD HSP
              obtain ⟨an, han⟩ : ∃ q, A.length = q := ⟨_, rfl⟩
              have hu9 : an ≤ 90000 := by have h1 := nl_len A; have h2 := HSZ.out; omega
              rw [han] at HSP0 HAT HU2
              obtain rfl := HU2.out
              clear han
              go_wp2_with fail
              go_loopw [13] (fun i wy => ∃ j : Nat, j ≤ u2 ∧ i = .int .i64 (j : Int) ∧ Hid (Exc (fun k => a2 ≤ k ∧ k < o2) w10 wy) ∧ Hid (∀ g o, u1 = some ⟨g, o, none⟩ → SpK g o u2 wy) ∧ Hid (wy.cell? ⟨o2, 4, none⟩ = some (.slice u1 u2 u3))) (fun i _ => u2 - (intOf i).toNat)
              case atStart => exact ⟨0, by omega, rfl, Lib.hid (Exc.refl _ _), HSP0, HX4⟩
              case round =>
                rename World => wy
                obtain ⟨q, hq, rfl, HEY, HSY, HCY⟩ := hrel
                clear HSP0 HX4
                by_cases hlq : q < u2
                · obtain ⟨g, o, rfl, hg1, hg2⟩ := HAT.out q hlq
                  obtain ⟨⟨z1, hz1⟩, ⟨z4, hz4⟩, fz1, fz4⟩ := HSY.out g o rfl q hlq
                  have c4 := HCY.out
                  have hgo : g ≠ o2 := by omega
                  have HN1 : Hid (Exc (fun k => a2 ≤ k ∧ k < o2) w10 ((wy.setCell ⟨g, o + q * 10 + 1, none⟩ (.int .i64 77)).setCell ⟨g, o + q * 10 + 4, none⟩ (.slice none 0 0))) := Lib.hid ((HEY.out.set _ _ (fun _ => ⟨hg1, hg2⟩)).set _ _ (fun _ => ⟨hg1, hg2⟩))
                  have HN2 : Hid (∀ g' o', (some ⟨g, o, none⟩ : Option Addr) = some ⟨g', o', none⟩ → SpK g' o' u2 ((wy.setCell ⟨g, o + q * 10 + 1, none⟩ (.int .i64 77)).setCell ⟨g, o + q * 10 + 4, none⟩ (.slice none 0 0))) := Lib.hid (fun g' o' e => by
                    injection e with e
                    injection e with e1 e2
                    subst e1 e2
                    exact (HSY.out g o rfl).set.set)
                  have d4 : (wy.setCell ⟨g, o + q * 10 + 1, none⟩ (.int .i64 77)).cell? ⟨o2, 4, none⟩ = some (.slice (some ⟨g, o, none⟩) u2 u3) := (cell_of_blk (Below.heap_setCell wy ⟨g, _, none⟩ _ o2 (fun e => hgo e.symm))).trans c4
                  have HN3 : Hid (((wy.setCell ⟨g, o + q * 10 + 1, none⟩ (.int .i64 77)).setCell ⟨g, o + q * 10 + 4, none⟩ (.slice none 0 0)).cell? ⟨o2, 4, none⟩ = some (.slice (some ⟨g, o, none⟩) u2 u3)) := Lib.hid ((cell_of_blk (Below.heap_setCell _ ⟨g, _, none⟩ _ o2 (fun e => hgo e.symm))).trans d4)
                  obtain ⟨z4', hz4'⟩ := set_some wy g (o + q * 10 + 1) (o + q * 10 + 4) (.int .i64 77) ⟨z4, hz4⟩
                  have fz4' : (wy.setCell ⟨g, o + q * 10 + 1, none⟩ (.int .i64 77)).frozen? ⟨g, o + q * 10 + 4, none⟩ = false := (set_frozen _ _ _ _ _).trans fz4
                  obtain ⟨V1, hV1⟩ : ∃ W, wy.setCell ⟨g, o + q * 10 + 1, none⟩ (.int .i64 77) = W := ⟨_, rfl⟩
                  rw [hV1] at HN1 HN2 HN3 d4 hz4' fz4'
                  have HV1 := Lib.hid hV1
                  have hi0 : (q : Int) < (u2 : Int) := by omega
                  have hi1 : (0 : Int) ≤ (q : Int) := by omega
                  clear hg1 hg2 hgo hz4 fz4 HEY HSY HCY hV1
                  go_upto_region 24 with fail
                  rw [HV1.out]
                  clear HV1 c4 hz1 fz1
                  go_wp2_with fail
                  go_roundw
                  case rel => exact ⟨q + 1, by omega, by go_num, HN1, HN2, HN3⟩
                  case measure => (simp [intOf]; try omega)
                · have hlq' : ¬ (q : Int) < (u2 : Int) := by omega
                  have c4 := HCY.out
                  have hE := HEY.out
                  have bW : Below a2 wz wy := by
                    have h1 : Below a2 w10 wy := hE.below (by have := HB10.out.size; have := HZ9.out; omega) (fun k hk z => by omega)
                    have h2 : Below a2 wz X9 := HB89.out.mono (Nat.le_of_eq HA2.out.symm)
                    exact h2.trans ((HB10.out.mono (by have := HZ9.out; omega)).trans h1)
                  have hsw : a2 ≤ wy.heap.size := by rw [← HA2.out]; exact bW.size
                  have hw6 : w6.heap.size ≤ a2 := by rw [← HA2.out]; exact HSZ6.out
                  have kk1 : Kp X2 w6 wy := fun k z => (bW.block k (by have := HLT2.out k (.inl z); omega)).trans (HK1.out k z)
                  have kk2 : Kp R2 w6 wy := fun k z => (bW.block k (by have := HLT2.out k (.inr z); omega)).trans (HK2.out k z)
                  have hbw : Below W0.heap.size W0 wy := HBW8.out.trans (bW.mono (by have := HBW8.out.size; have := HA2.out; omega))
                  have DD : OneD o1 a1 nm (s1, s2, s3) A wy := HD9.out.keep hao (fun k h1 h2 => (hE.block k (by have := HB10.out.size; have := HZ9.out; omega) (fun z => by omega)).trans (HB10.out.block k (by have := HZ9.out; omega)))
                  have hDl := DD.lt
                  have DDn : NsS (fun k => k < wy.heap.size) wy (.slice s1 s2 s3) A := DD.2.mono (fun k z => by omega)
                  have BT : ∀ {W W' : World}, Below wy.heap.size wy W → Below W.heap.size W W' → Below wy.heap.size wy W' := fun h k => h.trans (k.mono h.size)
                  have TK : ∀ {W : World} {v : Value} {l : List Nd}, NsS (fun k => k < wy.heap.size) wy v l → Below wy.heap.size wy W → NsS (fun k => k < W.heap.size) W v l := fun h hb => (h.keep (Kp.below hb (fun b q => q))).mono (fun b q => Nat.lt_of_lt_of_le q hb.size)
                  have HP2 : Hid (∀ W, Below wy.heap.size wy W → Calls Tryd.prog 17 #[.pointer (some ⟨b, 0, none⟩)] W fun e w' => ∃ v1 v2 v3, e = .returned (.agg #[.string ⟨nm.a.toArray⟩, .string ⟨nm.b.toArray⟩, .string ⟨nm.c.toArray⟩, .string ⟨nm.d.toArray⟩, .slice v1 v2 v3]) ∧ Below wy.heap.size wy w' ∧ NsS (fun k => k < w'.heap.size) w' (.slice v1 v2 v3) A) := Lib.hid (fun W hb => (HDC.out W (hbw.trans (hb.mono hbw.size)) (kk1.trans (Kp.below hb (fun k z => by have := HLT2.out k (.inl z); omega))) (kk2.trans (Kp.below hb (fun k z => by have := HLT2.out k (.inr z); omega))) (by have := hb.size; omega)).mono (fun e w' ⟨⟨v1, v2, v3⟩, e1, e2, e3⟩ => ⟨v1, v2, v3, e1, BT hb e3, e2.mono (fun k z => z.2)⟩))
                  have HP3 : Hid (∀ W v1 v2 v3, Below wy.heap.size wy W → NsS (fun k => k < W.heap.size) W (.slice v1 v2 v3) A → Calls Tryd.prog 16 #[.agg #[.string ⟨nm.a.toArray⟩, .string ⟨nm.b.toArray⟩, .string ⟨nm.c.toArray⟩, .string ⟨nm.d.toArray⟩, .slice v1 v2 v3], .agg #[.string ⟨nm.a.toArray⟩, .string ⟨nm.b.toArray⟩, .string ⟨nm.c.toArray⟩, .string ⟨nm.d.toArray⟩, .slice s1 s2 s3]] W fun e w' => e = .returned (.bool true) ∧ Below wy.heap.size wy w') := Lib.hid (fun W v1 v2 v3 hb hq => (rsamedoc_any _ _ nm A A (.slice v1 v2 v3) (.slice s1 s2 s3) W (by have := HSZ.out; omega) (by have := HSZ.out; omega) hq (TK DDn hb) (fun b q => q) (fun b q => q)).mono (fun e w' ⟨e1, e2⟩ => ⟨by rw [e1, eqNs_true rfl], BT hb e2⟩))
                  have HP5 : Hid (∀ W, Below wy.heap.size wy W → Calls Tryd.prog 21 #[.agg #[.string ⟨nm.a.toArray⟩, .string ⟨nm.b.toArray⟩, .string ⟨nm.c.toArray⟩, .string ⟨nm.d.toArray⟩, .slice s1 s2 s3]] W fun e w' => e = .returned (.int .i64 0) ∧ Below wy.heap.size wy w') := Lib.hid (fun W hb => (hC _ nm A (.slice s1 s2 s3) W HSZ.out (TK DDn hb) (fun b q => q)).mono (fun e w' ⟨e1, e2⟩ => ⟨by rw [e1, HCK.out], BT hb e2⟩))
                  have HP4 : Hid (∀ W, Below wy.heap.size wy W → Calls Tryd.prog 9 #[] W fun e w' => e = .returned (.bool true) ∧ Below w.heap.size w w' ∧ Below wy.heap.size wy w') := Lib.hid (fun W hb => (hK W (I.tb HTB.out (hbw.trans (hb.mono hbw.size)))).mono fun e w' ⟨e1, e2⟩ => ⟨e1, HB0.out.trans ((hbw.trans ((hb.trans (e2.mono hb.size)).mono hbw.size)).mono (by have := HZ0.out; omega)), BT hb e2⟩)
                  have HX : Hid (Below wy.heap.size wy wy.drew) := Lib.hid (Below.refl _ wy).drew
                  have HSC : Hid (∀ W, Below wy.heap.size wy W → W.cell? ⟨o1, 0, none⟩ = some (.string ⟨nm.a.toArray⟩) ∧ W.cell? ⟨o1, 1, none⟩ = some (.string ⟨nm.b.toArray⟩) ∧ W.cell? ⟨o1, 2, none⟩ = some (.string ⟨nm.c.toArray⟩) ∧ W.cell? ⟨o1, 3, none⟩ = some (.string ⟨nm.d.toArray⟩) ∧ W.cell? ⟨o1, 4, none⟩ = some (.slice s1 s2 s3)) := Lib.hid (fun W hb => ⟨(DD.1.below hb).cell 0, (DD.1.below hb).cell 1, (DD.1.below hb).cell 2, (DD.1.below hb).cell 3, (DD.1.below hb).cell 4⟩)
                  clear hE bW hsw hw6 kk1 kk2 hbw DD hDl DDn BT TK HEY HSY HCY
                  go_upto_region 25 with fail
                  refine wp_region_held_drew (S := (fun W' => W'.cell? ⟨o1, 0, none⟩ = some (.string ⟨nm.a.toArray⟩) ∧ W'.cell? ⟨o1, 1, none⟩ = some (.string ⟨nm.b.toArray⟩) ∧ W'.cell? ⟨o1, 2, none⟩ = some (.string ⟨nm.c.toArray⟩) ∧ W'.cell? ⟨o1, 3, none⟩ = some (.string ⟨nm.d.toArray⟩) ∧ W'.cell? ⟨o1, 4, none⟩ = some (.slice s1 s2 s3))) (by kernel_rfl) ?_ (fun hHeld => ?_)
                  · exact HSC.out _ HX.out
                  refine wpAnyH_take (i := 0) (v := .bool true) rfl (by kernel_rfl) (by kernel_rfl) (by kernel_rfl) (fun _ _ _ h => h) (Or.inl ⟨by rfl, fun w' hSw => by (try dsimp only at hSw); go_simp⟩) (by assumption) ?_
                  simp only [List.getElem_toArray, List.getElem_cons_succ, List.getElem_cons_zero, Act.put, List.setIfInBounds_toArray, List.set_cons_zero, List.set_cons_succ]
                  refine wpAnyH_take (i := 1) (v := .bool true) rfl (by kernel_rfl) (by kernel_rfl) (by kernel_rfl) (fun _ _ _ h => h) (Or.inl ⟨by rfl, fun w' hSw => by (try dsimp only at hSw); go_simp⟩) (by assumption) ?_
                  simp only [List.getElem_toArray, List.getElem_cons_succ, List.getElem_cons_zero, Act.put, List.setIfInBounds_toArray, List.set_cons_zero, List.set_cons_succ]
                  refine wpAnyH_take (i := 2) (v := .pointer (some ⟨b, 0, none⟩)) rfl (by kernel_rfl) (by kernel_rfl) (by kernel_rfl) (fun _ _ _ h => h) (Or.inl ⟨by rfl, fun w' hSw => by (try dsimp only at hSw); go_simp⟩) (by assumption) ?_
                  simp only [List.getElem_toArray, List.getElem_cons_succ, List.getElem_cons_zero, Act.put, List.setIfInBounds_toArray, List.set_cons_zero, List.set_cons_succ]
                  refine wpAnyH_take (i := 4) (v := .agg #[.string ⟨nm.a.toArray⟩, .string ⟨nm.b.toArray⟩, .string ⟨nm.c.toArray⟩, .string ⟨nm.d.toArray⟩, .slice s1 s2 s3]) rfl (by kernel_rfl) (by kernel_rfl) (by kernel_rfl) (fun _ _ _ h => h) (Or.inl ⟨by rfl, fun w' hSw => by (try dsimp only at hSw); go_simp⟩) (by assumption) ?_
                  simp only [List.getElem_toArray, List.getElem_cons_succ, List.getElem_cons_zero, Act.put, List.setIfInBounds_toArray, List.set_cons_zero, List.set_cons_succ]
                  refine wpAnyH_ready (rs := [3]) (by kernel_rfl) (by simp) ?_
                  refine AllReadyH.cons rfl (fun K hK => ?_) AllReadyH.nil
                  try simp only [List.getElem_toArray, List.getElem_cons_succ, List.getElem_cons_zero]
                  go_simp
                  go_at_call 17
                  refine (HP2.out _ HX.out).mono ?_
                  rintro e wk ⟨v1, v2, v3, rfl, bk, hk⟩
                  clear HX
                  have HX := Lib.hid bk
                  have HQ := Lib.hid hk
                  clear bk hk
                  go_wp2_with fail
                  refine hK.out _ _ ?_ (fun hHeld => ?_)
                  · exact HSC.out _ HX.out
                  clear hK K
                  try simp only [List.getElem_toArray, List.getElem_cons_succ, List.getElem_cons_zero, Act.put, List.setIfInBounds_toArray, List.set_cons_zero, List.set_cons_succ]
                  refine wpAnyH_ready (rs := [5]) (by kernel_rfl) (by simp) ?_
                  refine AllReadyH.cons rfl (fun K hK => ?_) AllReadyH.nil
                  try simp only [List.getElem_toArray, List.getElem_cons_succ, List.getElem_cons_zero]
                  go_simp
                  go_at_call 16
                  refine (HP3.out _ _ _ _ HX.out HQ.out).mono ?_
                  rintro e wk ⟨rfl, bk⟩
                  clear HX HQ
                  have HX := Lib.hid bk
                  clear bk
                  go_wp2_with fail
                  refine hK.out _ _ ?_ (fun hHeld => ?_)
                  · exact HSC.out _ HX.out
                  clear hK K
                  try simp only [List.getElem_toArray, List.getElem_cons_succ, List.getElem_cons_zero, Act.put, List.setIfInBounds_toArray, List.set_cons_zero, List.set_cons_succ]
                  refine wpAnyH_take (i := 6) (v := .bool true) rfl (by kernel_rfl) (by kernel_rfl) (by kernel_rfl) (fun _ _ _ h => h) (Or.inl ⟨by rfl, fun w' hSw => by (try dsimp only at hSw); go_simp⟩) (by assumption) ?_
                  simp only [List.getElem_toArray, List.getElem_cons_succ, List.getElem_cons_zero, Act.put, List.setIfInBounds_toArray, List.set_cons_zero, List.set_cons_succ]
                  refine wpAnyH_take (i := 7) (v := .bool true) rfl (by kernel_rfl) (by kernel_rfl) (by kernel_rfl) (fun _ _ _ h => h) (Or.inl ⟨by rfl, fun w' hSw => by (try dsimp only at hSw); go_simp⟩) (by assumption) ?_
                  simp only [List.getElem_toArray, List.getElem_cons_succ, List.getElem_cons_zero, Act.put, List.setIfInBounds_toArray, List.set_cons_zero, List.set_cons_succ]
                  refine wpAnyH_take (i := 8) (v := .agg #[.string ⟨nm.a.toArray⟩, .string ⟨nm.b.toArray⟩, .string ⟨nm.c.toArray⟩, .string ⟨nm.d.toArray⟩, .slice s1 s2 s3]) rfl (by kernel_rfl) (by kernel_rfl) (by kernel_rfl) (fun _ _ _ h => h) (Or.inl ⟨by rfl, fun w' hSw => by (try dsimp only at hSw); go_simp⟩) (by assumption) ?_
                  simp only [List.getElem_toArray, List.getElem_cons_succ, List.getElem_cons_zero, Act.put, List.setIfInBounds_toArray, List.set_cons_zero, List.set_cons_succ]
                  refine wpAnyH_ready (rs := [9]) (by kernel_rfl) (by simp) ?_
                  refine AllReadyH.cons rfl (fun K hK => ?_) AllReadyH.nil
                  try simp only [List.getElem_toArray, List.getElem_cons_succ, List.getElem_cons_zero]
                  go_simp
                  go_at_call 21
                  refine (HP5.out _ HX.out).mono ?_
                  rintro e wk ⟨rfl, bk⟩
                  clear HX
                  have HX := Lib.hid bk
                  clear bk
                  go_wp2_with fail
                  refine hK.out _ _ ?_ (fun hHeld => ?_)
                  · exact HSC.out _ HX.out
                  clear hK K
                  try simp only [List.getElem_toArray, List.getElem_cons_succ, List.getElem_cons_zero, Act.put, List.setIfInBounds_toArray, List.set_cons_zero, List.set_cons_succ]
                  refine wpAnyH_take (i := 10) (v := .bool true) rfl (by kernel_rfl) (by kernel_rfl) (by kernel_rfl) (fun _ _ _ h => h) (Or.inl ⟨by rfl, fun w' hSw => by (try dsimp only at hSw); go_simp⟩) (by assumption) ?_
                  simp only [List.getElem_toArray, List.getElem_cons_succ, List.getElem_cons_zero, Act.put, List.setIfInBounds_toArray, List.set_cons_zero, List.set_cons_succ]
                  refine wpAnyH_take (i := 11) (v := .bool true) rfl (by kernel_rfl) (by kernel_rfl) (by kernel_rfl) (fun _ _ _ h => h) (Or.inl ⟨by rfl, fun w' hSw => by (try dsimp only at hSw); go_simp⟩) (by assumption) ?_
                  simp only [List.getElem_toArray, List.getElem_cons_succ, List.getElem_cons_zero, Act.put, List.setIfInBounds_toArray, List.set_cons_zero, List.set_cons_succ]
                  refine wpAnyH_take (i := 12) (v := .bool true) rfl (by kernel_rfl) (by kernel_rfl) (by kernel_rfl) (fun _ _ _ h => h) (Or.inl ⟨by rfl, fun w' hSw => by (try dsimp only at hSw); go_simp⟩) (by assumption) ?_
                  simp only [List.getElem_toArray, List.getElem_cons_succ, List.getElem_cons_zero, Act.put, List.setIfInBounds_toArray, List.set_cons_zero, List.set_cons_succ]
                  refine wpAnyH_ready (rs := [13]) (by kernel_rfl) (by simp) ?_
                  refine AllReadyH.cons rfl (fun K hK => ?_) AllReadyH.nil
                  try simp only [List.getElem_toArray, List.getElem_cons_succ, List.getElem_cons_zero]
                  go_simp
                  go_at_call 9
                  refine (HP4.out _ HX.out).mono ?_
                  rintro e wk ⟨rfl, hww, bk⟩
                  clear HX
                  have HX := Lib.hid bk
                  have HWW := Lib.hid hww
                  clear bk hww
                  go_wp2_with fail
                  refine hK.out _ _ ?_ (fun hHeld => ?_)
                  · exact HSC.out _ HX.out
                  clear hK K
                  try simp only [List.getElem_toArray, List.getElem_cons_succ, List.getElem_cons_zero, Act.put, List.setIfInBounds_toArray, List.set_cons_zero, List.set_cons_succ]
                  refine wpAnyH_take (i := 14) (v := .bool true) rfl (by kernel_rfl) (by kernel_rfl) (by kernel_rfl) (fun _ _ _ h => h) (Or.inl ⟨by rfl, fun w' hSw => by (try dsimp only at hSw); go_simp⟩) (by assumption) ?_
                  simp only [List.getElem_toArray, List.getElem_cons_succ, List.getElem_cons_zero, Act.put, List.setIfInBounds_toArray, List.set_cons_zero, List.set_cons_succ]
                  refine wpAnyH_take (i := 15) (v := .bool true) rfl (by kernel_rfl) (by kernel_rfl) (by kernel_rfl) (fun _ _ _ h => h) (Or.inl ⟨by rfl, fun w' hSw => by (try dsimp only at hSw); go_simp⟩) (by assumption) ?_
                  simp only [List.getElem_toArray, List.getElem_cons_succ, List.getElem_cons_zero, Act.put, List.setIfInBounds_toArray, List.set_cons_zero, List.set_cons_succ]
                  refine wpAnyH_done (by kernel_rfl) ?_ _
                  go_wp2_with fail
                  go_ret
                  exact ⟨rfl, HWW.out⟩
end Go.Proofs.YtpccjgoeoeehoaaDoor
