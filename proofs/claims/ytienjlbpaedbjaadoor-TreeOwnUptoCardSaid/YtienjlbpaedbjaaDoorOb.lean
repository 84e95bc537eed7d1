/- The walk of TreeOwn. -/
import Derived.Test.YtienjlbpaedbjaaDoorOa
import Derived.Test.YtienjlbpaedbjaaDoorOZ1
import Derived.Test.YtienjlbpaedbjaaDoorOQk
import Derived.Deep.RegionHeld3
namespace Go.Proofs.YtienjlbpaedbjaaDoor
open Go.RowKit

theorem lens_mcells : ∀ (n : Nat) (l : List (List Gly)), lens (mcells n l) ≤ lens l
  | 0, l => by simp [mcells, lens]
  | n + 1, [] => by have := lens_mcells n []; simp [mcells, lens] at this ⊢; exact this
  | n + 1, c :: l => by
    have := lens_mcells n l
    have := sqz_len c
    simp only [mcells, lens, List.map_cons, List.sum_cons] at *
    omega
theorem trl_mrow (n : Nat) (r : Trow) : trl (mrowT n r) ≤ n + trl r := by
  obtain ⟨b, l⟩ := r
  have := lens_mcells n l
  have := mcells_len n l
  unfold trl mrowT
  cases b
  · simp only [Bool.false_eq_true, if_false]
    omega
  · simp [lens]
    omega
theorem trls_mrows (n : Nat) : ∀ l : List Trow, trls (l.map (mrowT n)) ≤ n * l.length + trls l
  | [] => by simp [trls]
  | r :: l => by
    have h1 := trls_mrows n l
    have h2 := trl_mrow n r
    simp only [trls, List.map_cons, List.sum_cons, List.length_cons, Nat.mul_add, Nat.mul_one] at *
    omega
theorem mend_size2 (t : Tab) : trls (mend t).rows ≤ 21 * trls t.rows ∧ (mend t).cols.length ≤ 20 := by
  have h1 := trls_mrows (mcols t.cols).length t.rows
  have h2 := trls_len t.rows
  have h3 := (mcols_ok t.cols).2.1
  have h4 : (mcols t.cols).length * t.rows.length ≤ 20 * trls t.rows := Nat.mul_le_mul h3 h2
  refine ⟨?_, h3⟩
  show trls (t.rows.map (mrowT (mcols t.cols).length)) ≤ _
  omega
theorem hdl_own (h : Hd) (k : Int) : hdl (ownH h k) ≤ 24 * hdl h := by
  have da : hdl h = 3 + h.text.length + h.grid.cols.length + (h.rows.length + lens h.rows) + trls h.grid.rows := rfl
  have db : hdl (ownH h k) = 3 + (ownH h k).text.length + (ownH h k).grid.cols.length + ((ownH h k).rows.length + lens (ownH h k).rows) + trls (ownH h k).grid.rows := rfl
  have h1 : (ownH h k).text.length ≤ h.text.length := by
    unfold ownH
    simp only
    split
    · exact sqz_len _
    · simp
  have h2 : (ownH h k).rows.length + lens (ownH h k).rows ≤ h.rows.length + lens h.rows := by
    unfold ownH
    simp only
    split
    · exact Nat.le_refl _
    · simp [lens]
  have h3 : (ownH h k).grid.cols.length ≤ 20 ∧ trls (ownH h k).grid.rows ≤ 21 * trls h.grid.rows := by
    unfold ownH
    simp only
    split
    · exact ⟨(mend_size2 _).2, (mend_size2 _).1⟩
    · simp [noGrid, trls]
  omega
mutual
theorem tdN_size : ∀ (x : Nd) (w : Int) (d n : Nat), nlL (tdN x w d n).1 ≤ 24 * nlN x
  | .mk h ks, w, d, n => by
    rw [tdN_mk]
    have ho := hdl_own h (kindAt h.kind w)
    split
    · have i1 := tdL_size ks (kindAt h.kind w) (d + 1) n
      simp only
      split
      · simp only [nlL, nlN]; omega
      · simp only [nlL, nlN]; omega
    · simp only
      rw [nlL_app]
      have h1 : nlL (if fullB (ownH h (kindAt h.kind w)) false = true then [Nd.mk (ownH h (kindAt h.kind w)) []] else []) ≤ hdl (ownH h (kindAt h.kind w)) := by
        split <;> simp [nlL, nlN]
      by_cases hm : mayK h.kind = true
      · rw [if_pos hm]
        have i1 := tdL_size ks w d n
        simp only [nlN]
        omega
      · rw [if_neg hm]
        simp only [nlL, nlN]; omega
theorem tdL_size : ∀ (l : List Nd) (w : Int) (d n : Nat), nlL (tdL l w d n).1 ≤ 24 * nlL l
  | [], w, d, n => by rw [tdL_nil]; simp [nlL]
  | x :: l, w, d, n => by
    rw [tdL_cons]
    split
    · simp [nlL]
    · simp only
      rw [nlL_app]
      have h1 := tdN_size x w d (n - 1)
      have h3 := tdL_size l w d (tdN x w d (n - 1)).2
      simp only [nlL]
      omega
end
theorem tidy_size (l : List Nd) : nlL (tidyL l) ≤ 24 * nlL l := tdL_size l 0 0 20000
theorem nd_bounds {T : List Nd} {p : Nat} {y : Nd} (hy : T[p]? = some y) {B : Nat} (hB : nlL T ≤ B) : y.hd.text.length ≤ B ∧ y.hd.rows.length + lens y.hd.rows ≤ B := by
  have h := nl_le hy
  have e : hdl y.hd = 3 + y.hd.text.length + y.hd.grid.cols.length + (y.hd.rows.length + lens y.hd.rows) + trls y.hd.grid.rows := rfl
  omega
theorem row_bound {l : List (List Gly)} {r : List Gly} (h : r ∈ l) : r.length ≤ lens l := by
  obtain ⟨i, hi⟩ := List.getElem?_of_mem h
  have := lens_le hi
  omega

set_option maxRecDepth 100000 in
set_option maxHeartbeats 8000000 in
theorem treeown_any (m : Nm) (l : List Nd) (v : Value) (w : World) (hU : U8 w) (hv : NsS (fun b => b < w.heap.size) w v l) (hl : nlL l ≤ 4000000) :
    Calls Tryd.prog 8 #[docV m v] w fun e w' => e = .returned (.bool true) ∧ Below w.heap.size w w' := by
  have HK : Hid (∀ W, Below w.heap.size w W → Calls Tryd.prog 10 #[] W fun e w' => e = .returned (.bool true) ∧ Below w.heap.size w w') :=
    Lib.hid (fun W hb => (pknown_any W (hU.below hb)).mono fun e w' ⟨e1, e2⟩ => ⟨e1, hb.trans (e2.mono hb.size)⟩)
  obtain ⟨W0, hW0⟩ : ∃ W, W = w.alloc (.cells (docL m v).toArray 24) := ⟨_, rfl⟩
  have b0 : Below w.heap.size w W0 := by rw [hW0]; exact below_lit w _
  have k0 : Blk W0 w.heap.size 24 (docL m v) := by rw [hW0]; exact heap_alloc_new w _
  have HLG := Lib.hid (plong_any _ l v W0 (by omega) (below_ns hv b0 (fun b q => q)))
  have hbg : longB l = false → nlL l ≤ 600 := fun h => (longB_false h).1
  obtain ⟨T, hT⟩ : ∃ T, tidyL l = T := ⟨_, rfl⟩
  have hts : nlL T ≤ 24 * nlL l := hT ▸ tidy_size l
  obtain ⟨xg, hxg⟩ : ∃ x, longB l = x := ⟨_, rfl⟩
  rw [hxg] at HLG hbg
  have HV := Lib.hid hv
  obtain ⟨v1, v3, rfl⟩ := hv.len
  obtain ⟨v2, hv2⟩ : ∃ n, l.length = n := ⟨_, rfl⟩
  rw [hv2] at HV HLG hW0 k0 ⊢
  have HW0 : Hid (W0 = w.alloc (.cells #[.string ⟨m.a.toArray⟩, .string ⟨m.b.toArray⟩, .string ⟨m.c.toArray⟩, .string ⟨m.d.toArray⟩, .slice v1 v2 v3] 24)) := Lib.hid hW0
  have B0 := Lib.hid b0
  have HB0 := Lib.hid k0
  have HT := Lib.hid hT
  have HTS := Lib.hid hts
  have HBG := Lib.hid hbg
  have u4 : W0.cell? ⟨w.heap.size, 4, none⟩ = some (.slice v1 v2 v3) := k0.cell 4
  clear hxg hv hl hW0 hT hts hbg k0 b0 hv2
  unfold docV docL
  go_enter Tryd.func8, Tryd.ntmps8
  go_upto_region 1 with fail
  rw [← HW0.out]
  go_wp2_with fail
  refine HLG.out.mono ?_
  rintro e w2 ⟨rfl, m2, hw2⟩
  have B2 : Hid (Below W0.heap.size W0 w2) := Lib.hid (by rw [hw2]; exact below_drewN (Below.refl _ _) m2)
  have BW2 : Hid (Below w.heap.size w w2) := Lib.hid (B0.out.trans (B2.out.mono B0.out.size))
  clear hw2 HLG HW0 u4
  cases xg with
  | true =>
    go_wp2_with fail
    refine (HK.out _ BW2.out).mono ?_
    rintro e w9 ⟨rfl, b9⟩
    have B9 := Lib.hid b9
    clear b9
    go_wp2_with fail
    go_ret
    exact ⟨rfl, B9.out⟩
  | false =>
    have l1 := HBG.out (by first | trivial | rfl)
    have l2 := HTS.out
    have k2 : Blk w2 w.heap.size 24 (docL m (.slice v1 v2 v3)) := HB0.out.below B2.out
    have HK2 := Lib.hid k2
    have y0 : w2.cell? ⟨w.heap.size, 0, none⟩ = some (.string ⟨m.a.toArray⟩) := k2.cell 0
    have y1 : w2.cell? ⟨w.heap.size, 1, none⟩ = some (.string ⟨m.b.toArray⟩) := k2.cell 1
    have y2 : w2.cell? ⟨w.heap.size, 2, none⟩ = some (.string ⟨m.c.toArray⟩) := k2.cell 2
    have y3 : w2.cell? ⟨w.heap.size, 3, none⟩ = some (.string ⟨m.d.toArray⟩) := k2.cell 3
    have y4 : w2.cell? ⟨w.heap.size, 4, none⟩ = some (.slice v1 v2 v3) := k2.cell 4
    have HRT := Lib.hid (rTidy_any _ m l (.slice v1 v2 v3) w2 (by omega) (HV.out.keep (Kp.below BW2.out (fun b q => q))) (fun b q => Nat.lt_of_lt_of_le q BW2.out.size))
    rw [HT.out] at HRT
    unfold docV docL at HRT
    clear k2 HBG HTS HB0
    go_upto_region 3 with fail
    go_upto_region 4 with fail
    refine HRT.out.mono ?_
    rintro e w3 ⟨⟨r1, r2, r3⟩, rfl, hr3, b3⟩
    simp only [pv] at hr3 ⊢
    obtain ⟨X1, hX1⟩ : ∃ X, X = w3.alloc (.cells #[.string ⟨m.a.toArray⟩, .string ⟨m.b.toArray⟩, .string ⟨m.c.toArray⟩, .string ⟨m.d.toArray⟩, .slice r1 r2 r3] 24) := ⟨_, rfl⟩
    have bX1 : Below w3.heap.size w3 X1 := by rw [hX1]; exact below_lit _ _
    have b21 : Below w2.heap.size w2 X1 := b3.trans (bX1.mono b3.size)
    have bw1 : Below w.heap.size w X1 := BW2.out.trans (b21.mono BW2.out.size)
    have kD1 : Blk X1 w.heap.size 24 (docL m (.slice v1 v2 v3)) := HK2.out.below b21
    have kR1 : Blk X1 w3.heap.size 24 (docL m (.slice r1 r2 r3)) := by rw [hX1]; exact heap_alloc_new w3 _
    have hrX : NsS (fun b => b < X1.heap.size) X1 (.slice r1 r2 r3) T := (hr3.mono (T := fun b => b < w3.heap.size) (fun b q => by rcases q with q | q <;> have := BW2.out.size <;> have := b3.size <;> omega)).keep (Kp.below bX1 (fun b q => q)) |>.mono (fun b q => Nat.lt_of_lt_of_le q bX1.size)
    have hvX : NsS (fun b => b < X1.heap.size) X1 (.slice v1 v2 v3) l := (HV.out.keep (Kp.below bw1 (fun b q => q))).mono (fun b q => Nat.lt_of_lt_of_le q bw1.size)
    have y0 : X1.cell? ⟨w.heap.size, 0, none⟩ = some (.string ⟨m.a.toArray⟩) := kD1.cell 0
    have y1 : X1.cell? ⟨w.heap.size, 1, none⟩ = some (.string ⟨m.b.toArray⟩) := kD1.cell 1
    have y2 : X1.cell? ⟨w.heap.size, 2, none⟩ = some (.string ⟨m.c.toArray⟩) := kD1.cell 2
    have y3 : X1.cell? ⟨w.heap.size, 3, none⟩ = some (.string ⟨m.d.toArray⟩) := kD1.cell 3
    have y4 : X1.cell? ⟨w.heap.size, 4, none⟩ = some (.slice v1 v2 v3) := kD1.cell 4
    have HTD := Lib.hid (ptidy_any _ m l (.slice v1 v2 v3) X1 (hU.below bw1) (by omega) hvX (fun b q => q))
    rw [HT.out] at HTD
    unfold docV docL at HTD
    unfold TidyP docV docL at HTD
    have HX1 := Lib.hid hX1
    have HRX := Lib.hid hrX
    have HVX := Lib.hid hvX
    have HKD := Lib.hid kD1
    have HKR := Lib.hid kR1
    have BW1 := Lib.hid bw1
    have hz1 : 0 < X1.heap.size := by have := kD1.lt; omega
    have hw31 : w3.heap.size < X1.heap.size := kR1.lt
    have hww1 : w.heap.size < X1.heap.size := kD1.lt
    clear hr3 b3 hX1 bX1 b21 bw1 kD1 kR1 hrX hvX HRT HK2
    go_upto_region 4 with fail
    rw [← HX1.out]
    clear HX1
    go_upto_region 5 with fail
    refine HTD.out.mono ?_
    rintro e w4 ⟨⟨s1, s2, s3⟩, rfl, hs4, b4⟩
    simp only [pv] at hs4 ⊢
    obtain ⟨X2, hX2⟩ : ∃ X, X = w4.alloc (.cells #[.string ⟨m.a.toArray⟩, .string ⟨m.b.toArray⟩, .string ⟨m.c.toArray⟩, .string ⟨m.d.toArray⟩, .slice s1 s2 s3] 24) := ⟨_, rfl⟩
    have bX2 : Below w4.heap.size w4 X2 := by rw [hX2]; exact below_lit _ _
    have b12 : Below X1.heap.size X1 X2 := b4.trans (bX2.mono b4.size)
    have kS2 : Blk X2 w4.heap.size 24 (docL m (.slice s1 s2 s3)) := by rw [hX2]; exact heap_alloc_new w4 _
    have hsX : NsS (fun b => X1.heap.size ≤ b ∧ b < w4.heap.size) X2 (.slice s1 s2 s3) T := hs4.keep (Kp.below bX2 (fun b q => q.2))
    obtain ⟨z1, z2, hz⟩ := hsX.len
    injection hz with z3 z4 z5
    have hTl := cnt_len T
    have hTc := cnt_nlL T
    have hs2 : s2 ≤ 20000 := by omega
    have h42 : w4.heap.size < X2.heap.size := kS2.lt
    have HX2 := Lib.hid hX2
    have HS := Lib.hid hsX
    have HKS := Lib.hid kS2
    have B12 := Lib.hid b12
    have HBT := Lib.hid (fun (p : Nat) (y : Nd) (hy : T[p]? = some y) => nd_bounds hy (B := 14400) (by omega))
    have h00 : ¬ (X1.heap.size ≤ 0 ∧ 0 < w4.heap.size) := by omega
    clear hs4 b4 hX2 bX2 b12 kS2 hsX HTD y0 y1 y2 y3 y4 z3 z4 z5 hTl hTc
    go_upto_region 5 with fail
    rw [← HX2.out]
    clear HX2
    go_wp2_with fail
    go_loopw [5] (fun i wr => ∃ (p : Nat), i = .int .i64 (p : Int) ∧ p ≤ s2 ∧ Hid (Sp X1.heap.size w4.heap.size X2 wr)) (fun i _ => s2 - (intOf i).toNat)
    case atStart => exact ⟨0, rfl, by omega, Lib.hid (Sp.refl _ _ _)⟩
    case round =>
      obtain ⟨p, rfl, hp, HP⟩ := hrel
      have u4 : wr.cell? ⟨w4.heap.size, 4, none⟩ = some (.slice s1 s2 s3) := (HP.out.blk HKS.out (.inr (Nat.le_refl _))).cell 4
      by_cases hlt : p < s2
      · have hlt' : (p : Int) < (s2 : Int) := by omega
        have hp0 : (0 : Int) ≤ (p : Int) := by omega
        obtain ⟨g, off, x0, yy, hs1, hy0, hC0, -, -, hfz, hg1, hg2⟩ := Sp.node HS.out h00 (fun b q => q) (Sp.refl X1.heap.size w4.heap.size X2) hlt
        obtain ⟨g', off', x, y, hs1', hy, hC, hFT, hGR, -, -, -⟩ := Sp.node HS.out h00 (fun b q => q) HP.out hlt
        rw [hs1] at hs1'
        injection hs1' with hs1'
        injection hs1' with e1 e2
        subst e1 e2
        have HL1 := Lib.hid hC0.c1
        have HFZ := Lib.hid hfz
        obtain ⟨hbt, hbr⟩ := HBT.out p y hy
        have HSZ := Lib.hid HP.out.size
        obtain ⟨B, hB⟩ : ∃ B, B = wr.alloc (.cells (ncell x).toArray 39) := ⟨_, rfl⟩
        have bB : Below wr.heap.size wr B := by rw [hB]; exact below_lit _ _
        have kB : Blk B wr.heap.size 39 (ncell x) := by rw [hB]; exact heap_alloc_new wr _
        have pB : Sp X1.heap.size w4.heap.size X2 B := HP.out.trans (Sp.of bB)
        obtain ⟨bn, hbn⟩ : ∃ n, n = wr.heap.size := ⟨_, rfl⟩
        have hbe : w4.heap.size ≤ bn := by have := HSZ.out; omega
        obtain ⟨xk, xl, xn, ⟨t1, t2, t3⟩, ⟨k1, k2, k3⟩, ⟨r1', r2', r3'⟩, xc, ⟨qq1, qq2, qq3⟩, xb, xa⟩ := x
        have c0 := hC.c0
        have c1 := hC.c1
        have c2 := hC.c2
        have c3 := hC.c3
        have c4 := hC.c4
        have c5 := hC.c5
        have c6 := hC.c6
        have c7 := hC.c7
        have c8 := hC.c8
        have c9 := hC.c9
        simp only [pv] at hFT hGR
        obtain ⟨ta, tc, te⟩ := hFT.1.len
        injection te with te1 te2 te3
        obtain ⟨ra, rc, re⟩ := hGR.len
        injection re with re1 re2 re3
        have ht2 : t2 ≤ 20000 := by omega
        have hr2 : r2' ≤ 20000 := by omega
        have HFT := Lib.hid hFT
        have HGR := Lib.hid hGR
        have HBR := Lib.hid (fun (r : List Gly) (h : r ∈ y.hd.rows) => show r.length ≤ 20000 by have := row_bound h; omega)
        rw [← hbn] at kB
        have HKB := Lib.hid kB
        simp only [ncell, pv] at HKB hB
        have HBW := Lib.hid hB
        have HPB := Lib.hid pB
        have HBN := Lib.hid hbn
        subst hs1
        clear hC0 hC hfz hFT hGR hB bB kB pB te1 te2 te3 re1 re2 re3 hy hy0 hbt hbr hbn
        go_upto_region 9 with fail
        rw [← HBW.out, ← HBN.out]
        clear c0 c1 c2 c3 c4 c5 c6 c7 c8 c9 u4 HBW
        go_wp2_with fail
        go_loopw [7] (fun i wr => ∃ (q : Nat), i = .int .i64 (q : Int) ∧ q ≤ t2 ∧ Hid (Sp X1.heap.size w4.heap.size X2 wr) ∧ Hid (Blk wr bn 39 [.int .i64 xk, .int .i64 xl, .int .i64 xn, .slice t1 t2 t3, .slice k1 k2 k3, .slice r1' r2' r3', .string ⟨xc.toArray⟩, .slice qq1 qq2 qq3, .bool xb, .bool xa])) (fun i _ => t2 - (intOf i).toNat)
        case atStart => exact ⟨0, rfl, by omega, HPB, HKB⟩
        case round =>
          obtain ⟨q, rfl, hq, HQ, HKQ⟩ := hrel
          have a3 : wr.cell? ⟨bn, 3, none⟩ = some (.slice t1 t2 t3) := HKQ.out.cell 3
          by_cases hqt : q < t2
          · have hqt' : (q : Int) < (t2 : Int) := by omega
            have hq0 : (0 : Int) ≤ (q : Int) := by omega
            obtain ⟨gg, oo, rr, rfl, d0, f0, hsp, hbk⟩ := Sp.glyph HFT.out h00 (fun b q => q) HQ.out hqt
            have HSP := Lib.hid hsp
            have HBK := Lib.hid (hbk bn _ _ hbe HKQ.out)
            clear hsp hbk
            go_wp2_with fail
            go_roundw
            case rel => exact ⟨q + 1, by go_num, by omega, HSP, HBK⟩
            case measure => (simp [intOf]; try omega)
          · have hqt' : ¬ (q : Int) < (t2 : Int) := by omega
            clear HPB HKB
            go_wp2_with fail
            clear a3 hqt'
            go_loopw [8] (fun i wr => ∃ (z : Nat), i = .int .i64 (z : Int) ∧ z ≤ r2' ∧ Hid (Sp X1.heap.size w4.heap.size X2 wr) ∧ Hid (Blk wr bn 39 [.int .i64 xk, .int .i64 xl, .int .i64 xn, .slice t1 t2 t3, .slice k1 k2 k3, .slice r1' r2' r3', .string ⟨xc.toArray⟩, .slice qq1 qq2 qq3, .bool xb, .bool xa])) (fun i _ => r2' - (intOf i).toNat)
            case atStart => exact ⟨0, rfl, by omega, HQ, HKQ⟩
            case round =>
              obtain ⟨z, rfl, hz, HR, HKR'⟩ := hrel
              have a5 : wr.cell? ⟨bn, 5, none⟩ = some (.slice r1' r2' r3') := HKR'.out.cell 5
              by_cases hzr : z < r2'
              · have hzr' : (z : Int) < (r2' : Int) := by omega
                have hz0 : (0 : Int) ≤ (z : Int) := by omega
                obtain ⟨gr, og, rb, rk, rd, r, rfl, cX, hfr, hmem⟩ := Sp.row HGR.out (Sp.refl X1.heap.size w4.heap.size X2) hzr
                have hrk : rk ≤ 20000 := by
                  obtain ⟨q1, q2, q3⟩ := hfr.1.len
                  injection q3 with q4 q5 q6
                  have := HBR.out r hmem
                  omega
                have HCX := Lib.hid cX
                have HFR := Lib.hid hfr
                clear cX hfr hmem
                go_wp2_with fail
                clear a5
                go_loopw [9] (fun i wr => ∃ (j : Nat), i = .int .i64 (j : Int) ∧ j ≤ rk ∧ Hid (Sp X1.heap.size w4.heap.size X2 wr) ∧ Hid (Blk wr bn 39 [.int .i64 xk, .int .i64 xl, .int .i64 xn, .slice t1 t2 t3, .slice k1 k2 k3, .slice (some ⟨gr, og, none⟩) r2' r3', .string ⟨xc.toArray⟩, .slice qq1 qq2 qq3, .bool xb, .bool xa])) (fun i _ => rk - (intOf i).toNat)
                case atStart => exact ⟨0, rfl, by omega, HR, HKR'⟩
                case round =>
                  obtain ⟨j, rfl, hj, HU, HKU⟩ := hrel
                  have a5 : wr.cell? ⟨bn, 5, none⟩ = some (.slice (some ⟨gr, og, none⟩) r2' r3') := HKU.out.cell 5
                  have a6 : wr.cell? ⟨gr, og + z, none⟩ = some (.slice rb rk rd) := HU.out.val HCX.out (fun _ _ e => by cases e)
                  by_cases hjl : j < rk
                  · have hjl' : (j : Int) < (rk : Int) := by omega
                    have hj0 : (0 : Int) ≤ (j : Int) := by omega
                    obtain ⟨gg, oo, rr, rfl, d0, f0, hsp, hbk⟩ := Sp.glyph HFR.out h00 (fun b q => q) HU.out hjl
                    have HSP := Lib.hid hsp
                    have HBK := Lib.hid (hbk bn _ _ hbe HKU.out)
                    clear hsp hbk
                    go_wp2_with fail
                    go_roundw
                    case rel => exact ⟨j + 1, by go_num, by omega, HSP, HBK⟩
                    case measure => (simp [intOf]; try omega)
                  · have hjl' : ¬ (j : Int) < (rk : Int) := by omega
                    go_wp2_with fail
                    go_roundw
                    case rel => exact ⟨z + 1, by go_num, by omega, HU, HKU⟩
                    case measure => (simp [intOf]; try omega)
              · have hzr' : ¬ (z : Int) < (r2' : Int) := by omega
                have u4 : wr.cell? ⟨w4.heap.size, 4, none⟩ = some (.slice (some ⟨g, off, none⟩) s2 s3) := (HR.out.blk HKS.out (.inr (Nat.le_refl _))).cell 4
                obtain ⟨ln, d1⟩ := HR.out.int HL1.out
                have f1 := (HR.out.frz g (off + p * 10 + 1) (Sp.lt HL1.out)).trans HFZ.out
                have HEND := Lib.hid (HR.out.trans (Sp.set (D := X1.heap.size) (E := w4.heap.size) (y := 77) d1 hg1 hg2))
                go_wp2_with fail
                go_roundw
                case rel => exact ⟨p + 1, by go_num, by omega, HEND⟩
                case measure => (simp [intOf]; try omega)
      · have hlt' : ¬ (p : Int) < (s2 : Int) := by omega
        obtain ⟨X, hX⟩ : ∃ X, X = wr := ⟨_, rfl⟩
        rw [← hX] at HP u4 ⊢
        have b1X : Below X1.heap.size X1 X := B12.out.trans (HP.out.below B12.out.size)
        have bwX : Below w.heap.size w X := BW1.out.trans (b1X.mono BW1.out.size)
        have kD : Blk X w.heap.size 24 (docL m (.slice v1 v2 v3)) := HKD.out.below b1X
        have kR : Blk X w3.heap.size 24 (docL m (.slice r1 r2 r3)) := HKR.out.below b1X
        have hvX : NsS (fun b => b < X.heap.size) X (.slice v1 v2 v3) l := (HVX.out.keep (Kp.below b1X (fun b q => q))).mono (fun b q => Nat.lt_of_lt_of_le q b1X.size)
        have hrX : NsS (fun b => b < X.heap.size) X (.slice r1 r2 r3) T := (HRX.out.keep (Kp.below b1X (fun b q => q))).mono (fun b q => Nat.lt_of_lt_of_le q b1X.size)
        have TK : ∀ {W : World} {v : Value} {l : List Nd}, NsS (fun b => b < X.heap.size) X v l → Below X.heap.size X W → NsS (fun b => b < W.heap.size) W v l := fun h hb => (h.keep (Kp.below hb (fun b q => q))).mono (fun b q => Nat.lt_of_lt_of_le q hb.size)
        have BT : ∀ {W W' : World}, Below X.heap.size X W → Below W.heap.size W W' → Below X.heap.size X W' := fun h k => h.trans (k.mono h.size)
        have HSC : Hid (∀ W, Below X.heap.size X W → W.cell? ⟨w.heap.size, 0, none⟩ = some (.string ⟨m.a.toArray⟩) ∧ W.cell? ⟨w.heap.size, 1, none⟩ = some (.string ⟨m.b.toArray⟩) ∧ W.cell? ⟨w.heap.size, 2, none⟩ = some (.string ⟨m.c.toArray⟩) ∧ W.cell? ⟨w.heap.size, 3, none⟩ = some (.string ⟨m.d.toArray⟩) ∧ W.cell? ⟨w.heap.size, 4, none⟩ = some (.slice v1 v2 v3) ∧ W.cell? ⟨w3.heap.size, 0, none⟩ = some (.string ⟨m.a.toArray⟩) ∧ W.cell? ⟨w3.heap.size, 1, none⟩ = some (.string ⟨m.b.toArray⟩) ∧ W.cell? ⟨w3.heap.size, 2, none⟩ = some (.string ⟨m.c.toArray⟩) ∧ W.cell? ⟨w3.heap.size, 3, none⟩ = some (.string ⟨m.d.toArray⟩) ∧ W.cell? ⟨w3.heap.size, 4, none⟩ = some (.slice r1 r2 r3)) := Lib.hid (fun W hb => ⟨(kD.below hb).cell 0, (kD.below hb).cell 1, (kD.below hb).cell 2, (kD.below hb).cell 3, (kD.below hb).cell 4, (kR.below hb).cell 0, (kR.below hb).cell 1, (kR.below hb).cell 2, (kR.below hb).cell 3, (kR.below hb).cell 4⟩)
        have HP12 : Hid (∀ W, Below X.heap.size X W → Calls Tryd.prog 12 #[.agg #[.string ⟨m.a.toArray⟩, .string ⟨m.b.toArray⟩, .string ⟨m.c.toArray⟩, .string ⟨m.d.toArray⟩, .slice v1 v2 v3]] W fun e w' => ∃ q1 q2 q3, e = .returned (.agg #[.string ⟨m.a.toArray⟩, .string ⟨m.b.toArray⟩, .string ⟨m.c.toArray⟩, .string ⟨m.d.toArray⟩, .slice q1 q2 q3]) ∧ Below X.heap.size X w' ∧ NsS (fun b => b < w'.heap.size) w' (.slice q1 q2 q3) T) := Lib.hid (fun W hb => by
          have := ptidy_any _ m l (.slice v1 v2 v3) W (hU.below (bwX.trans (hb.mono bwX.size))) (by omega) (TK hvX hb) (fun b q => q)
          rw [HT.out] at this
          exact this.mono (fun e w' ⟨q, e1, e2, e3⟩ => ⟨q.1, q.2.1, q.2.2, e1, BT hb e3, e2.mono (fun b h => h.2)⟩))
        have HP13 : Hid (∀ W, Below X.heap.size X W → Calls Tryd.prog 13 #[.agg #[.string ⟨m.a.toArray⟩, .string ⟨m.b.toArray⟩, .string ⟨m.c.toArray⟩, .string ⟨m.d.toArray⟩, .slice v1 v2 v3]] W fun e w' => ∃ q1 q2 q3, e = .returned (.agg #[.string ⟨m.a.toArray⟩, .string ⟨m.b.toArray⟩, .string ⟨m.c.toArray⟩, .string ⟨m.d.toArray⟩, .slice q1 q2 q3]) ∧ Below X.heap.size X w' ∧ NsS (fun b => b < w'.heap.size) w' (.slice q1 q2 q3) T) := Lib.hid (fun W hb => by
          have := rTidy_any _ m l (.slice v1 v2 v3) W (by omega) (TK hvX hb) (fun b q => q)
          rw [HT.out] at this
          exact this.mono (fun e w' ⟨q, e1, e2, e3⟩ => ⟨q.1, q.2.1, q.2.2, e1, BT hb e3, e2.mono (fun b h => by rcases h with h | h <;> have := e3.size <;> omega)⟩))
        have hcT := cnt_nlL T
        have HP11 : Hid (∀ W q1 q2 q3, Below X.heap.size X W → NsS (fun b => b < W.heap.size) W (.slice q1 q2 q3) T → Calls Tryd.prog 11 #[.agg #[.string ⟨m.a.toArray⟩, .string ⟨m.b.toArray⟩, .string ⟨m.c.toArray⟩, .string ⟨m.d.toArray⟩, .slice q1 q2 q3], .agg #[.string ⟨m.a.toArray⟩, .string ⟨m.b.toArray⟩, .string ⟨m.c.toArray⟩, .string ⟨m.d.toArray⟩, .slice r1 r2 r3]] W fun e w' => e = .returned (.bool true) ∧ Below X.heap.size X w') := Lib.hid (fun W q1 q2 q3 hb hq =>
          (rsamedoc_any _ _ m T T (.slice q1 q2 q3) (.slice r1 r2 r3) W (by omega) (by omega) hq (TK hrX hb) (fun b q => q) (fun b q => q)).mono (fun e w' ⟨e1, e2⟩ => ⟨by rw [e1, eqNs_true rfl], BT hb e2⟩))
        have HP10 : Hid (∀ W, Below X.heap.size X W → Calls Tryd.prog 10 #[] W fun e w' => e = .returned (.bool true) ∧ Below X.heap.size X w') := Lib.hid (fun W hb => (pknown_any W (hU.below (bwX.trans (hb.mono bwX.size)))).mono fun e w' ⟨e1, e2⟩ => ⟨e1, BT hb e2⟩)
        have BWX := Lib.hid bwX
        have HX : Hid (Below X.heap.size X X.drew) := Lib.hid (Below.refl _ X).drew
        clear hX b1X bwX kD kR hvX hrX TK BT hcT HKD HKR HVX HRX HS HKS HBT HP HT HV HK B12 BW1
        go_wp2_with fail
        try go_upto_region 21 with fail
        refine wp_region_held_drew (S := (fun W' => W'.cell? ⟨w.heap.size, 0, none⟩ = some (.string ⟨m.a.toArray⟩) ∧ W'.cell? ⟨w.heap.size, 1, none⟩ = some (.string ⟨m.b.toArray⟩) ∧ W'.cell? ⟨w.heap.size, 2, none⟩ = some (.string ⟨m.c.toArray⟩) ∧ W'.cell? ⟨w.heap.size, 3, none⟩ = some (.string ⟨m.d.toArray⟩) ∧ W'.cell? ⟨w.heap.size, 4, none⟩ = some (.slice v1 v2 v3) ∧ W'.cell? ⟨w3.heap.size, 0, none⟩ = some (.string ⟨m.a.toArray⟩) ∧ W'.cell? ⟨w3.heap.size, 1, none⟩ = some (.string ⟨m.b.toArray⟩) ∧ W'.cell? ⟨w3.heap.size, 2, none⟩ = some (.string ⟨m.c.toArray⟩) ∧ W'.cell? ⟨w3.heap.size, 3, none⟩ = some (.string ⟨m.d.toArray⟩) ∧ W'.cell? ⟨w3.heap.size, 4, none⟩ = some (.slice r1 r2 r3))) (by kernel_rfl) ?_ (fun hHeld => ?_)
        · exact HSC.out _ HX.out
        refine wpAnyH_take (i := 0) (v := .agg #[.string ⟨m.a.toArray⟩, .string ⟨m.b.toArray⟩, .string ⟨m.c.toArray⟩, .string ⟨m.d.toArray⟩, .slice v1 v2 v3]) rfl (by kernel_rfl) (by kernel_rfl) (by kernel_rfl) (fun _ _ _ h => h) (Or.inl ⟨by rfl, fun w' hSw => by (try dsimp only at hSw); go_simp⟩) (by assumption) ?_
        simp only [List.getElem_toArray, List.getElem_cons_succ, List.getElem_cons_zero, Act.put, List.setIfInBounds_toArray, List.set_cons_zero, List.set_cons_succ]
        refine wpAnyH_take (i := 2) (v := .agg #[.string ⟨m.a.toArray⟩, .string ⟨m.b.toArray⟩, .string ⟨m.c.toArray⟩, .string ⟨m.d.toArray⟩, .slice r1 r2 r3]) rfl (by kernel_rfl) (by kernel_rfl) (by kernel_rfl) (fun _ _ _ h => h) (Or.inl ⟨by rfl, fun w' hSw => by (try dsimp only at hSw); go_simp⟩) (by assumption) ?_
        simp only [List.getElem_toArray, List.getElem_cons_succ, List.getElem_cons_zero, Act.put, List.setIfInBounds_toArray, List.set_cons_zero, List.set_cons_succ]
        refine wpAnyH_ready (rs := [1]) (by kernel_rfl) (by simp) ?_
        refine AllReadyH.cons rfl (fun K hK => ?_) AllReadyH.nil
        try simp only [List.getElem_toArray, List.getElem_cons_succ, List.getElem_cons_zero]
        go_simp
        go_at_call 12
        refine (HP12.out _ HX.out).mono ?_
        rintro e w7 ⟨q1, q2, q3, rfl, b7, hq⟩
        clear HX
        have HX := Lib.hid b7
        have HQ := Lib.hid hq
        clear b7 hq
        go_wp2_with fail
        refine hK.out _ _ ?_ (fun hHeld => ?_)
        · exact HSC.out _ HX.out
        clear hK K
        try simp only [List.getElem_toArray, List.getElem_cons_succ, List.getElem_cons_zero, Act.put, List.setIfInBounds_toArray, List.set_cons_zero, List.set_cons_succ]
        refine wpAnyH_ready (rs := [3]) (by kernel_rfl) (by simp) ?_
        refine AllReadyH.cons rfl (fun K hK => ?_) AllReadyH.nil
        try simp only [List.getElem_toArray, List.getElem_cons_succ, List.getElem_cons_zero]
        go_simp
        go_at_call 11
        refine (HP11.out _ _ _ _ HX.out HQ.out).mono ?_
        rintro e w7 ⟨rfl, b7⟩
        clear HX HQ
        have HX := Lib.hid b7
        clear b7
        go_wp2_with fail
        refine hK.out _ _ ?_ (fun hHeld => ?_)
        · exact HSC.out _ HX.out
        clear hK K
        try simp only [List.getElem_toArray, List.getElem_cons_succ, List.getElem_cons_zero, Act.put, List.setIfInBounds_toArray, List.set_cons_zero, List.set_cons_succ]
        refine wpAnyH_take (i := 4) (v := .bool true) rfl (by kernel_rfl) (by kernel_rfl) (by kernel_rfl) (fun _ _ _ h => h) (Or.inl ⟨by rfl, fun w' hSw => by (try dsimp only at hSw); go_simp⟩) (by assumption) ?_
        simp only [List.getElem_toArray, List.getElem_cons_succ, List.getElem_cons_zero, Act.put, List.setIfInBounds_toArray, List.set_cons_zero, List.set_cons_succ]
        refine wpAnyH_take (i := 5) (v := .agg #[.string ⟨m.a.toArray⟩, .string ⟨m.b.toArray⟩, .string ⟨m.c.toArray⟩, .string ⟨m.d.toArray⟩, .slice v1 v2 v3]) rfl (by kernel_rfl) (by kernel_rfl) (by kernel_rfl) (fun _ _ _ h => h) (Or.inl ⟨by rfl, fun w' hSw => by (try dsimp only at hSw); go_simp⟩) (by assumption) ?_
        simp only [List.getElem_toArray, List.getElem_cons_succ, List.getElem_cons_zero, Act.put, List.setIfInBounds_toArray, List.set_cons_zero, List.set_cons_succ]
        refine wpAnyH_take (i := 7) (v := .agg #[.string ⟨m.a.toArray⟩, .string ⟨m.b.toArray⟩, .string ⟨m.c.toArray⟩, .string ⟨m.d.toArray⟩, .slice r1 r2 r3]) rfl (by kernel_rfl) (by kernel_rfl) (by kernel_rfl) (fun _ _ _ h => h) (Or.inl ⟨by rfl, fun w' hSw => by (try dsimp only at hSw); go_simp⟩) (by assumption) ?_
        simp only [List.getElem_toArray, List.getElem_cons_succ, List.getElem_cons_zero, Act.put, List.setIfInBounds_toArray, List.set_cons_zero, List.set_cons_succ]
        refine wpAnyH_ready (rs := [6]) (by kernel_rfl) (by simp) ?_
        refine AllReadyH.cons rfl (fun K hK => ?_) AllReadyH.nil
        try simp only [List.getElem_toArray, List.getElem_cons_succ, List.getElem_cons_zero]
        go_simp
        go_at_call 13
        refine (HP13.out _ HX.out).mono ?_
        rintro e w7 ⟨q1, q2, q3, rfl, b7, hq⟩
        clear HX
        have HX := Lib.hid b7
        have HQ := Lib.hid hq
        clear b7 hq
        go_wp2_with fail
        refine hK.out _ _ ?_ (fun hHeld => ?_)
        · exact HSC.out _ HX.out
        clear hK K
        try simp only [List.getElem_toArray, List.getElem_cons_succ, List.getElem_cons_zero, Act.put, List.setIfInBounds_toArray, List.set_cons_zero, List.set_cons_succ]
        refine wpAnyH_ready (rs := [8]) (by kernel_rfl) (by simp) ?_
        refine AllReadyH.cons rfl (fun K hK => ?_) AllReadyH.nil
        try simp only [List.getElem_toArray, List.getElem_cons_succ, List.getElem_cons_zero]
        go_simp
        go_at_call 11
        refine (HP11.out _ _ _ _ HX.out HQ.out).mono ?_
        rintro e w7 ⟨rfl, b7⟩
        clear HX HQ
        have HX := Lib.hid b7
        clear b7
        go_wp2_with fail
        refine hK.out _ _ ?_ (fun hHeld => ?_)
        · exact HSC.out _ HX.out
        clear hK K
        try simp only [List.getElem_toArray, List.getElem_cons_succ, List.getElem_cons_zero, Act.put, List.setIfInBounds_toArray, List.set_cons_zero, List.set_cons_succ]
        refine wpAnyH_take (i := 9) (v := .bool true) rfl (by kernel_rfl) (by kernel_rfl) (by kernel_rfl) (fun _ _ _ h => h) (Or.inl ⟨by rfl, fun w' hSw => by (try dsimp only at hSw); go_simp⟩) (by assumption) ?_
        simp only [List.getElem_toArray, List.getElem_cons_succ, List.getElem_cons_zero, Act.put, List.setIfInBounds_toArray, List.set_cons_zero, List.set_cons_succ]
        refine wpAnyH_take (i := 10) (v := .bool true) rfl (by kernel_rfl) (by kernel_rfl) (by kernel_rfl) (fun _ _ _ h => h) (Or.inl ⟨by rfl, fun w' hSw => by (try dsimp only at hSw); go_simp⟩) (by assumption) ?_
        simp only [List.getElem_toArray, List.getElem_cons_succ, List.getElem_cons_zero, Act.put, List.setIfInBounds_toArray, List.set_cons_zero, List.set_cons_succ]
        refine wpAnyH_ready (rs := [11]) (by kernel_rfl) (by simp) ?_
        refine AllReadyH.cons rfl (fun K hK => ?_) AllReadyH.nil
        try simp only [List.getElem_toArray, List.getElem_cons_succ, List.getElem_cons_zero]
        go_simp
        go_at_call 10
        refine (HP10.out _ HX.out).mono ?_
        rintro e w7 ⟨rfl, b7⟩
        clear HX
        have HX := Lib.hid b7
        clear b7
        go_wp2_with fail
        refine hK.out _ _ ?_ (fun hHeld => ?_)
        · exact HSC.out _ HX.out
        clear hK K
        try simp only [List.getElem_toArray, List.getElem_cons_succ, List.getElem_cons_zero, Act.put, List.setIfInBounds_toArray, List.set_cons_zero, List.set_cons_succ]
        refine wpAnyH_take (i := 12) (v := .bool true) rfl (by kernel_rfl) (by kernel_rfl) (by kernel_rfl) (fun _ _ _ h => h) (Or.inl ⟨by rfl, fun w' hSw => by (try dsimp only at hSw); go_simp⟩) (by assumption) ?_
        simp only [List.getElem_toArray, List.getElem_cons_succ, List.getElem_cons_zero, Act.put, List.setIfInBounds_toArray, List.set_cons_zero, List.set_cons_succ]
        refine wpAnyH_take (i := 13) (v := .bool true) rfl (by kernel_rfl) (by kernel_rfl) (by kernel_rfl) (fun _ _ _ h => h) (Or.inl ⟨by rfl, fun w' hSw => by (try dsimp only at hSw); go_simp⟩) (by assumption) ?_
        simp only [List.getElem_toArray, List.getElem_cons_succ, List.getElem_cons_zero, Act.put, List.setIfInBounds_toArray, List.set_cons_zero, List.set_cons_succ]
        refine wpAnyH_done (by kernel_rfl) ?_ _
        go_wp2_with fail
        go_ret
        exact ⟨rfl, BWX.out.trans (HX.out.mono BWX.out.size)⟩
end Go.Proofs.YtienjlbpaedbjaaDoor
