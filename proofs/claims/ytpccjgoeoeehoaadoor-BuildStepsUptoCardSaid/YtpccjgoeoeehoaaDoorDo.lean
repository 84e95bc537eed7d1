/- The document's own answer for documents: tidy, the walk. The document's own answer for documents: Tidy. -/
import Derived.Test.YtpccjgoeoeehoaaDoorBs
set_option linter.unusedVariables false
set_option linter.unusedSimpArgs false
namespace Go.Proofs.YtpccjgoeoeehoaaDoor
open Go.RowKit
attribute [local go_sem ↓ high] builtin_appN
/-- What tidy leaves. -/
def TdP (SI : Nat → Prop) (r : List Nd) (N : Nat) (w : World) (e : Ending) (w' : World) : Prop :=
  ∃ s : PV, e = .returned (.tuple #[pv s, .int .i64 (N : Int)]) ∧ NsS (fun b => SI b ∨ (w.heap.size ≤ b ∧ b < w'.heap.size)) w' (pv s) r ∧ Below w.heap.size w w'
theorem kt1 {k m : Int} (h1 : k = 1 ∨ k = 2) (h : stands k m = true) : kindAt k m = k := by unfold kindAt; rw [if_neg]; rw [h]; simp
theorem kt3 {k m : Int} (h1 : k = 1 ∨ k = 2) (h : stands k m = false) : kindAt k m = 3 := by unfold kindAt; rw [if_pos ⟨h1, h⟩]
theorem kt0 {k m : Int} (h1 : ¬ k = 1) (h2 : ¬ k = 2) : kindAt k m = k := by unfold kindAt; rw [if_neg]; omega
set_option maxRecDepth 100000 in
set_option maxHeartbeats 32000000 in
theorem rtidy_any : ∀ (n : Nat) (l : List Nd), cntL l = n → nlL l ≤ 90000 → ∀ (SI : Nat → Prop) (v : Value) (m : Int) (d n0 : Nat) (w : World), NsS SI w v l → (∀ b, SI b → b < w.heap.size) → n0 ≤ 20000 → d ≤ 20 →
    Calls Tryd.prog 66 #[v, .int .i64 m, .int .i64 (d : Int), .int .i64 (n0 : Int)] w (TdP SI (tdL l m d n0).1 (tdL l m d n0).2 w) := by
  intro n
  induction n using Nat.strongRecOn with
  | _ n IH =>
    intro l hn hb SI v m d n0 w hv hS h0 hd0
    have HV := Lib.hid hv
    have HS := Lib.hid hS
    obtain ⟨aa, ca, rfl⟩ := hv.len
    have HIH : Hid (∀ (k : List Nd), cntL k < n → nlL k ≤ 90000 → ∀ (v : Value) (m : Int) (d n0 : Nat) (w : World), NsS SI w v k → (∀ b, SI b → b < w.heap.size) → n0 ≤ 20000 → d ≤ 20 → Calls Tryd.prog 66 #[v, .int .i64 m, .int .i64 (d : Int), .int .i64 (n0 : Int)] w (TdP SI (tdL k m d n0).1 (tdL k m d n0).2 w)) := Lib.hid (fun k h1 h2 v m d n0 w => IH (cntL k) h1 k rfl h2 SI v m d n0 w)
    have HST := Lib.hid (fun w => rstands_any 1 m w)
    have HST2 := Lib.hid (fun w => rstands_any 2 m w)
    have hll := cnt_len l
    have hnl := cnt_nlL l
    obtain ⟨r, N, hr⟩ : ∃ r N, tdL l m d n0 = (r, N) := ⟨_, _, rfl⟩
    rw [hr]
    have HR := Lib.hid hr
    clear hr
    clear hv hS IH
    unfold TdP
    go_enter Tryd.func66, Tryd.ntmps66
    go_wp2_with fail
    go_loopw [3, 10, 11] (fun lf out i wr => ∃ (p L : Nat) (o : List Nd), Hid (tdL (l.take p) m d n0 = (o, L)) ∧ lf = .int .i64 (L : Int) ∧ i = .int .i64 (p : Int) ∧ p ≤ l.length ∧ Hid (NInv SI w.heap.size wr out o) ∧ Hid (Below w.heap.size w wr)) (fun _ _ i _ => l.length - (intOf i).toNat)
    case atStart => exact ⟨0, n0, [], Lib.hid (by rw [List.take_zero, tdL_nil]), rfl, rfl, by omega, Lib.hid (NInv.nil HS.out (Nat.le_refl _)), Lib.hid (Below.refl _ _)⟩
    case round =>
      obtain ⟨p, L, o, HE, rfl, rfl, hp, HI, HB⟩ := hrel
      have hLb := td_len (l.take p) m d n0
      rw [HE.out] at hLb
      obtain ⟨oa, oc, ho⟩ := HI.out.len
      obtain ⟨on, hon⟩ : ∃ n, o.length = n := ⟨_, rfl⟩
      rw [hon] at ho hLb
      subst ho
      have HON := Lib.hid hon
      clear hon
      simp only at hLb
      have fin : tdL l m d n0 = (o, L) → (∃ (a : Option Addr) (k c : Nat), Ending.returned (.tuple #[.slice oa on oc, .int .i64 (L : Int)]) = Ending.returned (.tuple #[pv (a, k, c), .int .i64 (N : Int)]) ∧ NsS (fun b => SI b ∨ (w.heap.size ≤ b ∧ b < wr.heap.size)) wr (pv (a, k, c)) r ∧ Below w.heap.size w wr) := fun e => by
        have e2 := HR.out.symm.trans e
        injection e2 with e3 e4
        subst e3 e4
        exact ⟨oa, on, oc, rfl, HI.out.nss, HB.out⟩
      have FIN := Lib.hid fin
      clear fin
      by_cases hlt : p < l.length
      · have hlt' : (p : Int) < (l.length : Int) := by omega
        have hp0 : (0 : Int) ≤ (p : Int) := by omega
        by_cases hL : L = 0
        · have hL' : ¬ (L : Int) > 0 := by omega
          have HL0 := Lib.hid hL
          clear hL
          go_wp2_with fail
          go_ret2
          exact FIN.out ((td_early l p m d n0 (by rw [HE.out]; exact .inl HL0.out)).trans HE.out)
        by_cases hd : 20 ≤ d
        · have hL' : (L : Int) > 0 := by omega
          have hd' : ¬ (d : Int) < 20 := by omega
          go_wp2_with fail
          go_ret2
          exact FIN.out ((td_early l p m d n0 (.inr hd)).trans HE.out)
        have hL' : (L : Int) > 0 := by omega
        have hd' : (d : Int) < 20 := by omega
        clear FIN
        obtain ⟨⟨h, ks⟩, hy⟩ : ∃ y, l[p]? = some y := ⟨l[p], List.getElem?_eq_getElem hlt⟩
        have hN := td_next hy m d n0 (by rw [HE.out]; simp only; omega)
        rw [HE.out] at hN
        have HN := Lib.hid hN
        have hc1 := cnt_le hy
        have hc2 := nl_le hy
        simp only [Nd.hd, Nd.kids] at hc1 hc2 hN
        obtain ⟨wo, hwo⟩ : ∃ wo, wo = wr := ⟨_, rfl⟩
        subst hwo
        obtain ⟨g, off, x, e, -, hc, hh, hk⟩ := (HV.out.keep (Kp.below HB.out HS.out)).atR hy
        subst e
        have HK := Lib.hid hk
        have hzz := HB.out.size
        simp only [Nd.hd] at hh
        have a0 := hc 0 _ rfl
        have a1 := hc 1 _ rfl
        have a2 := hc 2 _ rfl
        have a3 := hc 3 _ rfl
        have a4 := hc 4 _ rfl
        have a5 := hc 5 _ rfl
        have a6 := hc 6 _ rfl
        have a7 := hc 7 _ rfl
        have a8 := hc 8 _ rfl
        have a9 := hc 9 _ rfl
        have b0 := below_lit wo (.cells (ncell x).toArray 40)
        have HOW := Lib.hid (fun K => rown_any SI x h K (wo.alloc (.cells (ncell x).toArray 40)) (hh.keep (Kp.below b0 (fun z hz => Nat.lt_of_lt_of_le (HS.out z hz) hzz))) (by omega) (fun z hz => by have := HS.out z hz; rw [World.size_alloc]; omega))
        have hxB : ∀ W, Below (wo.heap.size + 1) (wo.alloc (.cells (ncell x).toArray 40)) W → Blk W wo.heap.size 40 (ncell x) := fun W hW => (hW.block wo.heap.size (by omega)).trans (heap_alloc_new wo _)
        have HXB := Lib.hid hxB
        have HSX : Hid (∀ {w2 : World} {y : NV} {hy : Hd}, Below (wo.heap.size + 1) (wo.alloc (.cells (ncell x).toArray 40)) w2 → HdIs (fun b => SI b ∨ (wo.heap.size + 1 ≤ b ∧ b < w2.heap.size)) w2 y hy → TR SI w.heap.size wo x w2.heap.size y hy (w2.alloc (.cells (ncell y).toArray 40))) := Lib.hid (TR.start HS.out hzz)
        have hxk := hh.kind
        have x0 := (Blk.below (e := 40) (heap_alloc_new wo _) (Below.refl _ _) : Blk (wo.alloc (.cells (ncell x).toArray 40)) wo.heap.size 40 (ncell x)).cell 0
        have HH := Lib.hid hxk
        have HY := Lib.hid hy
        clear hc hh hk b0 hy hxB hN hxk
        obtain ⟨xk, xl, xn, ⟨t1, t2, t3⟩, ⟨s1, s2, s3⟩, ⟨r1, r2, r3⟩, co, ⟨q1, q2, q3⟩, xb, xa⟩ := x
        simp only [ncell, pv] at a0 a1 a2 a3 a4 a5 a6 a7 a8 a9 HOW x0
        simp only at HH
        rw [Nat.add_zero] at a0
        have wL : IntKind.i64.wrap ((L : Int) - 1) = ((L - 1 : Nat) : Int) := by rw [IntWalk.i64_in _ (by omega)]; omega
        have HI5 := Lib.hid (fun W => rin1245 xk W)
        rw [c1245] at HI5
        simp only [World.size_alloc] at HOW
        by_cases k1 : xk = 1
        · subst k1
          rw [show mayK 1 = true from rfl] at HI5
          have HM : Hid (mayK h.kind = true) := Lib.hid (by rw [← HH.out]; rfl)
          by_cases hst : stands 1 m = true
          · rw [hst] at HST
            have HKT : Hid (kindAt h.kind m = 1) := Lib.hid (by rw [← HH.out]; exact kt1 (by omega) hst)
            clear hst HST2
            have HOK := Lib.hid (HOW.out (1))
            clear HOW
            go_wp2_with fail
            refine (HST.out _).mono ?_
            rintro e w1 ⟨rfl, rfl⟩
            go_wp2_with fail
            refine HOK.out.mono ?_
            rintro e w2 ⟨⟨yk, yl, yn, ⟨y1, y2, y3⟩, ky, ⟨z1, z2, z3⟩, yo, ⟨u1, u2, u3⟩, yb, ya⟩, rfl, hky, hhy, b2⟩
            simp only at hky
            subst hky
            have HT3 := Lib.hid (HSX.out b2 hhy)
            have hI := HI5.out (w2.alloc (.cells (ncell ⟨yk, yl, yn, (y1, y2, y3), (none, 0, 0), (z1, z2, z3), yo, (u1, u2, u3), yb, ya⟩).toArray 40))
            rw [World.size_alloc] at hI
            have x0' := HT3.out.ts.bx.cell 0
            simp only [ncell, pv] at hI x0'
            have HIN := Lib.hid hI
            clear hI a0 a1 a2 a3 a4 a5 a6 a7 a8 a9 HOK HXB HSX hhy b2 x0
            simp only [ncell, pv]
            go_wp2_with fail
            refine HIN.out.mono ?_
            rintro e w5 ⟨rfl, hw5⟩
            have HT5 : Hid (TR SI w.heap.size wo ⟨1, xl, xn, (t1, t2, t3), (s1, s2, s3), (r1, r2, r3), co, (q1, q2, q3), xb, xa⟩ w2.heap.size ⟨yk, yl, yn, (y1, y2, y3), (none, 0, 0), (z1, z2, z3), yo, (u1, u2, u3), yb, ya⟩ (ownH h (1)) w5) := Lib.hid (by rw [hw5]; exact HT3.out.keep (below_lit _ _))
            clear hw5 HIN HT3 x0' HI5
            by_cases hf : fullB (ownH h (1)) false = true
            · have HIN0 : Hid (innerB h m = true) := Lib.hid (by unfold innerB; rw [HKT.out, HM.out, hf, ← HH.out]; rfl)
              have hf1 := hf
              have xc0 : w5.cell? ⟨wo.heap.size, 0, none⟩ = some (.int .i64 1) := HT5.out.ts.bx.cell 0
              have yc0 : (w5).cell? ⟨w2.heap.size, 0, none⟩ = some (.int .i64 yk) := HT5.out.ts.by'.cell 0
              have yc1 : (w5).cell? ⟨w2.heap.size, 1, none⟩ = some (.int .i64 yl) := HT5.out.ts.by'.cell 1
              have yc2 : (w5).cell? ⟨w2.heap.size, 2, none⟩ = some (.int .i64 yn) := HT5.out.ts.by'.cell 2
              have yc3 : (w5).cell? ⟨w2.heap.size, 3, none⟩ = some (.slice y1 y2 y3) := HT5.out.ts.by'.cell 3
              have yc4 : (w5).cell? ⟨w2.heap.size, 4, none⟩ = some (.slice none 0 0) := HT5.out.ts.by'.cell 4
              have yc5 : (w5).cell? ⟨w2.heap.size, 5, none⟩ = some (.slice z1 z2 z3) := HT5.out.ts.by'.cell 5
              have yc6 : (w5).cell? ⟨w2.heap.size, 6, none⟩ = some (.string ⟨yo.toArray⟩) := HT5.out.ts.by'.cell 6
              have yc7 : (w5).cell? ⟨w2.heap.size, 7, none⟩ = some (.slice u1 u2 u3) := HT5.out.ts.by'.cell 7
              have yc8 : (w5).cell? ⟨w2.heap.size, 8, none⟩ = some (.bool yb) := HT5.out.ts.by'.cell 8
              have yc9 : (w5).cell? ⟨w2.heap.size, 9, none⟩ = some (.bool ya) := HT5.out.ts.by'.cell 9
              have hF := rfull_of HT5.out.hd w5
              rw [show fullB (ownH h (1)) (decide (0 < (⟨yk, yl, yn, (y1, y2, y3), (none, 0, 0), (z1, z2, z3), yo, (u1, u2, u3), yb, ya⟩ : NV).kids.2.1)) = true from hf1] at hF
              simp only [ncell, pv] at hF
              have HF := Lib.hid hF
              clear hF
              go_wp2_with fail
              refine HF.out.mono ?_
              rintro e w6 ⟨rfl, b6⟩
              have HT6 := Lib.hid (HT5.out.keep b6)
              clear b6 HF xc0 yc0 yc1 yc2 yc3 yc4 yc5 yc6 yc7 yc8 yc9
              have c4 : w6.cell? ⟨wo.heap.size, 4, none⟩ = some (.slice s1 s2 s3) := HT6.out.ts.bx.cell 4
              have wd : IntKind.i64.wrap ((d : Int) + 1) = ((d + 1 : Nat) : Int) := by rw [IntWalk.i64_in _ (by omega)]; omega
              obtain ⟨kl, kn, hkl⟩ : ∃ a b, tdL ks (1) (d + 1) (L - 1) = (a, b) := ⟨_, _, rfl⟩
              have hR := HIH.out ks (by omega) (by omega) (.slice s1 s2 s3) (1) (d + 1) (L - 1) w6 (HK.out.keep (Kp.below HT6.out.ts.bel (fun z hz => Nat.lt_of_lt_of_le (HS.out z hz) hzz))) (fun z hz => Nat.lt_of_lt_of_le (Nat.lt_of_lt_of_le (HS.out z hz) hzz) HT6.out.ts.bel.size) (by omega) (by omega)
              rw [hkl] at hR
              unfold TdP at hR
              simp only at hR
              have HRR := Lib.hid hR
              have hkb := td_len ks (1) (d + 1) (L - 1)
              rw [hkl] at hkb
              simp only at hkb
              have HKL := Lib.hid hkl
              clear hR hkl
              go_wp2_with fail
              refine HRR.out.mono ?_
              rintro e w7 ⟨⟨c1, c2, c3⟩, rfl, hs, b7⟩
              simp only [pv]
              have HT7 := Lib.hid (HT6.out.keep b7)
              have HKS : Hid (NsS (fun b => SI b ∨ (w6.heap.size ≤ b ∧ b < w7.heap.size)) w7 (pv (c1, c2, c3)) kl) := Lib.hid hs
              have hc2 : decide (0 < c2) = hasK kl := by
                obtain ⟨aa', ca', e⟩ := hs.len
                have e2 := pv_eq e
                injection e2 with _ e3
                injection e3 with e4 _
                rw [e4]
                exact hasK_len kl
              have HC2 := Lib.hid hc2
              have hg6 : w2.heap.size < w6.heap.size := HT6.out.ts.sz
              have hl6 : wo.heap.size < w2.heap.size := HT6.out.ts.lt
              have f4 : w7.frozen? ⟨w2.heap.size, 4, none⟩ = false := HT7.out.ts.by'.frozen (by simp [ncell])
              have g4 : w7.cell? ⟨w2.heap.size, 4, none⟩ = some (.slice none 0 0) := HT7.out.ts.by'.cell 4
              have HT8 : Hid (TR SI w.heap.size wo ⟨1, xl, xn, (t1, t2, t3), (s1, s2, s3), (r1, r2, r3), co, (q1, q2, q3), xb, xa⟩ w2.heap.size ⟨yk, yl, yn, (y1, y2, y3), (c1, c2, c3), (z1, z2, z3), yo, (u1, u2, u3), yb, ya⟩ (ownH h (1)) (w7.setCell ⟨w2.heap.size, 4, none⟩ (.slice c1 c2 c3))) := Lib.hid (HT7.out.setK (c1, c2, c3))
              have HKS8 : Hid (NsS (fun b => SI b ∨ (w6.heap.size ≤ b ∧ b < (w7.setCell ⟨w2.heap.size, 4, none⟩ (.slice c1 c2 c3)).heap.size)) (w7.setCell ⟨w2.heap.size, 4, none⟩ (.slice c1 c2 c3)) (.slice c1 c2 c3) kl) := Lib.hid (by
                rw [szset]
                refine NsS.keep HKS.out (fun b q => Below.heap_setCell _ _ _ _ ?_)
                have hb6 := HT6.out.ts.sz
                show b ≠ w2.heap.size
                rcases q with q | q
                · have := HS.out b q; omega
                · omega)
              have yc0 : (w7.setCell ⟨w2.heap.size, 4, none⟩ (.slice c1 c2 c3)).cell? ⟨w2.heap.size, 0, none⟩ = some (.int .i64 yk) := HT8.out.ts.by'.cell 0
              have yc1 : (w7.setCell ⟨w2.heap.size, 4, none⟩ (.slice c1 c2 c3)).cell? ⟨w2.heap.size, 1, none⟩ = some (.int .i64 yl) := HT8.out.ts.by'.cell 1
              have yc2 : (w7.setCell ⟨w2.heap.size, 4, none⟩ (.slice c1 c2 c3)).cell? ⟨w2.heap.size, 2, none⟩ = some (.int .i64 yn) := HT8.out.ts.by'.cell 2
              have yc3 : (w7.setCell ⟨w2.heap.size, 4, none⟩ (.slice c1 c2 c3)).cell? ⟨w2.heap.size, 3, none⟩ = some (.slice y1 y2 y3) := HT8.out.ts.by'.cell 3
              have yc4 : (w7.setCell ⟨w2.heap.size, 4, none⟩ (.slice c1 c2 c3)).cell? ⟨w2.heap.size, 4, none⟩ = some (.slice c1 c2 c3) := HT8.out.ts.by'.cell 4
              have yc5 : (w7.setCell ⟨w2.heap.size, 4, none⟩ (.slice c1 c2 c3)).cell? ⟨w2.heap.size, 5, none⟩ = some (.slice z1 z2 z3) := HT8.out.ts.by'.cell 5
              have yc6 : (w7.setCell ⟨w2.heap.size, 4, none⟩ (.slice c1 c2 c3)).cell? ⟨w2.heap.size, 6, none⟩ = some (.string ⟨yo.toArray⟩) := HT8.out.ts.by'.cell 6
              have yc7 : (w7.setCell ⟨w2.heap.size, 4, none⟩ (.slice c1 c2 c3)).cell? ⟨w2.heap.size, 7, none⟩ = some (.slice u1 u2 u3) := HT8.out.ts.by'.cell 7
              have yc8 : (w7.setCell ⟨w2.heap.size, 4, none⟩ (.slice c1 c2 c3)).cell? ⟨w2.heap.size, 8, none⟩ = some (.bool yb) := HT8.out.ts.by'.cell 8
              have yc9 : (w7.setCell ⟨w2.heap.size, 4, none⟩ (.slice c1 c2 c3)).cell? ⟨w2.heap.size, 9, none⟩ = some (.bool ya) := HT8.out.ts.by'.cell 9
              have hF := rfull_of HT8.out.hd (w7.setCell ⟨w2.heap.size, 4, none⟩ (.slice c1 c2 c3))
              rw [show fullB (ownH h (1)) (decide (0 < (⟨yk, yl, yn, (y1, y2, y3), (c1, c2, c3), (z1, z2, z3), yo, (u1, u2, u3), yb, ya⟩ : NV).kids.2.1)) = fullB (ownH h (1)) (hasK kl) from congrArg _ HC2.out] at hF
              simp only [ncell, pv] at hF
              have HF2 : Hid (fullB (ownH h (1)) (hasK kl) = true) := Lib.hid (full_other hf (by show ¬ (1 : Int) = 5; decide) (hasK kl))
              rw [HF2.out] at hF
              have HF := Lib.hid hF
              clear hF hs b7 hc2 HKS HT7 c4
              go_wp2_with fail
              refine HF.out.mono ?_
              rintro e w9 ⟨rfl, b9⟩
              have HT9 := Lib.hid (HT8.out.keep b9)
              have HKS9 := Lib.hid (HKS8.out.keep (Kp.below b9 (fun z q => by rcases q with q | q; (have h1 := HS.out z q; have h2 := HT8.out.ts.sz; omega); exact q.2)))
              have HB9 := Lib.hid b9.size
              clear b9 HF yc0 yc1 yc2 yc3 yc4 yc5 yc6 yc7 yc8 yc9 HT8 HKS8 f4 g4
              have hpush := HT9.out.push HI.out (kl := kl) (HKS9.out.mono (fun z q => q.imp id (fun q => by have h1 := HT6.out.ts.bel.size; have h2 := HB9.out; omega))) (by have := HON.out; omega)
              rw [HON.out] at hpush
              obtain ⟨a', c', w10, hr, hI, hb10, -⟩ := hpush
              simp only [ncell, pv] at hr
              have HB10 : Hid (Below w.heap.size w w10) := Lib.hid (HB.out.trans ((HT9.out.ts.bel.mono hzz).trans hb10))
              have HI10 := Lib.hid hI
              have yc0 : (w9).cell? ⟨w2.heap.size, 0, none⟩ = some (.int .i64 yk) := HT9.out.ts.by'.cell 0
              have yc1 : (w9).cell? ⟨w2.heap.size, 1, none⟩ = some (.int .i64 yl) := HT9.out.ts.by'.cell 1
              have yc2 : (w9).cell? ⟨w2.heap.size, 2, none⟩ = some (.int .i64 yn) := HT9.out.ts.by'.cell 2
              have yc3 : (w9).cell? ⟨w2.heap.size, 3, none⟩ = some (.slice y1 y2 y3) := HT9.out.ts.by'.cell 3
              have yc4 : (w9).cell? ⟨w2.heap.size, 4, none⟩ = some (.slice c1 c2 c3) := HT9.out.ts.by'.cell 4
              have yc5 : (w9).cell? ⟨w2.heap.size, 5, none⟩ = some (.slice z1 z2 z3) := HT9.out.ts.by'.cell 5
              have yc6 : (w9).cell? ⟨w2.heap.size, 6, none⟩ = some (.string ⟨yo.toArray⟩) := HT9.out.ts.by'.cell 6
              have yc7 : (w9).cell? ⟨w2.heap.size, 7, none⟩ = some (.slice u1 u2 u3) := HT9.out.ts.by'.cell 7
              have yc8 : (w9).cell? ⟨w2.heap.size, 8, none⟩ = some (.bool yb) := HT9.out.ts.by'.cell 8
              have yc9 : (w9).cell? ⟨w2.heap.size, 9, none⟩ = some (.bool ya) := HT9.out.ts.by'.cell 9
              clear hI hb10
              go_wp2_with fail
              have HN2 : Hid (tdL (l.take (p + 1)) m d n0 = (o ++ [.mk (ownH h (1)) kl], kn)) := Lib.hid (by rw [HN.out, td_in HKT.out HIN0.out, HKL.out]; simp only; rw [HF2.out]; rfl)
              go_roundw
              case rel => exact ⟨p + 1, kn, _, HN2, rfl, by go_num, by omega, HI10, HB10⟩
              case measure => (simp [intOf]; try omega)
            · have hf1 : fullB (ownH h (1)) false = false := by simpa using hf
              have HIN0 : Hid (innerB h m = false) := Lib.hid (by unfold innerB; rw [HKT.out, HM.out, hf1, ← HH.out]; rfl)
              clear hf
              have xc0 : w5.cell? ⟨wo.heap.size, 0, none⟩ = some (.int .i64 1) := HT5.out.ts.bx.cell 0
              have yc0 : (w5).cell? ⟨w2.heap.size, 0, none⟩ = some (.int .i64 yk) := HT5.out.ts.by'.cell 0
              have yc1 : (w5).cell? ⟨w2.heap.size, 1, none⟩ = some (.int .i64 yl) := HT5.out.ts.by'.cell 1
              have yc2 : (w5).cell? ⟨w2.heap.size, 2, none⟩ = some (.int .i64 yn) := HT5.out.ts.by'.cell 2
              have yc3 : (w5).cell? ⟨w2.heap.size, 3, none⟩ = some (.slice y1 y2 y3) := HT5.out.ts.by'.cell 3
              have yc4 : (w5).cell? ⟨w2.heap.size, 4, none⟩ = some (.slice none 0 0) := HT5.out.ts.by'.cell 4
              have yc5 : (w5).cell? ⟨w2.heap.size, 5, none⟩ = some (.slice z1 z2 z3) := HT5.out.ts.by'.cell 5
              have yc6 : (w5).cell? ⟨w2.heap.size, 6, none⟩ = some (.string ⟨yo.toArray⟩) := HT5.out.ts.by'.cell 6
              have yc7 : (w5).cell? ⟨w2.heap.size, 7, none⟩ = some (.slice u1 u2 u3) := HT5.out.ts.by'.cell 7
              have yc8 : (w5).cell? ⟨w2.heap.size, 8, none⟩ = some (.bool yb) := HT5.out.ts.by'.cell 8
              have yc9 : (w5).cell? ⟨w2.heap.size, 9, none⟩ = some (.bool ya) := HT5.out.ts.by'.cell 9
              have hF := rfull_of HT5.out.hd w5
              rw [show fullB (ownH h (1)) (decide (0 < (⟨yk, yl, yn, (y1, y2, y3), (none, 0, 0), (z1, z2, z3), yo, (u1, u2, u3), yb, ya⟩ : NV).kids.2.1)) = false from hf1] at hF
              simp only [ncell, pv] at hF
              have HF := Lib.hid hF
              clear hF
              go_wp2_with fail
              refine HF.out.mono ?_
              rintro e w6 ⟨rfl, b6⟩
              have HT6 := Lib.hid (HT5.out.keep b6)
              clear b6 HF xc0 yc0 yc1 yc2 yc3 yc4 yc5 yc6 yc7 yc8 yc9
              have yc0 : (w6).cell? ⟨w2.heap.size, 0, none⟩ = some (.int .i64 yk) := HT6.out.ts.by'.cell 0
              have yc1 : (w6).cell? ⟨w2.heap.size, 1, none⟩ = some (.int .i64 yl) := HT6.out.ts.by'.cell 1
              have yc2 : (w6).cell? ⟨w2.heap.size, 2, none⟩ = some (.int .i64 yn) := HT6.out.ts.by'.cell 2
              have yc3 : (w6).cell? ⟨w2.heap.size, 3, none⟩ = some (.slice y1 y2 y3) := HT6.out.ts.by'.cell 3
              have yc4 : (w6).cell? ⟨w2.heap.size, 4, none⟩ = some (.slice none 0 0) := HT6.out.ts.by'.cell 4
              have yc5 : (w6).cell? ⟨w2.heap.size, 5, none⟩ = some (.slice z1 z2 z3) := HT6.out.ts.by'.cell 5
              have yc6 : (w6).cell? ⟨w2.heap.size, 6, none⟩ = some (.string ⟨yo.toArray⟩) := HT6.out.ts.by'.cell 6
              have yc7 : (w6).cell? ⟨w2.heap.size, 7, none⟩ = some (.slice u1 u2 u3) := HT6.out.ts.by'.cell 7
              have yc8 : (w6).cell? ⟨w2.heap.size, 8, none⟩ = some (.bool yb) := HT6.out.ts.by'.cell 8
              have yc9 : (w6).cell? ⟨w2.heap.size, 9, none⟩ = some (.bool ya) := HT6.out.ts.by'.cell 9
              have hF := rfull_of HT6.out.hd w6
              rw [show fullB (ownH h (1)) (decide (0 < (⟨yk, yl, yn, (y1, y2, y3), (none, 0, 0), (z1, z2, z3), yo, (u1, u2, u3), yb, ya⟩ : NV).kids.2.1)) = false from hf1] at hF
              simp only [ncell, pv] at hF
              have HF := Lib.hid hF
              clear hF
              go_wp2_with fail
              refine HF.out.mono ?_
              rintro e w7 ⟨rfl, b7⟩
              have HT7 := Lib.hid (HT6.out.keep b7)
              clear b7 HF yc0 yc1 yc2 yc3 yc4 yc5 yc6 yc7 yc8 yc9
              have HB8 : Hid (Below w.heap.size w w7) := Lib.hid (HB.out.trans (HT7.out.ts.bel.mono hzz))
              have HI8 := Lib.hid (HI.out.keep HT7.out.ts.bel)
              have HBX := Lib.hid HT7.out.ts.bx
              have c4 : w7.cell? ⟨wo.heap.size, 4, none⟩ = some (.slice s1 s2 s3) := HBX.out.cell 4
              obtain ⟨kl, kn, hkl⟩ : ∃ a b, tdL ks m d (L - 1) = (a, b) := ⟨_, _, rfl⟩
              have hR := HIH.out ks (by omega) (by omega) (.slice s1 s2 s3) m d (L - 1) w7 (HK.out.keep (fun z hz => ((HB8.out.block z (HS.out z hz)).trans (HB.out.block z (HS.out z hz)).symm))) (fun z hz => Nat.lt_of_lt_of_le (HS.out z hz) HB8.out.size) (by omega) (by omega)
              rw [hkl] at hR
              unfold TdP at hR
              simp only at hR
              have HRR := Lib.hid hR
              have hkb := td_len ks m d (L - 1)
              rw [hkl] at hkb
              simp only at hkb
              have HKL := Lib.hid hkl
              clear hR hkl
              go_wp2_with fail
              refine HRR.out.mono ?_
              rintro e w9 ⟨⟨c1, c2, c3⟩, rfl, hs, b9⟩
              simp only [pv]
              have hkids := HI8.out.kids b9 hs (by have := HON.out; (try simp only [List.length_append, List.length_cons, List.length_nil]); omega)
              rw [HON.out] at hkids
              obtain ⟨a2, d2, w10, hr2, hI2, hb2⟩ := hkids
              simp only [pv] at hr2
              have HB10 : Hid (Below w.heap.size w w10) := Lib.hid (HB8.out.trans ((b9.mono HB8.out.size).trans hb2))
              have HI10 := Lib.hid hI2
              clear hI2 hb2 hs b9 c4
              go_wp2_with fail
              have HN2 : Hid (tdL (l.take (p + 1)) m d n0 = (o ++ kl, kn)) := Lib.hid (by rw [HN.out, td_out HKT.out HIN0.out HM.out, HKL.out]; simp only; rw [hf1]; simp)
              go_roundw
              case rel => exact ⟨p + 1, kn, _, HN2, rfl, by go_num, by omega, HI10, HB10⟩
              case measure => (simp [intOf]; try omega)
          · have hst' : stands 1 m = false := by simpa using hst
            rw [hst'] at HST
            have HKT : Hid (kindAt h.kind m = 3) := Lib.hid (by rw [← HH.out]; exact kt3 (by omega) hst')
            clear hst hst' HST2
            have HOK := Lib.hid (HOW.out (3))
            clear HOW
            go_wp2_with fail
            refine (HST.out _).mono ?_
            rintro e w1 ⟨rfl, rfl⟩
            go_wp2_with fail
            refine HOK.out.mono ?_
            rintro e w2 ⟨⟨yk, yl, yn, ⟨y1, y2, y3⟩, ky, ⟨z1, z2, z3⟩, yo, ⟨u1, u2, u3⟩, yb, ya⟩, rfl, hky, hhy, b2⟩
            simp only at hky
            subst hky
            have HT3 := Lib.hid (HSX.out b2 hhy)
            have hI := HI5.out (w2.alloc (.cells (ncell ⟨yk, yl, yn, (y1, y2, y3), (none, 0, 0), (z1, z2, z3), yo, (u1, u2, u3), yb, ya⟩).toArray 40))
            rw [World.size_alloc] at hI
            have x0' := HT3.out.ts.bx.cell 0
            simp only [ncell, pv] at hI x0'
            have HIN := Lib.hid hI
            clear hI a0 a1 a2 a3 a4 a5 a6 a7 a8 a9 HOK HXB HSX hhy b2 x0
            simp only [ncell, pv]
            go_wp2_with fail
            refine HIN.out.mono ?_
            rintro e w5 ⟨rfl, hw5⟩
            have HT5 : Hid (TR SI w.heap.size wo ⟨1, xl, xn, (t1, t2, t3), (s1, s2, s3), (r1, r2, r3), co, (q1, q2, q3), xb, xa⟩ w2.heap.size ⟨yk, yl, yn, (y1, y2, y3), (none, 0, 0), (z1, z2, z3), yo, (u1, u2, u3), yb, ya⟩ (ownH h (3)) w5) := Lib.hid (by rw [hw5]; exact HT3.out.keep (below_lit _ _))
            clear hw5 HIN HT3 x0' HI5
            have HIN0 : Hid (innerB h m = false) := Lib.hid (by unfold innerB; rw [HKT.out, HM.out, ← HH.out]; rfl)
            by_cases hf : fullB (ownH h (3)) false = true
            · have hf1 := hf
              clear hf
              have xc0 : w5.cell? ⟨wo.heap.size, 0, none⟩ = some (.int .i64 1) := HT5.out.ts.bx.cell 0
              have yc0 : (w5).cell? ⟨w2.heap.size, 0, none⟩ = some (.int .i64 yk) := HT5.out.ts.by'.cell 0
              have yc1 : (w5).cell? ⟨w2.heap.size, 1, none⟩ = some (.int .i64 yl) := HT5.out.ts.by'.cell 1
              have yc2 : (w5).cell? ⟨w2.heap.size, 2, none⟩ = some (.int .i64 yn) := HT5.out.ts.by'.cell 2
              have yc3 : (w5).cell? ⟨w2.heap.size, 3, none⟩ = some (.slice y1 y2 y3) := HT5.out.ts.by'.cell 3
              have yc4 : (w5).cell? ⟨w2.heap.size, 4, none⟩ = some (.slice none 0 0) := HT5.out.ts.by'.cell 4
              have yc5 : (w5).cell? ⟨w2.heap.size, 5, none⟩ = some (.slice z1 z2 z3) := HT5.out.ts.by'.cell 5
              have yc6 : (w5).cell? ⟨w2.heap.size, 6, none⟩ = some (.string ⟨yo.toArray⟩) := HT5.out.ts.by'.cell 6
              have yc7 : (w5).cell? ⟨w2.heap.size, 7, none⟩ = some (.slice u1 u2 u3) := HT5.out.ts.by'.cell 7
              have yc8 : (w5).cell? ⟨w2.heap.size, 8, none⟩ = some (.bool yb) := HT5.out.ts.by'.cell 8
              have yc9 : (w5).cell? ⟨w2.heap.size, 9, none⟩ = some (.bool ya) := HT5.out.ts.by'.cell 9
              have hF := rfull_of HT5.out.hd w5
              rw [show fullB (ownH h (3)) (decide (0 < (⟨yk, yl, yn, (y1, y2, y3), (none, 0, 0), (z1, z2, z3), yo, (u1, u2, u3), yb, ya⟩ : NV).kids.2.1)) = true from hf1] at hF
              simp only [ncell, pv] at hF
              have HF := Lib.hid hF
              clear hF
              go_wp2_with fail
              refine HF.out.mono ?_
              rintro e w7 ⟨rfl, b7⟩
              have HT7 := Lib.hid (HT5.out.keep b7)
              clear b7 HF yc0 yc1 yc2 yc3 yc4 yc5 yc6 yc7 yc8 yc9 xc0
              have hpush := HT7.out.push HI.out (kl := []) (NsS.nil _ _) (by have := HON.out; omega)
              rw [HON.out] at hpush
              obtain ⟨a', c', w8, hr, hI, hb8, hbx⟩ := hpush
              simp only [ncell, pv] at hr
              have HB8 : Hid (Below w.heap.size w w8) := Lib.hid (HB.out.trans ((HT7.out.ts.bel.mono hzz).trans hb8))
              have HI8 := Lib.hid hI
              have HBX := Lib.hid hbx
              have yc0 : (w7).cell? ⟨w2.heap.size, 0, none⟩ = some (.int .i64 yk) := HT7.out.ts.by'.cell 0
              have yc1 : (w7).cell? ⟨w2.heap.size, 1, none⟩ = some (.int .i64 yl) := HT7.out.ts.by'.cell 1
              have yc2 : (w7).cell? ⟨w2.heap.size, 2, none⟩ = some (.int .i64 yn) := HT7.out.ts.by'.cell 2
              have yc3 : (w7).cell? ⟨w2.heap.size, 3, none⟩ = some (.slice y1 y2 y3) := HT7.out.ts.by'.cell 3
              have yc4 : (w7).cell? ⟨w2.heap.size, 4, none⟩ = some (.slice none 0 0) := HT7.out.ts.by'.cell 4
              have yc5 : (w7).cell? ⟨w2.heap.size, 5, none⟩ = some (.slice z1 z2 z3) := HT7.out.ts.by'.cell 5
              have yc6 : (w7).cell? ⟨w2.heap.size, 6, none⟩ = some (.string ⟨yo.toArray⟩) := HT7.out.ts.by'.cell 6
              have yc7 : (w7).cell? ⟨w2.heap.size, 7, none⟩ = some (.slice u1 u2 u3) := HT7.out.ts.by'.cell 7
              have yc8 : (w7).cell? ⟨w2.heap.size, 8, none⟩ = some (.bool yb) := HT7.out.ts.by'.cell 8
              have yc9 : (w7).cell? ⟨w2.heap.size, 9, none⟩ = some (.bool ya) := HT7.out.ts.by'.cell 9
              clear hI hb8 hbx
              have c4 : w8.cell? ⟨wo.heap.size, 4, none⟩ = some (.slice s1 s2 s3) := HBX.out.cell 4
              obtain ⟨kl, kn, hkl⟩ : ∃ a b, tdL ks m d (L - 1) = (a, b) := ⟨_, _, rfl⟩
              have hR := HIH.out ks (by omega) (by omega) (.slice s1 s2 s3) m d (L - 1) w8 (HK.out.keep (fun z hz => ((HB8.out.block z (HS.out z hz)).trans (HB.out.block z (HS.out z hz)).symm))) (fun z hz => Nat.lt_of_lt_of_le (HS.out z hz) HB8.out.size) (by omega) (by omega)
              rw [hkl] at hR
              unfold TdP at hR
              simp only at hR
              have HRR := Lib.hid hR
              have hkb := td_len ks m d (L - 1)
              rw [hkl] at hkb
              simp only at hkb
              have HKL := Lib.hid hkl
              clear hR hkl
              go_wp2_with fail
              refine HRR.out.mono ?_
              rintro e w9 ⟨⟨c1, c2, c3⟩, rfl, hs, b9⟩
              simp only [pv]
              have hkids := HI8.out.kids b9 hs (by have := HON.out; (try simp only [List.length_append, List.length_cons, List.length_nil]); omega)
              rw [List.length_append, HON.out] at hkids
              simp only [List.length_cons, List.length_nil] at hkids
              obtain ⟨a2, d2, w10, hr2, hI2, hb2⟩ := hkids
              simp only [pv] at hr2
              have HB10 : Hid (Below w.heap.size w w10) := Lib.hid (HB8.out.trans ((b9.mono HB8.out.size).trans hb2))
              have HI10 := Lib.hid hI2
              clear hI2 hb2 hs b9 c4
              go_wp2_with fail
              have HN2 : Hid (tdL (l.take (p + 1)) m d n0 = (o ++ [.mk (ownH h (3)) []] ++ kl, kn)) := Lib.hid (by rw [HN.out, td_out HKT.out HIN0.out HM.out, HKL.out]; simp only; rw [hf1]; simp)
              go_roundw
              case rel => exact ⟨p + 1, kn, _, HN2, rfl, by go_num, by omega, HI10, HB10⟩
              case measure => (simp [intOf]; try omega)
            · have hf1 : fullB (ownH h (3)) false = false := by simpa using hf
              clear hf
              have xc0 : w5.cell? ⟨wo.heap.size, 0, none⟩ = some (.int .i64 1) := HT5.out.ts.bx.cell 0
              have yc0 : (w5).cell? ⟨w2.heap.size, 0, none⟩ = some (.int .i64 yk) := HT5.out.ts.by'.cell 0
              have yc1 : (w5).cell? ⟨w2.heap.size, 1, none⟩ = some (.int .i64 yl) := HT5.out.ts.by'.cell 1
              have yc2 : (w5).cell? ⟨w2.heap.size, 2, none⟩ = some (.int .i64 yn) := HT5.out.ts.by'.cell 2
              have yc3 : (w5).cell? ⟨w2.heap.size, 3, none⟩ = some (.slice y1 y2 y3) := HT5.out.ts.by'.cell 3
              have yc4 : (w5).cell? ⟨w2.heap.size, 4, none⟩ = some (.slice none 0 0) := HT5.out.ts.by'.cell 4
              have yc5 : (w5).cell? ⟨w2.heap.size, 5, none⟩ = some (.slice z1 z2 z3) := HT5.out.ts.by'.cell 5
              have yc6 : (w5).cell? ⟨w2.heap.size, 6, none⟩ = some (.string ⟨yo.toArray⟩) := HT5.out.ts.by'.cell 6
              have yc7 : (w5).cell? ⟨w2.heap.size, 7, none⟩ = some (.slice u1 u2 u3) := HT5.out.ts.by'.cell 7
              have yc8 : (w5).cell? ⟨w2.heap.size, 8, none⟩ = some (.bool yb) := HT5.out.ts.by'.cell 8
              have yc9 : (w5).cell? ⟨w2.heap.size, 9, none⟩ = some (.bool ya) := HT5.out.ts.by'.cell 9
              have hF := rfull_of HT5.out.hd w5
              rw [show fullB (ownH h (3)) (decide (0 < (⟨yk, yl, yn, (y1, y2, y3), (none, 0, 0), (z1, z2, z3), yo, (u1, u2, u3), yb, ya⟩ : NV).kids.2.1)) = false from hf1] at hF
              simp only [ncell, pv] at hF
              have HF := Lib.hid hF
              clear hF
              go_wp2_with fail
              refine HF.out.mono ?_
              rintro e w7 ⟨rfl, b7⟩
              have HT7 := Lib.hid (HT5.out.keep b7)
              clear b7 HF yc0 yc1 yc2 yc3 yc4 yc5 yc6 yc7 yc8 yc9 xc0
              have HB8 : Hid (Below w.heap.size w w7) := Lib.hid (HB.out.trans (HT7.out.ts.bel.mono hzz))
              have HI8 := Lib.hid (HI.out.keep HT7.out.ts.bel)
              have HBX := Lib.hid HT7.out.ts.bx
              have c4 : w7.cell? ⟨wo.heap.size, 4, none⟩ = some (.slice s1 s2 s3) := HBX.out.cell 4
              obtain ⟨kl, kn, hkl⟩ : ∃ a b, tdL ks m d (L - 1) = (a, b) := ⟨_, _, rfl⟩
              have hR := HIH.out ks (by omega) (by omega) (.slice s1 s2 s3) m d (L - 1) w7 (HK.out.keep (fun z hz => ((HB8.out.block z (HS.out z hz)).trans (HB.out.block z (HS.out z hz)).symm))) (fun z hz => Nat.lt_of_lt_of_le (HS.out z hz) HB8.out.size) (by omega) (by omega)
              rw [hkl] at hR
              unfold TdP at hR
              simp only at hR
              have HRR := Lib.hid hR
              have hkb := td_len ks m d (L - 1)
              rw [hkl] at hkb
              simp only at hkb
              have HKL := Lib.hid hkl
              clear hR hkl
              go_wp2_with fail
              refine HRR.out.mono ?_
              rintro e w9 ⟨⟨c1, c2, c3⟩, rfl, hs, b9⟩
              simp only [pv]
              have hkids := HI8.out.kids b9 hs (by have := HON.out; (try simp only [List.length_append, List.length_cons, List.length_nil]); omega)
              rw [HON.out] at hkids
              obtain ⟨a2, d2, w10, hr2, hI2, hb2⟩ := hkids
              simp only [pv] at hr2
              have HB10 : Hid (Below w.heap.size w w10) := Lib.hid (HB8.out.trans ((b9.mono HB8.out.size).trans hb2))
              have HI10 := Lib.hid hI2
              clear hI2 hb2 hs b9 c4
              go_wp2_with fail
              have HN2 : Hid (tdL (l.take (p + 1)) m d n0 = (o ++ kl, kn)) := Lib.hid (by rw [HN.out, td_out HKT.out HIN0.out HM.out, HKL.out]; simp only; rw [hf1]; simp)
              go_roundw
              case rel => exact ⟨p + 1, kn, _, HN2, rfl, by go_num, by omega, HI10, HB10⟩
              case measure => (simp [intOf]; try omega)
        by_cases k2 : xk = 2
        · subst k2
          rw [show mayK 2 = true from rfl] at HI5
          have HM : Hid (mayK h.kind = true) := Lib.hid (by rw [← HH.out]; rfl)
          by_cases hst : stands 2 m = true
          · rw [hst] at HST2
            have HKT : Hid (kindAt h.kind m = 2) := Lib.hid (by rw [← HH.out]; exact kt1 (by omega) hst)
            clear hst HST
            have HOK := Lib.hid (HOW.out (2))
            clear HOW
            go_wp2_with fail
            refine (HST2.out _).mono ?_
            rintro e w1 ⟨rfl, rfl⟩
            go_wp2_with fail
            refine HOK.out.mono ?_
            rintro e w2 ⟨⟨yk, yl, yn, ⟨y1, y2, y3⟩, ky, ⟨z1, z2, z3⟩, yo, ⟨u1, u2, u3⟩, yb, ya⟩, rfl, hky, hhy, b2⟩
            simp only at hky
            subst hky
            have HT3 := Lib.hid (HSX.out b2 hhy)
            have hI := HI5.out (w2.alloc (.cells (ncell ⟨yk, yl, yn, (y1, y2, y3), (none, 0, 0), (z1, z2, z3), yo, (u1, u2, u3), yb, ya⟩).toArray 40))
            rw [World.size_alloc] at hI
            have x0' := HT3.out.ts.bx.cell 0
            simp only [ncell, pv] at hI x0'
            have HIN := Lib.hid hI
            clear hI a0 a1 a2 a3 a4 a5 a6 a7 a8 a9 HOK HXB HSX hhy b2 x0
            simp only [ncell, pv]
            go_wp2_with fail
            refine HIN.out.mono ?_
            rintro e w5 ⟨rfl, hw5⟩
            have HT5 : Hid (TR SI w.heap.size wo ⟨2, xl, xn, (t1, t2, t3), (s1, s2, s3), (r1, r2, r3), co, (q1, q2, q3), xb, xa⟩ w2.heap.size ⟨yk, yl, yn, (y1, y2, y3), (none, 0, 0), (z1, z2, z3), yo, (u1, u2, u3), yb, ya⟩ (ownH h (2)) w5) := Lib.hid (by rw [hw5]; exact HT3.out.keep (below_lit _ _))
            clear hw5 HIN HT3 x0' HI5
            by_cases hf : fullB (ownH h (2)) false = true
            · have HIN0 : Hid (innerB h m = true) := Lib.hid (by unfold innerB; rw [HKT.out, HM.out, hf, ← HH.out]; rfl)
              have hf1 := hf
              have xc0 : w5.cell? ⟨wo.heap.size, 0, none⟩ = some (.int .i64 2) := HT5.out.ts.bx.cell 0
              have yc0 : (w5).cell? ⟨w2.heap.size, 0, none⟩ = some (.int .i64 yk) := HT5.out.ts.by'.cell 0
              have yc1 : (w5).cell? ⟨w2.heap.size, 1, none⟩ = some (.int .i64 yl) := HT5.out.ts.by'.cell 1
              have yc2 : (w5).cell? ⟨w2.heap.size, 2, none⟩ = some (.int .i64 yn) := HT5.out.ts.by'.cell 2
              have yc3 : (w5).cell? ⟨w2.heap.size, 3, none⟩ = some (.slice y1 y2 y3) := HT5.out.ts.by'.cell 3
              have yc4 : (w5).cell? ⟨w2.heap.size, 4, none⟩ = some (.slice none 0 0) := HT5.out.ts.by'.cell 4
              have yc5 : (w5).cell? ⟨w2.heap.size, 5, none⟩ = some (.slice z1 z2 z3) := HT5.out.ts.by'.cell 5
              have yc6 : (w5).cell? ⟨w2.heap.size, 6, none⟩ = some (.string ⟨yo.toArray⟩) := HT5.out.ts.by'.cell 6
              have yc7 : (w5).cell? ⟨w2.heap.size, 7, none⟩ = some (.slice u1 u2 u3) := HT5.out.ts.by'.cell 7
              have yc8 : (w5).cell? ⟨w2.heap.size, 8, none⟩ = some (.bool yb) := HT5.out.ts.by'.cell 8
              have yc9 : (w5).cell? ⟨w2.heap.size, 9, none⟩ = some (.bool ya) := HT5.out.ts.by'.cell 9
              have hF := rfull_of HT5.out.hd w5
              rw [show fullB (ownH h (2)) (decide (0 < (⟨yk, yl, yn, (y1, y2, y3), (none, 0, 0), (z1, z2, z3), yo, (u1, u2, u3), yb, ya⟩ : NV).kids.2.1)) = true from hf1] at hF
              simp only [ncell, pv] at hF
              have HF := Lib.hid hF
              clear hF
              go_wp2_with fail
              refine HF.out.mono ?_
              rintro e w6 ⟨rfl, b6⟩
              have HT6 := Lib.hid (HT5.out.keep b6)
              clear b6 HF xc0 yc0 yc1 yc2 yc3 yc4 yc5 yc6 yc7 yc8 yc9
              have c4 : w6.cell? ⟨wo.heap.size, 4, none⟩ = some (.slice s1 s2 s3) := HT6.out.ts.bx.cell 4
              have wd : IntKind.i64.wrap ((d : Int) + 1) = ((d + 1 : Nat) : Int) := by rw [IntWalk.i64_in _ (by omega)]; omega
              obtain ⟨kl, kn, hkl⟩ : ∃ a b, tdL ks (2) (d + 1) (L - 1) = (a, b) := ⟨_, _, rfl⟩
              have hR := HIH.out ks (by omega) (by omega) (.slice s1 s2 s3) (2) (d + 1) (L - 1) w6 (HK.out.keep (Kp.below HT6.out.ts.bel (fun z hz => Nat.lt_of_lt_of_le (HS.out z hz) hzz))) (fun z hz => Nat.lt_of_lt_of_le (Nat.lt_of_lt_of_le (HS.out z hz) hzz) HT6.out.ts.bel.size) (by omega) (by omega)
              rw [hkl] at hR
              unfold TdP at hR
              simp only at hR
              have HRR := Lib.hid hR
              have hkb := td_len ks (2) (d + 1) (L - 1)
              rw [hkl] at hkb
              simp only at hkb
              have HKL := Lib.hid hkl
              clear hR hkl
              go_wp2_with fail
              refine HRR.out.mono ?_
              rintro e w7 ⟨⟨c1, c2, c3⟩, rfl, hs, b7⟩
              simp only [pv]
              have HT7 := Lib.hid (HT6.out.keep b7)
              have HKS : Hid (NsS (fun b => SI b ∨ (w6.heap.size ≤ b ∧ b < w7.heap.size)) w7 (pv (c1, c2, c3)) kl) := Lib.hid hs
              have hc2 : decide (0 < c2) = hasK kl := by
                obtain ⟨aa', ca', e⟩ := hs.len
                have e2 := pv_eq e
                injection e2 with _ e3
                injection e3 with e4 _
                rw [e4]
                exact hasK_len kl
              have HC2 := Lib.hid hc2
              have hg6 : w2.heap.size < w6.heap.size := HT6.out.ts.sz
              have hl6 : wo.heap.size < w2.heap.size := HT6.out.ts.lt
              have f4 : w7.frozen? ⟨w2.heap.size, 4, none⟩ = false := HT7.out.ts.by'.frozen (by simp [ncell])
              have g4 : w7.cell? ⟨w2.heap.size, 4, none⟩ = some (.slice none 0 0) := HT7.out.ts.by'.cell 4
              have HT8 : Hid (TR SI w.heap.size wo ⟨2, xl, xn, (t1, t2, t3), (s1, s2, s3), (r1, r2, r3), co, (q1, q2, q3), xb, xa⟩ w2.heap.size ⟨yk, yl, yn, (y1, y2, y3), (c1, c2, c3), (z1, z2, z3), yo, (u1, u2, u3), yb, ya⟩ (ownH h (2)) (w7.setCell ⟨w2.heap.size, 4, none⟩ (.slice c1 c2 c3))) := Lib.hid (HT7.out.setK (c1, c2, c3))
              have HKS8 : Hid (NsS (fun b => SI b ∨ (w6.heap.size ≤ b ∧ b < (w7.setCell ⟨w2.heap.size, 4, none⟩ (.slice c1 c2 c3)).heap.size)) (w7.setCell ⟨w2.heap.size, 4, none⟩ (.slice c1 c2 c3)) (.slice c1 c2 c3) kl) := Lib.hid (by
                rw [szset]
                refine NsS.keep HKS.out (fun b q => Below.heap_setCell _ _ _ _ ?_)
                have hb6 := HT6.out.ts.sz
                show b ≠ w2.heap.size
                rcases q with q | q
                · have := HS.out b q; omega
                · omega)
              have yc0 : (w7.setCell ⟨w2.heap.size, 4, none⟩ (.slice c1 c2 c3)).cell? ⟨w2.heap.size, 0, none⟩ = some (.int .i64 yk) := HT8.out.ts.by'.cell 0
              have yc1 : (w7.setCell ⟨w2.heap.size, 4, none⟩ (.slice c1 c2 c3)).cell? ⟨w2.heap.size, 1, none⟩ = some (.int .i64 yl) := HT8.out.ts.by'.cell 1
              have yc2 : (w7.setCell ⟨w2.heap.size, 4, none⟩ (.slice c1 c2 c3)).cell? ⟨w2.heap.size, 2, none⟩ = some (.int .i64 yn) := HT8.out.ts.by'.cell 2
              have yc3 : (w7.setCell ⟨w2.heap.size, 4, none⟩ (.slice c1 c2 c3)).cell? ⟨w2.heap.size, 3, none⟩ = some (.slice y1 y2 y3) := HT8.out.ts.by'.cell 3
              have yc4 : (w7.setCell ⟨w2.heap.size, 4, none⟩ (.slice c1 c2 c3)).cell? ⟨w2.heap.size, 4, none⟩ = some (.slice c1 c2 c3) := HT8.out.ts.by'.cell 4
              have yc5 : (w7.setCell ⟨w2.heap.size, 4, none⟩ (.slice c1 c2 c3)).cell? ⟨w2.heap.size, 5, none⟩ = some (.slice z1 z2 z3) := HT8.out.ts.by'.cell 5
              have yc6 : (w7.setCell ⟨w2.heap.size, 4, none⟩ (.slice c1 c2 c3)).cell? ⟨w2.heap.size, 6, none⟩ = some (.string ⟨yo.toArray⟩) := HT8.out.ts.by'.cell 6
              have yc7 : (w7.setCell ⟨w2.heap.size, 4, none⟩ (.slice c1 c2 c3)).cell? ⟨w2.heap.size, 7, none⟩ = some (.slice u1 u2 u3) := HT8.out.ts.by'.cell 7
              have yc8 : (w7.setCell ⟨w2.heap.size, 4, none⟩ (.slice c1 c2 c3)).cell? ⟨w2.heap.size, 8, none⟩ = some (.bool yb) := HT8.out.ts.by'.cell 8
              have yc9 : (w7.setCell ⟨w2.heap.size, 4, none⟩ (.slice c1 c2 c3)).cell? ⟨w2.heap.size, 9, none⟩ = some (.bool ya) := HT8.out.ts.by'.cell 9
              have hF := rfull_of HT8.out.hd (w7.setCell ⟨w2.heap.size, 4, none⟩ (.slice c1 c2 c3))
              rw [show fullB (ownH h (2)) (decide (0 < (⟨yk, yl, yn, (y1, y2, y3), (c1, c2, c3), (z1, z2, z3), yo, (u1, u2, u3), yb, ya⟩ : NV).kids.2.1)) = fullB (ownH h (2)) (hasK kl) from congrArg _ HC2.out] at hF
              simp only [ncell, pv] at hF
              have HF2 : Hid (fullB (ownH h (2)) (hasK kl) = true) := Lib.hid (full_other hf (by show ¬ (2 : Int) = 5; decide) (hasK kl))
              rw [HF2.out] at hF
              have HF := Lib.hid hF
              clear hF hs b7 hc2 HKS HT7 c4
              go_wp2_with fail
              refine HF.out.mono ?_
              rintro e w9 ⟨rfl, b9⟩
              have HT9 := Lib.hid (HT8.out.keep b9)
              have HKS9 := Lib.hid (HKS8.out.keep (Kp.below b9 (fun z q => by rcases q with q | q; (have h1 := HS.out z q; have h2 := HT8.out.ts.sz; omega); exact q.2)))
              have HB9 := Lib.hid b9.size
              clear b9 HF yc0 yc1 yc2 yc3 yc4 yc5 yc6 yc7 yc8 yc9 HT8 HKS8 f4 g4
              have hpush := HT9.out.push HI.out (kl := kl) (HKS9.out.mono (fun z q => q.imp id (fun q => by have h1 := HT6.out.ts.bel.size; have h2 := HB9.out; omega))) (by have := HON.out; omega)
              rw [HON.out] at hpush
              obtain ⟨a', c', w10, hr, hI, hb10, -⟩ := hpush
              simp only [ncell, pv] at hr
              have HB10 : Hid (Below w.heap.size w w10) := Lib.hid (HB.out.trans ((HT9.out.ts.bel.mono hzz).trans hb10))
              have HI10 := Lib.hid hI
              have yc0 : (w9).cell? ⟨w2.heap.size, 0, none⟩ = some (.int .i64 yk) := HT9.out.ts.by'.cell 0
              have yc1 : (w9).cell? ⟨w2.heap.size, 1, none⟩ = some (.int .i64 yl) := HT9.out.ts.by'.cell 1
              have yc2 : (w9).cell? ⟨w2.heap.size, 2, none⟩ = some (.int .i64 yn) := HT9.out.ts.by'.cell 2
              have yc3 : (w9).cell? ⟨w2.heap.size, 3, none⟩ = some (.slice y1 y2 y3) := HT9.out.ts.by'.cell 3
              have yc4 : (w9).cell? ⟨w2.heap.size, 4, none⟩ = some (.slice c1 c2 c3) := HT9.out.ts.by'.cell 4
              have yc5 : (w9).cell? ⟨w2.heap.size, 5, none⟩ = some (.slice z1 z2 z3) := HT9.out.ts.by'.cell 5
              have yc6 : (w9).cell? ⟨w2.heap.size, 6, none⟩ = some (.string ⟨yo.toArray⟩) := HT9.out.ts.by'.cell 6
              have yc7 : (w9).cell? ⟨w2.heap.size, 7, none⟩ = some (.slice u1 u2 u3) := HT9.out.ts.by'.cell 7
              have yc8 : (w9).cell? ⟨w2.heap.size, 8, none⟩ = some (.bool yb) := HT9.out.ts.by'.cell 8
              have yc9 : (w9).cell? ⟨w2.heap.size, 9, none⟩ = some (.bool ya) := HT9.out.ts.by'.cell 9
              clear hI hb10
              go_wp2_with fail
              have HN2 : Hid (tdL (l.take (p + 1)) m d n0 = (o ++ [.mk (ownH h (2)) kl], kn)) := Lib.hid (by rw [HN.out, td_in HKT.out HIN0.out, HKL.out]; simp only; rw [HF2.out]; rfl)
              go_roundw
              case rel => exact ⟨p + 1, kn, _, HN2, rfl, by go_num, by omega, HI10, HB10⟩
              case measure => (simp [intOf]; try omega)
            · have hf1 : fullB (ownH h (2)) false = false := by simpa using hf
              have HIN0 : Hid (innerB h m = false) := Lib.hid (by unfold innerB; rw [HKT.out, HM.out, hf1, ← HH.out]; rfl)
              clear hf
              have xc0 : w5.cell? ⟨wo.heap.size, 0, none⟩ = some (.int .i64 2) := HT5.out.ts.bx.cell 0
              have yc0 : (w5).cell? ⟨w2.heap.size, 0, none⟩ = some (.int .i64 yk) := HT5.out.ts.by'.cell 0
              have yc1 : (w5).cell? ⟨w2.heap.size, 1, none⟩ = some (.int .i64 yl) := HT5.out.ts.by'.cell 1
              have yc2 : (w5).cell? ⟨w2.heap.size, 2, none⟩ = some (.int .i64 yn) := HT5.out.ts.by'.cell 2
              have yc3 : (w5).cell? ⟨w2.heap.size, 3, none⟩ = some (.slice y1 y2 y3) := HT5.out.ts.by'.cell 3
              have yc4 : (w5).cell? ⟨w2.heap.size, 4, none⟩ = some (.slice none 0 0) := HT5.out.ts.by'.cell 4
              have yc5 : (w5).cell? ⟨w2.heap.size, 5, none⟩ = some (.slice z1 z2 z3) := HT5.out.ts.by'.cell 5
              have yc6 : (w5).cell? ⟨w2.heap.size, 6, none⟩ = some (.string ⟨yo.toArray⟩) := HT5.out.ts.by'.cell 6
              have yc7 : (w5).cell? ⟨w2.heap.size, 7, none⟩ = some (.slice u1 u2 u3) := HT5.out.ts.by'.cell 7
              have yc8 : (w5).cell? ⟨w2.heap.size, 8, none⟩ = some (.bool yb) := HT5.out.ts.by'.cell 8
              have yc9 : (w5).cell? ⟨w2.heap.size, 9, none⟩ = some (.bool ya) := HT5.out.ts.by'.cell 9
              have hF := rfull_of HT5.out.hd w5
              rw [show fullB (ownH h (2)) (decide (0 < (⟨yk, yl, yn, (y1, y2, y3), (none, 0, 0), (z1, z2, z3), yo, (u1, u2, u3), yb, ya⟩ : NV).kids.2.1)) = false from hf1] at hF
              simp only [ncell, pv] at hF
              have HF := Lib.hid hF
              clear hF
              go_wp2_with fail
              refine HF.out.mono ?_
              rintro e w6 ⟨rfl, b6⟩
              have HT6 := Lib.hid (HT5.out.keep b6)
              clear b6 HF xc0 yc0 yc1 yc2 yc3 yc4 yc5 yc6 yc7 yc8 yc9
              have yc0 : (w6).cell? ⟨w2.heap.size, 0, none⟩ = some (.int .i64 yk) := HT6.out.ts.by'.cell 0
              have yc1 : (w6).cell? ⟨w2.heap.size, 1, none⟩ = some (.int .i64 yl) := HT6.out.ts.by'.cell 1
              have yc2 : (w6).cell? ⟨w2.heap.size, 2, none⟩ = some (.int .i64 yn) := HT6.out.ts.by'.cell 2
              have yc3 : (w6).cell? ⟨w2.heap.size, 3, none⟩ = some (.slice y1 y2 y3) := HT6.out.ts.by'.cell 3
              have yc4 : (w6).cell? ⟨w2.heap.size, 4, none⟩ = some (.slice none 0 0) := HT6.out.ts.by'.cell 4
              have yc5 : (w6).cell? ⟨w2.heap.size, 5, none⟩ = some (.slice z1 z2 z3) := HT6.out.ts.by'.cell 5
              have yc6 : (w6).cell? ⟨w2.heap.size, 6, none⟩ = some (.string ⟨yo.toArray⟩) := HT6.out.ts.by'.cell 6
              have yc7 : (w6).cell? ⟨w2.heap.size, 7, none⟩ = some (.slice u1 u2 u3) := HT6.out.ts.by'.cell 7
              have yc8 : (w6).cell? ⟨w2.heap.size, 8, none⟩ = some (.bool yb) := HT6.out.ts.by'.cell 8
              have yc9 : (w6).cell? ⟨w2.heap.size, 9, none⟩ = some (.bool ya) := HT6.out.ts.by'.cell 9
              have hF := rfull_of HT6.out.hd w6
              rw [show fullB (ownH h (2)) (decide (0 < (⟨yk, yl, yn, (y1, y2, y3), (none, 0, 0), (z1, z2, z3), yo, (u1, u2, u3), yb, ya⟩ : NV).kids.2.1)) = false from hf1] at hF
              simp only [ncell, pv] at hF
              have HF := Lib.hid hF
              clear hF
              go_wp2_with fail
              refine HF.out.mono ?_
              rintro e w7 ⟨rfl, b7⟩
              have HT7 := Lib.hid (HT6.out.keep b7)
              clear b7 HF yc0 yc1 yc2 yc3 yc4 yc5 yc6 yc7 yc8 yc9
              have HB8 : Hid (Below w.heap.size w w7) := Lib.hid (HB.out.trans (HT7.out.ts.bel.mono hzz))
              have HI8 := Lib.hid (HI.out.keep HT7.out.ts.bel)
              have HBX := Lib.hid HT7.out.ts.bx
              have c4 : w7.cell? ⟨wo.heap.size, 4, none⟩ = some (.slice s1 s2 s3) := HBX.out.cell 4
              obtain ⟨kl, kn, hkl⟩ : ∃ a b, tdL ks m d (L - 1) = (a, b) := ⟨_, _, rfl⟩
              have hR := HIH.out ks (by omega) (by omega) (.slice s1 s2 s3) m d (L - 1) w7 (HK.out.keep (fun z hz => ((HB8.out.block z (HS.out z hz)).trans (HB.out.block z (HS.out z hz)).symm))) (fun z hz => Nat.lt_of_lt_of_le (HS.out z hz) HB8.out.size) (by omega) (by omega)
              rw [hkl] at hR
              unfold TdP at hR
              simp only at hR
              have HRR := Lib.hid hR
              have hkb := td_len ks m d (L - 1)
              rw [hkl] at hkb
              simp only at hkb
              have HKL := Lib.hid hkl
              clear hR hkl
              go_wp2_with fail
              refine HRR.out.mono ?_
              rintro e w9 ⟨⟨c1, c2, c3⟩, rfl, hs, b9⟩
              simp only [pv]
              have hkids := HI8.out.kids b9 hs (by have := HON.out; (try simp only [List.length_append, List.length_cons, List.length_nil]); omega)
              rw [HON.out] at hkids
              obtain ⟨a2, d2, w10, hr2, hI2, hb2⟩ := hkids
              simp only [pv] at hr2
              have HB10 : Hid (Below w.heap.size w w10) := Lib.hid (HB8.out.trans ((b9.mono HB8.out.size).trans hb2))
              have HI10 := Lib.hid hI2
              clear hI2 hb2 hs b9 c4
              go_wp2_with fail
              have HN2 : Hid (tdL (l.take (p + 1)) m d n0 = (o ++ kl, kn)) := Lib.hid (by rw [HN.out, td_out HKT.out HIN0.out HM.out, HKL.out]; simp only; rw [hf1]; simp)
              go_roundw
              case rel => exact ⟨p + 1, kn, _, HN2, rfl, by go_num, by omega, HI10, HB10⟩
              case measure => (simp [intOf]; try omega)
          · have hst' : stands 2 m = false := by simpa using hst
            rw [hst'] at HST2
            have HKT : Hid (kindAt h.kind m = 3) := Lib.hid (by rw [← HH.out]; exact kt3 (by omega) hst')
            clear hst hst' HST
            have HOK := Lib.hid (HOW.out (3))
            clear HOW
            go_wp2_with fail
            refine (HST2.out _).mono ?_
            rintro e w1 ⟨rfl, rfl⟩
            go_wp2_with fail
            refine HOK.out.mono ?_
            rintro e w2 ⟨⟨yk, yl, yn, ⟨y1, y2, y3⟩, ky, ⟨z1, z2, z3⟩, yo, ⟨u1, u2, u3⟩, yb, ya⟩, rfl, hky, hhy, b2⟩
            simp only at hky
            subst hky
            have HT3 := Lib.hid (HSX.out b2 hhy)
            have hI := HI5.out (w2.alloc (.cells (ncell ⟨yk, yl, yn, (y1, y2, y3), (none, 0, 0), (z1, z2, z3), yo, (u1, u2, u3), yb, ya⟩).toArray 40))
            rw [World.size_alloc] at hI
            have x0' := HT3.out.ts.bx.cell 0
            simp only [ncell, pv] at hI x0'
            have HIN := Lib.hid hI
            clear hI a0 a1 a2 a3 a4 a5 a6 a7 a8 a9 HOK HXB HSX hhy b2 x0
            simp only [ncell, pv]
            go_wp2_with fail
            refine HIN.out.mono ?_
            rintro e w5 ⟨rfl, hw5⟩
            have HT5 : Hid (TR SI w.heap.size wo ⟨2, xl, xn, (t1, t2, t3), (s1, s2, s3), (r1, r2, r3), co, (q1, q2, q3), xb, xa⟩ w2.heap.size ⟨yk, yl, yn, (y1, y2, y3), (none, 0, 0), (z1, z2, z3), yo, (u1, u2, u3), yb, ya⟩ (ownH h (3)) w5) := Lib.hid (by rw [hw5]; exact HT3.out.keep (below_lit _ _))
            clear hw5 HIN HT3 x0' HI5
            have HIN0 : Hid (innerB h m = false) := Lib.hid (by unfold innerB; rw [HKT.out, HM.out, ← HH.out]; rfl)
            by_cases hf : fullB (ownH h (3)) false = true
            · have hf1 := hf
              clear hf
              have xc0 : w5.cell? ⟨wo.heap.size, 0, none⟩ = some (.int .i64 2) := HT5.out.ts.bx.cell 0
              have yc0 : (w5).cell? ⟨w2.heap.size, 0, none⟩ = some (.int .i64 yk) := HT5.out.ts.by'.cell 0
              have yc1 : (w5).cell? ⟨w2.heap.size, 1, none⟩ = some (.int .i64 yl) := HT5.out.ts.by'.cell 1
              have yc2 : (w5).cell? ⟨w2.heap.size, 2, none⟩ = some (.int .i64 yn) := HT5.out.ts.by'.cell 2
              have yc3 : (w5).cell? ⟨w2.heap.size, 3, none⟩ = some (.slice y1 y2 y3) := HT5.out.ts.by'.cell 3
              have yc4 : (w5).cell? ⟨w2.heap.size, 4, none⟩ = some (.slice none 0 0) := HT5.out.ts.by'.cell 4
              have yc5 : (w5).cell? ⟨w2.heap.size, 5, none⟩ = some (.slice z1 z2 z3) := HT5.out.ts.by'.cell 5
              have yc6 : (w5).cell? ⟨w2.heap.size, 6, none⟩ = some (.string ⟨yo.toArray⟩) := HT5.out.ts.by'.cell 6
              have yc7 : (w5).cell? ⟨w2.heap.size, 7, none⟩ = some (.slice u1 u2 u3) := HT5.out.ts.by'.cell 7
              have yc8 : (w5).cell? ⟨w2.heap.size, 8, none⟩ = some (.bool yb) := HT5.out.ts.by'.cell 8
              have yc9 : (w5).cell? ⟨w2.heap.size, 9, none⟩ = some (.bool ya) := HT5.out.ts.by'.cell 9
              have hF := rfull_of HT5.out.hd w5
              rw [show fullB (ownH h (3)) (decide (0 < (⟨yk, yl, yn, (y1, y2, y3), (none, 0, 0), (z1, z2, z3), yo, (u1, u2, u3), yb, ya⟩ : NV).kids.2.1)) = true from hf1] at hF
              simp only [ncell, pv] at hF
              have HF := Lib.hid hF
              clear hF
              go_wp2_with fail
              refine HF.out.mono ?_
              rintro e w7 ⟨rfl, b7⟩
              have HT7 := Lib.hid (HT5.out.keep b7)
              clear b7 HF yc0 yc1 yc2 yc3 yc4 yc5 yc6 yc7 yc8 yc9 xc0
              have hpush := HT7.out.push HI.out (kl := []) (NsS.nil _ _) (by have := HON.out; omega)
              rw [HON.out] at hpush
              obtain ⟨a', c', w8, hr, hI, hb8, hbx⟩ := hpush
              simp only [ncell, pv] at hr
              have HB8 : Hid (Below w.heap.size w w8) := Lib.hid (HB.out.trans ((HT7.out.ts.bel.mono hzz).trans hb8))
              have HI8 := Lib.hid hI
              have HBX := Lib.hid hbx
              have yc0 : (w7).cell? ⟨w2.heap.size, 0, none⟩ = some (.int .i64 yk) := HT7.out.ts.by'.cell 0
              have yc1 : (w7).cell? ⟨w2.heap.size, 1, none⟩ = some (.int .i64 yl) := HT7.out.ts.by'.cell 1
              have yc2 : (w7).cell? ⟨w2.heap.size, 2, none⟩ = some (.int .i64 yn) := HT7.out.ts.by'.cell 2
              have yc3 : (w7).cell? ⟨w2.heap.size, 3, none⟩ = some (.slice y1 y2 y3) := HT7.out.ts.by'.cell 3
              have yc4 : (w7).cell? ⟨w2.heap.size, 4, none⟩ = some (.slice none 0 0) := HT7.out.ts.by'.cell 4
              have yc5 : (w7).cell? ⟨w2.heap.size, 5, none⟩ = some (.slice z1 z2 z3) := HT7.out.ts.by'.cell 5
              have yc6 : (w7).cell? ⟨w2.heap.size, 6, none⟩ = some (.string ⟨yo.toArray⟩) := HT7.out.ts.by'.cell 6
              have yc7 : (w7).cell? ⟨w2.heap.size, 7, none⟩ = some (.slice u1 u2 u3) := HT7.out.ts.by'.cell 7
              have yc8 : (w7).cell? ⟨w2.heap.size, 8, none⟩ = some (.bool yb) := HT7.out.ts.by'.cell 8
              have yc9 : (w7).cell? ⟨w2.heap.size, 9, none⟩ = some (.bool ya) := HT7.out.ts.by'.cell 9
              clear hI hb8 hbx
              have c4 : w8.cell? ⟨wo.heap.size, 4, none⟩ = some (.slice s1 s2 s3) := HBX.out.cell 4
              obtain ⟨kl, kn, hkl⟩ : ∃ a b, tdL ks m d (L - 1) = (a, b) := ⟨_, _, rfl⟩
              have hR := HIH.out ks (by omega) (by omega) (.slice s1 s2 s3) m d (L - 1) w8 (HK.out.keep (fun z hz => ((HB8.out.block z (HS.out z hz)).trans (HB.out.block z (HS.out z hz)).symm))) (fun z hz => Nat.lt_of_lt_of_le (HS.out z hz) HB8.out.size) (by omega) (by omega)
              rw [hkl] at hR
              unfold TdP at hR
              simp only at hR
              have HRR := Lib.hid hR
              have hkb := td_len ks m d (L - 1)
              rw [hkl] at hkb
              simp only at hkb
              have HKL := Lib.hid hkl
              clear hR hkl
              go_wp2_with fail
              refine HRR.out.mono ?_
              rintro e w9 ⟨⟨c1, c2, c3⟩, rfl, hs, b9⟩
              simp only [pv]
              have hkids := HI8.out.kids b9 hs (by have := HON.out; (try simp only [List.length_append, List.length_cons, List.length_nil]); omega)
              rw [List.length_append, HON.out] at hkids
              simp only [List.length_cons, List.length_nil] at hkids
              obtain ⟨a2, d2, w10, hr2, hI2, hb2⟩ := hkids
              simp only [pv] at hr2
              have HB10 : Hid (Below w.heap.size w w10) := Lib.hid (HB8.out.trans ((b9.mono HB8.out.size).trans hb2))
              have HI10 := Lib.hid hI2
              clear hI2 hb2 hs b9 c4
              go_wp2_with fail
              have HN2 : Hid (tdL (l.take (p + 1)) m d n0 = (o ++ [.mk (ownH h (3)) []] ++ kl, kn)) := Lib.hid (by rw [HN.out, td_out HKT.out HIN0.out HM.out, HKL.out]; simp only; rw [hf1]; simp)
              go_roundw
              case rel => exact ⟨p + 1, kn, _, HN2, rfl, by go_num, by omega, HI10, HB10⟩
              case measure => (simp [intOf]; try omega)
            · have hf1 : fullB (ownH h (3)) false = false := by simpa using hf
              clear hf
              have xc0 : w5.cell? ⟨wo.heap.size, 0, none⟩ = some (.int .i64 2) := HT5.out.ts.bx.cell 0
              have yc0 : (w5).cell? ⟨w2.heap.size, 0, none⟩ = some (.int .i64 yk) := HT5.out.ts.by'.cell 0
              have yc1 : (w5).cell? ⟨w2.heap.size, 1, none⟩ = some (.int .i64 yl) := HT5.out.ts.by'.cell 1
              have yc2 : (w5).cell? ⟨w2.heap.size, 2, none⟩ = some (.int .i64 yn) := HT5.out.ts.by'.cell 2
              have yc3 : (w5).cell? ⟨w2.heap.size, 3, none⟩ = some (.slice y1 y2 y3) := HT5.out.ts.by'.cell 3
              have yc4 : (w5).cell? ⟨w2.heap.size, 4, none⟩ = some (.slice none 0 0) := HT5.out.ts.by'.cell 4
              have yc5 : (w5).cell? ⟨w2.heap.size, 5, none⟩ = some (.slice z1 z2 z3) := HT5.out.ts.by'.cell 5
              have yc6 : (w5).cell? ⟨w2.heap.size, 6, none⟩ = some (.string ⟨yo.toArray⟩) := HT5.out.ts.by'.cell 6
              have yc7 : (w5).cell? ⟨w2.heap.size, 7, none⟩ = some (.slice u1 u2 u3) := HT5.out.ts.by'.cell 7
              have yc8 : (w5).cell? ⟨w2.heap.size, 8, none⟩ = some (.bool yb) := HT5.out.ts.by'.cell 8
              have yc9 : (w5).cell? ⟨w2.heap.size, 9, none⟩ = some (.bool ya) := HT5.out.ts.by'.cell 9
              have hF := rfull_of HT5.out.hd w5
              rw [show fullB (ownH h (3)) (decide (0 < (⟨yk, yl, yn, (y1, y2, y3), (none, 0, 0), (z1, z2, z3), yo, (u1, u2, u3), yb, ya⟩ : NV).kids.2.1)) = false from hf1] at hF
              simp only [ncell, pv] at hF
              have HF := Lib.hid hF
              clear hF
              go_wp2_with fail
              refine HF.out.mono ?_
              rintro e w7 ⟨rfl, b7⟩
              have HT7 := Lib.hid (HT5.out.keep b7)
              clear b7 HF yc0 yc1 yc2 yc3 yc4 yc5 yc6 yc7 yc8 yc9 xc0
              have HB8 : Hid (Below w.heap.size w w7) := Lib.hid (HB.out.trans (HT7.out.ts.bel.mono hzz))
              have HI8 := Lib.hid (HI.out.keep HT7.out.ts.bel)
              have HBX := Lib.hid HT7.out.ts.bx
              have c4 : w7.cell? ⟨wo.heap.size, 4, none⟩ = some (.slice s1 s2 s3) := HBX.out.cell 4
              obtain ⟨kl, kn, hkl⟩ : ∃ a b, tdL ks m d (L - 1) = (a, b) := ⟨_, _, rfl⟩
              have hR := HIH.out ks (by omega) (by omega) (.slice s1 s2 s3) m d (L - 1) w7 (HK.out.keep (fun z hz => ((HB8.out.block z (HS.out z hz)).trans (HB.out.block z (HS.out z hz)).symm))) (fun z hz => Nat.lt_of_lt_of_le (HS.out z hz) HB8.out.size) (by omega) (by omega)
              rw [hkl] at hR
              unfold TdP at hR
              simp only at hR
              have HRR := Lib.hid hR
              have hkb := td_len ks m d (L - 1)
              rw [hkl] at hkb
              simp only at hkb
              have HKL := Lib.hid hkl
              clear hR hkl
              go_wp2_with fail
              refine HRR.out.mono ?_
              rintro e w9 ⟨⟨c1, c2, c3⟩, rfl, hs, b9⟩
              simp only [pv]
              have hkids := HI8.out.kids b9 hs (by have := HON.out; (try simp only [List.length_append, List.length_cons, List.length_nil]); omega)
              rw [HON.out] at hkids
              obtain ⟨a2, d2, w10, hr2, hI2, hb2⟩ := hkids
              simp only [pv] at hr2
              have HB10 : Hid (Below w.heap.size w w10) := Lib.hid (HB8.out.trans ((b9.mono HB8.out.size).trans hb2))
              have HI10 := Lib.hid hI2
              clear hI2 hb2 hs b9 c4
              go_wp2_with fail
              have HN2 : Hid (tdL (l.take (p + 1)) m d n0 = (o ++ kl, kn)) := Lib.hid (by rw [HN.out, td_out HKT.out HIN0.out HM.out, HKL.out]; simp only; rw [hf1]; simp)
              go_roundw
              case rel => exact ⟨p + 1, kn, _, HN2, rfl, by go_num, by omega, HI10, HB10⟩
              case measure => (simp [intOf]; try omega)
        clear HST HST2
        by_cases k4 : xk = 4
        · subst k4
          rw [show mayK 4 = true from rfl] at HI5
          have HM : Hid (mayK h.kind = true) := Lib.hid (by rw [← HH.out]; rfl)
          have HKT : Hid (kindAt h.kind m = 4) := Lib.hid (by rw [← HH.out]; exact kt0 (by decide) (by decide))
          clear k1 k2
          have HOK := Lib.hid (HOW.out (4))
          clear HOW
          go_wp2_with fail
          refine HOK.out.mono ?_
          rintro e w2 ⟨⟨yk, yl, yn, ⟨y1, y2, y3⟩, ky, ⟨z1, z2, z3⟩, yo, ⟨u1, u2, u3⟩, yb, ya⟩, rfl, hky, hhy, b2⟩
          simp only at hky
          subst hky
          have HT3 := Lib.hid (HSX.out b2 hhy)
          have hI := HI5.out (w2.alloc (.cells (ncell ⟨yk, yl, yn, (y1, y2, y3), (none, 0, 0), (z1, z2, z3), yo, (u1, u2, u3), yb, ya⟩).toArray 40))
          rw [World.size_alloc] at hI
          have x0' := HT3.out.ts.bx.cell 0
          simp only [ncell, pv] at hI x0'
          have HIN := Lib.hid hI
          clear hI a0 a1 a2 a3 a4 a5 a6 a7 a8 a9 HOK HXB HSX hhy b2 x0
          simp only [ncell, pv]
          go_wp2_with fail
          refine HIN.out.mono ?_
          rintro e w5 ⟨rfl, hw5⟩
          have HT5 : Hid (TR SI w.heap.size wo ⟨4, xl, xn, (t1, t2, t3), (s1, s2, s3), (r1, r2, r3), co, (q1, q2, q3), xb, xa⟩ w2.heap.size ⟨yk, yl, yn, (y1, y2, y3), (none, 0, 0), (z1, z2, z3), yo, (u1, u2, u3), yb, ya⟩ (ownH h (4)) w5) := Lib.hid (by rw [hw5]; exact HT3.out.keep (below_lit _ _))
          clear hw5 HIN HT3 x0' HI5
          have hf1 : fullB (ownH h (4)) false = true := full_kind4 (by rfl) _
          have HIN0 : Hid (innerB h m = true) := Lib.hid (by unfold innerB; rw [HKT.out, HM.out, hf1, ← HH.out]; rfl)
          have xc0 : w5.cell? ⟨wo.heap.size, 0, none⟩ = some (.int .i64 4) := HT5.out.ts.bx.cell 0
          have yc0 : (w5).cell? ⟨w2.heap.size, 0, none⟩ = some (.int .i64 yk) := HT5.out.ts.by'.cell 0
          have yc1 : (w5).cell? ⟨w2.heap.size, 1, none⟩ = some (.int .i64 yl) := HT5.out.ts.by'.cell 1
          have yc2 : (w5).cell? ⟨w2.heap.size, 2, none⟩ = some (.int .i64 yn) := HT5.out.ts.by'.cell 2
          have yc3 : (w5).cell? ⟨w2.heap.size, 3, none⟩ = some (.slice y1 y2 y3) := HT5.out.ts.by'.cell 3
          have yc4 : (w5).cell? ⟨w2.heap.size, 4, none⟩ = some (.slice none 0 0) := HT5.out.ts.by'.cell 4
          have yc5 : (w5).cell? ⟨w2.heap.size, 5, none⟩ = some (.slice z1 z2 z3) := HT5.out.ts.by'.cell 5
          have yc6 : (w5).cell? ⟨w2.heap.size, 6, none⟩ = some (.string ⟨yo.toArray⟩) := HT5.out.ts.by'.cell 6
          have yc7 : (w5).cell? ⟨w2.heap.size, 7, none⟩ = some (.slice u1 u2 u3) := HT5.out.ts.by'.cell 7
          have yc8 : (w5).cell? ⟨w2.heap.size, 8, none⟩ = some (.bool yb) := HT5.out.ts.by'.cell 8
          have yc9 : (w5).cell? ⟨w2.heap.size, 9, none⟩ = some (.bool ya) := HT5.out.ts.by'.cell 9
          have hF := rfull_of HT5.out.hd w5
          rw [show fullB (ownH h (4)) (decide (0 < (⟨yk, yl, yn, (y1, y2, y3), (none, 0, 0), (z1, z2, z3), yo, (u1, u2, u3), yb, ya⟩ : NV).kids.2.1)) = true from hf1] at hF
          simp only [ncell, pv] at hF
          have HF := Lib.hid hF
          clear hF
          go_wp2_with fail
          refine HF.out.mono ?_
          rintro e w6 ⟨rfl, b6⟩
          have HT6 := Lib.hid (HT5.out.keep b6)
          clear b6 HF xc0 yc0 yc1 yc2 yc3 yc4 yc5 yc6 yc7 yc8 yc9
          have c4 : w6.cell? ⟨wo.heap.size, 4, none⟩ = some (.slice s1 s2 s3) := HT6.out.ts.bx.cell 4
          have wd : IntKind.i64.wrap ((d : Int) + 1) = ((d + 1 : Nat) : Int) := by rw [IntWalk.i64_in _ (by omega)]; omega
          obtain ⟨kl, kn, hkl⟩ : ∃ a b, tdL ks (4) (d + 1) (L - 1) = (a, b) := ⟨_, _, rfl⟩
          have hR := HIH.out ks (by omega) (by omega) (.slice s1 s2 s3) (4) (d + 1) (L - 1) w6 (HK.out.keep (Kp.below HT6.out.ts.bel (fun z hz => Nat.lt_of_lt_of_le (HS.out z hz) hzz))) (fun z hz => Nat.lt_of_lt_of_le (Nat.lt_of_lt_of_le (HS.out z hz) hzz) HT6.out.ts.bel.size) (by omega) (by omega)
          rw [hkl] at hR
          unfold TdP at hR
          simp only at hR
          have HRR := Lib.hid hR
          have hkb := td_len ks (4) (d + 1) (L - 1)
          rw [hkl] at hkb
          simp only at hkb
          have HKL := Lib.hid hkl
          clear hR hkl
          go_wp2_with fail
          refine HRR.out.mono ?_
          rintro e w7 ⟨⟨c1, c2, c3⟩, rfl, hs, b7⟩
          simp only [pv]
          have HT7 := Lib.hid (HT6.out.keep b7)
          have HKS : Hid (NsS (fun b => SI b ∨ (w6.heap.size ≤ b ∧ b < w7.heap.size)) w7 (pv (c1, c2, c3)) kl) := Lib.hid hs
          have hc2 : decide (0 < c2) = hasK kl := by
            obtain ⟨aa', ca', e⟩ := hs.len
            have e2 := pv_eq e
            injection e2 with _ e3
            injection e3 with e4 _
            rw [e4]
            exact hasK_len kl
          have HC2 := Lib.hid hc2
          have hg6 : w2.heap.size < w6.heap.size := HT6.out.ts.sz
          have hl6 : wo.heap.size < w2.heap.size := HT6.out.ts.lt
          have f4 : w7.frozen? ⟨w2.heap.size, 4, none⟩ = false := HT7.out.ts.by'.frozen (by simp [ncell])
          have g4 : w7.cell? ⟨w2.heap.size, 4, none⟩ = some (.slice none 0 0) := HT7.out.ts.by'.cell 4
          have HT8 : Hid (TR SI w.heap.size wo ⟨4, xl, xn, (t1, t2, t3), (s1, s2, s3), (r1, r2, r3), co, (q1, q2, q3), xb, xa⟩ w2.heap.size ⟨yk, yl, yn, (y1, y2, y3), (c1, c2, c3), (z1, z2, z3), yo, (u1, u2, u3), yb, ya⟩ (ownH h (4)) (w7.setCell ⟨w2.heap.size, 4, none⟩ (.slice c1 c2 c3))) := Lib.hid (HT7.out.setK (c1, c2, c3))
          have HKS8 : Hid (NsS (fun b => SI b ∨ (w6.heap.size ≤ b ∧ b < (w7.setCell ⟨w2.heap.size, 4, none⟩ (.slice c1 c2 c3)).heap.size)) (w7.setCell ⟨w2.heap.size, 4, none⟩ (.slice c1 c2 c3)) (.slice c1 c2 c3) kl) := Lib.hid (by
            rw [szset]
            refine NsS.keep HKS.out (fun b q => Below.heap_setCell _ _ _ _ ?_)
            have hb6 := HT6.out.ts.sz
            show b ≠ w2.heap.size
            rcases q with q | q
            · have := HS.out b q; omega
            · omega)
          have yc0 : (w7.setCell ⟨w2.heap.size, 4, none⟩ (.slice c1 c2 c3)).cell? ⟨w2.heap.size, 0, none⟩ = some (.int .i64 yk) := HT8.out.ts.by'.cell 0
          have yc1 : (w7.setCell ⟨w2.heap.size, 4, none⟩ (.slice c1 c2 c3)).cell? ⟨w2.heap.size, 1, none⟩ = some (.int .i64 yl) := HT8.out.ts.by'.cell 1
          have yc2 : (w7.setCell ⟨w2.heap.size, 4, none⟩ (.slice c1 c2 c3)).cell? ⟨w2.heap.size, 2, none⟩ = some (.int .i64 yn) := HT8.out.ts.by'.cell 2
          have yc3 : (w7.setCell ⟨w2.heap.size, 4, none⟩ (.slice c1 c2 c3)).cell? ⟨w2.heap.size, 3, none⟩ = some (.slice y1 y2 y3) := HT8.out.ts.by'.cell 3
          have yc4 : (w7.setCell ⟨w2.heap.size, 4, none⟩ (.slice c1 c2 c3)).cell? ⟨w2.heap.size, 4, none⟩ = some (.slice c1 c2 c3) := HT8.out.ts.by'.cell 4
          have yc5 : (w7.setCell ⟨w2.heap.size, 4, none⟩ (.slice c1 c2 c3)).cell? ⟨w2.heap.size, 5, none⟩ = some (.slice z1 z2 z3) := HT8.out.ts.by'.cell 5
          have yc6 : (w7.setCell ⟨w2.heap.size, 4, none⟩ (.slice c1 c2 c3)).cell? ⟨w2.heap.size, 6, none⟩ = some (.string ⟨yo.toArray⟩) := HT8.out.ts.by'.cell 6
          have yc7 : (w7.setCell ⟨w2.heap.size, 4, none⟩ (.slice c1 c2 c3)).cell? ⟨w2.heap.size, 7, none⟩ = some (.slice u1 u2 u3) := HT8.out.ts.by'.cell 7
          have yc8 : (w7.setCell ⟨w2.heap.size, 4, none⟩ (.slice c1 c2 c3)).cell? ⟨w2.heap.size, 8, none⟩ = some (.bool yb) := HT8.out.ts.by'.cell 8
          have yc9 : (w7.setCell ⟨w2.heap.size, 4, none⟩ (.slice c1 c2 c3)).cell? ⟨w2.heap.size, 9, none⟩ = some (.bool ya) := HT8.out.ts.by'.cell 9
          have hF := rfull_of HT8.out.hd (w7.setCell ⟨w2.heap.size, 4, none⟩ (.slice c1 c2 c3))
          rw [show fullB (ownH h (4)) (decide (0 < (⟨yk, yl, yn, (y1, y2, y3), (c1, c2, c3), (z1, z2, z3), yo, (u1, u2, u3), yb, ya⟩ : NV).kids.2.1)) = fullB (ownH h (4)) (hasK kl) from congrArg _ HC2.out] at hF
          simp only [ncell, pv] at hF
          have HF2 : Hid (fullB (ownH h (4)) (hasK kl) = true) := Lib.hid (full_kind4 (by rfl) _)
          rw [HF2.out] at hF
          have HF := Lib.hid hF
          clear hF hs b7 hc2 HKS HT7 c4
          go_wp2_with fail
          refine HF.out.mono ?_
          rintro e w9 ⟨rfl, b9⟩
          have HT9 := Lib.hid (HT8.out.keep b9)
          have HKS9 := Lib.hid (HKS8.out.keep (Kp.below b9 (fun z q => by rcases q with q | q; (have h1 := HS.out z q; have h2 := HT8.out.ts.sz; omega); exact q.2)))
          have HB9 := Lib.hid b9.size
          clear b9 HF yc0 yc1 yc2 yc3 yc4 yc5 yc6 yc7 yc8 yc9 HT8 HKS8 f4 g4
          have hpush := HT9.out.push HI.out (kl := kl) (HKS9.out.mono (fun z q => q.imp id (fun q => by have h1 := HT6.out.ts.bel.size; have h2 := HB9.out; omega))) (by have := HON.out; omega)
          rw [HON.out] at hpush
          obtain ⟨a', c', w10, hr, hI, hb10, -⟩ := hpush
          simp only [ncell, pv] at hr
          have HB10 : Hid (Below w.heap.size w w10) := Lib.hid (HB.out.trans ((HT9.out.ts.bel.mono hzz).trans hb10))
          have HI10 := Lib.hid hI
          have yc0 : (w9).cell? ⟨w2.heap.size, 0, none⟩ = some (.int .i64 yk) := HT9.out.ts.by'.cell 0
          have yc1 : (w9).cell? ⟨w2.heap.size, 1, none⟩ = some (.int .i64 yl) := HT9.out.ts.by'.cell 1
          have yc2 : (w9).cell? ⟨w2.heap.size, 2, none⟩ = some (.int .i64 yn) := HT9.out.ts.by'.cell 2
          have yc3 : (w9).cell? ⟨w2.heap.size, 3, none⟩ = some (.slice y1 y2 y3) := HT9.out.ts.by'.cell 3
          have yc4 : (w9).cell? ⟨w2.heap.size, 4, none⟩ = some (.slice c1 c2 c3) := HT9.out.ts.by'.cell 4
          have yc5 : (w9).cell? ⟨w2.heap.size, 5, none⟩ = some (.slice z1 z2 z3) := HT9.out.ts.by'.cell 5
          have yc6 : (w9).cell? ⟨w2.heap.size, 6, none⟩ = some (.string ⟨yo.toArray⟩) := HT9.out.ts.by'.cell 6
          have yc7 : (w9).cell? ⟨w2.heap.size, 7, none⟩ = some (.slice u1 u2 u3) := HT9.out.ts.by'.cell 7
          have yc8 : (w9).cell? ⟨w2.heap.size, 8, none⟩ = some (.bool yb) := HT9.out.ts.by'.cell 8
          have yc9 : (w9).cell? ⟨w2.heap.size, 9, none⟩ = some (.bool ya) := HT9.out.ts.by'.cell 9
          clear hI hb10
          go_wp2_with fail
          have HN2 : Hid (tdL (l.take (p + 1)) m d n0 = (o ++ [.mk (ownH h (4)) kl], kn)) := Lib.hid (by rw [HN.out, td_in HKT.out HIN0.out, HKL.out]; simp only; rw [HF2.out]; rfl)
          go_roundw
          case rel => exact ⟨p + 1, kn, _, HN2, rfl, by go_num, by omega, HI10, HB10⟩
          case measure => (simp [intOf]; try omega)
        by_cases k5 : xk = 5
        · subst k5
          rw [show mayK 5 = true from rfl] at HI5
          have HM : Hid (mayK h.kind = true) := Lib.hid (by rw [← HH.out]; rfl)
          have HKT : Hid (kindAt h.kind m = 5) := Lib.hid (by rw [← HH.out]; exact kt0 (by decide) (by decide))
          clear k1 k2 k4
          have HOK := Lib.hid (HOW.out (5))
          clear HOW
          go_wp2_with fail
          refine HOK.out.mono ?_
          rintro e w2 ⟨⟨yk, yl, yn, ⟨y1, y2, y3⟩, ky, ⟨z1, z2, z3⟩, yo, ⟨u1, u2, u3⟩, yb, ya⟩, rfl, hky, hhy, b2⟩
          simp only at hky
          subst hky
          have HT3 := Lib.hid (HSX.out b2 hhy)
          have hI := HI5.out (w2.alloc (.cells (ncell ⟨yk, yl, yn, (y1, y2, y3), (none, 0, 0), (z1, z2, z3), yo, (u1, u2, u3), yb, ya⟩).toArray 40))
          rw [World.size_alloc] at hI
          have x0' := HT3.out.ts.bx.cell 0
          simp only [ncell, pv] at hI x0'
          have HIN := Lib.hid hI
          clear hI a0 a1 a2 a3 a4 a5 a6 a7 a8 a9 HOK HXB HSX hhy b2 x0
          simp only [ncell, pv]
          go_wp2_with fail
          refine HIN.out.mono ?_
          rintro e w5 ⟨rfl, hw5⟩
          have HT5 : Hid (TR SI w.heap.size wo ⟨5, xl, xn, (t1, t2, t3), (s1, s2, s3), (r1, r2, r3), co, (q1, q2, q3), xb, xa⟩ w2.heap.size ⟨yk, yl, yn, (y1, y2, y3), (none, 0, 0), (z1, z2, z3), yo, (u1, u2, u3), yb, ya⟩ (ownH h (5)) w5) := Lib.hid (by rw [hw5]; exact HT3.out.keep (below_lit _ _))
          clear hw5 HIN HT3 x0' HI5
          have HIN0 : Hid (innerB h m = true) := Lib.hid (by unfold innerB; rw [HKT.out, HM.out, ← HH.out]; rfl)
          have xc0 : w5.cell? ⟨wo.heap.size, 0, none⟩ = some (.int .i64 5) := HT5.out.ts.bx.cell 0
          have c4 : w5.cell? ⟨wo.heap.size, 4, none⟩ = some (.slice s1 s2 s3) := HT5.out.ts.bx.cell 4
          have wd : IntKind.i64.wrap ((d : Int) + 1) = ((d + 1 : Nat) : Int) := by rw [IntWalk.i64_in _ (by omega)]; omega
          obtain ⟨kl, kn, hkl⟩ : ∃ a b, tdL ks (5) (d + 1) (L - 1) = (a, b) := ⟨_, _, rfl⟩
          have hR := HIH.out ks (by omega) (by omega) (.slice s1 s2 s3) (5) (d + 1) (L - 1) w5 (HK.out.keep (Kp.below HT5.out.ts.bel (fun z hz => Nat.lt_of_lt_of_le (HS.out z hz) hzz))) (fun z hz => Nat.lt_of_lt_of_le (Nat.lt_of_lt_of_le (HS.out z hz) hzz) HT5.out.ts.bel.size) (by omega) (by omega)
          rw [hkl] at hR
          unfold TdP at hR
          simp only at hR
          have HRR := Lib.hid hR
          have hkb := td_len ks (5) (d + 1) (L - 1)
          rw [hkl] at hkb
          simp only at hkb
          have HKL := Lib.hid hkl
          clear hR hkl
          go_wp2_with fail
          refine HRR.out.mono ?_
          rintro e w7 ⟨⟨c1, c2, c3⟩, rfl, hs, b7⟩
          simp only [pv]
          have HT7 := Lib.hid (HT5.out.keep b7)
          have HKS : Hid (NsS (fun b => SI b ∨ (w5.heap.size ≤ b ∧ b < w7.heap.size)) w7 (pv (c1, c2, c3)) kl) := Lib.hid hs
          have hc2 : decide (0 < c2) = hasK kl := by
            obtain ⟨aa', ca', e⟩ := hs.len
            have e2 := pv_eq e
            injection e2 with _ e3
            injection e3 with e4 _
            rw [e4]
            exact hasK_len kl
          have HC2 := Lib.hid hc2
          have hg6 : w2.heap.size < w5.heap.size := HT5.out.ts.sz
          have hl6 : wo.heap.size < w2.heap.size := HT5.out.ts.lt
          have f4 : w7.frozen? ⟨w2.heap.size, 4, none⟩ = false := HT7.out.ts.by'.frozen (by simp [ncell])
          have g4 : w7.cell? ⟨w2.heap.size, 4, none⟩ = some (.slice none 0 0) := HT7.out.ts.by'.cell 4
          have HT8 : Hid (TR SI w.heap.size wo ⟨5, xl, xn, (t1, t2, t3), (s1, s2, s3), (r1, r2, r3), co, (q1, q2, q3), xb, xa⟩ w2.heap.size ⟨yk, yl, yn, (y1, y2, y3), (c1, c2, c3), (z1, z2, z3), yo, (u1, u2, u3), yb, ya⟩ (ownH h (5)) (w7.setCell ⟨w2.heap.size, 4, none⟩ (.slice c1 c2 c3))) := Lib.hid (HT7.out.setK (c1, c2, c3))
          have HKS8 : Hid (NsS (fun b => SI b ∨ (w5.heap.size ≤ b ∧ b < (w7.setCell ⟨w2.heap.size, 4, none⟩ (.slice c1 c2 c3)).heap.size)) (w7.setCell ⟨w2.heap.size, 4, none⟩ (.slice c1 c2 c3)) (.slice c1 c2 c3) kl) := Lib.hid (by
            rw [szset]
            refine NsS.keep HKS.out (fun b q => Below.heap_setCell _ _ _ _ ?_)
            have hb6 := HT5.out.ts.sz
            show b ≠ w2.heap.size
            rcases q with q | q
            · have := HS.out b q; omega
            · omega)
          have yc0 : (w7.setCell ⟨w2.heap.size, 4, none⟩ (.slice c1 c2 c3)).cell? ⟨w2.heap.size, 0, none⟩ = some (.int .i64 yk) := HT8.out.ts.by'.cell 0
          have yc1 : (w7.setCell ⟨w2.heap.size, 4, none⟩ (.slice c1 c2 c3)).cell? ⟨w2.heap.size, 1, none⟩ = some (.int .i64 yl) := HT8.out.ts.by'.cell 1
          have yc2 : (w7.setCell ⟨w2.heap.size, 4, none⟩ (.slice c1 c2 c3)).cell? ⟨w2.heap.size, 2, none⟩ = some (.int .i64 yn) := HT8.out.ts.by'.cell 2
          have yc3 : (w7.setCell ⟨w2.heap.size, 4, none⟩ (.slice c1 c2 c3)).cell? ⟨w2.heap.size, 3, none⟩ = some (.slice y1 y2 y3) := HT8.out.ts.by'.cell 3
          have yc4 : (w7.setCell ⟨w2.heap.size, 4, none⟩ (.slice c1 c2 c3)).cell? ⟨w2.heap.size, 4, none⟩ = some (.slice c1 c2 c3) := HT8.out.ts.by'.cell 4
          have yc5 : (w7.setCell ⟨w2.heap.size, 4, none⟩ (.slice c1 c2 c3)).cell? ⟨w2.heap.size, 5, none⟩ = some (.slice z1 z2 z3) := HT8.out.ts.by'.cell 5
          have yc6 : (w7.setCell ⟨w2.heap.size, 4, none⟩ (.slice c1 c2 c3)).cell? ⟨w2.heap.size, 6, none⟩ = some (.string ⟨yo.toArray⟩) := HT8.out.ts.by'.cell 6
          have yc7 : (w7.setCell ⟨w2.heap.size, 4, none⟩ (.slice c1 c2 c3)).cell? ⟨w2.heap.size, 7, none⟩ = some (.slice u1 u2 u3) := HT8.out.ts.by'.cell 7
          have yc8 : (w7.setCell ⟨w2.heap.size, 4, none⟩ (.slice c1 c2 c3)).cell? ⟨w2.heap.size, 8, none⟩ = some (.bool yb) := HT8.out.ts.by'.cell 8
          have yc9 : (w7.setCell ⟨w2.heap.size, 4, none⟩ (.slice c1 c2 c3)).cell? ⟨w2.heap.size, 9, none⟩ = some (.bool ya) := HT8.out.ts.by'.cell 9
          have hF := rfull_of HT8.out.hd (w7.setCell ⟨w2.heap.size, 4, none⟩ (.slice c1 c2 c3))
          rw [show fullB (ownH h (5)) (decide (0 < (⟨yk, yl, yn, (y1, y2, y3), (c1, c2, c3), (z1, z2, z3), yo, (u1, u2, u3), yb, ya⟩ : NV).kids.2.1)) = fullB (ownH h (5)) (hasK kl) from congrArg _ HC2.out] at hF
          simp only [ncell, pv] at hF
          by_cases hf2 : fullB (ownH h (5)) (hasK kl) = true
          · have HF2 := Lib.hid hf2
            clear hf2
            rw [HF2.out] at hF
            have HF := Lib.hid hF
            clear hF hs b7 hc2 HKS HT7 c4
            go_wp2_with fail
            refine HF.out.mono ?_
            rintro e w9 ⟨rfl, b9⟩
            have HT9 := Lib.hid (HT8.out.keep b9)
            have HKS9 := Lib.hid (HKS8.out.keep (Kp.below b9 (fun z q => by rcases q with q | q; (have h1 := HS.out z q; have h2 := HT8.out.ts.sz; omega); exact q.2)))
            have HB9 := Lib.hid b9.size
            clear b9 HF yc0 yc1 yc2 yc3 yc4 yc5 yc6 yc7 yc8 yc9 HT8 HKS8 f4 g4
            have hpush := HT9.out.push HI.out (kl := kl) (HKS9.out.mono (fun z q => q.imp id (fun q => by have h1 := HT5.out.ts.bel.size; have h2 := HB9.out; omega))) (by have := HON.out; omega)
            rw [HON.out] at hpush
            obtain ⟨a', c', w10, hr, hI, hb10, -⟩ := hpush
            simp only [ncell, pv] at hr
            have HB10 : Hid (Below w.heap.size w w10) := Lib.hid (HB.out.trans ((HT9.out.ts.bel.mono hzz).trans hb10))
            have HI10 := Lib.hid hI
            have yc0 : (w9).cell? ⟨w2.heap.size, 0, none⟩ = some (.int .i64 yk) := HT9.out.ts.by'.cell 0
            have yc1 : (w9).cell? ⟨w2.heap.size, 1, none⟩ = some (.int .i64 yl) := HT9.out.ts.by'.cell 1
            have yc2 : (w9).cell? ⟨w2.heap.size, 2, none⟩ = some (.int .i64 yn) := HT9.out.ts.by'.cell 2
            have yc3 : (w9).cell? ⟨w2.heap.size, 3, none⟩ = some (.slice y1 y2 y3) := HT9.out.ts.by'.cell 3
            have yc4 : (w9).cell? ⟨w2.heap.size, 4, none⟩ = some (.slice c1 c2 c3) := HT9.out.ts.by'.cell 4
            have yc5 : (w9).cell? ⟨w2.heap.size, 5, none⟩ = some (.slice z1 z2 z3) := HT9.out.ts.by'.cell 5
            have yc6 : (w9).cell? ⟨w2.heap.size, 6, none⟩ = some (.string ⟨yo.toArray⟩) := HT9.out.ts.by'.cell 6
            have yc7 : (w9).cell? ⟨w2.heap.size, 7, none⟩ = some (.slice u1 u2 u3) := HT9.out.ts.by'.cell 7
            have yc8 : (w9).cell? ⟨w2.heap.size, 8, none⟩ = some (.bool yb) := HT9.out.ts.by'.cell 8
            have yc9 : (w9).cell? ⟨w2.heap.size, 9, none⟩ = some (.bool ya) := HT9.out.ts.by'.cell 9
            clear hI hb10
            go_wp2_with fail
            have HN2 : Hid (tdL (l.take (p + 1)) m d n0 = (o ++ [.mk (ownH h (5)) kl], kn)) := Lib.hid (by rw [HN.out, td_in HKT.out HIN0.out, HKL.out]; simp only; rw [HF2.out]; rfl)
            go_roundw
            case rel => exact ⟨p + 1, kn, _, HN2, rfl, by go_num, by omega, HI10, HB10⟩
            case measure => (simp [intOf]; try omega)
          · have HF2 : Hid (fullB (ownH h (5)) (hasK kl) = false) := Lib.hid (by simpa using hf2)
            clear hf2
            rw [HF2.out] at hF
            have HF := Lib.hid hF
            clear hF hs b7 hc2 HKS HT7 c4
            go_wp2_with fail
            refine HF.out.mono ?_
            rintro e w9 ⟨rfl, b9⟩
            have HT9 := Lib.hid (HT8.out.keep b9)
            have HKS9 := Lib.hid (HKS8.out.keep (Kp.below b9 (fun z q => by rcases q with q | q; (have h1 := HS.out z q; have h2 := HT8.out.ts.sz; omega); exact q.2)))
            have HB9 := Lib.hid b9.size
            clear b9 HF yc0 yc1 yc2 yc3 yc4 yc5 yc6 yc7 yc8 yc9 HT8 HKS8 f4 g4
            have HI9 := Lib.hid (HI.out.keep HT9.out.ts.bel)
            have HB9' : Hid (Below w.heap.size w w9) := Lib.hid (HB.out.trans (HT9.out.ts.bel.mono hzz))
            go_wp2_with fail
            have HN2 : Hid (tdL (l.take (p + 1)) m d n0 = (o, kn)) := Lib.hid (by rw [HN.out, td_in HKT.out HIN0.out, HKL.out]; simp only; rw [HF2.out]; simp)
            go_roundw
            case rel => exact ⟨p + 1, kn, _, HN2, rfl, by go_num, by omega, HI9, HB9'⟩
            case measure => (simp [intOf]; try omega)
        have n1 : (xk == 1) = false := by simpa using k1
        have n2 : (xk == 2) = false := by simpa using k2
        have hmf : mayK xk = false := by unfold mayK; simp [k1, k2, k4, k5]
        rw [hmf] at HI5
        have HM : Hid (mayK h.kind = false) := Lib.hid (by rw [← HH.out]; exact hmf)
        have HKT : Hid (kindAt h.kind m = xk) := Lib.hid (by rw [← HH.out]; exact kt0 k1 k2)
        have HOK := Lib.hid (HOW.out (xk))
        clear HOW
        go_wp2_with fail
        refine HOK.out.mono ?_
        rintro e w2 ⟨⟨yk, yl, yn, ⟨y1, y2, y3⟩, ky, ⟨z1, z2, z3⟩, yo, ⟨u1, u2, u3⟩, yb, ya⟩, rfl, hky, hhy, b2⟩
        simp only at hky
        subst hky
        have HT3 := Lib.hid (HSX.out b2 hhy)
        have hI := HI5.out (w2.alloc (.cells (ncell ⟨yk, yl, yn, (y1, y2, y3), (none, 0, 0), (z1, z2, z3), yo, (u1, u2, u3), yb, ya⟩).toArray 40))
        rw [World.size_alloc] at hI
        have x0' := HT3.out.ts.bx.cell 0
        simp only [ncell, pv] at hI x0'
        have HIN := Lib.hid hI
        clear hI a0 a1 a2 a3 a4 a5 a6 a7 a8 a9 HOK HXB HSX hhy b2 x0
        simp only [ncell, pv]
        go_wp2_with fail
        refine HIN.out.mono ?_
        rintro e w5 ⟨rfl, hw5⟩
        have HT5 : Hid (TR SI w.heap.size wo ⟨xk, xl, xn, (t1, t2, t3), (s1, s2, s3), (r1, r2, r3), co, (q1, q2, q3), xb, xa⟩ w2.heap.size ⟨yk, yl, yn, (y1, y2, y3), (none, 0, 0), (z1, z2, z3), yo, (u1, u2, u3), yb, ya⟩ (ownH h (xk)) w5) := Lib.hid (by rw [hw5]; exact HT3.out.keep (below_lit _ _))
        clear hw5 HIN HT3 x0' HI5
        by_cases hf : fullB (ownH h (xk)) false = true
        · have hf1 := hf
          clear hf
          have xc0 : w5.cell? ⟨wo.heap.size, 0, none⟩ = some (.int .i64 xk) := HT5.out.ts.bx.cell 0
          have yc0 : (w5).cell? ⟨w2.heap.size, 0, none⟩ = some (.int .i64 yk) := HT5.out.ts.by'.cell 0
          have yc1 : (w5).cell? ⟨w2.heap.size, 1, none⟩ = some (.int .i64 yl) := HT5.out.ts.by'.cell 1
          have yc2 : (w5).cell? ⟨w2.heap.size, 2, none⟩ = some (.int .i64 yn) := HT5.out.ts.by'.cell 2
          have yc3 : (w5).cell? ⟨w2.heap.size, 3, none⟩ = some (.slice y1 y2 y3) := HT5.out.ts.by'.cell 3
          have yc4 : (w5).cell? ⟨w2.heap.size, 4, none⟩ = some (.slice none 0 0) := HT5.out.ts.by'.cell 4
          have yc5 : (w5).cell? ⟨w2.heap.size, 5, none⟩ = some (.slice z1 z2 z3) := HT5.out.ts.by'.cell 5
          have yc6 : (w5).cell? ⟨w2.heap.size, 6, none⟩ = some (.string ⟨yo.toArray⟩) := HT5.out.ts.by'.cell 6
          have yc7 : (w5).cell? ⟨w2.heap.size, 7, none⟩ = some (.slice u1 u2 u3) := HT5.out.ts.by'.cell 7
          have yc8 : (w5).cell? ⟨w2.heap.size, 8, none⟩ = some (.bool yb) := HT5.out.ts.by'.cell 8
          have yc9 : (w5).cell? ⟨w2.heap.size, 9, none⟩ = some (.bool ya) := HT5.out.ts.by'.cell 9
          have hF := rfull_of HT5.out.hd w5
          rw [show fullB (ownH h (xk)) (decide (0 < (⟨yk, yl, yn, (y1, y2, y3), (none, 0, 0), (z1, z2, z3), yo, (u1, u2, u3), yb, ya⟩ : NV).kids.2.1)) = true from hf1] at hF
          simp only [ncell, pv] at hF
          have HF := Lib.hid hF
          clear hF
          go_wp2_with fail
          refine HF.out.mono ?_
          rintro e w7 ⟨rfl, b7⟩
          have HT7 := Lib.hid (HT5.out.keep b7)
          clear b7 HF yc0 yc1 yc2 yc3 yc4 yc5 yc6 yc7 yc8 yc9 xc0
          have hpush := HT7.out.push HI.out (kl := []) (NsS.nil _ _) (by have := HON.out; omega)
          rw [HON.out] at hpush
          obtain ⟨a', c', w8, hr, hI, hb8, hbx⟩ := hpush
          simp only [ncell, pv] at hr
          have HB8 : Hid (Below w.heap.size w w8) := Lib.hid (HB.out.trans ((HT7.out.ts.bel.mono hzz).trans hb8))
          have HI8 := Lib.hid hI
          have HBX := Lib.hid hbx
          have yc0 : (w7).cell? ⟨w2.heap.size, 0, none⟩ = some (.int .i64 yk) := HT7.out.ts.by'.cell 0
          have yc1 : (w7).cell? ⟨w2.heap.size, 1, none⟩ = some (.int .i64 yl) := HT7.out.ts.by'.cell 1
          have yc2 : (w7).cell? ⟨w2.heap.size, 2, none⟩ = some (.int .i64 yn) := HT7.out.ts.by'.cell 2
          have yc3 : (w7).cell? ⟨w2.heap.size, 3, none⟩ = some (.slice y1 y2 y3) := HT7.out.ts.by'.cell 3
          have yc4 : (w7).cell? ⟨w2.heap.size, 4, none⟩ = some (.slice none 0 0) := HT7.out.ts.by'.cell 4
          have yc5 : (w7).cell? ⟨w2.heap.size, 5, none⟩ = some (.slice z1 z2 z3) := HT7.out.ts.by'.cell 5
          have yc6 : (w7).cell? ⟨w2.heap.size, 6, none⟩ = some (.string ⟨yo.toArray⟩) := HT7.out.ts.by'.cell 6
          have yc7 : (w7).cell? ⟨w2.heap.size, 7, none⟩ = some (.slice u1 u2 u3) := HT7.out.ts.by'.cell 7
          have yc8 : (w7).cell? ⟨w2.heap.size, 8, none⟩ = some (.bool yb) := HT7.out.ts.by'.cell 8
          have yc9 : (w7).cell? ⟨w2.heap.size, 9, none⟩ = some (.bool ya) := HT7.out.ts.by'.cell 9
          clear hI hb8 hbx
          go_wp2_with fail
          have HN2 : Hid (tdL (l.take (p + 1)) m d n0 = (o ++ [.mk (ownH h (xk)) []], L - 1)) := Lib.hid (by rw [HN.out, td_no HKT.out HM.out]; simp only; rw [hf1]; rfl)
          go_roundw
          case rel => exact ⟨p + 1, L - 1, _, HN2, rfl, by go_num, by omega, HI8, HB8⟩
          case measure => (simp [intOf]; try omega)
        · have hf1 : fullB (ownH h (xk)) false = false := by simpa using hf
          clear hf
          have xc0 : w5.cell? ⟨wo.heap.size, 0, none⟩ = some (.int .i64 xk) := HT5.out.ts.bx.cell 0
          have yc0 : (w5).cell? ⟨w2.heap.size, 0, none⟩ = some (.int .i64 yk) := HT5.out.ts.by'.cell 0
          have yc1 : (w5).cell? ⟨w2.heap.size, 1, none⟩ = some (.int .i64 yl) := HT5.out.ts.by'.cell 1
          have yc2 : (w5).cell? ⟨w2.heap.size, 2, none⟩ = some (.int .i64 yn) := HT5.out.ts.by'.cell 2
          have yc3 : (w5).cell? ⟨w2.heap.size, 3, none⟩ = some (.slice y1 y2 y3) := HT5.out.ts.by'.cell 3
          have yc4 : (w5).cell? ⟨w2.heap.size, 4, none⟩ = some (.slice none 0 0) := HT5.out.ts.by'.cell 4
          have yc5 : (w5).cell? ⟨w2.heap.size, 5, none⟩ = some (.slice z1 z2 z3) := HT5.out.ts.by'.cell 5
          have yc6 : (w5).cell? ⟨w2.heap.size, 6, none⟩ = some (.string ⟨yo.toArray⟩) := HT5.out.ts.by'.cell 6
          have yc7 : (w5).cell? ⟨w2.heap.size, 7, none⟩ = some (.slice u1 u2 u3) := HT5.out.ts.by'.cell 7
          have yc8 : (w5).cell? ⟨w2.heap.size, 8, none⟩ = some (.bool yb) := HT5.out.ts.by'.cell 8
          have yc9 : (w5).cell? ⟨w2.heap.size, 9, none⟩ = some (.bool ya) := HT5.out.ts.by'.cell 9
          have hF := rfull_of HT5.out.hd w5
          rw [show fullB (ownH h (xk)) (decide (0 < (⟨yk, yl, yn, (y1, y2, y3), (none, 0, 0), (z1, z2, z3), yo, (u1, u2, u3), yb, ya⟩ : NV).kids.2.1)) = false from hf1] at hF
          simp only [ncell, pv] at hF
          have HF := Lib.hid hF
          clear hF
          go_wp2_with fail
          refine HF.out.mono ?_
          rintro e w7 ⟨rfl, b7⟩
          have HT7 := Lib.hid (HT5.out.keep b7)
          clear b7 HF yc0 yc1 yc2 yc3 yc4 yc5 yc6 yc7 yc8 yc9 xc0
          have HB8 : Hid (Below w.heap.size w w7) := Lib.hid (HB.out.trans (HT7.out.ts.bel.mono hzz))
          have HI8 := Lib.hid (HI.out.keep HT7.out.ts.bel)
          have HBX := Lib.hid HT7.out.ts.bx
          go_wp2_with fail
          have HN2 : Hid (tdL (l.take (p + 1)) m d n0 = (o, L - 1)) := Lib.hid (by rw [HN.out, td_no HKT.out HM.out]; simp only; rw [hf1]; simp)
          go_roundw
          case rel => exact ⟨p + 1, L - 1, _, HN2, rfl, by go_num, by omega, HI8, HB8⟩
          case measure => (simp [intOf]; try omega)
      · obtain rfl : p = l.length := by omega
        have hlt' : ¬ (l.length : Int) < (l.length : Int) := by omega
        go_wp2_with fail
        go_ret2
        exact FIN.out (by rw [← HE.out, List.take_length])
end Go.Proofs.YtpccjgoeoeehoaaDoor
namespace Go.Proofs.YtpccjgoeoeehoaaDoor
open Go.RowKit
set_option maxRecDepth 100000 in
set_option maxHeartbeats 8000000 in
theorem rTidy_any (S : Nat → Prop) (m : Nm) (l : List Nd) (v : Value) (w : World) (hb : nlL l ≤ 90000) (hv : NsS S w v l) (hS : ∀ x, S x → x < w.heap.size) :
    Calls Tryd.prog 46 #[docV m v] w fun e w' => ∃ s : PV, e = .returned (docV m (pv s)) ∧ NsS (fun b => S b ∨ (w.heap.size ≤ b ∧ b < w'.heap.size)) w' (pv s) (tidyL l) ∧ Below w.heap.size w w' := by
  obtain ⟨k1, z1, rfl⟩ := hv.len
  obtain ⟨w0, hw0⟩ : ∃ w0, w0 = (w.alloc (.cells (docL m (.slice k1 l.length z1)).toArray 29)).alloc (.cells ([.string ⟨#[]⟩, .string ⟨#[]⟩, .string ⟨#[]⟩, .string ⟨#[]⟩, .slice none 0 0] : List Value).toArray 29) := ⟨_, rfl⟩
  obtain ⟨bl, hbA, hbB⟩ := two_lits w _ _ w0 hw0
  have hz0 : w0.heap.size = w.heap.size + 1 + 1 := by rw [hw0, World.size_alloc, World.size_alloc]
  have c4 : w0.cell? ⟨w.heap.size, 4, none⟩ = some (.slice k1 l.length z1) := hbA.cell 4
  have hR := rtidy_any (cntL l) l rfl hb S _ 0 0 20000 w0 (hv.keep (Kp.below bl hS)) (fun x hx => Nat.lt_of_lt_of_le (hS x hx) bl.size) (Nat.le_refl _) (by omega)
  rw [show ((0 : Nat) : Int) = 0 from rfl, show ((20000 : Nat) : Int) = 20000 from rfl] at hR
  have HTL : Hid ((tdL l 0 0 20000).1 = tidyL l) := Lib.hid rfl
  obtain ⟨kl, hkl⟩ : ∃ a, (tdL l 0 0 20000).1 = a := ⟨_, rfl⟩
  obtain ⟨kn, hkn⟩ : ∃ a, (tdL l 0 0 20000).2 = a := ⟨_, rfl⟩
  rw [hkl] at hR HTL
  rw [hkn] at hR
  rw [← HTL.out]
  unfold TdP at hR
  have HR := Lib.hid hR
  have BL := Lib.hid bl
  have HA := Lib.hid hbA
  have HB := Lib.hid hbB
  have HS := Lib.hid hS
  have HZ0 := Lib.hid hz0
  unfold docV
  clear hv hS bl hbA hbB hkl hkn hR hz0
  unfold docL at hw0 ⊢
  subst hw0
  go_enter Tryd.func46, Tryd.ntmps46
  go_wp2_with fail
  refine HR.out.mono ?_
  rintro e w1 ⟨⟨c1, c2, c3⟩, rfl, hs, b1⟩
  simp only [pv]
  obtain ⟨wz, hwz⟩ : ∃ n, w.heap.size = n := ⟨_, rfl⟩
  have A1 := HA.out.below b1
  have B1 := HB.out.below b1
  have f4 : w1.frozen? ⟨w.heap.size, 4, none⟩ = false := A1.frozen (by simp [docL])
  have g4 : w1.cell? ⟨w.heap.size, 4, none⟩ = some (.slice k1 l.length z1) := A1.cell 4
  have A2 := A1.set 4 (.slice c1 c2 c3)
  have B2 := Blk.other B1 (show w.heap.size + 1 ≠ w.heap.size by omega) 4 (.slice c1 c2 c3)
  have x0 : (w1.setCell ⟨w.heap.size, 4, none⟩ (.slice c1 c2 c3)).cell? ⟨w.heap.size, 0, none⟩ = some (.string ⟨m.a.toArray⟩) := A2.cell 0
  have x1 : (w1.setCell ⟨w.heap.size, 4, none⟩ (.slice c1 c2 c3)).cell? ⟨w.heap.size, 1, none⟩ = some (.string ⟨m.b.toArray⟩) := A2.cell 1
  have x2 : (w1.setCell ⟨w.heap.size, 4, none⟩ (.slice c1 c2 c3)).cell? ⟨w.heap.size, 2, none⟩ = some (.string ⟨m.c.toArray⟩) := A2.cell 2
  have x3 : (w1.setCell ⟨w.heap.size, 4, none⟩ (.slice c1 c2 c3)).cell? ⟨w.heap.size, 3, none⟩ = some (.string ⟨m.d.toArray⟩) := A2.cell 3
  have x4 : (w1.setCell ⟨w.heap.size, 4, none⟩ (.slice c1 c2 c3)).cell? ⟨w.heap.size, 4, none⟩ = some (.slice c1 c2 c3) := A2.cell 4
  have z0 : (w1.setCell ⟨w.heap.size, 4, none⟩ (.slice c1 c2 c3)).cell? ⟨w.heap.size + 1, 0, none⟩ = some (.string ⟨#[]⟩) := B2.cell 0
  have z1' : (w1.setCell ⟨w.heap.size, 4, none⟩ (.slice c1 c2 c3)).cell? ⟨w.heap.size + 1, 1, none⟩ = some (.string ⟨#[]⟩) := B2.cell 1
  have z2 : (w1.setCell ⟨w.heap.size, 4, none⟩ (.slice c1 c2 c3)).cell? ⟨w.heap.size + 1, 2, none⟩ = some (.string ⟨#[]⟩) := B2.cell 2
  have z3 : (w1.setCell ⟨w.heap.size, 4, none⟩ (.slice c1 c2 c3)).cell? ⟨w.heap.size + 1, 3, none⟩ = some (.string ⟨#[]⟩) := B2.cell 3
  have z4 : (w1.setCell ⟨w.heap.size, 4, none⟩ (.slice c1 c2 c3)).cell? ⟨w.heap.size + 1, 4, none⟩ = some (.slice none 0 0) := B2.cell 4
  have v0 : (w1.setCell ⟨w.heap.size, 4, none⟩ (.slice c1 c2 c3)).frozen? ⟨w.heap.size + 1, 0, none⟩ = false := B2.frozen (by simp)
  have v1 : (w1.setCell ⟨w.heap.size, 4, none⟩ (.slice c1 c2 c3)).frozen? ⟨w.heap.size + 1, 1, none⟩ = false := B2.frozen (by simp)
  have v2 : (w1.setCell ⟨w.heap.size, 4, none⟩ (.slice c1 c2 c3)).frozen? ⟨w.heap.size + 1, 2, none⟩ = false := B2.frozen (by simp)
  have v3 : (w1.setCell ⟨w.heap.size, 4, none⟩ (.slice c1 c2 c3)).frozen? ⟨w.heap.size + 1, 3, none⟩ = false := B2.frozen (by simp)
  have v4 : (w1.setCell ⟨w.heap.size, 4, none⟩ (.slice c1 c2 c3)).frozen? ⟨w.heap.size + 1, 4, none⟩ = false := B2.frozen (by simp)
  have B7 := ((((B2.set 0 (.string ⟨m.a.toArray⟩)).set 1 (.string ⟨m.b.toArray⟩)).set 2 (.string ⟨m.c.toArray⟩)).set 3 (.string ⟨m.d.toArray⟩)).set 4 (.slice c1 c2 c3)
  have H7 := Lib.hid B7
  have HSS := Lib.hid hs
  have HB1 := Lib.hid b1
  clear A1 B1 A2 B2 B7 hs b1 HR HA HB c4 hwz
  go_wp2_with fail
  have B7 := H7.out
  have k0 := B7.cell 0
  have k1 := B7.cell 1
  have k2 := B7.cell 2
  have k3 := B7.cell 3
  have k4 := B7.cell 4
  simp at k0 k1 k2 k3 k4
  refine bodyPost_ret (v := .agg #[.string ⟨m.a.toArray⟩, .string ⟨m.b.toArray⟩, .string ⟨m.c.toArray⟩, .string ⟨m.d.toArray⟩, .slice c1 c2 c3]) (by simp [results, Tryd.results46, go_sem, k0, k1, k2, k3, k4]) rfl ?_
  have hz := HZ0.out
  have h1 := HB1.out.size
  refine ⟨(c1, c2, c3), rfl, ?_, ?_⟩
  · refine (HSS.out.keep (fun b q => ?_)).mono (fun b q => ?_)
    · have hb : b ≠ w.heap.size ∧ b ≠ w.heap.size + 1 := by
        rcases q with q | q
        · have := HS.out b q; omega
        · omega
      simp only [Below.heap_setCell _ (⟨w.heap.size, _, none⟩ : Addr) _ b hb.1, Below.heap_setCell _ (⟨w.heap.size + 1, _, none⟩ : Addr) _ b hb.2]
    · simp only [szset]
      rcases q with q | q
      · exact .inl q
      · exact .inr (by omega)
  · refine (((((BL.out.trans (HB1.out.mono BL.out.size)).setCell ?_ _).setCell ?_ _).setCell ?_ _).setCell ?_ _).setCell ?_ _ |>.setCell ?_ _ <;> simp <;> omega
end Go.Proofs.YtpccjgoeoeehoaaDoor
