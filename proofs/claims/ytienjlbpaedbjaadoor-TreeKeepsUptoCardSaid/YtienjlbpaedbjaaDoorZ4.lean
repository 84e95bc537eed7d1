/- The program's own for documents: do all nodes fit? May a document be? -/
import Derived.Test.YtienjlbpaedbjaaDoorZ3
import Derived.Test.YtienjlbpaedbjaaDoorQ2
namespace Go.Proofs.YtienjlbpaedbjaaDoor
open Go.RowKit

def wrN (m : Int) (y : Nd) : Bool := !rtN y m
theorem rtL_any (m : Int) : ∀ l : List Nd, rtL l m = !l.any (wrN m)
  | [] => by simp [rtL]
  | x :: l => by simp [rtL, rtL_any m l, wrN]
theorem rtN_pst (y : Nd) (m : Int) : rtN y m = ((pst m y.hd.kind && soundH y.hd (hasK y.kids)) && rtL y.kids y.hd.kind) := by
  obtain ⟨h, ks⟩ := y
  rw [sound_right]
  simp [rtN, Nd.hd, Nd.kids]
theorem hasK_len0 {l : List Nd} : decide (0 < l.length) = hasK l := by
  cases l <;> simp [hasK]
set_option maxRecDepth 100000 in
set_option maxHeartbeats 2000000 in
theorem pwrongN_any (S : Nat → Prop) (mb : Nat) (m : Int) (y : Nd) (x : NV) (w : World) (hx : HdIs S w x y.hd) (hk : NsS S w (pv x.kids) y.kids) (hl : nlN y ≤ 90000) (hS : ∀ b, S b → b < w.heap.size) (hm : w.cell? ⟨mb, 0, none⟩ = some (.int .i64 m))
    (HK : ∀ (k : Int) (v : Value) (w : World), NsS S w v y.kids → (∀ b, S b → b < w.heap.size) → Calls Tryd.prog 34 #[.int .i64 k, v] w fun e w' => e = .returned (.bool (rtL y.kids k)) ∧ Below w.heap.size w w') :
    Calls Tryd.prog 69 #[.agg (ncell x).toArray, .pointer (some ⟨mb, 0, none⟩)] w fun e w' => e = .returned (.bool (wrN m y)) ∧ Below w.heap.size w w' := by
  have hnl := nlN_eq y
  have hkk := hx.kind
  obtain ⟨va, vc, ev⟩ := hk.len
  have hkl : x.kids.2.1 = y.kids.length := by
    unfold pv at ev
    injection ev
  have HSO : Hid (∀ W, Below w.heap.size w W → Calls Tryd.prog 71 #[.agg (ncell x).toArray] W fun e w' => e = .returned (.bool (soundH y.hd (hasK y.kids))) ∧ Below W.heap.size W w') := Lib.hid (fun W hb => by
    have := psound_any _ x y.hd W (hx.keep (Kp.below hb hS)) (by omega) (fun b q => Nat.lt_of_lt_of_le (hS b q) hb.size)
    rwa [hkl, hasK_len0] at this)
  have HFI : Hid (∀ W, Below w.heap.size w W → Calls Tryd.prog 34 #[.int .i64 x.kind, pv x.kids] W fun e w' => e = .returned (.bool (rtL y.kids y.hd.kind)) ∧ Below W.heap.size W w') := Lib.hid (fun W hb => by
    rw [hkk]
    exact HK _ _ W (hk.keep (Kp.below hb hS)) (fun b q => Nat.lt_of_lt_of_le (hS b q) hb.size))
  have HST : Hid (∀ W, Calls Tryd.prog 70 #[.int .i64 m, .int .i64 x.kind] W fun e w' => e = .returned (.bool (pst m y.hd.kind)) ∧ W = w') := Lib.hid (fun W => by
    rw [hkk]
    exact pstands_any _ _ W)
  unfold wrN
  rw [rtN_pst]
  obtain ⟨p, hp⟩ : ∃ p, pst m y.hd.kind = p := ⟨_, rfl⟩
  obtain ⟨s, hs⟩ : ∃ p, soundH y.hd (hasK y.kids) = p := ⟨_, rfl⟩
  obtain ⟨r, hr⟩ : ∃ p, rtL y.kids y.hd.kind = p := ⟨_, rfl⟩
  rw [hp] at HST ⊢
  rw [hs] at HSO ⊢
  rw [hr] at HFI ⊢
  clear hp hs hr hkk hnl hkl HK ev hx hk hS hl
  obtain ⟨k, xl, xn, ⟨t1, t2, t3⟩, ⟨k1, k2, k3⟩, ⟨r1, r2, r3⟩, xc, ⟨q1, q2, q3⟩, xb, xa⟩ := x
  simp only [ncell, pv] at HSO HFI HST ⊢
  obtain ⟨X, hX⟩ : ∃ X, X = w.alloc (.cells #[.int .i64 k, .int .i64 xl, .int .i64 xn, .slice t1 t2 t3, .slice k1 k2 k3, .slice r1 r2 r3, .string ⟨xc.toArray⟩, .slice q1 q2 q3, .bool xb, .bool xa] 39) := ⟨_, rfl⟩
  have bX : Below w.heap.size w X := by rw [hX]; exact below_lit w _
  have kX : Blk X w.heap.size 39 [.int .i64 k, .int .i64 xl, .int .i64 xn, .slice t1 t2 t3, .slice k1 k2 k3, .slice r1 r2 r3, .string ⟨xc.toArray⟩, .slice q1 q2 q3, .bool xb, .bool xa] := by rw [hX]; exact heap_alloc_new w _
  have hml := World.block_lt_of_cell? w _ hm
  have HCB : Hid (∀ W, Below X.heap.size X W → W.cell? ⟨w.heap.size, 0, none⟩ = some (.int .i64 k) ∧ W.cell? ⟨w.heap.size, 1, none⟩ = some (.int .i64 xl) ∧ W.cell? ⟨w.heap.size, 2, none⟩ = some (.int .i64 xn) ∧ W.cell? ⟨w.heap.size, 3, none⟩ = some (.slice t1 t2 t3) ∧ W.cell? ⟨w.heap.size, 4, none⟩ = some (.slice k1 k2 k3) ∧ W.cell? ⟨w.heap.size, 5, none⟩ = some (.slice r1 r2 r3) ∧ W.cell? ⟨w.heap.size, 6, none⟩ = some (.string ⟨xc.toArray⟩) ∧ W.cell? ⟨w.heap.size, 7, none⟩ = some (.slice q1 q2 q3) ∧ W.cell? ⟨w.heap.size, 8, none⟩ = some (.bool xb) ∧ W.cell? ⟨w.heap.size, 9, none⟩ = some (.bool xa) ∧ W.cell? ⟨mb, 0, none⟩ = some (.int .i64 m)) := Lib.hid (fun W hb => by
    have e1 := kX.below hb
    exact ⟨e1.cell 0, e1.cell 1, e1.cell 2, e1.cell 3, e1.cell 4, e1.cell 5, e1.cell 6, e1.cell 7, e1.cell 8, e1.cell 9, ((bX.trans (hb.mono bX.size)).cell hml).trans hm⟩)
  have HXW := Lib.hid hX
  have HBB : Hid (∀ W, Below X.heap.size X W → Below w.heap.size w W) := Lib.hid (fun W hb => bX.trans (hb.mono bX.size))
  clear hX bX kX hm hml
  obtain ⟨u0, u1, u2, u3, u4, u5, u6, u7, u8, u9, um⟩ := HCB.out X (Below.refl _ _)
  have D6 : Hid (Below X.heap.size X X) := Lib.hid (Below.refl _ X)
  go_enter Tryd.func69, Tryd.ntmps69
  go_upto_region 1 with fail
  rw [← HXW.out]
  clear HXW
  go_wp2_with fail
  refine (HST.out _).mono ?_
  rintro e w7 ⟨rfl, rfl⟩
  cases p with
  | false =>
    go_wp2_with fail
    all_goals
      go_ret
      exact ⟨rfl, HBB.out _ D6.out⟩
  | true =>
    go_wp2_with fail
    refine (HSO.out _ (HBB.out _ D6.out)).mono ?_
    rintro e w8 ⟨rfl, b8⟩
    have D8 := Lib.hid b8
    clear b8 u0 u1 u2 u3 u4 u5 u6 u7 u8 u9 um
    obtain ⟨u0, u1, u2, u3, u4, u5, u6, u7, u8, u9, um⟩ := HCB.out w8 D8.out
    cases s with
    | false =>
      go_wp2_with fail
      all_goals
        go_ret
        exact ⟨rfl, HBB.out _ D8.out⟩
    | true =>
      go_wp2_with fail
      refine (HFI.out _ (HBB.out _ D8.out)).mono ?_
      rintro e w9 ⟨rfl, b9⟩
      have D9 : Hid (Below X.heap.size X w9) := Lib.hid (D8.out.trans (b9.mono D8.out.size))
      clear b9 u0 u1 u2 u3 u4 u5 u6 u7 u8 u9 um
      cases r with
      | false =>
        go_wp2_with fail
        all_goals
          go_ret
          exact ⟨rfl, HBB.out _ D9.out⟩
      | true =>
        go_wp2_with fail
        all_goals
          go_ret
          exact ⟨rfl, HBB.out _ D9.out⟩
set_option maxRecDepth 100000 in
set_option maxHeartbeats 2000000 in
theorem pidxN_any (S : Nat → Prop) (mb : Nat) (m : Int) (l : List Nd) (v : Value) (w : World) (hv : NsS S w v l) (hl : nlL l ≤ 90000) (hS : ∀ x, S x → x < w.heap.size) (hm : w.cell? ⟨mb, 0, none⟩ = some (.int .i64 m))
    (HK : ∀ (ks : List Nd), cntL ks < cntL l → nlL ks ≤ 90000 → ∀ (k : Int) (v : Value) (w : World), NsS S w v ks → (∀ b, S b → b < w.heap.size) → Calls Tryd.prog 34 #[.int .i64 k, v] w fun e w' => e = .returned (.bool (rtL ks k)) ∧ Below w.heap.size w w') :
    Calls Tryd.prog 88 #[v, .func (.func 69) #[] #[.pointer (some ⟨mb, 0, none⟩)]] w (IdxQ w (l.any (wrN m))) := by
  have HV := Lib.hid hv
  have HS := Lib.hid hS
  have HM := Lib.hid hm
  have HKK := Lib.hid HK
  have hml := Lib.hid (World.block_lt_of_cell? w _ hm)
  have hll := cnt_len l
  have hcl := cnt_nlL l
  obtain ⟨aa, ca, rfl⟩ := hv.len
  clear hv hS hm HK
  go_enter Tryd.func88, Tryd.ntmps88
  go_wp2_with fail
  go_loopw [5, 8] (fun _ i wr => ∃ p : Nat, i = .int .i64 (p : Int) ∧ p ≤ l.length ∧ Hid ((l.take p).any (wrN m) = false) ∧ Hid (Below w.heap.size w wr)) (fun _ i _ => l.length - (intOf i).toNat)
  case atStart => exact ⟨0, rfl, by omega, Lib.hid (by simp), Lib.hid (Below.refl _ _)⟩
  case round =>
    obtain ⟨p, rfl, hp, HN, BB⟩ := hrel
    by_cases hlt : p < l.length
    · obtain ⟨y, hy⟩ : ∃ y, l[p]? = some y := ⟨l[p], List.getElem?_eq_getElem hlt⟩
      have HXX := Lib.hid hy
      have lc := cnt_le hy
      have ln := nl_le hy
      have hnl := nlN_eq y
      obtain ⟨g, off, x, rfl, hC, hh, hK⟩ := (below_ns HV.out BB.out HS.out).atC hy
      have hlt' : (p : Int) < (l.length : Int) := by omega
      have hp0 : (0 : Int) ≤ (p : Int) := by omega
      have h1 := pwrongN_any S mb m y x wr hh hK (by omega) (fun z hz => Nat.lt_of_lt_of_le (HS.out z hz) BB.out.size) ((BB.out.cell hml.out).trans HM.out) (HKK.out y.kids (by omega) (by omega))
      have c0 := hC.c0
      have c1 := hC.c1
      have c2 := hC.c2
      have c3 := hC.c3
      have c4 := hC.c4
      have c5 := hC.c5
      have c6 := hC.c6
      have c7 := hC.c7
      have c8 := hC.c8
      have c9 := hC.c9
      obtain ⟨k, xl, xn, ⟨t1, t2, t3⟩, ⟨k1, k2, k3⟩, ⟨r1, r2, r3⟩, xc, ⟨q1, q2, q3⟩, xb, xa⟩ := x
      simp only [ncell, pv] at h1 c0 c1 c2 c3 c4 c5 c6 c7 c8 c9
      have H1 := Lib.hid h1
      obtain ⟨q, hq⟩ : ∃ q, wrN m y = q := ⟨_, rfl⟩
      rw [hq] at H1
      have HQ := Lib.hid hq
      clear hy hq h1 hh hK hC
      go_wp2_with fail
      refine H1.out.mono ?_
      rintro e w1 ⟨rfl, b1⟩
      have B2 := Lib.hid (BB.out.trans (b1.mono BB.out.size))
      clear b1 H1 c0 c1 c2 c3 c4 c5 c6 c7 c8 c9
      cases q
      · go_wp2_with fail
        go_roundw
        case rel => exact ⟨p + 1, by go_num, by omega, Lib.hid (any_nextQ HN.out HXX.out HQ.out), B2⟩
        case measure => (simp [intOf]; try omega)
      · go_wp2_with fail
        go_ret
        exact ⟨⟨(p : Int), rfl, by rw [any_hitQ HXX.out HQ.out]; simp⟩, B2.out⟩
    · obtain rfl : p = l.length := by omega
      have hlt' : ¬ (l.length : Int) < (l.length : Int) := by omega
      have hall : l.any (wrN m) = false := by have := HN.out; rwa [List.take_length] at this
      have HALL := Lib.hid hall
      clear hall HN
      go_wp2_with fail
      go_ret
      exact ⟨⟨(-1 : Int), rfl, by rw [HALL.out]; decide⟩, BB.out⟩
set_option maxRecDepth 100000 in
theorem pfit_any (S : Nat → Prop) : ∀ (n : Nat) (l : List Nd), cntL l = n → nlL l ≤ 90000 → ∀ (m : Int) (v : Value) (w : World), NsS S w v l → (∀ x, S x → x < w.heap.size) →
    Calls Tryd.prog 34 #[.int .i64 m, v] w fun e w' => e = .returned (.bool (rtL l m)) ∧ Below w.heap.size w w' := by
  intro n
  induction n using Nat.strongRecOn with
  | _ n IH =>
    intro l hn hl m v w hv hS
    obtain ⟨X, hX⟩ : ∃ X, X = w.alloc (.cells #[.int .i64 m] 3) := ⟨_, rfl⟩
    have bX : Below w.heap.size w X := by rw [hX]; exact below_lit w _
    have kX : Blk X w.heap.size 3 [.int .i64 m] := by rw [hX]; exact heap_alloc_new w _
    have HI := Lib.hid (pidxN_any S w.heap.size m l v X (below_ns hv bX hS) hl (fun x q => Nat.lt_of_lt_of_le (hS x q) bX.size) (kX.cell 0) (fun ks hk hb => IH (cntL ks) (by omega) ks rfl hb))
    have HC : Hid (Calls Tryd.prog 72 #[v, .func (.func 69) #[] #[.pointer (some ⟨w.heap.size, 0, none⟩)]] X fun e w' => e = .returned (.bool (l.any (wrN m))) ∧ Below X.heap.size X w') := Lib.hid (by
      clear hX bX kX hv hS hn hl IH
      generalize l.any (wrN m) = q at HI ⊢
      go_enter Tryd.func72, Tryd.ntmps72
      go_wp2_with fail
      refine HI.out.mono ?_
      rintro e w1 ⟨⟨i, rfl, hi⟩, b1⟩
      have HJ := Lib.hid hi
      clear hi HI
      go_wp2_with fail
      go_ret
      exact ⟨ret_bool HJ.out, b1⟩)
    rw [rtL_any]
    generalize l.any (wrN m) = q at HC ⊢
    have HXW := Lib.hid hX
    have BX := Lib.hid bX
    clear HI hX bX kX hv hS hn hl IH
    go_enter Tryd.func34, Tryd.ntmps34
    go_wp2_with fail
    rw [← HXW.out]
    refine HC.out.mono ?_
    rintro e w1 ⟨rfl, b1⟩
    have B1 := Lib.hid (BX.out.trans (b1.mono BX.out.size))
    clear b1 HC HXW
    go_wp2_with fail
    go_ret
    exact ⟨rfl, B1.out⟩
end Go.Proofs.YtienjlbpaedbjaaDoor
