/- The program's own for documents: is a node sound? -/
import Derived.Test.YtienjlbpaedbjaaDoorQd
import Derived.Test.YtienjlbpaedbjaaDoorDm
namespace Go.Proofs.YtienjlbpaedbjaaDoor
open Go.RowKit

set_option maxRecDepth 100000 in
theorem pwithin_any (n m : Int) (w : World) : Calls Tryd.prog 86 #[.int .i64 n, .int .i64 m] w fun e w' => e = .returned (.bool (decide (0 ≤ n) && decide (n ≤ m))) ∧ w = w' := by
  obtain ⟨p, hp⟩ : ∃ p, decide (0 ≤ n) = p := ⟨_, rfl⟩
  obtain ⟨q, hq⟩ : ∃ p, decide (n ≤ m) = p := ⟨_, rfl⟩
  have hp' : decide (n ≥ 0) = p := hp
  rw [hp, hq]
  cases p
  · go_enter Tryd.func86, Tryd.ntmps86
    go_wp2_with fail
    go_ret
    exact ⟨rfl, rfl⟩
  · go_enter Tryd.func86, Tryd.ntmps86
    go_wp2_with fail
    go_ret
    exact ⟨rfl, rfl⟩
def soundH (h : Hd) (kids : Bool) : Bool :=
  fullB h kids && (decide (h = ownP h) && ((!kids || mayK h.kind) && ((if h.kind = 7 then rightT h.grid else true) && ((decide (0 ≤ h.line) && decide (h.line ≤ 1099511627775)) && ((decide (0 ≤ h.n) && decide (h.n ≤ 200)) && sqd h.text)))))
theorem isNone_iff (g : Tab) : isNone g = true ↔ g = noGrid := by
  obtain ⟨c, r, b, a⟩ := g
  unfold isNone noGrid
  cases b <;> cases a <;> simp
theorem sound_right (h : Hd) (kids : Bool) (m : Int) : (pst m h.kind && soundH h kids) = rightH h kids m := by
  by_cases hf : fullB h kids = true
  · have hk : h.kind = 1 ∨ h.kind = 2 ∨ h.kind = 3 ∨ h.kind = 4 ∨ h.kind = 5 ∨ h.kind = 6 ∨ h.kind = 7 := by
      have := full_kind hf
      omega
    obtain ⟨k, l, n, t, r, g⟩ := h
    simp only at hk
    unfold soundH rightH
    rw [hf, Bool.eq_iff_iff]
    rcases hk with rfl | rfl | rfl | rfl | rfl | rfl | rfl
    all_goals
      simp [pst, stands, ownP, mayK, isNone_iff]
      try grind
  · rw [Bool.not_eq_true] at hf
    unfold soundH rightH
    rw [hf]
    simp
set_option maxRecDepth 100000 in
set_option maxHeartbeats 2000000 in
theorem psound_any (S : Nat → Prop) (x : NV) (h : Hd) (w : World) (hx : HdIs S w x h) (hl : hdl h ≤ 90000) (hS : ∀ x, S x → x < w.heap.size) :
    Calls Tryd.prog 71 #[.agg (ncell x).toArray] w fun e w' => e = .returned (.bool (soundH h (decide (0 < x.kids.2.1)))) ∧ Below w.heap.size w w' := by
  have hfu := full_of hx x.kids.2.1
  obtain ⟨W0, hW0⟩ : ∃ W, W = w.alloc (.cells (ncell x).toArray 39) := ⟨_, rfl⟩
  have b0 : Below w.heap.size w W0 := by rw [hW0]; exact below_lit w _
  have k0 : Blk W0 w.heap.size 39 (ncell x) := by rw [hW0]; exact heap_alloc_new w _
  have HO := Lib.hid (pown_any x W0)
  obtain ⟨y, hy⟩ : ∃ y, ownV x = y := ⟨_, rfl⟩
  have hyk : y.kids = if mayK x.kind then x.kids else nilP := by rw [← hy]; rfl
  have hxo : HdIs S w y (ownP h) := hy ▸ hx.own
  rw [hy] at HO
  have hlo : hdl (ownP h) ≤ 90000 := by
    have da : hdl h = 3 + h.text.length + h.grid.cols.length + (h.rows.length + lens h.rows) + trls h.grid.rows := rfl
    have db : hdl (ownP h) = 3 + (ownP h).text.length + (ownP h).grid.cols.length + ((ownP h).rows.length + lens (ownP h).rows) + trls (ownP h).grid.rows := rfl
    rw [db]
    unfold ownP
    simp only
    split <;> split <;> split <;> simp_all [noGrid, lens, trls] <;> omega
  have hxl := hx.line
  have hxn := hx.n
  have hxk := hx.kind
  obtain ⟨fu, hfu'⟩ : ∃ f, fullB h (decide (0 < x.kids.2.1)) = f := ⟨_, rfl⟩
  obtain ⟨al, hal⟩ : ∃ f, decide (h = ownP h) = f := ⟨_, rfl⟩
  obtain ⟨rt, hrt⟩ : ∃ f, rightT h.grid = f := ⟨_, rfl⟩
  obtain ⟨bl, hbl⟩ : ∃ f, (decide (0 ≤ h.line) && decide (h.line ≤ 1099511627775)) = f := ⟨_, rfl⟩
  obtain ⟨bn, hbn⟩ : ∃ f, (decide (0 ≤ h.n) && decide (h.n ≤ 200)) = f := ⟨_, rfl⟩
  obtain ⟨sq, hsq⟩ : ∃ f, sqd h.text = f := ⟨_, rfl⟩
  unfold soundH
  rw [hfu', hal, hrt, hbl, hbn, hsq]
  have da : hdl h = 3 + h.text.length + h.grid.cols.length + (h.rows.length + lens h.rows) + trls h.grid.rows := rfl
  have HLK : Hid (∀ W, Below w.heap.size w W → Calls Tryd.prog 84 #[.agg (ncell x).toArray] W fun e w' => e = .returned (.bool (!fu)) ∧ Below W.heap.size W w') := Lib.hid (fun W hb => by
    rw [← hfu', ← hfu]
    exact placks_any x W)
  have HAL : Hid (∀ W, Below w.heap.size w W → Calls Tryd.prog 58 #[.agg (ncell x).toArray, .agg (ncell y).toArray] W fun e w' => e = .returned (.bool al) ∧ Below W.heap.size W w') := Lib.hid (fun W hb => by
    rw [← hal]
    exact palike_any _ _ x y h (ownP h) W (hx.keep (Kp.below hb hS)) (hxo.keep (Kp.below hb hS)) hl hlo (fun b q => Nat.lt_of_lt_of_le (hS b q) hb.size) (fun b q => Nat.lt_of_lt_of_le (hS b q) hb.size))
  have HRT : Hid (∀ W, Below w.heap.size w W → Calls Tryd.prog 19 #[.agg #[.string ⟨x.cols.toArray⟩, pv x.trows, .bool x.box, .bool x.all]] W fun e w' => e = .returned (.bool rt) ∧ Below W.heap.size W w') := Lib.hid (fun W hb => by
    rw [← hrt, hx.cols, hx.box, hx.all]
    exact pright_any _ h.grid x.trows W ((hx.keep (Kp.below hb hS)).trows) (by omega) (by omega) (fun b q => Nat.lt_of_lt_of_le (hS b q) hb.size))
  have HSQ : Hid (∀ W, Below w.heap.size w W → Calls Tryd.prog 45 #[pv x.text] W fun e w' => e = .returned (.bool sq) ∧ Below W.heap.size W w') := Lib.hid (fun W hb => by
    rw [← hsq]
    exact psqueezed_any h.text (pv x.text) W ((hx.keep (Kp.below hb hS)).text.1) (by omega))
  have HWL : Hid (∀ W, Calls Tryd.prog 86 #[.int .i64 x.line, .int .i64 1099511627775] W fun e w' => e = .returned (.bool bl) ∧ W = w') := Lib.hid (fun W => by
    rw [← hbl, hxl]
    exact pwithin_any _ _ W)
  have HWN : Hid (∀ W, Calls Tryd.prog 86 #[.int .i64 x.n, .int .i64 200] W fun e w' => e = .returned (.bool bn) ∧ W = w') := Lib.hid (fun W => by
    rw [← hbn, hxn]
    exact pwithin_any _ _ W)
  rw [← hxk]
  clear hxl hxn hxk hfu hfu' hal hrt hbl hbn hsq da hx hxo hl hlo hy hS
  obtain ⟨k, xl, xn, ⟨t1, t2, t3⟩, ⟨k1, k2, k3⟩, ⟨r1, r2, r3⟩, xc, ⟨q1, q2, q3⟩, xb, xa⟩ := x
  obtain ⟨yk, yl, yn, ⟨a1, a2, a3⟩, ⟨c1, c2, c3⟩, ⟨d1, d2, d3⟩, yc, ⟨p1, p2, p3⟩, yb, ya⟩ := y
  simp only [ncell, pv] at hyk HLK HAL HRT HSQ HWL HWN HO hW0 k0 ⊢
  have hc2 : c2 = if mayK k = true then k2 else 0 := by
    have := congrArg (fun z : PV => z.2.1) hyk
    simp only at this
    rw [this]
    split <;> rfl
  obtain ⟨mk, hmk⟩ : ∃ m, mayK k = m := ⟨_, rfl⟩
  rw [hmk] at hc2 ⊢
  have hne : ((k2 : Int) != (c2 : Int)) = !(!decide (0 < k2) || mk) := by
    rw [hc2]
    cases mk
    · by_cases h0 : 0 < k2
      · have h1 : ((k2 : Int) != ((if (false : Bool) = true then k2 else 0 : Nat) : Int)) = true := by simp; omega
        rw [h1, decide_eq_true h0]
        rfl
      · have h1 : k2 = 0 := by omega
        subst h1
        rfl
    · simp
  obtain ⟨ks, hks⟩ : ∃ b, (!decide (0 < k2) || mk) = b := ⟨_, rfl⟩
  rw [hks] at hne ⊢
  have HNE := Lib.hid hne
  obtain ⟨gg, hgg⟩ : ∃ g, (if k = 7 then rt else true) = g := ⟨_, rfl⟩
  rw [hgg]
  have HW0 := Lib.hid hW0
  have B0 := Lib.hid b0
  have u0 := k0.cell 0
  have u1 := k0.cell 1
  have u2 := k0.cell 2
  have u3 := k0.cell 3
  have u4 := k0.cell 4
  have u5 := k0.cell 5
  have u6 := k0.cell 6
  have u7 := k0.cell 7
  have u8 := k0.cell 8
  have u9 := k0.cell 9
  have HK0 := Lib.hid k0
  simp only [List.getElem?_cons_zero, List.getElem?_cons_succ] at u0 u1 u2 u3 u4 u5 u6 u7 u8 u9
  clear hyk hc2 hmk hks hne hW0 b0 k0
  go_enter Tryd.func71, Tryd.ntmps71
  go_upto_region 2 with fail
  rw [← HW0.out]
  go_wp2_with fail
  refine HO.out.mono ?_
  rintro e w6 ⟨rfl, b6⟩
  obtain ⟨X, hX⟩ : ∃ X, X = w6.alloc (.cells #[.int .i64 yk, .int .i64 yl, .int .i64 yn, .slice a1 a2 a3, .slice c1 c2 c3, .slice d1 d2 d3, .string ⟨yc.toArray⟩, .slice p1 p2 p3, .bool yb, .bool ya] 39) := ⟨_, rfl⟩
  have bX : Below W0.heap.size W0 X := by rw [hX]; exact b6.alloc b6.size _
  have kX : Blk X w.heap.size 39 [.int .i64 k, .int .i64 xl, .int .i64 xn, .slice t1 t2 t3, .slice k1 k2 k3, .slice r1 r2 r3, .string ⟨xc.toArray⟩, .slice q1 q2 q3, .bool xb, .bool xa] := HK0.out.below bX
  have kY : Blk X w6.heap.size 39 [.int .i64 yk, .int .i64 yl, .int .i64 yn, .slice a1 a2 a3, .slice c1 c2 c3, .slice d1 d2 d3, .string ⟨yc.toArray⟩, .slice p1 p2 p3, .bool yb, .bool ya] := by rw [hX]; exact heap_alloc_new w6 _
  have HCB : Hid (∀ W, Below X.heap.size X W → (W.cell? ⟨w.heap.size, 0, none⟩ = some (.int .i64 k) ∧ W.cell? ⟨w.heap.size, 1, none⟩ = some (.int .i64 xl) ∧ W.cell? ⟨w.heap.size, 2, none⟩ = some (.int .i64 xn) ∧ W.cell? ⟨w.heap.size, 3, none⟩ = some (.slice t1 t2 t3) ∧ W.cell? ⟨w.heap.size, 4, none⟩ = some (.slice k1 k2 k3) ∧ W.cell? ⟨w.heap.size, 5, none⟩ = some (.slice r1 r2 r3) ∧ W.cell? ⟨w.heap.size, 6, none⟩ = some (.string ⟨xc.toArray⟩) ∧ W.cell? ⟨w.heap.size, 7, none⟩ = some (.slice q1 q2 q3) ∧ W.cell? ⟨w.heap.size, 8, none⟩ = some (.bool xb) ∧ W.cell? ⟨w.heap.size, 9, none⟩ = some (.bool xa)) ∧ W.cell? ⟨w6.heap.size, 0, none⟩ = some (.int .i64 yk) ∧ W.cell? ⟨w6.heap.size, 1, none⟩ = some (.int .i64 yl) ∧ W.cell? ⟨w6.heap.size, 2, none⟩ = some (.int .i64 yn) ∧ W.cell? ⟨w6.heap.size, 3, none⟩ = some (.slice a1 a2 a3) ∧ W.cell? ⟨w6.heap.size, 4, none⟩ = some (.slice c1 c2 c3) ∧ W.cell? ⟨w6.heap.size, 5, none⟩ = some (.slice d1 d2 d3) ∧ W.cell? ⟨w6.heap.size, 6, none⟩ = some (.string ⟨yc.toArray⟩) ∧ W.cell? ⟨w6.heap.size, 7, none⟩ = some (.slice p1 p2 p3) ∧ W.cell? ⟨w6.heap.size, 8, none⟩ = some (.bool yb) ∧ W.cell? ⟨w6.heap.size, 9, none⟩ = some (.bool ya)) := Lib.hid (fun W hb => by
    have e1 := kX.below hb
    have e2 := kY.below hb
    exact ⟨⟨e1.cell 0, e1.cell 1, e1.cell 2, e1.cell 3, e1.cell 4, e1.cell 5, e1.cell 6, e1.cell 7, e1.cell 8, e1.cell 9⟩, e2.cell 0, e2.cell 1, e2.cell 2, e2.cell 3, e2.cell 4, e2.cell 5, e2.cell 6, e2.cell 7, e2.cell 8, e2.cell 9⟩)
  have HXW := Lib.hid hX
  have BX : Hid (Below w.heap.size w X) := Lib.hid (B0.out.trans (bX.mono B0.out.size))
  have HBB : Hid (∀ W, Below X.heap.size X W → Below w.heap.size w W) := Lib.hid (fun W hb => BX.out.trans (hb.mono BX.out.size))
  clear u0 u1 u2 u3 u4 u5 u6 u7 u8 u9 hX bX kX kY HK0 b6
  obtain ⟨⟨u0, u1, u2, u3, u4, u5, u6, u7, u8, u9⟩, v0, v1, v2, v3, v4, v5, v6, v7, v8, v9⟩ := HCB.out X (Below.refl _ _)
  have D6 : Hid (Below X.heap.size X X) := Lib.hid (Below.refl _ X)
  go_upto_region 3 with fail
  rw [← HXW.out]
  clear HXW
  go_wp2_with fail
  refine (HLK.out _ (HBB.out _ D6.out)).mono ?_
  rintro e w7 ⟨rfl, b7⟩
  have D7 : Hid (Below X.heap.size X w7) := Lib.hid (D6.out.trans (b7.mono D6.out.size))
  clear b7 u0 v0 u1 v1 u2 v2 u3 v3 u4 v4 u5 v5 u6 v6 u7 v7 u8 v8 u9 v9
  obtain ⟨⟨u0, u1, u2, u3, u4, u5, u6, u7, u8, u9⟩, v0, v1, v2, v3, v4, v5, v6, v7, v8, v9⟩ := HCB.out w7 D7.out
  cases fu with
  | false =>
    go_wp2_with fail
    all_goals
      go_ret
      exact ⟨rfl, HBB.out _ D7.out⟩
  | true =>
    go_wp2_with fail
    refine (HAL.out _ (HBB.out _ D7.out)).mono ?_
    rintro e w8 ⟨rfl, b7⟩
    have D8 : Hid (Below X.heap.size X w8) := Lib.hid (D7.out.trans (b7.mono D7.out.size))
    clear b7 u0 v0 u1 v1 u2 v2 u3 v3 u4 v4 u5 v5 u6 v6 u7 v7 u8 v8 u9 v9
    obtain ⟨⟨u0, u1, u2, u3, u4, u5, u6, u7, u8, u9⟩, v0, v1, v2, v3, v4, v5, v6, v7, v8, v9⟩ := HCB.out w8 D8.out
    cases al with
    | false =>
      go_wp2_with fail
      all_goals
        go_ret
        exact ⟨rfl, HBB.out _ D8.out⟩
    | true =>
      have hne := HNE.out
      cases ks with
      | false =>
        simp only [Bool.not_false] at hne
        go_wp2_with fail
        all_goals
          go_ret
          exact ⟨rfl, HBB.out _ D8.out⟩
      | true =>
        simp only [Bool.not_true] at hne
        by_cases h7 : k = 7
        · subst h7
          rw [if_pos rfl] at hgg
          subst hgg
          go_wp2_with fail
          refine (HRT.out _ (HBB.out _ D8.out)).mono ?_
          rintro e w9a ⟨rfl, b7⟩
          have D9 : Hid (Below X.heap.size X w9a) := Lib.hid (D8.out.trans (b7.mono D8.out.size))
          clear b7 u0 v0 u1 v1 u2 v2 u3 v3 u4 v4 u5 v5 u6 v6 u7 v7 u8 v8 u9 v9
          obtain ⟨⟨u0, u1, u2, u3, u4, u5, u6, u7, u8, u9⟩, v0, v1, v2, v3, v4, v5, v6, v7, v8, v9⟩ := HCB.out w9a D9.out
          cases rt with
          | false =>
            go_wp2_with fail
            all_goals
              go_ret
              exact ⟨rfl, HBB.out _ D9.out⟩
          | true =>
            go_wp2_with fail
            refine (HWL.out _).mono ?_
            rintro e w9 ⟨rfl, rfl⟩
            cases bl with
            | false =>
              go_wp2_with fail
              all_goals
                go_ret
                exact ⟨rfl, HBB.out _ D9.out⟩
            | true =>
              go_wp2_with fail
              refine (HWN.out _).mono ?_
              rintro e w9 ⟨rfl, rfl⟩
              cases bn with
              | false =>
                go_wp2_with fail
                all_goals
                  go_ret
                  exact ⟨rfl, HBB.out _ D9.out⟩
              | true =>
                go_wp2_with fail
                refine (HSQ.out _ (HBB.out _ D9.out)).mono ?_
                rintro e w10 ⟨rfl, b7⟩
                have DZ : Hid (Below X.heap.size X w10) := Lib.hid (D9.out.trans (b7.mono D9.out.size))
                clear b7
                go_wp2_with fail
                all_goals
                  go_ret
                  exact ⟨rfl, HBB.out _ DZ.out⟩
        · rw [if_neg h7] at hgg
          subst hgg
          have e7 : (k == 7) = false := beq_eq_false_iff_ne.2 h7
          have e8 : decide (k = 7) = false := decide_eq_false h7
          go_wp2_with fail
          refine (HWL.out _).mono ?_
          rintro e w9 ⟨rfl, rfl⟩
          cases bl with
          | false =>
            go_wp2_with fail
            all_goals
              go_ret
              exact ⟨rfl, HBB.out _ D8.out⟩
          | true =>
            go_wp2_with fail
            refine (HWN.out _).mono ?_
            rintro e w9 ⟨rfl, rfl⟩
            cases bn with
            | false =>
              go_wp2_with fail
              all_goals
                go_ret
                exact ⟨rfl, HBB.out _ D8.out⟩
            | true =>
              go_wp2_with fail
              refine (HSQ.out _ (HBB.out _ D8.out)).mono ?_
              rintro e w10 ⟨rfl, b7⟩
              have DZ : Hid (Below X.heap.size X w10) := Lib.hid (D8.out.trans (b7.mono D8.out.size))
              clear b7
              go_wp2_with fail
              all_goals
                go_ret
                exact ⟨rfl, HBB.out _ DZ.out⟩
end Go.Proofs.YtienjlbpaedbjaaDoor
