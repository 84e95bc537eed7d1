/- The document's Sorted. -/
import Derived.Test.YtalopkplpbdgjaaDoorSg
namespace Go.Proofs.YtalopkplpbdgjaaDoor
open Go.RowKit Go.Shelf Go.Extern.Stop Go.Stop Go.Extern

attribute [local go_sem ↓ high] builtin_app30 slice_frontD slice_backD

theorem take_one {ds : List D} {j : Nat} {x : D} (h : ds[j]? = some x) : ds.take (j + 1) = ds.take j ++ [x] := by rw [List.take_add_one, h]; rfl

set_option maxRecDepth 100000 in
set_option maxHeartbeats 4000000 in
theorem refsorted_any (ds : List D) (v : Value) (w : World) (hv : SDiag w v ds) (hn : ds.length ≤ 1000) :
    Calls Tryd.prog 18 #[v] w fun e w' => ∃ u es, e = .returned u ∧ OwnD w.heap.size w' u es ∧ es.Perm ds ∧ So es 0 es.length ∧ Below w.heap.size w w' := by
  have HV := Lib.hid hv
  obtain ⟨a0, cap0, rfl⟩ := sd_len hv
  clear hv
  go_enter Tryd.func18, Tryd.ntmps18
  go_wp2_with fail
  go_loopw [3, 4] (fun u i wr => ∃ (j : Nat) (es : List D), j ≤ ds.length ∧ i = .int .i64 j ∧ es.length = j ∧ OwnD w.heap.size wr u es ∧ es.Perm (ds.take j) ∧ So es 0 es.length ∧ Below w.heap.size w wr) (fun _ i _ => ds.length - (intOf i).toNat)
  case atStart => exact ⟨0, [], Nat.zero_le _, rfl, rfl, OwnD.nil _ _, by simp, fun p q h1 h2 h3 => absurd h3 (Nat.not_lt_zero _), Below.refl _ _⟩
  case round =>
    obtain ⟨j, es, hj, rfl, hel, ho, hp, hs, hb⟩ := hrel
    have HO := Lib.hid ho
    have HP := Lib.hid hp
    have HS := Lib.hid hs
    have HB := Lib.hid hb
    have hbs := hb.size
    obtain ⟨a1, cap1, rfl⟩ := sd_len ho.sd
    clear ho hp hs hb
    rw [hel] at HO ⊢
    have HEL := Lib.hid hel
    by_cases hlt : j < ds.length
    · have g1 : (j : Int) < (ds.length : Int) := by omega
      have g0 : (0 : Int) ≤ (j : Int) := by omega
      obtain ⟨⟨xk, xl, xc⟩, hx⟩ : ∃ x, ds[j]? = some x := ⟨ds[j], List.getElem?_eq_getElem hlt⟩
      obtain ⟨a0', cap0', e0, hcx⟩ := HV.out
      cases e0
      obtain ⟨g, off, rfl, c0, c1, c2⟩ := hcx j _ hx
      clear hcx
      have hgs := World.block_lt_of_cell? w _ c0
      simp only at hgs c0 c1 c2
      have CX : Hid (∀ W' : World, Below w.heap.size w W' → W'.cell? ⟨g, off + j * 3, none⟩ = some (.int .i64 xk) ∧ W'.cell? ⟨g, off + j * 3 + 1, none⟩ = some (.int .i64 xl) ∧ W'.cell? ⟨g, off + j * 3 + 2, none⟩ = some (.int .i64 xc)) := fun W' hb' =>
        ⟨(hb'.cell (p := ⟨g, off + j * 3, none⟩) hgs).trans c0, (hb'.cell (p := ⟨g, off + j * 3 + 1, none⟩) hgs).trans c1, (hb'.cell (p := ⟨g, off + j * 3 + 2, none⟩) hgs).trans c2⟩
      have HT := Lib.hid (take_one hx)
      clear c0 c1 c2 hx hgs
      obtain ⟨wq, hwq⟩ : ∃ wq : World, wq = wr := ⟨wr, rfl⟩
      subst hwq
      go_wp2_with fail
      go_loopw [5] (fun vk wr => ∃ k : Nat, vk = .int .i64 k ∧ k ≤ j ∧ (∀ p, k ≤ p → p < j → cmpD (xk, xl, xc) (at' es p) < 0) ∧ Below wq.heap.size wq wr) (fun vk _ => (intOf vk).toNat)
      case atStart => exact ⟨j, rfl, Nat.le_refl _, fun p h1 h2 => by omega, Below.refl _ _⟩
      case round =>
        obtain ⟨k, rfl, hk, hhi, hbl⟩ := hrel
        have HHI := Lib.hid hhi
        have HBL := Lib.hid hbl
        clear hhi hbl
        by_cases hk0 : 0 < k
        · have k1 : (0 : Int) < (k : Int) := by omega
          obtain ⟨q, hq⟩ : ∃ q : Nat, q + 1 = k := ⟨k - 1, by omega⟩
          have hqz : (k : Int) - 1 = (q : Int) := by omega
          have hqe : q < es.length := by omega
          obtain ⟨⟨yk, yl, yc⟩, ey⟩ : ∃ y, at' es q = y := ⟨_, rfl⟩
          have hy := at_some hqe
          rw [ey] at hy
          obtain ⟨a1', cap1', e1, hcy⟩ := HO.out.sd
          obtain ⟨rfl, -, rfl⟩ : a1 = a1' ∧ j = es.length ∧ cap1 = cap1' := by simpa using e1
          clear e1
          obtain ⟨g2, off2, rfl, d0, d1, d2⟩ := hcy q _ hy
          clear hcy
          have hgs2 := World.block_lt_of_cell? wq _ d0
          simp only at hgs2 d0 d1 d2
          have SK : Hid (∀ W' : World, Below wr.heap.size wr W' → W'.cell? ⟨g, off + j * 3, none⟩ = some (.int .i64 xk) ∧ W'.cell? ⟨g, off + j * 3 + 1, none⟩ = some (.int .i64 xl) ∧ W'.cell? ⟨g, off + j * 3 + 2, none⟩ = some (.int .i64 xc) ∧ W'.cell? ⟨g2, off2 + q * 3, none⟩ = some (.int .i64 yk) ∧ W'.cell? ⟨g2, off2 + q * 3 + 1, none⟩ = some (.int .i64 yl) ∧ W'.cell? ⟨g2, off2 + q * 3 + 2, none⟩ = some (.int .i64 yc)) := fun W' hb' => by
            have b1 : Below wq.heap.size wq W' := HBL.out.trans (hb'.mono HBL.out.size)
            have b2 : Below w.heap.size w W' := HB.out.trans (b1.mono hbs)
            obtain ⟨c0, c1, c2⟩ := CX.out W' b2
            exact ⟨c0, c1, c2, (b1.cell (p := ⟨g2, off2 + q * 3, none⟩) hgs2).trans d0, (b1.cell (p := ⟨g2, off2 + q * 3 + 1, none⟩) hgs2).trans d1, (b1.cell (p := ⟨g2, off2 + q * 3 + 2, none⟩) hgs2).trans d2⟩
          have hO := fun W => less_any (xk, xl, xc) (yk, yl, yc) W
          simp only at hO
          have HL := Lib.hid hO
          obtain ⟨CC, hCC⟩ : ∃ CC, cmpD (xk, xl, xc) (yk, yl, yc) = CC := ⟨_, rfl⟩
          rw [hCC] at HL
          have hG := Lib.hid (fun (h : CC < 0) => show ∀ p, q ≤ p → p < j → cmpD (xk, xl, xc) (at' es p) < 0 from fun p e1 e2 => by
            by_cases e : p = q
            · rw [e, ey, hCC]; exact h
            · exact HHI.out p (by omega) e2)
          have hN := Lib.hid (fun (h : ¬ CC < 0) => show ¬ cmpD (xk, xl, xc) (at' es q) < 0 from by rw [ey, hCC]; exact h)
          have hwj : IntKind.i64.wrap (j : Int) = (j : Int) := by simp [IntKind.wrap, IntKind.bits, IntKind.signed]; omega
          have hwq : IntKind.i64.wrap (q : Int) = (q : Int) := by simp [IntKind.wrap, IntKind.bits, IntKind.signed]; omega
          have q1 : (q : Int) < (j : Int) := by omega
          have q0 : (0 : Int) ≤ (q : Int) := by omega
          have HQ := Lib.hid hq
          clear hy ey hCC hO d0 d1 d2 hq
          by_cases hcc : CC < 0
          · have hccb : decide (CC < 0) = true := decide_eq_true hcc
            go_wp2_with fail
            go_region_held3 (fun W' => W'.cell? ⟨g, off + j * 3, none⟩ = some (.int .i64 xk) ∧ W'.cell? ⟨g, off + j * 3 + 1, none⟩ = some (.int .i64 xl) ∧ W'.cell? ⟨g, off + j * 3 + 2, none⟩ = some (.int .i64 xc) ∧ W'.cell? ⟨g2, off2 + q * 3, none⟩ = some (.int .i64 yk) ∧ W'.cell? ⟨g2, off2 + q * 3 + 1, none⟩ = some (.int .i64 yl) ∧ W'.cell? ⟨g2, off2 + q * 3 + 2, none⟩ = some (.int .i64 yc))
              (first | assumption | exact SK.out _ (Below.refl _ wr).drew | exact SK.out _ B5.out)
              ((first
                | (go_at_call 35; (with_reducible refine (HL.out _).mono ?_); rintro e w5 ⟨rfl, b5⟩; have B5 : Hid (Below wr.heap.size wr w5) := Lib.hid ((Below.refl _ wr).drew.trans b5); clear b5)))
            have HB5 := Lib.hid (HBL.out.trans (B5.out.mono HBL.out.size))
            go_wp2_with fail
            go_roundw
            case rel => exact ⟨q, rfl, by have := HQ.out; omega, hG.out hcc, HB5.out⟩
            case measure => have := HQ.out; simp [intOf]; omega
          · have hccb : decide (CC < 0) = false := decide_eq_false hcc
            go_wp2_with fail
            go_region_held3 (fun W' => W'.cell? ⟨g, off + j * 3, none⟩ = some (.int .i64 xk) ∧ W'.cell? ⟨g, off + j * 3 + 1, none⟩ = some (.int .i64 xl) ∧ W'.cell? ⟨g, off + j * 3 + 2, none⟩ = some (.int .i64 xc) ∧ W'.cell? ⟨g2, off2 + q * 3, none⟩ = some (.int .i64 yk) ∧ W'.cell? ⟨g2, off2 + q * 3 + 1, none⟩ = some (.int .i64 yl) ∧ W'.cell? ⟨g2, off2 + q * 3 + 2, none⟩ = some (.int .i64 yc))
              (first | assumption | exact SK.out _ (Below.refl _ wr).drew | exact SK.out _ B5.out)
              ((first
                | (go_at_call 35; (with_reducible refine (HL.out _).mono ?_); rintro e w5 ⟨rfl, b5⟩; have B5 : Hid (Below wr.heap.size wr w5) := Lib.hid ((Below.refl _ wr).drew.trans b5); clear b5)))
            have hb5 := HBL.out.trans (B5.out.mono HBL.out.size)
            have ho5 := HO.out.below hb5
            obtain ⟨u1, x1, w1, x2, w2, u2, x3, w3, f1, k1', b1, k2', f2, k3', o3, b3⟩ := ins_round k (xk, xl, xc) ho5 (by omega) (by omega)
            simp only at k2'
            have hb6 : Below w.heap.size w w5 := HB.out.trans (hb5.mono hbs)
            obtain ⟨c0, c1, c2⟩ := CX.out w1 (hb6.trans (b1.mono hb6.size))
            have O3 := Lib.hid (o3.le hb6.size)
            have B3 := Lib.hid (hb6.trans (b3.mono hb6.size))
            have S3 := Lib.hid (so_insD (x := (xk, xl, xc)) (by omega) HS.out (.inr ⟨q, HQ.out, Int.not_lt.2 (hN.out hcc)⟩) (fun p e1 e2 => HHI.out p e1 (by omega)))
            have P3 := Lib.hid (show (insD es k (xk, xl, xc)).Perm (ds.take (j + 1)) from by rw [HT.out]; exact (insD_perm es k _).trans (HP.out.append_right _))
            have L3 := Lib.hid (show (insD es k (xk, xl, xc)).length = j + 1 from by rw [insD_length _ _ _ (by omega), hel])
            clear hb5 ho5 b1 o3 b3 hb6
            go_wp2_with fail
            go_roundw
            case rel => exact ⟨j + 1, _, by omega, by go_num, L3.out, O3.out, P3.out, S3.out, B3.out⟩
            case measure => simp [intOf]; omega
        · have hkz : k = 0 := by omega
          have k0 : decide ((0 : Int) < (k : Int)) = false := decide_eq_false (by omega)
          obtain ⟨N0, hN0⟩ : ∃ N, N = (0 : Nat) := ⟨0, rfl⟩
          have HK := Lib.hid hkz
          clear hkz hN0
          go_wp2_with fail
          go_quiet (fail)
          obtain ⟨w5, hw5⟩ : ∃ w5, wr.drewN nq = w5 := ⟨_, rfl⟩
          have hb5 : Below wq.heap.size wq w5 := by rw [← hw5]; exact below_drewN HBL.out _
          rw [hw5]
          clear hw5
          have ho5 := HO.out.below hb5
          obtain ⟨u1, x1, w1, x2, w2, u2, x3, w3, f1, k1', b1, k2', f2, k3', o3, b3⟩ := ins_round k (xk, xl, xc) ho5 (by omega) (by omega)
          simp only at k2'
          have hb6 : Below w.heap.size w w5 := HB.out.trans (hb5.mono hbs)
          obtain ⟨c0, c1, c2⟩ := CX.out w1 (hb6.trans (b1.mono hb6.size))
          have O3 := Lib.hid (o3.le hb6.size)
          have B3 := Lib.hid (hb6.trans (b3.mono hb6.size))
          have S3 := Lib.hid (so_insD (x := (xk, xl, xc)) (by omega) HS.out (.inl HK.out) (fun p e1 e2 => HHI.out p e1 (by omega)))
          have P3 := Lib.hid (show (insD es k (xk, xl, xc)).Perm (ds.take (j + 1)) from by rw [HT.out]; exact (insD_perm es k _).trans (HP.out.append_right _))
          have L3 := Lib.hid (show (insD es k (xk, xl, xc)).length = j + 1 from by rw [insD_length _ _ _ (by omega), hel])
          clear hb5 ho5 b1 o3 b3 hb6
          go_wp2_with fail
          go_roundw
          case rel => exact ⟨j + 1, _, by omega, by go_num, L3.out, O3.out, P3.out, S3.out, B3.out⟩
          case measure => simp [intOf]; omega
    · obtain rfl : j = ds.length := by omega
      have HPP := Lib.hid (show es.Perm ds from by have := HP.out; rwa [List.take_length] at this)
      go_wp2_with fail
      go_ret
      exact ⟨_, es, rfl, HO.out, HPP.out, HS.out, HB.out⟩
end Go.Proofs.YtalopkplpbdgjaaDoor
