/- The law DiagSorts returns true at every input. -/
import Derived.Test.YtalopkplpbdgjaaDoorSh
import Derived.Test.YtalopkplpbdgjaaDoorL2
namespace Go.Proofs.YtalopkplpbdgjaaDoor
open Go.RowKit Go.Shelf Go.Extern.Stop Go.Stop Go.Extern

set_option maxRecDepth 1000000 in
set_option maxHeartbeats 4000000 in
theorem sorts_any (v : Value) (ds : List D) (w : World) (h0 : SDiag w v ds) (hE : ErrType w) :
    Calls Tryd.prog 4 #[v] w fun e W' => e = .returned (.bool true) ∧ Below w.heap.size w W' := by
  have HE := Lib.hid hE
  clear hE
  have H0 := Lib.hid h0
  obtain ⟨a0, cap0, rfl⟩ := sd_len h0
  clear h0
  by_cases h40 : 40 < ds.length
  · have h40' : (40 : Int) < (ds.length : Int) := by omega
    go_enter Tryd.func4, Tryd.ntmps4
    go_wp2_with fail
    refine (known_any _ HE.out).mono ?_
    rintro e w1 ⟨rfl, b1⟩
    go_wp2_with fail
    go_ret
    exact ⟨rfl, b1⟩
  · have h40' : ¬ ((40 : Int) < (ds.length : Int)) := by omega
    have hle : ds.length ≤ 40 := by omega
    go_enter Tryd.func4, Tryd.ntmps4
    go_wp2_with fail
    refine (sorted_any ds _ w H0.out (by omega)).mono ?_
    rintro e w1 ⟨u, es, rfl, o1, p1, s1, b1⟩
    have O1 := Lib.hid o1
    have P1 := Lib.hid p1
    have S1 := Lib.hid s1
    have B1 := Lib.hid b1
    clear o1 p1 s1 b1
    go_wp2_with fail
    refine (refsorted_any ds _ w1 (H0.out.below B1.out) (by omega)).mono ?_
    rintro e w2 ⟨u2, es2, rfl, o2, p2, s2, b2⟩
    obtain rfl : es2 = es := so_unique (p2.trans P1.out.symm) S1.out s2
    have hl2 : es2.length ≤ 40 := by rw [P1.out.length_eq]; exact hle
    have A2 := Lib.hid (O1.out.sd.below b2)
    have D2 := Lib.hid o2.sd
    have B2 := Lib.hid (B1.out.trans (b2.mono B1.out.size))
    clear o2 p2 s2 b2 O1
    go_wp2_with fail
    refine (same_true u u2 es2 w2 (by omega) A2.out D2.out).mono ?_
    rintro e w3 ⟨rfl, b3⟩
    have A3 := Lib.hid (A2.out.below b3)
    have B3 := Lib.hid (B2.out.trans (b3.mono B2.out.size))
    clear b3 A2 D2
    go_wp2_with fail
    refine (sorted_any es2 u w3 A3.out (by omega)).mono ?_
    rintro e w4 ⟨u4, es4, rfl, o4, p4, s4, b4⟩
    obtain rfl : es4 = es2 := so_unique p4 S1.out s4
    have A4 := Lib.hid (A3.out.below b4)
    have D4 := Lib.hid o4.sd
    have B4 := Lib.hid (B3.out.trans (b4.mono B3.out.size))
    clear o4 p4 s4 b4 A3
    go_wp2_with fail
    refine (same_true u4 u es4 w4 (by omega) D4.out A4.out).mono ?_
    rintro e w5 ⟨rfl, b5⟩
    have B5 := Lib.hid (B4.out.trans (b5.mono B4.out.size))
    clear b5 A4 D4
    go_wp2_with fail
    go_loopw [4] (fun vi wr => ∃ j : Nat, j ≤ ds.length ∧ vi = .int .i64 j ∧ Below w.heap.size w wr) (fun vi _ => ds.length - (intOf vi).toNat)
    case atStart => exact ⟨0, Nat.zero_le _, rfl, B5.out⟩
    case round =>
      obtain ⟨j, hj, rfl, hb⟩ := hrel
      have HB := Lib.hid hb
      clear hb
      by_cases hlt : j < ds.length
      · have g1 : (j : Int) < (ds.length : Int) := by omega
        have g0 : (0 : Int) ≤ (j : Int) := by omega
        obtain ⟨⟨k, l, c⟩, hx⟩ : ∃ x, ds[j]? = some x := ⟨ds[j], List.getElem?_eq_getElem hlt⟩
        obtain ⟨a0', cap0', e0, hcx⟩ := H0.out
        cases e0
        obtain ⟨g, off, rfl, c0, c1, c2⟩ := hcx j _ hx
        clear hcx hx
        have hgs := World.block_lt_of_cell? w _ c0
        simp only at hgs c0 c1 c2
        have d0 := (HB.out.cell (p := ⟨g, off + j * 3, none⟩) hgs).trans c0
        have d1 := (HB.out.cell (p := ⟨g, off + j * 3 + 1, none⟩) hgs).trans c1
        have d2 := (HB.out.cell (p := ⟨g, off + j * 3 + 2, none⟩) hgs).trans c2
        have HG := Lib.hid (Nat.lt_of_lt_of_le hgs HB.out.size)
        have hgr : g < wr.heap.size := HG.out
        clear c0 c1 c2 hgs
        go_wp2_with fail
        have BA := Lib.hid (heap_alloc_new wr (.cells #[.int .i64 k, .int .i64 l, .int .i64 c] 29))
        have B0 := Lib.hid ((Below.refl wr.heap.size wr).alloc (Nat.le_refl _) (.cells #[.int .i64 k, .int .i64 l, .int .i64 c] 29))
        refine (tell_eo k l c _).mono ?_
        rintro e w6 ⟨v6, rfl, e6, b6⟩
        have E6 := Lib.hid e6
        have B6 := Lib.hid b6
        clear e6 b6 d0 d1 d2
        go_wp2_with fail
        refine (all_eo E6.out (by decide) (errType_below HE.out (HB.out.trans ((B0.out.trans (B6.out.mono B0.out.size)).mono HB.out.size))) (Nat.le_trans (told_len k l c) (by decide))).mono ?_
        rintro e w7 ⟨u7, rfl, s7, b7⟩
        have B67 := B6.out.trans (b7.mono B6.out.size)
        obtain ⟨q0, q1, q2, _, _, _⟩ := three_below BA.out B67
        have QK : Hid (∀ W' : World, Below w7.heap.size w7 W' → W'.cell? ⟨wr.heap.size, 0, none⟩ = some (.int .i64 k) ∧ W'.cell? ⟨wr.heap.size, 1, none⟩ = some (.int .i64 l) ∧ W'.cell? ⟨wr.heap.size, 2, none⟩ = some (.int .i64 c)) := fun W' hb' => by
          obtain ⟨q0, q1, q2, _, _, _⟩ := three_below BA.out (B67.trans (hb'.mono B67.size))
          exact ⟨q0, q1, q2⟩
        have B7 := Lib.hid (B0.out.trans (B67.mono B0.out.size))
        have S7 := Lib.hid s7
        have hz7 : wr.heap.size < w7.heap.size := by have := B67.size; simp at this; omega
        obtain ⟨a7, cap7, rfl⟩ := sd_len s7
        clear B67 s7 b7 E6
        by_cases hk : k = 0
        · subst hk
          have ht : told 0 l c = [] := by simp [told]
          rw [ht] at S7 ⊢
          simp only [List.length_nil] at S7 ⊢
          go_wp2_with fail
          go_roundw
          case rel => exact ⟨j + 1, by omega, by go_num, HB.out.trans (B7.out.mono HB.out.size)⟩
          case measure => simp [intOf]; omega
        · have hkb : (k == 0) = false := by simpa using hk
          have ht : told k l c = [(k, clip l, clip c)] := by simp [told, hk]
          rw [ht] at S7 ⊢
          simp only [List.length_cons, List.length_nil, Nat.zero_add] at S7 ⊢
          have N1 : Hid (Below w7.heap.size w7 (w7.alloc (.cells #[.int .i64 k, .int .i64 (clip l), .int .i64 (clip c)] 29)).drew) := ((Below.refl _ w7).alloc (Nat.le_refl _) _).drew
          have N2 : Hid ((w7.alloc (.cells #[.int .i64 k, .int .i64 (clip l), .int .i64 (clip c)] 29)).drew.heap[w7.heap.size]? = some (.cells #[.int .i64 k, .int .i64 (clip l), .int .i64 (clip c)] 29 (0, 0))) := heap_alloc_new w7 _
          go_wp2_with fail
          go_region_held3 (fun W' => W'.cell? ⟨wr.heap.size, 0, none⟩ = some (.int .i64 k) ∧ W'.cell? ⟨wr.heap.size, 1, none⟩ = some (.int .i64 l) ∧ W'.cell? ⟨wr.heap.size, 2, none⟩ = some (.int .i64 c))
            (first | assumption | exact QK.out _ B8.out | go_keep)
            ((first
              | (go_at_call 20; (with_reducible refine (refclip_any l _).mono ?_); rintro e w' ⟨rfl, rfl⟩)
              | (go_at_call 20; (with_reducible refine (refclip_any c _).mono ?_); rintro e w' ⟨rfl, rfl⟩)
              | (go_at_call 13; (with_reducible refine (same_true _ _ [(k, clip l, clip c)] _ (by simp) (S7.out.below N1.out) (SDiag.new (d := (k, clip l, clip c)) N2.out)).mono ?_); rintro e w8 ⟨rfl, b8⟩; have B8 : Hid (Below w7.heap.size w7 w8) := Lib.hid (N1.out.trans (b8.mono N1.out.size)); clear b8)))
          go_wp2_with fail
          go_roundw
          case rel => exact ⟨j + 1, by omega, by go_num, HB.out.trans ((B7.out.trans (B8.out.mono B7.out.size)).mono HB.out.size)⟩
          case measure => simp [intOf]; omega
      · obtain rfl : j = ds.length := by omega
        go_wp2_with fail
        refine (known_any _ (errType_below HE.out HB.out)).mono ?_
        rintro e w6 ⟨rfl, b6⟩
        have B6 := Lib.hid (HB.out.trans (b6.mono HB.out.size))
        clear b6
        go_wp2_with fail
        go_ret
        exact ⟨rfl, B6.out⟩
end Go.Proofs.YtalopkplpbdgjaaDoor
