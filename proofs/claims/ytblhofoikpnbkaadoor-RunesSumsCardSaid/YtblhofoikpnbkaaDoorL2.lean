/- The walk of RunesSums. -/
import Derived.Test.YtblhofoikpnbkaaDoorW6
namespace Go.Proofs.YtblhofoikpnbkaaDoor
open Go.RowKit
attribute [local go_sem ↓ high] builtin_app24

/-- What has a width. -/
def wide (l : List Int) : List Int := l.filter fun z => decide (0 < wd z)
theorem sm_wide (l : List Int) : sm (wide l) = sm l := by
  induction l with
  | nil => rfl
  | cons z l ih =>
    have hz := wd_bd z
    have e : sm (z :: l) = wd z + sm l := by simp [sm]
    unfold wide at ih ⊢
    by_cases h : 0 < wd z
    · rw [List.filter_cons_of_pos (by simpa using h)]
      have e2 : sm (z :: l.filter fun z => decide (0 < wd z)) = wd z + sm (l.filter fun z => decide (0 < wd z)) := by simp [sm]
      rw [e2, ih, e]
    · rw [List.filter_cons_of_neg (by simpa using h), ih, e]
      omega
theorem wide_snoc {l : List Int} {j : Nat} {z : Int} (h : l[j]? = some z) : wide (l.take (j + 1)) = wide (l.take j) ++ (if 0 < wd z then [z] else []) := by
  rw [List.take_add_one, h]
  unfold wide
  rw [List.filter_append]
  congr 1
  by_cases hz : 0 < wd z <;> simp [hz]
theorem wide_len (l : List Int) : (wide l).length ≤ l.length := List.length_filter_le _ _

set_option maxRecDepth 100000 in
set_option maxHeartbeats 1000000 in
theorem sums_any (la lb : List Int) (va vb : Value) (w : World) (hT : Tabs w) (ha : Sl .i32 w va la) (hb : Sl .i32 w vb lb) (ma : la.length ≤ maxLen) (mb : lb.length ≤ maxLen) :
    Calls Tryd.prog 8 #[va, vb] w fun e W' => e = .returned (.bool true) ∧ Below w.heap.size w W' := by
  have HK := Lib.hid (known_any w hT)
  unfold maxLen at ma mb
  by_cases h1 : 500 < la.length
  · obtain ⟨a, cap, rfl, -, -⟩ := ha
    obtain ⟨a', cap', rfl, -, -⟩ := hb
    have hz : (500 : Int) < (la.length : Int) := by omega
    clear hT
    go_enter Tryd.func8, Tryd.ntmps8
    go_wp2_with (go_at_call 10; refine HK.out.mono ?_; rintro e w' ⟨rfl, hb⟩)
    go_ret
    exact ⟨rfl, hb⟩
  · by_cases h2 : 500 < lb.length
    · obtain ⟨a, cap, rfl, -, -⟩ := ha
      obtain ⟨a', cap', rfl, -, -⟩ := hb
      have hz : ¬ (500 : Int) < (la.length : Int) := by omega
      have hz2 : (500 : Int) < (lb.length : Int) := by omega
      clear hT
      go_enter Tryd.func8, Tryd.ntmps8
      go_wp2_with (go_at_call 10; refine HK.out.mono ?_; rintro e w' ⟨rfl, hb⟩)
      go_ret
      exact ⟨rfl, hb⟩
    · clear HK
      obtain ⟨x1, w1, k1, o1, g1, -⟩ := app24_own (Own.nil w.heap.size 21 .i32 w) ha (Nat.le_refl _) (by simp; omega)
      have B1 : Below w.heap.size w w1 := (Own.nil w.heap.size 21 .i32 w).below (Below.refl _ _) (Nat.le_refl _) g1
      rw [List.nil_append] at o1
      obtain ⟨x2, w2, k2, o2, g2, -⟩ := app24_own o1 (hb.below B1) B1.size (by omega)
      have B2 : Below w.heap.size w w2 := o1.below B1 B1.size g2
      have hx2 := o2.sl
      have ha2 := ha.below B2
      have hb2 := hb.below B2
      have T2 := hT.below B2
      clear o1 o2 g1 g2 B1 hT
      obtain ⟨L, hL⟩ : ∃ L, la ++ lb = L := ⟨_, rfl⟩
      have hLen : L.length ≤ 1000 := by rw [← hL]; simp; omega
      have hSum : sm L = sm la + sm lb := by rw [← hL]; exact sm_app la lb
      rw [hL] at hx2
      have HLs := Lib.hid hSum
      clear hL hSum
      have hz : ¬ (500 : Int) < (la.length : Int) := by omega
      have hz2 : ¬ (500 : Int) < (lb.length : Int) := by omega
      obtain ⟨aa, ca, hva, -⟩ := id ha
      obtain ⟨ab, cb, hvb, -⟩ := id hb
      obtain ⟨ax, cx, hvx, -, hcx⟩ := id hx2
      subst hva hvb hvx
      have HX := Lib.hid hx2
      have HA := Lib.hid ha2
      have HB := Lib.hid hb2
      have HT := Lib.hid T2
      have HC := Lib.hid hcx
      have H2 := Lib.hid B2
      clear hx2 ha2 hb2 T2 hcx B2 ha hb
      go_enter Tryd.func8, Tryd.ntmps8
      go_wp2_with fail
      go_loopw [6, 7] (fun s i wr => ∃ j : Nat, j ≤ L.length ∧ i = .int .i64 j ∧ Own w2.heap.size 21 .i32 wr s (wide (L.take j)) ∧ Below w2.heap.size w2 wr) (fun _ i _ => L.length - (intOf i).toNat)
      case atStart => exact ⟨0, by omega, rfl, Own.nil _ _ _ _, Below.refl _ _⟩
      case round =>
        obtain ⟨j, hj, rfl, ho, hbw⟩ := hrel
        by_cases hlt : j < L.length
        · obtain ⟨z, hz⟩ : ∃ z, L[j]? = some z := ⟨L[j], List.getElem?_eq_getElem hlt⟩
          obtain ⟨g, off, rfl, h0⟩ := HC.out j z hz
          have hg := World.block_lt_of_cell? w2 _ h0
          have c0 : wr.cell? ⟨g, off + j, none⟩ = some (.int .i32 z) := (hbw.cell hg).trans h0
          have hsn := Lib.hid (wide_snoc hz)
          have hWz := width_any z wr (HT.out.below hbw)
          obtain ⟨Z, hZ⟩ : ∃ Z, wd z = Z := ⟨_, rfl⟩
          rw [hZ] at hWz hsn
          have hwl := wide_len (L.take j)
          rw [List.length_take] at hwl
          have HO := Lib.hid ho
          clear h0 hg hz hZ ho
          have hi0 : (j : Int) < (L.length : Int) := by omega
          have hi1 : (0 : Int) ≤ (j : Int) := by omega
          by_cases hp : 0 < Z
          · have ba : Below wr.heap.size wr (wr.alloc (.cells #[.int .i32 z] 21)) := (Below.refl _ wr).alloc (Nat.le_refl _) _
            have bw := hbw.size
            have oa := HO.out.keep ba
            obtain ⟨s', w3, k3, o3, g3, -⟩ := app24_own oa (sl_lit (k := .i32) wr 21 [z]) (by simp; omega) (by simp; omega)
            have b3 := Lib.hid (oa.below (hbw.trans (ba.mono bw)) (by simp; omega) g3)
            have O3 := Lib.hid o3
            have k3' : (app24 #[u6, .slice (some ⟨wr.heap.size, 0, none⟩) 1 1]).run Tryd.prog (wr.alloc (.cells #[.int .i32 z] 21)) = .ok (.value s') w3 := k3
            clear oa ba o3 g3 k3
            go_wp2_with (go_at_call 21; refine hWz.mono ?_; rintro e w' ⟨rfl, rfl⟩)
            go_roundw
            case rel =>
              refine ⟨j + 1, by omega, by go_num, ?_, b3.out⟩
              rw [hsn.out, if_pos hp]
              exact O3.out
            case measure => simp [intOf]; omega
          · go_wp2_with (go_at_call 21; refine hWz.mono ?_; rintro e w' ⟨rfl, rfl⟩)
            go_roundw
            case rel =>
              refine ⟨j + 1, by omega, by go_num, ?_, hbw⟩
              rw [hsn.out, if_neg (by omega), List.append_nil]
              exact HO.out
            case measure => simp [intOf]; omega
        · obtain rfl : j = L.length := by omega
          rw [List.take_length] at ho
          have Tr := HT.out.below hbw
          have bw := hbw.size
          have b2s := H2.out.size
          have hS := sm_wide L
          have c1 := sum_any L _ wr Tr (HX.out.below hbw) (by omega)
          have c2 := sum_any la _ wr Tr (HA.out.below hbw) (by omega)
          have c3 := sum_any lb _ wr Tr (HB.out.below hbw) (by omega)
          have hwl := wide_len L
          have c4 := sum_any (wide L) _ wr Tr ho.sl (by omega)
          have HK := Lib.hid (known_any wr Tr)
          have s1 := sm_bd L
          have s2 := sm_bd la
          have s3 := sm_bd lb
          have hsum := HLs.out
          rw [hS] at c4
          obtain ⟨S, e1⟩ : ∃ S, sm L = S := ⟨_, rfl⟩
          obtain ⟨A, e2⟩ : ∃ S, sm la = S := ⟨_, rfl⟩
          obtain ⟨B, e3⟩ : ∃ S, sm lb = S := ⟨_, rfl⟩
          rw [e1] at c1 c4 s1 hsum
          rw [e2] at c2 s2 hsum
          rw [e3] at c3 s3 hsum
          clear e1 e2 e3 hS HLs
          subst hsum
          obtain ⟨s21, s22⟩ := s2
          obtain ⟨s31, s32⟩ := s3
          obtain ⟨s11, s12⟩ := s1
          have BF := Lib.hid (H2.out.trans (hbw.mono b2s))
          clear Tr hbw ho bw
          have ta : A ≤ 1000 := by omega
          have tb : B ≤ 1000 := by omega
          have tl : (L.length : Int) ≤ 1000 := by omega
          go_wp2_with (first
            | (go_at_call 26; (with_reducible first | refine c1.mono ?_ | refine c2.mono ?_ | refine c3.mono ?_ | refine c4.mono ?_); rintro e w' ⟨rfl, rfl⟩)
            | (go_at_call 10; refine HK.out.mono ?_; rintro e w' ⟨rfl, hbk⟩))
          go_ret
          exact ⟨rfl, BF.out.trans (hbk.mono BF.out.size)⟩
end Go.Proofs.YtblhofoikpnbkaaDoor
