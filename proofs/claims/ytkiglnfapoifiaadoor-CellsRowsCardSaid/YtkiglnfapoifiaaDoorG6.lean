/- Clean of a row. -/
import Derived.Test.YtkiglnfapoifiaaDoorG5
namespace Go.Proofs.YtkiglnfapoifiaaDoor
open Go.RowKit
attribute [local go_sem ↓ high] builtin_appG

theorem alloc_cell (w : World) (C : Array Value) (t : TypeId) (i : Nat) : (w.alloc (.cells C t)).cell? ⟨w.heap.size, i, none⟩ = C[i]? := World.cell?_alloc_mark ..
theorem setCell_sz (w : World) (a : Addr) (v : Value) : (w.setCell a v).heap.size = w.heap.size := by simp [World.setCell]
set_option maxRecDepth 100000 in
set_option maxHeartbeats 1000000 in
theorem cleang_any (l : List Gly) (v : Value) (w : World) (hT : Tabs w) (hv : Gs w v l) (hok : okG l) (hl : l.length ≤ 100000) :
    Calls Tryd.prog 19 #[v] w fun e w' => ∃ u, e = .returned u ∧ GOwn w.heap.size w' u (cleanL l) ∧ Below w.heap.size w w' := by
  have HV := Lib.hid hv
  obtain ⟨a, cap, rfl, hcap, -⟩ := hv
  have HT := Lib.hid hT
  have HOK := Lib.hid hok
  clear hT hok
  go_enter Tryd.func19, Tryd.ntmps19
  go_wp2_with fail
  go_loopw [3, 8] (fun s i wr => ∃ j : Nat, j ≤ l.length ∧ i = .int .i64 j ∧ GOwn w.heap.size wr s (cleanL (l.take j)) ∧ Below w.heap.size w wr) (fun _ i _ => l.length - (intOf i).toNat)
  case atStart => exact ⟨0, by omega, rfl, FOwn.nil _ _, Below.refl _ _⟩
  case round =>
    obtain ⟨j, hj, rfl, ho, hbw⟩ := hrel
    have HO := Lib.hid ho
    have HB := Lib.hid hbw
    have bw := hbw.size
    have hcl := cleanL_len (l.take j)
    rw [List.length_take] at hcl
    obtain ⟨Q, hQ⟩ : ∃ Q, cleanL (l.take j) = Q := ⟨_, rfl⟩
    rw [hQ] at HO hcl
    by_cases hlt : j < l.length
    · obtain ⟨z, hz⟩ : ∃ z, l[j]? = some z := ⟨l[j], List.getElem?_eq_getElem hlt⟩
      obtain ⟨g, off, rfl, c0, c1, -⟩ := Gs.at (Fs.below HV.out hbw) hz
      have hn := cleanL_take hz
      rw [hQ] at hn
      have hzk := HOK.out z (List.mem_of_getElem? hz)
      have b1 := below_lit wr (.cells #[.int .i32 z.1, .int .u8 z.2] 47)
      have HCl := Lib.hid (clean1_any z hzk (wr.alloc (.cells #[.int .i32 z.1, .int .u8 z.2] 47)))
      obtain ⟨C, hC⟩ : ∃ C, clF z = C := ⟨_, rfl⟩
      rw [hC] at hn HCl
      have HN := Lib.hid hn
      clear hz hn hC hQ ho hbw hzk
      have hi0 : (j : Int) < (l.length : Int) := by omega
      have hi1 : (0 : Int) ≤ (j : Int) := by omega
      go_wp2_with fail
      refine HCl.out.mono ?_
      rintro e w1 ⟨rfl, b2⟩
      have s1 : w1.heap.size > wr.heap.size := by have := b2.size; simp at this; omega
      have q0 : w1.cell? ⟨wr.heap.size, 0, none⟩ = some (.int .i32 z.1) := (b2.cell (p := ⟨wr.heap.size, 0, none⟩) (by simp)).trans (alloc_cell _ _ _ _)
      have q1 : w1.cell? ⟨wr.heap.size, 1, none⟩ = some (.int .u8 z.2) := (b2.cell (p := ⟨wr.heap.size, 1, none⟩) (by simp)).trans (alloc_cell _ _ _ _)
      have f0 : w1.frozen? ⟨wr.heap.size, 0, none⟩ = false := (b2.frozen (p := ⟨wr.heap.size, 0, none⟩) (by simp)).trans (by simp [go_sem])
      have f1 : w1.frozen? ⟨wr.heap.size, 1, none⟩ = false := (b2.frozen (p := ⟨wr.heap.size, 1, none⟩) (by simp)).trans (by simp [go_sem])
      have B1 := Lib.hid (b1.trans (b2.mono (by simp)))
      clear b1 b2 HCl
      have B2 : Hid (Below wr.heap.size wr ((w1.setCell ⟨wr.heap.size, 0, none⟩ (.int .i32 C.1)).setCell ⟨wr.heap.size, 1, none⟩ (.int .u8 C.2))) := Lib.hid ((B1.out.setCell (by simp) _).setCell (by simp) _)
      obtain ⟨ar, cs, rfl⟩ := HO.out.sl gcell_len |>.len
      by_cases hQe : Q = []
      · subst hQe
        simp only [List.length_nil]
        have hW := Lib.hid (width_any C.1 _ (HT.out.below (HB.out.trans (B2.out.mono bw))))
        have hzb := wd_bd C.1
        obtain ⟨Z, hZ⟩ : ∃ Z, wd C.1 = Z := ⟨_, rfl⟩
        rw [hZ] at hW hzb HN
        rw [if_pos rfl] at HN
        obtain ⟨hZ1, hZ2⟩ := hzb
        clear hZ
        by_cases hp : 0 < Z
        · rw [if_pos hp] at HN
          obtain ⟨s', w3, k3, o3, g3, -⟩ := appG_own (Lib.hid ((HO.out.keep B2.out).keep (below_lit _ (.cells #[.int .i32 C.1, .int .u8 C.2] 47)))).out (fs_lit gcell_len ((w1.setCell ⟨wr.heap.size, 0, none⟩ (.int .i32 C.1)).setCell ⟨wr.heap.size, 1, none⟩ (.int .u8 C.2)) 47 [C]) (by simp; omega) (by simp)
          have B3 := Lib.hid (FOwn.below ((HO.out.keep B2.out).keep (below_lit _ (.cells #[.int .i32 C.1, .int .u8 C.2] 47))) ((HB.out.trans (B2.out.mono bw)).trans ((below_lit _ (.cells #[.int .i32 C.1, .int .u8 C.2] 47)).mono (by simp; omega))) (by simp; omega) g3)
          have O3 := Lib.hid o3
          have k3' : (appG #[.slice ar 0 cs, .slice (some ⟨w1.heap.size, 0, none⟩) 1 1]).run Tryd.prog ((((w1.setCell ⟨wr.heap.size, 0, none⟩ (.int .i32 C.1)).setCell ⟨wr.heap.size, 1, none⟩ (.int .u8 C.2))).alloc (.cells #[.int .i32 C.1, .int .u8 C.2] 47)) = .ok (.value s') w3 := by
            have h := k3
            simp only [setCell_sz] at h
            exact h
          clear o3 g3 k3
          go_wp2_with (go_at_call 34; refine hW.out.mono ?_; rintro e w' ⟨rfl, rfl⟩)
          go_roundw
          case rel => exact ⟨j + 1, by omega, by go_num, by rw [HN.out]; exact O3.out, B3.out⟩
          case measure => simp [intOf]; omega
        · rw [if_neg hp] at HN
          go_wp2_with (go_at_call 34; refine hW.out.mono ?_; rintro e w' ⟨rfl, rfl⟩)
          go_roundw
          case rel => exact ⟨j + 1, by omega, by go_num, by rw [HN.out]; exact HO.out.keep B2.out, HB.out.trans (B2.out.mono bw)⟩
          case measure => simp [intOf]; omega
      · have hQp : 0 < Q.length := List.length_pos_iff.2 hQe
        have hq0 : (0 : Int) < (Q.length : Int) := by omega
        rw [if_neg hQe] at HN
        clear hQe
        obtain ⟨s', w3, k3, o3, g3, -⟩ := appG_own (Lib.hid ((HO.out.keep B2.out).keep (below_lit _ (.cells #[.int .i32 C.1, .int .u8 C.2] 47)))).out (fs_lit gcell_len ((w1.setCell ⟨wr.heap.size, 0, none⟩ (.int .i32 C.1)).setCell ⟨wr.heap.size, 1, none⟩ (.int .u8 C.2)) 47 [C]) (by simp; omega) (by simp; omega)
        have B3 := Lib.hid (FOwn.below ((HO.out.keep B2.out).keep (below_lit _ (.cells #[.int .i32 C.1, .int .u8 C.2] 47))) ((HB.out.trans (B2.out.mono bw)).trans ((below_lit _ (.cells #[.int .i32 C.1, .int .u8 C.2] 47)).mono (by simp; omega))) (by simp; omega) g3)
        have O3 := Lib.hid o3
        have k3' : (appG #[.slice ar Q.length cs, .slice (some ⟨w1.heap.size, 0, none⟩) 1 1]).run Tryd.prog ((((w1.setCell ⟨wr.heap.size, 0, none⟩ (.int .i32 C.1)).setCell ⟨wr.heap.size, 1, none⟩ (.int .u8 C.2))).alloc (.cells #[.int .i32 C.1, .int .u8 C.2] 47)) = .ok (.value s') w3 := by
          have h := k3
          simp only [setCell_sz] at h
          exact h
        clear o3 g3 k3
        go_wp2_with fail
        go_roundw
        case rel => exact ⟨j + 1, by omega, by go_num, by rw [HN.out]; exact O3.out, B3.out⟩
        case measure => simp [intOf]; omega
    · obtain rfl : j = l.length := by omega
      rw [List.take_length] at hQ
      have HQ := Lib.hid hQ
      clear hQ ho hbw
      go_wp2_with fail
      go_ret
      exact ⟨_, rfl, HQ.out ▸ HO.out, HB.out⟩

set_option maxRecDepth 100000 in
set_option maxHeartbeats 1000000 in
theorem rcleang_any (l : List Gly) (v : Value) (w : World) (hv : Gs w v l) (hok : okG l) (hl : l.length ≤ 100000) :
    Calls Tryd.prog 20 #[v] w fun e w' => ∃ u, e = .returned u ∧ GOwn w.heap.size w' u (cleanL l) ∧ Below w.heap.size w w' := by
  have HV := Lib.hid hv
  obtain ⟨a, cap, rfl, hcap, -⟩ := hv
  have HOK := Lib.hid hok
  clear hok
  go_enter Tryd.func20, Tryd.ntmps20
  go_wp2_with fail
  go_loopw [3, 4] (fun s i wr => ∃ j : Nat, j ≤ l.length ∧ i = .int .i64 j ∧ GOwn w.heap.size wr s (cleanL (l.take j)) ∧ Below w.heap.size w wr) (fun _ i _ => l.length - (intOf i).toNat)
  case atStart => exact ⟨0, by omega, rfl, FOwn.nil _ _, Below.refl _ _⟩
  case round =>
    obtain ⟨j, hj, rfl, ho, hbw⟩ := hrel
    have HO := Lib.hid ho
    have HB := Lib.hid hbw
    have bw := hbw.size
    have hcl := cleanL_len (l.take j)
    rw [List.length_take] at hcl
    obtain ⟨Q, hQ⟩ : ∃ Q, cleanL (l.take j) = Q := ⟨_, rfl⟩
    rw [hQ] at HO hcl
    by_cases hlt : j < l.length
    · obtain ⟨z, hz⟩ : ∃ z, l[j]? = some z := ⟨l[j], List.getElem?_eq_getElem hlt⟩
      obtain ⟨g, off, rfl, c0, c1, -⟩ := Gs.at (Fs.below HV.out hbw) hz
      have hn := cleanL_take hz
      rw [hQ] at hn
      obtain ⟨-, hz2, hz3⟩ := HOK.out z (List.mem_of_getElem? hz)
      obtain ⟨R, hR⟩ : ∃ R, (clF z).1 = R := ⟨_, rfl⟩
      have hS := Lib.hid (rsafe_any z.1 wr)
      have hC : clF z = (R, z.2 % 4) := by rw [← hR]; rfl
      have hRR : (if z.1 = 160 then 32 else sf z.1) = R := hR
      rw [hC] at hn
      simp only at hn
      have HN := Lib.hid hn
      clear hz hn hC hQ ho hbw hR
      have hi0 : (j : Int) < (l.length : Int) := by omega
      have hi1 : (0 : Int) ≤ (j : Int) := by omega
      obtain ⟨SF, hSF⟩ : ∃ SF, sf z.1 = SF := ⟨_, rfl⟩
      rw [hSF] at hS hRR
      clear hSF
      have hW := Lib.hid (rwidth_any R wr)
      have hzb := wd_bd R
      obtain ⟨Z, hZ⟩ : ∃ Z, wd R = Z := ⟨_, rfl⟩
      rw [hZ] at hW hzb HN
      obtain ⟨hZ1, hZ2⟩ := hzb
      clear hZ
      obtain ⟨ar, cs, rfl⟩ := HO.out.sl gcell_len |>.len
      by_cases hr : z.1 = 160
      · rw [if_pos hr] at hRR
        subst hRR
        obtain ⟨z1, z2⟩ := z
        simp only at hr hz2 hz3 c0 c1 HN hS
        subst hr
        by_cases hQe : Q = []
        · subst hQe
          simp only [List.length_nil]
          rw [if_pos rfl] at HN
          by_cases hp : 0 < Z
          · rw [if_pos hp] at HN
            go_wp2_with (first
              | (go_at_call 31; refine hS.out.mono ?_; rintro e w' ⟨rfl, rfl⟩))
            refine hW.out.mono ?_
            rintro e w1 ⟨rfl, b1⟩
            have B1 := Lib.hid (HB.out.trans (b1.mono bw))
            have z1s := B1.out.size
            obtain ⟨s', w3, k3, o3, g3, -⟩ := appG_own ((HO.out.keep b1).keep (below_lit w1 (.cells #[.int .i32 32, .int .u8 (z2 % 4)] 47))) (fs_lit gcell_len w1 47 [(32, z2 % 4)]) (by simp; omega) (by simp)
            have B3 := Lib.hid (FOwn.below ((HO.out.keep b1).keep (below_lit w1 (.cells #[.int .i32 32, .int .u8 (z2 % 4)] 47))) (B1.out.trans ((below_lit w1 (.cells #[.int .i32 32, .int .u8 (z2 % 4)] 47)).mono z1s)) (by simp; omega) g3)
            have O3 := Lib.hid o3
            have k3' : (appG #[.slice ar 0 cs, .slice (some ⟨w1.heap.size, 0, none⟩) 1 1]).run Tryd.prog (w1.alloc (.cells #[.int .i32 32, .int .u8 (z2 % 4)] 47)) = .ok (.value s') w3 := k3
            have c1' := (b1.cell (p := ⟨g, off + j * 2 + 1, none⟩) (World.block_lt_of_cell? wr _ c1)).trans c1
            clear o3 g3 k3 b1
            go_wp2_with fail
            go_roundw
            case rel => exact ⟨j + 1, by omega, by go_num, by rw [HN.out]; exact O3.out, B3.out⟩
            case measure => simp [intOf]; omega
          · rw [if_neg hp] at HN
            go_wp2_with (first
              | (go_at_call 31; refine hS.out.mono ?_; rintro e w' ⟨rfl, rfl⟩)
              | (go_at_call 30; refine hW.out.mono ?_; rintro e w1 ⟨rfl, b1⟩))
            go_roundw
            case rel => exact ⟨j + 1, by omega, by go_num, by rw [HN.out]; exact HO.out.keep b1, HB.out.trans (b1.mono bw)⟩
            case measure => simp [intOf]; omega
        · have hQp : 0 < Q.length := List.length_pos_iff.2 hQe
          have hq0 : (0 : Int) < (Q.length : Int) := by omega
          rw [if_neg hQe] at HN
          obtain ⟨s', w3, k3, o3, g3, -⟩ := appG_own (HO.out.keep (below_lit wr (.cells #[.int .i32 32, .int .u8 (z2 % 4)] 47))) (fs_lit gcell_len wr 47 [(32, z2 % 4)]) (by simp; omega) (by simp; omega)
          have B3 := Lib.hid (FOwn.below (HO.out.keep (below_lit wr (.cells #[.int .i32 32, .int .u8 (z2 % 4)] 47))) (HB.out.trans ((below_lit wr (.cells #[.int .i32 32, .int .u8 (z2 % 4)] 47)).mono bw)) (by simp; omega) g3)
          have O3 := Lib.hid o3
          have k3' : (appG #[.slice ar Q.length cs, .slice (some ⟨wr.heap.size, 0, none⟩) 1 1]).run Tryd.prog (wr.alloc (.cells #[.int .i32 32, .int .u8 (z2 % 4)] 47)) = .ok (.value s') w3 := k3
          clear o3 g3 k3 hQe
          go_wp2_with (first
            | (go_at_call 31; refine hS.out.mono ?_; rintro e w' ⟨rfl, rfl⟩))
          go_roundw
          case rel => exact ⟨j + 1, by omega, by go_num, by rw [HN.out]; exact O3.out, B3.out⟩
          case measure => simp [intOf]; omega
      · rw [if_neg hr] at hRR
        subst hRR
        by_cases hQe : Q = []
        · subst hQe
          simp only [List.length_nil]
          rw [if_pos rfl] at HN
          by_cases hp : 0 < Z
          · rw [if_pos hp] at HN
            go_wp2_with (first
              | (go_at_call 31; refine hS.out.mono ?_; rintro e w' ⟨rfl, rfl⟩))
            refine hW.out.mono ?_
            rintro e w1 ⟨rfl, b1⟩
            have B1 := Lib.hid (HB.out.trans (b1.mono bw))
            have z1s := B1.out.size
            obtain ⟨s', w3, k3, o3, g3, -⟩ := appG_own ((HO.out.keep b1).keep (below_lit w1 (.cells #[.int .i32 SF, .int .u8 (z.2 % 4)] 47))) (fs_lit gcell_len w1 47 [(SF, z.2 % 4)]) (by simp; omega) (by simp)
            have B3 := Lib.hid (FOwn.below ((HO.out.keep b1).keep (below_lit w1 (.cells #[.int .i32 SF, .int .u8 (z.2 % 4)] 47))) (B1.out.trans ((below_lit w1 (.cells #[.int .i32 SF, .int .u8 (z.2 % 4)] 47)).mono z1s)) (by simp; omega) g3)
            have O3 := Lib.hid o3
            have k3' : (appG #[.slice ar 0 cs, .slice (some ⟨w1.heap.size, 0, none⟩) 1 1]).run Tryd.prog (w1.alloc (.cells #[.int .i32 SF, .int .u8 (z.2 % 4)] 47)) = .ok (.value s') w3 := k3
            have c1' := (b1.cell (p := ⟨g, off + j * 2 + 1, none⟩) (World.block_lt_of_cell? wr _ c1)).trans c1
            clear o3 g3 k3 b1
            go_wp2_with fail
            go_roundw
            case rel => exact ⟨j + 1, by omega, by go_num, by rw [HN.out]; exact O3.out, B3.out⟩
            case measure => simp [intOf]; omega
          · rw [if_neg hp] at HN
            go_wp2_with (first
              | (go_at_call 31; refine hS.out.mono ?_; rintro e w' ⟨rfl, rfl⟩)
              | (go_at_call 30; refine hW.out.mono ?_; rintro e w1 ⟨rfl, b1⟩))
            go_roundw
            case rel => exact ⟨j + 1, by omega, by go_num, by rw [HN.out]; exact HO.out.keep b1, HB.out.trans (b1.mono bw)⟩
            case measure => simp [intOf]; omega
        · have hQp : 0 < Q.length := List.length_pos_iff.2 hQe
          have hq0 : (0 : Int) < (Q.length : Int) := by omega
          rw [if_neg hQe] at HN
          obtain ⟨s', w3, k3, o3, g3, -⟩ := appG_own (HO.out.keep (below_lit wr (.cells #[.int .i32 SF, .int .u8 (z.2 % 4)] 47))) (fs_lit gcell_len wr 47 [(SF, z.2 % 4)]) (by simp; omega) (by simp; omega)
          have B3 := Lib.hid (FOwn.below (HO.out.keep (below_lit wr (.cells #[.int .i32 SF, .int .u8 (z.2 % 4)] 47))) (HB.out.trans ((below_lit wr (.cells #[.int .i32 SF, .int .u8 (z.2 % 4)] 47)).mono bw)) (by simp; omega) g3)
          have O3 := Lib.hid o3
          have k3' : (appG #[.slice ar Q.length cs, .slice (some ⟨wr.heap.size, 0, none⟩) 1 1]).run Tryd.prog (wr.alloc (.cells #[.int .i32 SF, .int .u8 (z.2 % 4)] 47)) = .ok (.value s') w3 := k3
          clear o3 g3 k3 hQe
          go_wp2_with (first
            | (go_at_call 31; refine hS.out.mono ?_; rintro e w' ⟨rfl, rfl⟩))
          go_roundw
          case rel => exact ⟨j + 1, by omega, by go_num, by rw [HN.out]; exact O3.out, B3.out⟩
          case measure => simp [intOf]; omega
    · obtain rfl : j = l.length := by omega
      rw [List.take_length] at hQ
      have HQ := Lib.hid hQ
      clear hQ ho hbw
      go_wp2_with fail
      go_ret
      exact ⟨_, rfl, HQ.out ▸ HO.out, HB.out⟩
end Go.Proofs.YtkiglnfapoifiaaDoor
