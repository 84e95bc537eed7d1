/- The laws' long; MdocSigns, walked. -/
import Derived.Test.YtpcbbhfbldchlaaAf
import Derived.Test.YtpcbbhfbldchlaaJ4
import Derived.Test.YtpcbbhfbldchlaaJ8
set_option linter.unusedVariables false
set_option linter.unusedSimpArgs false
namespace Go.Proofs.Ytpcbbhfbldchlaa
open Go.RowKit
def lng (l : List Txt) : Nat := (l.map (fun b => b.length + 2)).sum
theorem lng_num : ∀ l : List Txt, l.length ≤ lng l
  | [] => Nat.zero_le _
  | b :: l => by have := lng_num l; simp only [lng, List.map_cons, List.sum_cons, List.length_cons] at this ⊢; omega
theorem lng_le : ∀ l : List Txt, lng l ≤ 2 * lnT l
  | [] => Nat.zero_le _
  | b :: l => by have := lng_le l; simp only [lng, lnT, List.map_cons, List.sum_cons] at this ⊢; omega
theorem lng_mem : ∀ {l : List Txt} {x : Txt}, x ∈ l → x.length + 2 ≤ lng l
  | y :: l, x, h => by
    simp only [lng, List.map_cons, List.sum_cons]
    rcases List.mem_cons.1 h with q | q
    · rw [q]; omega
    · have := lng_mem q; simp only [lng] at this; omega
theorem lng_take : ∀ (l : List Txt) (j : Nat), lng (l.take j) ≤ lng l
  | [], j => by simp [lng]
  | b :: l, 0 => by simp [lng]
  | b :: l, j + 1 => by
    have := lng_take l j
    simp only [lng, List.take_succ_cons, List.map_cons, List.sum_cons] at this ⊢
    omega
theorem lng_step {L : List Txt} {j : Nat} {x : Txt} (hx : L[j]? = some x) : lng (L.take (j + 1)) = lng (L.take j) + (x.length + 2) := by
  rw [take_one9 hx]
  simp [lng]
set_option maxHeartbeats 4000000 in
theorem long11_any (L : List Txt) (v : Value) (w : World) (hv : Ss w v L) (hb : lng L ≤ 900000000) :
    Calls Try.prog 8 #[v] w fun e w' => e = .returned (.bool (decide (500 < lng L))) ∧ w = w' := by
  have hsz := fun b : Txt => arr_size b
  obtain ⟨va, vc, rfl⟩ := hv.len
  have HS := Lib.hid hv
  have hln := lng_num L
  have HT := Lib.hid (fun j => lng_take L j)
  obtain ⟨N, hN⟩ : ∃ N, L.length = N := ⟨_, rfl⟩
  rw [hN] at HS hln
  rw [hN]
  have HN := Lib.hid hN
  clear hv hN
  go_enter Try.func8, Try.ntmps8
  go_wp2_with fail
  go_loopw [3, 4] (fun n i wr => ∃ j : Nat, i = .int .i64 (j : Int) ∧ n = .int .i64 ((lng (L.take j) : Nat) : Int) ∧ j ≤ N ∧ wr = w) (fun _ i _ => N - (intOf i).toNat)
  case atStart => exact ⟨0, rfl, rfl, by omega, rfl⟩
  case round =>
    obtain ⟨j, rfl, rfl, hj, rfl⟩ := hrel
    by_cases hlt : j < N
    · obtain ⟨x, hx⟩ : ∃ x, L[j]? = some x := ⟨L[j]'(by rw [HN.out]; exact hlt), List.getElem?_eq_getElem _⟩
      obtain ⟨g, off, rfl, c0⟩ := Ss.at HS.out hx
      have hi0 : (0 : Int) ≤ (j : Int) := by omega
      have hi1 : (j : Int) < (N : Int) := by omega
      have hst := lng_step hx
      have h1 := HT.out j
      have h2 := HT.out (j + 1)
      obtain ⟨q, hq⟩ : ∃ q, lng (L.take j) = q := ⟨_, rfl⟩
      rw [hq] at hst h1
      rw [hq]
      have hxs := arr_size x
      have w1 : IntKind.i64.wrap ((q : Int) + 2) = (q : Int) + 2 := wrap_any9 (by omega) (by omega)
      have w2 : IntKind.i64.wrap ((q : Int) + 2 + (x.length : Int)) = (q : Int) + 2 + (x.length : Int) := wrap_any9 (by omega) (by omega)
      have HST := Lib.hid hst
      clear hst hx hq
      go_wp2_with fail
      go_roundw
      case rel => exact ⟨j + 1, by go_num, by rw [HST.out]; congr 1; omega, by omega, by first | trivial | rfl⟩
      case measure => simp [intOf]; omega
    · obtain rfl : j = N := by omega
      have ht : L.take j = L := by rw [← HN.out, List.take_length]
      rw [ht]
      clear ht
      by_cases hgt : 500 < lng L
      · have hgt' : (500 : Int) < (lng L : Int) := by omega
        have HG := Lib.hid (decide_eq_true hgt)
        go_wp2_with fail
        go_ret
        first | exact ⟨ret_bool HG.out.symm, rfl⟩ | exact ⟨by rw [HG.out], rfl⟩ | exact ⟨rfl, rfl⟩
      · have hgt' : ¬ (500 : Int) < (lng L : Int) := by omega
        have HG := Lib.hid (decide_eq_false hgt)
        go_wp2_with fail
        go_ret
        first | exact ⟨ret_bool HG.out.symm, rfl⟩ | exact ⟨by rw [HG.out], rfl⟩ | exact ⟨rfl, rfl⟩
theorem sg_i : ∀ (l : List Txt) (q : Sg), (l.foldl sgF q).i = q.i + l.length
  | [], q => rfl
  | w :: l, q => by rw [List.foldl_cons, sg_i l]; simp [sgF]; omega
theorem sg_len : ∀ (l : List Txt) (q : Sg), (l.foldl sgF q).want.length ≤ q.want.length + lng l ∧ (l.foldl sgF q).ws.length ≤ q.ws.length + 2 * l.length
  | [], q => by simp [lng]
  | w :: l, q => by
    have h := sg_len l (sgF q w)
    have h1 : (sgF q w).want.length ≤ q.want.length + (w.length + 2) := by
      unfold sgF sgT
      simp only
      repeat' split
      all_goals (simp; try omega)
    have h2 : (sgF q w).ws.length ≤ q.ws.length + 2 := by
      unfold sgF sgW
      simp only
      repeat' split
      all_goals (simp; try omega)
    simp only [List.foldl_cons, lng, List.map_cons, List.sum_cons, List.length_cons] at h ⊢
    omega
theorem sg_mem : ∀ (l : List Txt) (q : Sg) (m : Nat), 1 ≤ m → (∀ w ∈ l, w.length ≤ m) → (∀ w ∈ q.ws, w.length ≤ m) → ∀ w ∈ (l.foldl sgF q).ws, w.length ≤ m
  | [], q, m, _, _, h => h
  | y :: l, q, m, hm, hl, h => by
    refine sg_mem l (sgF q y) m hm (fun w hw => hl w (by simp [hw])) (fun w hw => ?_)
    have hy := hl y (by simp)
    unfold sgF sgW at hw
    simp only at hw
    rcases List.mem_append.1 hw with z | z
    · exact h w z
    · split at z
      · rw [List.mem_singleton.1 z]; exact hy
      · split at z
        · rcases List.mem_cons.1 z with z | z
          · rw [z]; exact hy
          · rw [List.mem_singleton.1 z]; exact hm
        · rcases List.mem_cons.1 z with z | z
          · rw [z]; exact hm
          · rw [List.mem_singleton.1 z]; exact hy
theorem lett_hi (f : Int) (s : Txt) : ∀ g ∈ lettG f s, -2147483648 ≤ g.1 ∧ g.1 ≤ 2147483647 := fun g hg => by
  obtain ⟨x, hx, rfl⟩ := List.mem_map.1 hg
  have := x.toNat_lt
  simp only
  omega
attribute [local go_sem ↓ high] binop_addS builtin_appS
set_option maxRecDepth 100000 in
set_option maxHeartbeats 16000000 in
theorem mdocsigns_any (l : List Txt) (v : Value) (w : World) (hv : Ss w v l) (hl : lng l ≤ 4000000) :
    Calls Try.prog 4 #[v] w fun e w' => e = .returned (.bool true) ∧ Below w.heap.size w w' := by
  have HV := Lib.hid hv
  have HLO := Lib.hid (long11_any l v w hv (by omega))
  obtain ⟨va, vc, rfl⟩ := hv.len
  have hll := lng_num l
  have HK := Lib.hid (fun W => known11_any W)
  have HB : Hid (Below w.heap.size w w) := Lib.hid (Below.refl _ _)
  clear hv
  by_cases hbig : 500 < lng l
  · rw [decide_eq_true hbig] at HLO
    go_enter Try.func4, Try.ntmps4
    go_wp2_with fail
    refine HLO.out.mono ?_
    rintro e w1 ⟨rfl, rfl⟩
    go_wp2_with fail
    refine (HK.out _).mono ?_
    rintro e w2 ⟨rfl, b2⟩
    have B2 := Lib.hid (HB.out.trans (b2.mono HB.out.size))
    clear b2
    go_wp2_with fail
    go_ret
    exact ⟨rfl, B2.out⟩
  rw [decide_eq_false hbig] at HLO
  by_cases h20 : 20 < l.length
  · have h20' : (20 : Int) < (l.length : Int) := by omega
    go_enter Try.func4, Try.ntmps4
    go_wp2_with fail
    refine HLO.out.mono ?_
    rintro e w1 ⟨rfl, rfl⟩
    go_wp2_with fail
    refine (HK.out _).mono ?_
    rintro e w2 ⟨rfl, b2⟩
    have B2 := Lib.hid (HB.out.trans (b2.mono HB.out.size))
    clear b2
    go_wp2_with fail
    go_ret
    exact ⟨rfl, B2.out⟩
  have h20' : ¬ (20 : Int) < (l.length : Int) := by omega
  have hln20 : (l.length : Int) ≤ 20 := by omega
  go_enter Try.func4, Try.ntmps4
  go_wp2_with fail
  refine HLO.out.mono ?_
  rintro e w1 ⟨rfl, rfl⟩
  clear HLO
  go_wp2_with fail
  go_loopw [5, 6] (fun iv _ wr => ∃ j : Nat, j ≤ l.length ∧ iv = .int .i64 (j : Int) ∧ Hid (∀ x ∈ l.take j, x ≠ [] ∧ ∀ y ∈ x, lowB y = true) ∧ wr = w) (fun i _ _ => l.length - (intOf i).toNat)
  case atStart => exact ⟨0, by omega, rfl, Lib.hid (fun x h => by simp at h), rfl⟩
  case round =>
    obtain ⟨j, hj, rfl, HA, rfl⟩ := hrel
    have hj0 : (0 : Int) ≤ (j : Int) := by omega
    by_cases hlt : j < l.length
    · obtain ⟨x, hx⟩ : ∃ x, l[j]? = some x := ⟨l[j], List.getElem?_eq_getElem hlt⟩
      have hlt' : (j : Int) < (l.length : Int) := by omega
      obtain ⟨g, off, rfl, c0⟩ := Ss.at HV.out hx
      have hxl := lng_mem (List.mem_of_getElem? hx)
      have HXX := Lib.hid hx
      have hxs := arr_size x
      obtain ⟨M, hM⟩ : ∃ M, x.length = M := ⟨_, rfl⟩
      rw [hM] at hxl hxs
      have hM5 : (M : Int) ≤ 500 := by omega
      clear hx
      go_wp2_with fail
      go_loopw [6] (fun kv wr2 => ∃ q : Nat, q ≤ M ∧ kv = .int .i64 (q : Int) ∧ Hid (∀ y ∈ x.take q, lowB y = true) ∧ wr2 = wr) (fun i _ => M - (intOf i).toNat)
      case atStart => exact ⟨0, by omega, rfl, Lib.hid (fun y h => by simp at h), rfl⟩
      case round =>
        obtain ⟨q, hq, rfl, HQ, rfl⟩ := hrel
        have hq0 : (0 : Int) ≤ (q : Int) := by omega
        by_cases hqt : q < M
        · obtain ⟨y, hy⟩ : ∃ y, x[q]? = some y := ⟨x[q]'(by omega), List.getElem?_eq_getElem (by omega)⟩
          have hqt' : (q : Int) < (M : Int) := by omega
          have ki : ∀ W, (Instr.index 9 (.string ⟨x.toArray⟩) (.int .i64 (q : Int))).run Try.prog W = .ok (.int .u8 (y.toNat : Int)) W := str_idx x q y hy
          have HY := Lib.hid hy
          by_cases hy1 : (y.toNat : Int) < 97
          · clear hy
            go_wp2_with fail
            refine (HK.out _).mono ?_
            rintro e w2 ⟨rfl, b2⟩
            have B2 := Lib.hid (HB.out.trans (b2.mono HB.out.size))
            clear b2
            go_wp2_with fail
            go_ret
            exact ⟨rfl, B2.out⟩
          · by_cases hy2 : 122 < (y.toNat : Int)
            · clear hy
              go_wp2_with fail
              refine (HK.out _).mono ?_
              rintro e w2 ⟨rfl, b2⟩
              have B2 := Lib.hid (HB.out.trans (b2.mono HB.out.size))
              clear b2
              go_wp2_with fail
              go_ret
              exact ⟨rfl, B2.out⟩
            · have HLW : Hid (lowB y = true) := Lib.hid (by unfold lowB; simp only [Bool.and_eq_true, decide_eq_true_eq]; omega)
              clear hy
              go_wp2_with fail
              go_roundw
              case rel => exact ⟨q + 1, by omega, by go_num, Lib.hid (take_all HY.out HQ.out HLW.out), by first | rfl | trivial⟩
              case measure => (simp [intOf]; try omega)
        · obtain rfl : q = M := by omega
          have hqt' : ¬ (q : Int) < (q : Int) := by omega
          have hall : ∀ y ∈ x, lowB y = true := by have := HQ.out; rw [← hM, List.take_length] at this; exact this
          by_cases hx0 : x = []
          · subst hx0
            clear hall HQ
            go_wp2_with fail
            refine (HK.out _).mono ?_
            rintro e w2 ⟨rfl, b2⟩
            have B2 := Lib.hid (HB.out.trans (b2.mono HB.out.size))
            clear b2
            go_wp2_with fail
            go_ret
            exact ⟨rfl, B2.out⟩
          · have HALL := Lib.hid (take_all (P := fun x => x ≠ [] ∧ ∀ y ∈ x, lowB y = true) HXX.out HA.out ⟨hx0, hall⟩)
            have d0 := beq_no hx0
            clear hall HQ hx0
            go_wp2_with fail
            go_roundw
            case rel => exact ⟨j + 1, by omega, by go_num, HALL, by first | rfl | trivial⟩
            case measure => (simp [intOf]; try omega)
    · obtain rfl : j = l.length := by omega
      have hlt' : ¬ (l.length : Int) < (l.length : Int) := by omega
      rw [List.take_length] at HA
      have hml : ∀ x ∈ l, x.length ≤ 500 := fun x hx => by have := lng_mem hx; omega
      have HML := Lib.hid hml
      clear hml
      obtain ⟨V, rfl⟩ : ∃ V, V = wr := ⟨_, rfl⟩
      have b1 := below_lit V (.cells #[.string ⟨#[78, 111]⟩] 9)
      have HO0 : Hid (SOwn V.heap.size (V.alloc (.cells #[.string ⟨#[78, 111]⟩] 9)) (.slice (some ⟨V.heap.size, 0, none⟩) 1 1) (cNo :: sg0.ws)) := Lib.hid (fown_lit scell_len V (Nat.le_refl _) [cNo] (by decide))
      have HB1 := Lib.hid b1
      clear b1
      go_wp2_with fail
      go_loopw [3, 4, 7, 8] (fun sv tv rv iv w2 => ∃ j : Nat, j ≤ l.length ∧ iv = .int .i64 (j : Int) ∧ sv = .string ⟨((l.take j).foldl sgF sg0).want.toArray⟩ ∧ tv = .bool ((l.take j).foldl sgF sg0).stuck ∧ Hid (SOwn V.heap.size w2 rv (cNo :: ((l.take j).foldl sgF sg0).ws)) ∧ Hid (Below V.heap.size V w2)) (fun _ _ _ i _ => l.length - (intOf i).toNat)
      case atStart => exact ⟨0, by omega, rfl, rfl, rfl, HO0, HB1⟩
      case round =>
        obtain ⟨j, hj, rfl, rfl, rfl, HO, HB2⟩ := hrel
        have hj0 : (0 : Int) ≤ (j : Int) := by omega
        by_cases hlt : j < l.length
        · obtain ⟨x, hx⟩ : ∃ x, l[j]? = some x := ⟨l[j], List.getElem?_eq_getElem hlt⟩
          have hlt' : (j : Int) < (l.length : Int) := by omega
          have hj20 : (j : Int) ≤ 20 := by omega
          obtain ⟨g, off, rfl, m0⟩ := Ss.at HV.out hx
          have hgl := World.block_lt_of_cell? _ _ m0
          have c0 := (HB2.out.cell hgl).trans m0
          have hxl := HML.out x (List.mem_of_getElem? hx)
          have hnx := foldl_take sgF sg0 hx
          have hqi := sg_i (l.take j) sg0
          have hql := sg_len (l.take j) sg0
          have hqs := lng_take l j
          have hbs := HB2.out.size
          rw [List.length_take, Nat.min_eq_left hj] at hqi
          obtain ⟨q, hq⟩ : ∃ q, (l.take j).foldl sgF sg0 = q := ⟨_, rfl⟩
          rw [hq] at HO hnx hqi hql ⊢
          have hqi : q.i = j := by simpa [sg0] using hqi
          have hqw9 : q.want.length ≤ 600 ∧ q.ws.length ≤ 100 := by simp only [sg0, List.length_nil, List.length_take] at hql; omega
          have t0 : ∀ (o : Obj), (wr.alloc o).cell? ⟨g, off + j, none⟩ = some (.string ⟨x.toArray⟩) := fun o => ((below_lit wr o).cell (Nat.lt_of_lt_of_le hgl hbs)).trans c0
          have HTC : Hid (∀ W', Below V.heap.size V W' → W'.cell? ⟨g, off + j, none⟩ = some (.string ⟨x.toArray⟩)) := Lib.hid (fun W' hb => (hb.cell hgl).trans m0)
          clear m0
          cases hst : q.stuck with
          | true =>
            rcases (show j % 3 = 0 ∨ j % 3 = 1 ∨ j % 3 = 2 by omega) with hm | hm | hm
            · have hm3 : (j : Int) % 3 = 0 := by omega
              have hm4 : Int.tmod (j : Int) 3 = 0 := by rw [Int.tmod_eq_emod_of_nonneg (by omega)]; omega
              have hW : q.ws ++ sgW q.i x = q.ws ++ [x] := by
                rw [show sgW q.i x = [x] by unfold sgW; rw [hqi, if_pos hm]]
              have hT : q.want ++ (if q.stuck then ([] : Txt) else [32]) ++ sgT q.i x = (q.want ++ x) := by
                rw [show sgT q.i x = x by unfold sgT; rw [hqi, if_pos hm], hst]
                simp
              have bl := below_lit wr (.cells #[.string ⟨x.toArray⟩] 9)
              have hsl : (wr.alloc (.cells #[.string ⟨x.toArray⟩] 9)).heap.size = wr.heap.size + 1 := World.size_alloc ..
              obtain ⟨rv', w3, r1, o1, g1, -⟩ := appS_own (HO.out.keep bl) (fs_lit scell_len wr 9 [x]) (by omega) (by simp; omega)
              have HBF := Lib.hid ((HO.out.keep bl).below (HB2.out.trans (bl.mono hbs)) (by omega) g1)
              have c3 := HTC.out _ HBF.out
              have HOF : Hid (SOwn V.heap.size w3 rv' (cNo :: (q.ws ++ sgW q.i x))) := Lib.hid (by rw [hW]; exact o1)
              obtain ⟨ra, rc, rfl⟩ := (FOwn.sl scell_len HO.out).len
              obtain ⟨za, zc, rfl⟩ := (FOwn.sl scell_len o1).len
              obtain ⟨n0, hn0⟩ : ∃ n, (cNo :: q.ws).length = n := ⟨_, rfl⟩
              obtain ⟨n1, hn1⟩ : ∃ n, (cNo :: q.ws ++ [x]).length = n := ⟨_, rfl⟩
              rw [hn1] at r1 HOF
              rw [hn0] at r1
              have r1' : (appS #[.slice ra n0 rc, .slice (some ⟨wr.heap.size, 0, none⟩) 1 1]).run Try.prog (wr.alloc (.cells #[.string ⟨x.toArray⟩] 9)) = .ok (.value (.slice za n1 zc)) w3 := r1
              simp only [hn0]
              obtain ⟨z0, hz0⟩ : ∃ z, q.want = z := ⟨_, rfl⟩
              have hz0l : z0.length ≤ 600 := by rw [← hz0]; exact hqw9.1
              rw [hz0] at hT
              obtain ⟨z1, hz1⟩ : ∃ z, z0 ++ x = z := ⟨_, rfl⟩
              have hz1l : z1.length ≤ 1200 := by rw [← hz1]; (try simp); omega
              have a0 : ∀ W, (addS (.string ⟨z0.toArray⟩) (.string ⟨x.toArray⟩)).run Try.prog W = .ok (.string ⟨z1.toArray⟩) W := fun W => by rw [str_add z0 x (by (try simp); omega) W, hz1]
              rw [hz1] at hT
              clear hz1
              have HN : Hid ((l.take (j + 1)).foldl sgF sg0 = ⟨q.i + 1, q.ws ++ sgW q.i x, z1, false⟩) := Lib.hid (by rw [hnx]; unfold sgF; rw [hz0, hT])
              try rw [hst]
              try rw [hz0]
              clear hW hT bl hsl r1 o1 g1 hn0 hn1 hnx hst hqi hqs hql hx hz0 hbs HO HB2 hq hqw9
              go_wp2_with fail
              go_roundw
              case rel => exact ⟨j + 1, by omega, by go_num, by rw [HN.out], by rw [HN.out], by rw [HN.out]; exact HOF, HBF⟩
              case measure => (simp [intOf]; try omega)
            · have hm3 : (j : Int) % 3 = 1 := by omega
              have hm4 : Int.tmod (j : Int) 3 = 1 := by rw [Int.tmod_eq_emod_of_nonneg (by omega)]; omega
              have hW : q.ws ++ sgW q.i x = q.ws ++ [x, [44]] := by
                rw [show sgW q.i x = [x, [44]] by unfold sgW; rw [hqi, if_neg (by omega), if_pos hm]]
              have hT : q.want ++ (if q.stuck then ([] : Txt) else [32]) ++ sgT q.i x = ((q.want ++ x) ++ [44]) := by
                rw [show sgT q.i x = x ++ [44] by unfold sgT; rw [hqi, if_neg (by omega), if_pos hm], hst]
                simp
              have bl := below_lit wr (.cells #[.string ⟨x.toArray⟩, .string ⟨#[44]⟩] 9)
              have hsl : (wr.alloc (.cells #[.string ⟨x.toArray⟩, .string ⟨#[44]⟩] 9)).heap.size = wr.heap.size + 1 := World.size_alloc ..
              obtain ⟨rv', w3, r1, o1, g1, -⟩ := appS_own (HO.out.keep bl) (fs_lit scell_len wr 9 [x, [44]]) (by omega) (by simp; omega)
              have HBF := Lib.hid ((HO.out.keep bl).below (HB2.out.trans (bl.mono hbs)) (by omega) g1)
              have c3 := HTC.out _ HBF.out
              have HOF : Hid (SOwn V.heap.size w3 rv' (cNo :: (q.ws ++ sgW q.i x))) := Lib.hid (by rw [hW]; exact o1)
              obtain ⟨ra, rc, rfl⟩ := (FOwn.sl scell_len HO.out).len
              obtain ⟨za, zc, rfl⟩ := (FOwn.sl scell_len o1).len
              obtain ⟨n0, hn0⟩ : ∃ n, (cNo :: q.ws).length = n := ⟨_, rfl⟩
              obtain ⟨n1, hn1⟩ : ∃ n, (cNo :: q.ws ++ [x, [44]]).length = n := ⟨_, rfl⟩
              rw [hn1] at r1 HOF
              rw [hn0] at r1
              have r1' : (appS #[.slice ra n0 rc, .slice (some ⟨wr.heap.size, 0, none⟩) 2 2]).run Try.prog (wr.alloc (.cells #[.string ⟨x.toArray⟩, .string ⟨#[44]⟩] 9)) = .ok (.value (.slice za n1 zc)) w3 := r1
              simp only [hn0]
              obtain ⟨z0, hz0⟩ : ∃ z, q.want = z := ⟨_, rfl⟩
              have hz0l : z0.length ≤ 600 := by rw [← hz0]; exact hqw9.1
              rw [hz0] at hT
              obtain ⟨z1, hz1⟩ : ∃ z, z0 ++ x = z := ⟨_, rfl⟩
              have hz1l : z1.length ≤ 1200 := by rw [← hz1]; (try simp); omega
              have a0 : ∀ W, (addS (.string ⟨z0.toArray⟩) (.string ⟨x.toArray⟩)).run Try.prog W = .ok (.string ⟨z1.toArray⟩) W := fun W => by rw [str_add z0 x (by (try simp); omega) W, hz1]
              rw [hz1] at hT
              clear hz1
              obtain ⟨z2, hz2⟩ : ∃ z, z1 ++ [44] = z := ⟨_, rfl⟩
              have hz2l : z2.length ≤ 1800 := by rw [← hz2]; (try simp); omega
              have a1 : ∀ W, (addS (.string ⟨z1.toArray⟩) (.string ⟨[44].toArray⟩)).run Try.prog W = .ok (.string ⟨z2.toArray⟩) W := fun W => by rw [str_add z1 [44] (by (try simp); omega) W, hz2]
              rw [hz2] at hT
              clear hz2
              have HN : Hid ((l.take (j + 1)).foldl sgF sg0 = ⟨q.i + 1, q.ws ++ sgW q.i x, z2, false⟩) := Lib.hid (by rw [hnx]; unfold sgF; rw [hz0, hT])
              try rw [hst]
              try rw [hz0]
              clear hW hT bl hsl r1 o1 g1 hn0 hn1 hnx hst hqi hqs hql hx hz0 hbs HO HB2 hq hqw9
              go_wp2_with fail
              go_roundw
              case rel => exact ⟨j + 1, by omega, by go_num, by rw [HN.out], by rw [HN.out], by rw [HN.out]; exact HOF, HBF⟩
              case measure => (simp [intOf]; try omega)
            · have hm3 : (j : Int) % 3 = 2 := by omega
              have hm4 : Int.tmod (j : Int) 3 = 2 := by rw [Int.tmod_eq_emod_of_nonneg (by omega)]; omega
              have hW : q.ws ++ sgW q.i x = q.ws ++ [[40], x] := by
                rw [show sgW q.i x = [[40], x] by unfold sgW; rw [hqi, if_neg (by omega), if_neg (by omega)]]
              have hT : q.want ++ (if q.stuck then ([] : Txt) else [32]) ++ sgT q.i x = ((q.want ++ [40]) ++ x) := by
                rw [show sgT q.i x = 40 :: x by unfold sgT; rw [hqi, if_neg (by omega), if_neg (by omega)], hst]
                simp
              have bl := below_lit wr (.cells #[.string ⟨#[40]⟩, .string ⟨x.toArray⟩] 9)
              have hsl : (wr.alloc (.cells #[.string ⟨#[40]⟩, .string ⟨x.toArray⟩] 9)).heap.size = wr.heap.size + 1 := World.size_alloc ..
              obtain ⟨rv', w3, r1, o1, g1, -⟩ := appS_own (HO.out.keep bl) (fs_lit scell_len wr 9 [[40], x]) (by omega) (by simp; omega)
              have HBF := Lib.hid ((HO.out.keep bl).below (HB2.out.trans (bl.mono hbs)) (by omega) g1)
              have c3 := HTC.out _ HBF.out
              have HOF : Hid (SOwn V.heap.size w3 rv' (cNo :: (q.ws ++ sgW q.i x))) := Lib.hid (by rw [hW]; exact o1)
              obtain ⟨ra, rc, rfl⟩ := (FOwn.sl scell_len HO.out).len
              obtain ⟨za, zc, rfl⟩ := (FOwn.sl scell_len o1).len
              obtain ⟨n0, hn0⟩ : ∃ n, (cNo :: q.ws).length = n := ⟨_, rfl⟩
              obtain ⟨n1, hn1⟩ : ∃ n, (cNo :: q.ws ++ [[40], x]).length = n := ⟨_, rfl⟩
              rw [hn1] at r1 HOF
              rw [hn0] at r1
              have r1' : (appS #[.slice ra n0 rc, .slice (some ⟨wr.heap.size, 0, none⟩) 2 2]).run Try.prog (wr.alloc (.cells #[.string ⟨#[40]⟩, .string ⟨x.toArray⟩] 9)) = .ok (.value (.slice za n1 zc)) w3 := r1
              simp only [hn0]
              obtain ⟨z0, hz0⟩ : ∃ z, q.want = z := ⟨_, rfl⟩
              have hz0l : z0.length ≤ 600 := by rw [← hz0]; exact hqw9.1
              rw [hz0] at hT
              obtain ⟨z1, hz1⟩ : ∃ z, z0 ++ [40] = z := ⟨_, rfl⟩
              have hz1l : z1.length ≤ 1200 := by rw [← hz1]; (try simp); omega
              have a0 : ∀ W, (addS (.string ⟨z0.toArray⟩) (.string ⟨[40].toArray⟩)).run Try.prog W = .ok (.string ⟨z1.toArray⟩) W := fun W => by rw [str_add z0 [40] (by (try simp); omega) W, hz1]
              rw [hz1] at hT
              clear hz1
              obtain ⟨z2, hz2⟩ : ∃ z, z1 ++ x = z := ⟨_, rfl⟩
              have hz2l : z2.length ≤ 1800 := by rw [← hz2]; (try simp); omega
              have a1 : ∀ W, (addS (.string ⟨z1.toArray⟩) (.string ⟨x.toArray⟩)).run Try.prog W = .ok (.string ⟨z2.toArray⟩) W := fun W => by rw [str_add z1 x (by (try simp); omega) W, hz2]
              rw [hz2] at hT
              clear hz2
              have HN : Hid ((l.take (j + 1)).foldl sgF sg0 = ⟨q.i + 1, q.ws ++ sgW q.i x, z2, false⟩) := Lib.hid (by rw [hnx]; unfold sgF; rw [hz0, hT])
              try rw [hst]
              try rw [hz0]
              clear hW hT bl hsl r1 o1 g1 hn0 hn1 hnx hst hqi hqs hql hx hz0 hbs HO HB2 hq hqw9
              go_wp2_with fail
              go_roundw
              case rel => exact ⟨j + 1, by omega, by go_num, by rw [HN.out], by rw [HN.out], by rw [HN.out]; exact HOF, HBF⟩
              case measure => (simp [intOf]; try omega)
          | false =>
            rcases (show j % 3 = 0 ∨ j % 3 = 1 ∨ j % 3 = 2 by omega) with hm | hm | hm
            · have hm3 : (j : Int) % 3 = 0 := by omega
              have hm4 : Int.tmod (j : Int) 3 = 0 := by rw [Int.tmod_eq_emod_of_nonneg (by omega)]; omega
              have hW : q.ws ++ sgW q.i x = q.ws ++ [x] := by
                rw [show sgW q.i x = [x] by unfold sgW; rw [hqi, if_pos hm]]
              have hT : q.want ++ (if q.stuck then ([] : Txt) else [32]) ++ sgT q.i x = ((q.want ++ [32]) ++ x) := by
                rw [show sgT q.i x = x by unfold sgT; rw [hqi, if_pos hm], hst]
                simp
              have bl := below_lit wr (.cells #[.string ⟨x.toArray⟩] 9)
              have hsl : (wr.alloc (.cells #[.string ⟨x.toArray⟩] 9)).heap.size = wr.heap.size + 1 := World.size_alloc ..
              obtain ⟨rv', w3, r1, o1, g1, -⟩ := appS_own (HO.out.keep bl) (fs_lit scell_len wr 9 [x]) (by omega) (by simp; omega)
              have HBF := Lib.hid ((HO.out.keep bl).below (HB2.out.trans (bl.mono hbs)) (by omega) g1)
              have c3 := HTC.out _ HBF.out
              have HOF : Hid (SOwn V.heap.size w3 rv' (cNo :: (q.ws ++ sgW q.i x))) := Lib.hid (by rw [hW]; exact o1)
              obtain ⟨ra, rc, rfl⟩ := (FOwn.sl scell_len HO.out).len
              obtain ⟨za, zc, rfl⟩ := (FOwn.sl scell_len o1).len
              obtain ⟨n0, hn0⟩ : ∃ n, (cNo :: q.ws).length = n := ⟨_, rfl⟩
              obtain ⟨n1, hn1⟩ : ∃ n, (cNo :: q.ws ++ [x]).length = n := ⟨_, rfl⟩
              rw [hn1] at r1 HOF
              rw [hn0] at r1
              have r1' : (appS #[.slice ra n0 rc, .slice (some ⟨wr.heap.size, 0, none⟩) 1 1]).run Try.prog (wr.alloc (.cells #[.string ⟨x.toArray⟩] 9)) = .ok (.value (.slice za n1 zc)) w3 := r1
              simp only [hn0]
              obtain ⟨z0, hz0⟩ : ∃ z, q.want = z := ⟨_, rfl⟩
              have hz0l : z0.length ≤ 600 := by rw [← hz0]; exact hqw9.1
              rw [hz0] at hT
              obtain ⟨z1, hz1⟩ : ∃ z, z0 ++ [32] = z := ⟨_, rfl⟩
              have hz1l : z1.length ≤ 1200 := by rw [← hz1]; (try simp); omega
              have a0 : ∀ W, (addS (.string ⟨z0.toArray⟩) (.string ⟨[32].toArray⟩)).run Try.prog W = .ok (.string ⟨z1.toArray⟩) W := fun W => by rw [str_add z0 [32] (by (try simp); omega) W, hz1]
              rw [hz1] at hT
              clear hz1
              obtain ⟨z2, hz2⟩ : ∃ z, z1 ++ x = z := ⟨_, rfl⟩
              have hz2l : z2.length ≤ 1800 := by rw [← hz2]; (try simp); omega
              have a1 : ∀ W, (addS (.string ⟨z1.toArray⟩) (.string ⟨x.toArray⟩)).run Try.prog W = .ok (.string ⟨z2.toArray⟩) W := fun W => by rw [str_add z1 x (by (try simp); omega) W, hz2]
              rw [hz2] at hT
              clear hz2
              have HN : Hid ((l.take (j + 1)).foldl sgF sg0 = ⟨q.i + 1, q.ws ++ sgW q.i x, z2, false⟩) := Lib.hid (by rw [hnx]; unfold sgF; rw [hz0, hT])
              try rw [hst]
              try rw [hz0]
              clear hW hT bl hsl r1 o1 g1 hn0 hn1 hnx hst hqi hqs hql hx hz0 hbs HO HB2 hq hqw9
              go_wp2_with fail
              go_roundw
              case rel => exact ⟨j + 1, by omega, by go_num, by rw [HN.out], by rw [HN.out], by rw [HN.out]; exact HOF, HBF⟩
              case measure => (simp [intOf]; try omega)
            · have hm3 : (j : Int) % 3 = 1 := by omega
              have hm4 : Int.tmod (j : Int) 3 = 1 := by rw [Int.tmod_eq_emod_of_nonneg (by omega)]; omega
              have hW : q.ws ++ sgW q.i x = q.ws ++ [x, [44]] := by
                rw [show sgW q.i x = [x, [44]] by unfold sgW; rw [hqi, if_neg (by omega), if_pos hm]]
              have hT : q.want ++ (if q.stuck then ([] : Txt) else [32]) ++ sgT q.i x = (((q.want ++ [32]) ++ x) ++ [44]) := by
                rw [show sgT q.i x = x ++ [44] by unfold sgT; rw [hqi, if_neg (by omega), if_pos hm], hst]
                simp
              have bl := below_lit wr (.cells #[.string ⟨x.toArray⟩, .string ⟨#[44]⟩] 9)
              have hsl : (wr.alloc (.cells #[.string ⟨x.toArray⟩, .string ⟨#[44]⟩] 9)).heap.size = wr.heap.size + 1 := World.size_alloc ..
              obtain ⟨rv', w3, r1, o1, g1, -⟩ := appS_own (HO.out.keep bl) (fs_lit scell_len wr 9 [x, [44]]) (by omega) (by simp; omega)
              have HBF := Lib.hid ((HO.out.keep bl).below (HB2.out.trans (bl.mono hbs)) (by omega) g1)
              have c3 := HTC.out _ HBF.out
              have HOF : Hid (SOwn V.heap.size w3 rv' (cNo :: (q.ws ++ sgW q.i x))) := Lib.hid (by rw [hW]; exact o1)
              obtain ⟨ra, rc, rfl⟩ := (FOwn.sl scell_len HO.out).len
              obtain ⟨za, zc, rfl⟩ := (FOwn.sl scell_len o1).len
              obtain ⟨n0, hn0⟩ : ∃ n, (cNo :: q.ws).length = n := ⟨_, rfl⟩
              obtain ⟨n1, hn1⟩ : ∃ n, (cNo :: q.ws ++ [x, [44]]).length = n := ⟨_, rfl⟩
              rw [hn1] at r1 HOF
              rw [hn0] at r1
              have r1' : (appS #[.slice ra n0 rc, .slice (some ⟨wr.heap.size, 0, none⟩) 2 2]).run Try.prog (wr.alloc (.cells #[.string ⟨x.toArray⟩, .string ⟨#[44]⟩] 9)) = .ok (.value (.slice za n1 zc)) w3 := r1
              simp only [hn0]
              obtain ⟨z0, hz0⟩ : ∃ z, q.want = z := ⟨_, rfl⟩
              have hz0l : z0.length ≤ 600 := by rw [← hz0]; exact hqw9.1
              rw [hz0] at hT
              obtain ⟨z1, hz1⟩ : ∃ z, z0 ++ [32] = z := ⟨_, rfl⟩
              have hz1l : z1.length ≤ 1200 := by rw [← hz1]; (try simp); omega
              have a0 : ∀ W, (addS (.string ⟨z0.toArray⟩) (.string ⟨[32].toArray⟩)).run Try.prog W = .ok (.string ⟨z1.toArray⟩) W := fun W => by rw [str_add z0 [32] (by (try simp); omega) W, hz1]
              rw [hz1] at hT
              clear hz1
              obtain ⟨z2, hz2⟩ : ∃ z, z1 ++ x = z := ⟨_, rfl⟩
              have hz2l : z2.length ≤ 1800 := by rw [← hz2]; (try simp); omega
              have a1 : ∀ W, (addS (.string ⟨z1.toArray⟩) (.string ⟨x.toArray⟩)).run Try.prog W = .ok (.string ⟨z2.toArray⟩) W := fun W => by rw [str_add z1 x (by (try simp); omega) W, hz2]
              rw [hz2] at hT
              clear hz2
              obtain ⟨z3, hz3⟩ : ∃ z, z2 ++ [44] = z := ⟨_, rfl⟩
              have hz3l : z3.length ≤ 2400 := by rw [← hz3]; (try simp); omega
              have a2 : ∀ W, (addS (.string ⟨z2.toArray⟩) (.string ⟨[44].toArray⟩)).run Try.prog W = .ok (.string ⟨z3.toArray⟩) W := fun W => by rw [str_add z2 [44] (by (try simp); omega) W, hz3]
              rw [hz3] at hT
              clear hz3
              have HN : Hid ((l.take (j + 1)).foldl sgF sg0 = ⟨q.i + 1, q.ws ++ sgW q.i x, z3, false⟩) := Lib.hid (by rw [hnx]; unfold sgF; rw [hz0, hT])
              try rw [hst]
              try rw [hz0]
              clear hW hT bl hsl r1 o1 g1 hn0 hn1 hnx hst hqi hqs hql hx hz0 hbs HO HB2 hq hqw9
              go_wp2_with fail
              go_roundw
              case rel => exact ⟨j + 1, by omega, by go_num, by rw [HN.out], by rw [HN.out], by rw [HN.out]; exact HOF, HBF⟩
              case measure => (simp [intOf]; try omega)
            · have hm3 : (j : Int) % 3 = 2 := by omega
              have hm4 : Int.tmod (j : Int) 3 = 2 := by rw [Int.tmod_eq_emod_of_nonneg (by omega)]; omega
              have hW : q.ws ++ sgW q.i x = q.ws ++ [[40], x] := by
                rw [show sgW q.i x = [[40], x] by unfold sgW; rw [hqi, if_neg (by omega), if_neg (by omega)]]
              have hT : q.want ++ (if q.stuck then ([] : Txt) else [32]) ++ sgT q.i x = (((q.want ++ [32]) ++ [40]) ++ x) := by
                rw [show sgT q.i x = 40 :: x by unfold sgT; rw [hqi, if_neg (by omega), if_neg (by omega)], hst]
                simp
              have bl := below_lit wr (.cells #[.string ⟨#[40]⟩, .string ⟨x.toArray⟩] 9)
              have hsl : (wr.alloc (.cells #[.string ⟨#[40]⟩, .string ⟨x.toArray⟩] 9)).heap.size = wr.heap.size + 1 := World.size_alloc ..
              obtain ⟨rv', w3, r1, o1, g1, -⟩ := appS_own (HO.out.keep bl) (fs_lit scell_len wr 9 [[40], x]) (by omega) (by simp; omega)
              have HBF := Lib.hid ((HO.out.keep bl).below (HB2.out.trans (bl.mono hbs)) (by omega) g1)
              have c3 := HTC.out _ HBF.out
              have HOF : Hid (SOwn V.heap.size w3 rv' (cNo :: (q.ws ++ sgW q.i x))) := Lib.hid (by rw [hW]; exact o1)
              obtain ⟨ra, rc, rfl⟩ := (FOwn.sl scell_len HO.out).len
              obtain ⟨za, zc, rfl⟩ := (FOwn.sl scell_len o1).len
              obtain ⟨n0, hn0⟩ : ∃ n, (cNo :: q.ws).length = n := ⟨_, rfl⟩
              obtain ⟨n1, hn1⟩ : ∃ n, (cNo :: q.ws ++ [[40], x]).length = n := ⟨_, rfl⟩
              rw [hn1] at r1 HOF
              rw [hn0] at r1
              have r1' : (appS #[.slice ra n0 rc, .slice (some ⟨wr.heap.size, 0, none⟩) 2 2]).run Try.prog (wr.alloc (.cells #[.string ⟨#[40]⟩, .string ⟨x.toArray⟩] 9)) = .ok (.value (.slice za n1 zc)) w3 := r1
              simp only [hn0]
              obtain ⟨z0, hz0⟩ : ∃ z, q.want = z := ⟨_, rfl⟩
              have hz0l : z0.length ≤ 600 := by rw [← hz0]; exact hqw9.1
              rw [hz0] at hT
              obtain ⟨z1, hz1⟩ : ∃ z, z0 ++ [32] = z := ⟨_, rfl⟩
              have hz1l : z1.length ≤ 1200 := by rw [← hz1]; (try simp); omega
              have a0 : ∀ W, (addS (.string ⟨z0.toArray⟩) (.string ⟨[32].toArray⟩)).run Try.prog W = .ok (.string ⟨z1.toArray⟩) W := fun W => by rw [str_add z0 [32] (by (try simp); omega) W, hz1]
              rw [hz1] at hT
              clear hz1
              obtain ⟨z2, hz2⟩ : ∃ z, z1 ++ [40] = z := ⟨_, rfl⟩
              have hz2l : z2.length ≤ 1800 := by rw [← hz2]; (try simp); omega
              have a1 : ∀ W, (addS (.string ⟨z1.toArray⟩) (.string ⟨[40].toArray⟩)).run Try.prog W = .ok (.string ⟨z2.toArray⟩) W := fun W => by rw [str_add z1 [40] (by (try simp); omega) W, hz2]
              rw [hz2] at hT
              clear hz2
              obtain ⟨z3, hz3⟩ : ∃ z, z2 ++ x = z := ⟨_, rfl⟩
              have hz3l : z3.length ≤ 2400 := by rw [← hz3]; (try simp); omega
              have a2 : ∀ W, (addS (.string ⟨z2.toArray⟩) (.string ⟨x.toArray⟩)).run Try.prog W = .ok (.string ⟨z3.toArray⟩) W := fun W => by rw [str_add z2 x (by (try simp); omega) W, hz3]
              rw [hz3] at hT
              clear hz3
              have HN : Hid ((l.take (j + 1)).foldl sgF sg0 = ⟨q.i + 1, q.ws ++ sgW q.i x, z3, false⟩) := Lib.hid (by rw [hnx]; unfold sgF; rw [hz0, hT])
              try rw [hst]
              try rw [hz0]
              clear hW hT bl hsl r1 o1 g1 hn0 hn1 hnx hst hqi hqs hql hx hz0 hbs HO HB2 hq hqw9
              go_wp2_with fail
              go_roundw
              case rel => exact ⟨j + 1, by omega, by go_num, by rw [HN.out], by rw [HN.out], by rw [HN.out]; exact HOF, HBF⟩
              case measure => (simp [intOf]; try omega)
        · obtain rfl : j = l.length := by omega
          have hlt' : ¬ (l.length : Int) < (l.length : Int) := by omega
          rw [List.take_length] at HO ⊢
          have hlaw := signs_law [120] l HA.out
          have hmem := sg_mem l sg0 500 (by omega) HML.out (fun w h => by cases h)
          have hql := sg_len l sg0
          obtain ⟨q, hq⟩ : ∃ q, l.foldl sgF sg0 = q := ⟨_, rfl⟩
          rw [hq] at HO hlaw hmem hql ⊢
          have hqw9 : q.want.length ≤ 600 ∧ q.ws.length ≤ 100 := by simp only [sg0, List.length_nil] at hql; omega
          have HPL : Hid (pcL (phr [120] (cNo :: q.ws)).p ≤ 500000) := Lib.hid (by
            have := (PB.phr [120] (by decide) (cNo :: q.ws) (fun x hx => by
              rcases List.mem_cons.1 hx with z | z
              · rw [z]; decide
              · have := hmem x z; omega)).g
            simp only [List.length_cons] at this
            omega)
          have HP := Lib.hid (pieces_any [120] (cNo :: q.ws) u7 wr (FOwn.sl scell_len HO.out) (by decide) (by simp; omega) (fun x hx => by
            rcases List.mem_cons.1 hx with z | z
            · rw [z]; decide
            · have := hmem x z; omega))
          obtain ⟨ph, hph⟩ : ∃ p, phr [120] (cNo :: q.ws) = p := ⟨_, rfl⟩
          rw [hph] at HP hlaw HPL
          have HLW := Lib.hid hlaw
          have HB3 := Lib.hid (HB.out.trans HB2.out)
          have HQ9 := Lib.hid hqw9
          obtain ⟨ra, rc, rfl⟩ := (FOwn.sl scell_len HO.out).len
          obtain ⟨n0, hn0⟩ : ∃ n, (cNo :: q.ws).length = n := ⟨_, rfl⟩
          rw [hn0] at HP
          simp only [hn0]
          clear hlaw hmem hql hq hqw9 hph hn0 HO HB2 HA HML
          go_wp2_with fail
          refine HP.out.mono ?_
          rintro e w3 ⟨pr, dv, P, rfl, o1, o2, o3, b3⟩
          have HJ := Lib.hid (djoin_any ph.p pr w3 (PcsR.of o1 o2) HPL.out)
          have B3 := Lib.hid (HB3.out.trans (b3.mono HB3.out.size))
          obtain ⟨da, dc, hd⟩ := (FOwn.sl edcell_len o3).len
          have hd0 : dv = .slice da 0 dc := by rw [hd, HLW.out.1]; rfl
          subst hd0
          obtain ⟨pa, pc, hp⟩ := (FOwn.sl pccell_len o1).len
          obtain ⟨pn, hpn⟩ : ∃ n, P.length = n := ⟨_, rfl⟩
          rw [hpn] at hp
          subst hp
          clear o1 o2 o3 b3 HP hd hpn
          go_wp2_with fail
          refine HJ.out.mono ?_
          rintro e w4 ⟨x, rfl, o4, b4⟩
          rw [HLW.out.2.1] at o4
          have HT := Lib.hid (gtext_any (lettG 0 q.want) x w4 (FOwn.sl gcell_len o4) (lett_hi 0 q.want) (by have := HQ9.out.1; unfold lettG; rw [List.length_map]; omega))
          rw [show enc (rn (lettG 0 q.want)) = q.want from enc_lett 0 q.want HLW.out.2.2] at HT
          have B4 := Lib.hid (B3.out.trans (b4.mono B3.out.size))
          obtain ⟨xa, xc, rfl⟩ := (FOwn.sl gcell_len o4).len
          obtain ⟨z, hz⟩ : ∃ z, q.want = z := ⟨_, rfl⟩
          obtain ⟨zn, hzn⟩ : ∃ m, (lettG 0 z).length = m := ⟨_, rfl⟩
          rw [hz, hzn] at HT
          simp only [hz, hzn]
          clear o4 b4 HJ HLW HQ9 hz hzn
          go_wp2_with fail
          refine HT.out.mono ?_
          rintro e w5 ⟨rfl, b5⟩
          have B5 := Lib.hid (B4.out.trans (b5.mono B4.out.size))
          clear b5 HT
          go_wp2_with fail
          refine (HK.out _).mono ?_
          rintro e w6 ⟨rfl, b6⟩
          have B6 := Lib.hid (B5.out.trans (b6.mono B5.out.size))
          clear b6
          go_wp2_with fail
          go_ret
          exact ⟨rfl, B6.out⟩
end Go.Proofs.Ytpcbbhfbldchlaa
