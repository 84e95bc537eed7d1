/- MdocJoins, walked. -/
import Derived.Test.YtpcbbhfbldchlaaAe
import Derived.Test.YtpcbbhfbldchlaaQ2
set_option linter.unusedVariables false
set_option linter.unusedSimpArgs false
namespace Go.Proofs.Ytpcbbhfbldchlaa
open Go.RowKit
theorem take_all {α : Type} {P : α → Prop} {l : List α} {j : Nat} {x : α} (h : l[j]? = some x) (h1 : ∀ y ∈ l.take j, P y) (h2 : P x) : ∀ y ∈ l.take (j + 1), P y := fun y hy => by
  rw [List.take_add_one, h] at hy
  rcases List.mem_append.1 hy with q | q
  · exact h1 y q
  · simp at q
    rw [q]; exact h2
theorem pcL_next {l : List Pc} {j : Nat} {p : Pc} (h : l[j]? = some p) : pcL (l.take (j + 1)) = pcL (l.take j) + 1 + p.g.length := by
  have h4 : ∀ (a : List Pc) (q : Pc), pcL (a ++ [q]) = pcL a + 1 + q.g.length := fun a q => by
    induction a with
    | nil => simp [pcL]
    | cons y a ih => simp only [List.cons_append, pcL, ih]; omega
  rw [List.take_add_one, h]
  exact h4 _ _
theorem pcL_count : ∀ l : List Pc, l.length ≤ pcL l
  | [] => by simp [pcL]
  | p :: l => by have := pcL_count l; simp only [pcL, List.length_cons]; omega
theorem ink_next {l : List Gly} {j : Nat} {g : Gly} (h : l[j]? = some g) : ink (l.take (j + 1)) = if g.1 = 32 then ink (l.take j) else ink (l.take j) ++ [g] := by
  rw [List.take_add_one, h]
  simp only [Option.toList_some]
  rw [ink_two]
  by_cases hg : g.1 = 32
  · rw [if_pos hg]
    have : ink [g] = [] := by simp [ink, hg]
    rw [this, List.append_nil]
  · rw [if_neg hg]
    have : ink [g] = [g] := by simp [ink, hg]
    rw [this]
attribute [local go_sem ↓ high] builtin_appG
set_option maxRecDepth 100000 in
set_option maxHeartbeats 16000000 in
theorem mdocjoins_any (l : List Pc) (v : Value) (w : World) (hv : PcsR w v l) (hl : pcL l ≤ 4000000) :
    Calls Try.prog 3 #[v] w fun e w' => e = .returned (.bool true) ∧ Below w.heap.size w w' := by
  have HV := Lib.hid hv
  obtain ⟨va, vc, rfl⟩ := hv.len
  have hll := pcL_count l
  have HK := Lib.hid (fun W => known11_any W)
  have HL := Lib.hid hl
  clear hv
  go_enter Try.func3, Try.ntmps3
  go_wp2_with fail
  go_loopw [3, 4, 5] (fun nv iv _ wr => ∃ j : Nat, j ≤ l.length ∧ iv = .int .i64 (j : Int) ∧ nv = .int .i64 (pcL (l.take j) : Int) ∧ Hid (∀ p ∈ l.take j, ∀ g ∈ p.g, g.1 ≠ 32) ∧ Hid (Below w.heap.size w wr)) (fun _ i _ _ => l.length - (intOf i).toNat)
  case atStart => exact ⟨0, by omega, rfl, rfl, Lib.hid (fun p h => by simp at h), Lib.hid (Below.refl _ _)⟩
  case round =>
    obtain ⟨j, hj, rfl, rfl, HA, HB⟩ := hrel
    have hj0 : (0 : Int) ≤ (j : Int) := by omega
    have hn1 := take_pcL l j
    by_cases hlt : j < l.length
    · obtain ⟨p, hp⟩ : ∃ p, l[j]? = some p := ⟨l[j], List.getElem?_eq_getElem hlt⟩
      have hlt' : (j : Int) < (l.length : Int) := by omega
      obtain ⟨g, off, xa, xc, rfl, m0, m1, m2, hg0⟩ := PcsR.at HV.out hp
      have hg1 := World.block_lt_of_cell? w _ m0
      have k0 := (HB.out.cell hg1).trans m0
      have hnx := pcL_next hp
      have hn2 := take_pcL l (j + 1)
      have HG := Lib.hid hg0
      obtain ⟨N, hN⟩ : ∃ N, pcL (l.take j) = N := ⟨_, rfl⟩
      obtain ⟨M, hM⟩ : ∃ N, p.g.length = N := ⟨_, rfl⟩
      rw [hN] at hnx hn1 ⊢
      rw [hM] at k0 m0 hnx HG
      have HNX := Lib.hid hnx
      have hN0 : (N : Int) ≤ 4000000 := by omega
      have hM0 : (M : Int) ≤ 4000000 := by omega
      have HP := Lib.hid hp
      have M0 := Lib.hid m0
      clear hg0 m0 m1 m2 hp hnx hN hn1 hn2
      go_wp2_with fail
      go_loopw [5] (fun kv wr2 => ∃ q : Nat, q ≤ M ∧ kv = .int .i64 (q : Int) ∧ Hid (∀ y ∈ p.g.take q, y.1 ≠ 32) ∧ Hid (Below w.heap.size w wr2)) (fun i _ => M - (intOf i).toNat)
      case atStart => exact ⟨0, by omega, rfl, Lib.hid (fun y h => by simp at h), HB⟩
      case round =>
        obtain ⟨q, hq, rfl, HQ, HB2⟩ := hrel
        have c0 := (HB2.out.cell hg1).trans M0.out
        have hq0 : (0 : Int) ≤ (q : Int) := by omega
        by_cases hqt : q < M
        · obtain ⟨y, hy⟩ : ∃ y, p.g[q]? = some y := ⟨p.g[q]'(by omega), List.getElem?_eq_getElem (by omega)⟩
          have hqt' : (q : Int) < (M : Int) := by omega
          obtain ⟨gb, go, rfl, c1, c2, -⟩ := Gs.at (Fs.below HG.out HB2.out) hy
          have HY := Lib.hid hy
          have HKn := Lib.hid (HK.out wr)
          by_cases h32 : y.1 = 32
          · rw [h32] at c1
            clear hy
            go_wp2_with fail
            refine HKn.out.mono ?_
            rintro e w2 ⟨rfl, b2⟩
            have B3 := Lib.hid (HB2.out.trans (b2.mono HB2.out.size))
            clear b2
            go_wp2_with fail
            go_ret
            exact ⟨rfl, B3.out⟩
          · have H32 := Lib.hid h32
            clear hy
            go_wp2_with fail
            go_roundw
            case rel => exact ⟨q + 1, by omega, by go_num, Lib.hid (take_all HY.out HQ.out H32.out), HB2⟩
            case measure => (simp [intOf]; try omega)
        · obtain rfl : q = M := by omega
          have hqt' : ¬ (q : Int) < (q : Int) := by omega
          have hall : ∀ y ∈ p.g, y.1 ≠ 32 := by have := HQ.out; rw [← hM, List.take_length] at this; exact this
          have HALL := Lib.hid (take_all HP.out HA.out hall)
          clear hall HQ
          go_wp2_with fail
          go_roundw
          case rel => exact ⟨j + 1, by omega, by go_num, by rw [HNX.out]; go_num, HALL, HB2⟩
          case measure => (simp [intOf]; try omega)
    · obtain rfl : j = l.length := by omega
      have hlt' : ¬ (l.length : Int) < (l.length : Int) := by omega
      rw [List.take_length] at HA ⊢
      have hN0 : (pcL l : Int) ≤ 4000000 := by omega
      by_cases h300 : 300 < pcL l
      · have h3' : (300 : Int) < (pcL l : Int) := by omega
        have HKn := Lib.hid (HK.out wr)
        go_wp2_with fail
        refine HKn.out.mono ?_
        rintro e w2 ⟨rfl, b2⟩
        have B3 := Lib.hid (HB.out.trans (b2.mono HB.out.size))
        clear b2
        go_wp2_with fail
        go_ret
        exact ⟨rfl, B3.out⟩
      · have h3' : ¬ (300 : Int) < (pcL l : Int) := by omega
        have HJ := Lib.hid (djoin_any l _ wr (HV.out.below HB.out) (by omega))
        have HLAW := Lib.hid (joins_law l HA.out)
        have hjl := joinP_len l
        obtain ⟨PL, hPL⟩ : ∃ n, pcL l = n := ⟨_, rfl⟩
        have HPL := Lib.hid hPL
        have HJL := Lib.hid hjl
        rw [hPL] at hN0 h3' h300 ⊢
        have hP300 : PL ≤ 300 := by omega
        have hl300 : (l.length : Int) ≤ 300 := by omega
        clear HA hN0 hn1 hjl hPL h300 hll
        go_wp2_with fail
        refine HJ.out.mono ?_
        rintro e w3 ⟨jv, rfl, o1, b3⟩
        obtain ⟨ja, jc, rfl⟩ := (FOwn.sl gcell_len o1).len
        have OJ := Lib.hid (FOwn.sl gcell_len o1)
        have B3 := Lib.hid (HB.out.trans (b3.mono HB.out.size))
        clear o1 b3 HJ
        go_wp2_with fail
        have bz := below_lit w3 (.cells #[.slice none 0 0, .bool false, .bool false] 25)
        have HZ0 : Hid (∃ sl, Blk (w3.alloc (.cells #[.slice none 0 0, .bool false, .bool false] 25)) w3.heap.size 25 [sl, .bool jl0.last.l, .bool jl0.last.r]) := Lib.hid ⟨.slice none 0 0, heap_alloc_new w3 _⟩
        have HBZ := Lib.hid bz
        clear bz
        go_loopw [7, 9, 10, 11] (fun av fv nv iv wr => ∃ j : Nat, j ≤ l.length ∧ iv = .int .i64 (j : Int) ∧ fv = .bool ((l.take j).foldl jlF jl0).first ∧ nv = .int .i64 (((l.take j).foldl jlF jl0).n : Int) ∧ Hid (GOwn w3.heap.size wr av ((l.take j).foldl jlF jl0).all) ∧ Hid (∃ sl, Blk wr w3.heap.size 25 [sl, .bool ((l.take j).foldl jlF jl0).last.l, .bool ((l.take j).foldl jlF jl0).last.r]) ∧ Hid (Below w3.heap.size w3 wr)) (fun _ _ _ i _ => l.length - (intOf i).toNat)
        case atStart => exact ⟨0, by omega, rfl, rfl, rfl, Lib.hid (FOwn.nil _ _), HZ0, HBZ⟩
        case round =>
          obtain ⟨j, hj, rfl, rfl, rfl, HO, HX, HB4⟩ := hrel
          have hj0 : (0 : Int) ≤ (j : Int) := by omega
          have hql := jlF_len (l.take j) jl0
          have hqp := take_pcL l j
          by_cases hlt : j < l.length
          · obtain ⟨p, hp⟩ : ∃ p, l[j]? = some p := ⟨l[j], List.getElem?_eq_getElem hlt⟩
            have hlt' : (j : Int) < (l.length : Int) := by omega
            obtain ⟨g, off, xa, xc, rfl, m0, m1, m2, hg0⟩ := PcsR.at HV.out hp
            have bw := B3.out.trans (HB4.out.mono B3.out.size)
            have k0 := (bw.cell (World.block_lt_of_cell? w _ m0)).trans m0
            have k1 := (bw.cell (World.block_lt_of_cell? w _ m1)).trans m1
            have k2 := (bw.cell (World.block_lt_of_cell? w _ m2)).trans m2
            have hnx := foldl_take jlF jl0 hp
            have hpn := pcL_next hp
            have hpm := take_pcL l (j + 1)
            have hPL2 := HPL.out
            obtain ⟨q, hq⟩ : ∃ q, (l.take j).foldl jlF jl0 = q := ⟨_, rfl⟩
            rw [hq] at HO HX hnx hql ⊢
            have hqa : q.all.length ≤ 300 ∧ q.n ≤ 300 ∧ p.g.length ≤ 300 := by simp only [jl0, List.length_nil] at hql; omega
            by_cases hz : p.g = []
            · have e : jlF q p = q := by unfold jlF; rw [if_pos hz]
              rw [e] at hnx
              have hz0 : p.g.length = 0 := by rw [hz]; rfl
              rw [hz0] at k0
              have HN := Lib.hid hnx
              clear m0 m1 m2 hg0 bw hnx hpn hpm hPL2 hq e hz hz0 hp hql hqp hqa
              go_wp2_with fail
              go_roundw
              case rel => exact ⟨j + 1, by omega, by go_num, by rw [HN.out], by rw [HN.out], by rw [HN.out]; exact HO, by rw [HN.out]; exact HX, HB4⟩
              case measure => (simp [intOf]; try omega)
            · have hzn : ¬ (p.g.length : Int) = 0 := fun e => hz (List.eq_nil_of_length_eq_zero (by omega))
              obtain ⟨sl, hX⟩ := HX.out
              have x2 := hX.cell 2
              obtain ⟨av', w5, r1, o2, g1, -⟩ := appG_own HO.out (Fs.below hg0 bw) HB4.out.size (by omega)
              have b5 := HO.out.below HB4.out HB4.out.size g1
              have hE5 : Exc (fun k => u7.ownBlock = some k) wr w5 := ⟨g1.os, g1.tape, g1.output, g1.size, fun k hk hx => g1.block k hk (fun e => hx e.symm)⟩
              have hX5 := hE5.blk hX (fun e => own_ne HO.out hX (by decide) e rfl)
              have bw5 := B3.out.trans (b5.mono B3.out.size)
              have t0 := (bw5.cell (World.block_lt_of_cell? w _ m0)).trans m0
              have t1 := (bw5.cell (World.block_lt_of_cell? w _ m1)).trans m1
              have t2 := (bw5.cell (World.block_lt_of_cell? w _ m2)).trans m2
              have y0 := hX5.cell 0
              have y1 := hX5.cell 1
              have y2 := hX5.cell 2
              have f0 : w5.frozen? ⟨w3.heap.size, 0, none⟩ = false := hX5.frozen (by simp)
              have f1 : w5.frozen? ⟨w3.heap.size, 1, none⟩ = false := hX5.frozen (by simp)
              have f2 : w5.frozen? ⟨w3.heap.size, 2, none⟩ = false := hX5.frozen (by simp)
              have e : jlF q p = ⟨q.all ++ p.g, if q.first = false ∧ q.last.r = false ∧ p.l = false then q.n + 1 else q.n, p, false⟩ := by unfold jlF; rw [if_neg hz]
              rw [e] at hnx
              obtain ⟨F, hF⟩ : ∃ F, ((w5.setCell ⟨w3.heap.size, 0, none⟩ (.slice xa p.g.length xc)).setCell ⟨w3.heap.size, 1, none⟩ (.bool p.l)).setCell ⟨w3.heap.size, 2, none⟩ (.bool p.r) = F := ⟨_, rfl⟩
              have hXF : Blk F w3.heap.size 25 [.slice xa p.g.length xc, .bool p.l, .bool p.r] := by rw [← hF]; exact ((hX5.set 0 _).set 1 _).set 2 _
              have hEF : Exc (fun k => k = w3.heap.size) w5 F := by rw [← hF]; exact (((Exc.refl (fun k => k = w3.heap.size) w5).set 0 _ (fun _ => rfl)).set 1 _ (fun _ => rfl)).set 2 _ (fun _ => rfl)
              have HOF : Hid (GOwn w3.heap.size F av' (q.all ++ p.g)) := Lib.hid (o2.kp (fun k e => hEF.block k (o2.ltb e) (own_ne o2 hX5 (by decide) e)))
              have HBF : Hid (Below w3.heap.size w3 F) := Lib.hid (b5.trans (hEF.below b5.size (fun k hk q => by omega)))
              have HXF : Hid (∃ sl, Blk F w3.heap.size 25 [sl, .bool p.l, .bool p.r]) := Lib.hid ⟨_, hXF⟩
              have HN := Lib.hid hnx
              obtain ⟨ra, rc, rfl⟩ := (FOwn.sl gcell_len HO.out).len
              obtain ⟨za, zc, rfl⟩ := (FOwn.sl gcell_len o2).len
              obtain ⟨n0, hn0⟩ : ∃ n, q.all.length = n := ⟨_, rfl⟩
              obtain ⟨n1, hn1⟩ : ∃ n, (q.all ++ p.g).length = n := ⟨_, rfl⟩
              obtain ⟨n2, hn2⟩ : ∃ n, p.g.length = n := ⟨_, rfl⟩
              obtain ⟨pl, hpl⟩ : ∃ b, p.l = b := ⟨_, rfl⟩
              obtain ⟨pr, hpr⟩ : ∃ b, p.r = b := ⟨_, rfl⟩
              obtain ⟨qr, hqr⟩ : ∃ b, q.last.r = b := ⟨_, rfl⟩
              obtain ⟨ql, hqll⟩ : ∃ b, q.last.l = b := ⟨_, rfl⟩
              obtain ⟨qf, hqf⟩ : ∃ b, q.first = b := ⟨_, rfl⟩
              obtain ⟨qn, hqn⟩ : ∃ b, q.n = b := ⟨_, rfl⟩
              have hqn3 : (qn : Int) ≤ 300 := by omega
              rw [hn1] at r1
              rw [hn0, hn2] at r1
              rw [hn1] at HOF
              rw [hn2] at k0 t0 hzn hF
              rw [hpl] at k1 t1 hF HXF
              rw [hpr] at k2 t2 hF HXF
              rw [hqr] at x2 y2
              rw [hqll] at y1
              rw [hqr, hqf, hqn, hpl] at HN
              rw [hqf, hqn, hn0]
              clear m0 m1 m2 hg0 bw hnx hpn hpm hPL2 hq e hz hp hql hqp hqa hX o2 g1 b5 hE5 hX5 bw5 hXF hEF hn0 hn1 hn2 HO HX HB4
              have HPd : Hid (p.l = pl ∧ p.r = pr) := Lib.hid ⟨hpl, hpr⟩
              clear hpl hpr hqr hqll hqf hqn
              cases qf <;> cases qr <;> cases pl
              all_goals
                go_wp2_with fail
                try rw [hF]
                go_roundw
                case rel => exact ⟨j + 1, by omega, by go_num, by rw [HN.out], by rw [HN.out]; first | rfl | go_num, by rw [HN.out]; exact HOF, by rw [HN.out]; simp only [HPd.out.1, HPd.out.2]; exact HXF, HBF⟩
                case measure => (simp [intOf]; try omega)
          · obtain rfl : j = l.length := by omega
            have hlt' : ¬ (l.length : Int) < (l.length : Int) := by omega
            rw [List.take_length] at HO hql ⊢
            have HLW := HLAW
            obtain ⟨q, hq⟩ : ∃ q, l.foldl jlF jl0 = q := ⟨_, rfl⟩
            rw [hq] at HO hql HLW ⊢
            have hql2 : q.all.length ≤ 300 ∧ q.n ≤ 300 := by have := HPL.out; simp only [jl0, List.length_nil] at hql; omega
            have hJ3 : (joinP l).length ≤ 300 := by have := HPL.out; have := HJL.out; omega
            have hqn3 : (q.n : Int) ≤ 300 := by omega
            have hqa3 : (q.all.length : Int) ≤ 300 := by omega
            have BWR := Lib.hid (B3.out.trans (HB4.out.mono B3.out.size))
            obtain ⟨J, hJ⟩ : ∃ J, joinP l = J := ⟨_, rfl⟩
            rw [hJ] at OJ HLW hJ3
            have hOJ4 := Lib.hid (Fs.below OJ.out HB4.out)
            obtain ⟨qa, qc, rfl⟩ := (FOwn.sl gcell_len HO.out).len
            obtain ⟨NJ, hNJ⟩ : ∃ n, J.length = n := ⟨_, rfl⟩
            rw [hNJ] at hJ3 hOJ4
            have hJ3' : (NJ : Int) ≤ 300 := by omega
            simp only [hJ, hNJ]
            clear hql hq HX HPL HJL HLAW OJ hJ hqp
            obtain ⟨V, rfl⟩ : ∃ V, V = wr := ⟨_, rfl⟩
            go_wp2_with fail
            go_loopw [12, 13] (fun kv iv w6 => ∃ i : Nat, i ≤ NJ ∧ iv = .int .i64 (i : Int) ∧ Hid (GOwn V.heap.size w6 kv (ink (J.take i))) ∧ Hid (Below V.heap.size V w6)) (fun _ i _ => NJ - (intOf i).toNat)
            case atStart => exact ⟨0, by omega, rfl, Lib.hid (FOwn.nil _ _), Lib.hid (Below.refl _ _)⟩
            case round =>
              obtain ⟨i, hi, rfl, HI, HB6⟩ := hrel
              have hi0 : (0 : Int) ≤ (i : Int) := by omega
              by_cases hit : i < NJ
              · obtain ⟨y, hy⟩ : ∃ y, J[i]? = some y := ⟨J[i]'(by omega), List.getElem?_eq_getElem (by omega)⟩
                have hit' : (i : Int) < (NJ : Int) := by omega
                obtain ⟨gb, go, rfl, c1, c2, -⟩ := Gs.at (Fs.below hOJ4.out HB6.out) hy
                have hnx := ink_next hy
                by_cases h32 : y.1 = 32
                · rw [if_pos h32] at hnx
                  have HN := Lib.hid hnx
                  have h2 := HLW.out.bl y (List.mem_of_getElem? hy) h32
                  have hi1 : ¬ (i : Int) = 0 := fun e => by
                    have : i = 0 := by omega
                    subst this
                    exact HLW.out.hd y (by rw [List.head?_eq_getElem?]; exact hy) h32
                  have hi2 : ¬ (i : Int) = (NJ : Int) - 1 := fun e => by
                    have : i = J.length - 1 := by omega
                    subst this
                    exact HLW.out.la y (by rw [List.getLast?_eq_getElem?]; exact hy) h32
                  have hb1 : ((i : Int) == 0) = false := by rw [beq_eq_false_iff_ne]; exact hi1
                  have hb2 : ((i : Int) == (NJ : Int) - 1) = false := by rw [beq_eq_false_iff_ne]; exact hi2
                  have hi1n : ¬ i = 0 := by omega
                  rw [h32] at c1
                  rw [h2] at c2
                  have HI2 : Hid (GOwn V.heap.size wr u12 (ink (J.take (i + 1)))) := Lib.hid (by rw [HN.out]; exact HI.out)
                  clear hy hnx h32 h2
                  go_wp2_with fail
                  go_roundw
                  case rel => exact ⟨i + 1, by omega, by go_num, HI2, HB6⟩
                  case measure => (simp [intOf]; try omega)
                · rw [if_neg h32] at hnx
                  have hkl : (ink (J.take i)).length ≤ 300 := by
                    have h1 : (ink (J.take i)).length ≤ (J.take i).length := List.length_filter_le _ _
                    have h2 : (J.take i).length ≤ J.length := by rw [List.length_take]; omega
                    omega
                  have bl := below_lit wr (.cells #[.int .i32 y.1, .int .u8 y.2] 27)
                  have hbs := HB6.out.size
                  have hsl : (wr.alloc (.cells #[.int .i32 y.1, .int .u8 y.2] 27)).heap.size = wr.heap.size + 1 := World.size_alloc ..
                  obtain ⟨kv', w7, r1, o1, g1, -⟩ := appG_own (HI.out.keep bl) (fs_lit gcell_len wr 27 [y]) (by omega) (by simp; omega)
                  have HBF := Lib.hid ((HI.out.keep bl).below (HB6.out.trans (bl.mono hbs)) (by omega) g1)
                  have HOF : Hid (GOwn V.heap.size w7 kv' (ink (J.take (i + 1)))) := Lib.hid (by rw [hnx]; exact o1)
                  obtain ⟨ra, rc, rfl⟩ := (FOwn.sl gcell_len HI.out).len
                  obtain ⟨za, zc, rfl⟩ := (FOwn.sl gcell_len o1).len
                  obtain ⟨n0, hn0⟩ : ∃ n, (ink (J.take i)).length = n := ⟨_, rfl⟩
                  obtain ⟨n1, hn1⟩ : ∃ n, (ink (J.take i) ++ [y]).length = n := ⟨_, rfl⟩
                  rw [hn1] at r1 HOF
                  rw [hn0] at r1
                  have r1' : (appG #[.slice ra n0 rc, .slice (some ⟨wr.heap.size, 0, none⟩) 1 1]).run Try.prog (wr.alloc (.cells #[.int .i32 y.1, .int .u8 y.2] 27)) = .ok (.value (.slice za n1 zc)) w7 := r1
                  simp only [hn0]
                  clear hy hnx hkl bl hbs hsl r1 o1 g1 hn0 hn1
                  go_wp2_with fail
                  go_roundw
                  case rel => exact ⟨i + 1, by omega, by go_num, HOF, HBF⟩
                  case measure => (simp [intOf]; try omega)
              · obtain rfl : i = NJ := by omega
                have hit' : ¬ (i : Int) < (i : Int) := by omega
                have hI : ink J = q.all := HLW.out.ik
                have hIT : ink (J.take i) = q.all := by rw [← hNJ, List.take_length]; exact hI
                rw [hIT] at HI
                obtain ⟨ra, rc, rfl⟩ := (FOwn.sl gcell_len HI.out).len
                have HS := Lib.hid (rsameq_any q.all q.all _ _ wr (FOwn.sl gcell_len HI.out) (Fs.below (FOwn.sl gcell_len HO.out) HB6.out) (by omega) (by omega))
                have hln : i = q.all.length + q.n := by have := HLW.out.len; omega
                rw [show decide (q.all = q.all) = true from decide_eq_true rfl] at HS
                have HBF := Lib.hid (BWR.out.trans (HB6.out.mono BWR.out.size))
                have hln' : (i : Int) = (q.all.length : Int) + (q.n : Int) := by omega
                obtain ⟨n0, hn0⟩ : ∃ n, q.all.length = n := ⟨_, rfl⟩
                obtain ⟨n1, hn1⟩ : ∃ n, q.n = n := ⟨_, rfl⟩
                simp only [hn0, hn1] at hln' HS hqn3 hqa3 ⊢
                clear hI hIT hln hn0 hn1 HLW HI HO
                go_wp2_with fail
                refine HS.out.mono ?_
                rintro e w7 ⟨rfl, m, rfl⟩
                have HKn := Lib.hid (HK.out (wr.drewN m))
                have HBD := Lib.hid (below_drewN HBF.out m)
                clear HS
                go_wp2_with fail
                refine HKn.out.mono ?_
                rintro e w8 ⟨rfl, b8⟩
                have HB8 := Lib.hid (HBD.out.trans (b8.mono HBD.out.size))
                clear b8 HKn
                go_wp2_with fail
                go_ret
                exact ⟨rfl, HB8.out⟩
end Go.Proofs.Ytpcbbhfbldchlaa
