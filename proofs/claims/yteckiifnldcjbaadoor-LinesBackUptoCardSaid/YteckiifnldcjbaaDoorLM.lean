/- The walk of LinesBack. -/
import Derived.Test.YteckiifnldcjbaaDoorLJ
import Derived.Test.YteckiifnldcjbaaDoorLK
import Derived.Test.YteckiifnldcjbaaDoorLE
namespace Go.Proofs.YteckiifnldcjbaaDoor
open Go.RowKit
attribute [local go_sem ↓ high] binop_addS binop_eqlS binop_neqS builtin_appR

theorem oks_le (l : List Row) (p : Nat) : (oks (l.take p)).length ≤ l.length := by
  have h1 := List.length_filter_le okY (l.take p)
  rw [List.length_take] at h1
  unfold oks
  omega
theorem oks_mem {l : List Row} {y : Row} (h : y ∈ oks l) : y ∈ l := (List.mem_filter.1 h).1
theorem nums_mem : ∀ (n : Nat) (l : List Row) {x : Row}, x ∈ nums n l → ∃ y ∈ l, x.2 = y.2
  | _, [], _, h => by simp [nums] at h
  | n, y :: l, x, h => by
    simp only [nums, List.mem_cons] at h
    rcases h with rfl | h
    · exact ⟨y, by simp, rfl⟩
    · obtain ⟨z, hz, e⟩ := nums_mem (n + 1) l h
      exact ⟨z, by simp [hz], e⟩

set_option maxRecDepth 100000 in
set_option maxHeartbeats 8000000 in
theorem backL_any (l : List Row) (v : Value) (w : World) (hM : Mx w) (hv : Rws w v l) (hB : rowsLen l ≤ 4000000) :
    Calls Tryd.prog 5 #[v] w fun e W' => e = .returned (.bool true) ∧ Below w.heap.size w W' := by
  have hnum := rows_num l
  have har : ∀ y ∈ l, y.2.2.1.length ≤ 4000000000000000000 := fun y hy => by
    have := rowLen_le hy
    unfold rowLen at this
    omega
  have hL := rlong_any l v w hv (by omega) har
  have hwr : IntKind.i64.wrap (rowsLen l : Int) = (rowsLen l : Int) := IntWalk.i64_in _ (by omega)
  rw [hwr] at hL
  have HM := Lib.hid (fun W (h : Below w.heap.size w W) => hM.below (Nat.le_refl _) h)
  have HV := Lib.hid hv
  have HL := Lib.hid hL
  have HK := Lib.hid (fun W h => known_any W h)
  obtain ⟨aa, ca, rfl⟩ := hv.len
  clear hM hL hv hwr har
  obtain ⟨N, hN⟩ : ∃ N, rowsLen l = N := ⟨_, rfl⟩
  rw [hN] at HL hnum hB
  have HNN := Lib.hid hN
  clear hN
  by_cases h2 : 2000 < N
  · have hz : (2000 : Int) < (N : Int) := by omega
    go_enter Tryd.func5, Tryd.ntmps5
    go_wp2_with fail
    refine HL.out.mono ?_
    rintro e w1 ⟨rfl, m, rfl⟩
    have B1 := Lib.hid (below_drewN (Below.refl w.heap.size w) m)
    have K2 := Lib.hid (HK.out _ (HM.out _ B1.out))
    clear HL
    go_wp2_with fail
    refine K2.out.mono ?_
    rintro e w2 ⟨rfl, b2⟩
    have B2 := Lib.hid (B1.out.trans (b2.mono B1.out.size))
    clear b2 K2
    go_wp2_with fail
    go_ret
    exact ⟨rfl, B2.out⟩
  · have hz : ¬ (2000 : Int) < (N : Int) := by omega
    have hln : l.length ≤ 1000 := by omega
    have H0 := Lib.hid (fun m => (RwA.start w).keep (below_drewN (Below.refl w.heap.size w) m))
    go_enter Tryd.func5, Tryd.ntmps5
    go_wp2_with fail
    refine HL.out.mono ?_
    rintro e w1 ⟨rfl, m, rfl⟩
    clear HL
    go_wp2_with fail
    go_loopw [3, 4] (fun u i wr => ∃ j : Nat, j ≤ l.length ∧ i = .int .i64 j ∧ Hid (RwA w wr u (nums 0 (oks (l.take j))))) (fun _ i _ => l.length - (intOf i).toNat)
    case atStart => exact ⟨0, by omega, rfl, Lib.hid (by have h := H0.out m; simpa [oks, nums] using h)⟩
    case round =>
      obtain ⟨j, hj, rfl, HR⟩ := hrel
      clear H0
      have hokl := oks_le l j
      obtain ⟨O, hO⟩ : ∃ O, oks (l.take j) = O := ⟨_, rfl⟩
      rw [hO] at HR hokl
      have HO := Lib.hid hO
      obtain ⟨au, pu, hvu⟩ := HR.out.len
      rw [nums_len] at hvu
      subst hvu
      by_cases hlt : j < l.length
      · obtain ⟨y, hy⟩ : ∃ y, l[j]? = some y := ⟨l[j], List.getElem?_eq_getElem hlt⟩
        have HN := Lib.hid (oks_next hy)
        rw [hO] at HN
        have hyl := rowLen_le (List.mem_iff_getElem?.2 ⟨j, hy⟩)
        rw [HNN.out] at hyl
        have hlt' : (j : Int) < (l.length : Int) := by omega
        have hj0 : (0 : Int) ≤ (j : Int) := by omega
        unfold rowLen at hyl
        obtain ⟨g, off, rfl, c0, c1, ⟨a1, n1, p1, c2, s2⟩, c3⟩ := HV.out.at hy
        obtain ⟨y0, y1, y2, y3⟩ := y
        simp only at c0 c1 c2 c3 s2 hyl HN
        have hel : ∀ x ∈ y2, x.length ≤ 2000 := fun x hx => by have := tot_mem hx; omega
        have HCC : Hid (∀ W, Below w.heap.size w W → W.cell? ⟨g, off + j * 4, none⟩ = some (.int .i64 y0) ∧ W.cell? ⟨g, off + j * 4 + 1, none⟩ = some (.string ⟨y1.toArray⟩) ∧ W.cell? ⟨g, off + j * 4 + 2, none⟩ = some (.slice a1 n1 p1) ∧ W.cell? ⟨g, off + j * 4 + 3, none⟩ = some (.string ⟨y3.toArray⟩)) := Lib.hid (fun W h =>
          ⟨(h.cell (World.block_lt_of_cell? w _ c0)).trans c0, (h.cell (World.block_lt_of_cell? w _ c1)).trans c1, (h.cell (World.block_lt_of_cell? w _ c2)).trans c2, (h.cell (World.block_lt_of_cell? w _ c3)).trans c3⟩)
        have hC := fun W (h : Below w.heap.size w W) => check_any y0 y1 (a1, n1, p1) y2 y3 W (s2.below h) (by omega) (by omega) (by omega) (fun x hx => by have := hel x hx; omega)
        unfold rowV avOf at hC
        simp only at hC
        obtain ⟨q, hq⟩ : ∃ q, okRow y1 y2 y3 = q := ⟨_, rfl⟩
        rw [hq] at hC HN
        have HC := Lib.hid (hC wr HR.out.bel)
        have HS2 := Lib.hid s2
        obtain ⟨d0, d1, d2, d3⟩ := HCC.out wr HR.out.bel
        clear hC c0 c1 c2 c3 s2 hel hy hO hq
        cases q
        · rw [if_neg (by decide)] at HN
          simp only [Bool.false_eq_true, if_false] at HC
          go_wp2_with fail
          refine HC.out.mono ?_
          rintro e w1 ⟨rfl, b1⟩
          have H1 := Lib.hid (HR.out.keep b1)
          clear b1 HC HR
          go_wp2_with fail
          go_roundw
          case rel => exact ⟨j + 1, by omega, by go_num, by rw [HN.out, List.append_nil]; exact H1⟩
          case measure => (simp [intOf]; try omega)
        · rw [if_pos rfl] at HN
          simp only [if_true] at HC
          go_wp2_with fail
          refine HC.out.mono ?_
          rintro e w1 ⟨rfl, b1⟩
          have H1 := Lib.hid (HR.out.keep b1)
          obtain ⟨e0, e1, e2, e3⟩ := HCC.out w1 H1.out.bel
          have hnl : (nums 0 O).length ≤ 500000 := by rw [nums_len]; omega
          obtain ⟨v8, W8, k8, h8⟩ := (H1.out.keep (below_lit _ (.cells #[.int .i64 ((O.length : Int) + 1), .string ⟨y1.toArray⟩, .slice a1 n1 p1, .string ⟨y3.toArray⟩] 34))).push hnl (((O.length : Int) + 1, y1, y2, y3) : Row) (a1, n1, p1) HS2.out #[.int .i64 ((O.length : Int) + 1), .string ⟨y1.toArray⟩, .slice a1 n1 p1, .string ⟨y3.toArray⟩] rfl
          rw [World.size_alloc] at k8
          have H8 : Hid (RwA w W8 v8 (nums 0 (oks (l.take (j + 1))))) := Lib.hid (by rw [HN.out, nums_snoc, Nat.zero_add]; exact h8)
          have hw1 : IntKind.i64.wrap ((O.length : Int) + 1) = (O.length : Int) + 1 := wrap_any (by omega) (by omega)
          clear b1 HC HR H1 h8 d0 d1 d2 d3
          go_wp2_with fail
          go_roundw
          case rel => exact ⟨j + 1, by omega, by go_num, H8⟩
          case measure => (simp [intOf]; try omega)
      · obtain rfl : j = l.length := by omega
        have hlt' : ¬ (l.length : Int) < (l.length : Int) := by omega
        have hle : rowsLen l ≤ 2000 := by rw [HNN.out]; omega
        rw [List.take_length] at HO
        have HB := Lib.hid HR.out.bel
        have HW := Lib.hid (write_any l (.slice aa l.length ca) wr (HM.out _ HB.out) (HV.out.below HB.out) hle (by omega))
        have hwl := wrs_len l
        have hRD := fun W (h : Mx W) => read_law (wrs l) W h (by omega)
        rw [read_wrs, HO.out] at hRD
        unfold RdP at hRD
        simp only [nums_len, List.length_nil] at hRD
        have HRD := Lib.hid hRD
        have HLE := Lib.hid hle
        have HAR : Hid (∀ x ∈ nums 0 O, x.2.2.1.length ≤ 100000) := Lib.hid (fun x hx => by
          obtain ⟨z, hz, e⟩ := nums_mem 0 O hx
          rw [← HO.out] at hz
          have h1 := rowLen_le (oks_mem hz)
          rw [e]
          unfold rowLen at h1
          omega)
        have HQ := Lib.hid (HR.out.fin)
        clear hle hRD hO
        go_wp2_with fail
        refine HW.out.mono ?_
        rintro e w2 ⟨rfl, b2⟩
        have B2 := Lib.hid (HB.out.trans (b2.mono HB.out.size))
        have Q2 := Lib.hid (HQ.out.below b2)
        have R2 := Lib.hid (HRD.out w2 (HM.out _ B2.out))
        clear b2 HW HB HQ HRD HR
        go_wp2_with fail
        refine R2.out.mono ?_
        rintro e w3 ⟨ra, rc, da, dc, rfl, r3, -, b3⟩
        have B3 := Lib.hid (B2.out.trans (b3.mono B2.out.size))
        have s4 := sameR_any (nums 0 O) (nums 0 O) _ _ w3 r3 (Q2.out.below b3) (by rw [nums_len]; omega) (by rw [nums_len]; omega) HAR.out HAR.out
        rw [decide_eq_true rfl] at s4
        have S4 := Lib.hid s4
        clear b3 r3 s4 R2 B2 Q2
        go_wp2_with fail
        refine S4.out.mono ?_
        rintro e w4 ⟨rfl, m4, hm4⟩
        have B4 := Lib.hid (show Below _ _ w4 from hm4 ▸ below_drewN B3.out m4)
        have K5 := Lib.hid (HK.out _ (HM.out _ B4.out))
        clear hm4 S4 B3
        go_wp2_with fail
        refine K5.out.mono ?_
        rintro e w5 ⟨rfl, b5⟩
        have B5 := Lib.hid (B4.out.trans (b5.mono B4.out.size))
        clear b5 K5
        go_wp2_with fail
        go_ret
        exact ⟨rfl, B5.out⟩
end Go.Proofs.YteckiifnldcjbaaDoor
