/- Cut; known() is true. known() is true. Trim, in the program and in the document's answer. The document's own answer for documents: a row squeezed; is it? The document's own answer for documents: side, in, stands, full. The document's own answer for documents: full. Texts, byte by byte; the document's own answer for documents: Right. Rows of rows that are made: whose blocks lie apart, by their types. The document's own answer for documents: Mend. The document's own answer for documents: Mend, the walk. The document's own answer for documents: what a node of a kind has of another one. The document's own answer for documents: own, the walk. Rows of nodes that are made. The document's own answer for documents: tidy; what its walk wants. The document's own answer for documents: tidy; the round's memory. A builder in memory: its cells, and what they say. The document's own answer for documents: tidy, the walk. The document's own answer for documents: Tidy. The program's own for documents: glyphs squeezed. The program's own for documents: which kind may stand where; what a node of a kind lacks; what it may have. How much there is of what was put right. -/
import Derived.Test.YtpccjgoeoeehoaaDoorQ2
import Derived.Deep.RegionWith
import Derived.Deep.LoopGhost
import Derived.Test.YtpccjgoeoeehoaaDoorB0
set_option linter.unusedVariables false
set_option linter.unusedSimpArgs false
namespace Go.Proofs.YtpccjgoeoeehoaaDoor
open Go.RowKit
attribute [local go_sem ↓ high] slice_frontG slice_backG
end Go.Proofs.YtpccjgoeoeehoaaDoor
namespace Go.Proofs.YtpccjgoeoeehoaaDoor
open Go.RowKit
attribute [local go_sem ↓ high] slice_frontG slice_backG
def kl : List Gly := [(97, 0), (19968, 0), (98, 0)]
end Go.Proofs.YtpccjgoeoeehoaaDoor
namespace Go.Proofs.YtpccjgoeoeehoaaDoor
open Go.RowKit
attribute [local go_sem ↓ high] slice_frontG
/-- How many glyphs a row has without the blanks at its end. -/
def trimN : List Gly → Nat
  | [] => 0
  | g :: l => if trimN l = 0 ∧ g.1 = 32 then 0 else trimN l + 1
theorem trimN_le : ∀ l : List Gly, trimN l ≤ l.length
  | [] => Nat.le_refl _
  | g :: l => by
    unfold trimN
    split
    · omega
    · have := trimN_le l; simp only [List.length_cons]; omega
theorem trimN_tail : ∀ (l : List Gly) (j : Nat) (g : Gly), trimN l ≤ j → l[j]? = some g → g.1 = 32
  | [], j, g, _, h => by simp at h
  | x :: l, 0, g, hj, h => by
    simp at h
    subst h
    unfold trimN at hj
    split at hj
    · rename_i hx; exact hx.2
    · omega
  | x :: l, j + 1, g, hj, h => by
    refine trimN_tail l j g ?_ (by simpa using h)
    unfold trimN at hj
    split at hj
    · rename_i hx; omega
    · omega
theorem trimN_last : ∀ (l : List Gly) (g : Gly), 0 < trimN l → l[trimN l - 1]? = some g → g.1 ≠ 32
  | [], g, h, _ => by simp [trimN] at h
  | x :: l, g, h, hg => by
    by_cases hx : trimN l = 0 ∧ x.1 = 32
    · have : trimN (x :: l) = 0 := by unfold trimN; rw [if_pos hx]
      omega
    · have e : trimN (x :: l) = trimN l + 1 := by conv => lhs; unfold trimN; rw [if_neg hx]
      rw [e] at hg
      by_cases h0 : trimN l = 0
      · rw [h0] at hg
        simp at hg
        subst hg
        exact fun h32 => hx ⟨h0, h32⟩
      · have e2 : trimN l + 1 - 1 = trimN l - 1 + 1 := by omega
        rw [e2] at hg
        exact trimN_last l g (by omega) (by simpa using hg)
/-- It is the one number that is so. -/
theorem trimN_unique {l : List Gly} {n : Nat} (hn : n ≤ l.length) (h1 : ∀ j g, n ≤ j → l[j]? = some g → g.1 = 32) (h2 : ∀ g, 0 < n → l[n - 1]? = some g → g.1 ≠ 32) : n = trimN l := by
  have hl := trimN_le l
  by_cases h : n < trimN l
  · exfalso
    have hlt : trimN l - 1 < l.length := by omega
    have hg : l[trimN l - 1]? = some l[trimN l - 1] := List.getElem?_eq_getElem hlt
    exact trimN_last l _ (by omega) hg (h1 _ _ (by omega) hg)
  · by_cases h' : trimN l < n
    · exfalso
      have hlt : n - 1 < l.length := by omega
      have hg : l[n - 1]? = some l[n - 1] := List.getElem?_eq_getElem hlt
      exact h2 _ (by omega) hg (trimN_tail l _ _ (by omega) hg)
    · omega
def trimL (l : List Gly) : List Gly := l.take (trimN l)
theorem trimL_len (l : List Gly) : (trimL l).length = trimN l := by
  unfold trimL
  rw [List.length_take]
  have := trimN_le l
  omega
set_option maxRecDepth 100000 in
set_option maxHeartbeats 1000000 in
theorem trim_any (l : List Gly) (v : Value) (w : World) (hv : Gs w v l) (hl : l.length ≤ 100000) :
    Calls Tryd.prog 52 #[v] w fun e w' => ∃ u, e = .returned u ∧ GOwn w.heap.size w' u (trimL l) ∧ Below w.heap.size w w' := by
  have HV := Lib.hid hv
  obtain ⟨a, cap, rfl⟩ := hv.len
  clear hv
  go_enter Tryd.func52, Tryd.ntmps52
  go_wp2_with fail
  go_loopw [3] (fun s wr => ∃ n : Nat, n ≤ l.length ∧ s = .int .i64 n ∧ Hid (∀ j g, n ≤ j → l[j]? = some g → g.1 = 32) ∧ wr = w) (fun s _ => (intOf s).toNat)
  case atStart => exact ⟨l.length, Nat.le_refl _, rfl, Lib.hid (fun j g hj hg => by rw [List.getElem?_eq_none hj] at hg; cases hg), rfl⟩
  case round =>
    obtain ⟨n, hn, rfl, HB, rfl⟩ := hrel
    by_cases h0 : 0 < n
    · obtain ⟨m, rfl⟩ : ∃ m, n = m + 1 := ⟨n - 1, by omega⟩
      obtain ⟨z, hz⟩ : ∃ z, l[m]? = some z := ⟨l[m]'(by omega), List.getElem?_eq_getElem _⟩
      obtain ⟨g, off, rfl, c0, c1, -⟩ := Gs.at HV.out hz
      have hi0 : (m : Int) < (l.length : Int) := by omega
      have hi1 : (0 : Int) ≤ (m : Int) := by omega
      have HZ := Lib.hid hz
      clear hz c1
      by_cases h32 : z.1 = 32
      · have HN : Hid (∀ j g, m ≤ j → l[j]? = some g → g.1 = 32) := Lib.hid (fun j g hj hg => by
          by_cases e : j = m
          · subst e
            rw [HZ.out] at hg
            rw [← Option.some.inj hg]; exact h32
          · exact HB.out j g (by omega) hg)
        go_wp2_with fail
        go_roundw
        case rel => exact ⟨m, by omega, by go_num, HN, by first | trivial | rfl⟩
        case measure => (simp [intOf]; try omega)
      · have HN : Hid (m + 1 = trimN l) := Lib.hid (trimN_unique hn HB.out (fun g _ hg => by
          rw [show m + 1 - 1 = m from rfl, HZ.out] at hg
          rw [← Option.some.inj hg]; exact h32))
        obtain ⟨u1, f1, s1, -⟩ := frontG_run HV.out (m + 1) hn
        have HC := Lib.hid (cloneg_any (l.take (m + 1)) u1 wr s1 (by rw [List.length_take]; omega))
        have f1' := f1
        simp only [Int.natCast_add, Int.natCast_one, Int.natCast_zero, Int.cast_ofNat_Int] at f1'
        clear s1 f1
        go_wp2_with fail
        refine HC.out.mono ?_
        rintro e w1 ⟨u, rfl, o1, b1⟩
        have O1 : Hid (GOwn wr.heap.size w1 u (trimL l)) := Lib.hid (by unfold trimL; rw [← HN.out]; exact o1)
        clear o1 HC
        go_wp2_with fail
        go_ret
        exact ⟨_, rfl, O1.out, b1⟩
    · obtain rfl : n = 0 := by omega
      have HN : Hid (0 = trimN l) := Lib.hid (trimN_unique hn HB.out (fun g h _ => absurd h (by omega)))
      obtain ⟨u1, f1, s1, -⟩ := frontG_run HV.out 0 hn
      have HC := Lib.hid (cloneg_any (l.take 0) u1 wr s1 (by rw [List.length_take]; omega))
      have f1' := f1
      simp only [Int.natCast_add, Int.natCast_one, Int.natCast_zero, Int.cast_ofNat_Int] at f1'
      clear s1 f1
      go_wp2_with fail
      refine HC.out.mono ?_
      rintro e w1 ⟨u, rfl, o1, b1⟩
      have O1 : Hid (GOwn wr.heap.size w1 u (trimL l)) := Lib.hid (by unfold trimL; rw [← HN.out]; exact o1)
      clear o1 HC
      go_wp2_with fail
      go_ret
      exact ⟨_, rfl, O1.out, b1⟩
set_option maxRecDepth 100000 in
set_option maxHeartbeats 1000000 in
theorem rtrim_any (l : List Gly) (v : Value) (w : World) (hv : Gs w v l) (hl : l.length ≤ 100000) :
    Calls Tryd.prog 61 #[v] w fun e w' => ∃ u, e = .returned u ∧ Gs w' u (trimL l) ∧ w = w' := by
  have HV := Lib.hid hv
  obtain ⟨a, cap, rfl⟩ := hv.len
  clear hv
  go_enter Tryd.func61, Tryd.ntmps61
  go_wp2_with fail
  go_loopw [3] (fun s wr => ∃ n : Nat, n ≤ l.length ∧ s = .int .i64 n ∧ Hid (∀ j g, n ≤ j → l[j]? = some g → g.1 = 32) ∧ wr = w) (fun s _ => (intOf s).toNat)
  case atStart => exact ⟨l.length, Nat.le_refl _, rfl, Lib.hid (fun j g hj hg => by rw [List.getElem?_eq_none hj] at hg; cases hg), rfl⟩
  case round =>
    obtain ⟨n, hn, rfl, HB, rfl⟩ := hrel
    by_cases h0 : 0 < n
    · obtain ⟨m, rfl⟩ : ∃ m, n = m + 1 := ⟨n - 1, by omega⟩
      obtain ⟨z, hz⟩ : ∃ z, l[m]? = some z := ⟨l[m]'(by omega), List.getElem?_eq_getElem _⟩
      obtain ⟨g, off, rfl, c0, c1, -⟩ := Gs.at HV.out hz
      have hi0 : (m : Int) < (l.length : Int) := by omega
      have hi1 : (0 : Int) ≤ (m : Int) := by omega
      have HZ := Lib.hid hz
      clear hz c1
      by_cases h32 : z.1 = 32
      · have HN : Hid (∀ j g, m ≤ j → l[j]? = some g → g.1 = 32) := Lib.hid (fun j g hj hg => by
          by_cases e : j = m
          · subst e
            rw [HZ.out] at hg
            rw [← Option.some.inj hg]; exact h32
          · exact HB.out j g (by omega) hg)
        go_wp2_with fail
        go_roundw
        case rel => exact ⟨m, by omega, by go_num, HN, by first | trivial | rfl⟩
        case measure => (simp [intOf]; try omega)
      · have HN : Hid (m + 1 = trimN l) := Lib.hid (trimN_unique hn HB.out (fun g _ hg => by
          rw [show m + 1 - 1 = m from rfl, HZ.out] at hg
          rw [← Option.some.inj hg]; exact h32))
        obtain ⟨u1, f1, s1, -⟩ := frontG_run HV.out (m + 1) hn
        have f1' := f1
        simp only [Int.natCast_add, Int.natCast_one, Int.natCast_zero, Int.cast_ofNat_Int] at f1'
        have O1 : Hid (Gs wr u1 (trimL l)) := Lib.hid (by unfold trimL; rw [← HN.out]; exact s1)
        clear s1 f1
        go_wp2_with fail
        go_ret
        exact ⟨_, rfl, O1.out, rfl⟩
    · obtain rfl : n = 0 := by omega
      have HN : Hid (0 = trimN l) := Lib.hid (trimN_unique hn HB.out (fun g h _ => absurd h (by omega)))
      obtain ⟨u1, f1, s1, -⟩ := frontG_run HV.out 0 hn
      have f1' := f1
      simp only [Int.natCast_add, Int.natCast_one, Int.natCast_zero, Int.cast_ofNat_Int] at f1'
      have O1 : Hid (Gs wr u1 (trimL l)) := Lib.hid (by unfold trimL; rw [← HN.out]; exact s1)
      clear s1 f1
      go_wp2_with fail
      go_ret
      exact ⟨_, rfl, O1.out, rfl⟩
end Go.Proofs.YtpccjgoeoeehoaaDoor
namespace Go.Proofs.YtpccjgoeoeehoaaDoor
open Go.RowKit
theorem trm_trimL : ∀ l : List Gly, trimL l = trm l
  | [] => rfl
  | g :: l => by
    have ih := trm_trimL l
    have hn : trimN l = 0 ↔ trm l = [] := by
      rw [← ih]
      unfold trimL
      constructor
      · intro h; rw [h]; rfl
      · intro h
        have := trimN_le l
        have h2 : (l.take (trimN l)).length = 0 := by rw [h]; rfl
        rw [List.length_take] at h2
        omega
    unfold trimL
    rw [trm_cons]
    by_cases hc : trimN l = 0 ∧ g.1 = 32
    · have e : trimN (g :: l) = 0 := by unfold trimN; rw [if_pos hc]
      rw [e, if_pos ⟨hn.1 hc.1, hc.2⟩]
      rfl
    · have e : trimN (g :: l) = trimN l + 1 := by conv => lhs; unfold trimN; rw [if_neg hc]
      rw [e, if_neg (fun h => hc ⟨hn.2 h.1, h.2⟩)]
      show g :: l.take (trimN l) = g :: trm l
      rw [← ih]
      rfl
/-- Does what stands there end with no blank? -/
def lastNB (b : Bool) (l : List Gly) : Bool := match l.getLast? with
  | none => b
  | some g => g.1 != 32
theorem lastNB_cons (b : Bool) (g : Gly) (l : List Gly) : lastNB b (g :: l) = lastNB (g.1 != 32) l := by
  unfold lastNB
  cases l with
  | nil => rfl
  | cons x l =>
    rw [List.getLast?_cons_cons]
    cases h : (x :: l).getLast? with
    | none => simp at h
    | some y => rfl
theorem sqA_app : ∀ (b : Bool) (P Q : List Gly), sqA b (P ++ Q) = sqA b P ++ sqA (lastNB b (sqA b P)) Q
  | b, [], Q => rfl
  | b, g :: P, Q => by
    rw [List.cons_append]
    by_cases hg : g.1 = 32
    · rw [sqA_blank b hg, sqA_blank b hg]
      cases b
      · simpa using sqA_app false P Q
      · rw [if_pos rfl, if_pos rfl, sqA_app false P Q, lastNB_cons]
        rfl
    · rw [sqA_other b hg, sqA_other b hg, sqA_app true P Q, lastNB_cons]
      have e : (g.1 != 32) = true := by simpa using hg
      rw [e]
      rfl
theorem sq_next {l : List Gly} {j : Nat} {g : Gly} (h : l[j]? = some g) : sqA false (l.take (j + 1)) = sqA false (l.take j) ++ (if g.1 = 32 then (if lastNB false (sqA false (l.take j)) then [(32, 0)] else []) else [g]) := by
  rw [List.take_add_one, h, sqA_app]
  simp only [Option.toList_some]
  by_cases hg : g.1 = 32
  · rw [sqA_blank _ hg, if_pos hg]
    rfl
  · rw [sqA_other _ hg, if_neg hg]
    rfl
theorem gpush {base : Nat} {W : World} {x : Value} {l : List Gly} (h : GOwn base W x l) (hb : base ≤ W.heap.size) (hl : l.length ≤ 500000) (r s : Int) :
    ∃ a' c' w', (appG #[x, .slice (some ⟨W.heap.size, 0, none⟩) 1 1]).run Tryd.prog (W.alloc (.cells #[.int .i32 r, .int .u8 s] 56)) = .ok (.value (.slice a' (l.length + 1) c')) w' ∧ GOwn base w' (.slice a' (l.length + 1) c') (l ++ [(r, s)]) ∧ Below base W w' := by
  have b1 := below_lit W (.cells #[.int .i32 r, .int .u8 s] 56)
  have hu : Gs (W.alloc (.cells #[.int .i32 r, .int .u8 s] 56)) (.slice (some ⟨W.heap.size, 0, none⟩) 1 1) [(r, s)] := fs_lit gcell_len W 56 [(r, s)]
  obtain ⟨x', w', hr, ho, hg, -⟩ := appG_own (h.keep b1) hu (Nat.le_trans hb b1.size) (by simp; omega)
  obtain ⟨a', c', e⟩ := (FOwn.sl gcell_len ho).len
  have hbel := (h.keep b1).below (b1.mono hb) (Nat.le_trans hb b1.size) hg
  have e2 : (l ++ [(r, s)]).length = l.length + 1 := by simp
  rw [e2] at e
  subst e
  exact ⟨a', c', w', hr, ho, hbel⟩
attribute [local go_sem ↓ high] builtin_appG
set_option maxRecDepth 100000 in
set_option maxHeartbeats 2000000 in
theorem rsqueeze_any (l : List Gly) (v : Value) (w : World) (hv : Gs w v l) (hl : l.length ≤ 90000) :
    Calls Tryd.prog 82 #[v] w fun e w' => ∃ u, e = .returned u ∧ GOwn w.heap.size w' u (sqz l) ∧ Below w.heap.size w w' := by
  have HT := Lib.hid (rtrim_any l v w hv (by omega))
  rw [trm_trimL] at HT
  have htl := trm_len l
  unfold sqz
  obtain ⟨t, ht⟩ : ∃ t, trm l = t := ⟨_, rfl⟩
  rw [ht] at HT htl ⊢
  clear ht hv
  go_enter Tryd.func82, Tryd.ntmps82
  go_wp2_with fail
  refine HT.out.mono ?_
  rintro e w1 ⟨u, rfl, hu, hw1⟩
  subst hw1
  have HU := Lib.hid hu
  obtain ⟨ua, uc, rfl⟩ := hu.len
  clear HT hu
  go_wp2_with fail
  go_loopw [3, 4] (fun s i wr => ∃ j : Nat, j ≤ t.length ∧ i = .int .i64 j ∧ Hid (GOwn w.heap.size wr s (sqA false (t.take j))) ∧ Hid (Below w.heap.size w wr)) (fun _ i _ => t.length - (intOf i).toNat)
  case atStart => exact ⟨0, by omega, rfl, Lib.hid (FOwn.nil _ _), Lib.hid (Below.refl _ _)⟩
  case round =>
    obtain ⟨j, hj, rfl, HO, BW⟩ := hrel
    have hsl := sqA_len false (t.take j)
    rw [List.length_take] at hsl
    obtain ⟨sa, sc, hs⟩ := (FOwn.sl gcell_len HO.out).len
    subst hs
    by_cases hlt : j < t.length
    · obtain ⟨z, hz⟩ : ∃ z, t[j]? = some z := ⟨t[j], List.getElem?_eq_getElem hlt⟩
      have HN := Lib.hid (sq_next hz)
      obtain ⟨O, hO⟩ : ∃ O, sqA false (t.take j) = O := ⟨_, rfl⟩
      rw [hO] at HO HN hsl ⊢
      obtain ⟨g, off, rfl, c0, c1, -⟩ := Gs.at (Fs.below HU.out BW.out) hz
      have hi0 : (j : Int) < (t.length : Int) := by omega
      have hi1 : (0 : Int) ≤ (j : Int) := by omega
      obtain ⟨z0, z1⟩ := z
      simp only at c0 c1 HN
      clear hz hO
      by_cases h32 : z0 = 32
      · subst h32
        rw [if_pos rfl] at HN
        rcases List.eq_nil_or_concat O with rfl | ⟨O', y, hOy⟩
        · have HN2 : Hid (sqA false (t.take (j + 1)) = []) := Lib.hid (by rw [HN.out]; rfl)
          clear HN
          go_wp2_with fail
          go_roundw
          case rel => exact ⟨j + 1, by omega, by go_num, by rw [HN2.out]; exact HO, BW⟩
          case measure => (simp [intOf]; try omega)
        · rw [List.concat_eq_append] at hOy
          have hOl : O.length = O'.length + 1 := by rw [hOy]; simp
          have hlast : O[O'.length]? = some y := by rw [hOy]; simp
          have hnb : lastNB false O = (y.1 != 32) := by rw [hOy]; simp [lastNB]
          rw [hnb] at HN
          obtain ⟨gs, os, hsa, d0, d1, -⟩ := Gs.at (FOwn.sl gcell_len HO.out) hlast
          subst hsa
          have w1 : IntKind.i64.wrap ((O.length : Int) - 1) = (O'.length : Int) := by rw [IntWalk.i64_in _ (by omega)]; omega
          have p0 : (0 : Int) < (O.length : Int) := by omega
          have p1 : (O'.length : Int) < (O.length : Int) := by omega
          have p2 : (0 : Int) ≤ (O'.length : Int) := by omega
          obtain ⟨n, hn⟩ : ∃ n, O.length = n := ⟨_, rfl⟩
          obtain ⟨n', hn'⟩ : ∃ n, O'.length = n := ⟨_, rfl⟩
          obtain ⟨a', c', W', hr, ho, hb⟩ := gpush HO.out BW.out.size (by omega) 32 0
          rw [hn] at hr p0 p1 w1 ho hsl ⊢
          rw [hn'] at w1 p1 p2 d0 d1
          obtain ⟨y0, y1⟩ := y
          simp only at d0 d1 HN
          clear d1 hlast hnb hOy hOl
          by_cases hy : y0 = 32
          · have HN2 : Hid (sqA false (t.take (j + 1)) = O) := Lib.hid (by rw [HN.out, hy]; simp)
            subst hy
            clear HN hr ho hb
            go_wp2_with fail
            go_roundw
            case rel => exact ⟨j + 1, by omega, by go_num, by rw [HN2.out]; exact hn ▸ HO, BW⟩
            case measure => (simp [intOf]; try omega)
          · have HN2 : Hid (sqA false (t.take (j + 1)) = O ++ [(32, 0)]) := Lib.hid (by
              rw [HN.out]
              have : (y0 != 32) = true := by simpa using hy
              rw [this]; rfl)
            have H2 := Lib.hid ho
            have B2 := Lib.hid (BW.out.trans hb)
            clear HN ho hb hn hn'
            go_wp2_with fail
            go_roundw
            case rel => exact ⟨j + 1, by omega, by go_num, by rw [HN2.out]; exact H2, B2⟩
            case measure => (simp [intOf]; try omega)
      · rw [if_neg h32] at HN
        obtain ⟨a', c', W', hr, ho, hb⟩ := gpush HO.out BW.out.size (by omega) z0 z1
        have H2 := Lib.hid ho
        have B2 := Lib.hid (BW.out.trans hb)
        clear ho hb
        go_wp2_with fail
        go_roundw
        case rel => exact ⟨j + 1, by omega, by go_num, by rw [HN.out]; exact H2, B2⟩
        case measure => (simp [intOf]; try omega)
    · obtain rfl : j = t.length := by omega
      have hlt' : ¬ (t.length : Int) < (t.length : Int) := by omega
      rw [List.take_length] at HO ⊢
      go_wp2_with fail
      go_ret
      exact ⟨_, rfl, HO.out, BW.out⟩
set_option maxRecDepth 100000 in
set_option maxHeartbeats 1000000 in
theorem rsqueezed_any (l : List Gly) (v : Value) (w : World) (hv : Gs w v l) (hl : l.length ≤ 90000) :
    Calls Tryd.prog 72 #[v] w fun e w' => e = .returned (.bool (sqd l)) ∧ Below w.heap.size w w' := by
  have HV := Lib.hid hv
  have HS := Lib.hid (rsqueeze_any l v w hv hl)
  have hsl := sqz_len l
  obtain ⟨va, vc, rfl⟩ := hv.len
  clear hv
  unfold sqd
  go_enter Tryd.func72, Tryd.ntmps72
  go_wp2_with fail
  refine HS.out.mono ?_
  rintro e w1 ⟨u, rfl, hu, b1⟩
  have B1 := Lib.hid b1
  have hQ := rsameq_any (sqz l) l u _ w1 (FOwn.sl gcell_len hu) (Fs.below HV.out b1) (by omega) (by omega)
  unfold QtN at hQ
  have HQ := Lib.hid hQ
  obtain ⟨ua, uc, hue⟩ := (FOwn.sl gcell_len hu).len
  subst hue
  clear b1 hu hQ HS
  go_wp2_with fail
  refine HQ.out.mono ?_
  rintro e w2 ⟨rfl, m, rfl⟩
  have B2 := Lib.hid (below_drewN B1.out m)
  clear HQ
  go_wp2_with fail
  go_ret
  exact ⟨rfl, B2.out⟩
end Go.Proofs.YtpccjgoeoeehoaaDoor
namespace Go.Proofs.YtpccjgoeoeehoaaDoor
open Go.RowKit
set_option maxHeartbeats 1000000 in
theorem rside_any (c : UInt8) (w : World) : Calls Tryd.prog 83 #[.int .u8 (c.toNat : Int)] w fun e w' => e = .returned (.bool (side c)) ∧ w' = w := by
  have HP : Hid (side c = (((c.toNat : Int) == 108) || ((c.toNat : Int) == 99) || ((c.toNat : Int) == 114))) := Lib.hid (by
    have key : ∀ n : Nat, n < 256 → ((c == UInt8.ofNat n) = ((c.toNat : Int) == (n : Int))) := fun n hn => by
      apply bool_of_iff
      simp only [beq_iff_eq]
      constructor
      · rintro rfl
        simp [UInt8.toNat_ofNat', Nat.mod_eq_of_lt hn]
      · intro h
        apply UInt8.toNat_inj.1
        rw [UInt8.toNat_ofNat', Nat.mod_eq_of_lt hn]
        omega
    have k1 := key 108 (by decide)
    have k2 := key 99 (by decide)
    have k3 := key 114 (by decide)
    unfold side
    rw [← show ((108 : Nat) : Int) = 108 from rfl, ← show ((99 : Nat) : Int) = 99 from rfl, ← show ((114 : Nat) : Int) = 114 from rfl, ← k1, ← k2, ← k3]
    rfl)
  obtain ⟨q1, hq1⟩ : ∃ q, ((c.toNat : Int) == 108) = q := ⟨_, rfl⟩
  obtain ⟨q2, hq2⟩ : ∃ q, ((c.toNat : Int) == 99) = q := ⟨_, rfl⟩
  obtain ⟨q3, hq3⟩ : ∃ q, ((c.toNat : Int) == 114) = q := ⟨_, rfl⟩
  rw [hq1, hq2, hq3] at HP
  generalize (c.toNat : Int) = x at hq1 hq2 hq3
  rw [HP.out]
  go_enter Tryd.func83, Tryd.ntmps83
  cases q1
  · cases q2
    · go_wp2_with fail
      go_ret
      exact ⟨ret_bool (by simp), rfl⟩
    · go_wp2_with fail
      go_ret
      exact ⟨ret_bool (by simp), rfl⟩
  · go_wp2_with fail
    go_ret
    exact ⟨ret_bool (by simp), rfl⟩
def icell (x : Int) : List Value := [.int .i64 x]
theorem icell_len (x : Int) : (icell x).length = 1 := rfl
set_option maxRecDepth 100000 in
set_option maxHeartbeats 1000000 in
theorem rin_any (k : Int) (l : List Int) (v : Value) (w : World) (hv : Fs 1 icell w v l) (hl : l.length ≤ 1000) :
    Calls Tryd.prog 73 #[.int .i64 k, v] w fun e w' => e = .returned (.bool (l.contains k)) ∧ w' = w := by
  have HV := Lib.hid hv
  obtain ⟨aa, ca, rfl⟩ := hv.len
  obtain ⟨R, hR⟩ : ∃ R, l.contains k = R := ⟨_, rfl⟩
  rw [hR]
  have HR := Lib.hid hR
  clear hv hR
  go_enter Tryd.func73, Tryd.ntmps73
  go_wp2_with fail
  go_loopw [5] (fun i wr => ∃ j : Nat, j ≤ l.length ∧ i = .int .i64 j ∧ Hid (k ∉ l.take j) ∧ Hid (wr = w)) (fun i _ => l.length - (intOf i).toNat)
  case atStart => exact ⟨0, by omega, rfl, Lib.hid (by simp), Lib.hid rfl⟩
  case round =>
    obtain ⟨j, hj, rfl, HN, HW⟩ := hrel
    by_cases hlt : j < l.length
    · obtain ⟨x, hx⟩ : ∃ x, l[j]? = some x := ⟨l[j], List.getElem?_eq_getElem hlt⟩
      obtain ⟨a0, c0, hv0, -, hr⟩ := HV.out
      injection hv0 with e1 e2 e3
      subst e1
      obtain ⟨g, off, rfl, hc⟩ := hr j x hx
      have c0 := hc 0 _ rfl
      rw [Nat.mul_one, Nat.add_zero, ← HW.out] at c0
      have hi0 : (j : Int) < (l.length : Int) := by omega
      have hi1 : (0 : Int) ≤ (j : Int) := by omega
      by_cases hk : x = k
      · have HT : Hid (l.contains k = true) := Lib.hid (by
          rw [List.contains_iff_mem]
          exact List.mem_iff_getElem?.2 ⟨j, hk ▸ hx⟩)
        have hq : (x == k) = true := by simpa using hk
        subst hk
        clear hx hr hc HV
        go_wp2_with fail
        go_ret
        exact ⟨ret_bool (by rw [← HR.out, HT.out]), HW.out⟩
      · have HT : Hid (k ∉ l.take (j + 1)) := Lib.hid (by
          rw [List.take_add_one, hx]
          simp only [Option.toList_some, List.mem_append, List.mem_singleton, not_or]
          exact ⟨HN.out, fun e => hk e.symm⟩)
        have hq : (x == k) = false := by simpa using hk
        clear hx hr hc
        go_wp2_with fail
        go_roundw
        case rel => exact ⟨j + 1, by omega, by go_num, HT, HW⟩
        case measure => (simp [intOf]; try omega)
    · obtain rfl : j = l.length := by omega
      have hlt' : ¬ (l.length : Int) < (l.length : Int) := by omega
      rw [List.take_length] at HN
      have HT : Hid (l.contains k = false) := Lib.hid (by
        rw [Bool.eq_false_iff]
        intro h
        exact HN.out (List.contains_iff_mem.1 h))
      go_wp2_with fail
      go_ret
      exact ⟨ret_bool (by rw [← HR.out, HT.out]), HW.out⟩
/-- 'in' of a list that is written out. -/
theorem rin_lit (k : Int) (l : List Int) (hl : l.length ≤ 1000) (W : World) :
    Calls Tryd.prog 73 #[.int .i64 k, .slice (some ⟨W.heap.size, 0, none⟩) l.length l.length] (W.alloc (.cells (flatV icell l).toArray 3)) fun e w' => e = .returned (.bool (l.contains k)) ∧ w' = W.alloc (.cells (flatV icell l).toArray 3) :=
  rin_any k l _ _ (fs_lit icell_len W 3 l) hl
theorem rin123 (k : Int) (W : World) : Calls Tryd.prog 73 #[.int .i64 k, .slice (some ⟨W.heap.size, 0, none⟩) 3 3] (W.alloc (.cells #[.int .i64 1, .int .i64 2, .int .i64 3] 3)) fun e w' => e = .returned (.bool (([1, 2, 3] : List Int).contains k)) ∧ w' = W.alloc (.cells #[.int .i64 1, .int .i64 2, .int .i64 3] 3) := rin_lit k [1, 2, 3] (by decide) W
theorem rin1234 (k : Int) (W : World) : Calls Tryd.prog 73 #[.int .i64 k, .slice (some ⟨W.heap.size, 0, none⟩) 4 4] (W.alloc (.cells #[.int .i64 1, .int .i64 2, .int .i64 3, .int .i64 4] 3)) fun e w' => e = .returned (.bool (([1, 2, 3, 4] : List Int).contains k)) ∧ w' = W.alloc (.cells #[.int .i64 1, .int .i64 2, .int .i64 3, .int .i64 4] 3) := rin_lit k [1, 2, 3, 4] (by decide) W
theorem rin1245 (k : Int) (W : World) : Calls Tryd.prog 73 #[.int .i64 k, .slice (some ⟨W.heap.size, 0, none⟩) 4 4] (W.alloc (.cells #[.int .i64 1, .int .i64 2, .int .i64 4, .int .i64 5] 3)) fun e w' => e = .returned (.bool (([1, 2, 4, 5] : List Int).contains k)) ∧ w' = W.alloc (.cells #[.int .i64 1, .int .i64 2, .int .i64 4, .int .i64 5] 3) := rin_lit k [1, 2, 4, 5] (by decide) W
theorem rin45 (k : Int) (W : World) : Calls Tryd.prog 73 #[.int .i64 k, .slice (some ⟨W.heap.size, 0, none⟩) 2 2] (W.alloc (.cells #[.int .i64 4, .int .i64 5] 3)) fun e w' => e = .returned (.bool (([4, 5] : List Int).contains k)) ∧ w' = W.alloc (.cells #[.int .i64 4, .int .i64 5] 3) := rin_lit k [4, 5] (by decide) W
set_option maxHeartbeats 2000000 in
theorem rstands_any (k m : Int) (w : World) : Calls Tryd.prog 70 #[.int .i64 k, .int .i64 m] w fun e w' => e = .returned (.bool (stands k m)) ∧ w' = w := by
  have HS : Hid (stands k m = ((k == 1 && m == 0) || (k == 2 && m == 1) || (decide (3 ≤ k) && decide (k ≤ 7)))) := Lib.hid rfl
  obtain ⟨q1, h1⟩ : ∃ q, (k == 1) = q := ⟨_, rfl⟩
  obtain ⟨q2, h2⟩ : ∃ q, (m == 0) = q := ⟨_, rfl⟩
  obtain ⟨q3, h3⟩ : ∃ q, (k == 2) = q := ⟨_, rfl⟩
  obtain ⟨q4, h4⟩ : ∃ q, (m == 1) = q := ⟨_, rfl⟩
  obtain ⟨q5, h5⟩ : ∃ q, decide (3 ≤ k) = q := ⟨_, rfl⟩
  obtain ⟨q6, h6⟩ : ∃ q, decide (k ≤ 7) = q := ⟨_, rfl⟩
  rw [h1, h2, h3, h4, h5, h6] at HS
  rw [HS.out]
  clear HS
  by_cases a1 : k = 1
  · subst a1
    obtain rfl : true = q1 := by simpa using h1
    obtain rfl : false = q3 := by simpa using h3
    obtain rfl : false = q5 := by simpa using h5
    clear h1 h3 h4 h5 h6
    go_enter Tryd.func70, Tryd.ntmps70
    cases q2
    · go_wp2_with fail
      go_ret
      exact ⟨ret_bool (by simp), rfl⟩
    · go_wp2_with fail
      go_ret
      exact ⟨ret_bool (by simp), rfl⟩
  · by_cases a2 : k = 2
    · subst a2
      obtain rfl : false = q1 := by simpa using h1
      obtain rfl : true = q3 := by simpa using h3
      obtain rfl : false = q5 := by simpa using h5
      clear h1 h2 h3 h5 h6
      go_enter Tryd.func70, Tryd.ntmps70
      cases q4
      · go_wp2_with fail
        go_ret
        exact ⟨ret_bool (by simp), rfl⟩
      · go_wp2_with fail
        go_ret
        exact ⟨ret_bool (by simp), rfl⟩
    · obtain rfl : false = q1 := by rw [← h1]; simpa using a1
      obtain rfl : false = q3 := by rw [← h3]; simpa using a2
      clear h2 h4 a1 a2
      by_cases a5 : 3 ≤ k
      · obtain rfl : true = q5 := by rw [← h5]; simpa using a5
        clear h5
        by_cases a6 : k ≤ 7
        · obtain rfl : true = q6 := by rw [← h6]; simpa using a6
          clear h6
          go_enter Tryd.func70, Tryd.ntmps70
          go_wp2_with fail
          go_ret
          exact ⟨ret_bool (by simp), rfl⟩
        · obtain rfl : false = q6 := by rw [← h6]; simpa using a6
          clear h6
          go_enter Tryd.func70, Tryd.ntmps70
          go_wp2_with fail
          go_ret
          exact ⟨ret_bool (by simp), rfl⟩
      · obtain rfl : false = q5 := by rw [← h5]; simpa using a5
        clear h5 h6
        go_enter Tryd.func70, Tryd.ntmps70
        go_wp2_with fail
        go_ret
        exact ⟨ret_bool (by simp), rfl⟩
end Go.Proofs.YtpccjgoeoeehoaaDoor
namespace Go.Proofs.YtpccjgoeoeehoaaDoor
open Go.RowKit
/-- A node's value, part by part. -/
def ndG (k l n : Int) (t c r : PV) (co : List UInt8) (q : PV) (b a : Bool) : List Value :=
  [.int .i64 k, .int .i64 l, .int .i64 n, pv t, pv c, pv r, .string ⟨co.toArray⟩, pv q, .bool b, .bool a]
def fullV (k : Int) (tl cl rl ql : Nat) : Bool :=
  if 1 ≤ k ∧ k ≤ 3 then decide (0 < tl) else if k = 5 then decide (0 < cl) else if k = 6 then decide (0 < rl) else k == 4 || (k == 7 && decide (0 < ql))
theorem c123 (k : Int) : ([1, 2, 3] : List Int).contains k = decide (1 ≤ k ∧ k ≤ 3) := by
  apply bool_of_iff
  simp
  omega
theorem c1234 (k : Int) : ([1, 2, 3, 4] : List Int).contains k = decide (1 ≤ k ∧ k ≤ 4) := by
  apply bool_of_iff
  simp
  omega
theorem c45 (k : Int) : ([4, 5] : List Int).contains k = decide (k = 4 ∨ k = 5) := by
  apply bool_of_iff
  simp
theorem c1245 (k : Int) : ([1, 2, 4, 5] : List Int).contains k = mayK k := by
  apply bool_of_iff
  rw [mayK_iff]
  simp
theorem one_lit {e : TypeId} (w : World) (L : List Value) : ∀ W, W = w.alloc (.cells L.toArray e) → Below w.heap.size w W ∧ Blk W w.heap.size e L := by
  rintro W rfl
  exact ⟨below_lit w _, heap_alloc_new w _⟩
set_option maxRecDepth 100000 in
set_option maxHeartbeats 4000000 in
theorem rfull_any (k l n : Int) (t c r : PV) (co : List UInt8) (q : PV) (b a : Bool) (w : World) :
    Calls Tryd.prog 71 #[.agg (ndG k l n t c r co q b a).toArray] w fun e w' => e = .returned (.bool (fullV k t.2.1 c.2.1 r.2.1 q.2.1)) ∧ Below w.heap.size w w' := by
  obtain ⟨t1, tl, t2⟩ := t
  obtain ⟨s1, cl, s2⟩ := c
  obtain ⟨r1, rl, r2⟩ := r
  obtain ⟨q1, ql, q2⟩ := q
  simp only
  obtain ⟨w0, hw0⟩ : ∃ w0, w0 = w.alloc (.cells (ndG k l n (t1, tl, t2) (s1, cl, s2) (r1, rl, r2) co (q1, ql, q2) b a).toArray 40) := ⟨_, rfl⟩
  obtain ⟨bl, hb⟩ := one_lit w _ w0 hw0
  have b2 := bl.trans ((below_lit w0 (.cells #[.int .i64 1, .int .i64 2, .int .i64 3] 3)).mono bl.size)
  have hb2 := hb.below (below_lit w0 (.cells #[.int .i64 1, .int .i64 2, .int .i64 3] 3))
  have c0 : w0.cell? ⟨w.heap.size, 0, none⟩ = some (.int .i64 k) := hb.cell 0
  have hI := rin123 k w0
  rw [c123, show w0.heap.size = w.heap.size + 1 by rw [hw0, World.size_alloc]] at hI
  obtain ⟨w1, hw1⟩ : ∃ w1, w1 = w0.alloc (.cells #[.int .i64 1, .int .i64 2, .int .i64 3] 3) := ⟨_, rfl⟩
  rw [← hw1] at hI b2 hb2
  have d0 : w1.cell? ⟨w.heap.size, 0, none⟩ = some (.int .i64 k) := hb2.cell 0
  have d3 : w1.cell? ⟨w.heap.size, 3, none⟩ = some (.slice t1 tl t2) := hb2.cell 3
  have d4 : w1.cell? ⟨w.heap.size, 4, none⟩ = some (.slice s1 cl s2) := hb2.cell 4
  have d5 : w1.cell? ⟨w.heap.size, 5, none⟩ = some (.slice r1 rl r2) := hb2.cell 5
  have d7 : w1.cell? ⟨w.heap.size, 7, none⟩ = some (.slice q1 ql q2) := hb2.cell 7
  have B2 := Lib.hid b2
  unfold fullV
  clear bl hb b2 hb2
  subst hw1 hw0
  unfold ndG pv at *
  simp only at *
  have HI := Lib.hid hI
  clear hI
  go_enter Tryd.func71, Tryd.ntmps71
  by_cases h1 : 1 ≤ k ∧ k ≤ 3
  · rw [if_pos h1]
    rw [decide_eq_true h1] at HI
    have e1 : decide (0 < (tl : Int)) = decide (0 < tl) := bool_of_iff (by simp)
    clear h1
    go_wp2_with fail
    refine HI.out.mono ?_
    rintro e w2 ⟨rfl, hw2⟩
    rw [← hw2] at d0 d3 d4 d5 d7 B2
    clear hw2 c0 HI
    go_wp2_with fail
    go_ret
    exact ⟨ret_bool (by first | rfl | simp), B2.out⟩
  · rw [if_neg h1]
    rw [decide_eq_false h1] at HI
    clear h1
    by_cases h5 : k = 5
    · subst h5
      rw [if_pos rfl]
      go_wp2_with fail
      refine HI.out.mono ?_
      rintro e w2 ⟨rfl, hw2⟩
      rw [← hw2] at d0 d3 d4 d5 d7 B2
      clear hw2 c0 HI
      go_wp2_with fail
      go_ret
      exact ⟨ret_bool (by first | rfl | simp), B2.out⟩
    · rw [if_neg h5]
      by_cases h6 : k = 6
      · subst h6
        rw [if_pos rfl]
        go_wp2_with fail
        refine HI.out.mono ?_
        rintro e w2 ⟨rfl, hw2⟩
        rw [← hw2] at d0 d3 d4 d5 d7 B2
        clear hw2 c0 HI
        go_wp2_with fail
        go_ret
        exact ⟨ret_bool (by first | rfl | simp), B2.out⟩
      · rw [if_neg h6]
        by_cases h4 : k = 4
        · subst h4
          clear h5 h6
          go_wp2_with fail
          refine HI.out.mono ?_
          rintro e w2 ⟨rfl, hw2⟩
          rw [← hw2] at d0 d3 d4 d5 d7 B2
          clear hw2 c0 HI
          go_wp2_with fail
          go_ret
          exact ⟨ret_bool (by first | rfl | simp), B2.out⟩
        · by_cases h7 : k = 7
          · subst h7
            clear h5 h6 h4
            go_wp2_with fail
            refine HI.out.mono ?_
            rintro e w2 ⟨rfl, hw2⟩
            rw [← hw2] at d0 d3 d4 d5 d7 B2
            clear hw2 c0 HI
            go_wp2_with fail
            go_ret
            exact ⟨ret_bool (by first | rfl | simp), B2.out⟩
          · have n5 : (k == 5) = false := by simpa using h5
            have n6 : (k == 6) = false := by simpa using h6
            have n4 : (k == 4) = false := by simpa using h4
            have n7 : (k == 7) = false := by simpa using h7
            have HR : Hid ((k == 4 || (k == 7 && decide (0 < ql))) = false) := Lib.hid (by rw [n4, n7]; rfl)
            go_wp2_with fail
            refine HI.out.mono ?_
            rintro e w2 ⟨rfl, hw2⟩
            rw [← hw2] at d0 d3 d4 d5 d7 B2
            clear hw2 c0 HI
            go_wp2_with fail
            go_ret
            exact ⟨ret_bool (by simp [h4, h7]), B2.out⟩
end Go.Proofs.YtpccjgoeoeehoaaDoor
namespace Go.Proofs.YtpccjgoeoeehoaaDoor
open Go.RowKit
theorem strX_idx (b : List UInt8) (i : Nat) (x : UInt8) (h : b[i]? = some x) (w : World) : (Instr.index 9 (.string ⟨b.toArray⟩) (.int .i64 (i : Int))).run Tryd.prog w = .ok (.int .u8 (x.toNat : Int)) w := by
  obtain ⟨hi, hx⟩ := List.getElem?_eq_some_iff.1 h
  have hsz := bsz b
  rw [run_index_string w 9 _ .i64 (i : Int) Tryd.underlying9, dif_pos ⟨by omega, by rw [hsz]; omega⟩]
  have e : (⟨b.toArray⟩ : ByteArray)[((i : Int)).toNat]'(by rw [hsz]; omega) = x := by
    show b.toArray[((i : Int)).toNat]'_ = x
    simp only [Int.toNat_natCast, List.getElem_toArray]
    exact hx
  rw [e]
theorem all_next {α : Type} {l : List α} {j : Nat} {x : α} {P : α → Bool} (h : (l.take j).all P = true) (hx : l[j]? = some x) (hP : P x = true) : (l.take (j + 1)).all P = true := by
  rw [List.take_add_one, hx]
  simp only [Option.toList_some, List.all_append, h, Bool.true_and, List.all_cons, hP, List.all_nil]
theorem all_not {α : Type} {l : List α} {j : Nat} {x : α} {P : α → Bool} (hx : l[j]? = some x) (hP : P x = false) : l.all P = false := by
  rw [Bool.eq_false_iff]
  intro h
  have := List.all_eq_true.1 h x (List.mem_iff_getElem?.2 ⟨j, hx⟩)
  rw [hP] at this
  cases this
set_option maxRecDepth 100000 in
set_option maxHeartbeats 8000000 in
theorem rright_any (S : Nat → Prop) (t : Tab) (r : PV) (w : World) (hv : TrS S w (pv r) t.rows) (hb : t.cols.length ≤ 1000000000) (hl : trls t.rows ≤ 90000) (hS : ∀ x, S x → x < w.heap.size) :
    Calls Tryd.prog 74 #[tabV t r] w fun e w' => e = .returned (.bool (rightT t)) ∧ Below w.heap.size w w' := by
  obtain ⟨a1, z1, e1⟩ := hv.len
  obtain rfl := pv_eq e1
  have HV := Lib.hid hv
  have HS := Lib.hid hS
  obtain ⟨w0, hw0⟩ : ∃ w0, w0 = w.alloc (.cells [.string ⟨t.cols.toArray⟩, .slice a1 t.rows.length z1, .bool t.box, .bool t.all].toArray 38) := ⟨_, rfl⟩
  obtain ⟨bl, hbk⟩ := one_lit w _ w0 hw0
  have c0 : w0.cell? ⟨w.heap.size, 0, none⟩ = some (.string ⟨t.cols.toArray⟩) := hbk.cell 0
  have c1 : w0.cell? ⟨w.heap.size, 1, none⟩ = some (.slice a1 t.rows.length z1) := hbk.cell 1
  have c2 : w0.cell? ⟨w.heap.size, 2, none⟩ = some (.bool t.box) := hbk.cell 2
  have c3 : w0.cell? ⟨w.heap.size, 3, none⟩ = some (.bool t.all) := hbk.cell 3
  have hcs := bsz t.cols
  have htn := trls_len t.rows
  have BL := Lib.hid bl
  have HBK : Hid (∀ W, Below w0.heap.size w0 W → W.cell? ⟨w.heap.size, 0, none⟩ = some (.string ⟨t.cols.toArray⟩) ∧ W.cell? ⟨w.heap.size, 1, none⟩ = some (.slice a1 t.rows.length z1)) := Lib.hid (fun W h => ⟨(hbk.below h).cell 0, (hbk.below h).cell 1⟩)
  have HSZ : Hid (w.heap.size ≤ w0.heap.size) := Lib.hid bl.size
  have HIX := Lib.hid (fun j x (h : t.cols[j]? = some x) => strX_idx t.cols j x h)
  obtain ⟨R, hR⟩ : ∃ R, rightT t = R := ⟨_, rfl⟩
  rw [hR]
  have HR : Hid (R = (decide (1 ≤ t.cols.length) && decide (t.cols.length ≤ 20) && !(t.all && !t.box) && t.cols.all side && t.rows.all (rowOk t.cols.length))) := Lib.hid hR.symm
  obtain ⟨gb, hgb⟩ : ∃ g, t.box = g := ⟨_, rfl⟩
  obtain ⟨ga, hga⟩ : ∃ g, t.all = g := ⟨_, rfl⟩
  rw [hgb] at c2 HR hw0
  rw [hga] at c3 HR hw0
  unfold tabV pv
  simp only
  rw [hgb, hga]
  clear hv hS bl hbk hR hgb hga e1
  by_cases k1 : t.cols.length < 1
  · have k1' : (t.cols.length : Int) < 1 := by omega
    have HF : Hid (R = false) := Lib.hid (by rw [HR.out, decide_eq_false (show ¬ 1 ≤ t.cols.length by omega)]; rfl)
    subst hw0
    go_enter Tryd.func74, Tryd.ntmps74
    go_wp2_with fail
    go_ret
    exact ⟨ret_bool HF.out.symm, BL.out⟩
  · by_cases k2 : 20 < t.cols.length
    · have k1' : ¬ (t.cols.length : Int) < 1 := by omega
      have k2' : (20 : Int) < (t.cols.length : Int) := by omega
      have HF : Hid (R = false) := Lib.hid (by rw [HR.out, decide_eq_false (show ¬ t.cols.length ≤ 20 by omega), Bool.and_false]; rfl)
      subst hw0
      go_enter Tryd.func74, Tryd.ntmps74
      go_wp2_with fail
      go_ret
      exact ⟨ret_bool HF.out.symm, BL.out⟩
    · have k1' : ¬ (t.cols.length : Int) < 1 := by omega
      have k2' : ¬ (20 : Int) < (t.cols.length : Int) := by omega
      have HR2 : Hid (R = (!(ga && !gb) && t.cols.all side && t.rows.all (rowOk t.cols.length))) := Lib.hid (by rw [HR.out, decide_eq_true (show 1 ≤ t.cols.length by omega), decide_eq_true (show t.cols.length ≤ 20 by omega)]; rfl)
      clear HR k1 k2
      rcases (show (ga = true ∧ gb = false) ∨ (ga && !gb) = false by cases ga <;> cases gb <;> simp) with ⟨rfl, rfl⟩ | hab
      · have HF : Hid (R = false) := Lib.hid HR2.out
        subst hw0
        go_enter Tryd.func74, Tryd.ntmps74
        go_wp2_with fail
        go_ret
        exact ⟨ret_bool HF.out.symm, BL.out⟩
      · have HR3 : Hid (R = (t.cols.all side && t.rows.all (rowOk t.cols.length))) := Lib.hid (by rw [HR2.out, hab]; rfl)
        clear HR2
        have l0 := c0
        have l1 := c1
        have l2 := c2
        have l3 := c3
        rw [hw0] at l0 l1 l2 l3
        have H0 := Lib.hid hw0
        clear hw0
        go_enter Tryd.func74, Tryd.ntmps74
        cases ga
        all_goals cases gb
        all_goals first | (exfalso; cases hab; done) | skip
        all_goals clear hab
        all_goals
          go_wp2_with fail
          rw [← H0.out]
          clear l0 l1 l2 l3 c0 c1 c2 c3 H0
          go_loopw [3] (fun i wr => ∃ j : Nat, j ≤ t.cols.length ∧ i = .int .i64 j ∧ Hid ((t.cols.take j).all side = true) ∧ Hid (wr = w0)) (fun i _ => t.cols.length - (intOf i).toNat)
          case atStart => exact ⟨0, by omega, rfl, Lib.hid rfl, Lib.hid rfl⟩
          case round =>
            obtain ⟨j, hj, rfl, HT, HW⟩ := hrel
            have hcc := HBK.out w0 (Below.refl _ _)
            rw [← HW.out] at hcc
            obtain ⟨c0, c1⟩ := hcc
            by_cases hlt : j < t.cols.length
            · obtain ⟨x, hx⟩ : ∃ x, t.cols[j]? = some x := ⟨t.cols[j], List.getElem?_eq_getElem hlt⟩
              have kx := HIX.out j x hx
              have hi0 : (j : Int) < (t.cols.length : Int) := by omega
              have hi1 : (0 : Int) ≤ (j : Int) := by omega
              have HSD := Lib.hid (fun W => rside_any x W)
              by_cases hsd : side x = true
              · have HN := Lib.hid (all_next HT.out hx hsd)
                rw [hsd] at HSD
                clear hx hsd
                go_wp2_with fail
                refine (HSD.out _).mono ?_
                rintro e w1 ⟨rfl, rfl⟩
                clear HSD
                go_wp2_with fail
                go_roundw
                case rel => exact ⟨j + 1, by omega, by go_num, HN, HW⟩
                case measure => (simp [intOf]; try omega)
              · have hsd' : side x = false := by simpa using hsd
                have HF : Hid (R = false) := Lib.hid (by rw [HR3.out, all_not hx hsd']; rfl)
                rw [hsd'] at HSD
                clear hx hsd hsd'
                go_wp2_with fail
                refine (HSD.out _).mono ?_
                rintro e w1 ⟨rfl, rfl⟩
                clear HSD
                go_wp2_with fail
                go_ret
                exact ⟨ret_bool HF.out.symm, by rw [HW.out]; exact BL.out⟩
            · obtain rfl : j = t.cols.length := by omega
              have hlt' : ¬ (t.cols.length : Int) < (t.cols.length : Int) := by omega
              rw [List.take_length] at HT
              have HR4 : Hid (R = t.rows.all (rowOk t.cols.length)) := Lib.hid (by rw [HR3.out, HT.out]; rfl)
              go_wp2_with fail
              clear HIX HR3 HT c0 c1
              go_loopw [4] (fun i wr => ∃ j : Nat, j ≤ t.rows.length ∧ i = .int .i64 j ∧ Hid ((t.rows.take j).all (rowOk t.cols.length) = true) ∧ Hid (Below w0.heap.size w0 wr)) (fun i _ => t.rows.length - (intOf i).toNat)
              case atStart => exact ⟨0, by omega, rfl, Lib.hid rfl, Lib.hid (by rw [HW.out]; exact Below.refl _ _)⟩
              case round =>
                obtain ⟨j, hj, rfl, HT, BW⟩ := hrel
                clear HW
                obtain ⟨c0, c1⟩ := HBK.out wr BW.out
                have BT : Hid (Below w.heap.size w wr) := Lib.hid (BL.out.trans (BW.out.mono HSZ.out))
                by_cases hlt : j < t.rows.length
                · obtain ⟨x, hx⟩ : ∃ x, t.rows[j]? = some x := ⟨t.rows[j], List.getElem?_eq_getElem hlt⟩
                  obtain ⟨x1, x2⟩ := x
                  have lx := trls_le hx
                  have hi0 : (j : Int) < (t.rows.length : Int) := by omega
                  have hi1 : (0 : Int) ≤ (j : Int) := by omega
                  obtain ⟨g1, o1, b1, y1, ka, -, d0, d1, hG⟩ := (HV.out.keep (Kp.below BT.out HS.out)).at hx
                  simp only at ka d0 d1 hG
                  subst ka
                  obtain ⟨n2, hn2⟩ : ∃ n, x2.length = n := ⟨_, rfl⟩
                  rw [hn2] at d1 hG
                  have HX := Lib.hid hx
                  unfold trl at lx
                  simp only at lx
                  obtain ⟨W2, hW2⟩ : ∃ W2, W2 = wr.alloc (.cells [.bool x1, .slice b1 n2 y1].toArray 83) := ⟨_, rfl⟩
                  obtain ⟨b2, hbk⟩ := one_lit wr _ W2 hW2
                  have BW2 : Hid (Below w0.heap.size w0 W2) := Lib.hid (BW.out.trans (b2.mono BW.out.size))
                  have HG := Lib.hid (hG.keep (Kp.below (D := w.heap.size) (b2.mono BT.out.size) HS.out))
                  have HE : Hid (∀ W, Below W2.heap.size W2 W → W.cell? ⟨wr.heap.size, 1, none⟩ = some (.slice b1 n2 y1)) := Lib.hid (fun W h => (hbk.below h).cell 1)
                  have e0 : W2.cell? ⟨wr.heap.size, 0, none⟩ = some (.bool x1) := hbk.cell 0
                  have e1 : W2.cell? ⟨wr.heap.size, 1, none⟩ = some (.slice b1 n2 y1) := hbk.cell 1
                  obtain ⟨f0, f1⟩ := HBK.out W2 BW2.out
                  have HW2 := Lib.hid hW2
                  rw [hW2] at e0 e1 f0 f1
                  have hzz : w.heap.size ≤ wr.heap.size := BT.out.size
                  clear hx hG b2 hbk hW2
                  have key : ∀ (h : rowOk t.cols.length (x1, x2) = false), R = false := fun h => by rw [HR4.out, all_not HX.out h]
                  have KEY := Lib.hid key
                  clear key
                  have LEAF : Hid (Below w.heap.size w W2) := Lib.hid (BL.out.trans (BW2.out.mono HSZ.out))
                  rcases (show (x1 = true ∧ 0 < x2.length) ∨ (x1 = false ∧ x2.length ≠ t.cols.length) ∨ ((x1 = true ∧ x2 = []) ∨ (x1 = false ∧ x2.length = t.cols.length)) by
                    cases x1
                    · by_cases h : x2.length = t.cols.length
                      · exact .inr (.inr (.inr ⟨rfl, h⟩))
                      · exact .inr (.inl ⟨rfl, h⟩)
                    · cases x2 with
                      | nil => exact .inr (.inr (.inl ⟨rfl, rfl⟩))
                      | cons a b => exact .inl ⟨rfl, by simp⟩) with ⟨rfl, hp⟩ | ⟨rfl, hp⟩ | hok
                  · have hp' : (0 : Int) < (n2 : Int) := by omega
                    have HF := Lib.hid (KEY.out (by
                      unfold rowOk
                      simp only [if_true]
                      rw [decide_eq_false (by intro e; rw [e] at hp; simp at hp)]
                      rfl))
                    clear HE HG
                    go_wp2_with fail
                    rw [← HW2.out]
                    go_ret
                    exact ⟨ret_bool HF.out.symm, LEAF.out⟩
                  · have hp' : ((n2 : Int) == (t.cols.length : Int)) = false := by simp; omega
                    have hp2 : ((n2 : Int) != (t.cols.length : Int)) = true := by simp; omega
                    have HF := Lib.hid (KEY.out (by
                      unfold rowOk
                      simp only [Bool.false_eq_true, if_false]
                      rw [decide_eq_false hp]
                      rfl))
                    clear HE HG
                    go_wp2_with fail
                    rw [← HW2.out]
                    go_ret
                    exact ⟨ret_bool HF.out.symm, LEAF.out⟩
                  · have HOK : Hid (rowOk t.cols.length (x1, x2) = x2.all sqd) := Lib.hid (by
                      unfold rowOk
                      rcases hok with ⟨rfl, rfl⟩ | ⟨rfl, h⟩
                      · simp
                      · simp [h])
                    rcases hok with ⟨rfl, hx2⟩ | ⟨rfl, hx2⟩
                    · have h0 : n2 = 0 := by rw [← hn2, hx2]; rfl
                      subst h0
                      have HNN := Lib.hid hn2
                      clear hn2 hx2
                      go_wp2_with fail
                      rw [← HW2.out]
                      clear HW2 e0 e1 f0 f1
                      go_loopw [6] (fun i wr => i = .int .i64 0 ∧ Hid (wr = W2)) (fun i _ => 0)
                      case atStart => exact ⟨rfl, Lib.hid rfl⟩
                      case round =>
                        obtain ⟨rfl, HW⟩ := hrel
                        have e1 := HE.out W2 (Below.refl _ _)
                        rw [← HW.out] at e1
                        have hz2 := BW2.out.size
                        have HN := Lib.hid (all_next HT.out HX.out (by rw [HOK.out]; have := HNN.out; rw [List.length_eq_zero_iff] at this; rw [this]; rfl))
                        go_wp2_with fail
                        go_roundw
                        case rel => exact ⟨j + 1, by omega, by go_num, HN, Lib.hid (by rw [HW.out]; exact BW2.out)⟩
                        case measure => (simp [intOf]; try omega)
                    · have h0 : n2 = t.cols.length := by rw [← hn2, hx2]
                      subst h0
                      have HNN := Lib.hid hn2
                      clear hn2 hx2
                      go_wp2_with fail
                      rw [← HW2.out]
                      clear HW2 e0 e1 f0 f1
                      go_loopw [6] (fun i wr => ∃ q : Nat, q ≤ x2.length ∧ i = .int .i64 q ∧ Hid ((x2.take q).all sqd = true) ∧ Hid (Below W2.heap.size W2 wr)) (fun i _ => t.cols.length - (intOf i).toNat)
                      case atStart => exact ⟨0, by omega, rfl, Lib.hid rfl, Lib.hid (Below.refl _ _)⟩
                      case round =>
                        obtain ⟨q, hq, rfl, HQ, BQ⟩ := hrel
                        have e1 := HE.out wr BQ.out
                        have hz2 := BW2.out.size
                        have hnn := HNN.out
                        by_cases hql : q < x2.length
                        · obtain ⟨c, hc⟩ : ∃ c, x2[q]? = some c := ⟨x2[q], List.getElem?_eq_getElem hql⟩
                          have lc := lens_le hc
                          obtain ⟨g5, o5, b5, y5, k5, -, m0, hGc⟩ := (HG.out.keep (Kp.below BQ.out (fun z hz => Nat.lt_of_lt_of_le (HS.out z hz) LEAF.out.size))).at hc
                          subst k5
                          have hq0 : (q : Int) < (t.cols.length : Int) := by omega
                          have hq1 : (0 : Int) ≤ (q : Int) := by omega
                          have HSQ := Lib.hid (rsqueezed_any c _ wr hGc.1 (by omega))
                          by_cases hsq : sqd c = true
                          · have HN := Lib.hid (all_next HQ.out hc hsq)
                            rw [hsq] at HSQ
                            clear hc hsq hGc hnn
                            go_wp2_with fail
                            refine HSQ.out.mono ?_
                            rintro e w6 ⟨rfl, b6⟩
                            have B6 := Lib.hid (BQ.out.trans (b6.mono BQ.out.size))
                            clear HSQ b6
                            go_wp2_with fail
                            go_roundw
                            case rel => exact ⟨q + 1, by omega, by go_num, HN, B6⟩
                            case measure => (simp [intOf]; try omega)
                          · have hsq' : sqd c = false := by simpa using hsq
                            have HF := Lib.hid (KEY.out (by rw [HOK.out]; exact all_not hc hsq'))
                            rw [hsq'] at HSQ
                            clear hc hsq hsq' hGc hnn
                            go_wp2_with fail
                            refine HSQ.out.mono ?_
                            rintro e w6 ⟨rfl, b6⟩
                            have B6 := Lib.hid (BQ.out.trans (b6.mono BQ.out.size))
                            clear HSQ b6
                            go_wp2_with fail
                            go_ret
                            exact ⟨ret_bool HF.out.symm, LEAF.out.trans (B6.out.mono LEAF.out.size)⟩
                        · obtain rfl : q = x2.length := by omega
                          rw [List.take_length] at HQ
                          have HN := Lib.hid (all_next HT.out HX.out (by rw [HOK.out]; exact HQ.out))
                          rw [hnn]
                          have hql' : ¬ (t.cols.length : Int) < (t.cols.length : Int) := by omega
                          clear hnn hq hql
                          go_wp2_with fail
                          go_roundw
                          case rel => exact ⟨j + 1, by omega, by go_num, HN, Lib.hid (BW2.out.trans (BQ.out.mono hz2))⟩
                          case measure => (simp [intOf]; try omega)
                · obtain rfl : j = t.rows.length := by omega
                  have hlt' : ¬ (t.rows.length : Int) < (t.rows.length : Int) := by omega
                  rw [List.take_length] at HT
                  have HF : Hid (R = true) := Lib.hid (by rw [HR4.out, HT.out])
                  go_wp2_with fail
                  go_ret
                  exact ⟨ret_bool HF.out.symm, BT.out⟩
end Go.Proofs.YtpccjgoeoeehoaaDoor
namespace Go.Proofs.YtpccjgoeoeehoaaDoor
open Go.RowKit
/-- Blocks of elements of type e, from base on, stand as they stood. -/
def SamT (e : TypeId) (base : Nat) (W W' : World) : Prop := ∀ g cur fz, base ≤ g → W.heap[g]? = some (.cells cur e fz) → W'.heap[g]? = some (.cells cur e fz)
theorem SamT.trans {e : TypeId} {base : Nat} {a b c : World} (h : SamT e base a b) (k : SamT e base b c) : SamT e base a c := fun g cur fz hb hg => k g cur fz hb (h g cur fz hb hg)
theorem SamT.below {e : TypeId} {base : Nat} {W W' : World} (h : Below W.heap.size W W') : SamT e base W W' := fun g _ _ _ hg => (h.block g (Array.getElem?_eq_some_iff.1 hg).1).trans hg
theorem SamT.grown {e e' : TypeId} {base : Nat} {W W' : World} {row : Option Nat} (h : W.grownBy W' row) (hr : ∀ g, row = some g → ∃ cur fz, W.heap[g]? = some (.cells cur e' fz)) (he : e ≠ e') : SamT e base W W' := by
  intro g cur fz _ hg
  rw [h.block g (Array.getElem?_eq_some_iff.1 hg).1 (fun e2 => by
    obtain ⟨cur', fz', h2⟩ := hr g e2.symm
    rw [hg] at h2
    injection h2 with h2
    injection h2 with _ h3
    exact he h3)]
  exact hg
theorem SamT.set {e e' : TypeId} {base g : Nat} {W : World} {L : List Value} (hb : Blk W g e' L) (he : e ≠ e') (j : Nat) (v : Value) : SamT e base W (W.setCell ⟨g, j, none⟩ v) := by
  intro g2 cur fz _ hg
  have hne : g2 ≠ g := fun e2 => by
    rw [e2] at hg
    have h1 : W.heap[g]? = some (.cells L.toArray e' (0, 0)) := hb
    rw [h1] at hg
    injection hg with hg
    injection hg with _ h3
    exact he h3.symm
  rw [Below.heap_setCell _ _ _ _ (fun e2 => hne e2)]
  exact hg
theorem FOwn.sam {α : Type} {e n : Nat} {f : α → List Value} {base : Nat} {W W' : World} {x : Value} {l : List α} (h : FOwn e n f base W x l) (hs : SamT e base W W') : FOwn e n f base W' x l := by
  refine ⟨h.1, ?_⟩
  rcases h.2 with hn | ⟨g, cap, cur, hx, hb, hgg, rest⟩
  · exact .inl hn
  · exact .inr ⟨g, cap, cur, hx, hb, hs g cur _ hb hgg, rest⟩
/-- One more, behind a row of one's own. -/
theorem fpush {α : Type} {P : Program} {W : World} {base t e n bytes : Nat} {f : α → List Value} {i0 : TypeInfo} {z : Value} (hf : ∀ x, (f x).length = n) (h1 : ∀ x, ∀ u ∈ f x, u.oneCell' = true) (hn : 0 < n)
    (ht : P.underlying t = some (.slice e)) (hi : P.info? e = some i0) (hz0 : i0.zero = some z) (hz1 : i0.size = n) (hz2 : i0.bytes = bytes) (hzs : z.cells.size = n) (hbt : bytes ≤ 1000)
    {x : Value} {l : List α} (h : FOwn e n f base W x l) (hb : base ≤ W.heap.size) (hl : l.length ≤ 500000) (y : α) :
    ∃ a' c' w', (Builtin.append_ #[t, t] t #[x, .slice (some ⟨W.heap.size, 0, none⟩) 1 1]).run P (W.alloc (.cells (f y).toArray e)) = .ok (.slice a' (l.length + 1) c') w' ∧ FOwn e n f base w' (.slice a' (l.length + 1) c') (l ++ [y]) ∧
      (W.alloc (.cells (f y).toArray e)).grownBy w' x.ownBlock ∧ (∀ g, x.ownBlock = some g → ∃ cur fz, (W.alloc (.cells (f y).toArray e)).heap[g]? = some (.cells cur e fz)) := by
  have b1 := below_lit W (.cells (f y).toArray e)
  have hu : Fs n f (W.alloc (.cells (f y).toArray e)) (.slice (some ⟨W.heap.size, 0, none⟩) 1 1) [y] := by
    have := fs_lit hf W e [y]
    rw [flatV_one] at this
    exact this
  obtain ⟨x', w', hr, ho, hg, -⟩ := fapp hf h1 hn ht hi hz0 hz1 hz2 hzs hbt (h.keep b1) hu (Nat.le_trans hb b1.size) (by simp; omega)
  obtain ⟨a', c', e'⟩ := (FOwn.sl hf ho).len
  have e2 : (l ++ [y]).length = l.length + 1 := by simp
  rw [e2] at e'
  subst e'
  refine ⟨a', c', w', hr, ho, hg, fun g hg' => ?_⟩
  obtain ⟨-, cur, hc⟩ := (h.keep b1).ty hg'
  exact ⟨cur, _, hc⟩
theorem infoSG : (Tryd.prog.info? 30).map (fun i => (i.zero, i.size, i.bytes)) = some (some (.slice none 0 0), 1, 24) := by kernel_rfl
theorem infoTR : (Tryd.prog.info? 83).map (fun i => (i.zero, i.size, i.bytes)) = some (some (.agg #[.bool false, .slice none 0 0]), 2, 32) := by kernel_rfl
noncomputable def appP (args : Array Value) : Sem Next := do pure (.value (← Builtin.append_ #[35, 35] 35 args))
theorem builtin_appP (cs : Array Bool) (args : Array Value) : builtin .append #[35, 35] 35 cs args = appP args := rfl
noncomputable def appW (args : Array Value) : Sem Next := do pure (.value (← Builtin.append_ #[36, 36] 36 args))
theorem builtin_appW (cs : Array Bool) (args : Array Value) : builtin .append #[36, 36] 36 cs args = appW args := rfl
/-- Cells that are made: a row of one's own, of rows of one's own. -/
structure CInv (base : Nat) (W : World) (v : Value) (l : List (List Gly)) : Prop where
  own : ∃ (L : List PV) (S : Nat → Prop), FOwn 30 1 pcell base W v L ∧ L.length = l.length ∧ (∀ b, S b → base ≤ b ∧ ∃ cur fz, W.heap[b]? = some (.cells cur 56 fz)) ∧
    ∀ (i : Nat) s r, L[i]? = some s → l[i]? = some r → FsS S 2 gcell W (pv s) r
theorem CInv.nil (base : Nat) (W : World) : CInv base W (.slice none 0 0) [] := ⟨⟨[], fun _ => False, FOwn.nil _ _, rfl, fun _ h => h.elim, fun i s r h => by simp at h⟩⟩
theorem CInv.sam {base : Nat} {W W' : World} {v : Value} {l : List (List Gly)} (h : CInv base W v l) (h1 : SamT 30 base W W') (h2 : SamT 56 base W W') : CInv base W' v l := by
  obtain ⟨L, S, hL, hl, hS, hE⟩ := h.own
  have hk : Kp S W W' := fun b hb => by
    obtain ⟨q1, cur, fz, q2⟩ := hS b hb
    rw [h2 b cur fz q1 q2, q2]
  exact ⟨⟨L, S, hL.sam h1, hl, fun b hb => by
    obtain ⟨q1, cur, fz, q2⟩ := hS b hb
    exact ⟨q1, cur, fz, h2 b cur fz q1 q2⟩, fun i s r a b => (hE i s r a b).keep hk⟩⟩
theorem CInv.len {base : Nat} {W : World} {v : Value} {l : List (List Gly)} (h : CInv base W v l) : ∃ a cap, v = .slice a l.length cap := by
  obtain ⟨L, S, hL, hl, -, -⟩ := h.own
  obtain ⟨a, cap, e⟩ := (FOwn.sl pcell_len hL).len
  exact ⟨a, cap, hl ▸ e⟩
/-- As it reads. -/
theorem own_foot {α : Type} {e n : Nat} {f : α → List Value} {base : Nat} {W : World} {x : Value} {l : List α} (hf : ∀ x, (f x).length = n) (h : FOwn e n f base W x l) : FsS (fun b => base ≤ b ∧ ∃ cur fz, W.heap[b]? = some (.cells cur e fz)) n f W x l := by
  refine ⟨FOwn.sl hf h, fun a k c e1 hk => ?_⟩
  subst e1
  rcases h.2 with ⟨hn, -⟩ | ⟨g, cap, cur, hx, hb, hgg, -⟩
  · injection hn with e1 e2 e3
    cases e1
  · injection hx with e1 e2 e3
    injection e1 with e1
    subst e1
    exact ⟨⟨hb, cur, _, hgg⟩, fun _ i _ => by simp [World.frozen?, hgg]⟩
theorem CInv.grs {base : Nat} {W : World} {v : Value} {l : List (List Gly)} (h : CInv base W v l) :
    GrS (fun b => base ≤ b ∧ ∃ cur e fz, W.heap[b]? = some (.cells cur e fz) ∧ (e = 30 ∨ e = 56)) W v l := by
  obtain ⟨L, S, hL, hl, hS, hE⟩ := h.own
  refine ⟨L, hl, (own_foot pcell_len hL).mono fun b hb => ?_, fun i s r a b => (hE i s r a b).mono fun x hx => ?_⟩
  · obtain ⟨q1, cur, fz, q2⟩ := hb
    exact ⟨q1, cur, _, fz, q2, .inl rfl⟩
  · obtain ⟨q1, cur, fz, q2⟩ := hS x hx
    exact ⟨q1, cur, _, fz, q2, .inr rfl⟩
/-- Rows of a table that are made. -/
structure WInv (base : Nat) (W : World) (v : Value) (l : List Trow) : Prop where
  own : ∃ (L : List (Bool × PV)) (S : Nat → Prop), FOwn 83 2 trcell base W v L ∧ L.length = l.length ∧ (∀ b, S b → base ≤ b ∧ ∃ cur e fz, W.heap[b]? = some (.cells cur e fz) ∧ (e = 30 ∨ e = 56)) ∧
    ∀ (i : Nat) s r, L[i]? = some s → l[i]? = some r → s.1 = r.1 ∧ GrS S W (pv s.2) r.2
theorem WInv.nil (base : Nat) (W : World) : WInv base W (.slice none 0 0) [] := ⟨⟨[], fun _ => False, FOwn.nil _ _, rfl, fun _ h => h.elim, fun i s r h => by simp at h⟩⟩
theorem WInv.len {base : Nat} {W : World} {v : Value} {l : List Trow} (h : WInv base W v l) : ∃ a cap, v = .slice a l.length cap := by
  obtain ⟨L, S, hL, hl, -, -⟩ := h.own
  obtain ⟨a, cap, e⟩ := (FOwn.sl trcell_len hL).len
  exact ⟨a, cap, hl ▸ e⟩
theorem kp_two {base : Nat} {W W' : World} {S : Nat → Prop} (hS : ∀ b, S b → base ≤ b ∧ ∃ cur e fz, W.heap[b]? = some (.cells cur e fz) ∧ (e = 30 ∨ e = 56)) (h1 : SamT 30 base W W') (h2 : SamT 56 base W W') :
    Kp S W W' ∧ ∀ b, S b → base ≤ b ∧ ∃ cur e fz, W'.heap[b]? = some (.cells cur e fz) ∧ (e = 30 ∨ e = 56) := by
  have key : ∀ b, S b → W'.heap[b]? = W.heap[b]? := fun b hb => by
    obtain ⟨q1, cur, e, fz, q2, q3⟩ := hS b hb
    rcases q3 with rfl | rfl
    · rw [h1 b cur fz q1 q2, q2]
    · rw [h2 b cur fz q1 q2, q2]
  refine ⟨key, fun b hb => ?_⟩
  obtain ⟨q1, cur, e, fz, q2, q3⟩ := hS b hb
  exact ⟨q1, cur, e, fz, by rw [key b hb, q2], q3⟩
/-- What holds besides its own block's being kept. -/
theorem WInv.held {base : Nat} {W W' : World} {v : Value} {l : List Trow} (h : WInv base W v l) (ho : ∀ L, FOwn 83 2 trcell base W v L → FOwn 83 2 trcell base W' v L) (h1 : SamT 30 base W W') (h2 : SamT 56 base W W') : WInv base W' v l := by
  obtain ⟨L, S, hL, hl, hS, hE⟩ := h.own
  obtain ⟨k1, t1⟩ := kp_two hS h1 h2
  exact ⟨⟨L, S, ho L hL, hl, t1, fun i s r a b => ⟨(hE i s r a b).1, (hE i s r a b).2.keep k1⟩⟩⟩
theorem WInv.sam {base : Nat} {W W' : World} {v : Value} {l : List Trow} (h : WInv base W v l) (h0 : SamT 83 base W W') (h1 : SamT 30 base W W') (h2 : SamT 56 base W W') : WInv base W' v l := h.held (fun L hL => hL.sam h0) h1 h2
theorem WInv.keep {base : Nat} {W W' : World} {v : Value} {l : List Trow} (h : WInv base W v l) (hb : Below W.heap.size W W') : WInv base W' v l := h.sam (SamT.below hb) (SamT.below hb) (SamT.below hb)
theorem WInv.trs {base : Nat} {W : World} {v : Value} {l : List Trow} (h : WInv base W v l) : TrS (fun b => base ≤ b ∧ b < W.heap.size) W v l := by
  obtain ⟨L, S, hL, hl, hS, hE⟩ := h.own
  refine ⟨L, hl, (own_foot trcell_len hL).mono fun b hb => ?_, fun i s r a b => ⟨(hE i s r a b).1, (hE i s r a b).2.mono fun x hx => ?_⟩⟩
  · obtain ⟨q1, cur, fz, q2⟩ := hb
    exact ⟨q1, (Array.getElem?_eq_some_iff.1 q2).1⟩
  · obtain ⟨q1, cur, e, fz, q2, -⟩ := hS x hx
    exact ⟨q1, (Array.getElem?_eq_some_iff.1 q2).1⟩
/-- A row more. -/
theorem WInv.push {base : Nat} {W : World} {v : Value} {l : List Trow} (h : WInv base W v l) (hb : base ≤ W.heap.size) (hl : l.length ≤ 500000) (b : Bool) (s : PV) (r : List (List Gly))
    (hs : GrS (fun b => base ≤ b ∧ ∃ cur e fz, W.heap[b]? = some (.cells cur e fz) ∧ (e = 30 ∨ e = 56)) W (pv s) r) :
    ∃ a' c' w', (appW #[v, .slice (some ⟨W.heap.size, 0, none⟩) 1 1]).run Tryd.prog (W.alloc (.cells #[.bool b, pv s] 83)) = .ok (.value (.slice a' (l.length + 1) c')) w' ∧ WInv base w' (.slice a' (l.length + 1) c') (l ++ [(b, r)]) ∧ Below base W w' ∧
      ∀ e, e ≠ 83 → SamT e base W w' := by
  obtain ⟨L, S, hL, hLl, hS, hE⟩ := h.own
  obtain ⟨i0, hi, hz0, hz1, hz2⟩ := info_parts infoTR
  obtain ⟨a', c', w', hr, ho, hg, hty⟩ := fpush (P := Tryd.prog) (t := 36) trcell_len trcell_one (by decide) Tryd.underlying36 hi hz0 hz1 hz2 rfl (by decide) hL hb (by omega) (b, s)
  have b1 := below_lit W (.cells (trcell (b, s)).toArray 83)
  have sam : ∀ e, e ≠ 83 → SamT e base W w' := fun e he => (SamT.below b1).trans (SamT.grown hg hty he)
  obtain ⟨k1, t1⟩ := kp_two hS (sam _ (by decide)) (sam _ (by decide))
  obtain ⟨k2, t2⟩ := kp_two (S := fun b => base ≤ b ∧ ∃ cur e fz, W.heap[b]? = some (.cells cur e fz) ∧ (e = 30 ∨ e = 56)) (fun b hb => hb) (sam _ (by decide)) (sam _ (by decide))
  rw [hLl] at hr ho
  refine ⟨a', c', w', ?_, ⟨⟨L ++ [(b, s)], fun b => S b ∨ (base ≤ b ∧ ∃ cur e fz, W.heap[b]? = some (.cells cur e fz) ∧ (e = 30 ∨ e = 56)), ho, by simp [hLl], fun b hb => ?_, fun i x y hx hy => ?_⟩⟩, ?_, sam⟩
  · unfold appW
    simp only [Sem.run_bind, Sem.run_pure, Result.andThen_ok]
    rw [show (#[.bool b, pv s] : Array Value) = (trcell (b, s)).toArray from rfl, hr]
    rfl
  · rcases hb with hb | hb
    · exact t1 b hb
    · exact t2 b hb
  · by_cases hil : i < l.length
    · rw [List.getElem?_append_left (by omega)] at hx hy
      exact ⟨(hE i x y hx hy).1, ((hE i x y hx hy).2.keep k1).mono fun b hb => .inl hb⟩
    · have : i = l.length := by
        have := (List.getElem?_eq_some_iff.1 hy).1
        simp at this
        omega
      subst this
      rw [List.getElem?_append_right (by omega), hLl, Nat.sub_self] at hx
      rw [List.getElem?_append_right (by omega), Nat.sub_self] at hy
      simp at hx hy
      subst hx hy
      exact ⟨rfl, (hs.keep k2).mono fun b hb => .inr hb⟩
  · exact (hL.keep b1).below (b1.mono hb) (Nat.le_trans hb b1.size) hg
end Go.Proofs.YtpccjgoeoeehoaaDoor
namespace Go.Proofs.YtpccjgoeoeehoaaDoor
open Go.RowKit
attribute [local go_sem ↓ high] binop_eqT binop_neqT builtin_appP builtin_appW
theorem Blk.sam {W W' : World} {g e base : Nat} {L : List Value} (h : Blk W g e L) (hb : base ≤ g) (hs : SamT e base W W') : Blk W' g e L := hs g _ _ hb h
theorem Blk.other {W : World} {g e g' : Nat} {L : List Value} (h : Blk W g e L) (hne : g ≠ g') (j : Nat) (v : Value) : Blk (W.setCell ⟨g', j, none⟩ v) g e L := by
  show (W.setCell ⟨g', j, none⟩ v).heap[g]? = _
  rw [Below.heap_setCell _ _ _ _ (fun e2 => hne e2)]
  exact h
section
variable {w W W' : World} {cols C : List UInt8} {rv v : Value} {gb ga al : Bool} {rows : List Trow}
end
section
variable {wo W W' : World} {x : Bool} {v : Value} {cells : List (List Gly)}
end
end Go.Proofs.YtpccjgoeoeehoaaDoor
namespace Go.Proofs.YtpccjgoeoeehoaaDoor
open Go.RowKit
attribute [local go_sem ↓ high] binop_eqT binop_neqT builtin_appP builtin_appW
end Go.Proofs.YtpccjgoeoeehoaaDoor
namespace Go.Proofs.YtpccjgoeoeehoaaDoor
open Go.RowKit
/-- 'min' of two numbers, kept whole. -/
noncomputable def mnS (args : Array Value) : Sem Next := do pure (.value (← Builtin.min_ #[3, 3] 3 args))
theorem builtin_mnS (cs : Array Bool) (args : Array Value) : builtin .min #[3, 3] 3 cs args = mnS args := rfl
theorem mnS_run (x y z : Int) (hz : (if y < x then y else x) = z) (w : World) : (mnS #[.int .i64 x, .int .i64 y]).run Tryd.prog w = .ok (.value (.int .i64 z)) w := by
  unfold mnS
  simp only [Sem.run_bind, Sem.run_pure, run_min_int2, Result.andThen_ok, hz]
def zNd : List Value := [.int .i64 0, .int .i64 0, .int .i64 0, .slice none 0 0, .slice none 0 0, .slice none 0 0, .string ⟨#[]⟩, .slice none 0 0, .bool false, .bool false]
section
variable {w W W' : World} {x y y' : NV}
end
/-- Ten cells of a block, one by one. -/
def set10 (W : World) (g : Nat) (x : NV) : World :=
  ((((((((((W.setCell ⟨g, 0, none⟩ (.int .i64 x.kind)).setCell ⟨g, 1, none⟩ (.int .i64 x.line)).setCell ⟨g, 2, none⟩ (.int .i64 x.n)).setCell ⟨g, 3, none⟩ (pv x.text)).setCell ⟨g, 4, none⟩ (pv x.kids)).setCell ⟨g, 5, none⟩ (pv x.rows)).setCell ⟨g, 6, none⟩ (.string ⟨x.cols.toArray⟩)).setCell ⟨g, 7, none⟩ (pv x.trows)).setCell ⟨g, 8, none⟩ (.bool x.box)).setCell ⟨g, 9, none⟩ (.bool x.all))
theorem set10_heap (W : World) (g : Nat) (x : NV) {k : Nat} (h : k ≠ g) : (set10 W g x).heap[k]? = W.heap[k]? := by
  unfold set10
  simp only [Below.heap_setCell _ (⟨g, _, none⟩ : Addr) _ k h]
theorem set10_size (W : World) (g : Nat) (x : NV) : (set10 W g x).heap.size = W.heap.size := by simp [set10, World.setCell]
theorem set10_blk {W : World} {g : Nat} {e : TypeId} {a0 a1 a2 a3 a4 a5 a6 a7 a8 a9 : Value} (h : Blk W g e [a0, a1, a2, a3, a4, a5, a6, a7, a8, a9]) (x : NV) : Blk (set10 W g x) g e (ncell x) :=
  (((((((((h.set 0 _).set 1 _).set 2 _).set 3 _).set 4 _).set 5 _).set 6 _).set 7 _).set 8 _).set 9 _
theorem set10_below {D : Nat} {a W : World} (h : Below D a W) {g : Nat} (hg : D ≤ g) (x : NV) : Below D a (set10 W g x) :=
  (((((((((h.setCell hg _).setCell hg _).setCell hg _).setCell hg _).setCell hg _).setCell hg _).setCell hg _).setCell hg _).setCell hg _).setCell hg _
end Go.Proofs.YtpccjgoeoeehoaaDoor
namespace Go.Proofs.YtpccjgoeoeehoaaDoor
open Go.RowKit
attribute [local go_sem ↓ high] builtin_mxS builtin_mnS
theorem szset (W : World) (a : Addr) (v : Value) : (W.setCell a v).heap.size = W.heap.size := by simp [World.setCell]
end Go.Proofs.YtpccjgoeoeehoaaDoor
namespace Go.Proofs.YtpccjgoeoeehoaaDoor
open Go.RowKit
theorem infoNd : (Tryd.prog.info? 40).map (fun i => (i.zero, i.size, i.bytes)) = some (some (.agg zNd.toArray), 10, 144) := by kernel_rfl
noncomputable def appN (args : Array Value) : Sem Next := do pure (.value (← Builtin.append_ #[27, 27] 27 args))
theorem builtin_appN (cs : Array Bool) (args : Array Value) : builtin .append #[27, 27] 27 cs args = appN args := rfl
/-- A node as it lies, and what it says. -/
theorem NsS.atR {S : Nat → Prop} {w : World} {a : Option Addr} {k cap : Nat} {l : List Nd} (h : NsS S w (.slice a k cap) l) {j : Nat} {y : Nd} (hy : l[j]? = some y) :
    ∃ g off x, a = some ⟨g, off, none⟩ ∧ S g ∧ (∀ (i : Nat) c, (ncell x)[i]? = some c → w.cell? ⟨g, off + j * 10 + i, none⟩ = some c) ∧ HdIs S w x y.hd ∧ NsS S w (pv x.kids) y.kids := by
  cases h with
  | mk _ _ L hl hs hh hk =>
    obtain ⟨x, hx⟩ : ∃ x, L[j]? = some x := ⟨L[j]'(by have := (List.getElem?_eq_some_iff.1 hy).1; omega), List.getElem?_eq_getElem _⟩
    obtain ⟨g, off, e, hg, hc⟩ := hs.at hx
    exact ⟨g, off, x, e, hg, fun i c hi => by rw [Nat.add_assoc]; exact hc i c hi, hh j x y hx hy, hk j x y hx hy⟩
/-- Nodes that are made: a row of one's own; what they hold lies among what came in (SI), or was made, apart from the row itself. -/
structure NInv (SI : Nat → Prop) (base : Nat) (W : World) (v : Value) (l : List Nd) : Prop where
  lt : ∀ b, SI b → b < base
  sz : base ≤ W.heap.size
  own : ∃ (L : List NV) (S : Nat → Prop), FOwn 40 10 ncell base W v L ∧ L.length = l.length ∧ (∀ b, S b → SI b ∨ (base ≤ b ∧ b < W.heap.size ∧ v.ownBlock ≠ some b)) ∧
    ∀ (i : Nat) x y, L[i]? = some x → l[i]? = some y → HdIs S W x y.hd ∧ NsS S W (pv x.kids) y.kids
section
variable {SI : Nat → Prop} {base : Nat} {W W' : World} {v : Value} {l : List Nd}
theorem NInv.nil (h1 : ∀ b, SI b → b < base) (h2 : base ≤ W.heap.size) : NInv SI base W (.slice none 0 0) [] :=
  ⟨h1, h2, ⟨[], fun _ => False, FOwn.nil _ _, rfl, fun _ h => h.elim, fun i x y h => by simp at h⟩⟩
theorem NInv.len (h : NInv SI base W v l) : ∃ a cap, v = .slice a l.length cap := by
  obtain ⟨L, S, hL, hl, -, -⟩ := h.own
  obtain ⟨a, cap, e⟩ := (FOwn.sl ncell_len hL).len
  exact ⟨a, cap, hl ▸ e⟩
theorem NInv.keep (h : NInv SI base W v l) (hb : Below W.heap.size W W') : NInv SI base W' v l := by
  obtain ⟨L, S, hL, hl, hS, hE⟩ := h.own
  have hk : Kp S W W' := fun b hb' => hb.block b (by
    rcases hS b hb' with q | q
    · exact Nat.lt_of_lt_of_le (h.lt b q) h.sz
    · exact q.2.1)
  refine ⟨h.lt, Nat.le_trans h.sz hb.size, ⟨L, S, hL.keep hb, hl, fun b hb' => ?_, fun i x y a c => ⟨(hE i x y a c).1.keep hk, (hE i x y a c).2.keep hk⟩⟩⟩
  rcases hS b hb' with q | q
  · exact .inl q
  · exact .inr ⟨q.1, Nat.lt_of_lt_of_le q.2.1 hb.size, q.2.2⟩
theorem NInv.nss (h : NInv SI base W v l) : NsS (fun b => SI b ∨ (base ≤ b ∧ b < W.heap.size)) W v l := by
  obtain ⟨L, S, hL, hl, hS, hE⟩ := h.own
  have hm : ∀ b, S b → SI b ∨ (base ≤ b ∧ b < W.heap.size) := fun b hb => (hS b hb).imp id fun q => ⟨q.1, q.2.1⟩
  refine .mk _ _ L hl ((own_foot ncell_len hL).mono fun b hb => .inr ⟨hb.1, ?_⟩) (fun i x y a c => (hE i x y a c).1.mono hm) (fun i x y a c => (hE i x y a c).2.mono hm)
  obtain ⟨-, cur, fz, hc⟩ := hb
  exact (Array.getElem?_eq_some_iff.1 hc).1
end
end Go.Proofs.YtpccjgoeoeehoaaDoor
namespace Go.Proofs.YtpccjgoeoeehoaaDoor
open Go.RowKit
theorem pv_len {α : Type} {n : Nat} {f : α → List Value} {w : World} {s : PV} {l : List α} (h : Fs n f w (pv s) l) : s.2.1 = l.length := by
  obtain ⟨a, c, e⟩ := h.len
  rw [pv_eq e]
theorem full_of {S : Nat → Prop} {w : World} {x : NV} {h : Hd} (hh : HdIs S w x h) (c : Nat) : fullV x.kind x.text.2.1 c x.rows.2.1 x.trows.2.1 = fullB h (decide (0 < c)) := by
  have e1 := pv_len hh.text.1
  obtain ⟨a2, c2, e2⟩ := hh.rows.len
  obtain ⟨a3, c3, e3⟩ := hh.trows.len
  rw [e1, pv_eq e2, pv_eq e3, hh.kind]
  simp only
  unfold fullV fullB
  have p : ∀ {α : Type} (l : List α), decide (0 < l.length) = decide (l ≠ []) := fun l => by
    cases l <;> simp
  rw [p, p, p]
theorem hasK_len {α : Type} (l : List α) : decide (0 < l.length) = hasK l := by cases l <;> simp [hasK]
/-- 'full' of a node as it lies. -/
theorem rfull_of {S : Nat → Prop} {w0 : World} {x : NV} {h : Hd} (hh : HdIs S w0 x h) (w : World) :
    Calls Tryd.prog 71 #[.agg (ncell x).toArray] w fun e w' => e = .returned (.bool (fullB h (decide (0 < x.kids.2.1)))) ∧ Below w.heap.size w w' := by
  have := rfull_any x.kind x.line x.n x.text x.kids x.rows x.cols x.trows x.box x.all w
  rw [full_of hh] at this
  exact this
theorem full_kind4 {h : Hd} (hk : h.kind = 4) (b : Bool) : fullB h b = true := by unfold fullB; rw [hk]; rfl
end Go.Proofs.YtpccjgoeoeehoaaDoor
namespace Go.Proofs.YtpccjgoeoeehoaaDoor
open Go.RowKit
section
variable {SI : Nat → Prop} {base gy : Nat} {wo W W' : World} {x y : NV} {hy : Hd} {v : Value} {l : List Nd}
end
end Go.Proofs.YtpccjgoeoeehoaaDoor
namespace Go.Proofs.YtpccjgoeoeehoaaDoor
open Go.RowKit
/-- How much there is of a builder. -/
def btl (t : Bt) : Nat := nlL t.kids + nlL t.opn + t.text.length
theorem nl_own (y x : Nd) : nlN (ownKid y x) = nlN y + nlN x := by
  cases y
  simp only [ownKid, nlN, Nd.hd, Nd.kids, nlL_app, nlL]
  omega
theorem btl_lay (t : Bt) (x : Nd) : btl (bLay t x) = btl t + nlN x := by
  rcases opn_cases t.opn with h | ⟨l, y, h⟩
  · rw [lay_none x h]
    simp only [btl, nlL_app, nlL]
    omega
  · rw [lay_some x h]
    unfold btl
    simp only
    rw [h, nlL_app, nlL_app]
    simp only [nlL, nl_own]
    omega
theorem btl_pop (t : Bt) : btl (bPop t) = btl t := by
  rcases opn_cases t.opn with h | ⟨l, x, h⟩
  · rw [pop_none h]
  · rw [pop_some h, btl_lay]
    unfold btl
    simp only
    rw [h, nlL_app]
    simp only [nlL]
    omega
theorem nl_para (t : Bt) : nlN (paraN t) = 3 + t.text.length := by simp [paraN, nlN, hdl, nlL, noGrid, lens, trls]
theorem btl_end (t : Bt) : btl (bEnd t) ≤ btl t + 3 := by
  unfold bEnd
  split
  · unfold btl bFlat
    simp only [List.length_nil]
    omega
  · have h := btl_lay t (paraN t)
    rw [nl_para] at h
    have e : btl (bFlat (bLay t (paraN t))) + (bLay t (paraN t)).text.length = btl (bLay t (paraN t)) := by
      unfold btl bFlat
      simp only [List.length_nil]
      omega
    have e2 : (bLay t (paraN t)).text = t.text := (lay_sameP t _).2.1
    rw [e2] at e
    omega
theorem jn_len_le (a b : List Gly) : (jn a b).length ≤ a.length + b.length + 1 := by
  unfold jn
  split
  · omega
  · split
    · omega
    · simp; omega
theorem btl_text (t : Bt) (l : List Gly) (i : Int) : btl (bText t l i) ≤ btl t + l.length + 1 := by
  have := jn_len_le t.text l
  unfold btl bText
  simp only
  omega
theorem btl_open (t : Bt) (x : Nd) : btl (bOpen t x) ≤ btl t + 3 + nlN x := by
  have := btl_end t
  unfold bOpen btl at *
  simp only [nlL_app, nlL] at *
  omega
theorem btl_add (t : Bt) (x : Nd) : btl (bAdd t x) ≤ btl t + 3 + nlN x := by
  have := btl_end t
  unfold bAdd
  rw [btl_lay]
  omega
theorem btl_popAll (K : List Int) : ∀ (n : Nat) (t : Bt), btl (popAll K n t) = btl t
  | 0, t => rfl
  | n + 1, t => by
    unfold popAll
    split
    · rfl
    · split
      · rw [btl_popAll K n, btl_pop]
      · rfl
theorem btl_popTo (k : Int) : ∀ (n : Nat) (t : Bt), btl (popTo k n t) = btl t
  | 0, t => rfl
  | n + 1, t => by
    unfold popTo
    split
    · rfl
    · split
      · exact btl_pop t
      · rw [btl_popTo k n, btl_pop]
theorem btl_shut (t : Bt) (K : List Int) : btl (bShut t K) ≤ btl t + 3 := by unfold bShut; rw [btl_popAll]; exact btl_end t
theorem btl_close (t : Bt) (k : Int) : btl (bClose t k).1 ≤ btl t + 3 := by
  unfold bClose
  split
  · rw [btl_popTo]; exact btl_end t
  · exact btl_end t
theorem nl_wrap : ∀ l : List Nd, nlL (wrapK l) = nlL l
  | [] => rfl
  | y :: r => by
    have := nl_wrap r
    cases y
    simp only [wrapK, nlL, nlN, Nd.hd, Nd.kids, nlL_app]
    omega
theorem btl_all (t : Bt) : nlL (bAll t) ≤ btl t := by
  unfold bAll btl
  rw [nlL_app, nl_wrap]
  omega
end Go.Proofs.YtpccjgoeoeehoaaDoor
namespace Go.Proofs.YtpccjgoeoeehoaaDoor
open Go.RowKit
attribute [local go_sem ↓ high] builtin_appN
theorem kt1 {k m : Int} (h1 : k = 1 ∨ k = 2) (h : stands k m = true) : kindAt k m = k := by unfold kindAt; rw [if_neg]; rw [h]; simp
theorem kt3 {k m : Int} (h1 : k = 1 ∨ k = 2) (h : stands k m = false) : kindAt k m = 3 := by unfold kindAt; rw [if_pos ⟨h1, h⟩]
theorem kt0 {k m : Int} (h1 : ¬ k = 1) (h2 : ¬ k = 2) : kindAt k m = k := by unfold kindAt; rw [if_neg]; omega
end Go.Proofs.YtpccjgoeoeehoaaDoor
namespace Go.Proofs.YtpccjgoeoeehoaaDoor
open Go.RowKit
end Go.Proofs.YtpccjgoeoeehoaaDoor
namespace Go.Proofs.YtpccjgoeoeehoaaDoor
open Go.RowKit
def endB (l : List Gly) : Bool := match l.getLast? with
  | none => false
  | some g => g.1 == 32
/-- Is a blank due ahead of the next glyph? -/
def due (l : List Gly) : Bool := endB l && !(sqz l).isEmpty
theorem endB_snoc (l : List Gly) (g : Gly) : endB (l ++ [g]) = (g.1 == 32) := by simp [endB]
theorem trm_blank {g : Gly} (h : g.1 = 32) : ∀ l : List Gly, trm (l ++ [g]) = trm l
  | [] => by simp [trm, h]
  | x :: l => by
    rw [List.cons_append, trm_cons, trm_blank h l, trm_cons]
theorem trm_other {g : Gly} (h : g.1 ≠ 32) : ∀ l : List Gly, trm (l ++ [g]) = l ++ [g]
  | [] => by simp [trm, h]
  | x :: l => by
    rw [List.cons_append, trm_cons, trm_other h l, if_neg (fun k => by simp at k)]
theorem sqz_blank {g : Gly} (h : g.1 = 32) (l : List Gly) : sqz (l ++ [g]) = sqz l := by unfold sqz; rw [trm_blank h]
theorem sqA_dueN : ∀ (n : Nat) (l : List Gly), l.length = n → sqA false l = sqz l ++ (if due l then [(32, 0)] else [])
  | 0, l, h => by
    rw [List.eq_nil_of_length_eq_zero h]
    rfl
  | n + 1, l, h => by
    rcases List.eq_nil_or_concat l with rfl | ⟨Q, b, rfl⟩
    · rfl
    rw [List.concat_eq_append] at h ⊢
    have ih := sqA_dueN n Q (by simpa using h)
    unfold due
    rw [endB_snoc]
    by_cases hb : b.1 = 32
    · rw [sqz_blank hb, sqA_app, sqA_blank _ hb]
      have e1 : (b.1 == 32) = true := by simpa using hb
      rw [e1, Bool.true_and]
      have e0 : sqA false [] = [] := rfl
      rw [e0]
      by_cases hd : due Q = true
      · rw [if_pos hd] at ih
        have hne : (!(sqz Q).isEmpty) = true := by unfold due at hd; rw [Bool.and_eq_true] at hd; exact hd.2
        rw [ih, hne]
        simp [lastNB]
      · rw [if_neg hd, List.append_nil] at ih
        rw [ih]
        by_cases hq : sqz Q = []
        · rw [hq]; rfl
        · have hne : (!(sqz Q).isEmpty) = true := by simpa using hq
          rw [hne]
          have hend : endB Q = false := by
            unfold due at hd
            rw [hne, Bool.and_true] at hd
            simpa using hd
          have hl : lastNB false (sqz Q) = true := by
            rcases List.eq_nil_or_concat Q with rfl | ⟨R, c, rfl⟩
            · exact absurd rfl hq
            · rw [List.concat_eq_append] at hend ih ⊢
              rw [endB_snoc] at hend
              have hc : c.1 ≠ 32 := by simpa using hend
              rw [← ih, sqA_app, sqA_other _ hc]
              have e0 : sqA true [] = [] := rfl
              rw [e0]
              simp [lastNB, hc]
          rw [hl]
    · have e1 : (b.1 == 32) = false := by simpa using hb
      rw [e1, Bool.false_and]
      unfold sqz
      rw [trm_other hb]
      simp
theorem sqA_due (l : List Gly) : sqA false l = sqz l ++ (if due l then [(32, 0)] else []) := sqA_dueN _ l rfl
theorem sqz_other {g : Gly} (h : g.1 ≠ 32) (l : List Gly) : sqz (l ++ [g]) = sqz l ++ (if due l then [(32, 0)] else []) ++ [g] := by
  rw [← sqA_due]
  unfold sqz
  rw [trm_other h, sqA_app, sqA_other _ h]
  rfl
theorem due_blank {g : Gly} (h : g.1 = 32) (l : List Gly) : due (l ++ [g]) = !(sqz l).isEmpty := by
  unfold due
  rw [endB_snoc, sqz_blank h, show (g.1 == 32) = true by simpa using h, Bool.true_and]
theorem due_other {g : Gly} (h : g.1 ≠ 32) (l : List Gly) : due (l ++ [g]) = false := by
  unfold due
  rw [endB_snoc, show (g.1 == 32) = false by simpa using h, Bool.false_and]
theorem take_snoc' {α : Type} {l : List α} {j : Nat} {x : α} (h : l[j]? = some x) : l.take (j + 1) = l.take j ++ [x] := by
  rw [List.take_add_one, h]; rfl
theorem FOwn.blt {α : Type} {e n : Nat} {f : α → List Value} {base : Nat} {W : World} {x : Value} {l : List α} (h : FOwn e n f base W x l) {g : Nat} (hg : x.ownBlock = some g) : g < W.heap.size := by
  obtain ⟨-, cur, hc⟩ := h.ty hg
  exact (Array.getElem?_eq_some_iff.1 hc).1
/-- A glyph behind a row of the call's own; all else stands. -/
theorem gpush2 {base : Nat} {W : World} {x : Value} {l : List Gly} (h : GOwn base W x l) (hb : base ≤ W.heap.size) (hl : l.length ≤ 500000) (r s : Int) :
    ∃ a' c' w', (appG #[x, .slice (some ⟨W.heap.size, 0, none⟩) 1 1]).run Tryd.prog (W.alloc (.cells #[.int .i32 r, .int .u8 s] 56)) = .ok (.value (.slice a' (l.length + 1) c')) w' ∧ GOwn base w' (.slice a' (l.length + 1) c') (l ++ [(r, s)]) ∧ Below base W w' ∧ Exc (fun b => x.ownBlock = some b) W w' := by
  have b1 := below_lit W (.cells #[.int .i32 r, .int .u8 s] 56)
  have hu : Gs (W.alloc (.cells #[.int .i32 r, .int .u8 s] 56)) (.slice (some ⟨W.heap.size, 0, none⟩) 1 1) [(r, s)] := fs_lit gcell_len W 56 [(r, s)]
  obtain ⟨x', w', hr, ho, hg, -⟩ := appG_own (h.keep b1) hu (Nat.le_trans hb b1.size) (by simp; omega)
  obtain ⟨a', c', e⟩ := (FOwn.sl gcell_len ho).len
  have hbel := (h.keep b1).below (b1.mono hb) (Nat.le_trans hb b1.size) hg
  have e2 : (l ++ [(r, s)]).length = l.length + 1 := by simp
  rw [e2] at e
  subst e
  refine ⟨a', c', w', hr, ho, hbel, ⟨hbel.os, hbel.tape, hbel.output, hbel.size, fun k hk hx => ?_⟩⟩
  exact (hg.block k (Nat.lt_of_lt_of_le hk b1.size) (fun e => hx e.symm)).trans (b1.block k hk)
attribute [local go_sem ↓ high] builtin_appG
set_option maxRecDepth 100000 in
set_option maxHeartbeats 2000000 in
theorem psqueeze_any (l : List Gly) (v : Value) (w : World) (hv : Gs w v l) (hl : l.length ≤ 90000) :
    Calls Tryd.prog 91 #[v] w fun e w' => ∃ u, e = .returned u ∧ GOwn w.heap.size w' u (sqz l) ∧ Below w.heap.size w w' := by
  have HV := Lib.hid hv
  obtain ⟨va, vc, rfl⟩ := hv.len
  clear hv
  go_enter Tryd.func91, Tryd.ntmps91
  go_wp2_with fail
  go_step3
  go_wp2_with fail
  go_step3
  go_wp2_with fail
  go_loopw [3, 4, 9] (fun s q i wr => ∃ j : Nat, j ≤ l.length ∧ i = .int .i64 j ∧ q = .bool (due (l.take j)) ∧ Hid (GOwn w.heap.size wr s (sqz (l.take j))) ∧ Hid (Below w.heap.size w wr)) (fun _ _ i _ => l.length - (intOf i).toNat)
  case atStart => exact ⟨0, by omega, rfl, rfl, Lib.hid (FOwn.nil _ _), Lib.hid (Below.refl _ _)⟩
  case round =>
    obtain ⟨j, hj, rfl, rfl, HO, BW⟩ := hrel
    have hsl := sqz_len (l.take j)
    rw [List.length_take] at hsl
    obtain ⟨sa, sc, hs⟩ := (FOwn.sl gcell_len HO.out).len
    subst hs
    by_cases hlt : j < l.length
    · obtain ⟨z, hz⟩ : ∃ z, l[j]? = some z := ⟨l[j], List.getElem?_eq_getElem hlt⟩
      have HTS := Lib.hid (take_snoc' hz)
      obtain ⟨g, off, rfl, c0, c1, -⟩ := Gs.at (Fs.below HV.out BW.out) hz
      have hi0 : (j : Int) < (l.length : Int) := by omega
      have hi1 : (0 : Int) ≤ (j : Int) := by omega
      obtain ⟨z0, z1⟩ := z
      simp only at c0 c1
      have bl := below_lit wr (.cells #[.int .i32 z0, .int .u8 z1] 56)
      have BL := Lib.hid (BW.out.trans (bl.mono BW.out.size))
      have HOL := Lib.hid (HO.out.keep bl)
      clear hz
      by_cases h32 : z0 = 32
      · have HN := Lib.hid (sqz_blank (g := (z0, z1)) h32 (l.take j))
        have HD := Lib.hid (due_blank (g := (z0, z1)) h32 (l.take j))
        subst h32
        obtain ⟨O, hO⟩ : ∃ O, sqz (l.take j) = O := ⟨_, rfl⟩
        rw [hO] at HN HD HOL ⊢
        by_cases hne : O = []
        · subst hne
          have HD2 : Hid (due (l.take j ++ [(32, z1)]) = false) := Lib.hid (by rw [HD.out]; rfl)
          clear hO hsl HO bl HD
          go_wp2_with fail
          go_roundw
          case rel => exact ⟨j + 1, by omega, by go_num, by rw [HTS.out, HD2.out], by rw [HTS.out, HN.out]; exact HOL, BL⟩
          case measure => (simp [intOf]; try omega)
        · have HD2 : Hid (due (l.take j ++ [(32, z1)]) = true) := Lib.hid (by rw [HD.out]; simpa using hne)
          have p0 : 0 < O.length := List.length_pos_iff.2 hne
          obtain ⟨n, hn⟩ : ∃ n, O.length = n := ⟨_, rfl⟩
          rw [hn] at p0 ⊢
          have p1 : (0 : Int) < (n : Int) := by omega
          have HHN := Lib.hid hn
          clear hO hsl hn HO bl HD hne
          go_wp2_with fail
          go_roundw
          case rel => exact ⟨j + 1, by omega, by go_num, by rw [HTS.out, HD2.out], by rw [HTS.out, HN.out]; exact HHN.out ▸ HOL, BL⟩
          case measure => (simp [intOf]; try omega)
      · have HN := Lib.hid (sqz_other (g := (z0, z1)) h32 (l.take j))
        have HD := Lib.hid (due_other (g := (z0, z1)) h32 (l.take j))
        have e32 : (z0 == 32) = false := by simpa using h32
        have hX : Blk (wr.alloc (.cells #[.int .i32 z0, .int .u8 z1] 56)) wr.heap.size 56 [.int .i32 z0, .int .u8 z1] := heap_alloc_new wr _
        have hown : (Value.slice sa (sqz (l.take j)).length sc).ownBlock ≠ some wr.heap.size := fun e => by have := HO.out.blt e; omega
        by_cases hdu : due (l.take j) = true
        · rw [if_pos hdu] at HN
          obtain ⟨a1, n1, w1, hr1, ho1, hb1, he1⟩ := gpush2 HOL.out BL.out.size (by omega) 32 0
          have hX1 := he1.blk hX hown
          have x0 : w1.cell? ⟨wr.heap.size, 0, none⟩ = some (.int .i32 z0) := hX1.cell 0
          have x1 : w1.cell? ⟨wr.heap.size, 1, none⟩ = some (.int .u8 z1) := hX1.cell 1
          have B1 := BL.out.trans hb1
          obtain ⟨a2, n2, w2, hr2, ho2, hb2, -⟩ := gpush2 ho1 B1.size (by simp; omega) z0 z1
          have B2 := Lib.hid (B1.trans hb2)
          rw [List.length_append] at hr2 ho2
          simp only [List.length_cons, List.length_nil, Nat.zero_add] at hr2 ho2
          have H2 := Lib.hid ho2
          rw [hdu]
          obtain ⟨O, hO⟩ : ∃ O, sqz (l.take j) = O := ⟨_, rfl⟩
          rw [hO] at HN H2 hr1 hr2 hsl ⊢
          obtain ⟨n, hn⟩ : ∃ n, O.length = n := ⟨_, rfl⟩
          rw [hn] at hr1 hr2 H2 ⊢
          rw [World.size_alloc] at hr1
          clear hO hsl hn HO bl h32 hdu hX hX1 hown ho1 hb1 he1 B1 ho2 hb2 HOL
          go_wp2_with fail
          go_roundw
          case rel => exact ⟨j + 1, by omega, by go_num, by rw [HTS.out, HD.out], by rw [HTS.out, HN.out]; exact H2, B2⟩
          case measure => (simp [intOf]; try omega)
        · have hdf : due (l.take j) = false := by simpa using hdu
          rw [hdf] at HN
          simp only [Bool.false_eq_true, if_false, List.append_nil] at HN
          obtain ⟨a2, n2, w2, hr2, ho2, hb2, -⟩ := gpush2 HOL.out BL.out.size (by omega) z0 z1
          have B2 := Lib.hid (BL.out.trans hb2)
          have H2 := Lib.hid ho2
          rw [hdf]
          obtain ⟨O, hO⟩ : ∃ O, sqz (l.take j) = O := ⟨_, rfl⟩
          rw [hO] at HN H2 hr2 hsl ⊢
          obtain ⟨n, hn⟩ : ∃ n, O.length = n := ⟨_, rfl⟩
          rw [hn] at hr2 H2 ⊢
          rw [World.size_alloc] at hr2
          clear hO hsl hn HO bl h32 hdu hdf hX hown ho2 hb2 HOL
          go_wp2_with fail
          go_roundw
          case rel => exact ⟨j + 1, by omega, by go_num, by rw [HTS.out, HD.out], by rw [HTS.out, HN.out]; exact H2, B2⟩
          case measure => (simp [intOf]; try omega)
    · obtain rfl : j = l.length := by omega
      have hlt' : ¬ (l.length : Int) < (l.length : Int) := by omega
      rw [List.take_length] at HO ⊢
      go_wp2_with fail
      go_ret
      exact ⟨_, rfl, HO.out, BW.out⟩
end Go.Proofs.YtpccjgoeoeehoaaDoor
namespace Go.Proofs.YtpccjgoeoeehoaaDoor
open Go.RowKit
def pst (m k : Int) : Bool := if k = 1 then m == 0 else if k = 2 then m == 1 else true
set_option maxRecDepth 100000 in
theorem pstands_any (m k : Int) (w : World) : Calls Tryd.prog 86 #[.int .i64 m, .int .i64 k] w fun e w' => e = .returned (.bool (pst m k)) ∧ w = w' := by
  unfold pst
  by_cases h1 : k = 1
  · subst h1
    rw [if_pos rfl]
    go_enter Tryd.func86, Tryd.ntmps86
    go_wp2_with fail
    go_ret
    exact ⟨rfl, rfl⟩
  · rw [if_neg h1]
    have n1 : (k == 1) = false := by simpa using h1
    by_cases h2 : k = 2
    · subst h2
      rw [if_pos rfl]
      go_enter Tryd.func86, Tryd.ntmps86
      go_wp2_with fail
      go_ret
      exact ⟨rfl, rfl⟩
    · rw [if_neg h2]
      have n2 : (k == 2) = false := by simpa using h2
      clear h1 h2
      go_enter Tryd.func86, Tryd.ntmps86
      go_wp2_with fail
      go_ret
      exact ⟨rfl, rfl⟩
theorem ret_int0 {a b : Bool} (h : a = b) : Ending.returned (.bool a) = .returned (.bool b) := by rw [h]
set_option maxRecDepth 100000 in
set_option maxHeartbeats 4000000 in
theorem placks_any (x : NV) (w : World) :
    Calls Tryd.prog 87 #[.agg (ncell x).toArray] w fun e w' => e = .returned (.bool (!fullV x.kind x.text.2.1 x.kids.2.1 x.rows.2.1 x.trows.2.1)) ∧ Below w.heap.size w w' := by
  have B1 := Lib.hid (below_lit w (.cells (ncell x).toArray 40))
  obtain ⟨k, xl, xn, ⟨t1, t2, t3⟩, ⟨k1, k2, k3⟩, ⟨r1, r2, r3⟩, xc, ⟨q1, q2, q3⟩, xb, xa⟩ := x
  simp only [ncell, pv] at B1 ⊢
  unfold fullV
  by_cases h1 : k = 1
  · subst h1
    have HF : Hid ((((t2 : Nat) : Int) == 0) = !decide (0 < t2)) := Lib.hid (by cases t2 <;> simp <;> omega)
    go_enter Tryd.func87, Tryd.ntmps87
    go_wp2_with fail
    go_ret
    exact ⟨ret_int0 (by first | (simp; done) | (have := HF.out; simpa using this)), B1.out⟩
  · have n1 : (k == 1) = false := by simpa using h1
    by_cases h2 : k = 2
    · subst h2
      have HF : Hid ((((t2 : Nat) : Int) == 0) = !decide (0 < t2)) := Lib.hid (by cases t2 <;> simp <;> omega)
      clear h1
      go_enter Tryd.func87, Tryd.ntmps87
      go_wp2_with fail
      go_ret
      exact ⟨ret_int0 (by first | (simp; done) | (have := HF.out; simpa using this)), B1.out⟩
    · have n2 : (k == 2) = false := by simpa using h2
      by_cases h3 : k = 3
      · subst h3
        have HF : Hid ((((t2 : Nat) : Int) == 0) = !decide (0 < t2)) := Lib.hid (by cases t2 <;> simp <;> omega)
        clear h1 h2
        go_enter Tryd.func87, Tryd.ntmps87
        go_wp2_with fail
        go_ret
        exact ⟨ret_int0 (by first | (simp; done) | (have := HF.out; simpa using this)), B1.out⟩
      · have n3 : (k == 3) = false := by simpa using h3
        by_cases h4 : k = 4
        · subst h4
          clear h1 h2 h3
          go_enter Tryd.func87, Tryd.ntmps87
          go_wp2_with fail
          go_ret
          exact ⟨ret_int0 (by simp), B1.out⟩
        · have n4 : (k == 4) = false := by simpa using h4
          by_cases h5 : k = 5
          · subst h5
            have HF : Hid ((((k2 : Nat) : Int) == 0) = !decide (0 < k2)) := Lib.hid (by cases k2 <;> simp <;> omega)
            clear h1 h2 h3 h4
            go_enter Tryd.func87, Tryd.ntmps87
            go_wp2_with fail
            go_ret
            exact ⟨ret_int0 (by first | (simp; done) | (have := HF.out; simpa using this)), B1.out⟩
          · have n5 : (k == 5) = false := by simpa using h5
            by_cases h6 : k = 6
            · subst h6
              have HF : Hid ((((r2 : Nat) : Int) == 0) = !decide (0 < r2)) := Lib.hid (by cases r2 <;> simp <;> omega)
              clear h1 h2 h3 h4 h5
              go_enter Tryd.func87, Tryd.ntmps87
              go_wp2_with fail
              go_ret
              exact ⟨ret_int0 (by first | (simp; done) | (have := HF.out; simpa using this)), B1.out⟩
            · have n6 : (k == 6) = false := by simpa using h6
              by_cases h7 : k = 7
              · subst h7
                have HF : Hid ((((q2 : Nat) : Int) == 0) = !decide (0 < q2)) := Lib.hid (by cases q2 <;> simp <;> omega)
                clear h1 h2 h3 h4 h5 h6
                go_enter Tryd.func87, Tryd.ntmps87
                go_wp2_with fail
                go_ret
                exact ⟨ret_int0 (by first | (simp; done) | (have := HF.out; simpa using this)), B1.out⟩
              · have n7 : (k == 7) = false := by simpa using h7
                have HR : Hid ((!(if 1 ≤ k ∧ k ≤ 3 then decide (0 < t2) else if k = 5 then decide (0 < k2) else if k = 6 then decide (0 < r2) else k == 4 || (k == 7 && decide (0 < q2)))) = true) := Lib.hid (by rw [if_neg (by omega), if_neg h5, if_neg h6, n4, n7]; rfl)
                rw [HR.out]
                clear h1 h2 h3 h4 h5 h6 h7
                go_enter Tryd.func87, Tryd.ntmps87
                go_wp2_with fail
                go_ret
                exact ⟨rfl, B1.out⟩
/-- What a node of its kind may have, as it is. -/
abbrev nilP : PV := (none, 0, 0)
def ownV (x : NV) : NV :=
  ⟨x.kind, x.line, if x.kind = 4 ∨ x.kind = 5 then x.n else 0, if 1 ≤ x.kind ∧ x.kind ≤ 4 then x.text else nilP, if mayK x.kind then x.kids else nilP, if x.kind = 6 then x.rows else nilP, if x.kind = 7 then x.cols else [], if x.kind = 7 then x.trows else nilP, if x.kind = 7 then x.box else false, if x.kind = 7 then x.all else false⟩
def ownP (h : Hd) : Hd :=
  ⟨h.kind, h.line, if h.kind = 4 ∨ h.kind = 5 then h.n else 0, if 1 ≤ h.kind ∧ h.kind ≤ 4 then h.text else [], if h.kind = 6 then h.rows else [], if h.kind = 7 then h.grid else noGrid⟩
theorem HdIs.own {S : Nat → Prop} {w : World} {x : NV} {h : Hd} (k : HdIs S w x h) : HdIs S w (ownV x) (ownP h) := by
  have e := k.kind
  unfold ownV ownP
  rw [← e]
  have c1 : (if x.kind = 7 then x.cols else []) = (if x.kind = 7 then h.grid else noGrid).cols := by split; exact k.cols; rfl
  have c2 : (if x.kind = 7 then x.box else false) = (if x.kind = 7 then h.grid else noGrid).box := by split; exact k.box; rfl
  have c3 : (if x.kind = 7 then x.all else false) = (if x.kind = 7 then h.grid else noGrid).all := by split; exact k.all; rfl
  refine ⟨rfl, k.line, ?_, ?_, ?_, c1, ?_, c2, c3⟩
  · simp only; split; exact k.n; rfl
  · simp only; split; exact k.text; exact FsS.nil _ _ _ _
  · simp only; split; exact k.rows; exact GrS.nil _ _
  · simp only; split; exact k.trows; exact TrS.nil _ _
set_option maxRecDepth 100000 in
set_option maxHeartbeats 8000000 in
theorem pown_any (x : NV) (w : World) :
    Calls Tryd.prog 90 #[.agg (ncell x).toArray] w fun e w' => e = .returned (.agg (ncell (ownV x)).toArray) ∧ Below w.heap.size w w' := by
  obtain ⟨k, xl, xn, ⟨t1, t2, t3⟩, ⟨k1, k2, k3⟩, ⟨r1, r2, r3⟩, xc, ⟨q1, q2, q3⟩, xb, xa⟩ := x
  by_cases h1 : k = 1
  · subst h1
    have HE : Hid (ownV ⟨1, xl, xn, (t1, t2, t3), (k1, k2, k3), (r1, r2, r3), xc, (q1, q2, q3), xb, xa⟩ = ⟨1, xl, 0, (t1, t2, t3), (k1, k2, k3), nilP, [], nilP, false, false⟩) := Lib.hid (rfl)
    rw [HE.out]
    simp only [ncell, pv, nilP]
    clear HE
    go_enter Tryd.func90, Tryd.ntmps90
    go_wp2_with fail
    refine bodyPost_ret (v := .agg #[.int .i64 1, .int .i64 xl, .int .i64 0, .slice t1 t2 t3, .slice k1 k2 k3, .slice none 0 0, .string ⟨#[]⟩, .slice none 0 0, .bool false, .bool false]) (by simp [results, Tryd.results90, go_sem]) rfl ?_
    exact ⟨rfl, ((((Below.refl _ w).alloc (Nat.le_refl _) _).alloc (by simp) _).alloc (by simp; omega) _)⟩
  · have n1 : (k == 1) = false := by simpa using h1
    by_cases h2 : k = 2
    · subst h2
      have HE : Hid (ownV ⟨2, xl, xn, (t1, t2, t3), (k1, k2, k3), (r1, r2, r3), xc, (q1, q2, q3), xb, xa⟩ = ⟨2, xl, 0, (t1, t2, t3), (k1, k2, k3), nilP, [], nilP, false, false⟩) := Lib.hid (rfl)
      rw [HE.out]
      simp only [ncell, pv, nilP]
      clear HE h1
      go_enter Tryd.func90, Tryd.ntmps90
      go_wp2_with fail
      refine bodyPost_ret (v := .agg #[.int .i64 2, .int .i64 xl, .int .i64 0, .slice t1 t2 t3, .slice k1 k2 k3, .slice none 0 0, .string ⟨#[]⟩, .slice none 0 0, .bool false, .bool false]) (by simp [results, Tryd.results90, go_sem]) rfl ?_
      exact ⟨rfl, ((((Below.refl _ w).alloc (Nat.le_refl _) _).alloc (by simp) _).alloc (by simp; omega) _)⟩
    · have n2 : (k == 2) = false := by simpa using h2
      by_cases h3 : k = 3
      · subst h3
        have HE : Hid (ownV ⟨3, xl, xn, (t1, t2, t3), (k1, k2, k3), (r1, r2, r3), xc, (q1, q2, q3), xb, xa⟩ = ⟨3, xl, 0, (t1, t2, t3), nilP, nilP, [], nilP, false, false⟩) := Lib.hid (rfl)
        rw [HE.out]
        simp only [ncell, pv, nilP]
        clear HE h1 h2
        go_enter Tryd.func90, Tryd.ntmps90
        go_wp2_with fail
        refine bodyPost_ret (v := .agg #[.int .i64 3, .int .i64 xl, .int .i64 0, .slice t1 t2 t3, .slice none 0 0, .slice none 0 0, .string ⟨#[]⟩, .slice none 0 0, .bool false, .bool false]) (by simp [results, Tryd.results90, go_sem]) rfl ?_
        exact ⟨rfl, ((((Below.refl _ w).alloc (Nat.le_refl _) _).alloc (by simp) _).alloc (by simp; omega) _)⟩
      · have n3 : (k == 3) = false := by simpa using h3
        by_cases h4 : k = 4
        · subst h4
          have HE : Hid (ownV ⟨4, xl, xn, (t1, t2, t3), (k1, k2, k3), (r1, r2, r3), xc, (q1, q2, q3), xb, xa⟩ = ⟨4, xl, xn, (t1, t2, t3), (k1, k2, k3), nilP, [], nilP, false, false⟩) := Lib.hid (rfl)
          rw [HE.out]
          simp only [ncell, pv, nilP]
          clear HE h1 h2 h3
          go_enter Tryd.func90, Tryd.ntmps90
          go_wp2_with fail
          go_region
          go_wp2_with fail
          refine bodyPost_ret (v := .agg #[.int .i64 4, .int .i64 xl, .int .i64 xn, .slice t1 t2 t3, .slice k1 k2 k3, .slice none 0 0, .string ⟨#[]⟩, .slice none 0 0, .bool false, .bool false]) (by simp [results, Tryd.results90, go_sem]) rfl ?_
          exact ⟨rfl, ((((Below.refl _ w).alloc (Nat.le_refl _) _).alloc (by simp) _).alloc (by simp; omega) _).drew⟩
        · have n4 : (k == 4) = false := by simpa using h4
          by_cases h5 : k = 5
          · subst h5
            have HE : Hid (ownV ⟨5, xl, xn, (t1, t2, t3), (k1, k2, k3), (r1, r2, r3), xc, (q1, q2, q3), xb, xa⟩ = ⟨5, xl, xn, nilP, (k1, k2, k3), nilP, [], nilP, false, false⟩) := Lib.hid (rfl)
            rw [HE.out]
            simp only [ncell, pv, nilP]
            clear HE h1 h2 h3 h4
            go_enter Tryd.func90, Tryd.ntmps90
            go_wp2_with fail
            go_region
            go_wp2_with fail
            refine bodyPost_ret (v := .agg #[.int .i64 5, .int .i64 xl, .int .i64 xn, .slice none 0 0, .slice k1 k2 k3, .slice none 0 0, .string ⟨#[]⟩, .slice none 0 0, .bool false, .bool false]) (by simp [results, Tryd.results90, go_sem]) rfl ?_
            exact ⟨rfl, ((((Below.refl _ w).alloc (Nat.le_refl _) _).alloc (by simp) _).alloc (by simp; omega) _).drew⟩
          · have n5 : (k == 5) = false := by simpa using h5
            by_cases h6 : k = 6
            · subst h6
              have HE : Hid (ownV ⟨6, xl, xn, (t1, t2, t3), (k1, k2, k3), (r1, r2, r3), xc, (q1, q2, q3), xb, xa⟩ = ⟨6, xl, 0, nilP, nilP, (r1, r2, r3), [], nilP, false, false⟩) := Lib.hid (rfl)
              rw [HE.out]
              simp only [ncell, pv, nilP]
              clear HE h1 h2 h3 h4 h5
              go_enter Tryd.func90, Tryd.ntmps90
              go_wp2_with fail
              refine bodyPost_ret (v := .agg #[.int .i64 6, .int .i64 xl, .int .i64 0, .slice none 0 0, .slice none 0 0, .slice r1 r2 r3, .string ⟨#[]⟩, .slice none 0 0, .bool false, .bool false]) (by simp [results, Tryd.results90, go_sem]) rfl ?_
              exact ⟨rfl, ((((Below.refl _ w).alloc (Nat.le_refl _) _).alloc (by simp) _).alloc (by simp; omega) _)⟩
            · have n6 : (k == 6) = false := by simpa using h6
              by_cases h7 : k = 7
              · subst h7
                have HE : Hid (ownV ⟨7, xl, xn, (t1, t2, t3), (k1, k2, k3), (r1, r2, r3), xc, (q1, q2, q3), xb, xa⟩ = ⟨7, xl, 0, nilP, nilP, nilP, xc, (q1, q2, q3), xb, xa⟩) := Lib.hid (rfl)
                rw [HE.out]
                simp only [ncell, pv, nilP]
                clear HE h1 h2 h3 h4 h5 h6
                go_enter Tryd.func90, Tryd.ntmps90
                go_wp2_with fail
                refine bodyPost_ret (v := .agg #[.int .i64 7, .int .i64 xl, .int .i64 0, .slice none 0 0, .slice none 0 0, .slice none 0 0, .string ⟨xc.toArray⟩, .slice q1 q2 q3, .bool xb, .bool xa]) (by simp [results, Tryd.results90, go_sem]) rfl ?_
                exact ⟨rfl, ((((Below.refl _ w).alloc (Nat.le_refl _) _).alloc (by simp) _).alloc (by simp; omega) _)⟩
              · have n7 : (k == 7) = false := by simpa using h7
                have hm : mayK k = false := by unfold mayK; rw [n1, n2, n4, n5]; rfl
                have HE : Hid (ownV ⟨k, xl, xn, (t1, t2, t3), (k1, k2, k3), (r1, r2, r3), xc, (q1, q2, q3), xb, xa⟩ = ⟨k, xl, 0, nilP, nilP, nilP, [], nilP, false, false⟩) := Lib.hid (by unfold ownV; simp only [hm]; rw [if_neg (by omega), if_neg (by omega), if_neg h6, if_neg h7, if_neg h7, if_neg h7, if_neg h7]; rfl)
                rw [HE.out]
                simp only [ncell, pv, nilP]
                clear HE h1 h2 h3 h4 h5 h6 h7 hm
                go_enter Tryd.func90, Tryd.ntmps90
                go_wp2_with fail
                refine bodyPost_ret (v := .agg #[.int .i64 k, .int .i64 xl, .int .i64 0, .slice none 0 0, .slice none 0 0, .slice none 0 0, .string ⟨#[]⟩, .slice none 0 0, .bool false, .bool false]) (by simp [results, Tryd.results90, go_sem]) rfl ?_
                exact ⟨rfl, ((((Below.refl _ w).alloc (Nat.le_refl _) _).alloc (by simp) _).alloc (by simp; omega) _)⟩
end Go.Proofs.YtpccjgoeoeehoaaDoor
namespace Go.Proofs.YtpccjgoeoeehoaaDoor
open Go.RowKit
theorem lens_mcells : ∀ (n : Nat) (l : List (List Gly)), lens (mcells n l) ≤ lens l
  | 0, l => by simp [mcells, lens]
  | n + 1, [] => by have := lens_mcells n []; simp [mcells, lens] at this ⊢; exact this
  | n + 1, c :: l => by
    have := lens_mcells n l
    have := sqz_len c
    simp only [mcells, lens, List.map_cons, List.sum_cons] at *
    omega
theorem trl_mrow (n : Nat) (r : Trow) : trl (mrowT n r) ≤ n + trl r := by
  obtain ⟨b, l⟩ := r
  have := lens_mcells n l
  have := mcells_len n l
  unfold trl mrowT
  cases b
  · simp only [Bool.false_eq_true, if_false]
    omega
  · simp [lens]
    omega
theorem trls_mrows (n : Nat) : ∀ l : List Trow, trls (l.map (mrowT n)) ≤ n * l.length + trls l
  | [] => by simp [trls]
  | r :: l => by
    have h1 := trls_mrows n l
    have h2 := trl_mrow n r
    simp only [trls, List.map_cons, List.sum_cons, List.length_cons, Nat.mul_add, Nat.mul_one] at *
    omega
theorem mend_size2 (t : Tab) : trls (mend t).rows ≤ 21 * trls t.rows ∧ (mend t).cols.length ≤ 20 := by
  have h1 := trls_mrows (mcols t.cols).length t.rows
  have h2 := trls_len t.rows
  have h3 := (mcols_ok t.cols).2.1
  have h4 : (mcols t.cols).length * t.rows.length ≤ 20 * trls t.rows := Nat.mul_le_mul h3 h2
  refine ⟨?_, h3⟩
  show trls (t.rows.map (mrowT (mcols t.cols).length)) ≤ _
  omega
theorem hdl_own (h : Hd) (k : Int) : hdl (ownH h k) ≤ 24 * hdl h := by
  have da : hdl h = 3 + h.text.length + h.grid.cols.length + (h.rows.length + lens h.rows) + trls h.grid.rows := rfl
  have db : hdl (ownH h k) = 3 + (ownH h k).text.length + (ownH h k).grid.cols.length + ((ownH h k).rows.length + lens (ownH h k).rows) + trls (ownH h k).grid.rows := rfl
  have h1 : (ownH h k).text.length ≤ h.text.length := by
    unfold ownH
    simp only
    split
    · exact sqz_len _
    · simp
  have h2 : (ownH h k).rows.length + lens (ownH h k).rows ≤ h.rows.length + lens h.rows := by
    unfold ownH
    simp only
    split
    · exact Nat.le_refl _
    · simp [lens]
  have h3 : (ownH h k).grid.cols.length ≤ 20 ∧ trls (ownH h k).grid.rows ≤ 21 * trls h.grid.rows := by
    unfold ownH
    simp only
    split
    · exact ⟨(mend_size2 _).2, (mend_size2 _).1⟩
    · simp [noGrid, trls]
  omega
mutual
theorem tdN_size : ∀ (x : Nd) (w : Int) (d n : Nat), nlL (tdN x w d n).1 ≤ 24 * nlN x
  | .mk h ks, w, d, n => by
    rw [tdN_mk]
    have ho := hdl_own h (kindAt h.kind w)
    split
    · have i1 := tdL_size ks (kindAt h.kind w) (d + 1) n
      simp only
      split
      · simp only [nlL, nlN]; omega
      · simp only [nlL, nlN]; omega
    · simp only
      rw [nlL_app]
      have h1 : nlL (if fullB (ownH h (kindAt h.kind w)) false = true then [Nd.mk (ownH h (kindAt h.kind w)) []] else []) ≤ hdl (ownH h (kindAt h.kind w)) := by
        split <;> simp [nlL, nlN]
      by_cases hm : mayK h.kind = true
      · rw [if_pos hm]
        have i1 := tdL_size ks w d n
        simp only [nlN]
        omega
      · rw [if_neg hm]
        simp only [nlL, nlN]; omega
theorem tdL_size : ∀ (l : List Nd) (w : Int) (d n : Nat), nlL (tdL l w d n).1 ≤ 24 * nlL l
  | [], w, d, n => by rw [tdL_nil]; simp [nlL]
  | x :: l, w, d, n => by
    rw [tdL_cons]
    split
    · simp [nlL]
    · simp only
      rw [nlL_app]
      have h1 := tdN_size x w d (n - 1)
      have h3 := tdL_size l w d (tdN x w d (n - 1)).2
      simp only [nlL]
      omega
end
theorem tidy_size (l : List Nd) : nlL (tidyL l) ≤ 24 * nlL l := tdL_size l 0 0 20000
end Go.Proofs.YtpccjgoeoeehoaaDoor
