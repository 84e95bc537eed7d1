/- Cut; known() is true. known() is true. Trim, in the program and in the document's answer. The document's own answer for documents: a row squeezed; is it? The document's own answer for documents: side, in, stands, full. The document's own answer for documents: full. Texts, byte by byte; the document's own answer for documents: Right. The program's own for documents: glyphs squeezed. slices.Concat of three rows; styles.Join. -/
import Derived.Test.YtpccjgoeoeehoaaDoorQ2
import Derived.Deep.RegionWith
import Derived.Deep.LoopGhost
import Derived.Test.YtpccjgoeoeehoaaDoorB0
import Derived.Lib.AppendZerosOnto
set_option linter.unusedVariables false
set_option linter.unusedSimpArgs false
namespace Go.Proofs.YtpccjgoeoeehoaaDoor
open Go.RowKit
attribute [local go_sem ↓ high] slice_frontG slice_backG
end Go.Proofs.YtpccjgoeoeehoaaDoor
namespace Go.Proofs.YtpccjgoeoeehoaaDoor
open Go.RowKit
attribute [local go_sem ↓ high] slice_frontG slice_backG
def kl : List Gly := [(97, 0), (19968, 0), (98, 0)]
end Go.Proofs.YtpccjgoeoeehoaaDoor
namespace Go.Proofs.YtpccjgoeoeehoaaDoor
open Go.RowKit
attribute [local go_sem ↓ high] slice_frontG
/-- How many glyphs a row has without the blanks at its end. -/
def trimN : List Gly → Nat
  | [] => 0
  | g :: l => if trimN l = 0 ∧ g.1 = 32 then 0 else trimN l + 1
theorem trimN_le : ∀ l : List Gly, trimN l ≤ l.length
  | [] => Nat.le_refl _
  | g :: l => by
    unfold trimN
    split
    · omega
    · have := trimN_le l; simp only [List.length_cons]; omega
theorem trimN_tail : ∀ (l : List Gly) (j : Nat) (g : Gly), trimN l ≤ j → l[j]? = some g → g.1 = 32
  | [], j, g, _, h => by simp at h
  | x :: l, 0, g, hj, h => by
    simp at h
    subst h
    unfold trimN at hj
    split at hj
    · rename_i hx; exact hx.2
    · omega
  | x :: l, j + 1, g, hj, h => by
    refine trimN_tail l j g ?_ (by simpa using h)
    unfold trimN at hj
    split at hj
    · rename_i hx; omega
    · omega
theorem trimN_last : ∀ (l : List Gly) (g : Gly), 0 < trimN l → l[trimN l - 1]? = some g → g.1 ≠ 32
  | [], g, h, _ => by simp [trimN] at h
  | x :: l, g, h, hg => by
    by_cases hx : trimN l = 0 ∧ x.1 = 32
    · have : trimN (x :: l) = 0 := by unfold trimN; rw [if_pos hx]
      omega
    · have e : trimN (x :: l) = trimN l + 1 := by conv => lhs; unfold trimN; rw [if_neg hx]
      rw [e] at hg
      by_cases h0 : trimN l = 0
      · rw [h0] at hg
        simp at hg
        subst hg
        exact fun h32 => hx ⟨h0, h32⟩
      · have e2 : trimN l + 1 - 1 = trimN l - 1 + 1 := by omega
        rw [e2] at hg
        exact trimN_last l g (by omega) (by simpa using hg)
/-- It is the one number that is so. -/
theorem trimN_unique {l : List Gly} {n : Nat} (hn : n ≤ l.length) (h1 : ∀ j g, n ≤ j → l[j]? = some g → g.1 = 32) (h2 : ∀ g, 0 < n → l[n - 1]? = some g → g.1 ≠ 32) : n = trimN l := by
  have hl := trimN_le l
  by_cases h : n < trimN l
  · exfalso
    have hlt : trimN l - 1 < l.length := by omega
    have hg : l[trimN l - 1]? = some l[trimN l - 1] := List.getElem?_eq_getElem hlt
    exact trimN_last l _ (by omega) hg (h1 _ _ (by omega) hg)
  · by_cases h' : trimN l < n
    · exfalso
      have hlt : n - 1 < l.length := by omega
      have hg : l[n - 1]? = some l[n - 1] := List.getElem?_eq_getElem hlt
      exact h2 _ (by omega) hg (trimN_tail l _ _ (by omega) hg)
    · omega
def trimL (l : List Gly) : List Gly := l.take (trimN l)
theorem trimL_len (l : List Gly) : (trimL l).length = trimN l := by
  unfold trimL
  rw [List.length_take]
  have := trimN_le l
  omega
set_option maxRecDepth 100000 in
set_option maxHeartbeats 1000000 in
theorem trim_any (l : List Gly) (v : Value) (w : World) (hv : Gs w v l) (hl : l.length ≤ 100000) :
    Calls Tryd.prog 52 #[v] w fun e w' => ∃ u, e = .returned u ∧ GOwn w.heap.size w' u (trimL l) ∧ Below w.heap.size w w' := by
  have HV := Lib.hid hv
  obtain ⟨a, cap, rfl⟩ := hv.len
  clear hv
  go_enter Tryd.func52, Tryd.ntmps52
  go_wp2_with fail
  go_loopw [3] (fun s wr => ∃ n : Nat, n ≤ l.length ∧ s = .int .i64 n ∧ Hid (∀ j g, n ≤ j → l[j]? = some g → g.1 = 32) ∧ wr = w) (fun s _ => (intOf s).toNat)
  case atStart => exact ⟨l.length, Nat.le_refl _, rfl, Lib.hid (fun j g hj hg => by rw [List.getElem?_eq_none hj] at hg; cases hg), rfl⟩
  case round =>
    obtain ⟨n, hn, rfl, HB, rfl⟩ := hrel
    by_cases h0 : 0 < n
    · obtain ⟨m, rfl⟩ : ∃ m, n = m + 1 := ⟨n - 1, by omega⟩
      obtain ⟨z, hz⟩ : ∃ z, l[m]? = some z := ⟨l[m]'(by omega), List.getElem?_eq_getElem _⟩
      obtain ⟨g, off, rfl, c0, c1, -⟩ := Gs.at HV.out hz
      have hi0 : (m : Int) < (l.length : Int) := by omega
      have hi1 : (0 : Int) ≤ (m : Int) := by omega
      have HZ := Lib.hid hz
      clear hz c1
      by_cases h32 : z.1 = 32
      · have HN : Hid (∀ j g, m ≤ j → l[j]? = some g → g.1 = 32) := Lib.hid (fun j g hj hg => by
          by_cases e : j = m
          · subst e
            rw [HZ.out] at hg
            rw [← Option.some.inj hg]; exact h32
          · exact HB.out j g (by omega) hg)
        go_wp2_with fail
        go_roundw
        case rel => exact ⟨m, by omega, by go_num, HN, by first | trivial | rfl⟩
        case measure => (simp [intOf]; try omega)
      · have HN : Hid (m + 1 = trimN l) := Lib.hid (trimN_unique hn HB.out (fun g _ hg => by
          rw [show m + 1 - 1 = m from rfl, HZ.out] at hg
          rw [← Option.some.inj hg]; exact h32))
        obtain ⟨u1, f1, s1, -⟩ := frontG_run HV.out (m + 1) hn
        have HC := Lib.hid (cloneg_any (l.take (m + 1)) u1 wr s1 (by rw [List.length_take]; omega))
        have f1' := f1
        simp only [Int.natCast_add, Int.natCast_one, Int.natCast_zero, Int.cast_ofNat_Int] at f1'
        clear s1 f1
        go_wp2_with fail
        refine HC.out.mono ?_
        rintro e w1 ⟨u, rfl, o1, b1⟩
        have O1 : Hid (GOwn wr.heap.size w1 u (trimL l)) := Lib.hid (by unfold trimL; rw [← HN.out]; exact o1)
        clear o1 HC
        go_wp2_with fail
        go_ret
        exact ⟨_, rfl, O1.out, b1⟩
    · obtain rfl : n = 0 := by omega
      have HN : Hid (0 = trimN l) := Lib.hid (trimN_unique hn HB.out (fun g h _ => absurd h (by omega)))
      obtain ⟨u1, f1, s1, -⟩ := frontG_run HV.out 0 hn
      have HC := Lib.hid (cloneg_any (l.take 0) u1 wr s1 (by rw [List.length_take]; omega))
      have f1' := f1
      simp only [Int.natCast_add, Int.natCast_one, Int.natCast_zero, Int.cast_ofNat_Int] at f1'
      clear s1 f1
      go_wp2_with fail
      refine HC.out.mono ?_
      rintro e w1 ⟨u, rfl, o1, b1⟩
      have O1 : Hid (GOwn wr.heap.size w1 u (trimL l)) := Lib.hid (by unfold trimL; rw [← HN.out]; exact o1)
      clear o1 HC
      go_wp2_with fail
      go_ret
      exact ⟨_, rfl, O1.out, b1⟩
set_option maxRecDepth 100000 in
set_option maxHeartbeats 1000000 in
theorem rtrim_any (l : List Gly) (v : Value) (w : World) (hv : Gs w v l) (hl : l.length ≤ 100000) :
    Calls Tryd.prog 61 #[v] w fun e w' => ∃ u, e = .returned u ∧ Gs w' u (trimL l) ∧ w = w' := by
  have HV := Lib.hid hv
  obtain ⟨a, cap, rfl⟩ := hv.len
  clear hv
  go_enter Tryd.func61, Tryd.ntmps61
  go_wp2_with fail
  go_loopw [3] (fun s wr => ∃ n : Nat, n ≤ l.length ∧ s = .int .i64 n ∧ Hid (∀ j g, n ≤ j → l[j]? = some g → g.1 = 32) ∧ wr = w) (fun s _ => (intOf s).toNat)
  case atStart => exact ⟨l.length, Nat.le_refl _, rfl, Lib.hid (fun j g hj hg => by rw [List.getElem?_eq_none hj] at hg; cases hg), rfl⟩
  case round =>
    obtain ⟨n, hn, rfl, HB, rfl⟩ := hrel
    by_cases h0 : 0 < n
    · obtain ⟨m, rfl⟩ : ∃ m, n = m + 1 := ⟨n - 1, by omega⟩
      obtain ⟨z, hz⟩ : ∃ z, l[m]? = some z := ⟨l[m]'(by omega), List.getElem?_eq_getElem _⟩
      obtain ⟨g, off, rfl, c0, c1, -⟩ := Gs.at HV.out hz
      have hi0 : (m : Int) < (l.length : Int) := by omega
      have hi1 : (0 : Int) ≤ (m : Int) := by omega
      have HZ := Lib.hid hz
      clear hz c1
      by_cases h32 : z.1 = 32
      · have HN : Hid (∀ j g, m ≤ j → l[j]? = some g → g.1 = 32) := Lib.hid (fun j g hj hg => by
          by_cases e : j = m
          · subst e
            rw [HZ.out] at hg
            rw [← Option.some.inj hg]; exact h32
          · exact HB.out j g (by omega) hg)
        go_wp2_with fail
        go_roundw
        case rel => exact ⟨m, by omega, by go_num, HN, by first | trivial | rfl⟩
        case measure => (simp [intOf]; try omega)
      · have HN : Hid (m + 1 = trimN l) := Lib.hid (trimN_unique hn HB.out (fun g _ hg => by
          rw [show m + 1 - 1 = m from rfl, HZ.out] at hg
          rw [← Option.some.inj hg]; exact h32))
        obtain ⟨u1, f1, s1, -⟩ := frontG_run HV.out (m + 1) hn
        have f1' := f1
        simp only [Int.natCast_add, Int.natCast_one, Int.natCast_zero, Int.cast_ofNat_Int] at f1'
        have O1 : Hid (Gs wr u1 (trimL l)) := Lib.hid (by unfold trimL; rw [← HN.out]; exact s1)
        clear s1 f1
        go_wp2_with fail
        go_ret
        exact ⟨_, rfl, O1.out, rfl⟩
    · obtain rfl : n = 0 := by omega
      have HN : Hid (0 = trimN l) := Lib.hid (trimN_unique hn HB.out (fun g h _ => absurd h (by omega)))
      obtain ⟨u1, f1, s1, -⟩ := frontG_run HV.out 0 hn
      have f1' := f1
      simp only [Int.natCast_add, Int.natCast_one, Int.natCast_zero, Int.cast_ofNat_Int] at f1'
      have O1 : Hid (Gs wr u1 (trimL l)) := Lib.hid (by unfold trimL; rw [← HN.out]; exact s1)
      clear s1 f1
      go_wp2_with fail
      go_ret
      exact ⟨_, rfl, O1.out, rfl⟩
end Go.Proofs.YtpccjgoeoeehoaaDoor
namespace Go.Proofs.YtpccjgoeoeehoaaDoor
open Go.RowKit
theorem trm_trimL : ∀ l : List Gly, trimL l = trm l
  | [] => rfl
  | g :: l => by
    have ih := trm_trimL l
    have hn : trimN l = 0 ↔ trm l = [] := by
      rw [← ih]
      unfold trimL
      constructor
      · intro h; rw [h]; rfl
      · intro h
        have := trimN_le l
        have h2 : (l.take (trimN l)).length = 0 := by rw [h]; rfl
        rw [List.length_take] at h2
        omega
    unfold trimL
    rw [trm_cons]
    by_cases hc : trimN l = 0 ∧ g.1 = 32
    · have e : trimN (g :: l) = 0 := by unfold trimN; rw [if_pos hc]
      rw [e, if_pos ⟨hn.1 hc.1, hc.2⟩]
      rfl
    · have e : trimN (g :: l) = trimN l + 1 := by conv => lhs; unfold trimN; rw [if_neg hc]
      rw [e, if_neg (fun h => hc ⟨hn.2 h.1, h.2⟩)]
      show g :: l.take (trimN l) = g :: trm l
      rw [← ih]
      rfl
/-- Does what stands there end with no blank? -/
def lastNB (b : Bool) (l : List Gly) : Bool := match l.getLast? with
  | none => b
  | some g => g.1 != 32
theorem lastNB_cons (b : Bool) (g : Gly) (l : List Gly) : lastNB b (g :: l) = lastNB (g.1 != 32) l := by
  unfold lastNB
  cases l with
  | nil => rfl
  | cons x l =>
    rw [List.getLast?_cons_cons]
    cases h : (x :: l).getLast? with
    | none => simp at h
    | some y => rfl
theorem sqA_app : ∀ (b : Bool) (P Q : List Gly), sqA b (P ++ Q) = sqA b P ++ sqA (lastNB b (sqA b P)) Q
  | b, [], Q => rfl
  | b, g :: P, Q => by
    rw [List.cons_append]
    by_cases hg : g.1 = 32
    · rw [sqA_blank b hg, sqA_blank b hg]
      cases b
      · simpa using sqA_app false P Q
      · rw [if_pos rfl, if_pos rfl, sqA_app false P Q, lastNB_cons]
        rfl
    · rw [sqA_other b hg, sqA_other b hg, sqA_app true P Q, lastNB_cons]
      have e : (g.1 != 32) = true := by simpa using hg
      rw [e]
      rfl
theorem sq_next {l : List Gly} {j : Nat} {g : Gly} (h : l[j]? = some g) : sqA false (l.take (j + 1)) = sqA false (l.take j) ++ (if g.1 = 32 then (if lastNB false (sqA false (l.take j)) then [(32, 0)] else []) else [g]) := by
  rw [List.take_add_one, h, sqA_app]
  simp only [Option.toList_some]
  by_cases hg : g.1 = 32
  · rw [sqA_blank _ hg, if_pos hg]
    rfl
  · rw [sqA_other _ hg, if_neg hg]
    rfl
theorem gpush {base : Nat} {W : World} {x : Value} {l : List Gly} (h : GOwn base W x l) (hb : base ≤ W.heap.size) (hl : l.length ≤ 500000) (r s : Int) :
    ∃ a' c' w', (appG #[x, .slice (some ⟨W.heap.size, 0, none⟩) 1 1]).run Tryd.prog (W.alloc (.cells #[.int .i32 r, .int .u8 s] 56)) = .ok (.value (.slice a' (l.length + 1) c')) w' ∧ GOwn base w' (.slice a' (l.length + 1) c') (l ++ [(r, s)]) ∧ Below base W w' := by
  have b1 := below_lit W (.cells #[.int .i32 r, .int .u8 s] 56)
  have hu : Gs (W.alloc (.cells #[.int .i32 r, .int .u8 s] 56)) (.slice (some ⟨W.heap.size, 0, none⟩) 1 1) [(r, s)] := fs_lit gcell_len W 56 [(r, s)]
  obtain ⟨x', w', hr, ho, hg, -⟩ := appG_own (h.keep b1) hu (Nat.le_trans hb b1.size) (by simp; omega)
  obtain ⟨a', c', e⟩ := (FOwn.sl gcell_len ho).len
  have hbel := (h.keep b1).below (b1.mono hb) (Nat.le_trans hb b1.size) hg
  have e2 : (l ++ [(r, s)]).length = l.length + 1 := by simp
  rw [e2] at e
  subst e
  exact ⟨a', c', w', hr, ho, hbel⟩
attribute [local go_sem ↓ high] builtin_appG
set_option maxRecDepth 100000 in
set_option maxHeartbeats 2000000 in
theorem rsqueeze_any (l : List Gly) (v : Value) (w : World) (hv : Gs w v l) (hl : l.length ≤ 90000) :
    Calls Tryd.prog 82 #[v] w fun e w' => ∃ u, e = .returned u ∧ GOwn w.heap.size w' u (sqz l) ∧ Below w.heap.size w w' := by
  have HT := Lib.hid (rtrim_any l v w hv (by omega))
  rw [trm_trimL] at HT
  have htl := trm_len l
  unfold sqz
  obtain ⟨t, ht⟩ : ∃ t, trm l = t := ⟨_, rfl⟩
  rw [ht] at HT htl ⊢
  clear ht hv
  go_enter Tryd.func82, Tryd.ntmps82
  go_wp2_with fail
  refine HT.out.mono ?_
  rintro e w1 ⟨u, rfl, hu, hw1⟩
  subst hw1
  have HU := Lib.hid hu
  obtain ⟨ua, uc, rfl⟩ := hu.len
  clear HT hu
  go_wp2_with fail
  go_loopw [3, 4] (fun s i wr => ∃ j : Nat, j ≤ t.length ∧ i = .int .i64 j ∧ Hid (GOwn w.heap.size wr s (sqA false (t.take j))) ∧ Hid (Below w.heap.size w wr)) (fun _ i _ => t.length - (intOf i).toNat)
  case atStart => exact ⟨0, by omega, rfl, Lib.hid (FOwn.nil _ _), Lib.hid (Below.refl _ _)⟩
  case round =>
    obtain ⟨j, hj, rfl, HO, BW⟩ := hrel
    have hsl := sqA_len false (t.take j)
    rw [List.length_take] at hsl
    obtain ⟨sa, sc, hs⟩ := (FOwn.sl gcell_len HO.out).len
    subst hs
    by_cases hlt : j < t.length
    · obtain ⟨z, hz⟩ : ∃ z, t[j]? = some z := ⟨t[j], List.getElem?_eq_getElem hlt⟩
      have HN := Lib.hid (sq_next hz)
      obtain ⟨O, hO⟩ : ∃ O, sqA false (t.take j) = O := ⟨_, rfl⟩
      rw [hO] at HO HN hsl ⊢
      obtain ⟨g, off, rfl, c0, c1, -⟩ := Gs.at (Fs.below HU.out BW.out) hz
      have hi0 : (j : Int) < (t.length : Int) := by omega
      have hi1 : (0 : Int) ≤ (j : Int) := by omega
      obtain ⟨z0, z1⟩ := z
      simp only at c0 c1 HN
      clear hz hO
      by_cases h32 : z0 = 32
      · subst h32
        rw [if_pos rfl] at HN
        rcases List.eq_nil_or_concat O with rfl | ⟨O', y, hOy⟩
        · have HN2 : Hid (sqA false (t.take (j + 1)) = []) := Lib.hid (by rw [HN.out]; rfl)
          clear HN
          go_wp2_with fail
          go_roundw
          case rel => exact ⟨j + 1, by omega, by go_num, by rw [HN2.out]; exact HO, BW⟩
          case measure => (simp [intOf]; try omega)
        · rw [List.concat_eq_append] at hOy
          have hOl : O.length = O'.length + 1 := by rw [hOy]; simp
          have hlast : O[O'.length]? = some y := by rw [hOy]; simp
          have hnb : lastNB false O = (y.1 != 32) := by rw [hOy]; simp [lastNB]
          rw [hnb] at HN
          obtain ⟨gs, os, hsa, d0, d1, -⟩ := Gs.at (FOwn.sl gcell_len HO.out) hlast
          subst hsa
          have w1 : IntKind.i64.wrap ((O.length : Int) - 1) = (O'.length : Int) := by rw [IntWalk.i64_in _ (by omega)]; omega
          have p0 : (0 : Int) < (O.length : Int) := by omega
          have p1 : (O'.length : Int) < (O.length : Int) := by omega
          have p2 : (0 : Int) ≤ (O'.length : Int) := by omega
          obtain ⟨n, hn⟩ : ∃ n, O.length = n := ⟨_, rfl⟩
          obtain ⟨n', hn'⟩ : ∃ n, O'.length = n := ⟨_, rfl⟩
          obtain ⟨a', c', W', hr, ho, hb⟩ := gpush HO.out BW.out.size (by omega) 32 0
          rw [hn] at hr p0 p1 w1 ho hsl ⊢
          rw [hn'] at w1 p1 p2 d0 d1
          obtain ⟨y0, y1⟩ := y
          simp only at d0 d1 HN
          clear d1 hlast hnb hOy hOl
          by_cases hy : y0 = 32
          · have HN2 : Hid (sqA false (t.take (j + 1)) = O) := Lib.hid (by rw [HN.out, hy]; simp)
            subst hy
            clear HN hr ho hb
            go_wp2_with fail
            go_roundw
            case rel => exact ⟨j + 1, by omega, by go_num, by rw [HN2.out]; exact hn ▸ HO, BW⟩
            case measure => (simp [intOf]; try omega)
          · have HN2 : Hid (sqA false (t.take (j + 1)) = O ++ [(32, 0)]) := Lib.hid (by
              rw [HN.out]
              have : (y0 != 32) = true := by simpa using hy
              rw [this]; rfl)
            have H2 := Lib.hid ho
            have B2 := Lib.hid (BW.out.trans hb)
            clear HN ho hb hn hn'
            go_wp2_with fail
            go_roundw
            case rel => exact ⟨j + 1, by omega, by go_num, by rw [HN2.out]; exact H2, B2⟩
            case measure => (simp [intOf]; try omega)
      · rw [if_neg h32] at HN
        obtain ⟨a', c', W', hr, ho, hb⟩ := gpush HO.out BW.out.size (by omega) z0 z1
        have H2 := Lib.hid ho
        have B2 := Lib.hid (BW.out.trans hb)
        clear ho hb
        go_wp2_with fail
        go_roundw
        case rel => exact ⟨j + 1, by omega, by go_num, by rw [HN.out]; exact H2, B2⟩
        case measure => (simp [intOf]; try omega)
    · obtain rfl : j = t.length := by omega
      have hlt' : ¬ (t.length : Int) < (t.length : Int) := by omega
      rw [List.take_length] at HO ⊢
      go_wp2_with fail
      go_ret
      exact ⟨_, rfl, HO.out, BW.out⟩
end Go.Proofs.YtpccjgoeoeehoaaDoor
namespace Go.Proofs.YtpccjgoeoeehoaaDoor
open Go.RowKit
set_option maxHeartbeats 1000000 in
theorem rside_any (c : UInt8) (w : World) : Calls Tryd.prog 83 #[.int .u8 (c.toNat : Int)] w fun e w' => e = .returned (.bool (side c)) ∧ w' = w := by
  have HP : Hid (side c = (((c.toNat : Int) == 108) || ((c.toNat : Int) == 99) || ((c.toNat : Int) == 114))) := Lib.hid (by
    have key : ∀ n : Nat, n < 256 → ((c == UInt8.ofNat n) = ((c.toNat : Int) == (n : Int))) := fun n hn => by
      apply bool_of_iff
      simp only [beq_iff_eq]
      constructor
      · rintro rfl
        simp [UInt8.toNat_ofNat', Nat.mod_eq_of_lt hn]
      · intro h
        apply UInt8.toNat_inj.1
        rw [UInt8.toNat_ofNat', Nat.mod_eq_of_lt hn]
        omega
    have k1 := key 108 (by decide)
    have k2 := key 99 (by decide)
    have k3 := key 114 (by decide)
    unfold side
    rw [← show ((108 : Nat) : Int) = 108 from rfl, ← show ((99 : Nat) : Int) = 99 from rfl, ← show ((114 : Nat) : Int) = 114 from rfl, ← k1, ← k2, ← k3]
    rfl)
  obtain ⟨q1, hq1⟩ : ∃ q, ((c.toNat : Int) == 108) = q := ⟨_, rfl⟩
  obtain ⟨q2, hq2⟩ : ∃ q, ((c.toNat : Int) == 99) = q := ⟨_, rfl⟩
  obtain ⟨q3, hq3⟩ : ∃ q, ((c.toNat : Int) == 114) = q := ⟨_, rfl⟩
  rw [hq1, hq2, hq3] at HP
  generalize (c.toNat : Int) = x at hq1 hq2 hq3
  rw [HP.out]
  go_enter Tryd.func83, Tryd.ntmps83
  cases q1
  · cases q2
    · go_wp2_with fail
      go_ret
      exact ⟨ret_bool (by simp), rfl⟩
    · go_wp2_with fail
      go_ret
      exact ⟨ret_bool (by simp), rfl⟩
  · go_wp2_with fail
    go_ret
    exact ⟨ret_bool (by simp), rfl⟩
def icell (x : Int) : List Value := [.int .i64 x]
theorem icell_len (x : Int) : (icell x).length = 1 := rfl
set_option maxRecDepth 100000 in
set_option maxHeartbeats 1000000 in
theorem rin_any (k : Int) (l : List Int) (v : Value) (w : World) (hv : Fs 1 icell w v l) (hl : l.length ≤ 1000) :
    Calls Tryd.prog 73 #[.int .i64 k, v] w fun e w' => e = .returned (.bool (l.contains k)) ∧ w' = w := by
  have HV := Lib.hid hv
  obtain ⟨aa, ca, rfl⟩ := hv.len
  obtain ⟨R, hR⟩ : ∃ R, l.contains k = R := ⟨_, rfl⟩
  rw [hR]
  have HR := Lib.hid hR
  clear hv hR
  go_enter Tryd.func73, Tryd.ntmps73
  go_wp2_with fail
  go_loopw [5] (fun i wr => ∃ j : Nat, j ≤ l.length ∧ i = .int .i64 j ∧ Hid (k ∉ l.take j) ∧ Hid (wr = w)) (fun i _ => l.length - (intOf i).toNat)
  case atStart => exact ⟨0, by omega, rfl, Lib.hid (by simp), Lib.hid rfl⟩
  case round =>
    obtain ⟨j, hj, rfl, HN, HW⟩ := hrel
    by_cases hlt : j < l.length
    · obtain ⟨x, hx⟩ : ∃ x, l[j]? = some x := ⟨l[j], List.getElem?_eq_getElem hlt⟩
      obtain ⟨a0, c0, hv0, -, hr⟩ := HV.out
      injection hv0 with e1 e2 e3
      subst e1
      obtain ⟨g, off, rfl, hc⟩ := hr j x hx
      have c0 := hc 0 _ rfl
      rw [Nat.mul_one, Nat.add_zero, ← HW.out] at c0
      have hi0 : (j : Int) < (l.length : Int) := by omega
      have hi1 : (0 : Int) ≤ (j : Int) := by omega
      by_cases hk : x = k
      · have HT : Hid (l.contains k = true) := Lib.hid (by
          rw [List.contains_iff_mem]
          exact List.mem_iff_getElem?.2 ⟨j, hk ▸ hx⟩)
        have hq : (x == k) = true := by simpa using hk
        subst hk
        clear hx hr hc HV
        go_wp2_with fail
        go_ret
        exact ⟨ret_bool (by rw [← HR.out, HT.out]), HW.out⟩
      · have HT : Hid (k ∉ l.take (j + 1)) := Lib.hid (by
          rw [List.take_add_one, hx]
          simp only [Option.toList_some, List.mem_append, List.mem_singleton, not_or]
          exact ⟨HN.out, fun e => hk e.symm⟩)
        have hq : (x == k) = false := by simpa using hk
        clear hx hr hc
        go_wp2_with fail
        go_roundw
        case rel => exact ⟨j + 1, by omega, by go_num, HT, HW⟩
        case measure => (simp [intOf]; try omega)
    · obtain rfl : j = l.length := by omega
      have hlt' : ¬ (l.length : Int) < (l.length : Int) := by omega
      rw [List.take_length] at HN
      have HT : Hid (l.contains k = false) := Lib.hid (by
        rw [Bool.eq_false_iff]
        intro h
        exact HN.out (List.contains_iff_mem.1 h))
      go_wp2_with fail
      go_ret
      exact ⟨ret_bool (by rw [← HR.out, HT.out]), HW.out⟩
/-- 'in' of a list that is written out. -/
theorem rin_lit (k : Int) (l : List Int) (hl : l.length ≤ 1000) (W : World) :
    Calls Tryd.prog 73 #[.int .i64 k, .slice (some ⟨W.heap.size, 0, none⟩) l.length l.length] (W.alloc (.cells (flatV icell l).toArray 3)) fun e w' => e = .returned (.bool (l.contains k)) ∧ w' = W.alloc (.cells (flatV icell l).toArray 3) :=
  rin_any k l _ _ (fs_lit icell_len W 3 l) hl
theorem rin123 (k : Int) (W : World) : Calls Tryd.prog 73 #[.int .i64 k, .slice (some ⟨W.heap.size, 0, none⟩) 3 3] (W.alloc (.cells #[.int .i64 1, .int .i64 2, .int .i64 3] 3)) fun e w' => e = .returned (.bool (([1, 2, 3] : List Int).contains k)) ∧ w' = W.alloc (.cells #[.int .i64 1, .int .i64 2, .int .i64 3] 3) := rin_lit k [1, 2, 3] (by decide) W
theorem rin1234 (k : Int) (W : World) : Calls Tryd.prog 73 #[.int .i64 k, .slice (some ⟨W.heap.size, 0, none⟩) 4 4] (W.alloc (.cells #[.int .i64 1, .int .i64 2, .int .i64 3, .int .i64 4] 3)) fun e w' => e = .returned (.bool (([1, 2, 3, 4] : List Int).contains k)) ∧ w' = W.alloc (.cells #[.int .i64 1, .int .i64 2, .int .i64 3, .int .i64 4] 3) := rin_lit k [1, 2, 3, 4] (by decide) W
theorem rin1245 (k : Int) (W : World) : Calls Tryd.prog 73 #[.int .i64 k, .slice (some ⟨W.heap.size, 0, none⟩) 4 4] (W.alloc (.cells #[.int .i64 1, .int .i64 2, .int .i64 4, .int .i64 5] 3)) fun e w' => e = .returned (.bool (([1, 2, 4, 5] : List Int).contains k)) ∧ w' = W.alloc (.cells #[.int .i64 1, .int .i64 2, .int .i64 4, .int .i64 5] 3) := rin_lit k [1, 2, 4, 5] (by decide) W
theorem rin45 (k : Int) (W : World) : Calls Tryd.prog 73 #[.int .i64 k, .slice (some ⟨W.heap.size, 0, none⟩) 2 2] (W.alloc (.cells #[.int .i64 4, .int .i64 5] 3)) fun e w' => e = .returned (.bool (([4, 5] : List Int).contains k)) ∧ w' = W.alloc (.cells #[.int .i64 4, .int .i64 5] 3) := rin_lit k [4, 5] (by decide) W
set_option maxHeartbeats 2000000 in
theorem rstands_any (k m : Int) (w : World) : Calls Tryd.prog 70 #[.int .i64 k, .int .i64 m] w fun e w' => e = .returned (.bool (stands k m)) ∧ w' = w := by
  have HS : Hid (stands k m = ((k == 1 && m == 0) || (k == 2 && m == 1) || (decide (3 ≤ k) && decide (k ≤ 7)))) := Lib.hid rfl
  obtain ⟨q1, h1⟩ : ∃ q, (k == 1) = q := ⟨_, rfl⟩
  obtain ⟨q2, h2⟩ : ∃ q, (m == 0) = q := ⟨_, rfl⟩
  obtain ⟨q3, h3⟩ : ∃ q, (k == 2) = q := ⟨_, rfl⟩
  obtain ⟨q4, h4⟩ : ∃ q, (m == 1) = q := ⟨_, rfl⟩
  obtain ⟨q5, h5⟩ : ∃ q, decide (3 ≤ k) = q := ⟨_, rfl⟩
  obtain ⟨q6, h6⟩ : ∃ q, decide (k ≤ 7) = q := ⟨_, rfl⟩
  rw [h1, h2, h3, h4, h5, h6] at HS
  rw [HS.out]
  clear HS
  by_cases a1 : k = 1
  · subst a1
    obtain rfl : true = q1 := by simpa using h1
    obtain rfl : false = q3 := by simpa using h3
    obtain rfl : false = q5 := by simpa using h5
    clear h1 h3 h4 h5 h6
    go_enter Tryd.func70, Tryd.ntmps70
    cases q2
    · go_wp2_with fail
      go_ret
      exact ⟨ret_bool (by simp), rfl⟩
    · go_wp2_with fail
      go_ret
      exact ⟨ret_bool (by simp), rfl⟩
  · by_cases a2 : k = 2
    · subst a2
      obtain rfl : false = q1 := by simpa using h1
      obtain rfl : true = q3 := by simpa using h3
      obtain rfl : false = q5 := by simpa using h5
      clear h1 h2 h3 h5 h6
      go_enter Tryd.func70, Tryd.ntmps70
      cases q4
      · go_wp2_with fail
        go_ret
        exact ⟨ret_bool (by simp), rfl⟩
      · go_wp2_with fail
        go_ret
        exact ⟨ret_bool (by simp), rfl⟩
    · obtain rfl : false = q1 := by rw [← h1]; simpa using a1
      obtain rfl : false = q3 := by rw [← h3]; simpa using a2
      clear h2 h4 a1 a2
      by_cases a5 : 3 ≤ k
      · obtain rfl : true = q5 := by rw [← h5]; simpa using a5
        clear h5
        by_cases a6 : k ≤ 7
        · obtain rfl : true = q6 := by rw [← h6]; simpa using a6
          clear h6
          go_enter Tryd.func70, Tryd.ntmps70
          go_wp2_with fail
          go_ret
          exact ⟨ret_bool (by simp), rfl⟩
        · obtain rfl : false = q6 := by rw [← h6]; simpa using a6
          clear h6
          go_enter Tryd.func70, Tryd.ntmps70
          go_wp2_with fail
          go_ret
          exact ⟨ret_bool (by simp), rfl⟩
      · obtain rfl : false = q5 := by rw [← h5]; simpa using a5
        clear h5 h6
        go_enter Tryd.func70, Tryd.ntmps70
        go_wp2_with fail
        go_ret
        exact ⟨ret_bool (by simp), rfl⟩
end Go.Proofs.YtpccjgoeoeehoaaDoor
namespace Go.Proofs.YtpccjgoeoeehoaaDoor
open Go.RowKit
/-- A node's value, part by part. -/
def ndG (k l n : Int) (t c r : PV) (co : List UInt8) (q : PV) (b a : Bool) : List Value :=
  [.int .i64 k, .int .i64 l, .int .i64 n, pv t, pv c, pv r, .string ⟨co.toArray⟩, pv q, .bool b, .bool a]
def fullV (k : Int) (tl cl rl ql : Nat) : Bool :=
  if 1 ≤ k ∧ k ≤ 3 then decide (0 < tl) else if k = 5 then decide (0 < cl) else if k = 6 then decide (0 < rl) else k == 4 || (k == 7 && decide (0 < ql))
theorem c123 (k : Int) : ([1, 2, 3] : List Int).contains k = decide (1 ≤ k ∧ k ≤ 3) := by
  apply bool_of_iff
  simp
  omega
theorem c1234 (k : Int) : ([1, 2, 3, 4] : List Int).contains k = decide (1 ≤ k ∧ k ≤ 4) := by
  apply bool_of_iff
  simp
  omega
theorem c45 (k : Int) : ([4, 5] : List Int).contains k = decide (k = 4 ∨ k = 5) := by
  apply bool_of_iff
  simp
theorem c1245 (k : Int) : ([1, 2, 4, 5] : List Int).contains k = mayK k := by
  apply bool_of_iff
  rw [mayK_iff]
  simp
theorem one_lit {e : TypeId} (w : World) (L : List Value) : ∀ W, W = w.alloc (.cells L.toArray e) → Below w.heap.size w W ∧ Blk W w.heap.size e L := by
  rintro W rfl
  exact ⟨below_lit w _, heap_alloc_new w _⟩
set_option maxRecDepth 100000 in
set_option maxHeartbeats 4000000 in
theorem rfull_any (k l n : Int) (t c r : PV) (co : List UInt8) (q : PV) (b a : Bool) (w : World) :
    Calls Tryd.prog 71 #[.agg (ndG k l n t c r co q b a).toArray] w fun e w' => e = .returned (.bool (fullV k t.2.1 c.2.1 r.2.1 q.2.1)) ∧ Below w.heap.size w w' := by
  obtain ⟨t1, tl, t2⟩ := t
  obtain ⟨s1, cl, s2⟩ := c
  obtain ⟨r1, rl, r2⟩ := r
  obtain ⟨q1, ql, q2⟩ := q
  simp only
  obtain ⟨w0, hw0⟩ : ∃ w0, w0 = w.alloc (.cells (ndG k l n (t1, tl, t2) (s1, cl, s2) (r1, rl, r2) co (q1, ql, q2) b a).toArray 40) := ⟨_, rfl⟩
  obtain ⟨bl, hb⟩ := one_lit w _ w0 hw0
  have b2 := bl.trans ((below_lit w0 (.cells #[.int .i64 1, .int .i64 2, .int .i64 3] 3)).mono bl.size)
  have hb2 := hb.below (below_lit w0 (.cells #[.int .i64 1, .int .i64 2, .int .i64 3] 3))
  have c0 : w0.cell? ⟨w.heap.size, 0, none⟩ = some (.int .i64 k) := hb.cell 0
  have hI := rin123 k w0
  rw [c123, show w0.heap.size = w.heap.size + 1 by rw [hw0, World.size_alloc]] at hI
  obtain ⟨w1, hw1⟩ : ∃ w1, w1 = w0.alloc (.cells #[.int .i64 1, .int .i64 2, .int .i64 3] 3) := ⟨_, rfl⟩
  rw [← hw1] at hI b2 hb2
  have d0 : w1.cell? ⟨w.heap.size, 0, none⟩ = some (.int .i64 k) := hb2.cell 0
  have d3 : w1.cell? ⟨w.heap.size, 3, none⟩ = some (.slice t1 tl t2) := hb2.cell 3
  have d4 : w1.cell? ⟨w.heap.size, 4, none⟩ = some (.slice s1 cl s2) := hb2.cell 4
  have d5 : w1.cell? ⟨w.heap.size, 5, none⟩ = some (.slice r1 rl r2) := hb2.cell 5
  have d7 : w1.cell? ⟨w.heap.size, 7, none⟩ = some (.slice q1 ql q2) := hb2.cell 7
  have B2 := Lib.hid b2
  unfold fullV
  clear bl hb b2 hb2
  subst hw1 hw0
  unfold ndG pv at *
  simp only at *
  have HI := Lib.hid hI
  clear hI
  go_enter Tryd.func71, Tryd.ntmps71
  by_cases h1 : 1 ≤ k ∧ k ≤ 3
  · rw [if_pos h1]
    rw [decide_eq_true h1] at HI
    have e1 : decide (0 < (tl : Int)) = decide (0 < tl) := bool_of_iff (by simp)
    clear h1
    go_wp2_with fail
    refine HI.out.mono ?_
    rintro e w2 ⟨rfl, hw2⟩
    rw [← hw2] at d0 d3 d4 d5 d7 B2
    clear hw2 c0 HI
    go_wp2_with fail
    go_ret
    exact ⟨ret_bool (by first | rfl | simp), B2.out⟩
  · rw [if_neg h1]
    rw [decide_eq_false h1] at HI
    clear h1
    by_cases h5 : k = 5
    · subst h5
      rw [if_pos rfl]
      go_wp2_with fail
      refine HI.out.mono ?_
      rintro e w2 ⟨rfl, hw2⟩
      rw [← hw2] at d0 d3 d4 d5 d7 B2
      clear hw2 c0 HI
      go_wp2_with fail
      go_ret
      exact ⟨ret_bool (by first | rfl | simp), B2.out⟩
    · rw [if_neg h5]
      by_cases h6 : k = 6
      · subst h6
        rw [if_pos rfl]
        go_wp2_with fail
        refine HI.out.mono ?_
        rintro e w2 ⟨rfl, hw2⟩
        rw [← hw2] at d0 d3 d4 d5 d7 B2
        clear hw2 c0 HI
        go_wp2_with fail
        go_ret
        exact ⟨ret_bool (by first | rfl | simp), B2.out⟩
      · rw [if_neg h6]
        by_cases h4 : k = 4
        · subst h4
          clear h5 h6
          go_wp2_with fail
          refine HI.out.mono ?_
          rintro e w2 ⟨rfl, hw2⟩
          rw [← hw2] at d0 d3 d4 d5 d7 B2
          clear hw2 c0 HI
          go_wp2_with fail
          go_ret
          exact ⟨ret_bool (by first | rfl | simp), B2.out⟩
        · by_cases h7 : k = 7
          · subst h7
            clear h5 h6 h4
            go_wp2_with fail
            refine HI.out.mono ?_
            rintro e w2 ⟨rfl, hw2⟩
            rw [← hw2] at d0 d3 d4 d5 d7 B2
            clear hw2 c0 HI
            go_wp2_with fail
            go_ret
            exact ⟨ret_bool (by first | rfl | simp), B2.out⟩
          · have n5 : (k == 5) = false := by simpa using h5
            have n6 : (k == 6) = false := by simpa using h6
            have n4 : (k == 4) = false := by simpa using h4
            have n7 : (k == 7) = false := by simpa using h7
            have HR : Hid ((k == 4 || (k == 7 && decide (0 < ql))) = false) := Lib.hid (by rw [n4, n7]; rfl)
            go_wp2_with fail
            refine HI.out.mono ?_
            rintro e w2 ⟨rfl, hw2⟩
            rw [← hw2] at d0 d3 d4 d5 d7 B2
            clear hw2 c0 HI
            go_wp2_with fail
            go_ret
            exact ⟨ret_bool (by simp [h4, h7]), B2.out⟩
end Go.Proofs.YtpccjgoeoeehoaaDoor
namespace Go.Proofs.YtpccjgoeoeehoaaDoor
open Go.RowKit
theorem strX_idx (b : List UInt8) (i : Nat) (x : UInt8) (h : b[i]? = some x) (w : World) : (Instr.index 9 (.string ⟨b.toArray⟩) (.int .i64 (i : Int))).run Tryd.prog w = .ok (.int .u8 (x.toNat : Int)) w := by
  obtain ⟨hi, hx⟩ := List.getElem?_eq_some_iff.1 h
  have hsz := bsz b
  rw [run_index_string w 9 _ .i64 (i : Int) Tryd.underlying9, dif_pos ⟨by omega, by rw [hsz]; omega⟩]
  have e : (⟨b.toArray⟩ : ByteArray)[((i : Int)).toNat]'(by rw [hsz]; omega) = x := by
    show b.toArray[((i : Int)).toNat]'_ = x
    simp only [Int.toNat_natCast, List.getElem_toArray]
    exact hx
  rw [e]
theorem strX_mid (b : List UInt8) (i j : Nat) (hi : i ≤ j) (h : j ≤ b.length) (w : World) : (Instr.slice 9 (.string ⟨b.toArray⟩) (some (.int .i64 (i : Int))) (some (.int .i64 (j : Int))) none).run Tryd.prog w = .ok (.string ⟨((b.drop i).take (j - i)).toArray⟩) w := by
  have hsz := bsz b
  rw [run_slice_string w 9 _ .i64 .i64 (i : Int) (j : Int) Tryd.underlying9 (by omega) (by omega) (by rw [hsz]; omega), ByteArray.extract_mk]
  simp only [Int.toNat_natCast]
theorem catX_str (a c : List UInt8) : (⟨a.toArray⟩ : ByteArray) ++ ⟨c.toArray⟩ = ⟨(a ++ c).toArray⟩ := by
  apply ByteArray.ext
  simp
noncomputable def addX (a c : Value) : Sem Value := binOp .add 9 a c
theorem binop_addX (a c : Value) : binOp .add 9 a c = addX a c := rfl
theorem strX_add (a c : List UInt8) (h : a.length + c.length ≤ 100000000) (W : World) : (addX (.string ⟨a.toArray⟩) (.string ⟨c.toArray⟩)).run Tryd.prog W = .ok (.string ⟨(a ++ c).toArray⟩) W := by
  unfold addX
  have ha := bsz a
  have hc := bsz c
  rw [binOp_string_add]
  simp [Op.stringOp, catX_str, ha, hc, maxLen]
  omega
end Go.Proofs.YtpccjgoeoeehoaaDoor
namespace Go.Proofs.YtpccjgoeoeehoaaDoor
open Go.RowKit
def endB (l : List Gly) : Bool := match l.getLast? with
  | none => false
  | some g => g.1 == 32
/-- Is a blank due ahead of the next glyph? -/
def due (l : List Gly) : Bool := endB l && !(sqz l).isEmpty
theorem endB_snoc (l : List Gly) (g : Gly) : endB (l ++ [g]) = (g.1 == 32) := by simp [endB]
theorem trm_blank {g : Gly} (h : g.1 = 32) : ∀ l : List Gly, trm (l ++ [g]) = trm l
  | [] => by simp [trm, h]
  | x :: l => by
    rw [List.cons_append, trm_cons, trm_blank h l, trm_cons]
theorem trm_other {g : Gly} (h : g.1 ≠ 32) : ∀ l : List Gly, trm (l ++ [g]) = l ++ [g]
  | [] => by simp [trm, h]
  | x :: l => by
    rw [List.cons_append, trm_cons, trm_other h l, if_neg (fun k => by simp at k)]
theorem sqz_blank {g : Gly} (h : g.1 = 32) (l : List Gly) : sqz (l ++ [g]) = sqz l := by unfold sqz; rw [trm_blank h]
theorem sqA_dueN : ∀ (n : Nat) (l : List Gly), l.length = n → sqA false l = sqz l ++ (if due l then [(32, 0)] else [])
  | 0, l, h => by
    rw [List.eq_nil_of_length_eq_zero h]
    rfl
  | n + 1, l, h => by
    rcases List.eq_nil_or_concat l with rfl | ⟨Q, b, rfl⟩
    · rfl
    rw [List.concat_eq_append] at h ⊢
    have ih := sqA_dueN n Q (by simpa using h)
    unfold due
    rw [endB_snoc]
    by_cases hb : b.1 = 32
    · rw [sqz_blank hb, sqA_app, sqA_blank _ hb]
      have e1 : (b.1 == 32) = true := by simpa using hb
      rw [e1, Bool.true_and]
      have e0 : sqA false [] = [] := rfl
      rw [e0]
      by_cases hd : due Q = true
      · rw [if_pos hd] at ih
        have hne : (!(sqz Q).isEmpty) = true := by unfold due at hd; rw [Bool.and_eq_true] at hd; exact hd.2
        rw [ih, hne]
        simp [lastNB]
      · rw [if_neg hd, List.append_nil] at ih
        rw [ih]
        by_cases hq : sqz Q = []
        · rw [hq]; rfl
        · have hne : (!(sqz Q).isEmpty) = true := by simpa using hq
          rw [hne]
          have hend : endB Q = false := by
            unfold due at hd
            rw [hne, Bool.and_true] at hd
            simpa using hd
          have hl : lastNB false (sqz Q) = true := by
            rcases List.eq_nil_or_concat Q with rfl | ⟨R, c, rfl⟩
            · exact absurd rfl hq
            · rw [List.concat_eq_append] at hend ih ⊢
              rw [endB_snoc] at hend
              have hc : c.1 ≠ 32 := by simpa using hend
              rw [← ih, sqA_app, sqA_other _ hc]
              have e0 : sqA true [] = [] := rfl
              rw [e0]
              simp [lastNB, hc]
          rw [hl]
    · have e1 : (b.1 == 32) = false := by simpa using hb
      rw [e1, Bool.false_and]
      unfold sqz
      rw [trm_other hb]
      simp
theorem sqA_due (l : List Gly) : sqA false l = sqz l ++ (if due l then [(32, 0)] else []) := sqA_dueN _ l rfl
theorem sqz_other {g : Gly} (h : g.1 ≠ 32) (l : List Gly) : sqz (l ++ [g]) = sqz l ++ (if due l then [(32, 0)] else []) ++ [g] := by
  rw [← sqA_due]
  unfold sqz
  rw [trm_other h, sqA_app, sqA_other _ h]
  rfl
theorem due_blank {g : Gly} (h : g.1 = 32) (l : List Gly) : due (l ++ [g]) = !(sqz l).isEmpty := by
  unfold due
  rw [endB_snoc, sqz_blank h, show (g.1 == 32) = true by simpa using h, Bool.true_and]
theorem due_other {g : Gly} (h : g.1 ≠ 32) (l : List Gly) : due (l ++ [g]) = false := by
  unfold due
  rw [endB_snoc, show (g.1 == 32) = false by simpa using h, Bool.false_and]
theorem take_snoc' {α : Type} {l : List α} {j : Nat} {x : α} (h : l[j]? = some x) : l.take (j + 1) = l.take j ++ [x] := by
  rw [List.take_add_one, h]; rfl
theorem FOwn.blt {α : Type} {e n : Nat} {f : α → List Value} {base : Nat} {W : World} {x : Value} {l : List α} (h : FOwn e n f base W x l) {g : Nat} (hg : x.ownBlock = some g) : g < W.heap.size := by
  obtain ⟨-, cur, hc⟩ := h.ty hg
  exact (Array.getElem?_eq_some_iff.1 hc).1
/-- A glyph behind a row of the call's own; all else stands. -/
theorem gpush2 {base : Nat} {W : World} {x : Value} {l : List Gly} (h : GOwn base W x l) (hb : base ≤ W.heap.size) (hl : l.length ≤ 500000) (r s : Int) :
    ∃ a' c' w', (appG #[x, .slice (some ⟨W.heap.size, 0, none⟩) 1 1]).run Tryd.prog (W.alloc (.cells #[.int .i32 r, .int .u8 s] 56)) = .ok (.value (.slice a' (l.length + 1) c')) w' ∧ GOwn base w' (.slice a' (l.length + 1) c') (l ++ [(r, s)]) ∧ Below base W w' ∧ Exc (fun b => x.ownBlock = some b) W w' := by
  have b1 := below_lit W (.cells #[.int .i32 r, .int .u8 s] 56)
  have hu : Gs (W.alloc (.cells #[.int .i32 r, .int .u8 s] 56)) (.slice (some ⟨W.heap.size, 0, none⟩) 1 1) [(r, s)] := fs_lit gcell_len W 56 [(r, s)]
  obtain ⟨x', w', hr, ho, hg, -⟩ := appG_own (h.keep b1) hu (Nat.le_trans hb b1.size) (by simp; omega)
  obtain ⟨a', c', e⟩ := (FOwn.sl gcell_len ho).len
  have hbel := (h.keep b1).below (b1.mono hb) (Nat.le_trans hb b1.size) hg
  have e2 : (l ++ [(r, s)]).length = l.length + 1 := by simp
  rw [e2] at e
  subst e
  refine ⟨a', c', w', hr, ho, hbel, ⟨hbel.os, hbel.tape, hbel.output, hbel.size, fun k hk hx => ?_⟩⟩
  exact (hg.block k (Nat.lt_of_lt_of_le hk b1.size) (fun e => hx e.symm)).trans (b1.block k hk)
attribute [local go_sem ↓ high] builtin_appG
set_option maxRecDepth 100000 in
set_option maxHeartbeats 2000000 in
theorem psqueeze_any (l : List Gly) (v : Value) (w : World) (hv : Gs w v l) (hl : l.length ≤ 90000) :
    Calls Tryd.prog 91 #[v] w fun e w' => ∃ u, e = .returned u ∧ GOwn w.heap.size w' u (sqz l) ∧ Below w.heap.size w w' := by
  have HV := Lib.hid hv
  obtain ⟨va, vc, rfl⟩ := hv.len
  clear hv
  go_enter Tryd.func91, Tryd.ntmps91
  go_wp2_with fail
  go_step3
  go_wp2_with fail
  go_step3
  go_wp2_with fail
  go_loopw [3, 4, 9] (fun s q i wr => ∃ j : Nat, j ≤ l.length ∧ i = .int .i64 j ∧ q = .bool (due (l.take j)) ∧ Hid (GOwn w.heap.size wr s (sqz (l.take j))) ∧ Hid (Below w.heap.size w wr)) (fun _ _ i _ => l.length - (intOf i).toNat)
  case atStart => exact ⟨0, by omega, rfl, rfl, Lib.hid (FOwn.nil _ _), Lib.hid (Below.refl _ _)⟩
  case round =>
    obtain ⟨j, hj, rfl, rfl, HO, BW⟩ := hrel
    have hsl := sqz_len (l.take j)
    rw [List.length_take] at hsl
    obtain ⟨sa, sc, hs⟩ := (FOwn.sl gcell_len HO.out).len
    subst hs
    by_cases hlt : j < l.length
    · obtain ⟨z, hz⟩ : ∃ z, l[j]? = some z := ⟨l[j], List.getElem?_eq_getElem hlt⟩
      have HTS := Lib.hid (take_snoc' hz)
      obtain ⟨g, off, rfl, c0, c1, -⟩ := Gs.at (Fs.below HV.out BW.out) hz
      have hi0 : (j : Int) < (l.length : Int) := by omega
      have hi1 : (0 : Int) ≤ (j : Int) := by omega
      obtain ⟨z0, z1⟩ := z
      simp only at c0 c1
      have bl := below_lit wr (.cells #[.int .i32 z0, .int .u8 z1] 56)
      have BL := Lib.hid (BW.out.trans (bl.mono BW.out.size))
      have HOL := Lib.hid (HO.out.keep bl)
      clear hz
      by_cases h32 : z0 = 32
      · have HN := Lib.hid (sqz_blank (g := (z0, z1)) h32 (l.take j))
        have HD := Lib.hid (due_blank (g := (z0, z1)) h32 (l.take j))
        subst h32
        obtain ⟨O, hO⟩ : ∃ O, sqz (l.take j) = O := ⟨_, rfl⟩
        rw [hO] at HN HD HOL ⊢
        by_cases hne : O = []
        · subst hne
          have HD2 : Hid (due (l.take j ++ [(32, z1)]) = false) := Lib.hid (by rw [HD.out]; rfl)
          clear hO hsl HO bl HD
          go_wp2_with fail
          go_roundw
          case rel => exact ⟨j + 1, by omega, by go_num, by rw [HTS.out, HD2.out], by rw [HTS.out, HN.out]; exact HOL, BL⟩
          case measure => (simp [intOf]; try omega)
        · have HD2 : Hid (due (l.take j ++ [(32, z1)]) = true) := Lib.hid (by rw [HD.out]; simpa using hne)
          have p0 : 0 < O.length := List.length_pos_iff.2 hne
          obtain ⟨n, hn⟩ : ∃ n, O.length = n := ⟨_, rfl⟩
          rw [hn] at p0 ⊢
          have p1 : (0 : Int) < (n : Int) := by omega
          have HHN := Lib.hid hn
          clear hO hsl hn HO bl HD hne
          go_wp2_with fail
          go_roundw
          case rel => exact ⟨j + 1, by omega, by go_num, by rw [HTS.out, HD2.out], by rw [HTS.out, HN.out]; exact HHN.out ▸ HOL, BL⟩
          case measure => (simp [intOf]; try omega)
      · have HN := Lib.hid (sqz_other (g := (z0, z1)) h32 (l.take j))
        have HD := Lib.hid (due_other (g := (z0, z1)) h32 (l.take j))
        have e32 : (z0 == 32) = false := by simpa using h32
        have hX : Blk (wr.alloc (.cells #[.int .i32 z0, .int .u8 z1] 56)) wr.heap.size 56 [.int .i32 z0, .int .u8 z1] := heap_alloc_new wr _
        have hown : (Value.slice sa (sqz (l.take j)).length sc).ownBlock ≠ some wr.heap.size := fun e => by have := HO.out.blt e; omega
        by_cases hdu : due (l.take j) = true
        · rw [if_pos hdu] at HN
          obtain ⟨a1, n1, w1, hr1, ho1, hb1, he1⟩ := gpush2 HOL.out BL.out.size (by omega) 32 0
          have hX1 := he1.blk hX hown
          have x0 : w1.cell? ⟨wr.heap.size, 0, none⟩ = some (.int .i32 z0) := hX1.cell 0
          have x1 : w1.cell? ⟨wr.heap.size, 1, none⟩ = some (.int .u8 z1) := hX1.cell 1
          have B1 := BL.out.trans hb1
          obtain ⟨a2, n2, w2, hr2, ho2, hb2, -⟩ := gpush2 ho1 B1.size (by simp; omega) z0 z1
          have B2 := Lib.hid (B1.trans hb2)
          rw [List.length_append] at hr2 ho2
          simp only [List.length_cons, List.length_nil, Nat.zero_add] at hr2 ho2
          have H2 := Lib.hid ho2
          rw [hdu]
          obtain ⟨O, hO⟩ : ∃ O, sqz (l.take j) = O := ⟨_, rfl⟩
          rw [hO] at HN H2 hr1 hr2 hsl ⊢
          obtain ⟨n, hn⟩ : ∃ n, O.length = n := ⟨_, rfl⟩
          rw [hn] at hr1 hr2 H2 ⊢
          rw [World.size_alloc] at hr1
          clear hO hsl hn HO bl h32 hdu hX hX1 hown ho1 hb1 he1 B1 ho2 hb2 HOL
          go_wp2_with fail
          go_roundw
          case rel => exact ⟨j + 1, by omega, by go_num, by rw [HTS.out, HD.out], by rw [HTS.out, HN.out]; exact H2, B2⟩
          case measure => (simp [intOf]; try omega)
        · have hdf : due (l.take j) = false := by simpa using hdu
          rw [hdf] at HN
          simp only [Bool.false_eq_true, if_false, List.append_nil] at HN
          obtain ⟨a2, n2, w2, hr2, ho2, hb2, -⟩ := gpush2 HOL.out BL.out.size (by omega) z0 z1
          have B2 := Lib.hid (BL.out.trans hb2)
          have H2 := Lib.hid ho2
          rw [hdf]
          obtain ⟨O, hO⟩ : ∃ O, sqz (l.take j) = O := ⟨_, rfl⟩
          rw [hO] at HN H2 hr2 hsl ⊢
          obtain ⟨n, hn⟩ : ∃ n, O.length = n := ⟨_, rfl⟩
          rw [hn] at hr2 H2 ⊢
          rw [World.size_alloc] at hr2
          clear hO hsl hn HO bl h32 hdu hdf hX hown ho2 hb2 HOL
          go_wp2_with fail
          go_roundw
          case rel => exact ⟨j + 1, by omega, by go_num, by rw [HTS.out, HD.out], by rw [HTS.out, HN.out]; exact H2, B2⟩
          case measure => (simp [intOf]; try omega)
    · obtain rfl : j = l.length := by omega
      have hlt' : ¬ (l.length : Int) < (l.length : Int) := by omega
      rw [List.take_length] at HO ⊢
      go_wp2_with fail
      go_ret
      exact ⟨_, rfl, HO.out, BW.out⟩
end Go.Proofs.YtpccjgoeoeehoaaDoor
namespace Go.Proofs.YtpccjgoeoeehoaaDoor
open Go.RowKit
theorem below_two (w : World) (a b : Obj) : Below w.heap.size w ((w.alloc a).alloc b) := ((Below.refl _ w).alloc (Nat.le_refl _) _).alloc (by simp) _
theorem blk_second (w : World) (a : Obj) (L : List Value) (e : TypeId) : Blk ((w.alloc a).alloc (.cells L.toArray e)) (w.heap.size + 1) e L := by
  have := heap_alloc_new (w.alloc a) (.cells L.toArray e)
  have e1 : (w.alloc a).heap.size = w.heap.size + 1 := by simp
  rw [e1] at this
  exact this
noncomputable def appZ (args : Array Value) : Sem Next := do pure (.value (← Builtin.append_ #[30, 3] 30 args))
theorem builtin_appZ (cs : Array Bool) (args : Array Value) : builtin .append #[30, 3] 30 cs args = appZ args := rfl
theorem front_zero (a : Option Addr) (l c : Nat) (W : World) : (frontG (.slice a l c) (.int .i64 0)).run Tryd.prog W = .ok (.slice a 0 c) W := by
  obtain ⟨i0, hi, hz0, hz1, hz2⟩ := info_parts infoG
  unfold frontG
  simp [Instr.slice, Instr.sliceBounds, Instr.sliceBound, asIntOf, run_underlying Tryd.underlying30, sizeOf, typeInfo, hi]
  intro _
  cases a <;> rfl
theorem appZ_run (W : World) (n : Nat) (h0 : 0 < n) (hn : n ≤ 1000000) : ∃ G C, n ≤ G ∧ G ≤ maxLen ∧ C.size = G * 2 ∧ (appZ #[.slice none 0 0, .int .i64 (n : Int)]).run Tryd.prog W = .ok (.value (.slice (some ⟨W.heap.size, 0, none⟩) n G)) (W.drew.alloc (.cells C 56)) := by
  obtain ⟨i0, hi, hz0, hz1, hz2⟩ := info_parts infoG
  have h := Lib.run_append_grow_zeros (P := Tryd.prog) W 30 3 30 56 i0 _ .i64 .i64 Tryd.underlying30 Tryd.underlying3 hi hz0 none 0 0 [] (run_firstCells_none _ _ _ _ _) n h0 (by rw [hz1]; decide) (by omega) (by omega) (by rw [hz2]; omega) (growslice_fits (by omega) (by rw [hz2]; omega))
  have hg := grownCap_ge W (0 + n) 0 56
  have hm := grownCap_le_maxLen W (0 + n) 0 56 (by unfold maxLen; omega)
  simp only [Nat.zero_add] at h hg hm
  have e : (Value.agg #[Value.int .i32 0, Value.int .u8 0]).cells = #[.int .i32 0, .int .u8 0] := rfl
  rw [e] at h
  obtain ⟨C, hC⟩ : ∃ C, ([] : List Value).toArray ++ Builtin.zeroCells #[Value.int .i32 0, .int .u8 0] n ++ Builtin.zeroCells #[Value.int .i32 0, .int .u8 0] (grownCap W n 0 56 - n) = C := ⟨_, rfl⟩
  rw [hC] at h
  refine ⟨grownCap W n 0 56, C, hg, hm, ?_, ?_⟩
  · rw [← hC]
    simp [Builtin.zeroCells]
    omega
  · unfold appZ
    simp only [Sem.run_bind, Sem.run_pure, Result.andThen_ok, h]
attribute [local go_sem ↓ high] slice_frontG builtin_appZ
set_option maxRecDepth 100000 in
set_option maxHeartbeats 1000000 in
theorem grow_nil (n : Nat) (hn : n ≤ 1000000) (w : World) :
    Calls Tryd.prog 84 #[.slice none 0 0, .int .i64 (n : Int)] w fun e w' => ∃ u, e = .returned u ∧ GOwn w.heap.size w' u [] ∧ Below w.heap.size w w' := by
  by_cases h0 : n = 0
  · subst h0
    go_enter Tryd.func84, Tryd.ntmps84
    go_wp2_with fail
    go_ret
    exact ⟨_, rfl, FOwn.nil _ _, Below.refl _ _⟩
  · have hp : (0 : Int) < (n : Int) := by omega
    have hn0 : (n : Int) ≤ 1000000 := by omega
    obtain ⟨G, C, hG, hGm, hC, k1⟩ := appZ_run w n (by omega) hn
    have f1 : ∀ W : World, (frontG (.slice none 0 0) (.int .i64 0)).run Tryd.prog W = .ok (.slice none 0 0) W := fun W => front_zero none 0 0 W
    have f2 : ∀ W : World, (frontG (.slice (some ⟨w.heap.size, 0, none⟩) n G) (.int .i64 0)).run Tryd.prog W = .ok (.slice (some ⟨w.heap.size, 0, none⟩) 0 G) W := fun W => front_zero _ n G W
    have HO : Hid (GOwn w.heap.size (w.drew.alloc (.cells C 56)) (.slice (some ⟨w.heap.size, 0, none⟩) 0 G) []) := Lib.hid (World.ownsRow_made w.drew C G (Nat.le_refl _) hGm hC)
    have HB := Lib.hid ((Below.refl w.heap.size w).drew.alloc (Nat.le_refl _) (.cells C 56))
    clear h0 hG hGm hC
    go_enter Tryd.func84, Tryd.ntmps84
    go_wp2_with fail
    go_ret
    exact ⟨_, rfl, HO.out, HB.out⟩
attribute [local go_sem ↓ high] builtin_appG
set_option maxRecDepth 100000 in
set_option maxHeartbeats 2000000 in
theorem concat3_any (a b c : List Gly) (v1 v2 v3 : Value) (g : Nat) (w : World) (c0 : w.cell? ⟨g, 0, none⟩ = some v1) (c1 : w.cell? ⟨g, 1, none⟩ = some v2) (c2 : w.cell? ⟨g, 2, none⟩ = some v3) (h1 : Gs w v1 a) (h2 : Gs w v2 b) (h3 : Gs w v3 c) (hl : a.length + b.length + c.length ≤ 400000) :
    Calls Tryd.prog 76 #[.slice (some ⟨g, 0, none⟩) 3 3] w fun e w' => ∃ u, e = .returned u ∧ GOwn w.heap.size w' u (a ++ b ++ c) ∧ Below w.heap.size w w' := by
  have H1 := Lib.hid h1
  have H2 := Lib.hid h2
  have H3 := Lib.hid h3
  obtain ⟨a1, k1, rfl⟩ := h1.len
  obtain ⟨a2, k2, rfl⟩ := h2.len
  obtain ⟨a3, k3, rfl⟩ := h3.len
  have hg := World.block_lt_of_cell? w _ c0
  simp only at hg
  have HG := Lib.hid (grow_nil (a.length + b.length + c.length) (by omega))
  have ha0 : (0 : Int) ≤ (a.length : Int) := by omega
  have ha1 : (a.length : Int) ≤ 400000 := by omega
  have hb0 : (0 : Int) ≤ (b.length : Int) := by omega
  have hb1 : (b.length : Int) ≤ 400000 := by omega
  have hc0 : (0 : Int) ≤ (c.length : Int) := by omega
  have hc1 : (c.length : Int) ≤ 400000 := by omega
  clear h1 h2 h3
  go_enter Tryd.func76, Tryd.ntmps76
  go_wp2_with fail
  go_loopw [3, 11] (fun s i wr => wr = w ∧ ((i = .int .i64 0 ∧ s = .int .i64 0) ∨ (i = .int .i64 1 ∧ s = .int .i64 (a.length : Int)) ∨ (i = .int .i64 2 ∧ s = .int .i64 ((a.length : Int) + (b.length : Int))) ∨ (i = .int .i64 3 ∧ s = .int .i64 ((a.length : Int) + (b.length : Int) + (c.length : Int))))) (fun _ i _ => 4 - (intOf i).toNat)
  case atStart => exact ⟨rfl, .inl ⟨rfl, rfl⟩⟩
  case round =>
    obtain ⟨rfl, hcase⟩ := hrel
    rcases hcase with ⟨rfl, rfl⟩ | ⟨rfl, rfl⟩ | ⟨rfl, rfl⟩ | ⟨rfl, rfl⟩
    · go_wp2_with fail
      go_roundw
      case rel => exact ⟨by first | trivial | rfl, .inr (.inl ⟨by first | trivial | rfl, by first | trivial | rfl⟩)⟩
      case measure => simp [intOf]
    · go_wp2_with fail
      go_roundw
      case rel => exact ⟨by first | trivial | rfl, .inr (.inr (.inl ⟨by first | trivial | rfl, by first | trivial | rfl⟩))⟩
      case measure => simp [intOf]
    · go_wp2_with fail
      go_roundw
      case rel => exact ⟨by first | trivial | rfl, .inr (.inr (.inr ⟨by first | trivial | rfl, by first | trivial | rfl⟩))⟩
      case measure => simp [intOf]
    · go_wp2_with fail
      refine (HG.out _).mono ?_
      rintro e w1 ⟨u, rfl, o1, b1⟩
      have z1 := b1.size
      have q0 := (b1.cell (p := ⟨g, 0, none⟩) hg).trans c0
      have q1 := (b1.cell (p := ⟨g, 1, none⟩) hg).trans c1
      have q2 := (b1.cell (p := ⟨g, 2, none⟩) hg).trans c2
      obtain ⟨x1, w2, j1, o2, g2, -⟩ := appG_own o1 (Fs.below H1.out b1) z1 (by simp; omega)
      rw [List.nil_append] at o2
      have b2 := o1.below b1 z1 g2
      obtain ⟨x2, w3, j2, o3, g3, -⟩ := appG_own o2 (Fs.below H2.out b2) b2.size (by omega)
      have b3 := o2.below b2 b2.size g3
      obtain ⟨x3, w4, j3, o4, g4, -⟩ := appG_own o3 (Fs.below H3.out b3) b3.size (by rw [List.length_append]; omega)
      have O4 := Lib.hid o4
      have B4 := Lib.hid (o3.below b3 b3.size g4)
      have r0 := (b2.cell (p := ⟨g, 0, none⟩) hg).trans c0
      have r1 := (b2.cell (p := ⟨g, 1, none⟩) hg).trans c1
      have r2 := (b2.cell (p := ⟨g, 2, none⟩) hg).trans c2
      have s0 := (b3.cell (p := ⟨g, 0, none⟩) hg).trans c0
      have s1 := (b3.cell (p := ⟨g, 1, none⟩) hg).trans c1
      have s2 := (b3.cell (p := ⟨g, 2, none⟩) hg).trans c2
      clear o1 b1 o2 g2 b2 o3 g3 o4 g4 b3 HG
      go_wp2_with fail
      go_loopw [6, 27] (fun s i wr => (i = .int .i64 0 ∧ s = u ∧ wr = w1) ∨ (i = .int .i64 1 ∧ s = x1 ∧ wr = w2) ∨ (i = .int .i64 2 ∧ s = x2 ∧ wr = w3) ∨ (i = .int .i64 3 ∧ s = x3 ∧ wr = w4)) (fun _ i _ => 4 - (intOf i).toNat)
      case atStart => exact .inl ⟨rfl, rfl, rfl⟩
      case round =>
        rcases hrel with ⟨rfl, rfl, rfl⟩ | ⟨rfl, rfl, rfl⟩ | ⟨rfl, rfl, rfl⟩ | ⟨rfl, rfl, rfl⟩
        · go_wp2_with fail
          go_roundw
          case rel => exact .inr (.inl ⟨by first | trivial | rfl, by first | trivial | rfl, by first | trivial | rfl⟩)
          case measure => simp [intOf]
        · go_wp2_with fail
          go_roundw
          case rel => exact .inr (.inr (.inl ⟨by first | trivial | rfl, by first | trivial | rfl, by first | trivial | rfl⟩))
          case measure => simp [intOf]
        · go_wp2_with fail
          go_roundw
          case rel => exact .inr (.inr (.inr ⟨by first | trivial | rfl, by first | trivial | rfl, by first | trivial | rfl⟩))
          case measure => simp [intOf]
        · go_wp2_with fail
          go_ret
          exact ⟨_, rfl, O4.out, B4.out⟩
theorem jn_nil' (a : List Gly) : jn a [] = a := by
  unfold jn
  split
  · rename_i h; rw [h]
  · rfl
set_option maxRecDepth 100000 in
set_option maxHeartbeats 2000000 in
theorem sjoin_any (a b : List Gly) (v u : Value) (w : World) (hv : Gs w v a) (hu : Gs w u b) (hl : a.length + b.length ≤ 100000) :
    Calls Tryd.prog 54 #[v, u] w fun e w' => ∃ x, e = .returned x ∧ GOwn w.heap.size w' x (jn a b) ∧ Below w.heap.size w w' := by
  obtain ⟨aa, ca, rfl⟩ := hv.len
  obtain ⟨ab, cb, rfl⟩ := hu.len
  by_cases ha : a = []
  · have e : jn a b = b := by rw [ha]; rfl
    rw [e]
    have HC := Lib.hid (cloneg_any b _ w hu (by omega))
    subst ha
    clear hv hu e
    simp only [List.length_nil]
    go_enter Tryd.func54, Tryd.ntmps54
    go_wp2_with fail
    refine HC.out.mono ?_
    rintro e w1 ⟨x, rfl, o1, b1⟩
    have O1 := Lib.hid o1
    have B1 := Lib.hid b1
    clear o1 b1 HC
    go_wp2_with fail
    go_ret
    exact ⟨_, rfl, O1.out, B1.out⟩
  · have hal : 0 < a.length := List.length_pos_iff.2 ha
    have ha0 : ¬ (a.length : Int) = 0 := by omega
    by_cases hb : b = []
    · have e : jn a b = a := by rw [hb]; exact jn_nil' a
      rw [e]
      have HC := Lib.hid (cloneg_any a _ w hv (by omega))
      subst hb
      clear hv hu e ha hal
      simp only [List.length_nil]
      go_enter Tryd.func54, Tryd.ntmps54
      go_wp2_with fail
      refine HC.out.mono ?_
      rintro e w1 ⟨x, rfl, o1, b1⟩
      have O1 := Lib.hid o1
      have B1 := Lib.hid b1
      clear o1 b1 HC
      go_wp2_with fail
      go_ret
      exact ⟨_, rfl, O1.out, B1.out⟩
    · have hbl : 0 < b.length := List.length_pos_iff.2 hb
      have hb0 : ¬ (b.length : Int) = 0 := by omega
      have e : jn a b = a ++ [(32, 0)] ++ b := by unfold jn; rw [if_neg ha, if_neg hb]
      rw [e]
      have bl := below_lit w (.cells #[.int .i32 32, .int .u8 0] 56)
      have g2 : Gs (w.alloc (.cells #[.int .i32 32, .int .u8 0] 56)) (.slice (some ⟨w.heap.size, 0, none⟩) 1 1) [(32, 0)] := fs_lit gcell_len w 56 [(32, 0)]
      have bl2 := below_lit (w.alloc (.cells #[.int .i32 32, .int .u8 0] 56)) (.cells #[.slice aa a.length ca, .slice (some ⟨w.heap.size, 0, none⟩) 1 1, .slice ab b.length cb] 30)
      have hbk : Blk ((w.alloc (.cells #[.int .i32 32, .int .u8 0] 56)).alloc (.cells #[.slice aa a.length ca, .slice (some ⟨w.heap.size, 0, none⟩) 1 1, .slice ab b.length cb] 30)) (w.heap.size + 1) 30 [.slice aa a.length ca, .slice (some ⟨w.heap.size, 0, none⟩) 1 1, .slice ab b.length cb] := blk_second w _ [.slice aa a.length ca, .slice (some ⟨w.heap.size, 0, none⟩) 1 1, .slice ab b.length cb] _
      have hb2 := below_two w (.cells #[.int .i32 32, .int .u8 0] 56) (.cells #[.slice aa a.length ca, .slice (some ⟨w.heap.size, 0, none⟩) 1 1, .slice ab b.length cb] 30)
      have HC := Lib.hid (concat3_any a [(32, 0)] b _ _ _ (w.heap.size + 1) _ (hbk.cell 0) (hbk.cell 1) (hbk.cell 2) (Fs.below hv hb2) (Fs.below g2 bl2) (Fs.below hu hb2) (by simp; omega))
      have HB := Lib.hid hb2
      clear hv hu e ha hal hb hbl bl g2 bl2 hbk hb2
      go_enter Tryd.func54, Tryd.ntmps54
      go_wp2_with fail
      refine HC.out.mono ?_
      rintro e w1 ⟨x, rfl, o1, b1⟩
      have O1 := Lib.hid (FOwn.mono (base' := w.heap.size) o1 HB.out.size)
      have B1 := Lib.hid (HB.out.trans (b1.mono HB.out.size))
      clear o1 b1 HC
      go_wp2_with fail
      go_ret
      exact ⟨_, rfl, O1.out, B1.out⟩
end Go.Proofs.YtpccjgoeoeehoaaDoor
