/- Cut; known() is true. known() is true. Trim, in the program and in the document's answer. The document's own answer for documents: a row squeezed; is it? The document's own answer for documents: side, in, stands, full. The document's own answer for documents: full. Texts, byte by byte; the document's own answer for documents: Right. Rows of rows that are made: whose blocks lie apart, by their types. The document's own answer for documents: Mend. The document's own answer for documents: Mend, the walk. The document's own answer for documents: what a node of a kind has of another one. The document's own answer for documents: own, the walk. -/
import Derived.Test.YtaeplneiicobgaaGreatDoorQ2
import Derived.Deep.RegionWith
import Derived.Deep.LoopGhost
set_option linter.unusedVariables false
set_option linter.unusedSimpArgs false
namespace Go.Proofs.YtaeplneiicobgaaGreatDoor
open Go.RowKit
attribute [local go_sem ↓ high] slice_frontG
end Go.Proofs.YtaeplneiicobgaaGreatDoor
namespace Go.Proofs.YtaeplneiicobgaaGreatDoor
open Go.RowKit
attribute [local go_sem ↓ high] slice_frontG
def kl : List Gly := [(97, 0), (19968, 0), (98, 0)]
end Go.Proofs.YtaeplneiicobgaaGreatDoor
namespace Go.Proofs.YtaeplneiicobgaaGreatDoor
open Go.RowKit
attribute [local go_sem ↓ high] slice_frontG
/-- How many glyphs a row has without the blanks at its end. -/
def trimN : List Gly → Nat
  | [] => 0
  | g :: l => if trimN l = 0 ∧ g.1 = 32 then 0 else trimN l + 1
theorem trimN_le : ∀ l : List Gly, trimN l ≤ l.length
  | [] => Nat.le_refl _
  | g :: l => by
    unfold trimN
    split
    · omega
    · have := trimN_le l; simp only [List.length_cons]; omega
theorem trimN_tail : ∀ (l : List Gly) (j : Nat) (g : Gly), trimN l ≤ j → l[j]? = some g → g.1 = 32
  | [], j, g, _, h => by simp at h
  | x :: l, 0, g, hj, h => by
    simp at h
    subst h
    unfold trimN at hj
    split at hj
    · rename_i hx; exact hx.2
    · omega
  | x :: l, j + 1, g, hj, h => by
    refine trimN_tail l j g ?_ (by simpa using h)
    unfold trimN at hj
    split at hj
    · rename_i hx; omega
    · omega
theorem trimN_last : ∀ (l : List Gly) (g : Gly), 0 < trimN l → l[trimN l - 1]? = some g → g.1 ≠ 32
  | [], g, h, _ => by simp [trimN] at h
  | x :: l, g, h, hg => by
    by_cases hx : trimN l = 0 ∧ x.1 = 32
    · have : trimN (x :: l) = 0 := by unfold trimN; rw [if_pos hx]
      omega
    · have e : trimN (x :: l) = trimN l + 1 := by conv => lhs; unfold trimN; rw [if_neg hx]
      rw [e] at hg
      by_cases h0 : trimN l = 0
      · rw [h0] at hg
        simp at hg
        subst hg
        exact fun h32 => hx ⟨h0, h32⟩
      · have e2 : trimN l + 1 - 1 = trimN l - 1 + 1 := by omega
        rw [e2] at hg
        exact trimN_last l g (by omega) (by simpa using hg)
/-- It is the one number that is so. -/
theorem trimN_unique {l : List Gly} {n : Nat} (hn : n ≤ l.length) (h1 : ∀ j g, n ≤ j → l[j]? = some g → g.1 = 32) (h2 : ∀ g, 0 < n → l[n - 1]? = some g → g.1 ≠ 32) : n = trimN l := by
  have hl := trimN_le l
  by_cases h : n < trimN l
  · exfalso
    have hlt : trimN l - 1 < l.length := by omega
    have hg : l[trimN l - 1]? = some l[trimN l - 1] := List.getElem?_eq_getElem hlt
    exact trimN_last l _ (by omega) hg (h1 _ _ (by omega) hg)
  · by_cases h' : trimN l < n
    · exfalso
      have hlt : n - 1 < l.length := by omega
      have hg : l[n - 1]? = some l[n - 1] := List.getElem?_eq_getElem hlt
      exact h2 _ (by omega) hg (trimN_tail l _ _ (by omega) hg)
    · omega
def trimL (l : List Gly) : List Gly := l.take (trimN l)
set_option maxRecDepth 100000 in
set_option maxHeartbeats 1000000 in
theorem rtrim_any (l : List Gly) (v : Value) (w : World) (hv : Gs w v l) (hl : l.length ≤ 100000) :
    Calls Tryz.prog 40 #[v] w fun e w' => ∃ u, e = .returned u ∧ Gs w' u (trimL l) ∧ w = w' := by
  have HV := Lib.hid hv
  obtain ⟨a, cap, rfl⟩ := hv.len
  clear hv
  go_enter Tryz.func40, Tryz.ntmps40
  go_wp2_with fail
  go_loopw [3] (fun s wr => ∃ n : Nat, n ≤ l.length ∧ s = .int .i64 n ∧ Hid (∀ j g, n ≤ j → l[j]? = some g → g.1 = 32) ∧ wr = w) (fun s _ => (intOf s).toNat)
  case atStart => exact ⟨l.length, Nat.le_refl _, rfl, Lib.hid (fun j g hj hg => by rw [List.getElem?_eq_none hj] at hg; cases hg), rfl⟩
  case round =>
    obtain ⟨n, hn, rfl, HB, rfl⟩ := hrel
    by_cases h0 : 0 < n
    · obtain ⟨m, rfl⟩ : ∃ m, n = m + 1 := ⟨n - 1, by omega⟩
      obtain ⟨z, hz⟩ : ∃ z, l[m]? = some z := ⟨l[m]'(by omega), List.getElem?_eq_getElem _⟩
      obtain ⟨g, off, rfl, c0, c1, -⟩ := Gs.at HV.out hz
      have hi0 : (m : Int) < (l.length : Int) := by omega
      have hi1 : (0 : Int) ≤ (m : Int) := by omega
      have HZ := Lib.hid hz
      clear hz c1
      by_cases h32 : z.1 = 32
      · have HN : Hid (∀ j g, m ≤ j → l[j]? = some g → g.1 = 32) := Lib.hid (fun j g hj hg => by
          by_cases e : j = m
          · subst e
            rw [HZ.out] at hg
            rw [← Option.some.inj hg]; exact h32
          · exact HB.out j g (by omega) hg)
        go_wp2_with fail
        go_roundw
        case rel => exact ⟨m, by omega, by go_num, HN, by first | trivial | rfl⟩
        case measure => (simp [intOf]; try omega)
      · have HN : Hid (m + 1 = trimN l) := Lib.hid (trimN_unique hn HB.out (fun g _ hg => by
          rw [show m + 1 - 1 = m from rfl, HZ.out] at hg
          rw [← Option.some.inj hg]; exact h32))
        obtain ⟨u1, f1, s1, -⟩ := frontG_run HV.out (m + 1) hn
        have f1' := f1
        simp only [Int.natCast_add, Int.natCast_one, Int.natCast_zero, Int.cast_ofNat_Int] at f1'
        have O1 : Hid (Gs wr u1 (trimL l)) := Lib.hid (by unfold trimL; rw [← HN.out]; exact s1)
        clear s1 f1
        go_wp2_with fail
        go_ret
        exact ⟨_, rfl, O1.out, rfl⟩
    · obtain rfl : n = 0 := by omega
      have HN : Hid (0 = trimN l) := Lib.hid (trimN_unique hn HB.out (fun g h _ => absurd h (by omega)))
      obtain ⟨u1, f1, s1, -⟩ := frontG_run HV.out 0 hn
      have f1' := f1
      simp only [Int.natCast_add, Int.natCast_one, Int.natCast_zero, Int.cast_ofNat_Int] at f1'
      have O1 : Hid (Gs wr u1 (trimL l)) := Lib.hid (by unfold trimL; rw [← HN.out]; exact s1)
      clear s1 f1
      go_wp2_with fail
      go_ret
      exact ⟨_, rfl, O1.out, rfl⟩
end Go.Proofs.YtaeplneiicobgaaGreatDoor
namespace Go.Proofs.YtaeplneiicobgaaGreatDoor
open Go.RowKit
theorem trm_trimL : ∀ l : List Gly, trimL l = trm l
  | [] => rfl
  | g :: l => by
    have ih := trm_trimL l
    have hn : trimN l = 0 ↔ trm l = [] := by
      rw [← ih]
      unfold trimL
      constructor
      · intro h; rw [h]; rfl
      · intro h
        have := trimN_le l
        have h2 : (l.take (trimN l)).length = 0 := by rw [h]; rfl
        rw [List.length_take] at h2
        omega
    unfold trimL
    rw [trm_cons]
    by_cases hc : trimN l = 0 ∧ g.1 = 32
    · have e : trimN (g :: l) = 0 := by unfold trimN; rw [if_pos hc]
      rw [e, if_pos ⟨hn.1 hc.1, hc.2⟩]
      rfl
    · have e : trimN (g :: l) = trimN l + 1 := by conv => lhs; unfold trimN; rw [if_neg hc]
      rw [e, if_neg (fun h => hc ⟨hn.2 h.1, h.2⟩)]
      show g :: l.take (trimN l) = g :: trm l
      rw [← ih]
      rfl
/-- Does what stands there end with no blank? -/
def lastNB (b : Bool) (l : List Gly) : Bool := match l.getLast? with
  | none => b
  | some g => g.1 != 32
theorem lastNB_cons (b : Bool) (g : Gly) (l : List Gly) : lastNB b (g :: l) = lastNB (g.1 != 32) l := by
  unfold lastNB
  cases l with
  | nil => rfl
  | cons x l =>
    rw [List.getLast?_cons_cons]
    cases h : (x :: l).getLast? with
    | none => simp at h
    | some y => rfl
theorem sqA_app : ∀ (b : Bool) (P Q : List Gly), sqA b (P ++ Q) = sqA b P ++ sqA (lastNB b (sqA b P)) Q
  | b, [], Q => rfl
  | b, g :: P, Q => by
    rw [List.cons_append]
    by_cases hg : g.1 = 32
    · rw [sqA_blank b hg, sqA_blank b hg]
      cases b
      · simpa using sqA_app false P Q
      · rw [if_pos rfl, if_pos rfl, sqA_app false P Q, lastNB_cons]
        rfl
    · rw [sqA_other b hg, sqA_other b hg, sqA_app true P Q, lastNB_cons]
      have e : (g.1 != 32) = true := by simpa using hg
      rw [e]
      rfl
theorem sq_next {l : List Gly} {j : Nat} {g : Gly} (h : l[j]? = some g) : sqA false (l.take (j + 1)) = sqA false (l.take j) ++ (if g.1 = 32 then (if lastNB false (sqA false (l.take j)) then [(32, 0)] else []) else [g]) := by
  rw [List.take_add_one, h, sqA_app]
  simp only [Option.toList_some]
  by_cases hg : g.1 = 32
  · rw [sqA_blank _ hg, if_pos hg]
    rfl
  · rw [sqA_other _ hg, if_neg hg]
    rfl
theorem gpush {base : Nat} {W : World} {x : Value} {l : List Gly} (h : GOwn base W x l) (hb : base ≤ W.heap.size) (hl : l.length ≤ 500000) (r s : Int) :
    ∃ a' c' w', (appG #[x, .slice (some ⟨W.heap.size, 0, none⟩) 1 1]).run Tryz.prog (W.alloc (.cells #[.int .i32 r, .int .u8 s] 43)) = .ok (.value (.slice a' (l.length + 1) c')) w' ∧ GOwn base w' (.slice a' (l.length + 1) c') (l ++ [(r, s)]) ∧ Below base W w' := by
  have b1 := below_lit W (.cells #[.int .i32 r, .int .u8 s] 43)
  have hu : Gs (W.alloc (.cells #[.int .i32 r, .int .u8 s] 43)) (.slice (some ⟨W.heap.size, 0, none⟩) 1 1) [(r, s)] := fs_lit gcell_len W 43 [(r, s)]
  obtain ⟨x', w', hr, ho, hg, -⟩ := appG_own (h.keep b1) hu (Nat.le_trans hb b1.size) (by simp; omega)
  obtain ⟨a', c', e⟩ := (FOwn.sl gcell_len ho).len
  have hbel := (h.keep b1).below (b1.mono hb) (Nat.le_trans hb b1.size) hg
  have e2 : (l ++ [(r, s)]).length = l.length + 1 := by simp
  rw [e2] at e
  subst e
  exact ⟨a', c', w', hr, ho, hbel⟩
attribute [local go_sem ↓ high] builtin_appG
set_option maxRecDepth 100000 in
set_option maxHeartbeats 2000000 in
theorem rsqueeze_any (l : List Gly) (v : Value) (w : World) (hv : Gs w v l) (hl : l.length ≤ 90000) :
    Calls Tryz.prog 21 #[v] w fun e w' => ∃ u, e = .returned u ∧ GOwn w.heap.size w' u (sqz l) ∧ Below w.heap.size w w' := by
  have HT := Lib.hid (rtrim_any l v w hv (by omega))
  rw [trm_trimL] at HT
  have htl := trm_len l
  unfold sqz
  obtain ⟨t, ht⟩ : ∃ t, trm l = t := ⟨_, rfl⟩
  rw [ht] at HT htl ⊢
  clear ht hv
  go_enter Tryz.func21, Tryz.ntmps21
  go_wp2_with fail
  refine HT.out.mono ?_
  rintro e w1 ⟨u, rfl, hu, hw1⟩
  subst hw1
  have HU := Lib.hid hu
  obtain ⟨ua, uc, rfl⟩ := hu.len
  clear HT hu
  go_wp2_with fail
  go_loopw [3, 4] (fun s i wr => ∃ j : Nat, j ≤ t.length ∧ i = .int .i64 j ∧ Hid (GOwn w.heap.size wr s (sqA false (t.take j))) ∧ Hid (Below w.heap.size w wr)) (fun _ i _ => t.length - (intOf i).toNat)
  case atStart => exact ⟨0, by omega, rfl, Lib.hid (FOwn.nil _ _), Lib.hid (Below.refl _ _)⟩
  case round =>
    obtain ⟨j, hj, rfl, HO, BW⟩ := hrel
    have hsl := sqA_len false (t.take j)
    rw [List.length_take] at hsl
    obtain ⟨sa, sc, hs⟩ := (FOwn.sl gcell_len HO.out).len
    subst hs
    by_cases hlt : j < t.length
    · obtain ⟨z, hz⟩ : ∃ z, t[j]? = some z := ⟨t[j], List.getElem?_eq_getElem hlt⟩
      have HN := Lib.hid (sq_next hz)
      obtain ⟨O, hO⟩ : ∃ O, sqA false (t.take j) = O := ⟨_, rfl⟩
      rw [hO] at HO HN hsl ⊢
      obtain ⟨g, off, rfl, c0, c1, -⟩ := Gs.at (Fs.below HU.out BW.out) hz
      have hi0 : (j : Int) < (t.length : Int) := by omega
      have hi1 : (0 : Int) ≤ (j : Int) := by omega
      obtain ⟨z0, z1⟩ := z
      simp only at c0 c1 HN
      clear hz hO
      by_cases h32 : z0 = 32
      · subst h32
        rw [if_pos rfl] at HN
        rcases List.eq_nil_or_concat O with rfl | ⟨O', y, hOy⟩
        · have HN2 : Hid (sqA false (t.take (j + 1)) = []) := Lib.hid (by rw [HN.out]; rfl)
          clear HN
          go_wp2_with fail
          go_roundw
          case rel => exact ⟨j + 1, by omega, by go_num, by rw [HN2.out]; exact HO, BW⟩
          case measure => (simp [intOf]; try omega)
        · rw [List.concat_eq_append] at hOy
          have hOl : O.length = O'.length + 1 := by rw [hOy]; simp
          have hlast : O[O'.length]? = some y := by rw [hOy]; simp
          have hnb : lastNB false O = (y.1 != 32) := by rw [hOy]; simp [lastNB]
          rw [hnb] at HN
          obtain ⟨gs, os, hsa, d0, d1, -⟩ := Gs.at (FOwn.sl gcell_len HO.out) hlast
          subst hsa
          have w1 : IntKind.i64.wrap ((O.length : Int) - 1) = (O'.length : Int) := by rw [IntWalk.i64_in _ (by omega)]; omega
          have p0 : (0 : Int) < (O.length : Int) := by omega
          have p1 : (O'.length : Int) < (O.length : Int) := by omega
          have p2 : (0 : Int) ≤ (O'.length : Int) := by omega
          obtain ⟨n, hn⟩ : ∃ n, O.length = n := ⟨_, rfl⟩
          obtain ⟨n', hn'⟩ : ∃ n, O'.length = n := ⟨_, rfl⟩
          obtain ⟨a', c', W', hr, ho, hb⟩ := gpush HO.out BW.out.size (by omega) 32 0
          rw [hn] at hr p0 p1 w1 ho hsl ⊢
          rw [hn'] at w1 p1 p2 d0 d1
          obtain ⟨y0, y1⟩ := y
          simp only at d0 d1 HN
          clear d1 hlast hnb hOy hOl
          by_cases hy : y0 = 32
          · have HN2 : Hid (sqA false (t.take (j + 1)) = O) := Lib.hid (by rw [HN.out, hy]; simp)
            subst hy
            clear HN hr ho hb
            go_wp2_with fail
            go_roundw
            case rel => exact ⟨j + 1, by omega, by go_num, by rw [HN2.out]; exact hn ▸ HO, BW⟩
            case measure => (simp [intOf]; try omega)
          · have HN2 : Hid (sqA false (t.take (j + 1)) = O ++ [(32, 0)]) := Lib.hid (by
              rw [HN.out]
              have : (y0 != 32) = true := by simpa using hy
              rw [this]; rfl)
            have H2 := Lib.hid ho
            have B2 := Lib.hid (BW.out.trans hb)
            clear HN ho hb hn hn'
            go_wp2_with fail
            go_roundw
            case rel => exact ⟨j + 1, by omega, by go_num, by rw [HN2.out]; exact H2, B2⟩
            case measure => (simp [intOf]; try omega)
      · rw [if_neg h32] at HN
        obtain ⟨a', c', W', hr, ho, hb⟩ := gpush HO.out BW.out.size (by omega) z0 z1
        have H2 := Lib.hid ho
        have B2 := Lib.hid (BW.out.trans hb)
        clear ho hb
        go_wp2_with fail
        go_roundw
        case rel => exact ⟨j + 1, by omega, by go_num, by rw [HN.out]; exact H2, B2⟩
        case measure => (simp [intOf]; try omega)
    · obtain rfl : j = t.length := by omega
      have hlt' : ¬ (t.length : Int) < (t.length : Int) := by omega
      rw [List.take_length] at HO ⊢
      go_wp2_with fail
      go_ret
      exact ⟨_, rfl, HO.out, BW.out⟩
end Go.Proofs.YtaeplneiicobgaaGreatDoor
namespace Go.Proofs.YtaeplneiicobgaaGreatDoor
open Go.RowKit
set_option maxHeartbeats 1000000 in
theorem rside_any (c : UInt8) (w : World) : Calls Tryz.prog 20 #[.int .u8 (c.toNat : Int)] w fun e w' => e = .returned (.bool (side c)) ∧ w' = w := by
  have HP : Hid (side c = (((c.toNat : Int) == 108) || ((c.toNat : Int) == 99) || ((c.toNat : Int) == 114))) := Lib.hid (by
    have key : ∀ n : Nat, n < 256 → ((c == UInt8.ofNat n) = ((c.toNat : Int) == (n : Int))) := fun n hn => by
      apply bool_of_iff
      simp only [beq_iff_eq]
      constructor
      · rintro rfl
        simp [UInt8.toNat_ofNat', Nat.mod_eq_of_lt hn]
      · intro h
        apply UInt8.toNat_inj.1
        rw [UInt8.toNat_ofNat', Nat.mod_eq_of_lt hn]
        omega
    have k1 := key 108 (by decide)
    have k2 := key 99 (by decide)
    have k3 := key 114 (by decide)
    unfold side
    rw [← show ((108 : Nat) : Int) = 108 from rfl, ← show ((99 : Nat) : Int) = 99 from rfl, ← show ((114 : Nat) : Int) = 114 from rfl, ← k1, ← k2, ← k3]
    rfl)
  obtain ⟨q1, hq1⟩ : ∃ q, ((c.toNat : Int) == 108) = q := ⟨_, rfl⟩
  obtain ⟨q2, hq2⟩ : ∃ q, ((c.toNat : Int) == 99) = q := ⟨_, rfl⟩
  obtain ⟨q3, hq3⟩ : ∃ q, ((c.toNat : Int) == 114) = q := ⟨_, rfl⟩
  rw [hq1, hq2, hq3] at HP
  generalize (c.toNat : Int) = x at hq1 hq2 hq3
  rw [HP.out]
  go_enter Tryz.func20, Tryz.ntmps20
  cases q1
  · cases q2
    · go_wp2_with fail
      go_ret
      exact ⟨ret_bool (by simp), rfl⟩
    · go_wp2_with fail
      go_ret
      exact ⟨ret_bool (by simp), rfl⟩
  · go_wp2_with fail
    go_ret
    exact ⟨ret_bool (by simp), rfl⟩
end Go.Proofs.YtaeplneiicobgaaGreatDoor
namespace Go.Proofs.YtaeplneiicobgaaGreatDoor
open Go.RowKit
end Go.Proofs.YtaeplneiicobgaaGreatDoor
namespace Go.Proofs.YtaeplneiicobgaaGreatDoor
open Go.RowKit
theorem strX_idx (b : List UInt8) (i : Nat) (x : UInt8) (h : b[i]? = some x) (w : World) : (Instr.index 9 (.string ⟨b.toArray⟩) (.int .i64 (i : Int))).run Tryz.prog w = .ok (.int .u8 (x.toNat : Int)) w := by
  obtain ⟨hi, hx⟩ := List.getElem?_eq_some_iff.1 h
  have hsz := bsz b
  rw [run_index_string w 9 _ .i64 (i : Int) Tryz.underlying9, dif_pos ⟨by omega, by rw [hsz]; omega⟩]
  have e : (⟨b.toArray⟩ : ByteArray)[((i : Int)).toNat]'(by rw [hsz]; omega) = x := by
    show b.toArray[((i : Int)).toNat]'_ = x
    simp only [Int.toNat_natCast, List.getElem_toArray]
    exact hx
  rw [e]
theorem strX_mid (b : List UInt8) (i j : Nat) (hi : i ≤ j) (h : j ≤ b.length) (w : World) : (Instr.slice 9 (.string ⟨b.toArray⟩) (some (.int .i64 (i : Int))) (some (.int .i64 (j : Int))) none).run Tryz.prog w = .ok (.string ⟨((b.drop i).take (j - i)).toArray⟩) w := by
  have hsz := bsz b
  rw [run_slice_string w 9 _ .i64 .i64 (i : Int) (j : Int) Tryz.underlying9 (by omega) (by omega) (by rw [hsz]; omega), ByteArray.extract_mk]
  simp only [Int.toNat_natCast]
theorem catX_str (a c : List UInt8) : (⟨a.toArray⟩ : ByteArray) ++ ⟨c.toArray⟩ = ⟨(a ++ c).toArray⟩ := by
  apply ByteArray.ext
  simp
noncomputable def addX (a c : Value) : Sem Value := binOp .add 9 a c
theorem binop_addX (a c : Value) : binOp .add 9 a c = addX a c := rfl
theorem strX_add (a c : List UInt8) (h : a.length + c.length ≤ 100000000) (W : World) : (addX (.string ⟨a.toArray⟩) (.string ⟨c.toArray⟩)).run Tryz.prog W = .ok (.string ⟨(a ++ c).toArray⟩) W := by
  unfold addX
  have ha := bsz a
  have hc := bsz c
  rw [binOp_string_add]
  simp [Op.stringOp, catX_str, ha, hc, maxLen]
  omega
theorem all_next {α : Type} {l : List α} {j : Nat} {x : α} {P : α → Bool} (h : (l.take j).all P = true) (hx : l[j]? = some x) (hP : P x = true) : (l.take (j + 1)).all P = true := by
  rw [List.take_add_one, hx]
  simp only [Option.toList_some, List.all_append, h, Bool.true_and, List.all_cons, hP, List.all_nil]
theorem all_not {α : Type} {l : List α} {j : Nat} {x : α} {P : α → Bool} (hx : l[j]? = some x) (hP : P x = false) : l.all P = false := by
  rw [Bool.eq_false_iff]
  intro h
  have := List.all_eq_true.1 h x (List.mem_iff_getElem?.2 ⟨j, hx⟩)
  rw [hP] at this
  cases this
end Go.Proofs.YtaeplneiicobgaaGreatDoor
namespace Go.Proofs.YtaeplneiicobgaaGreatDoor
open Go.RowKit
/-- Blocks of elements of type e, from base on, stand as they stood. -/
def SamT (e : TypeId) (base : Nat) (W W' : World) : Prop := ∀ g cur fz, base ≤ g → W.heap[g]? = some (.cells cur e fz) → W'.heap[g]? = some (.cells cur e fz)
theorem SamT.trans {e : TypeId} {base : Nat} {a b c : World} (h : SamT e base a b) (k : SamT e base b c) : SamT e base a c := fun g cur fz hb hg => k g cur fz hb (h g cur fz hb hg)
theorem SamT.below {e : TypeId} {base : Nat} {W W' : World} (h : Below W.heap.size W W') : SamT e base W W' := fun g _ _ _ hg => (h.block g (Array.getElem?_eq_some_iff.1 hg).1).trans hg
theorem SamT.grown {e e' : TypeId} {base : Nat} {W W' : World} {row : Option Nat} (h : W.grownBy W' row) (hr : ∀ g, row = some g → ∃ cur fz, W.heap[g]? = some (.cells cur e' fz)) (he : e ≠ e') : SamT e base W W' := by
  intro g cur fz _ hg
  rw [h.block g (Array.getElem?_eq_some_iff.1 hg).1 (fun e2 => by
    obtain ⟨cur', fz', h2⟩ := hr g e2.symm
    rw [hg] at h2
    injection h2 with h2
    injection h2 with _ h3
    exact he h3)]
  exact hg
theorem SamT.set {e e' : TypeId} {base g : Nat} {W : World} {L : List Value} (hb : Blk W g e' L) (he : e ≠ e') (j : Nat) (v : Value) : SamT e base W (W.setCell ⟨g, j, none⟩ v) := by
  intro g2 cur fz _ hg
  have hne : g2 ≠ g := fun e2 => by
    rw [e2] at hg
    have h1 : W.heap[g]? = some (.cells L.toArray e' (0, 0)) := hb
    rw [h1] at hg
    injection hg with hg
    injection hg with _ h3
    exact he h3.symm
  rw [Below.heap_setCell _ _ _ _ (fun e2 => hne e2)]
  exact hg
theorem FOwn.sam {α : Type} {e n : Nat} {f : α → List Value} {base : Nat} {W W' : World} {x : Value} {l : List α} (h : FOwn e n f base W x l) (hs : SamT e base W W') : FOwn e n f base W' x l := by
  refine ⟨h.1, ?_⟩
  rcases h.2 with hn | ⟨g, cap, cur, hx, hb, hgg, rest⟩
  · exact .inl hn
  · exact .inr ⟨g, cap, cur, hx, hb, hs g cur _ hb hgg, rest⟩
/-- One more, behind a row of one's own. -/
theorem fpush {α : Type} {P : Program} {W : World} {base t e n bytes : Nat} {f : α → List Value} {i0 : TypeInfo} {z : Value} (hf : ∀ x, (f x).length = n) (h1 : ∀ x, ∀ u ∈ f x, u.oneCell' = true) (hn : 0 < n)
    (ht : P.underlying t = some (.slice e)) (hi : P.info? e = some i0) (hz0 : i0.zero = some z) (hz1 : i0.size = n) (hz2 : i0.bytes = bytes) (hzs : z.cells.size = n) (hbt : bytes ≤ 1000)
    {x : Value} {l : List α} (h : FOwn e n f base W x l) (hb : base ≤ W.heap.size) (hl : l.length ≤ 500000) (y : α) :
    ∃ a' c' w', (Builtin.append_ #[t, t] t #[x, .slice (some ⟨W.heap.size, 0, none⟩) 1 1]).run P (W.alloc (.cells (f y).toArray e)) = .ok (.slice a' (l.length + 1) c') w' ∧ FOwn e n f base w' (.slice a' (l.length + 1) c') (l ++ [y]) ∧
      (W.alloc (.cells (f y).toArray e)).grownBy w' x.ownBlock ∧ (∀ g, x.ownBlock = some g → ∃ cur fz, (W.alloc (.cells (f y).toArray e)).heap[g]? = some (.cells cur e fz)) := by
  have b1 := below_lit W (.cells (f y).toArray e)
  have hu : Fs n f (W.alloc (.cells (f y).toArray e)) (.slice (some ⟨W.heap.size, 0, none⟩) 1 1) [y] := by
    have := fs_lit hf W e [y]
    rw [flatV_one] at this
    exact this
  obtain ⟨x', w', hr, ho, hg, -⟩ := fapp hf h1 hn ht hi hz0 hz1 hz2 hzs hbt (h.keep b1) hu (Nat.le_trans hb b1.size) (by simp; omega)
  obtain ⟨a', c', e'⟩ := (FOwn.sl hf ho).len
  have e2 : (l ++ [y]).length = l.length + 1 := by simp
  rw [e2] at e'
  subst e'
  refine ⟨a', c', w', hr, ho, hg, fun g hg' => ?_⟩
  obtain ⟨-, cur, hc⟩ := (h.keep b1).ty hg'
  exact ⟨cur, _, hc⟩
theorem infoSG : (Tryz.prog.info? 26).map (fun i => (i.zero, i.size, i.bytes)) = some (some (.slice none 0 0), 1, 24) := by kernel_rfl
theorem infoTR : (Tryz.prog.info? 41).map (fun i => (i.zero, i.size, i.bytes)) = some (some (.agg #[.bool false, .slice none 0 0]), 2, 32) := by kernel_rfl
noncomputable def appP (args : Array Value) : Sem Next := do pure (.value (← Builtin.append_ #[28, 28] 28 args))
theorem builtin_appP (cs : Array Bool) (args : Array Value) : builtin .append #[28, 28] 28 cs args = appP args := rfl
noncomputable def appW (args : Array Value) : Sem Next := do pure (.value (← Builtin.append_ #[22, 22] 22 args))
theorem builtin_appW (cs : Array Bool) (args : Array Value) : builtin .append #[22, 22] 22 cs args = appW args := rfl
/-- Cells that are made: a row of one's own, of rows of one's own. -/
structure CInv (base : Nat) (W : World) (v : Value) (l : List (List Gly)) : Prop where
  own : ∃ (L : List PV) (S : Nat → Prop), FOwn 26 1 pcell base W v L ∧ L.length = l.length ∧ (∀ b, S b → base ≤ b ∧ ∃ cur fz, W.heap[b]? = some (.cells cur 43 fz)) ∧
    ∀ (i : Nat) s r, L[i]? = some s → l[i]? = some r → FsS S 2 gcell W (pv s) r
theorem CInv.nil (base : Nat) (W : World) : CInv base W (.slice none 0 0) [] := ⟨⟨[], fun _ => False, FOwn.nil _ _, rfl, fun _ h => h.elim, fun i s r h => by simp at h⟩⟩
theorem CInv.sam {base : Nat} {W W' : World} {v : Value} {l : List (List Gly)} (h : CInv base W v l) (h1 : SamT 26 base W W') (h2 : SamT 43 base W W') : CInv base W' v l := by
  obtain ⟨L, S, hL, hl, hS, hE⟩ := h.own
  have hk : Kp S W W' := fun b hb => by
    obtain ⟨q1, cur, fz, q2⟩ := hS b hb
    rw [h2 b cur fz q1 q2, q2]
  exact ⟨⟨L, S, hL.sam h1, hl, fun b hb => by
    obtain ⟨q1, cur, fz, q2⟩ := hS b hb
    exact ⟨q1, cur, fz, h2 b cur fz q1 q2⟩, fun i s r a b => (hE i s r a b).keep hk⟩⟩
theorem CInv.keep {base : Nat} {W W' : World} {v : Value} {l : List (List Gly)} (h : CInv base W v l) (hb : Below W.heap.size W W') : CInv base W' v l := h.sam (SamT.below hb) (SamT.below hb)
theorem CInv.len {base : Nat} {W : World} {v : Value} {l : List (List Gly)} (h : CInv base W v l) : ∃ a cap, v = .slice a l.length cap := by
  obtain ⟨L, S, hL, hl, -, -⟩ := h.own
  obtain ⟨a, cap, e⟩ := (FOwn.sl pcell_len hL).len
  exact ⟨a, cap, hl ▸ e⟩
/-- As it reads. -/
theorem own_foot {α : Type} {e n : Nat} {f : α → List Value} {base : Nat} {W : World} {x : Value} {l : List α} (hf : ∀ x, (f x).length = n) (h : FOwn e n f base W x l) : FsS (fun b => base ≤ b ∧ ∃ cur fz, W.heap[b]? = some (.cells cur e fz)) n f W x l := by
  refine ⟨FOwn.sl hf h, fun a k c e1 hk => ?_⟩
  subst e1
  rcases h.2 with ⟨hn, -⟩ | ⟨g, cap, cur, hx, hb, hgg, -⟩
  · injection hn with e1 e2 e3
    cases e1
  · injection hx with e1 e2 e3
    injection e1 with e1
    subst e1
    exact ⟨⟨hb, cur, _, hgg⟩, fun _ i _ => by simp [World.frozen?, hgg]⟩
theorem CInv.grs {base : Nat} {W : World} {v : Value} {l : List (List Gly)} (h : CInv base W v l) :
    GrS (fun b => base ≤ b ∧ ∃ cur e fz, W.heap[b]? = some (.cells cur e fz) ∧ (e = 26 ∨ e = 43)) W v l := by
  obtain ⟨L, S, hL, hl, hS, hE⟩ := h.own
  refine ⟨L, hl, (own_foot pcell_len hL).mono fun b hb => ?_, fun i s r a b => (hE i s r a b).mono fun x hx => ?_⟩
  · obtain ⟨q1, cur, fz, q2⟩ := hb
    exact ⟨q1, cur, _, fz, q2, .inl rfl⟩
  · obtain ⟨q1, cur, fz, q2⟩ := hS x hx
    exact ⟨q1, cur, _, fz, q2, .inr rfl⟩
/-- A cell more. -/
theorem CInv.push {base : Nat} {W : World} {v : Value} {l : List (List Gly)} (h : CInv base W v l) (hb : base ≤ W.heap.size) (hl : l.length ≤ 500000) (s : PV) (r : List Gly) (hs : FsS (fun b => base ≤ b ∧ ∃ cur fz, W.heap[b]? = some (.cells cur 43 fz)) 2 gcell W (pv s) r) :
    ∃ a' c' w', (appP #[v, .slice (some ⟨W.heap.size, 0, none⟩) 1 1]).run Tryz.prog (W.alloc (.cells #[pv s] 26)) = .ok (.value (.slice a' (l.length + 1) c')) w' ∧ CInv base w' (.slice a' (l.length + 1) c') (l ++ [r]) ∧ Below base W w' ∧
      ∀ e, e ≠ 26 → SamT e base W w' := by
  obtain ⟨L, S, hL, hLl, hS, hE⟩ := h.own
  obtain ⟨i0, hi, hz0, hz1, hz2⟩ := info_parts infoSG
  obtain ⟨a', c', w', hr, ho, hg, hty⟩ := fpush (P := Tryz.prog) (t := 28) pcell_len pcell_one (by decide) Tryz.underlying28 hi hz0 hz1 hz2 rfl (by decide) hL hb (by omega) s
  have b1 := below_lit W (.cells (pcell s).toArray 26)
  have sam : ∀ e, e ≠ 26 → SamT e base W w' := fun e he => (SamT.below b1).trans (SamT.grown hg hty he)
  have sg := sam 43 (by decide)
  have kpw : ∀ (T : Nat → Prop), (∀ b, T b → base ≤ b ∧ ∃ cur fz, W.heap[b]? = some (.cells cur 43 fz)) → Kp T W w' ∧ ∀ b, T b → base ≤ b ∧ ∃ cur fz, w'.heap[b]? = some (.cells cur 43 fz) := fun T hT =>
    ⟨fun b hb => by
      obtain ⟨q1, cur, fz, q2⟩ := hT b hb
      rw [sg b cur fz q1 q2, q2], fun b hb => by
      obtain ⟨q1, cur, fz, q2⟩ := hT b hb
      exact ⟨q1, cur, fz, sg b cur fz q1 q2⟩⟩
  obtain ⟨k1, t1⟩ := kpw S hS
  obtain ⟨k2, t2⟩ := kpw _ (fun b hb => hb)
  rw [hLl] at hr ho
  refine ⟨a', c', w', ?_, ⟨⟨L ++ [s], fun b => S b ∨ (base ≤ b ∧ ∃ cur fz, W.heap[b]? = some (.cells cur 43 fz)), ho, by simp [hLl], fun b hb => ?_, fun i x y hx hy => ?_⟩⟩, ?_, sam⟩
  · unfold appP
    simp only [Sem.run_bind, Sem.run_pure, Result.andThen_ok]
    rw [show (#[pv s] : Array Value) = (pcell s).toArray from rfl, hr]
    rfl
  · rcases hb with hb | hb
    · exact t1 b hb
    · exact t2 b hb
  · by_cases hil : i < l.length
    · rw [List.getElem?_append_left (by omega)] at hx hy
      exact ((hE i x y hx hy).keep k1).mono fun b hb => .inl hb
    · have : i = l.length := by
        have := (List.getElem?_eq_some_iff.1 hy).1
        simp at this
        omega
      subst this
      rw [List.getElem?_append_right (by omega), hLl, Nat.sub_self] at hx
      rw [List.getElem?_append_right (by omega), Nat.sub_self] at hy
      simp at hx hy
      subst hx hy
      exact (hs.keep k2).mono fun b hb => .inr hb
  · exact (hL.keep b1).below (b1.mono hb) (Nat.le_trans hb b1.size) hg
/-- Rows of a table that are made. -/
structure WInv (base : Nat) (W : World) (v : Value) (l : List Trow) : Prop where
  own : ∃ (L : List (Bool × PV)) (S : Nat → Prop), FOwn 41 2 trcell base W v L ∧ L.length = l.length ∧ (∀ b, S b → base ≤ b ∧ ∃ cur e fz, W.heap[b]? = some (.cells cur e fz) ∧ (e = 26 ∨ e = 43)) ∧
    ∀ (i : Nat) s r, L[i]? = some s → l[i]? = some r → s.1 = r.1 ∧ GrS S W (pv s.2) r.2
theorem WInv.nil (base : Nat) (W : World) : WInv base W (.slice none 0 0) [] := ⟨⟨[], fun _ => False, FOwn.nil _ _, rfl, fun _ h => h.elim, fun i s r h => by simp at h⟩⟩
theorem WInv.len {base : Nat} {W : World} {v : Value} {l : List Trow} (h : WInv base W v l) : ∃ a cap, v = .slice a l.length cap := by
  obtain ⟨L, S, hL, hl, -, -⟩ := h.own
  obtain ⟨a, cap, e⟩ := (FOwn.sl trcell_len hL).len
  exact ⟨a, cap, hl ▸ e⟩
theorem kp_two {base : Nat} {W W' : World} {S : Nat → Prop} (hS : ∀ b, S b → base ≤ b ∧ ∃ cur e fz, W.heap[b]? = some (.cells cur e fz) ∧ (e = 26 ∨ e = 43)) (h1 : SamT 26 base W W') (h2 : SamT 43 base W W') :
    Kp S W W' ∧ ∀ b, S b → base ≤ b ∧ ∃ cur e fz, W'.heap[b]? = some (.cells cur e fz) ∧ (e = 26 ∨ e = 43) := by
  have key : ∀ b, S b → W'.heap[b]? = W.heap[b]? := fun b hb => by
    obtain ⟨q1, cur, e, fz, q2, q3⟩ := hS b hb
    rcases q3 with rfl | rfl
    · rw [h1 b cur fz q1 q2, q2]
    · rw [h2 b cur fz q1 q2, q2]
  refine ⟨key, fun b hb => ?_⟩
  obtain ⟨q1, cur, e, fz, q2, q3⟩ := hS b hb
  exact ⟨q1, cur, e, fz, by rw [key b hb, q2], q3⟩
/-- What holds besides its own block's being kept. -/
theorem WInv.held {base : Nat} {W W' : World} {v : Value} {l : List Trow} (h : WInv base W v l) (ho : ∀ L, FOwn 41 2 trcell base W v L → FOwn 41 2 trcell base W' v L) (h1 : SamT 26 base W W') (h2 : SamT 43 base W W') : WInv base W' v l := by
  obtain ⟨L, S, hL, hl, hS, hE⟩ := h.own
  obtain ⟨k1, t1⟩ := kp_two hS h1 h2
  exact ⟨⟨L, S, ho L hL, hl, t1, fun i s r a b => ⟨(hE i s r a b).1, (hE i s r a b).2.keep k1⟩⟩⟩
theorem WInv.sam {base : Nat} {W W' : World} {v : Value} {l : List Trow} (h : WInv base W v l) (h0 : SamT 41 base W W') (h1 : SamT 26 base W W') (h2 : SamT 43 base W W') : WInv base W' v l := h.held (fun L hL => hL.sam h0) h1 h2
theorem WInv.keep {base : Nat} {W W' : World} {v : Value} {l : List Trow} (h : WInv base W v l) (hb : Below W.heap.size W W') : WInv base W' v l := h.sam (SamT.below hb) (SamT.below hb) (SamT.below hb)
theorem WInv.trs {base : Nat} {W : World} {v : Value} {l : List Trow} (h : WInv base W v l) : TrS (fun b => base ≤ b ∧ b < W.heap.size) W v l := by
  obtain ⟨L, S, hL, hl, hS, hE⟩ := h.own
  refine ⟨L, hl, (own_foot trcell_len hL).mono fun b hb => ?_, fun i s r a b => ⟨(hE i s r a b).1, (hE i s r a b).2.mono fun x hx => ?_⟩⟩
  · obtain ⟨q1, cur, fz, q2⟩ := hb
    exact ⟨q1, (Array.getElem?_eq_some_iff.1 q2).1⟩
  · obtain ⟨q1, cur, e, fz, q2, -⟩ := hS x hx
    exact ⟨q1, (Array.getElem?_eq_some_iff.1 q2).1⟩
/-- A row more. -/
theorem WInv.push {base : Nat} {W : World} {v : Value} {l : List Trow} (h : WInv base W v l) (hb : base ≤ W.heap.size) (hl : l.length ≤ 500000) (b : Bool) (s : PV) (r : List (List Gly))
    (hs : GrS (fun b => base ≤ b ∧ ∃ cur e fz, W.heap[b]? = some (.cells cur e fz) ∧ (e = 26 ∨ e = 43)) W (pv s) r) :
    ∃ a' c' w', (appW #[v, .slice (some ⟨W.heap.size, 0, none⟩) 1 1]).run Tryz.prog (W.alloc (.cells #[.bool b, pv s] 41)) = .ok (.value (.slice a' (l.length + 1) c')) w' ∧ WInv base w' (.slice a' (l.length + 1) c') (l ++ [(b, r)]) ∧ Below base W w' ∧
      ∀ e, e ≠ 41 → SamT e base W w' := by
  obtain ⟨L, S, hL, hLl, hS, hE⟩ := h.own
  obtain ⟨i0, hi, hz0, hz1, hz2⟩ := info_parts infoTR
  obtain ⟨a', c', w', hr, ho, hg, hty⟩ := fpush (P := Tryz.prog) (t := 22) trcell_len trcell_one (by decide) Tryz.underlying22 hi hz0 hz1 hz2 rfl (by decide) hL hb (by omega) (b, s)
  have b1 := below_lit W (.cells (trcell (b, s)).toArray 41)
  have sam : ∀ e, e ≠ 41 → SamT e base W w' := fun e he => (SamT.below b1).trans (SamT.grown hg hty he)
  obtain ⟨k1, t1⟩ := kp_two hS (sam _ (by decide)) (sam _ (by decide))
  obtain ⟨k2, t2⟩ := kp_two (S := fun b => base ≤ b ∧ ∃ cur e fz, W.heap[b]? = some (.cells cur e fz) ∧ (e = 26 ∨ e = 43)) (fun b hb => hb) (sam _ (by decide)) (sam _ (by decide))
  rw [hLl] at hr ho
  refine ⟨a', c', w', ?_, ⟨⟨L ++ [(b, s)], fun b => S b ∨ (base ≤ b ∧ ∃ cur e fz, W.heap[b]? = some (.cells cur e fz) ∧ (e = 26 ∨ e = 43)), ho, by simp [hLl], fun b hb => ?_, fun i x y hx hy => ?_⟩⟩, ?_, sam⟩
  · unfold appW
    simp only [Sem.run_bind, Sem.run_pure, Result.andThen_ok]
    rw [show (#[.bool b, pv s] : Array Value) = (trcell (b, s)).toArray from rfl, hr]
    rfl
  · rcases hb with hb | hb
    · exact t1 b hb
    · exact t2 b hb
  · by_cases hil : i < l.length
    · rw [List.getElem?_append_left (by omega)] at hx hy
      exact ⟨(hE i x y hx hy).1, ((hE i x y hx hy).2.keep k1).mono fun b hb => .inl hb⟩
    · have : i = l.length := by
        have := (List.getElem?_eq_some_iff.1 hy).1
        simp at this
        omega
      subst this
      rw [List.getElem?_append_right (by omega), hLl, Nat.sub_self] at hx
      rw [List.getElem?_append_right (by omega), Nat.sub_self] at hy
      simp at hx hy
      subst hx hy
      exact ⟨rfl, (hs.keep k2).mono fun b hb => .inr hb⟩
  · exact (hL.keep b1).below (b1.mono hb) (Nat.le_trans hb b1.size) hg
end Go.Proofs.YtaeplneiicobgaaGreatDoor
namespace Go.Proofs.YtaeplneiicobgaaGreatDoor
open Go.RowKit
attribute [local go_sem ↓ high] binop_eqT binop_neqT binop_addX builtin_appP builtin_appW
theorem Blk.sam {W W' : World} {g e base : Nat} {L : List Value} (h : Blk W g e L) (hb : base ≤ g) (hs : SamT e base W W') : Blk W' g e L := hs g _ _ hb h
theorem Blk.other {W : World} {g e g' : Nat} {L : List Value} (h : Blk W g e L) (hne : g ≠ g') (j : Nat) (v : Value) : Blk (W.setCell ⟨g', j, none⟩ v) g e L := by
  show (W.setCell ⟨g', j, none⟩ v).heap[g]? = _
  rw [Below.heap_setCell _ _ _ _ (fun e2 => hne e2)]
  exact h
/-- Mend's three tables, and the rows made so far. -/
structure MS (w : World) (cols C : List UInt8) (rv : Value) (gb ga al : Bool) (W : World) (v : Value) (rows : List Trow) : Prop where
  bel : Below w.heap.size w W
  box : Blk W w.heap.size 24 [.string ⟨cols.toArray⟩, rv, .bool gb, .bool ga]
  res : Blk W (w.heap.size + 1) 24 [.string ⟨#[]⟩, .slice none 0 0, .bool false, .bool false]
  out : Blk W (w.heap.size + 2) 24 [.string ⟨C.toArray⟩, v, .bool gb, .bool al]
  rows : WInv w.heap.size W v rows
section
variable {w W W' : World} {cols C : List UInt8} {rv v : Value} {gb ga al : Bool} {rows : List Trow}
theorem MS.start {W0 : World} (h1 : Below w.heap.size w W0) (h2 : Blk W0 w.heap.size 24 [.string ⟨cols.toArray⟩, rv, .bool gb, .bool ga]) (h3 : Blk W0 (w.heap.size + 1) 24 [.string ⟨#[]⟩, .slice none 0 0, .bool false, .bool false]) (hz : W0.heap.size = w.heap.size + 2) :
    MS w cols C rv gb ga al (W0.alloc (.cells #[.string ⟨C.toArray⟩, .slice none 0 0, .bool gb, .bool al] 24)) (.slice none 0 0) [] := by
  have b := below_lit W0 (.cells #[.string ⟨C.toArray⟩, .slice none 0 0, .bool gb, .bool al] 24)
  refine ⟨h1.trans (b.mono h1.size), h2.below b, h3.below b, ?_, WInv.nil _ _⟩
  rw [← hz]
  exact heap_alloc_new W0 _
theorem MS.keep (h : MS w cols C rv gb ga al W v rows) (hb : Below W.heap.size W W') : MS w cols C rv gb ga al W' v rows :=
  ⟨h.bel.trans (hb.mono h.bel.size), h.box.below hb, h.res.below hb, h.out.below hb, h.rows.keep hb⟩
theorem MS.push (h : MS w cols C rv gb ga al W v rows) (hl : rows.length ≤ 500000) (b : Bool) (s : PV) (r : List (List Gly))
    (hs : GrS (fun b => w.heap.size ≤ b ∧ ∃ cur e fz, W.heap[b]? = some (.cells cur e fz) ∧ (e = 26 ∨ e = 43)) W (pv s) r) :
    ∃ a' c' w', (appW #[v, .slice (some ⟨W.heap.size, 0, none⟩) 1 1]).run Tryz.prog (W.alloc (.cells #[.bool b, pv s] 41)) = .ok (.value (.slice a' (rows.length + 1) c')) w' ∧
      w'.frozen? ⟨w.heap.size + 2, 1, none⟩ = false ∧ w'.cell? ⟨w.heap.size + 2, 1, none⟩ = some v ∧ MS w cols C rv gb ga al (w'.setCell ⟨w.heap.size + 2, 1, none⟩ (.slice a' (rows.length + 1) c')) (.slice a' (rows.length + 1) c') (rows ++ [(b, r)]) := by
  obtain ⟨a', c', w', hr, hi, hb, hsam⟩ := h.rows.push h.bel.size hl b s r hs
  have st := hsam 24 (by decide)
  have hbox := h.box.sam (Nat.le_refl _) st
  have hres := h.res.sam (Nat.le_add_right _ _) st
  have hout := h.out.sam (Nat.le_add_right _ _) st
  refine ⟨a', c', w', hr, hout.frozen (by simp), hout.cell 1, ?_⟩
  refine ⟨(h.bel.trans hb).setCell (Nat.le_add_right _ _) _, hbox.other (by omega) _ _, hres.other (by omega) _ _, hout.set 1 _, ?_⟩
  exact hi.sam (SamT.set hout (by decide) _ _) (SamT.set hout (by decide) _ _) (SamT.set hout (by decide) _ _)
theorem MS.fin (h : MS w cols C rv gb ga al W v rows) (x0 x1 x2 x3 : Value) :
    Blk ((((W.setCell ⟨w.heap.size + 1, 0, none⟩ x0).setCell ⟨w.heap.size + 1, 1, none⟩ x1).setCell ⟨w.heap.size + 1, 2, none⟩ x2).setCell ⟨w.heap.size + 1, 3, none⟩ x3) (w.heap.size + 1) 24 [x0, x1, x2, x3] ∧
    WInv w.heap.size ((((W.setCell ⟨w.heap.size + 1, 0, none⟩ x0).setCell ⟨w.heap.size + 1, 1, none⟩ x1).setCell ⟨w.heap.size + 1, 2, none⟩ x2).setCell ⟨w.heap.size + 1, 3, none⟩ x3) v rows ∧
    Below w.heap.size w ((((W.setCell ⟨w.heap.size + 1, 0, none⟩ x0).setCell ⟨w.heap.size + 1, 1, none⟩ x1).setCell ⟨w.heap.size + 1, 2, none⟩ x2).setCell ⟨w.heap.size + 1, 3, none⟩ x3) := by
  have r1 := h.res.set 0 x0
  have r2 := r1.set 1 x1
  have r3 := r2.set 2 x2
  have r4 := r3.set 3 x3
  have i1 := h.rows.sam (SamT.set h.res (by decide) 0 x0) (SamT.set h.res (by decide) 0 x0) (SamT.set h.res (by decide) 0 x0)
  have i2 := i1.sam (SamT.set r1 (by decide) 1 x1) (SamT.set r1 (by decide) 1 x1) (SamT.set r1 (by decide) 1 x1)
  have i3 := i2.sam (SamT.set r2 (by decide) 2 x2) (SamT.set r2 (by decide) 2 x2) (SamT.set r2 (by decide) 2 x2)
  have i4 := i3.sam (SamT.set r3 (by decide) 3 x3) (SamT.set r3 (by decide) 3 x3) (SamT.set r3 (by decide) 3 x3)
  exact ⟨r4, i4, (((h.bel.setCell (by simp) _).setCell (by simp) _).setCell (by simp) _).setCell (by simp) _⟩
end
/-- A row of the table that is made. -/
structure IS (wo : World) (x : Bool) (W : World) (v : Value) (cells : List (List Gly)) : Prop where
  bel : Below wo.heap.size wo W
  blk : Blk W wo.heap.size 41 [.bool x, v]
  ci : CInv wo.heap.size W v cells
section
variable {wo W W' : World} {x : Bool} {v : Value} {cells : List (List Gly)}
theorem IS.start (wo : World) (x : Bool) : IS wo x (wo.alloc (.cells #[.bool x, .slice none 0 0] 41)) (.slice none 0 0) [] := ⟨below_lit wo _, heap_alloc_new wo _, CInv.nil _ _⟩
theorem IS.keep (h : IS wo x W v cells) (hb : Below W.heap.size W W') : IS wo x W' v cells := ⟨h.bel.trans (hb.mono h.bel.size), h.blk.below hb, h.ci.keep hb⟩
theorem IS.push (h : IS wo x W v cells) (hl : cells.length ≤ 500000) (s : PV) (r : List Gly) (hs : FsS (fun b => wo.heap.size ≤ b ∧ ∃ cur fz, W.heap[b]? = some (.cells cur 43 fz)) 2 gcell W (pv s) r) :
    ∃ a' c' w', (appP #[v, .slice (some ⟨W.heap.size, 0, none⟩) 1 1]).run Tryz.prog (W.alloc (.cells #[pv s] 26)) = .ok (.value (.slice a' (cells.length + 1) c')) w' ∧
      w'.frozen? ⟨wo.heap.size, 1, none⟩ = false ∧ w'.cell? ⟨wo.heap.size, 1, none⟩ = some v ∧ IS wo x (w'.setCell ⟨wo.heap.size, 1, none⟩ (.slice a' (cells.length + 1) c')) (.slice a' (cells.length + 1) c') (cells ++ [r]) := by
  obtain ⟨a', c', w', hr, hi, hb, hsam⟩ := h.ci.push h.bel.size hl s r hs
  have hblk := h.blk.sam (Nat.le_refl _) (hsam 41 (by decide))
  refine ⟨a', c', w', hr, hblk.frozen (by simp), hblk.cell 1, (h.bel.trans hb).setCell (Nat.le_refl _) _, hblk.set 1 _, ?_⟩
  exact hi.sam (SamT.set hblk (by decide) _ _) (SamT.set hblk (by decide) _ _)
end
/-- The cells, one by one. -/
def mcell (l : List (List Gly)) (k : Nat) : List Gly := match l[k]? with
  | some c => sqz c
  | none => []
theorem mcells_next : ∀ (n : Nat) (l : List (List Gly)) (k : Nat), k < n → (mcells n l).take (k + 1) = (mcells n l).take k ++ [mcell l k]
  | 0, _, _, h => by omega
  | n + 1, [], 0, _ => by simp [mcells, mcell]
  | n + 1, [], k + 1, h => by
    have := mcells_next n [] k (by omega)
    simp only [mcells, List.take_succ_cons, this, List.cons_append]
    simp [mcell]
  | n + 1, c :: l, 0, _ => by simp [mcells, mcell]
  | n + 1, c :: l, k + 1, h => by
    have := mcells_next n l k (by omega)
    simp only [mcells, List.take_succ_cons, this, List.cons_append]
    simp [mcell]
/-- The columns, one by one. -/
def sd (l : List UInt8) : List UInt8 := (l.filter side).take 20
theorem sd_next {l : List UInt8} {j : Nat} {x : UInt8} (h : l[j]? = some x) : sd (l.take (j + 1)) = if side x = true ∧ (sd (l.take j)).length < 20 then sd (l.take j) ++ [x] else sd (l.take j) := by
  have e : l.take (j + 1) = l.take j ++ [x] := by rw [List.take_add_one, h]; rfl
  unfold sd
  rw [e, List.filter_append]
  by_cases hs : side x = true
  · rw [List.filter_cons_of_pos hs]
    simp only [hs, true_and, List.filter_nil]
    by_cases hl : ((l.take j).filter side).length < 20
    · have e1 : ((l.take j).filter side ++ [x]).take 20 = (l.take j).filter side ++ [x] := List.take_of_length_le (by rw [List.length_append]; simp; omega)
      have e2 : ((l.take j).filter side).take 20 = (l.take j).filter side := List.take_of_length_le (by omega)
      rw [e1, e2, if_pos hl]
    · rw [if_neg (by rw [List.length_take]; omega), List.take_append_of_le_length (by omega)]
  · rw [List.filter_cons_of_neg hs]
    simp [hs]
theorem mcols_sd (l : List UInt8) : mcols l = if sd l = [] then [108] else sd l := rfl
end Go.Proofs.YtaeplneiicobgaaGreatDoor
namespace Go.Proofs.YtaeplneiicobgaaGreatDoor
open Go.RowKit
attribute [local go_sem ↓ high] binop_eqT binop_neqT binop_addX builtin_appP builtin_appW
set_option maxRecDepth 100000 in
set_option maxHeartbeats 16000000 in
theorem rmend_any (S : Nat → Prop) (t : Tab) (r : PV) (w : World) (hv : TrS S w (pv r) t.rows) (hb : t.cols.length ≤ 90000) (hl : trls t.rows ≤ 90000) (hS : ∀ x, S x → x < w.heap.size) :
    Calls Tryz.prog 10 #[tabV t r] w fun e w' => ∃ q : PV, e = .returned (tabV (mend t) q) ∧ TrS (fun b => w.heap.size ≤ b ∧ b < w'.heap.size) w' (pv q) (mend t).rows ∧ Below w.heap.size w w' := by
  obtain ⟨a1, z1, e1⟩ := hv.len
  obtain rfl := pv_eq e1
  have HV := Lib.hid hv
  have HS := Lib.hid hS
  have htn := trls_len t.rows
  have hcs := bsz t.cols
  obtain ⟨C, hC⟩ : ∃ C, mcols t.cols = C := ⟨_, rfl⟩
  have hC20 := mcols_ok t.cols
  rw [hC] at hC20
  have hMD : mend t = ⟨C, t.rows.map (mrowT C.length), t.box, t.all && t.box⟩ := by unfold mend; rw [hC]
  have HMD := Lib.hid hMD
  have HC := Lib.hid hC
  obtain ⟨gb, hgb⟩ : ∃ g, t.box = g := ⟨_, rfl⟩
  obtain ⟨ga, hga⟩ : ∃ g, t.all = g := ⟨_, rfl⟩
  rw [hgb, hga] at HMD
  obtain ⟨W0, hW0⟩ : ∃ W, W = (w.alloc (.cells [.string ⟨t.cols.toArray⟩, .slice a1 t.rows.length z1, .bool gb, .bool ga].toArray 24)).alloc (.cells [.string ⟨#[]⟩, .slice none 0 0, .bool false, .bool false].toArray 24) := ⟨_, rfl⟩
  obtain ⟨bl, hb1, hb2⟩ := two_lits w _ _ W0 hW0
  have hz0 : W0.heap.size = w.heap.size + 2 := by rw [hW0, World.size_alloc, World.size_alloc]
  have c0 : W0.cell? ⟨w.heap.size, 0, none⟩ = some (.string ⟨t.cols.toArray⟩) := hb1.cell 0
  have c2 : W0.cell? ⟨w.heap.size, 2, none⟩ = some (.bool gb) := hb1.cell 2
  have c3 : W0.cell? ⟨w.heap.size, 3, none⟩ = some (.bool ga) := hb1.cell 3
  have HIX := Lib.hid (fun j x (h : t.cols[j]? = some x) => strX_idx t.cols j x h)
  have HMI := Lib.hid (fun i j hi h => strX_mid t.cols i j hi h)
  unfold tabV pv
  simp only
  rw [hgb, hga]
  have H0 := Lib.hid hW0
  have HB1 := Lib.hid hb1
  have HB2 := Lib.hid hb2
  have HZ0 := Lib.hid hz0
  have BL := Lib.hid bl
  clear hv hS hMD hC hgb hga e1 hb1 hb2 bl hz0 hW0
  go_enter Tryz.func10, Tryz.ntmps10
  go_wp2_with fail
  rw [← H0.out]
  clear H0
  go_loopw [3, 4] (fun s i wr => ∃ j : Nat, j ≤ t.cols.length ∧ i = .int .i64 j ∧ s = .string ⟨(sd (t.cols.take j)).toArray⟩ ∧ Hid (wr = W0)) (fun _ i _ => t.cols.length - (intOf i).toNat)
  case atStart => exact ⟨0, by omega, rfl, rfl, Lib.hid rfl⟩
  case round =>
    obtain ⟨j, hj, rfl, rfl, HW⟩ := hrel
    rw [← HW.out] at c0 c2 c3
    by_cases hlt : j < t.cols.length
    · obtain ⟨x, hx⟩ : ∃ x, t.cols[j]? = some x := ⟨t.cols[j], List.getElem?_eq_getElem hlt⟩
      have kx := HIX.out j x hx
      have km := HMI.out j (j + 1) (by omega) (by omega)
      have hm1 : (t.cols.drop j).take (j + 1 - j) = [x] := by
        rw [show j + 1 - j = 1 by omega, List.drop_eq_getElem_cons hlt]
        have := (List.getElem?_eq_some_iff.1 hx).2
        rw [this]
        rfl
      rw [hm1, show ((j + 1 : Nat) : Int) = (j : Int) + 1 by omega] at km
      have HN := Lib.hid (sd_next hx)
      have hi0 : (j : Int) < (t.cols.length : Int) := by omega
      have hi1 : (0 : Int) ≤ (j : Int) := by omega
      have w1 : IntKind.i64.wrap ((j : Int) + 1) = (j : Int) + 1 := IntWalk.i64_in _ (by omega)
      have HSD := Lib.hid (fun W => rside_any x W)
      obtain ⟨s, hs⟩ : ∃ s, sd (t.cols.take j) = s := ⟨_, rfl⟩
      rw [hs] at HN ⊢
      have hsz := bsz s
      by_cases hsd : side x = true
      · rw [hsd] at HSD HN
        by_cases h20 : s.length < 20
        · have h20' : (s.length : Int) < 20 := by omega
          have HN2 : Hid (sd (t.cols.take (j + 1)) = s ++ [x]) := Lib.hid (by rw [HN.out, if_pos ⟨rfl, h20⟩])
          have ka := strX_add s [x] (by simp; omega)
          clear hx hsd hs hm1 HN
          go_wp2_with fail
          refine (HSD.out _).mono ?_
          rintro e w2 ⟨rfl, rfl⟩
          clear HSD
          go_wp2_with fail
          go_roundw
          case rel => exact ⟨j + 1, by omega, by go_num, by rw [HN2.out], HW⟩
          case measure => (simp [intOf]; try omega)
        · have h20' : ¬ (s.length : Int) < 20 := by omega
          have HN2 : Hid (sd (t.cols.take (j + 1)) = s) := Lib.hid (by rw [HN.out, if_neg (fun h => h20 h.2)])
          clear hx hsd hs hm1 HN km
          go_wp2_with fail
          refine (HSD.out _).mono ?_
          rintro e w2 ⟨rfl, rfl⟩
          clear HSD
          go_wp2_with fail
          go_roundw
          case rel => exact ⟨j + 1, by omega, by go_num, by rw [HN2.out], HW⟩
          case measure => (simp [intOf]; try omega)
      · have hsd' : side x = false := by simpa using hsd
        rw [hsd'] at HSD HN
        have HN2 : Hid (sd (t.cols.take (j + 1)) = s) := Lib.hid (by rw [HN.out, if_neg (by simp)])
        clear hx hsd hsd' hs hm1 HN km
        go_wp2_with fail
        refine (HSD.out _).mono ?_
        rintro e w2 ⟨rfl, rfl⟩
        clear HSD
        go_wp2_with fail
        go_roundw
        case rel => exact ⟨j + 1, by omega, by go_num, by rw [HN2.out], HW⟩
        case measure => (simp [intOf]; try omega)
    · obtain rfl : j = t.cols.length := by omega
      have hlt' : ¬ (t.cols.length : Int) < (t.cols.length : Int) := by omega
      rw [List.take_length]
      have hMC := HC.out
      rw [mcols_sd] at hMC
      by_cases hsd0 : sd t.cols = []
      · rw [if_pos hsd0] at hMC
        rw [hsd0]
        have EQ : ∀ W, (eqT (.string ⟨#[]⟩) (.string ⟨#[]⟩)).run Tryz.prog W = .ok (.bool true) W := eqT_run [] []
        have hC8 := Lib.hid hMC
        clear hsd0 hMC
        cases ga
        · 
          have hz : wr.heap.size = w.heap.size + 2 := by rw [HW.out]; exact HZ0.out
          have HM0 : Hid (MS w t.cols C (.slice a1 t.rows.length z1) gb false false (wr.alloc (.cells #[.string ⟨C.toArray⟩, .slice none 0 0, .bool gb, .bool false] 24)) (.slice none 0 0) []) := Lib.hid (MS.start (HW.out ▸ BL.out) (HW.out ▸ HB1.out) (HW.out ▸ HB2.out) hz)
          clear HIX HMI HB1 HB2 HZ0 BL
          go_wp2_with fail
          try rw [hz]
          rw [show (#[108] : Array UInt8) = C.toArray by rw [← hC8.out]]
          clear hC8
          clear c0 c2 c3 hz
          go_loopw [6] (fun i wr => ∃ (j : Nat) (v : Value), j ≤ t.rows.length ∧ i = .int .i64 j ∧ Hid (MS w t.cols C (.slice a1 t.rows.length z1) gb false false wr v ((t.rows.take j).map (mrowT C.length)))) (fun i _ => t.rows.length - (intOf i).toNat)
          case atStart => exact ⟨0, _, by omega, rfl, HM0⟩
          case round =>
            obtain ⟨j, v, hj, rfl, HM⟩ := hrel
            clear HM0 HW
            obtain ⟨va, vc0, hv⟩ := HM.out.rows.len
            rw [List.length_map, List.length_take, Nat.min_eq_left hj] at hv
            subst hv
            have c1 : wr.cell? ⟨w.heap.size, 1, none⟩ = some (.slice a1 t.rows.length z1) := HM.out.box.cell 1
            by_cases hlt : j < t.rows.length
            · obtain ⟨x, hx⟩ : ∃ x, t.rows[j]? = some x := ⟨t.rows[j], List.getElem?_eq_getElem hlt⟩
              have lx := trls_le hx
              have HNX : Hid ((t.rows.take (j + 1)).map (mrowT C.length) = (t.rows.take j).map (mrowT C.length) ++ [mrowT C.length x]) := Lib.hid (by rw [List.take_add_one, hx]; simp)
              obtain ⟨x1, x2⟩ := x
              unfold trl at lx
              simp only at lx
              have hi0 : (j : Int) < (t.rows.length : Int) := by omega
              have hi1 : (0 : Int) ≤ (j : Int) := by omega
              obtain ⟨g1, o1, b1, y1, ka, -, d0, d1, hG⟩ := (HV.out.keep (Kp.below HM.out.bel HS.out)).at hx
              simp only at ka d0 d1 hG
              subst ka
              have hzw := HM.out.bel.size
              obtain ⟨n2, hn2⟩ : ∃ n, x2.length = n := ⟨_, rfl⟩
              rw [hn2] at d1 hG
              have HN2 := Lib.hid hn2
              obtain ⟨wo, rfl⟩ : ∃ wo, wo = wr := ⟨_, rfl⟩
              have HD1 : Hid (∀ W, Below wo.heap.size wo W → W.cell? ⟨g1, o1 + j * 2 + 1, none⟩ = some (.slice b1 n2 y1)) := Lib.hid (fun W h => (h.cell (World.block_lt_of_cell? wo _ d1)).trans d1)
              have HBX : Hid (∀ W, Below wo.heap.size wo W → W.cell? ⟨w.heap.size, 1, none⟩ = some (.slice (some ⟨g1, o1, none⟩) t.rows.length z1)) := Lib.hid (fun W h => (h.cell (World.block_lt_of_cell? wo _ c1)).trans c1)
              have HG : Hid (∀ W, Below wo.heap.size wo W → GrS S W (.slice b1 n2 y1) x2) := Lib.hid (fun W h => hG.keep (Kp.below h (fun z hz => Nat.lt_of_lt_of_le (HS.out z hz) hzw)))
              have HI0 := Lib.hid (IS.start wo x1)
              obtain ⟨W2, hW2⟩ : ∃ W2, W2 = wo.alloc (.cells #[.bool x1, .slice none 0 0] 41) := ⟨_, rfl⟩
              have HW2 := Lib.hid hW2
              rw [← hW2] at HI0
              clear hx hG hW2 hn2
              cases x1
              · go_wp2_with fail
                rw [← HW2.out]
                clear HW2 d0 d1 c1
                go_loopw [8] (fun i wr => ∃ (k : Nat) (vc : Value), k ≤ C.length ∧ i = .int .i64 k ∧ Hid (IS wo false wr vc ((mcells C.length x2).take k))) (fun i _ => C.length - (intOf i).toNat)
                case atStart => exact ⟨0, _, by omega, rfl, HI0⟩
                case round =>
                  obtain ⟨k, vc, hk, rfl, HI⟩ := hrel
                  clear HI0
                  have hml := mcells_len C.length x2
                  obtain ⟨ca, cc, hvc⟩ := HI.out.ci.len
                  rw [List.length_take, hml, Nat.min_eq_left hk] at hvc
                  subst hvc
                  have e0 : wr.cell? ⟨wo.heap.size, 0, none⟩ = some (.bool false) := HI.out.blk.cell 0
                  have e1 : wr.cell? ⟨wo.heap.size, 1, none⟩ = some (.slice ca k cc) := HI.out.blk.cell 1
                  have d1 := HD1.out wr HI.out.bel
                  have c1 := HBX.out wr HI.out.bel
                  have hcC := bsz C
                  have hnn := HN2.out
                  by_cases hkl : k < C.length
                  · have HMN := Lib.hid (mcells_next C.length x2 k hkl)
                    have hk0 : (k : Int) < (C.length : Int) := by omega
                    have hk1 : (0 : Int) ≤ (k : Int) := by omega
                    by_cases hkx : k < x2.length
                    · obtain ⟨c, hc⟩ : ∃ c, x2[k]? = some c := ⟨x2[k], List.getElem?_eq_getElem hkx⟩
                      have hmc : mcell x2 k = sqz c := by unfold mcell; rw [hc]
                      rw [hmc] at HMN
                      have lc := lens_le hc
                      obtain ⟨g5, o5, b5, y5, k5, -, m0, hGc⟩ := (HG.out wr HI.out.bel).at hc
                      subst k5
                      have hk2 : (k : Int) < (n2 : Int) := by omega
                      have HSQ := Lib.hid (rsqueeze_any c _ wr hGc.1 (by omega))
                      clear hc hmc hGc hnn hml
                      go_wp2_with fail
                      refine HSQ.out.mono ?_
                      rintro e w4 ⟨u, rfl, hu, b4⟩
                      obtain ⟨ua, uc, hue⟩ := (FOwn.sl gcell_len hu).len
                      obtain ⟨m4, hm4⟩ : ∃ m, (sqz c).length = m := ⟨_, rfl⟩
                      rw [hm4] at hue
                      subst hue
                      have HI4 := HI.out.keep b4
                      obtain ⟨a5, c5, w5, hr, hf, hcl, hI5⟩ := HI4.push (by rw [List.length_take]; omega) (ua, m4, uc) (sqz c) ((own_foot gcell_len hu).mono (fun b hb => ⟨Nat.le_trans HI.out.bel.size hb.1, hb.2⟩))
                      rw [List.length_take, mcells_len, Nat.min_eq_left hk] at hr hI5
                      rw [← HMN.out] at hI5
                      unfold pv at hr
                      simp only at hr
                      have HI5 := Lib.hid hI5
                      have e1' : w4.cell? ⟨wo.heap.size, 1, none⟩ = some (.slice ca k cc) := HI4.blk.cell 1
                      clear HSQ hu b4 HI4 hI5 hm4 e0 e1 d1 c1 m0
                      go_wp2_with fail
                      go_roundw
                      case rel => exact ⟨k + 1, _, by omega, by go_num, HI5⟩
                      case measure => (simp [intOf]; try omega)
                    · have hmc : mcell x2 k = [] := by unfold mcell; rw [List.getElem?_eq_none (by omega)]
                      rw [hmc] at HMN
                      have hk2 : ¬ (k : Int) < (n2 : Int) := by omega
                      obtain ⟨a5, c5, w5, hr, hf, hcl, hI5⟩ := HI.out.push (by rw [List.length_take]; omega) (none, 0, 0) [] (FsS.nil _ _ _ _)
                      rw [List.length_take, mcells_len, Nat.min_eq_left hk] at hr hI5
                      rw [← HMN.out] at hI5
                      unfold pv at hr
                      simp only at hr
                      have HI5 := Lib.hid hI5
                      clear hmc hnn hml hI5
                      go_wp2_with fail
                      go_roundw
                      case rel => exact ⟨k + 1, _, by omega, by go_num, HI5⟩
                      case measure => (simp [intOf]; try omega)
                  · obtain rfl : k = C.length := by omega
                    have hk0 : ¬ (C.length : Int) < (C.length : Int) := by omega
                    rw [List.take_of_length_le (by omega)] at HI
                    have hM2 := HM.out.keep (show Below wo.heap.size wo wr from HI.out.bel)
                    obtain ⟨a6, c6, w6, hr, hf, hcl, hM6⟩ := hM2.push (by rw [List.length_map, List.length_take]; omega) false (ca, C.length, cc) (mcells C.length x2) (HI.out.ci.grs.mono (fun b hb => ⟨Nat.le_trans hzw hb.1, hb.2⟩))
                    rw [List.length_map, List.length_take, Nat.min_eq_left hj] at hr hM6
                    have HM6 : Hid (MS w t.cols C (.slice (some ⟨g1, o1, none⟩) t.rows.length z1) gb false false _ _ ((t.rows.take (j + 1)).map (mrowT C.length))) := Lib.hid (by rw [HNX.out]; exact hM6)
                    unfold pv at hr
                    simp only at hr
                    have o1' : wr.cell? ⟨w.heap.size + 2, 1, none⟩ = some (.slice va j vc0) := hM2.out.cell 1
                    clear hM2 hM6 HI d1 c1 hml hnn
                    go_wp2_with fail
                    go_roundw
                    case rel => exact ⟨j + 1, _, by omega, by go_num, HM6⟩
                    case measure => (simp [intOf]; try omega)
              · have HCL : Hid (1 ≤ C.length) := Lib.hid hC20.1
                go_wp2_with fail
                rw [← HW2.out]
                clear HW2 d0 d1 c1
                go_loopw [8] (fun i wr => i = .int .i64 0 ∧ Hid (wr = W2)) (fun i _ => 0)
                case atStart => exact ⟨rfl, Lib.hid rfl⟩
                case round =>
                  obtain ⟨rfl, HW⟩ := hrel
                  have HI : Hid (IS wo true wr (.slice none 0 0) []) := Lib.hid (by rw [HW.out]; exact HI0.out)
                  have e0 : wr.cell? ⟨wo.heap.size, 0, none⟩ = some (.bool true) := HI.out.blk.cell 0
                  have e1 : wr.cell? ⟨wo.heap.size, 1, none⟩ = some (.slice none 0 0) := HI.out.blk.cell 1
                  have hcC := bsz C
                  have hk0 : (0 : Int) < (C.length : Int) := by have := HCL.out; omega
                  have hM2 := HM.out.keep (show Below wo.heap.size wo wr from HI.out.bel)
                  obtain ⟨a6, c6, w6, hr, hf, hcl, hM6⟩ := hM2.push (by rw [List.length_map, List.length_take]; omega) true (none, 0, 0) [] (HI.out.ci.grs.mono (fun b hb => ⟨Nat.le_trans hzw hb.1, hb.2⟩))
                  rw [List.length_map, List.length_take, Nat.min_eq_left hj] at hr hM6
                  have HM6 : Hid (MS w t.cols C (.slice (some ⟨g1, o1, none⟩) t.rows.length z1) gb false false _ _ ((t.rows.take (j + 1)).map (mrowT C.length))) := Lib.hid (by rw [HNX.out]; exact hM6)
                  unfold pv at hr
                  simp only at hr
                  have o1' : wr.cell? ⟨w.heap.size + 2, 1, none⟩ = some (.slice va j vc0) := hM2.out.cell 1
                  clear hM2 hM6 HI
                  go_wp2_with fail
                  go_roundw
                  case rel => exact ⟨j + 1, _, by omega, by go_num, HM6⟩
                  case measure => (simp [intOf]; try omega)
            · obtain rfl : j = t.rows.length := by omega
              have hlt' : ¬ (t.rows.length : Int) < (t.rows.length : Int) := by omega
              rw [List.take_length] at HM
              have m0 : wr.cell? ⟨w.heap.size + 2, 0, none⟩ = some (.string ⟨C.toArray⟩) := HM.out.out.cell 0
              have m1 : wr.cell? ⟨w.heap.size + 2, 1, none⟩ = some (.slice va t.rows.length vc0) := HM.out.out.cell 1
              have m2 : wr.cell? ⟨w.heap.size + 2, 2, none⟩ = some (.bool gb) := HM.out.out.cell 2
              have m3 : wr.cell? ⟨w.heap.size + 2, 3, none⟩ = some (.bool false) := HM.out.out.cell 3
              have f0 : wr.frozen? ⟨w.heap.size + 1, 0, none⟩ = false := HM.out.res.frozen (by simp)
              have f1 : wr.frozen? ⟨w.heap.size + 1, 1, none⟩ = false := HM.out.res.frozen (by simp)
              have f2 : wr.frozen? ⟨w.heap.size + 1, 2, none⟩ = false := HM.out.res.frozen (by simp)
              have f3 : wr.frozen? ⟨w.heap.size + 1, 3, none⟩ = false := HM.out.res.frozen (by simp)
              have n0 : wr.cell? ⟨w.heap.size + 1, 0, none⟩ = some (.string ⟨#[]⟩) := HM.out.res.cell 0
              have n1 : wr.cell? ⟨w.heap.size + 1, 1, none⟩ = some (.slice none 0 0) := HM.out.res.cell 1
              have n2 : wr.cell? ⟨w.heap.size + 1, 2, none⟩ = some (.bool false) := HM.out.res.cell 2
              have n3 : wr.cell? ⟨w.heap.size + 1, 3, none⟩ = some (.bool false) := HM.out.res.cell 3
              obtain ⟨hk, hi, hbel⟩ := HM.out.fin (.string ⟨C.toArray⟩) (.slice va t.rows.length vc0) (.bool gb) (.bool false)
              have HK := Lib.hid hk
              have HI := Lib.hid hi
              have HBE := Lib.hid hbel
              clear hk hi hbel
              go_wp2_with fail
              have k0 := HK.out.cell 0
              have k1 := HK.out.cell 1
              have k2 := HK.out.cell 2
              have k3 := HK.out.cell 3
              simp at k0 k1 k2 k3
              exact bodyPost_ret (v := .agg #[.string ⟨C.toArray⟩, .slice va t.rows.length vc0, .bool gb, .bool false]) (by simp [results, Tryz.results10, go_sem, k0, k1, k2, k3]) rfl ⟨va, t.rows.length, vc0, by rw [HMD.out]; rfl, by rw [HMD.out]; exact HI.out.trs, HBE.out⟩
        · 
          have hz : wr.heap.size = w.heap.size + 2 := by rw [HW.out]; exact HZ0.out
          have HM0 : Hid (MS w t.cols C (.slice a1 t.rows.length z1) gb true gb (wr.alloc (.cells #[.string ⟨C.toArray⟩, .slice none 0 0, .bool gb, .bool gb] 24)) (.slice none 0 0) []) := Lib.hid (MS.start (HW.out ▸ BL.out) (HW.out ▸ HB1.out) (HW.out ▸ HB2.out) hz)
          clear HIX HMI HB1 HB2 HZ0 BL
          go_wp2_with fail
          try rw [hz]
          rw [show (#[108] : Array UInt8) = C.toArray by rw [← hC8.out]]
          clear hC8
          clear c0 c2 c3 hz
          go_loopw [6] (fun i wr => ∃ (j : Nat) (v : Value), j ≤ t.rows.length ∧ i = .int .i64 j ∧ Hid (MS w t.cols C (.slice a1 t.rows.length z1) gb true gb wr v ((t.rows.take j).map (mrowT C.length)))) (fun i _ => t.rows.length - (intOf i).toNat)
          case atStart => exact ⟨0, _, by omega, rfl, HM0⟩
          case round =>
            obtain ⟨j, v, hj, rfl, HM⟩ := hrel
            clear HM0 HW
            obtain ⟨va, vc0, hv⟩ := HM.out.rows.len
            rw [List.length_map, List.length_take, Nat.min_eq_left hj] at hv
            subst hv
            have c1 : wr.cell? ⟨w.heap.size, 1, none⟩ = some (.slice a1 t.rows.length z1) := HM.out.box.cell 1
            by_cases hlt : j < t.rows.length
            · obtain ⟨x, hx⟩ : ∃ x, t.rows[j]? = some x := ⟨t.rows[j], List.getElem?_eq_getElem hlt⟩
              have lx := trls_le hx
              have HNX : Hid ((t.rows.take (j + 1)).map (mrowT C.length) = (t.rows.take j).map (mrowT C.length) ++ [mrowT C.length x]) := Lib.hid (by rw [List.take_add_one, hx]; simp)
              obtain ⟨x1, x2⟩ := x
              unfold trl at lx
              simp only at lx
              have hi0 : (j : Int) < (t.rows.length : Int) := by omega
              have hi1 : (0 : Int) ≤ (j : Int) := by omega
              obtain ⟨g1, o1, b1, y1, ka, -, d0, d1, hG⟩ := (HV.out.keep (Kp.below HM.out.bel HS.out)).at hx
              simp only at ka d0 d1 hG
              subst ka
              have hzw := HM.out.bel.size
              obtain ⟨n2, hn2⟩ : ∃ n, x2.length = n := ⟨_, rfl⟩
              rw [hn2] at d1 hG
              have HN2 := Lib.hid hn2
              obtain ⟨wo, rfl⟩ : ∃ wo, wo = wr := ⟨_, rfl⟩
              have HD1 : Hid (∀ W, Below wo.heap.size wo W → W.cell? ⟨g1, o1 + j * 2 + 1, none⟩ = some (.slice b1 n2 y1)) := Lib.hid (fun W h => (h.cell (World.block_lt_of_cell? wo _ d1)).trans d1)
              have HBX : Hid (∀ W, Below wo.heap.size wo W → W.cell? ⟨w.heap.size, 1, none⟩ = some (.slice (some ⟨g1, o1, none⟩) t.rows.length z1)) := Lib.hid (fun W h => (h.cell (World.block_lt_of_cell? wo _ c1)).trans c1)
              have HG : Hid (∀ W, Below wo.heap.size wo W → GrS S W (.slice b1 n2 y1) x2) := Lib.hid (fun W h => hG.keep (Kp.below h (fun z hz => Nat.lt_of_lt_of_le (HS.out z hz) hzw)))
              have HI0 := Lib.hid (IS.start wo x1)
              obtain ⟨W2, hW2⟩ : ∃ W2, W2 = wo.alloc (.cells #[.bool x1, .slice none 0 0] 41) := ⟨_, rfl⟩
              have HW2 := Lib.hid hW2
              rw [← hW2] at HI0
              clear hx hG hW2 hn2
              cases x1
              · go_wp2_with fail
                rw [← HW2.out]
                clear HW2 d0 d1 c1
                go_loopw [8] (fun i wr => ∃ (k : Nat) (vc : Value), k ≤ C.length ∧ i = .int .i64 k ∧ Hid (IS wo false wr vc ((mcells C.length x2).take k))) (fun i _ => C.length - (intOf i).toNat)
                case atStart => exact ⟨0, _, by omega, rfl, HI0⟩
                case round =>
                  obtain ⟨k, vc, hk, rfl, HI⟩ := hrel
                  clear HI0
                  have hml := mcells_len C.length x2
                  obtain ⟨ca, cc, hvc⟩ := HI.out.ci.len
                  rw [List.length_take, hml, Nat.min_eq_left hk] at hvc
                  subst hvc
                  have e0 : wr.cell? ⟨wo.heap.size, 0, none⟩ = some (.bool false) := HI.out.blk.cell 0
                  have e1 : wr.cell? ⟨wo.heap.size, 1, none⟩ = some (.slice ca k cc) := HI.out.blk.cell 1
                  have d1 := HD1.out wr HI.out.bel
                  have c1 := HBX.out wr HI.out.bel
                  have hcC := bsz C
                  have hnn := HN2.out
                  by_cases hkl : k < C.length
                  · have HMN := Lib.hid (mcells_next C.length x2 k hkl)
                    have hk0 : (k : Int) < (C.length : Int) := by omega
                    have hk1 : (0 : Int) ≤ (k : Int) := by omega
                    by_cases hkx : k < x2.length
                    · obtain ⟨c, hc⟩ : ∃ c, x2[k]? = some c := ⟨x2[k], List.getElem?_eq_getElem hkx⟩
                      have hmc : mcell x2 k = sqz c := by unfold mcell; rw [hc]
                      rw [hmc] at HMN
                      have lc := lens_le hc
                      obtain ⟨g5, o5, b5, y5, k5, -, m0, hGc⟩ := (HG.out wr HI.out.bel).at hc
                      subst k5
                      have hk2 : (k : Int) < (n2 : Int) := by omega
                      have HSQ := Lib.hid (rsqueeze_any c _ wr hGc.1 (by omega))
                      clear hc hmc hGc hnn hml
                      go_wp2_with fail
                      refine HSQ.out.mono ?_
                      rintro e w4 ⟨u, rfl, hu, b4⟩
                      obtain ⟨ua, uc, hue⟩ := (FOwn.sl gcell_len hu).len
                      obtain ⟨m4, hm4⟩ : ∃ m, (sqz c).length = m := ⟨_, rfl⟩
                      rw [hm4] at hue
                      subst hue
                      have HI4 := HI.out.keep b4
                      obtain ⟨a5, c5, w5, hr, hf, hcl, hI5⟩ := HI4.push (by rw [List.length_take]; omega) (ua, m4, uc) (sqz c) ((own_foot gcell_len hu).mono (fun b hb => ⟨Nat.le_trans HI.out.bel.size hb.1, hb.2⟩))
                      rw [List.length_take, mcells_len, Nat.min_eq_left hk] at hr hI5
                      rw [← HMN.out] at hI5
                      unfold pv at hr
                      simp only at hr
                      have HI5 := Lib.hid hI5
                      have e1' : w4.cell? ⟨wo.heap.size, 1, none⟩ = some (.slice ca k cc) := HI4.blk.cell 1
                      clear HSQ hu b4 HI4 hI5 hm4 e0 e1 d1 c1 m0
                      go_wp2_with fail
                      go_roundw
                      case rel => exact ⟨k + 1, _, by omega, by go_num, HI5⟩
                      case measure => (simp [intOf]; try omega)
                    · have hmc : mcell x2 k = [] := by unfold mcell; rw [List.getElem?_eq_none (by omega)]
                      rw [hmc] at HMN
                      have hk2 : ¬ (k : Int) < (n2 : Int) := by omega
                      obtain ⟨a5, c5, w5, hr, hf, hcl, hI5⟩ := HI.out.push (by rw [List.length_take]; omega) (none, 0, 0) [] (FsS.nil _ _ _ _)
                      rw [List.length_take, mcells_len, Nat.min_eq_left hk] at hr hI5
                      rw [← HMN.out] at hI5
                      unfold pv at hr
                      simp only at hr
                      have HI5 := Lib.hid hI5
                      clear hmc hnn hml hI5
                      go_wp2_with fail
                      go_roundw
                      case rel => exact ⟨k + 1, _, by omega, by go_num, HI5⟩
                      case measure => (simp [intOf]; try omega)
                  · obtain rfl : k = C.length := by omega
                    have hk0 : ¬ (C.length : Int) < (C.length : Int) := by omega
                    rw [List.take_of_length_le (by omega)] at HI
                    have hM2 := HM.out.keep (show Below wo.heap.size wo wr from HI.out.bel)
                    obtain ⟨a6, c6, w6, hr, hf, hcl, hM6⟩ := hM2.push (by rw [List.length_map, List.length_take]; omega) false (ca, C.length, cc) (mcells C.length x2) (HI.out.ci.grs.mono (fun b hb => ⟨Nat.le_trans hzw hb.1, hb.2⟩))
                    rw [List.length_map, List.length_take, Nat.min_eq_left hj] at hr hM6
                    have HM6 : Hid (MS w t.cols C (.slice (some ⟨g1, o1, none⟩) t.rows.length z1) gb true gb _ _ ((t.rows.take (j + 1)).map (mrowT C.length))) := Lib.hid (by rw [HNX.out]; exact hM6)
                    unfold pv at hr
                    simp only at hr
                    have o1' : wr.cell? ⟨w.heap.size + 2, 1, none⟩ = some (.slice va j vc0) := hM2.out.cell 1
                    clear hM2 hM6 HI d1 c1 hml hnn
                    go_wp2_with fail
                    go_roundw
                    case rel => exact ⟨j + 1, _, by omega, by go_num, HM6⟩
                    case measure => (simp [intOf]; try omega)
              · have HCL : Hid (1 ≤ C.length) := Lib.hid hC20.1
                go_wp2_with fail
                rw [← HW2.out]
                clear HW2 d0 d1 c1
                go_loopw [8] (fun i wr => i = .int .i64 0 ∧ Hid (wr = W2)) (fun i _ => 0)
                case atStart => exact ⟨rfl, Lib.hid rfl⟩
                case round =>
                  obtain ⟨rfl, HW⟩ := hrel
                  have HI : Hid (IS wo true wr (.slice none 0 0) []) := Lib.hid (by rw [HW.out]; exact HI0.out)
                  have e0 : wr.cell? ⟨wo.heap.size, 0, none⟩ = some (.bool true) := HI.out.blk.cell 0
                  have e1 : wr.cell? ⟨wo.heap.size, 1, none⟩ = some (.slice none 0 0) := HI.out.blk.cell 1
                  have hcC := bsz C
                  have hk0 : (0 : Int) < (C.length : Int) := by have := HCL.out; omega
                  have hM2 := HM.out.keep (show Below wo.heap.size wo wr from HI.out.bel)
                  obtain ⟨a6, c6, w6, hr, hf, hcl, hM6⟩ := hM2.push (by rw [List.length_map, List.length_take]; omega) true (none, 0, 0) [] (HI.out.ci.grs.mono (fun b hb => ⟨Nat.le_trans hzw hb.1, hb.2⟩))
                  rw [List.length_map, List.length_take, Nat.min_eq_left hj] at hr hM6
                  have HM6 : Hid (MS w t.cols C (.slice (some ⟨g1, o1, none⟩) t.rows.length z1) gb true gb _ _ ((t.rows.take (j + 1)).map (mrowT C.length))) := Lib.hid (by rw [HNX.out]; exact hM6)
                  unfold pv at hr
                  simp only at hr
                  have o1' : wr.cell? ⟨w.heap.size + 2, 1, none⟩ = some (.slice va j vc0) := hM2.out.cell 1
                  clear hM2 hM6 HI
                  go_wp2_with fail
                  go_roundw
                  case rel => exact ⟨j + 1, _, by omega, by go_num, HM6⟩
                  case measure => (simp [intOf]; try omega)
            · obtain rfl : j = t.rows.length := by omega
              have hlt' : ¬ (t.rows.length : Int) < (t.rows.length : Int) := by omega
              rw [List.take_length] at HM
              have m0 : wr.cell? ⟨w.heap.size + 2, 0, none⟩ = some (.string ⟨C.toArray⟩) := HM.out.out.cell 0
              have m1 : wr.cell? ⟨w.heap.size + 2, 1, none⟩ = some (.slice va t.rows.length vc0) := HM.out.out.cell 1
              have m2 : wr.cell? ⟨w.heap.size + 2, 2, none⟩ = some (.bool gb) := HM.out.out.cell 2
              have m3 : wr.cell? ⟨w.heap.size + 2, 3, none⟩ = some (.bool gb) := HM.out.out.cell 3
              have f0 : wr.frozen? ⟨w.heap.size + 1, 0, none⟩ = false := HM.out.res.frozen (by simp)
              have f1 : wr.frozen? ⟨w.heap.size + 1, 1, none⟩ = false := HM.out.res.frozen (by simp)
              have f2 : wr.frozen? ⟨w.heap.size + 1, 2, none⟩ = false := HM.out.res.frozen (by simp)
              have f3 : wr.frozen? ⟨w.heap.size + 1, 3, none⟩ = false := HM.out.res.frozen (by simp)
              have n0 : wr.cell? ⟨w.heap.size + 1, 0, none⟩ = some (.string ⟨#[]⟩) := HM.out.res.cell 0
              have n1 : wr.cell? ⟨w.heap.size + 1, 1, none⟩ = some (.slice none 0 0) := HM.out.res.cell 1
              have n2 : wr.cell? ⟨w.heap.size + 1, 2, none⟩ = some (.bool false) := HM.out.res.cell 2
              have n3 : wr.cell? ⟨w.heap.size + 1, 3, none⟩ = some (.bool false) := HM.out.res.cell 3
              obtain ⟨hk, hi, hbel⟩ := HM.out.fin (.string ⟨C.toArray⟩) (.slice va t.rows.length vc0) (.bool gb) (.bool gb)
              have HK := Lib.hid hk
              have HI := Lib.hid hi
              have HBE := Lib.hid hbel
              clear hk hi hbel
              go_wp2_with fail
              have k0 := HK.out.cell 0
              have k1 := HK.out.cell 1
              have k2 := HK.out.cell 2
              have k3 := HK.out.cell 3
              simp at k0 k1 k2 k3
              exact bodyPost_ret (v := .agg #[.string ⟨C.toArray⟩, .slice va t.rows.length vc0, .bool gb, .bool gb]) (by simp [results, Tryz.results10, go_sem, k0, k1, k2, k3]) rfl ⟨va, t.rows.length, vc0, by rw [HMD.out]; rfl, by rw [HMD.out]; exact HI.out.trs, HBE.out⟩
      · rw [if_neg hsd0] at hMC
        have EQ : ∀ W, (eqT (.string ⟨C.toArray⟩) (.string ⟨#[]⟩)).run Tryz.prog W = .ok (.bool false) W := fun W => by
          have h := eqT_run C [] W
          rw [decide_eq_false (by rw [← hMC]; exact hsd0)] at h
          exact h
        rw [hMC]
        clear hsd0 hMC
        cases ga
        · 
          have hz : wr.heap.size = w.heap.size + 2 := by rw [HW.out]; exact HZ0.out
          have HM0 : Hid (MS w t.cols C (.slice a1 t.rows.length z1) gb false false (wr.alloc (.cells #[.string ⟨C.toArray⟩, .slice none 0 0, .bool gb, .bool false] 24)) (.slice none 0 0) []) := Lib.hid (MS.start (HW.out ▸ BL.out) (HW.out ▸ HB1.out) (HW.out ▸ HB2.out) hz)
          clear HIX HMI HB1 HB2 HZ0 BL
          go_wp2_with fail
          try rw [hz]
          skip
          clear c0 c2 c3 hz
          go_loopw [6] (fun i wr => ∃ (j : Nat) (v : Value), j ≤ t.rows.length ∧ i = .int .i64 j ∧ Hid (MS w t.cols C (.slice a1 t.rows.length z1) gb false false wr v ((t.rows.take j).map (mrowT C.length)))) (fun i _ => t.rows.length - (intOf i).toNat)
          case atStart => exact ⟨0, _, by omega, rfl, HM0⟩
          case round =>
            obtain ⟨j, v, hj, rfl, HM⟩ := hrel
            clear HM0 HW
            obtain ⟨va, vc0, hv⟩ := HM.out.rows.len
            rw [List.length_map, List.length_take, Nat.min_eq_left hj] at hv
            subst hv
            have c1 : wr.cell? ⟨w.heap.size, 1, none⟩ = some (.slice a1 t.rows.length z1) := HM.out.box.cell 1
            by_cases hlt : j < t.rows.length
            · obtain ⟨x, hx⟩ : ∃ x, t.rows[j]? = some x := ⟨t.rows[j], List.getElem?_eq_getElem hlt⟩
              have lx := trls_le hx
              have HNX : Hid ((t.rows.take (j + 1)).map (mrowT C.length) = (t.rows.take j).map (mrowT C.length) ++ [mrowT C.length x]) := Lib.hid (by rw [List.take_add_one, hx]; simp)
              obtain ⟨x1, x2⟩ := x
              unfold trl at lx
              simp only at lx
              have hi0 : (j : Int) < (t.rows.length : Int) := by omega
              have hi1 : (0 : Int) ≤ (j : Int) := by omega
              obtain ⟨g1, o1, b1, y1, ka, -, d0, d1, hG⟩ := (HV.out.keep (Kp.below HM.out.bel HS.out)).at hx
              simp only at ka d0 d1 hG
              subst ka
              have hzw := HM.out.bel.size
              obtain ⟨n2, hn2⟩ : ∃ n, x2.length = n := ⟨_, rfl⟩
              rw [hn2] at d1 hG
              have HN2 := Lib.hid hn2
              obtain ⟨wo, rfl⟩ : ∃ wo, wo = wr := ⟨_, rfl⟩
              have HD1 : Hid (∀ W, Below wo.heap.size wo W → W.cell? ⟨g1, o1 + j * 2 + 1, none⟩ = some (.slice b1 n2 y1)) := Lib.hid (fun W h => (h.cell (World.block_lt_of_cell? wo _ d1)).trans d1)
              have HBX : Hid (∀ W, Below wo.heap.size wo W → W.cell? ⟨w.heap.size, 1, none⟩ = some (.slice (some ⟨g1, o1, none⟩) t.rows.length z1)) := Lib.hid (fun W h => (h.cell (World.block_lt_of_cell? wo _ c1)).trans c1)
              have HG : Hid (∀ W, Below wo.heap.size wo W → GrS S W (.slice b1 n2 y1) x2) := Lib.hid (fun W h => hG.keep (Kp.below h (fun z hz => Nat.lt_of_lt_of_le (HS.out z hz) hzw)))
              have HI0 := Lib.hid (IS.start wo x1)
              obtain ⟨W2, hW2⟩ : ∃ W2, W2 = wo.alloc (.cells #[.bool x1, .slice none 0 0] 41) := ⟨_, rfl⟩
              have HW2 := Lib.hid hW2
              rw [← hW2] at HI0
              clear hx hG hW2 hn2
              cases x1
              · go_wp2_with fail
                rw [← HW2.out]
                clear HW2 d0 d1 c1
                go_loopw [8] (fun i wr => ∃ (k : Nat) (vc : Value), k ≤ C.length ∧ i = .int .i64 k ∧ Hid (IS wo false wr vc ((mcells C.length x2).take k))) (fun i _ => C.length - (intOf i).toNat)
                case atStart => exact ⟨0, _, by omega, rfl, HI0⟩
                case round =>
                  obtain ⟨k, vc, hk, rfl, HI⟩ := hrel
                  clear HI0
                  have hml := mcells_len C.length x2
                  obtain ⟨ca, cc, hvc⟩ := HI.out.ci.len
                  rw [List.length_take, hml, Nat.min_eq_left hk] at hvc
                  subst hvc
                  have e0 : wr.cell? ⟨wo.heap.size, 0, none⟩ = some (.bool false) := HI.out.blk.cell 0
                  have e1 : wr.cell? ⟨wo.heap.size, 1, none⟩ = some (.slice ca k cc) := HI.out.blk.cell 1
                  have d1 := HD1.out wr HI.out.bel
                  have c1 := HBX.out wr HI.out.bel
                  have hcC := bsz C
                  have hnn := HN2.out
                  by_cases hkl : k < C.length
                  · have HMN := Lib.hid (mcells_next C.length x2 k hkl)
                    have hk0 : (k : Int) < (C.length : Int) := by omega
                    have hk1 : (0 : Int) ≤ (k : Int) := by omega
                    by_cases hkx : k < x2.length
                    · obtain ⟨c, hc⟩ : ∃ c, x2[k]? = some c := ⟨x2[k], List.getElem?_eq_getElem hkx⟩
                      have hmc : mcell x2 k = sqz c := by unfold mcell; rw [hc]
                      rw [hmc] at HMN
                      have lc := lens_le hc
                      obtain ⟨g5, o5, b5, y5, k5, -, m0, hGc⟩ := (HG.out wr HI.out.bel).at hc
                      subst k5
                      have hk2 : (k : Int) < (n2 : Int) := by omega
                      have HSQ := Lib.hid (rsqueeze_any c _ wr hGc.1 (by omega))
                      clear hc hmc hGc hnn hml
                      go_wp2_with fail
                      refine HSQ.out.mono ?_
                      rintro e w4 ⟨u, rfl, hu, b4⟩
                      obtain ⟨ua, uc, hue⟩ := (FOwn.sl gcell_len hu).len
                      obtain ⟨m4, hm4⟩ : ∃ m, (sqz c).length = m := ⟨_, rfl⟩
                      rw [hm4] at hue
                      subst hue
                      have HI4 := HI.out.keep b4
                      obtain ⟨a5, c5, w5, hr, hf, hcl, hI5⟩ := HI4.push (by rw [List.length_take]; omega) (ua, m4, uc) (sqz c) ((own_foot gcell_len hu).mono (fun b hb => ⟨Nat.le_trans HI.out.bel.size hb.1, hb.2⟩))
                      rw [List.length_take, mcells_len, Nat.min_eq_left hk] at hr hI5
                      rw [← HMN.out] at hI5
                      unfold pv at hr
                      simp only at hr
                      have HI5 := Lib.hid hI5
                      have e1' : w4.cell? ⟨wo.heap.size, 1, none⟩ = some (.slice ca k cc) := HI4.blk.cell 1
                      clear HSQ hu b4 HI4 hI5 hm4 e0 e1 d1 c1 m0
                      go_wp2_with fail
                      go_roundw
                      case rel => exact ⟨k + 1, _, by omega, by go_num, HI5⟩
                      case measure => (simp [intOf]; try omega)
                    · have hmc : mcell x2 k = [] := by unfold mcell; rw [List.getElem?_eq_none (by omega)]
                      rw [hmc] at HMN
                      have hk2 : ¬ (k : Int) < (n2 : Int) := by omega
                      obtain ⟨a5, c5, w5, hr, hf, hcl, hI5⟩ := HI.out.push (by rw [List.length_take]; omega) (none, 0, 0) [] (FsS.nil _ _ _ _)
                      rw [List.length_take, mcells_len, Nat.min_eq_left hk] at hr hI5
                      rw [← HMN.out] at hI5
                      unfold pv at hr
                      simp only at hr
                      have HI5 := Lib.hid hI5
                      clear hmc hnn hml hI5
                      go_wp2_with fail
                      go_roundw
                      case rel => exact ⟨k + 1, _, by omega, by go_num, HI5⟩
                      case measure => (simp [intOf]; try omega)
                  · obtain rfl : k = C.length := by omega
                    have hk0 : ¬ (C.length : Int) < (C.length : Int) := by omega
                    rw [List.take_of_length_le (by omega)] at HI
                    have hM2 := HM.out.keep (show Below wo.heap.size wo wr from HI.out.bel)
                    obtain ⟨a6, c6, w6, hr, hf, hcl, hM6⟩ := hM2.push (by rw [List.length_map, List.length_take]; omega) false (ca, C.length, cc) (mcells C.length x2) (HI.out.ci.grs.mono (fun b hb => ⟨Nat.le_trans hzw hb.1, hb.2⟩))
                    rw [List.length_map, List.length_take, Nat.min_eq_left hj] at hr hM6
                    have HM6 : Hid (MS w t.cols C (.slice (some ⟨g1, o1, none⟩) t.rows.length z1) gb false false _ _ ((t.rows.take (j + 1)).map (mrowT C.length))) := Lib.hid (by rw [HNX.out]; exact hM6)
                    unfold pv at hr
                    simp only at hr
                    have o1' : wr.cell? ⟨w.heap.size + 2, 1, none⟩ = some (.slice va j vc0) := hM2.out.cell 1
                    clear hM2 hM6 HI d1 c1 hml hnn
                    go_wp2_with fail
                    go_roundw
                    case rel => exact ⟨j + 1, _, by omega, by go_num, HM6⟩
                    case measure => (simp [intOf]; try omega)
              · have HCL : Hid (1 ≤ C.length) := Lib.hid hC20.1
                go_wp2_with fail
                rw [← HW2.out]
                clear HW2 d0 d1 c1
                go_loopw [8] (fun i wr => i = .int .i64 0 ∧ Hid (wr = W2)) (fun i _ => 0)
                case atStart => exact ⟨rfl, Lib.hid rfl⟩
                case round =>
                  obtain ⟨rfl, HW⟩ := hrel
                  have HI : Hid (IS wo true wr (.slice none 0 0) []) := Lib.hid (by rw [HW.out]; exact HI0.out)
                  have e0 : wr.cell? ⟨wo.heap.size, 0, none⟩ = some (.bool true) := HI.out.blk.cell 0
                  have e1 : wr.cell? ⟨wo.heap.size, 1, none⟩ = some (.slice none 0 0) := HI.out.blk.cell 1
                  have hcC := bsz C
                  have hk0 : (0 : Int) < (C.length : Int) := by have := HCL.out; omega
                  have hM2 := HM.out.keep (show Below wo.heap.size wo wr from HI.out.bel)
                  obtain ⟨a6, c6, w6, hr, hf, hcl, hM6⟩ := hM2.push (by rw [List.length_map, List.length_take]; omega) true (none, 0, 0) [] (HI.out.ci.grs.mono (fun b hb => ⟨Nat.le_trans hzw hb.1, hb.2⟩))
                  rw [List.length_map, List.length_take, Nat.min_eq_left hj] at hr hM6
                  have HM6 : Hid (MS w t.cols C (.slice (some ⟨g1, o1, none⟩) t.rows.length z1) gb false false _ _ ((t.rows.take (j + 1)).map (mrowT C.length))) := Lib.hid (by rw [HNX.out]; exact hM6)
                  unfold pv at hr
                  simp only at hr
                  have o1' : wr.cell? ⟨w.heap.size + 2, 1, none⟩ = some (.slice va j vc0) := hM2.out.cell 1
                  clear hM2 hM6 HI
                  go_wp2_with fail
                  go_roundw
                  case rel => exact ⟨j + 1, _, by omega, by go_num, HM6⟩
                  case measure => (simp [intOf]; try omega)
            · obtain rfl : j = t.rows.length := by omega
              have hlt' : ¬ (t.rows.length : Int) < (t.rows.length : Int) := by omega
              rw [List.take_length] at HM
              have m0 : wr.cell? ⟨w.heap.size + 2, 0, none⟩ = some (.string ⟨C.toArray⟩) := HM.out.out.cell 0
              have m1 : wr.cell? ⟨w.heap.size + 2, 1, none⟩ = some (.slice va t.rows.length vc0) := HM.out.out.cell 1
              have m2 : wr.cell? ⟨w.heap.size + 2, 2, none⟩ = some (.bool gb) := HM.out.out.cell 2
              have m3 : wr.cell? ⟨w.heap.size + 2, 3, none⟩ = some (.bool false) := HM.out.out.cell 3
              have f0 : wr.frozen? ⟨w.heap.size + 1, 0, none⟩ = false := HM.out.res.frozen (by simp)
              have f1 : wr.frozen? ⟨w.heap.size + 1, 1, none⟩ = false := HM.out.res.frozen (by simp)
              have f2 : wr.frozen? ⟨w.heap.size + 1, 2, none⟩ = false := HM.out.res.frozen (by simp)
              have f3 : wr.frozen? ⟨w.heap.size + 1, 3, none⟩ = false := HM.out.res.frozen (by simp)
              have n0 : wr.cell? ⟨w.heap.size + 1, 0, none⟩ = some (.string ⟨#[]⟩) := HM.out.res.cell 0
              have n1 : wr.cell? ⟨w.heap.size + 1, 1, none⟩ = some (.slice none 0 0) := HM.out.res.cell 1
              have n2 : wr.cell? ⟨w.heap.size + 1, 2, none⟩ = some (.bool false) := HM.out.res.cell 2
              have n3 : wr.cell? ⟨w.heap.size + 1, 3, none⟩ = some (.bool false) := HM.out.res.cell 3
              obtain ⟨hk, hi, hbel⟩ := HM.out.fin (.string ⟨C.toArray⟩) (.slice va t.rows.length vc0) (.bool gb) (.bool false)
              have HK := Lib.hid hk
              have HI := Lib.hid hi
              have HBE := Lib.hid hbel
              clear hk hi hbel
              go_wp2_with fail
              have k0 := HK.out.cell 0
              have k1 := HK.out.cell 1
              have k2 := HK.out.cell 2
              have k3 := HK.out.cell 3
              simp at k0 k1 k2 k3
              exact bodyPost_ret (v := .agg #[.string ⟨C.toArray⟩, .slice va t.rows.length vc0, .bool gb, .bool false]) (by simp [results, Tryz.results10, go_sem, k0, k1, k2, k3]) rfl ⟨va, t.rows.length, vc0, by rw [HMD.out]; rfl, by rw [HMD.out]; exact HI.out.trs, HBE.out⟩
        · 
          have hz : wr.heap.size = w.heap.size + 2 := by rw [HW.out]; exact HZ0.out
          have HM0 : Hid (MS w t.cols C (.slice a1 t.rows.length z1) gb true gb (wr.alloc (.cells #[.string ⟨C.toArray⟩, .slice none 0 0, .bool gb, .bool gb] 24)) (.slice none 0 0) []) := Lib.hid (MS.start (HW.out ▸ BL.out) (HW.out ▸ HB1.out) (HW.out ▸ HB2.out) hz)
          clear HIX HMI HB1 HB2 HZ0 BL
          go_wp2_with fail
          try rw [hz]
          skip
          clear c0 c2 c3 hz
          go_loopw [6] (fun i wr => ∃ (j : Nat) (v : Value), j ≤ t.rows.length ∧ i = .int .i64 j ∧ Hid (MS w t.cols C (.slice a1 t.rows.length z1) gb true gb wr v ((t.rows.take j).map (mrowT C.length)))) (fun i _ => t.rows.length - (intOf i).toNat)
          case atStart => exact ⟨0, _, by omega, rfl, HM0⟩
          case round =>
            obtain ⟨j, v, hj, rfl, HM⟩ := hrel
            clear HM0 HW
            obtain ⟨va, vc0, hv⟩ := HM.out.rows.len
            rw [List.length_map, List.length_take, Nat.min_eq_left hj] at hv
            subst hv
            have c1 : wr.cell? ⟨w.heap.size, 1, none⟩ = some (.slice a1 t.rows.length z1) := HM.out.box.cell 1
            by_cases hlt : j < t.rows.length
            · obtain ⟨x, hx⟩ : ∃ x, t.rows[j]? = some x := ⟨t.rows[j], List.getElem?_eq_getElem hlt⟩
              have lx := trls_le hx
              have HNX : Hid ((t.rows.take (j + 1)).map (mrowT C.length) = (t.rows.take j).map (mrowT C.length) ++ [mrowT C.length x]) := Lib.hid (by rw [List.take_add_one, hx]; simp)
              obtain ⟨x1, x2⟩ := x
              unfold trl at lx
              simp only at lx
              have hi0 : (j : Int) < (t.rows.length : Int) := by omega
              have hi1 : (0 : Int) ≤ (j : Int) := by omega
              obtain ⟨g1, o1, b1, y1, ka, -, d0, d1, hG⟩ := (HV.out.keep (Kp.below HM.out.bel HS.out)).at hx
              simp only at ka d0 d1 hG
              subst ka
              have hzw := HM.out.bel.size
              obtain ⟨n2, hn2⟩ : ∃ n, x2.length = n := ⟨_, rfl⟩
              rw [hn2] at d1 hG
              have HN2 := Lib.hid hn2
              obtain ⟨wo, rfl⟩ : ∃ wo, wo = wr := ⟨_, rfl⟩
              have HD1 : Hid (∀ W, Below wo.heap.size wo W → W.cell? ⟨g1, o1 + j * 2 + 1, none⟩ = some (.slice b1 n2 y1)) := Lib.hid (fun W h => (h.cell (World.block_lt_of_cell? wo _ d1)).trans d1)
              have HBX : Hid (∀ W, Below wo.heap.size wo W → W.cell? ⟨w.heap.size, 1, none⟩ = some (.slice (some ⟨g1, o1, none⟩) t.rows.length z1)) := Lib.hid (fun W h => (h.cell (World.block_lt_of_cell? wo _ c1)).trans c1)
              have HG : Hid (∀ W, Below wo.heap.size wo W → GrS S W (.slice b1 n2 y1) x2) := Lib.hid (fun W h => hG.keep (Kp.below h (fun z hz => Nat.lt_of_lt_of_le (HS.out z hz) hzw)))
              have HI0 := Lib.hid (IS.start wo x1)
              obtain ⟨W2, hW2⟩ : ∃ W2, W2 = wo.alloc (.cells #[.bool x1, .slice none 0 0] 41) := ⟨_, rfl⟩
              have HW2 := Lib.hid hW2
              rw [← hW2] at HI0
              clear hx hG hW2 hn2
              cases x1
              · go_wp2_with fail
                rw [← HW2.out]
                clear HW2 d0 d1 c1
                go_loopw [8] (fun i wr => ∃ (k : Nat) (vc : Value), k ≤ C.length ∧ i = .int .i64 k ∧ Hid (IS wo false wr vc ((mcells C.length x2).take k))) (fun i _ => C.length - (intOf i).toNat)
                case atStart => exact ⟨0, _, by omega, rfl, HI0⟩
                case round =>
                  obtain ⟨k, vc, hk, rfl, HI⟩ := hrel
                  clear HI0
                  have hml := mcells_len C.length x2
                  obtain ⟨ca, cc, hvc⟩ := HI.out.ci.len
                  rw [List.length_take, hml, Nat.min_eq_left hk] at hvc
                  subst hvc
                  have e0 : wr.cell? ⟨wo.heap.size, 0, none⟩ = some (.bool false) := HI.out.blk.cell 0
                  have e1 : wr.cell? ⟨wo.heap.size, 1, none⟩ = some (.slice ca k cc) := HI.out.blk.cell 1
                  have d1 := HD1.out wr HI.out.bel
                  have c1 := HBX.out wr HI.out.bel
                  have hcC := bsz C
                  have hnn := HN2.out
                  by_cases hkl : k < C.length
                  · have HMN := Lib.hid (mcells_next C.length x2 k hkl)
                    have hk0 : (k : Int) < (C.length : Int) := by omega
                    have hk1 : (0 : Int) ≤ (k : Int) := by omega
                    by_cases hkx : k < x2.length
                    · obtain ⟨c, hc⟩ : ∃ c, x2[k]? = some c := ⟨x2[k], List.getElem?_eq_getElem hkx⟩
                      have hmc : mcell x2 k = sqz c := by unfold mcell; rw [hc]
                      rw [hmc] at HMN
                      have lc := lens_le hc
                      obtain ⟨g5, o5, b5, y5, k5, -, m0, hGc⟩ := (HG.out wr HI.out.bel).at hc
                      subst k5
                      have hk2 : (k : Int) < (n2 : Int) := by omega
                      have HSQ := Lib.hid (rsqueeze_any c _ wr hGc.1 (by omega))
                      clear hc hmc hGc hnn hml
                      go_wp2_with fail
                      refine HSQ.out.mono ?_
                      rintro e w4 ⟨u, rfl, hu, b4⟩
                      obtain ⟨ua, uc, hue⟩ := (FOwn.sl gcell_len hu).len
                      obtain ⟨m4, hm4⟩ : ∃ m, (sqz c).length = m := ⟨_, rfl⟩
                      rw [hm4] at hue
                      subst hue
                      have HI4 := HI.out.keep b4
                      obtain ⟨a5, c5, w5, hr, hf, hcl, hI5⟩ := HI4.push (by rw [List.length_take]; omega) (ua, m4, uc) (sqz c) ((own_foot gcell_len hu).mono (fun b hb => ⟨Nat.le_trans HI.out.bel.size hb.1, hb.2⟩))
                      rw [List.length_take, mcells_len, Nat.min_eq_left hk] at hr hI5
                      rw [← HMN.out] at hI5
                      unfold pv at hr
                      simp only at hr
                      have HI5 := Lib.hid hI5
                      have e1' : w4.cell? ⟨wo.heap.size, 1, none⟩ = some (.slice ca k cc) := HI4.blk.cell 1
                      clear HSQ hu b4 HI4 hI5 hm4 e0 e1 d1 c1 m0
                      go_wp2_with fail
                      go_roundw
                      case rel => exact ⟨k + 1, _, by omega, by go_num, HI5⟩
                      case measure => (simp [intOf]; try omega)
                    · have hmc : mcell x2 k = [] := by unfold mcell; rw [List.getElem?_eq_none (by omega)]
                      rw [hmc] at HMN
                      have hk2 : ¬ (k : Int) < (n2 : Int) := by omega
                      obtain ⟨a5, c5, w5, hr, hf, hcl, hI5⟩ := HI.out.push (by rw [List.length_take]; omega) (none, 0, 0) [] (FsS.nil _ _ _ _)
                      rw [List.length_take, mcells_len, Nat.min_eq_left hk] at hr hI5
                      rw [← HMN.out] at hI5
                      unfold pv at hr
                      simp only at hr
                      have HI5 := Lib.hid hI5
                      clear hmc hnn hml hI5
                      go_wp2_with fail
                      go_roundw
                      case rel => exact ⟨k + 1, _, by omega, by go_num, HI5⟩
                      case measure => (simp [intOf]; try omega)
                  · obtain rfl : k = C.length := by omega
                    have hk0 : ¬ (C.length : Int) < (C.length : Int) := by omega
                    rw [List.take_of_length_le (by omega)] at HI
                    have hM2 := HM.out.keep (show Below wo.heap.size wo wr from HI.out.bel)
                    obtain ⟨a6, c6, w6, hr, hf, hcl, hM6⟩ := hM2.push (by rw [List.length_map, List.length_take]; omega) false (ca, C.length, cc) (mcells C.length x2) (HI.out.ci.grs.mono (fun b hb => ⟨Nat.le_trans hzw hb.1, hb.2⟩))
                    rw [List.length_map, List.length_take, Nat.min_eq_left hj] at hr hM6
                    have HM6 : Hid (MS w t.cols C (.slice (some ⟨g1, o1, none⟩) t.rows.length z1) gb true gb _ _ ((t.rows.take (j + 1)).map (mrowT C.length))) := Lib.hid (by rw [HNX.out]; exact hM6)
                    unfold pv at hr
                    simp only at hr
                    have o1' : wr.cell? ⟨w.heap.size + 2, 1, none⟩ = some (.slice va j vc0) := hM2.out.cell 1
                    clear hM2 hM6 HI d1 c1 hml hnn
                    go_wp2_with fail
                    go_roundw
                    case rel => exact ⟨j + 1, _, by omega, by go_num, HM6⟩
                    case measure => (simp [intOf]; try omega)
              · have HCL : Hid (1 ≤ C.length) := Lib.hid hC20.1
                go_wp2_with fail
                rw [← HW2.out]
                clear HW2 d0 d1 c1
                go_loopw [8] (fun i wr => i = .int .i64 0 ∧ Hid (wr = W2)) (fun i _ => 0)
                case atStart => exact ⟨rfl, Lib.hid rfl⟩
                case round =>
                  obtain ⟨rfl, HW⟩ := hrel
                  have HI : Hid (IS wo true wr (.slice none 0 0) []) := Lib.hid (by rw [HW.out]; exact HI0.out)
                  have e0 : wr.cell? ⟨wo.heap.size, 0, none⟩ = some (.bool true) := HI.out.blk.cell 0
                  have e1 : wr.cell? ⟨wo.heap.size, 1, none⟩ = some (.slice none 0 0) := HI.out.blk.cell 1
                  have hcC := bsz C
                  have hk0 : (0 : Int) < (C.length : Int) := by have := HCL.out; omega
                  have hM2 := HM.out.keep (show Below wo.heap.size wo wr from HI.out.bel)
                  obtain ⟨a6, c6, w6, hr, hf, hcl, hM6⟩ := hM2.push (by rw [List.length_map, List.length_take]; omega) true (none, 0, 0) [] (HI.out.ci.grs.mono (fun b hb => ⟨Nat.le_trans hzw hb.1, hb.2⟩))
                  rw [List.length_map, List.length_take, Nat.min_eq_left hj] at hr hM6
                  have HM6 : Hid (MS w t.cols C (.slice (some ⟨g1, o1, none⟩) t.rows.length z1) gb true gb _ _ ((t.rows.take (j + 1)).map (mrowT C.length))) := Lib.hid (by rw [HNX.out]; exact hM6)
                  unfold pv at hr
                  simp only at hr
                  have o1' : wr.cell? ⟨w.heap.size + 2, 1, none⟩ = some (.slice va j vc0) := hM2.out.cell 1
                  clear hM2 hM6 HI
                  go_wp2_with fail
                  go_roundw
                  case rel => exact ⟨j + 1, _, by omega, by go_num, HM6⟩
                  case measure => (simp [intOf]; try omega)
            · obtain rfl : j = t.rows.length := by omega
              have hlt' : ¬ (t.rows.length : Int) < (t.rows.length : Int) := by omega
              rw [List.take_length] at HM
              have m0 : wr.cell? ⟨w.heap.size + 2, 0, none⟩ = some (.string ⟨C.toArray⟩) := HM.out.out.cell 0
              have m1 : wr.cell? ⟨w.heap.size + 2, 1, none⟩ = some (.slice va t.rows.length vc0) := HM.out.out.cell 1
              have m2 : wr.cell? ⟨w.heap.size + 2, 2, none⟩ = some (.bool gb) := HM.out.out.cell 2
              have m3 : wr.cell? ⟨w.heap.size + 2, 3, none⟩ = some (.bool gb) := HM.out.out.cell 3
              have f0 : wr.frozen? ⟨w.heap.size + 1, 0, none⟩ = false := HM.out.res.frozen (by simp)
              have f1 : wr.frozen? ⟨w.heap.size + 1, 1, none⟩ = false := HM.out.res.frozen (by simp)
              have f2 : wr.frozen? ⟨w.heap.size + 1, 2, none⟩ = false := HM.out.res.frozen (by simp)
              have f3 : wr.frozen? ⟨w.heap.size + 1, 3, none⟩ = false := HM.out.res.frozen (by simp)
              have n0 : wr.cell? ⟨w.heap.size + 1, 0, none⟩ = some (.string ⟨#[]⟩) := HM.out.res.cell 0
              have n1 : wr.cell? ⟨w.heap.size + 1, 1, none⟩ = some (.slice none 0 0) := HM.out.res.cell 1
              have n2 : wr.cell? ⟨w.heap.size + 1, 2, none⟩ = some (.bool false) := HM.out.res.cell 2
              have n3 : wr.cell? ⟨w.heap.size + 1, 3, none⟩ = some (.bool false) := HM.out.res.cell 3
              obtain ⟨hk, hi, hbel⟩ := HM.out.fin (.string ⟨C.toArray⟩) (.slice va t.rows.length vc0) (.bool gb) (.bool gb)
              have HK := Lib.hid hk
              have HI := Lib.hid hi
              have HBE := Lib.hid hbel
              clear hk hi hbel
              go_wp2_with fail
              have k0 := HK.out.cell 0
              have k1 := HK.out.cell 1
              have k2 := HK.out.cell 2
              have k3 := HK.out.cell 3
              simp at k0 k1 k2 k3
              exact bodyPost_ret (v := .agg #[.string ⟨C.toArray⟩, .slice va t.rows.length vc0, .bool gb, .bool gb]) (by simp [results, Tryz.results10, go_sem, k0, k1, k2, k3]) rfl ⟨va, t.rows.length, vc0, by rw [HMD.out]; rfl, by rw [HMD.out]; exact HI.out.trs, HBE.out⟩
end Go.Proofs.YtaeplneiicobgaaGreatDoor
namespace Go.Proofs.YtaeplneiicobgaaGreatDoor
open Go.RowKit
/-- 'min' of two numbers, kept whole. -/
noncomputable def mnS (args : Array Value) : Sem Next := do pure (.value (← Builtin.min_ #[3, 3] 3 args))
theorem builtin_mnS (cs : Array Bool) (args : Array Value) : builtin .min #[3, 3] 3 cs args = mnS args := rfl
theorem mnS_run (x y z : Int) (hz : (if y < x then y else x) = z) (w : World) : (mnS #[.int .i64 x, .int .i64 y]).run Tryz.prog w = .ok (.value (.int .i64 z)) w := by
  unfold mnS
  simp only [Sem.run_bind, Sem.run_pure, run_min_int2, Result.andThen_ok, hz]
section
variable {w W W' : World} {x y y' : NV}
end
end Go.Proofs.YtaeplneiicobgaaGreatDoor
namespace Go.Proofs.YtaeplneiicobgaaGreatDoor
open Go.RowKit
attribute [local go_sem ↓ high] builtin_mnS
theorem szset (W : World) (a : Addr) (v : Value) : (W.setCell a v).heap.size = W.heap.size := by simp [World.setCell]
end Go.Proofs.YtaeplneiicobgaaGreatDoor
