/- The document's own answer for documents: a row squeezed; is it? The document's own answer for documents: side, in, stands, full. The document's own answer for documents: full. Texts, byte by byte; the document's own answer for documents: Right. -/
import Derived.Test.YtienjlbpaedbjaaDoorODa
import Derived.Test.YtienjlbpaedbjaaDoorGb
namespace Go.Proofs.YtienjlbpaedbjaaDoor
open Go.RowKit

theorem trm_trimL : ∀ l : List Gly, trimL l = trm l
  | [] => rfl
  | g :: l => by
    have ih := trm_trimL l
    have hn : trimN l = 0 ↔ trm l = [] := by
      rw [← ih]
      unfold trimL
      constructor
      · intro h; rw [h]; rfl
      · intro h
        have := trimN_le l
        have h2 : (l.take (trimN l)).length = 0 := by rw [h]; rfl
        rw [List.length_take] at h2
        omega
    unfold trimL
    rw [trm_cons]
    by_cases hc : trimN l = 0 ∧ g.1 = 32
    · have e : trimN (g :: l) = 0 := by unfold trimN; rw [if_pos hc]
      rw [e, if_pos ⟨hn.1 hc.1, hc.2⟩]
      rfl
    · have e : trimN (g :: l) = trimN l + 1 := by conv => lhs; unfold trimN; rw [if_neg hc]
      rw [e, if_neg (fun h => hc ⟨hn.2 h.1, h.2⟩)]
      show g :: l.take (trimN l) = g :: trm l
      rw [← ih]
      rfl
/-- Does what stands there end with no blank? -/
def lastNB (b : Bool) (l : List Gly) : Bool := match l.getLast? with
  | none => b
  | some g => g.1 != 32
theorem lastNB_cons (b : Bool) (g : Gly) (l : List Gly) : lastNB b (g :: l) = lastNB (g.1 != 32) l := by
  unfold lastNB
  cases l with
  | nil => rfl
  | cons x l =>
    rw [List.getLast?_cons_cons]
    cases h : (x :: l).getLast? with
    | none => simp at h
    | some y => rfl
theorem sqA_app : ∀ (b : Bool) (P Q : List Gly), sqA b (P ++ Q) = sqA b P ++ sqA (lastNB b (sqA b P)) Q
  | b, [], Q => rfl
  | b, g :: P, Q => by
    rw [List.cons_append]
    by_cases hg : g.1 = 32
    · rw [sqA_blank b hg, sqA_blank b hg]
      cases b
      · simpa using sqA_app false P Q
      · rw [if_pos rfl, if_pos rfl, sqA_app false P Q, lastNB_cons]
        rfl
    · rw [sqA_other b hg, sqA_other b hg, sqA_app true P Q, lastNB_cons]
      have e : (g.1 != 32) = true := by simpa using hg
      rw [e]
      rfl
theorem sq_next {l : List Gly} {j : Nat} {g : Gly} (h : l[j]? = some g) : sqA false (l.take (j + 1)) = sqA false (l.take j) ++ (if g.1 = 32 then (if lastNB false (sqA false (l.take j)) then [(32, 0)] else []) else [g]) := by
  rw [List.take_add_one, h, sqA_app]
  simp only [Option.toList_some]
  by_cases hg : g.1 = 32
  · rw [sqA_blank _ hg, if_pos hg]
    rfl
  · rw [sqA_other _ hg, if_neg hg]
    rfl

theorem gpush {base : Nat} {W : World} {x : Value} {l : List Gly} (h : GOwn base W x l) (hb : base ≤ W.heap.size) (hl : l.length ≤ 500000) (r s : Int) :
    ∃ a' c' w', (appG #[x, .slice (some ⟨W.heap.size, 0, none⟩) 1 1]).run Tryd.prog (W.alloc (.cells #[.int .i32 r, .int .u8 s] 50)) = .ok (.value (.slice a' (l.length + 1) c')) w' ∧ GOwn base w' (.slice a' (l.length + 1) c') (l ++ [(r, s)]) ∧ Below base W w' := by
  have b1 := below_lit W (.cells #[.int .i32 r, .int .u8 s] 50)
  have hu : Gs (W.alloc (.cells #[.int .i32 r, .int .u8 s] 50)) (.slice (some ⟨W.heap.size, 0, none⟩) 1 1) [(r, s)] := fs_lit gcell_len W 50 [(r, s)]
  obtain ⟨x', w', hr, ho, hg, -⟩ := appG_own (h.keep b1) hu (Nat.le_trans hb b1.size) (by simp; omega)
  obtain ⟨a', c', e⟩ := (FOwn.sl gcell_len ho).len
  have hbel := (h.keep b1).below (b1.mono hb) (Nat.le_trans hb b1.size) hg
  have e2 : (l ++ [(r, s)]).length = l.length + 1 := by simp
  rw [e2] at e
  subst e
  exact ⟨a', c', w', hr, ho, hbel⟩
attribute [local go_sem ↓ high] builtin_appG
set_option maxRecDepth 100000 in
set_option maxHeartbeats 2000000 in
theorem rsqueeze_any (l : List Gly) (v : Value) (w : World) (hv : Gs w v l) (hl : l.length ≤ 90000) :
    Calls Tryd.prog 41 #[v] w fun e w' => ∃ u, e = .returned u ∧ GOwn w.heap.size w' u (sqz l) ∧ Below w.heap.size w w' := by
  have HT := Lib.hid (rtrim_any l v w hv (by omega))
  rw [trm_trimL] at HT
  have htl := trm_len l
  unfold sqz
  obtain ⟨t, ht⟩ : ∃ t, trm l = t := ⟨_, rfl⟩
  rw [ht] at HT htl ⊢
  clear ht hv
  go_enter Tryd.func41, Tryd.ntmps41
  go_wp2_with fail
  refine HT.out.mono ?_
  rintro e w1 ⟨u, rfl, hu, hw1⟩
  subst hw1
  have HU := Lib.hid hu
  obtain ⟨ua, uc, rfl⟩ := hu.len
  clear HT hu
  go_wp2_with fail
  go_loopw [3, 4] (fun s i wr => ∃ j : Nat, j ≤ t.length ∧ i = .int .i64 j ∧ Hid (GOwn w.heap.size wr s (sqA false (t.take j))) ∧ Hid (Below w.heap.size w wr)) (fun _ i _ => t.length - (intOf i).toNat)
  case atStart => exact ⟨0, by omega, rfl, Lib.hid (FOwn.nil _ _), Lib.hid (Below.refl _ _)⟩
  case round =>
    obtain ⟨j, hj, rfl, HO, BW⟩ := hrel
    have hsl := sqA_len false (t.take j)
    rw [List.length_take] at hsl
    obtain ⟨sa, sc, hs⟩ := (FOwn.sl gcell_len HO.out).len
    subst hs
    by_cases hlt : j < t.length
    · obtain ⟨z, hz⟩ : ∃ z, t[j]? = some z := ⟨t[j], List.getElem?_eq_getElem hlt⟩
      have HN := Lib.hid (sq_next hz)
      obtain ⟨O, hO⟩ : ∃ O, sqA false (t.take j) = O := ⟨_, rfl⟩
      rw [hO] at HO HN hsl ⊢
      obtain ⟨g, off, rfl, c0, c1, -⟩ := Gs.at (Fs.below HU.out BW.out) hz
      have hi0 : (j : Int) < (t.length : Int) := by omega
      have hi1 : (0 : Int) ≤ (j : Int) := by omega
      obtain ⟨z0, z1⟩ := z
      simp only at c0 c1 HN
      clear hz hO
      by_cases h32 : z0 = 32
      · subst h32
        rw [if_pos rfl] at HN
        rcases List.eq_nil_or_concat O with rfl | ⟨O', y, hOy⟩
        · have HN2 : Hid (sqA false (t.take (j + 1)) = []) := Lib.hid (by rw [HN.out]; rfl)
          clear HN
          go_wp2_with fail
          go_roundw
          case rel => exact ⟨j + 1, by omega, by go_num, by rw [HN2.out]; exact HO, BW⟩
          case measure => (simp [intOf]; try omega)
        · rw [List.concat_eq_append] at hOy
          have hOl : O.length = O'.length + 1 := by rw [hOy]; simp
          have hlast : O[O'.length]? = some y := by rw [hOy]; simp
          have hnb : lastNB false O = (y.1 != 32) := by rw [hOy]; simp [lastNB]
          rw [hnb] at HN
          obtain ⟨gs, os, hsa, d0, d1, -⟩ := Gs.at (FOwn.sl gcell_len HO.out) hlast
          subst hsa
          have w1 : IntKind.i64.wrap ((O.length : Int) - 1) = (O'.length : Int) := by rw [IntWalk.i64_in _ (by omega)]; omega
          have p0 : (0 : Int) < (O.length : Int) := by omega
          have p1 : (O'.length : Int) < (O.length : Int) := by omega
          have p2 : (0 : Int) ≤ (O'.length : Int) := by omega
          obtain ⟨n, hn⟩ : ∃ n, O.length = n := ⟨_, rfl⟩
          obtain ⟨n', hn'⟩ : ∃ n, O'.length = n := ⟨_, rfl⟩
          obtain ⟨a', c', W', hr, ho, hb⟩ := gpush HO.out BW.out.size (by omega) 32 0
          rw [hn] at hr p0 p1 w1 ho hsl ⊢
          rw [hn'] at w1 p1 p2 d0 d1
          obtain ⟨y0, y1⟩ := y
          simp only at d0 d1 HN
          clear d1 hlast hnb hOy hOl
          by_cases hy : y0 = 32
          · have HN2 : Hid (sqA false (t.take (j + 1)) = O) := Lib.hid (by rw [HN.out, hy]; simp)
            subst hy
            clear HN hr ho hb
            go_wp2_with fail
            go_roundw
            case rel => exact ⟨j + 1, by omega, by go_num, by rw [HN2.out]; exact hn ▸ HO, BW⟩
            case measure => (simp [intOf]; try omega)
          · have HN2 : Hid (sqA false (t.take (j + 1)) = O ++ [(32, 0)]) := Lib.hid (by
              rw [HN.out]
              have : (y0 != 32) = true := by simpa using hy
              rw [this]; rfl)
            have H2 := Lib.hid ho
            have B2 := Lib.hid (BW.out.trans hb)
            clear HN ho hb hn hn'
            go_wp2_with fail
            go_roundw
            case rel => exact ⟨j + 1, by omega, by go_num, by rw [HN2.out]; exact H2, B2⟩
            case measure => (simp [intOf]; try omega)
      · rw [if_neg h32] at HN
        obtain ⟨a', c', W', hr, ho, hb⟩ := gpush HO.out BW.out.size (by omega) z0 z1
        have H2 := Lib.hid ho
        have B2 := Lib.hid (BW.out.trans hb)
        clear ho hb
        go_wp2_with fail
        go_roundw
        case rel => exact ⟨j + 1, by omega, by go_num, by rw [HN.out]; exact H2, B2⟩
        case measure => (simp [intOf]; try omega)
    · obtain rfl : j = t.length := by omega
      have hlt' : ¬ (t.length : Int) < (t.length : Int) := by omega
      rw [List.take_length] at HO ⊢
      go_wp2_with fail
      go_ret
      exact ⟨_, rfl, HO.out, BW.out⟩
set_option maxRecDepth 100000 in
set_option maxHeartbeats 1000000 in
theorem rsqueezed_any (l : List Gly) (v : Value) (w : World) (hv : Gs w v l) (hl : l.length ≤ 90000) :
    Calls Tryd.prog 50 #[v] w fun e w' => e = .returned (.bool (sqd l)) ∧ Below w.heap.size w w' := by
  have HV := Lib.hid hv
  have HS := Lib.hid (rsqueeze_any l v w hv hl)
  have hsl := sqz_len l
  obtain ⟨va, vc, rfl⟩ := hv.len
  clear hv
  unfold sqd
  go_enter Tryd.func50, Tryd.ntmps50
  go_wp2_with fail
  refine HS.out.mono ?_
  rintro e w1 ⟨u, rfl, hu, b1⟩
  have B1 := Lib.hid b1
  have hQ := rsameq_any (sqz l) l u _ w1 (FOwn.sl gcell_len hu) (Fs.below HV.out b1) (by omega) (by omega)
  unfold QtN at hQ
  have HQ := Lib.hid hQ
  obtain ⟨ua, uc, hue⟩ := (FOwn.sl gcell_len hu).len
  subst hue
  clear b1 hu hQ HS
  go_wp2_with fail
  refine HQ.out.mono ?_
  rintro e w2 ⟨rfl, m, rfl⟩
  have B2 := Lib.hid (below_drewN B1.out m)
  clear HQ
  go_wp2_with fail
  go_ret
  exact ⟨rfl, B2.out⟩
end Go.Proofs.YtienjlbpaedbjaaDoor
namespace Go.Proofs.YtienjlbpaedbjaaDoor
open Go.RowKit

theorem qbool {a b : Bool} (h : a = b) : Value.bool a = .bool b := by rw [h]
set_option maxHeartbeats 1000000 in
theorem rside_any (c : UInt8) (w : World) : Calls Tryd.prog 40 #[.int .u8 (c.toNat : Int)] w fun e w' => e = .returned (.bool (side c)) ∧ w' = w := by
  have HP : Hid (side c = (((c.toNat : Int) == 108) || ((c.toNat : Int) == 99) || ((c.toNat : Int) == 114))) := Lib.hid (by
    have key : ∀ n : Nat, n < 256 → ((c == UInt8.ofNat n) = ((c.toNat : Int) == (n : Int))) := fun n hn => by
      apply bool_of_iff
      simp only [beq_iff_eq]
      constructor
      · rintro rfl
        simp [UInt8.toNat_ofNat', Nat.mod_eq_of_lt hn]
      · intro h
        apply UInt8.toNat_inj.1
        rw [UInt8.toNat_ofNat', Nat.mod_eq_of_lt hn]
        omega
    have k1 := key 108 (by decide)
    have k2 := key 99 (by decide)
    have k3 := key 114 (by decide)
    unfold side
    rw [← show ((108 : Nat) : Int) = 108 from rfl, ← show ((99 : Nat) : Int) = 99 from rfl, ← show ((114 : Nat) : Int) = 114 from rfl, ← k1, ← k2, ← k3]
    rfl)
  obtain ⟨q1, hq1⟩ : ∃ q, ((c.toNat : Int) == 108) = q := ⟨_, rfl⟩
  obtain ⟨q2, hq2⟩ : ∃ q, ((c.toNat : Int) == 99) = q := ⟨_, rfl⟩
  obtain ⟨q3, hq3⟩ : ∃ q, ((c.toNat : Int) == 114) = q := ⟨_, rfl⟩
  rw [hq1, hq2, hq3] at HP
  generalize (c.toNat : Int) = x at hq1 hq2 hq3
  rw [HP.out]
  go_enter Tryd.func40, Tryd.ntmps40
  cases q1
  · cases q2
    · go_wp2_with fail
      go_ret
      exact ⟨ret_bool (by simp), rfl⟩
    · go_wp2_with fail
      go_ret
      exact ⟨ret_bool (by simp), rfl⟩
  · go_wp2_with fail
    go_ret
    exact ⟨ret_bool (by simp), rfl⟩

def icell (x : Int) : List Value := [.int .i64 x]
theorem icell_len (x : Int) : (icell x).length = 1 := rfl
set_option maxRecDepth 100000 in
set_option maxHeartbeats 1000000 in
theorem rin_any (k : Int) (l : List Int) (v : Value) (w : World) (hv : Fs 1 icell w v l) (hl : l.length ≤ 1000) :
    Calls Tryd.prog 67 #[.int .i64 k, v] w fun e w' => e = .returned (.bool (l.contains k)) ∧ w' = w := by
  have HV := Lib.hid hv
  obtain ⟨aa, ca, rfl⟩ := hv.len
  obtain ⟨R, hR⟩ : ∃ R, l.contains k = R := ⟨_, rfl⟩
  rw [hR]
  have HR := Lib.hid hR
  clear hv hR
  go_enter Tryd.func67, Tryd.ntmps67
  go_wp2_with fail
  go_loopw [5] (fun i wr => ∃ j : Nat, j ≤ l.length ∧ i = .int .i64 j ∧ Hid (k ∉ l.take j) ∧ Hid (wr = w)) (fun i _ => l.length - (intOf i).toNat)
  case atStart => exact ⟨0, by omega, rfl, Lib.hid (by simp), Lib.hid rfl⟩
  case round =>
    obtain ⟨j, hj, rfl, HN, HW⟩ := hrel
    by_cases hlt : j < l.length
    · obtain ⟨x, hx⟩ : ∃ x, l[j]? = some x := ⟨l[j], List.getElem?_eq_getElem hlt⟩
      obtain ⟨a0, c0, hv0, -, hr⟩ := HV.out
      injection hv0 with e1 e2 e3
      subst e1
      obtain ⟨g, off, rfl, hc⟩ := hr j x hx
      have c0 := hc 0 _ rfl
      rw [Nat.mul_one, Nat.add_zero, ← HW.out] at c0
      have hi0 : (j : Int) < (l.length : Int) := by omega
      have hi1 : (0 : Int) ≤ (j : Int) := by omega
      by_cases hk : x = k
      · have HT : Hid (l.contains k = true) := Lib.hid (by
          rw [List.contains_iff_mem]
          exact List.mem_iff_getElem?.2 ⟨j, hk ▸ hx⟩)
        have hq : (x == k) = true := by simpa using hk
        subst hk
        clear hx hr hc HV
        go_wp2_with fail
        go_ret
        exact ⟨ret_bool (by rw [← HR.out, HT.out]), HW.out⟩
      · have HT : Hid (k ∉ l.take (j + 1)) := Lib.hid (by
          rw [List.take_add_one, hx]
          simp only [Option.toList_some, List.mem_append, List.mem_singleton, not_or]
          exact ⟨HN.out, fun e => hk e.symm⟩)
        have hq : (x == k) = false := by simpa using hk
        clear hx hr hc
        go_wp2_with fail
        go_roundw
        case rel => exact ⟨j + 1, by omega, by go_num, HT, HW⟩
        case measure => (simp [intOf]; try omega)
    · obtain rfl : j = l.length := by omega
      have hlt' : ¬ (l.length : Int) < (l.length : Int) := by omega
      rw [List.take_length] at HN
      have HT : Hid (l.contains k = false) := Lib.hid (by
        rw [Bool.eq_false_iff]
        intro h
        exact HN.out (List.contains_iff_mem.1 h))
      go_wp2_with fail
      go_ret
      exact ⟨ret_bool (by rw [← HR.out, HT.out]), HW.out⟩
/-- 'in' of a list that is written out. -/
theorem rin_lit (k : Int) (l : List Int) (hl : l.length ≤ 1000) (W : World) :
    Calls Tryd.prog 67 #[.int .i64 k, .slice (some ⟨W.heap.size, 0, none⟩) l.length l.length] (W.alloc (.cells (flatV icell l).toArray 3)) fun e w' => e = .returned (.bool (l.contains k)) ∧ w' = W.alloc (.cells (flatV icell l).toArray 3) :=
  rin_any k l _ _ (fs_lit icell_len W 3 l) hl
theorem rin123 (k : Int) (W : World) : Calls Tryd.prog 67 #[.int .i64 k, .slice (some ⟨W.heap.size, 0, none⟩) 3 3] (W.alloc (.cells #[.int .i64 1, .int .i64 2, .int .i64 3] 3)) fun e w' => e = .returned (.bool (([1, 2, 3] : List Int).contains k)) ∧ w' = W.alloc (.cells #[.int .i64 1, .int .i64 2, .int .i64 3] 3) := rin_lit k [1, 2, 3] (by decide) W
theorem rin1234 (k : Int) (W : World) : Calls Tryd.prog 67 #[.int .i64 k, .slice (some ⟨W.heap.size, 0, none⟩) 4 4] (W.alloc (.cells #[.int .i64 1, .int .i64 2, .int .i64 3, .int .i64 4] 3)) fun e w' => e = .returned (.bool (([1, 2, 3, 4] : List Int).contains k)) ∧ w' = W.alloc (.cells #[.int .i64 1, .int .i64 2, .int .i64 3, .int .i64 4] 3) := rin_lit k [1, 2, 3, 4] (by decide) W
theorem rin1245 (k : Int) (W : World) : Calls Tryd.prog 67 #[.int .i64 k, .slice (some ⟨W.heap.size, 0, none⟩) 4 4] (W.alloc (.cells #[.int .i64 1, .int .i64 2, .int .i64 4, .int .i64 5] 3)) fun e w' => e = .returned (.bool (([1, 2, 4, 5] : List Int).contains k)) ∧ w' = W.alloc (.cells #[.int .i64 1, .int .i64 2, .int .i64 4, .int .i64 5] 3) := rin_lit k [1, 2, 4, 5] (by decide) W
theorem rin45 (k : Int) (W : World) : Calls Tryd.prog 67 #[.int .i64 k, .slice (some ⟨W.heap.size, 0, none⟩) 2 2] (W.alloc (.cells #[.int .i64 4, .int .i64 5] 3)) fun e w' => e = .returned (.bool (([4, 5] : List Int).contains k)) ∧ w' = W.alloc (.cells #[.int .i64 4, .int .i64 5] 3) := rin_lit k [4, 5] (by decide) W
set_option maxHeartbeats 2000000 in
theorem rstands_any (k m : Int) (w : World) : Calls Tryd.prog 65 #[.int .i64 k, .int .i64 m] w fun e w' => e = .returned (.bool (stands k m)) ∧ w' = w := by
  have HS : Hid (stands k m = ((k == 1 && m == 0) || (k == 2 && m == 1) || (decide (3 ≤ k) && decide (k ≤ 7)))) := Lib.hid rfl
  obtain ⟨q1, h1⟩ : ∃ q, (k == 1) = q := ⟨_, rfl⟩
  obtain ⟨q2, h2⟩ : ∃ q, (m == 0) = q := ⟨_, rfl⟩
  obtain ⟨q3, h3⟩ : ∃ q, (k == 2) = q := ⟨_, rfl⟩
  obtain ⟨q4, h4⟩ : ∃ q, (m == 1) = q := ⟨_, rfl⟩
  obtain ⟨q5, h5⟩ : ∃ q, decide (3 ≤ k) = q := ⟨_, rfl⟩
  obtain ⟨q6, h6⟩ : ∃ q, decide (k ≤ 7) = q := ⟨_, rfl⟩
  rw [h1, h2, h3, h4, h5, h6] at HS
  rw [HS.out]
  clear HS
  by_cases a1 : k = 1
  · subst a1
    obtain rfl : true = q1 := by simpa using h1
    obtain rfl : false = q3 := by simpa using h3
    obtain rfl : false = q5 := by simpa using h5
    clear h1 h3 h4 h5 h6
    go_enter Tryd.func65, Tryd.ntmps65
    cases q2
    · go_wp2_with fail
      go_ret
      exact ⟨ret_bool (by simp), rfl⟩
    · go_wp2_with fail
      go_ret
      exact ⟨ret_bool (by simp), rfl⟩
  · by_cases a2 : k = 2
    · subst a2
      obtain rfl : false = q1 := by simpa using h1
      obtain rfl : true = q3 := by simpa using h3
      obtain rfl : false = q5 := by simpa using h5
      clear h1 h2 h3 h5 h6
      go_enter Tryd.func65, Tryd.ntmps65
      cases q4
      · go_wp2_with fail
        go_ret
        exact ⟨ret_bool (by simp), rfl⟩
      · go_wp2_with fail
        go_ret
        exact ⟨ret_bool (by simp), rfl⟩
    · obtain rfl : false = q1 := by rw [← h1]; simpa using a1
      obtain rfl : false = q3 := by rw [← h3]; simpa using a2
      clear h2 h4 a1 a2
      by_cases a5 : 3 ≤ k
      · obtain rfl : true = q5 := by rw [← h5]; simpa using a5
        clear h5
        by_cases a6 : k ≤ 7
        · obtain rfl : true = q6 := by rw [← h6]; simpa using a6
          clear h6
          go_enter Tryd.func65, Tryd.ntmps65
          go_wp2_with fail
          go_ret
          exact ⟨ret_bool (by simp), rfl⟩
        · obtain rfl : false = q6 := by rw [← h6]; simpa using a6
          clear h6
          go_enter Tryd.func65, Tryd.ntmps65
          go_wp2_with fail
          go_ret
          exact ⟨ret_bool (by simp), rfl⟩
      · obtain rfl : false = q5 := by rw [← h5]; simpa using a5
        clear h5 h6
        go_enter Tryd.func65, Tryd.ntmps65
        go_wp2_with fail
        go_ret
        exact ⟨ret_bool (by simp), rfl⟩
end Go.Proofs.YtienjlbpaedbjaaDoor
namespace Go.Proofs.YtienjlbpaedbjaaDoor
open Go.RowKit

/-- A node's value, part by part. -/
def ndG (k l n : Int) (t c r : PV) (co : List UInt8) (q : PV) (b a : Bool) : List Value :=
  [.int .i64 k, .int .i64 l, .int .i64 n, pv t, pv c, pv r, .string ⟨co.toArray⟩, pv q, .bool b, .bool a]
def fullV (k : Int) (tl cl rl ql : Nat) : Bool :=
  if 1 ≤ k ∧ k ≤ 3 then decide (0 < tl) else if k = 5 then decide (0 < cl) else if k = 6 then decide (0 < rl) else k == 4 || (k == 7 && decide (0 < ql))
theorem c123 (k : Int) : ([1, 2, 3] : List Int).contains k = decide (1 ≤ k ∧ k ≤ 3) := by
  apply bool_of_iff
  simp
  omega
theorem c1234 (k : Int) : ([1, 2, 3, 4] : List Int).contains k = decide (1 ≤ k ∧ k ≤ 4) := by
  apply bool_of_iff
  simp
  omega
theorem c45 (k : Int) : ([4, 5] : List Int).contains k = decide (k = 4 ∨ k = 5) := by
  apply bool_of_iff
  simp
theorem c1245 (k : Int) : ([1, 2, 4, 5] : List Int).contains k = mayK k := by
  apply bool_of_iff
  rw [mayK_iff]
  simp
theorem one_lit {e : TypeId} (w : World) (L : List Value) : ∀ W, W = w.alloc (.cells L.toArray e) → Below w.heap.size w W ∧ Blk W w.heap.size e L := by
  rintro W rfl
  exact ⟨below_lit w _, heap_alloc_new w _⟩

set_option maxRecDepth 100000 in
set_option maxHeartbeats 4000000 in
theorem rfull_any (k l n : Int) (t c r : PV) (co : List UInt8) (q : PV) (b a : Bool) (w : World) :
    Calls Tryd.prog 68 #[.agg (ndG k l n t c r co q b a).toArray] w fun e w' => e = .returned (.bool (fullV k t.2.1 c.2.1 r.2.1 q.2.1)) ∧ Below w.heap.size w w' := by
  obtain ⟨t1, tl, t2⟩ := t
  obtain ⟨s1, cl, s2⟩ := c
  obtain ⟨r1, rl, r2⟩ := r
  obtain ⟨q1, ql, q2⟩ := q
  simp only
  obtain ⟨w0, hw0⟩ : ∃ w0, w0 = w.alloc (.cells (ndG k l n (t1, tl, t2) (s1, cl, s2) (r1, rl, r2) co (q1, ql, q2) b a).toArray 39) := ⟨_, rfl⟩
  obtain ⟨bl, hb⟩ := one_lit w _ w0 hw0
  have b2 := bl.trans ((below_lit w0 (.cells #[.int .i64 1, .int .i64 2, .int .i64 3] 3)).mono bl.size)
  have hb2 := hb.below (below_lit w0 (.cells #[.int .i64 1, .int .i64 2, .int .i64 3] 3))
  have c0 : w0.cell? ⟨w.heap.size, 0, none⟩ = some (.int .i64 k) := hb.cell 0
  have hI := rin123 k w0
  rw [c123, show w0.heap.size = w.heap.size + 1 by rw [hw0, World.size_alloc]] at hI
  obtain ⟨w1, hw1⟩ : ∃ w1, w1 = w0.alloc (.cells #[.int .i64 1, .int .i64 2, .int .i64 3] 3) := ⟨_, rfl⟩
  rw [← hw1] at hI b2 hb2
  have d0 : w1.cell? ⟨w.heap.size, 0, none⟩ = some (.int .i64 k) := hb2.cell 0
  have d3 : w1.cell? ⟨w.heap.size, 3, none⟩ = some (.slice t1 tl t2) := hb2.cell 3
  have d4 : w1.cell? ⟨w.heap.size, 4, none⟩ = some (.slice s1 cl s2) := hb2.cell 4
  have d5 : w1.cell? ⟨w.heap.size, 5, none⟩ = some (.slice r1 rl r2) := hb2.cell 5
  have d7 : w1.cell? ⟨w.heap.size, 7, none⟩ = some (.slice q1 ql q2) := hb2.cell 7
  have B2 := Lib.hid b2
  unfold fullV
  clear bl hb b2 hb2
  subst hw1 hw0
  unfold ndG pv at *
  simp only at *
  have HI := Lib.hid hI
  clear hI
  go_enter Tryd.func68, Tryd.ntmps68
  by_cases h1 : 1 ≤ k ∧ k ≤ 3
  · rw [if_pos h1]
    rw [decide_eq_true h1] at HI
    have e1 : decide (0 < (tl : Int)) = decide (0 < tl) := bool_of_iff (by simp)
    clear h1
    go_wp2_with fail
    refine HI.out.mono ?_
    rintro e w2 ⟨rfl, hw2⟩
    rw [← hw2] at d0 d3 d4 d5 d7 B2
    clear hw2 c0 HI
    go_wp2_with fail
    go_ret
    exact ⟨ret_bool (by first | rfl | simp), B2.out⟩
  · rw [if_neg h1]
    rw [decide_eq_false h1] at HI
    clear h1
    by_cases h5 : k = 5
    · subst h5
      rw [if_pos rfl]
      go_wp2_with fail
      refine HI.out.mono ?_
      rintro e w2 ⟨rfl, hw2⟩
      rw [← hw2] at d0 d3 d4 d5 d7 B2
      clear hw2 c0 HI
      go_wp2_with fail
      go_ret
      exact ⟨ret_bool (by first | rfl | simp), B2.out⟩
    · rw [if_neg h5]
      by_cases h6 : k = 6
      · subst h6
        rw [if_pos rfl]
        go_wp2_with fail
        refine HI.out.mono ?_
        rintro e w2 ⟨rfl, hw2⟩
        rw [← hw2] at d0 d3 d4 d5 d7 B2
        clear hw2 c0 HI
        go_wp2_with fail
        go_ret
        exact ⟨ret_bool (by first | rfl | simp), B2.out⟩
      · rw [if_neg h6]
        by_cases h4 : k = 4
        · subst h4
          clear h5 h6
          go_wp2_with fail
          refine HI.out.mono ?_
          rintro e w2 ⟨rfl, hw2⟩
          rw [← hw2] at d0 d3 d4 d5 d7 B2
          clear hw2 c0 HI
          go_wp2_with fail
          go_ret
          exact ⟨ret_bool (by first | rfl | simp), B2.out⟩
        · by_cases h7 : k = 7
          · subst h7
            clear h5 h6 h4
            go_wp2_with fail
            refine HI.out.mono ?_
            rintro e w2 ⟨rfl, hw2⟩
            rw [← hw2] at d0 d3 d4 d5 d7 B2
            clear hw2 c0 HI
            go_wp2_with fail
            go_ret
            exact ⟨ret_bool (by first | rfl | simp), B2.out⟩
          · have n5 : (k == 5) = false := by simpa using h5
            have n6 : (k == 6) = false := by simpa using h6
            have n4 : (k == 4) = false := by simpa using h4
            have n7 : (k == 7) = false := by simpa using h7
            have HR : Hid ((k == 4 || (k == 7 && decide (0 < ql))) = false) := Lib.hid (by rw [n4, n7]; rfl)
            go_wp2_with fail
            refine HI.out.mono ?_
            rintro e w2 ⟨rfl, hw2⟩
            rw [← hw2] at d0 d3 d4 d5 d7 B2
            clear hw2 c0 HI
            go_wp2_with fail
            go_ret
            exact ⟨ret_bool (by simp [h4, h7]), B2.out⟩
end Go.Proofs.YtienjlbpaedbjaaDoor
namespace Go.Proofs.YtienjlbpaedbjaaDoor
open Go.RowKit

theorem strX_idx (b : List UInt8) (i : Nat) (x : UInt8) (h : b[i]? = some x) (w : World) : (Instr.index 9 (.string ⟨b.toArray⟩) (.int .i64 (i : Int))).run Tryd.prog w = .ok (.int .u8 (x.toNat : Int)) w := by
  obtain ⟨hi, hx⟩ := List.getElem?_eq_some_iff.1 h
  have hsz := bsz b
  rw [run_index_string w 9 _ .i64 (i : Int) Tryd.underlying9, dif_pos ⟨by omega, by rw [hsz]; omega⟩]
  have e : (⟨b.toArray⟩ : ByteArray)[((i : Int)).toNat]'(by rw [hsz]; omega) = x := by
    show b.toArray[((i : Int)).toNat]'_ = x
    simp only [Int.toNat_natCast, List.getElem_toArray]
    exact hx
  rw [e]
theorem strX_mid (b : List UInt8) (i j : Nat) (hi : i ≤ j) (h : j ≤ b.length) (w : World) : (Instr.slice 9 (.string ⟨b.toArray⟩) (some (.int .i64 (i : Int))) (some (.int .i64 (j : Int))) none).run Tryd.prog w = .ok (.string ⟨((b.drop i).take (j - i)).toArray⟩) w := by
  have hsz := bsz b
  rw [run_slice_string w 9 _ .i64 .i64 (i : Int) (j : Int) Tryd.underlying9 (by omega) (by omega) (by rw [hsz]; omega), ByteArray.extract_mk]
  simp only [Int.toNat_natCast]
theorem catX_str (a c : List UInt8) : (⟨a.toArray⟩ : ByteArray) ++ ⟨c.toArray⟩ = ⟨(a ++ c).toArray⟩ := by
  apply ByteArray.ext
  simp
noncomputable def addX (a c : Value) : Sem Value := binOp .add 9 a c
theorem binop_addX (a c : Value) : binOp .add 9 a c = addX a c := rfl
theorem strX_add (a c : List UInt8) (h : a.length + c.length ≤ 100000000) (W : World) : (addX (.string ⟨a.toArray⟩) (.string ⟨c.toArray⟩)).run Tryd.prog W = .ok (.string ⟨(a ++ c).toArray⟩) W := by
  unfold addX
  have ha := bsz a
  have hc := bsz c
  rw [binOp_string_add]
  simp [Op.stringOp, catX_str, ha, hc, maxLen]
  omega
theorem all_next {α : Type} {l : List α} {j : Nat} {x : α} {P : α → Bool} (h : (l.take j).all P = true) (hx : l[j]? = some x) (hP : P x = true) : (l.take (j + 1)).all P = true := by
  rw [List.take_add_one, hx]
  simp only [Option.toList_some, List.all_append, h, Bool.true_and, List.all_cons, hP, List.all_nil]
theorem all_not {α : Type} {l : List α} {j : Nat} {x : α} {P : α → Bool} (hx : l[j]? = some x) (hP : P x = false) : l.all P = false := by
  rw [Bool.eq_false_iff]
  intro h
  have := List.all_eq_true.1 h x (List.mem_iff_getElem?.2 ⟨j, hx⟩)
  rw [hP] at this
  cases this

set_option maxRecDepth 100000 in
set_option maxHeartbeats 8000000 in
theorem rright_any (S : Nat → Prop) (t : Tab) (r : PV) (w : World) (hv : TrS S w (pv r) t.rows) (hb : t.cols.length ≤ 1000000000) (hl : trls t.rows ≤ 90000) (hS : ∀ x, S x → x < w.heap.size) :
    Calls Tryd.prog 20 #[tabV t r] w fun e w' => e = .returned (.bool (rightT t)) ∧ Below w.heap.size w w' := by
  obtain ⟨a1, z1, e1⟩ := hv.len
  obtain rfl := pv_eq e1
  have HV := Lib.hid hv
  have HS := Lib.hid hS
  obtain ⟨w0, hw0⟩ : ∃ w0, w0 = w.alloc (.cells [.string ⟨t.cols.toArray⟩, .slice a1 t.rows.length z1, .bool t.box, .bool t.all].toArray 35) := ⟨_, rfl⟩
  obtain ⟨bl, hbk⟩ := one_lit w _ w0 hw0
  have c0 : w0.cell? ⟨w.heap.size, 0, none⟩ = some (.string ⟨t.cols.toArray⟩) := hbk.cell 0
  have c1 : w0.cell? ⟨w.heap.size, 1, none⟩ = some (.slice a1 t.rows.length z1) := hbk.cell 1
  have c2 : w0.cell? ⟨w.heap.size, 2, none⟩ = some (.bool t.box) := hbk.cell 2
  have c3 : w0.cell? ⟨w.heap.size, 3, none⟩ = some (.bool t.all) := hbk.cell 3
  have hcs := bsz t.cols
  have htn := trls_len t.rows
  have BL := Lib.hid bl
  have HBK : Hid (∀ W, Below w0.heap.size w0 W → W.cell? ⟨w.heap.size, 0, none⟩ = some (.string ⟨t.cols.toArray⟩) ∧ W.cell? ⟨w.heap.size, 1, none⟩ = some (.slice a1 t.rows.length z1)) := Lib.hid (fun W h => ⟨(hbk.below h).cell 0, (hbk.below h).cell 1⟩)
  have HSZ : Hid (w.heap.size ≤ w0.heap.size) := Lib.hid bl.size
  have HIX := Lib.hid (fun j x (h : t.cols[j]? = some x) => strX_idx t.cols j x h)
  obtain ⟨R, hR⟩ : ∃ R, rightT t = R := ⟨_, rfl⟩
  rw [hR]
  have HR : Hid (R = (decide (1 ≤ t.cols.length) && decide (t.cols.length ≤ 20) && !(t.all && !t.box) && t.cols.all side && t.rows.all (rowOk t.cols.length))) := Lib.hid hR.symm
  obtain ⟨gb, hgb⟩ : ∃ g, t.box = g := ⟨_, rfl⟩
  obtain ⟨ga, hga⟩ : ∃ g, t.all = g := ⟨_, rfl⟩
  rw [hgb] at c2 HR hw0
  rw [hga] at c3 HR hw0
  unfold tabV pv
  simp only
  rw [hgb, hga]
  clear hv hS bl hbk hR hgb hga e1
  by_cases k1 : t.cols.length < 1
  · have k1' : (t.cols.length : Int) < 1 := by omega
    have HF : Hid (R = false) := Lib.hid (by rw [HR.out, decide_eq_false (show ¬ 1 ≤ t.cols.length by omega)]; rfl)
    subst hw0
    go_enter Tryd.func20, Tryd.ntmps20
    go_wp2_with fail
    go_ret
    exact ⟨ret_bool HF.out.symm, BL.out⟩
  · by_cases k2 : 20 < t.cols.length
    · have k1' : ¬ (t.cols.length : Int) < 1 := by omega
      have k2' : (20 : Int) < (t.cols.length : Int) := by omega
      have HF : Hid (R = false) := Lib.hid (by rw [HR.out, decide_eq_false (show ¬ t.cols.length ≤ 20 by omega), Bool.and_false]; rfl)
      subst hw0
      go_enter Tryd.func20, Tryd.ntmps20
      go_wp2_with fail
      go_ret
      exact ⟨ret_bool HF.out.symm, BL.out⟩
    · have k1' : ¬ (t.cols.length : Int) < 1 := by omega
      have k2' : ¬ (20 : Int) < (t.cols.length : Int) := by omega
      have HR2 : Hid (R = (!(ga && !gb) && t.cols.all side && t.rows.all (rowOk t.cols.length))) := Lib.hid (by rw [HR.out, decide_eq_true (show 1 ≤ t.cols.length by omega), decide_eq_true (show t.cols.length ≤ 20 by omega)]; rfl)
      clear HR k1 k2
      rcases (show (ga = true ∧ gb = false) ∨ (ga && !gb) = false by cases ga <;> cases gb <;> simp) with ⟨rfl, rfl⟩ | hab
      · have HF : Hid (R = false) := Lib.hid HR2.out
        subst hw0
        go_enter Tryd.func20, Tryd.ntmps20
        go_wp2_with fail
        go_ret
        exact ⟨ret_bool HF.out.symm, BL.out⟩
      · have HR3 : Hid (R = (t.cols.all side && t.rows.all (rowOk t.cols.length))) := Lib.hid (by rw [HR2.out, hab]; rfl)
        clear HR2
        have l0 := c0
        have l1 := c1
        have l2 := c2
        have l3 := c3
        rw [hw0] at l0 l1 l2 l3
        have H0 := Lib.hid hw0
        clear hw0
        go_enter Tryd.func20, Tryd.ntmps20
        cases ga
        all_goals cases gb
        all_goals first | (exfalso; cases hab; done) | skip
        all_goals clear hab
        all_goals
          go_wp2_with fail
          rw [← H0.out]
          clear l0 l1 l2 l3 c0 c1 c2 c3 H0
          go_loopw [3] (fun i wr => ∃ j : Nat, j ≤ t.cols.length ∧ i = .int .i64 j ∧ Hid ((t.cols.take j).all side = true) ∧ Hid (wr = w0)) (fun i _ => t.cols.length - (intOf i).toNat)
          case atStart => exact ⟨0, by omega, rfl, Lib.hid rfl, Lib.hid rfl⟩
          case round =>
            obtain ⟨j, hj, rfl, HT, HW⟩ := hrel
            have hcc := HBK.out w0 (Below.refl _ _)
            rw [← HW.out] at hcc
            obtain ⟨c0, c1⟩ := hcc
            by_cases hlt : j < t.cols.length
            · obtain ⟨x, hx⟩ : ∃ x, t.cols[j]? = some x := ⟨t.cols[j], List.getElem?_eq_getElem hlt⟩
              have kx := HIX.out j x hx
              have hi0 : (j : Int) < (t.cols.length : Int) := by omega
              have hi1 : (0 : Int) ≤ (j : Int) := by omega
              have HSD := Lib.hid (fun W => rside_any x W)
              by_cases hsd : side x = true
              · have HN := Lib.hid (all_next HT.out hx hsd)
                rw [hsd] at HSD
                clear hx hsd
                go_wp2_with fail
                refine (HSD.out _).mono ?_
                rintro e w1 ⟨rfl, rfl⟩
                clear HSD
                go_wp2_with fail
                go_roundw
                case rel => exact ⟨j + 1, by omega, by go_num, HN, HW⟩
                case measure => (simp [intOf]; try omega)
              · have hsd' : side x = false := by simpa using hsd
                have HF : Hid (R = false) := Lib.hid (by rw [HR3.out, all_not hx hsd']; rfl)
                rw [hsd'] at HSD
                clear hx hsd hsd'
                go_wp2_with fail
                refine (HSD.out _).mono ?_
                rintro e w1 ⟨rfl, rfl⟩
                clear HSD
                go_wp2_with fail
                go_ret
                exact ⟨ret_bool HF.out.symm, by rw [HW.out]; exact BL.out⟩
            · obtain rfl : j = t.cols.length := by omega
              have hlt' : ¬ (t.cols.length : Int) < (t.cols.length : Int) := by omega
              rw [List.take_length] at HT
              have HR4 : Hid (R = t.rows.all (rowOk t.cols.length)) := Lib.hid (by rw [HR3.out, HT.out]; rfl)
              go_wp2_with fail
              clear HIX HR3 HT c0 c1
              go_loopw [4] (fun i wr => ∃ j : Nat, j ≤ t.rows.length ∧ i = .int .i64 j ∧ Hid ((t.rows.take j).all (rowOk t.cols.length) = true) ∧ Hid (Below w0.heap.size w0 wr)) (fun i _ => t.rows.length - (intOf i).toNat)
              case atStart => exact ⟨0, by omega, rfl, Lib.hid rfl, Lib.hid (by rw [HW.out]; exact Below.refl _ _)⟩
              case round =>
                obtain ⟨j, hj, rfl, HT, BW⟩ := hrel
                clear HW
                obtain ⟨c0, c1⟩ := HBK.out wr BW.out
                have BT : Hid (Below w.heap.size w wr) := Lib.hid (BL.out.trans (BW.out.mono HSZ.out))
                by_cases hlt : j < t.rows.length
                · obtain ⟨x, hx⟩ : ∃ x, t.rows[j]? = some x := ⟨t.rows[j], List.getElem?_eq_getElem hlt⟩
                  obtain ⟨x1, x2⟩ := x
                  have lx := trls_le hx
                  have hi0 : (j : Int) < (t.rows.length : Int) := by omega
                  have hi1 : (0 : Int) ≤ (j : Int) := by omega
                  obtain ⟨g1, o1, b1, y1, ka, -, d0, d1, hG⟩ := (HV.out.keep (Kp.below BT.out HS.out)).at hx
                  simp only at ka d0 d1 hG
                  subst ka
                  obtain ⟨n2, hn2⟩ : ∃ n, x2.length = n := ⟨_, rfl⟩
                  rw [hn2] at d1 hG
                  have HX := Lib.hid hx
                  unfold trl at lx
                  simp only at lx
                  obtain ⟨W2, hW2⟩ : ∃ W2, W2 = wr.alloc (.cells [.bool x1, .slice b1 n2 y1].toArray 60) := ⟨_, rfl⟩
                  obtain ⟨b2, hbk⟩ := one_lit wr _ W2 hW2
                  have BW2 : Hid (Below w0.heap.size w0 W2) := Lib.hid (BW.out.trans (b2.mono BW.out.size))
                  have HG := Lib.hid (hG.keep (Kp.below (D := w.heap.size) (b2.mono BT.out.size) HS.out))
                  have HE : Hid (∀ W, Below W2.heap.size W2 W → W.cell? ⟨wr.heap.size, 1, none⟩ = some (.slice b1 n2 y1)) := Lib.hid (fun W h => (hbk.below h).cell 1)
                  have e0 : W2.cell? ⟨wr.heap.size, 0, none⟩ = some (.bool x1) := hbk.cell 0
                  have e1 : W2.cell? ⟨wr.heap.size, 1, none⟩ = some (.slice b1 n2 y1) := hbk.cell 1
                  obtain ⟨f0, f1⟩ := HBK.out W2 BW2.out
                  have HW2 := Lib.hid hW2
                  rw [hW2] at e0 e1 f0 f1
                  have hzz : w.heap.size ≤ wr.heap.size := BT.out.size
                  clear hx hG b2 hbk hW2
                  have key : ∀ (h : rowOk t.cols.length (x1, x2) = false), R = false := fun h => by rw [HR4.out, all_not HX.out h]
                  have KEY := Lib.hid key
                  clear key
                  have LEAF : Hid (Below w.heap.size w W2) := Lib.hid (BL.out.trans (BW2.out.mono HSZ.out))
                  rcases (show (x1 = true ∧ 0 < x2.length) ∨ (x1 = false ∧ x2.length ≠ t.cols.length) ∨ ((x1 = true ∧ x2 = []) ∨ (x1 = false ∧ x2.length = t.cols.length)) by
                    cases x1
                    · by_cases h : x2.length = t.cols.length
                      · exact .inr (.inr (.inr ⟨rfl, h⟩))
                      · exact .inr (.inl ⟨rfl, h⟩)
                    · cases x2 with
                      | nil => exact .inr (.inr (.inl ⟨rfl, rfl⟩))
                      | cons a b => exact .inl ⟨rfl, by simp⟩) with ⟨rfl, hp⟩ | ⟨rfl, hp⟩ | hok
                  · have hp' : (0 : Int) < (n2 : Int) := by omega
                    have HF := Lib.hid (KEY.out (by
                      unfold rowOk
                      simp only [if_true]
                      rw [decide_eq_false (by intro e; rw [e] at hp; simp at hp)]
                      rfl))
                    clear HE HG
                    go_wp2_with fail
                    rw [← HW2.out]
                    go_ret
                    exact ⟨ret_bool HF.out.symm, LEAF.out⟩
                  · have hp' : ((n2 : Int) == (t.cols.length : Int)) = false := by simp; omega
                    have hp2 : ((n2 : Int) != (t.cols.length : Int)) = true := by simp; omega
                    have HF := Lib.hid (KEY.out (by
                      unfold rowOk
                      simp only [Bool.false_eq_true, if_false]
                      rw [decide_eq_false hp]
                      rfl))
                    clear HE HG
                    go_wp2_with fail
                    rw [← HW2.out]
                    go_ret
                    exact ⟨ret_bool HF.out.symm, LEAF.out⟩
                  · have HOK : Hid (rowOk t.cols.length (x1, x2) = x2.all sqd) := Lib.hid (by
                      unfold rowOk
                      rcases hok with ⟨rfl, rfl⟩ | ⟨rfl, h⟩
                      · simp
                      · simp [h])
                    rcases hok with ⟨rfl, hx2⟩ | ⟨rfl, hx2⟩
                    · have h0 : n2 = 0 := by rw [← hn2, hx2]; rfl
                      subst h0
                      have HNN := Lib.hid hn2
                      clear hn2 hx2
                      go_wp2_with fail
                      rw [← HW2.out]
                      clear HW2 e0 e1 f0 f1
                      go_loopw [6] (fun i wr => i = .int .i64 0 ∧ Hid (wr = W2)) (fun i _ => 0)
                      case atStart => exact ⟨rfl, Lib.hid rfl⟩
                      case round =>
                        obtain ⟨rfl, HW⟩ := hrel
                        have e1 := HE.out W2 (Below.refl _ _)
                        rw [← HW.out] at e1
                        have hz2 := BW2.out.size
                        have HN := Lib.hid (all_next HT.out HX.out (by rw [HOK.out]; have := HNN.out; rw [List.length_eq_zero_iff] at this; rw [this]; rfl))
                        go_wp2_with fail
                        go_roundw
                        case rel => exact ⟨j + 1, by omega, by go_num, HN, Lib.hid (by rw [HW.out]; exact BW2.out)⟩
                        case measure => (simp [intOf]; try omega)
                    · have h0 : n2 = t.cols.length := by rw [← hn2, hx2]
                      subst h0
                      have HNN := Lib.hid hn2
                      clear hn2 hx2
                      go_wp2_with fail
                      rw [← HW2.out]
                      clear HW2 e0 e1 f0 f1
                      go_loopw [6] (fun i wr => ∃ q : Nat, q ≤ x2.length ∧ i = .int .i64 q ∧ Hid ((x2.take q).all sqd = true) ∧ Hid (Below W2.heap.size W2 wr)) (fun i _ => t.cols.length - (intOf i).toNat)
                      case atStart => exact ⟨0, by omega, rfl, Lib.hid rfl, Lib.hid (Below.refl _ _)⟩
                      case round =>
                        obtain ⟨q, hq, rfl, HQ, BQ⟩ := hrel
                        have e1 := HE.out wr BQ.out
                        have hz2 := BW2.out.size
                        have hnn := HNN.out
                        by_cases hql : q < x2.length
                        · obtain ⟨c, hc⟩ : ∃ c, x2[q]? = some c := ⟨x2[q], List.getElem?_eq_getElem hql⟩
                          have lc := lens_le hc
                          obtain ⟨g5, o5, b5, y5, k5, -, m0, hGc⟩ := (HG.out.keep (Kp.below BQ.out (fun z hz => Nat.lt_of_lt_of_le (HS.out z hz) LEAF.out.size))).at hc
                          subst k5
                          have hq0 : (q : Int) < (t.cols.length : Int) := by omega
                          have hq1 : (0 : Int) ≤ (q : Int) := by omega
                          have HSQ := Lib.hid (rsqueezed_any c _ wr hGc.1 (by omega))
                          by_cases hsq : sqd c = true
                          · have HN := Lib.hid (all_next HQ.out hc hsq)
                            rw [hsq] at HSQ
                            clear hc hsq hGc hnn
                            go_wp2_with fail
                            refine HSQ.out.mono ?_
                            rintro e w6 ⟨rfl, b6⟩
                            have B6 := Lib.hid (BQ.out.trans (b6.mono BQ.out.size))
                            clear HSQ b6
                            go_wp2_with fail
                            go_roundw
                            case rel => exact ⟨q + 1, by omega, by go_num, HN, B6⟩
                            case measure => (simp [intOf]; try omega)
                          · have hsq' : sqd c = false := by simpa using hsq
                            have HF := Lib.hid (KEY.out (by rw [HOK.out]; exact all_not hc hsq'))
                            rw [hsq'] at HSQ
                            clear hc hsq hsq' hGc hnn
                            go_wp2_with fail
                            refine HSQ.out.mono ?_
                            rintro e w6 ⟨rfl, b6⟩
                            have B6 := Lib.hid (BQ.out.trans (b6.mono BQ.out.size))
                            clear HSQ b6
                            go_wp2_with fail
                            go_ret
                            exact ⟨ret_bool HF.out.symm, LEAF.out.trans (B6.out.mono LEAF.out.size)⟩
                        · obtain rfl : q = x2.length := by omega
                          rw [List.take_length] at HQ
                          have HN := Lib.hid (all_next HT.out HX.out (by rw [HOK.out]; exact HQ.out))
                          rw [hnn]
                          have hql' : ¬ (t.cols.length : Int) < (t.cols.length : Int) := by omega
                          clear hnn hq hql
                          go_wp2_with fail
                          go_roundw
                          case rel => exact ⟨j + 1, by omega, by go_num, HN, Lib.hid (BW2.out.trans (BQ.out.mono hz2))⟩
                          case measure => (simp [intOf]; try omega)
                · obtain rfl : j = t.rows.length := by omega
                  have hlt' : ¬ (t.rows.length : Int) < (t.rows.length : Int) := by omega
                  rw [List.take_length] at HT
                  have HF : Hid (R = true) := Lib.hid (by rw [HR4.out, HT.out])
                  go_wp2_with fail
                  go_ret
                  exact ⟨ret_bool HF.out.symm, BT.out⟩
end Go.Proofs.YtienjlbpaedbjaaDoor
