/- The document's own answer for lines: Write, of rows that are small. -/
import Derived.Test.YteckiifnldcjbaaDoorKS
namespace Go.Proofs.YteckiifnldcjbaaDoor
open Go.RowKit
attribute [local go_sem ↓ high] binop_eqlS binop_neqS binop_addS

/-- What is written of a row; of rows. -/
def wr1 (y : Row) : List UInt8 := if okRow y.2.1 y.2.2.1 y.2.2.2 then (if y.2.1 = [] then y.2.2.2 ++ [10] else 46 :: (y.2.1 ++ sepq y.2.2.1) ++ [10]) else []
def wrs (l : List Row) : List UInt8 := l.flatMap wr1
theorem wrs_next {l : List Row} {p : Nat} {y : Row} (hy : l[p]? = some y) : wrs (l.take (p + 1)) = wrs (l.take p) ++ wr1 y := by
  rw [List.take_add_one, hy]
  simp [wrs]
theorem wr1_len (y : Row) : (wr1 y).length ≤ 2 * rowLen y := by
  have h := sepq_len y.2.2.1
  unfold wr1 rowLen
  split
  · split
    · simp; omega
    · simp; omega
  · simp
theorem wrs_len (l : List Row) : (wrs l).length ≤ 2 * rowsLen l := by
  induction l with
  | nil => simp [wrs]
  | cons y l ih =>
    have := wr1_len y
    simp only [wrs, rowsLen, List.flatMap_cons, List.map_cons, List.sum_cons, List.length_append] at ih ⊢
    omega
theorem rowsLen_take (l : List Row) (p : Nat) : rowsLen (l.take p) ≤ rowsLen l := by
  have h : rowsLen (l.take p ++ l.drop p) = rowsLen (l.take p) + rowsLen (l.drop p) := by unfold rowsLen; rw [List.map_append, List.sum_append]
  rw [List.take_append_drop] at h
  omega
theorem rowLen_le {l : List Row} {y : Row} (h : y ∈ l) : rowLen y ≤ rowsLen l := by
  induction l with
  | nil => simp at h
  | cons z l ih =>
    simp only [rowsLen, List.map_cons, List.sum_cons] at ih ⊢
    rcases List.mem_cons.1 h with rfl | h
    · omega
    · have := ih h
      omega

set_option maxRecDepth 100000 in
set_option maxHeartbeats 8000000 in
theorem refwrite_any (l : List Row) (v : Value) (w : World) (hv : Rws w v l) (hs : rowsLen l ≤ 2000) (hl : l.length ≤ 2000) :
    Calls Tryd.prog 21 #[v] w fun e w' => e = .returned (.string ⟨(wrs l).toArray⟩) ∧ Below w.heap.size w w' := by
  have HV := Lib.hid hv
  obtain ⟨aa, ca, rfl⟩ := hv.len
  have HL := Lib.hid (wrs_len)
  clear hv
  go_enter Tryd.func21, Tryd.ntmps21
  go_wp2_with fail
  go_loopw [3, 4] (fun s i wr => ∃ p : Nat, i = .int .i64 (p : Int) ∧ p ≤ l.length ∧ s = .string ⟨(wrs (l.take p)).toArray⟩ ∧ Below w.heap.size w wr) (fun _ i _ => l.length - (intOf i).toNat)
  case atStart => exact ⟨0, rfl, by omega, rfl, Below.refl _ _⟩
  case round =>
    obtain ⟨p, rfl, hp, rfl, hb⟩ := hrel
    have BB := Lib.hid hb
    clear hb
    by_cases hlt : p < l.length
    · obtain ⟨y, hy⟩ : ∃ y, l[p]? = some y := ⟨l[p], List.getElem?_eq_getElem hlt⟩
      have HN := Lib.hid (wrs_next hy)
      have hyl := rowLen_le (List.mem_iff_getElem?.2 ⟨p, hy⟩)
      have hw1 := wrs_len (l.take p)
      have hw2 := rowsLen_take l p
      obtain ⟨s, hse⟩ : ∃ s, wrs (l.take p) = s := ⟨_, rfl⟩
      rw [hse] at hw1 HN ⊢
      obtain ⟨g, off, rfl, c0, c1, ⟨a1, n1, p1, c2, s2⟩, c3⟩ := (HV.out.below BB.out).at hy
      have hlt' : (p : Int) < (l.length : Int) := by omega
      have hp0 : (0 : Int) ≤ (p : Int) := by omega
      unfold rowLen at hyl
      obtain ⟨y0, y1, y2, y3⟩ := y
      simp only at c0 c1 c2 c3 s2 hyl
      have hel : ∀ x ∈ y2, x.length ≤ 2000 := fun x hx => by have := tot_mem hx; omega
      have hC := rcheck_any y0 y1 (a1, n1, p1) y2 y3 _ s2 (by omega) (by omega) (fun x hx => by have := hel x hx; omega)
      have HC := Lib.hid hC
      unfold rowV avOf at HC
      have HEL := Lib.hid hel
      have HS2 := Lib.hid s2
      clear hC hel hse hy s2
      go_wp2_with fail
      refine HC.out.mono ?_
      rintro e w1 ⟨rfl, b1⟩
      have e1 := (b1.cell (World.block_lt_of_cell? wr _ c1)).trans c1
      have e2 := (b1.cell (World.block_lt_of_cell? wr _ c2)).trans c2
      have e3 := (b1.cell (World.block_lt_of_cell? wr _ c3)).trans c3
      have V1 := Lib.hid (HS2.out.below b1)
      have B1 := Lib.hid (BB.out.trans (b1.mono BB.out.size))
      clear b1 HC HS2 BB c0 c1 c2 c3
      obtain ⟨q, hq⟩ : ∃ q, okRow y1 y2 y3 = q := ⟨_, rfl⟩
      rw [hq]
      have HQ := Lib.hid hq
      clear hq
      cases q
      · have hnil : wr1 (y0, y1, y2, y3) = [] := by unfold wr1; simp only; rw [HQ.out]; rfl
        rw [hnil, List.append_nil] at HN
        clear hnil
        go_wp2_with fail
        go_roundw
        case rel => exact ⟨p + 1, by go_num, by omega, by rw [HN.out], B1.out⟩
        case measure => simp [intOf]; omega
      · by_cases hm : y1 = []
        · subst hm
          have E1 : ∀ W, (eqlS (.string ⟨#[]⟩) (.string ⟨#[]⟩)).run Tryd.prog W = .ok (.bool true) W := eqlS_run [] []
          have k1 := str_add s y3 (by omega)
          have k2 := str_add (s ++ y3) [10] (by simp; omega)
          have hnl : wr1 (y0, [], y2, y3) = y3 ++ [10] := by unfold wr1; simp only; rw [HQ.out]; rfl
          rw [hnl] at HN
          obtain ⟨s1, hs1⟩ : ∃ t, s ++ y3 = t := ⟨_, rfl⟩
          rw [hs1] at k1 k2
          have HS1 := Lib.hid hs1
          clear hs1 hnl
          go_wp2_with fail
          go_roundw
          case rel => exact ⟨p + 1, by go_num, by omega, by rw [HN.out, ← HS1.out]; simp, B1.out⟩
          case measure => simp [intOf]; omega
        · have E1 : ∀ W, (eqlS (.string ⟨y1.toArray⟩) (.string ⟨#[]⟩)).run Tryd.prog W = .ok (.bool false) W := fun W => by
            have h := eqlS_run y1 [] W
            rw [decide_eq_false hm] at h
            exact h
          have hnl : wr1 (y0, y1, y2, y3) = 46 :: (y1 ++ sepq y2) ++ [10] := by unfold wr1; simp only; rw [HQ.out, if_pos rfl, if_neg hm]
          rw [hnl] at HN
          have k1 := str_add s [46] (by simp; omega)
          have k2 := str_add (s ++ [46]) y1 (by simp; omega)
          obtain ⟨t1, ht1⟩ : ∃ t, s ++ [46] = t := ⟨_, rfl⟩
          obtain ⟨t2, ht2⟩ : ∃ t, s ++ [46] ++ y1 = t := ⟨_, rfl⟩
          have ht2l : t2.length ≤ 8000 := by rw [← ht2]; simp; omega
          rw [ht2] at k2
          rw [ht1] at k1 k2
          have HT2 := Lib.hid ht2
          clear ht1 ht2 hnl hm
          go_wp2_with fail
          go_loopw [3, 5] (fun u k wr3 => ∃ q : Nat, k = .int .i64 (q : Int) ∧ q ≤ y2.length ∧ u = .string ⟨(t2 ++ sepq (y2.take q)).toArray⟩ ∧ Below w1.heap.size w1 wr3) (fun _ k _ => y2.length - (intOf k).toNat)
          case atStart => exact ⟨0, rfl, by omega, by simp [sepq_nil], Below.refl _ _⟩
          case round =>
            obtain ⟨q, rfl, hq, rfl, hb3⟩ := hrel
            have B3 := Lib.hid hb3
            have d2 := (hb3.cell (World.block_lt_of_cell? w1 _ e2)).trans e2
            obtain ⟨a', c', hsl⟩ := V1.out.len
            injection hsl with f1 f2 f3
            subst f1 f2 f3
            have hsq := sepq_len (y2.take q)
            have htk := tot_take y2 q
            rw [List.length_take] at hsq
            clear hb3
            by_cases hql : q < y2.length
            · obtain ⟨x, hx⟩ : ∃ x, y2[q]? = some x := ⟨y2[q], List.getElem?_eq_getElem hql⟩
              have hxl := HEL.out x (List.mem_iff_getElem?.2 ⟨q, hx⟩)
              obtain ⟨g2, off2, rfl, d0⟩ := Ss.at (V1.out.below B3.out) hx
              have hql' : (q : Int) < (y2.length : Int) := by omega
              have hq0 : (0 : Int) ≤ (q : Int) := by omega
              have HSN := Lib.hid (sepq_next hx)
              have hdl := (dbl_len x).2
              have RQ := Lib.hid (fun W => rquoted_any x W (by omega))
              have k3 := str_add (t2 ++ sepq (y2.take q)) [32] (by simp; omega)
              have k4 := str_add (t2 ++ sepq (y2.take q) ++ [32]) (qt x) (by simp [qt]; omega)
              obtain ⟨u1, hu1⟩ : ∃ t, t2 ++ sepq (y2.take q) = t := ⟨_, rfl⟩
              rw [hu1] at k3 k4 ⊢
              obtain ⟨u2, hu2⟩ : ∃ t, u1 ++ [32] = t := ⟨_, rfl⟩
              rw [hu2] at k3 k4
              have HU1 := Lib.hid hu1
              have HU2 := Lib.hid hu2
              clear hx hu1 hu2 hsq htk hdl
              go_wp2_with (go_at_call 16; refine (RQ.out _).mono ?_; rintro e w' ⟨rfl, rfl⟩)
              go_roundw
              case rel => exact ⟨q + 1, by go_num, by omega, by rw [HSN.out, ← HU2.out, ← HU1.out]; simp, B3.out⟩
              case measure => simp [intOf]; omega
            · obtain rfl : q = y2.length := by omega
              have hql' : ¬ (y2.length : Int) < (y2.length : Int) := by omega
              rw [List.take_length] at hsq ⊢
              have k3 := str_add (t2 ++ sepq y2) [10] (by simp; omega)
              have B4 := Lib.hid (B1.out.trans (B3.out.mono B1.out.size))
              obtain ⟨u1, hu1⟩ : ∃ t, t2 ++ sepq y2 = t := ⟨_, rfl⟩
              rw [hu1] at k3 ⊢
              have HU1 := Lib.hid hu1
              clear hu1 hsq htk
              go_wp2_with fail
              go_roundw
              case rel => exact ⟨p + 1, by go_num, by omega, by rw [HN.out, ← HU1.out, ← HT2.out]; simp, B4.out⟩
              case measure => simp [intOf]; omega
    · obtain rfl : p = l.length := by omega
      have hlt' : ¬ (l.length : Int) < (l.length : Int) := by omega
      rw [List.take_length]
      go_wp2_with fail
      go_ret
      exact ⟨rfl, BB.out⟩
end Go.Proofs.YteckiifnldcjbaaDoor
