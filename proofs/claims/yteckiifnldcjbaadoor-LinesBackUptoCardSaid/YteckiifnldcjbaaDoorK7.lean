/- strings.IndexAny, ContainsAny, at any text, where what is sought is ASCII: the loop over runes. -/
import Derived.Test.YteckiifnldcjbaaDoorK6
import Derived.Lib.OthersKept
namespace Go.Proofs.YteckiifnldcjbaaDoor
open Go.RowKit Go.Lib

theorem high_bytes {s : List UInt8} {pos : Nat} {x : UInt8} (hx : s[pos]? = some x) (h : 128 ≤ x.toNat) :
    (128 ≤ (Utf8.decode ⟨s.toArray⟩ pos).1 ∧ (Utf8.decode ⟨s.toArray⟩ pos).1 ≤ 1114111) ∧ 1 ≤ (Utf8.decode ⟨s.toArray⟩ pos).2 ∧ pos + (Utf8.decode ⟨s.toArray⟩ pos).2 ≤ s.length ∧ ∀ j y, pos ≤ j → j < pos + (Utf8.decode ⟨s.toArray⟩ pos).2 → s[j]? = some y → 128 ≤ y.toNat := by
  obtain ⟨hp, hx'⟩ := List.getElem?_eq_some_iff.1 hx
  have e := decodeL_drop ⟨s.toArray⟩ pos
  have ed : (⟨s.toArray⟩ : ByteArray).data.toList = s := rfl
  rw [ed] at e
  rw [← e]
  have hne : s.drop pos ≠ [] := by
    intro h0
    have := congrArg List.length h0
    rw [List.length_drop, List.length_nil] at this
    omega
  have hle := decodeL_le _ hne
  rw [List.length_drop] at hle
  have hr := decodeL_rune (s.drop pos)
  have hw := decodeL_width (s.drop pos)
  have g0 : (s.drop pos).getD 0 0 = x := by rw [List.getD, List.getElem?_drop, Nat.add_zero, hx]; rfl
  have gi : ∀ i y, s[pos + i]? = some y → (s.drop pos).getD i 0 = y := fun i y hy => by rw [List.getD, List.getElem?_drop, hy]; rfl
  have hs := decodeN_shape (s.drop pos).length ((s.drop pos).getD 0 0).toNat ((s.drop pos).getD 1 0).toNat ((s.drop pos).getD 2 0).toNat ((s.drop pos).getD 3 0).toNat
  rw [← decodeL_N, g0] at hs
  have h256 := UInt8.toNat_lt x
  refine ⟨⟨?_, hr⟩, hw, by omega, fun j y h1 h2 hy => ?_⟩
  · rcases hs with ⟨a, -⟩ | ⟨a, b, c, d, f⟩ | ⟨a, b, c, d, f, g, f'⟩ | ⟨a, b, c, d, f, g, i, f'⟩ | f
    · omega
    · rw [f]; simp only; omega
    · rw [f']; simp only; omega
    · rw [f']; simp only; omega
    · rw [f]; simp
  · obtain ⟨i, rfl⟩ : ∃ i, j = pos + i := ⟨j - pos, by omega⟩
    have hg := gi i y hy
    have h2' : i < (decodeL (s.drop pos)).2 := by omega
    by_cases hi0 : i = 0
    · subst hi0
      rw [Nat.add_zero, hx] at hy
      cases hy
      exact h
    · rcases hs with ⟨a, -⟩ | ⟨a, b, c, d, f⟩ | ⟨a, b, c, d, f, g, f'⟩ | ⟨a, b, c, d, f, g, i', f'⟩ | f
      · omega
      · rw [f] at h2'
        simp only at h2'
        obtain rfl : i = 1 := by omega
        rw [hg] at c; omega
      · rw [f'] at h2'
        simp only at h2'
        rcases (by omega : i = 1 ∨ i = 2) with rfl | rfl
        · rw [hg] at c; omega
        · rw [hg] at d; omega
      · rw [f'] at h2'
        simp only at h2'
        rcases (by omega : i = 1 ∨ i = 2 ∨ i = 3) with rfl | rfl | rfl
        · rw [hg] at c; omega
        · rw [hg] at d; omega
        · rw [hg] at f; omega
      · rw [f] at h2'
        simp only at h2'
        omega
theorem noAny_more {s cs : List UInt8} {pos k : Nat} (h : NoAny s cs pos) (ha : ∀ (j : Nat) b, cs[j]? = some b → b.toNat < 128) (hb : ∀ j y, pos ≤ j → j < pos + k → s[j]? = some y → 128 ≤ y.toNat) : NoAny s cs (pos + k) := fun j b hj hjb => by
  by_cases hlt : j < pos
  · exact h j b hlt hjb
  · have h1 := hb j b (by omega) hj hjb
    cases hc : cs.contains b
    · rfl
    · exfalso
      have hm : b ∈ cs := by simpa using hc
      obtain ⟨i, hi⟩ := List.mem_iff_getElem?.1 hm
      have := ha i b hi
      omega
attribute [local go_sem ↓ high] slice_fromS
set_option maxRecDepth 1000000 in
set_option maxHeartbeats 2000000 in
theorem indexAny_any (s cs : List UInt8) (w : World) (h2 : 2 ≤ cs.length) (hcs : cs.length ≤ 1000) (hs : s.length ≤ 1000000) (ha : ∀ (j : Nat) b, cs[j]? = some b → b.toNat < 128) :
    Calls Tryd.prog 67 #[.string ⟨s.toArray⟩, .string ⟨cs.toArray⟩] w fun e w' => e = .returned (.int .i64 (Lib.indexAny s cs)) ∧ Below w.heap.size w w' := by
  by_cases h8 : 8 < s.length
  · exact indexAny_long s cs w h2 h8 (by omega) (by omega) ha
  · have hsz := arr_size s
    have hcz := arr_size cs
    have HA := Lib.hid ha
    have hemp : cs.isEmpty = false := by
      cases cs with
      | nil => simp at h2
      | cons _ _ => rfl
    have hn1 : ((cs.length : Int) == 1) = false := beq_eq_false_iff_ne.2 (by omega)
    have U1 : Hid (∀ W, Calls Tryd.prog 85 #[.int .i64 (s.length : Int)] W fun e w' => e = .returned (.bool false) ∧ W = w') := Lib.hid fun W => by
      have h := useSet_any (s.length : Int) W
      rw [decide_eq_false (by omega)] at h
      exact h.mono fun e w' ⟨a, b⟩ => ⟨a, b.symm⟩
    have HN := Lib.hid (fun (h : NoAny s cs s.length) => indexAny_none h)
    have HH := Lib.hid (fun i x (h : NoAny s cs i) hx hc => indexAny_hit (s := s) (chars := cs) (i := i) (x := x) h hx hc)
    obtain ⟨R, hR⟩ : ∃ R, Lib.indexAny s cs = R := ⟨_, rfl⟩
    rw [hR] at HN HH ⊢
    clear hR ha
    go_enter Tryd.func67, Tryd.ntmps67
    go_wp2_with (go_at_call 85; refine (U1.out _).mono ?_; rintro e w' ⟨rfl, rfl⟩)
    go_loopw [9, 10] (fun i c wr => ∃ pos : Nat, wr.heap[w.heap.size]? = some (.stringIter ⟨s.toArray⟩ pos) ∧ Below w.heap.size w wr ∧ pos ≤ s.length ∧ NoAny s cs pos) (fun _ _ wr => s.length - wr.iterPos w.heap.size)
    case atStart => exact ⟨0, World.iter_heap _ _ _, (Below.refl _ _).alloc (Nat.le_refl _) _, by omega, NoAny.zero _ _⟩
    case round =>
      obtain ⟨pos, hit, hbw, hp, hno⟩ := hrel
      have HO := Lib.hid hno
      have HBW := Lib.hid hbw
      have hsw := hbw.size
      have HIT := Lib.hid hit
      clear hno
      by_cases hlt : pos < s.length
      · have hps : pos < (⟨s.toArray⟩ : ByteArray).size := by rw [hsz]; exact hlt
        obtain ⟨x, hx⟩ : ∃ x, s[pos]? = some x := ⟨s[pos], List.getElem?_eq_getElem hlt⟩
        have hxx : (⟨s.toArray⟩ : ByteArray)[pos]'hps = x := by
          have := (List.getElem?_eq_some_iff.1 hx).2
          show s.toArray[pos]'_ = x
          simpa using this
        by_cases h128 : x.toNat < 128
        · have hnx := fun ty => run_next_ascii_at (P := Tryd.prog) wr w.heap.size ⟨s.toArray⟩ pos ty hit hps (by rw [hxx]; exact h128)
          rw [hxx] at hnx
          have I1 : Hid (∀ W, Calls Tryd.prog 84 #[.string ⟨cs.toArray⟩, .int .i32 (x.toNat : Int)] W fun e w' => e = .returned (.int .i64 (Lib.indexByte cs x)) ∧ W = w') := Lib.hid fun W => by
            have h := indexRune_ascii cs (x.toNat : Int) W (by omega) (by omega)
            have e : ((x.toNat : Int)).toNat.toUInt8 = x := by simp
            rw [e] at h
            exact h.mono fun e w' ⟨a, b⟩ => ⟨a, b.symm⟩
          have hcon := contains_iff_indexByte cs x
          have hit2 := Lib.iterAt_heap wr w.heap.size ⟨s.toArray⟩ pos (pos + 1) hit
          have hb2 := Lib.below_iterAt hbw (k := w.heap.size) (Nat.le_refl _) ⟨s.toArray⟩ (pos + 1)
          have HX := Lib.hid hx
          cases hin : cs.contains x
          · rw [hin] at hcon
            have hlt0 : ¬ ((0 : Int) ≤ Lib.indexByte cs x) := of_decide_eq_false hcon.symm
            have HY := Lib.hid (HO.out.succ hx hin)
            have H2 := Lib.hid (And.intro hit2 hb2)
            generalize Lib.indexByte cs x = ib at I1 hlt0
            clear hcon hin hx hxx hit hbw hit2 hb2 HO HN HH
            go_wp2_with (go_at_call 84; refine (I1.out _).mono ?_; rintro e w' ⟨rfl, rfl⟩)
            go_roundw
            case rel => exact ⟨pos + 1, H2.out.1, H2.out.2, by omega, HY.out⟩
            case measure => simp only [World.iterPos, H2.out.1, HIT.out]; omega
          · rw [hin] at hcon
            have hge0 : (0 : Int) ≤ Lib.indexByte cs x := of_decide_eq_true hcon.symm
            have e := HH.out pos x HO.out hx hin
            subst e
            have H2 := Lib.hid hb2
            generalize Lib.indexByte cs x = ib at I1 hge0
            clear hcon hin hx hxx hit hbw hit2 hb2 HO HN HH
            go_wp2_with (go_at_call 84; refine (I1.out _).mono ?_; rintro e w' ⟨rfl, rfl⟩)
            go_ret
            exact ⟨rfl, H2.out⟩
        · have hnx := fun ty => run_next_any_at (P := Tryd.prog) wr w.heap.size ⟨s.toArray⟩ pos ty hit hps
          obtain ⟨⟨c0, c1⟩, k1, k2, kb⟩ := high_bytes hx (by omega)
          have HY := Lib.hid (noAny_more HO.out HA.out kb)
          have hit2 := Lib.iterAt_heap wr w.heap.size ⟨s.toArray⟩ pos (pos + (Utf8.decode ⟨s.toArray⟩ pos).2) hit
          have hb2 := Lib.below_iterAt hbw (k := w.heap.size) (Nat.le_refl _) ⟨s.toArray⟩ (pos + (Utf8.decode ⟨s.toArray⟩ pos).2)
          generalize Utf8.decode ⟨s.toArray⟩ pos = dk at *
          obtain ⟨dc, dn⟩ := dk
          simp only at hnx c0 c1 k1 k2 HY hit2 hb2
          have I1 : Hid (∀ W, Calls Tryd.prog 84 #[.string ⟨cs.toArray⟩, .int .i32 (dc : Int)] W fun e w' => e = .returned (.int .i64 (-1)) ∧ Below W.heap.size W w') := Lib.hid fun W => by
            by_cases ho : (dc : Int) = 65533
            · rw [ho]; exact indexRune_odd cs HA.out W
            · exact indexRune_high cs HA.out dc (by omega) (by omega) ho W
          have H2 := Lib.hid (And.intro hit2 hb2)
          obtain ⟨W2, hW2⟩ : ∃ W2, wr.iterAt w.heap.size ⟨s.toArray⟩ (pos + dn) = W2 := ⟨_, rfl⟩
          rw [hW2] at hnx H2
          clear hx hxx hit hbw hit2 hb2 HO HN HH kb hW2
          go_wp2_with fail
          refine (I1.out _).mono ?_
          rintro e w1 ⟨rfl, b1⟩
          have hlt2 : w.heap.size < W2.heap.size := (Array.getElem?_eq_some_iff.1 H2.out.1).1
          have H3 : Hid (w1.heap[w.heap.size]? = some (.stringIter ⟨s.toArray⟩ (pos + dn)) ∧ Below w.heap.size w w1) :=
            Lib.hid ⟨(b1.block _ hlt2).trans H2.out.1, H2.out.2.trans (b1.mono (by omega))⟩
          clear b1 hnx
          go_wp2_with fail
          go_roundw
          case rel => exact ⟨pos + dn, H3.out.1, H3.out.2, by omega, HY.out⟩
          case measure => simp only [World.iterPos, H3.out.1, HIT.out]; omega
      · obtain rfl : pos = s.length := by omega
        have hnx := fun ty => run_next_end_at (P := Tryd.prog) wr w.heap.size ⟨s.toArray⟩ s.length ty hit (by rw [hsz]; omega)
        have e := HN.out HO.out
        subst e
        clear hit hbw HO HN HH
        go_wp2_with fail
        go_ret
        exact ⟨rfl, HBW.out⟩

theorem containsAny_any (s cs : List UInt8) (w : World) (h2 : 2 ≤ cs.length) (hcs : cs.length ≤ 1000) (hs : s.length ≤ 1000000) (ha : ∀ (j : Nat) b, cs[j]? = some b → b.toNat < 128) :
    Calls Tryd.prog 50 #[.string ⟨s.toArray⟩, .string ⟨cs.toArray⟩] w fun e w' => e = .returned (.bool (s.any (cs.contains ·))) ∧ Below w.heap.size w w' := by
  have H := Lib.hid (indexAny_any s cs w h2 hcs hs ha)
  have hd : s.any (cs.contains ·) = decide (0 ≤ Lib.indexAny s cs) := by
    clear H hs
    induction s with
    | nil => rfl
    | cons b l ih =>
      have hge := indexAny_ge cs l
      rw [List.any_cons, ih]
      conv => rhs; unfold Lib.indexAny
      cases hb : cs.contains b
      · simp only [Bool.false_or, Bool.false_eq_true, if_false]
        by_cases hm : Lib.indexAny l cs = -1
        · rw [hm]; rfl
        · have h1 : (Lib.indexAny l cs == -1) = false := by simpa using hm
          rw [h1]
          simp only [Bool.false_eq_true, if_false]
          apply bool_of_iff
          simp only [decide_eq_true_eq]
          omega
      · simp
  rw [hd]
  generalize Lib.indexAny s cs = R at H ⊢
  clear hd ha
  go_enter Tryd.func50, Tryd.ntmps50
  go_wp2_with fail
  refine H.out.mono ?_
  rintro e w1 ⟨rfl, b1⟩
  go_wp2_with fail
  go_ret
  exact ⟨by first | rfl | (refine ret_bool ?_; simp), b1⟩
end Go.Proofs.YteckiifnldcjbaaDoor
