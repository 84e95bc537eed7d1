/- lines.Write, of rows that are small. -/
import Derived.Test.YteckiifnldcjbaaDoorKT
namespace Go.Proofs.YteckiifnldcjbaaDoor
open Go.RowKit
attribute [local go_sem ↓ high] binop_eqlS binop_neqS binop_addS

/-- A builder in a block of its own, and what it holds. -/
abbrev Bd (B b : Nat) (tx : List UInt8) (W : World) : Prop := Lib.IsBuilderF 58 5 B b (Lib.byteCells tx) W
theorem byteCells_app (a c : List UInt8) : Lib.byteCells (a ++ c) = Lib.byteCells a ++ Lib.byteCells c := by rw [← flat_bytes, flatV_app, flat_bytes, flat_bytes]
theorem Bd.keep {B b : Nat} {tx : List UInt8} {W W' : World} (h : Bd B b tx W) (hb : Below W.heap.size W W') : Bd B b tx W' := by
  have key : ∀ p, Lib.BuilderAtF 58 5 B b p (Lib.byteCells tx) W → Lib.BuilderAtF 58 5 B b p (Lib.byteCells tx) W' := fun p h => by
    have hlt := h.lt
    obtain ⟨hB, v, h0, hown, hne⟩ := h
    exact ⟨hB, v, (hb.block b hlt).trans h0, hown.kept (row := none) ⟨hb.os, hb.tape, hb.output, hb.size, fun k hk _ => hb.block k hk⟩ (by cases v.ownBlock <;> simp), hne⟩
  rcases h with h | h
  · exact .inl (key _ h)
  · exact .inr (key _ h)
theorem Bd.new (w : World) : Bd w.heap.size w.heap.size [] (w.alloc (.cells #[.pointer none, .slice none 0 0] 58)) :=
  .inl ⟨Nat.le_refl _, .slice none 0 0, heap_alloc_new w _, ⟨rfl, .inl ⟨rfl, rfl⟩⟩, by simp [Value.ownBlock]⟩
theorem bw_any (B b : Nat) (tx s : List UInt8) (w : World) (h : Bd B b tx w) (hlen : tx.length + s.length ≤ 1000000) (hBw : B ≤ w.heap.size) :
    Calls Tryd.prog 35 #[.pointer (some ⟨b, 0, none⟩), .string ⟨s.toArray⟩] w fun e w' => e = .returned (.tuple #[.int .i64 s.length, .nilIface]) ∧ Bd B b (tx ++ s) w' ∧ Below B w w' ∧ Lib.OthersKept 5 (some b) w w' := by
  have hl : (Lib.byteCells tx).length = tx.length := by simp [Lib.byteCells]
  refine (bwrite_any B b (Lib.byteCells tx) s w h (by omega) hBw).mono ?_
  rintro e w' ⟨he, h1, h2, h3⟩
  refine ⟨he, .inr ?_, h2, h3⟩
  rw [byteCells_app]
  exact h1
theorem wr1_text {y : Row} (h : isT y.2.1 y.2.2.1 y.2.2.2 = true) : wr1 y = y.2.2.2 ++ [10] := by
  have hm : y.2.1 = [] := by
    unfold isT at h
    simp at h
    exact h.1.1.1.1
  unfold wr1 okRow
  rw [h, hm]
  simp
theorem wr1_mac {y : Row} (h0 : isT y.2.1 y.2.2.1 y.2.2.2 = false) (h : isM y.2.1 y.2.2.1 y.2.2.2 = true) : wr1 y = 46 :: (y.2.1 ++ sepq y.2.2.1) ++ [10] := by
  have hm : y.2.1 ≠ [] := by
    unfold isM at h
    simp at h
    exact h.1.1.1.1.1
  unfold wr1 okRow
  rw [h0, h, if_neg hm]
  simp
theorem wr1_no {y : Row} (h0 : isT y.2.1 y.2.2.1 y.2.2.2 = false) (h : isM y.2.1 y.2.2.1 y.2.2.2 = false) : wr1 y = [] := by
  unfold wr1 okRow
  rw [h0, h]
  simp

set_option maxRecDepth 100000 in
set_option maxHeartbeats 8000000 in
theorem write_any (l : List Row) (v : Value) (w : World) (hM : Mx w) (hv : Rws w v l) (hs : rowsLen l ≤ 2000) (hl : l.length ≤ 2000) :
    Calls Tryd.prog 20 #[v] w fun e w' => e = .returned (.string ⟨(wrs l).toArray⟩) ∧ Below w.heap.size w w' := by
  have HV := Lib.hid hv
  have HM := Lib.hid hM
  obtain ⟨aa, ca, rfl⟩ := hv.len
  have HL := Lib.hid (wrs_len)
  have HN0 := Lib.hid (Bd.new w)
  have HN1 := Lib.hid (below_lit w (.cells #[.pointer none, .slice none 0 0] 58))
  clear hv hM
  go_enter Tryd.func20, Tryd.ntmps20
  go_wp2_with fail
  go_loopw [10] (fun i wr => ∃ p : Nat, i = .int .i64 (p : Int) ∧ p ≤ l.length ∧ Hid (Bd w.heap.size w.heap.size (wrs (l.take p)) wr) ∧ Hid (Below w.heap.size w wr)) (fun i _ => l.length - (intOf i).toNat)
  case atStart => exact ⟨0, rfl, by omega, HN0, HN1⟩
  case round =>
    obtain ⟨p, rfl, hp, hbd, BB⟩ := hrel
    have hsz := BB.out.size
    by_cases hlt : p < l.length
    · obtain ⟨y, hy⟩ : ∃ y, l[p]? = some y := ⟨l[p], List.getElem?_eq_getElem hlt⟩
      have HN := Lib.hid (wrs_next hy)
      have hyl := rowLen_le (List.mem_iff_getElem?.2 ⟨p, hy⟩)
      have hw1 := wrs_len (l.take p)
      have hw2 := rowsLen_take l p
      obtain ⟨s, hse⟩ : ∃ s, wrs (l.take p) = s := ⟨_, rfl⟩
      rw [hse] at hw1 HN hbd
      obtain ⟨g, off, rfl, c0, c1, ⟨a1, n1, p1, c2, s2⟩, c3⟩ := HV.out.at hy
      replace c0 := (BB.out.cell (World.block_lt_of_cell? w _ c0)).trans c0
      replace c1 := (BB.out.cell (World.block_lt_of_cell? w _ c1)).trans c1
      replace c2 := (BB.out.cell (World.block_lt_of_cell? w _ c2)).trans c2
      replace c3 := (BB.out.cell (World.block_lt_of_cell? w _ c3)).trans c3
      have hlt' : (p : Int) < (l.length : Int) := by omega
      have hp0 : (0 : Int) ≤ (p : Int) := by omega
      unfold rowLen at hyl
      obtain ⟨y0, y1, y2, y3⟩ := y
      simp only at c0 c1 c2 c3 s2 hyl
      have hel : ∀ x ∈ y2, x.length ≤ 2000 := fun x hx => by have := tot_mem hx; omega
      have bl := below_lit wr (.cells #[.int .i64 y0, .string ⟨y1.toArray⟩, .slice a1 n1 p1, .string ⟨y3.toArray⟩] 34)
      have hb0 : Blk (wr.alloc (.cells #[.int .i64 y0, .string ⟨y1.toArray⟩, .slice a1 n1 p1, .string ⟨y3.toArray⟩] 34)) wr.heap.size 34 [.int .i64 y0, .string ⟨y1.toArray⟩, .slice a1 n1 p1, .string ⟨y3.toArray⟩] := heap_alloc_new wr _
      have hC := isText_any y0 y1 (a1, n1, p1) y2 y3 _ ((s2.below BB.out).below bl) (by omega)
      have HC := Lib.hid hC
      unfold rowV avOf at HC
      have HEL := Lib.hid hel
      have HS2 := Lib.hid s2
      have BL := Lib.hid bl
      have HB0 := Lib.hid hb0
      have bd1 := Lib.hid (hbd.out.keep bl)
      have hk : w.heap.size < wr.heap.size ∨ w.heap.size ≠ wr.heap.size := by
        have := hbd.out.elim (fun h => h.lt) (fun h => h.lt)
        exact .inl this
      have HM1 := Lib.hid (HM.out.below (Nat.le_refl _) (BB.out))
      obtain ⟨aw, cw, haw⟩ := s2.len
      injection haw with e1 e2 e3
      subst e1 e2 e3
      clear hC hel hse hy s2 hbd bl hb0
      go_wp2_with fail
      refine HC.out.mono ?_
      rintro e w1 ⟨rfl, b1⟩
      have B1 := Lib.hid (BB.out.trans ((BL.out.trans (b1.mono BL.out.size)).mono hsz))
      have D1 := Lib.hid (bd1.out.keep b1)
      have hb1 := HB0.out.below b1
      have R1 := Lib.hid hb1
      have f3 : w1.cell? ⟨wr.heap.size, 3, none⟩ = some (.string ⟨y3.toArray⟩) := hb1.cell 3
      have hz1 := B1.out.size
      obtain ⟨q, hq⟩ : ∃ q, isT y1 y2 y3 = q := ⟨_, rfl⟩
      rw [hq]
      have HQ := Lib.hid hq
      clear hq b1 HC HB0 bd1 BL hb1
      cases q
      · have hb1 := R1.out
        have f0 : w1.cell? ⟨wr.heap.size, 0, none⟩ = some (.int .i64 y0) := hb1.cell 0
        have f1 : w1.cell? ⟨wr.heap.size, 1, none⟩ = some (.string ⟨y1.toArray⟩) := hb1.cell 1
        have f2 : w1.cell? ⟨wr.heap.size, 2, none⟩ = some (.slice a1 y2.length p1) := hb1.cell 2
        have hC := isMacro_any y0 y1 (a1, y2.length, p1) y2 y3 w1 (HS2.out.below B1.out) (by omega) (by omega) (fun x hx => by have := HEL.out x hx; omega)
        unfold rowV avOf at hC
        have HC := Lib.hid hC
        clear hC hb1
        go_wp2_with fail
        refine HC.out.mono ?_
        rintro e w2 ⟨rfl, b2⟩
        have B2 := Lib.hid (B1.out.trans (b2.mono hz1))
        have D2 := Lib.hid (D1.out.keep b2)
        have hb2 := R1.out.below b2
        have R2 := Lib.hid hb2
        have g1 : w2.cell? ⟨wr.heap.size, 1, none⟩ = some (.string ⟨y1.toArray⟩) := hb2.cell 1
        have hz2 := B2.out.size
        obtain ⟨q, hq⟩ : ∃ q, isM y1 y2 y3 = q := ⟨_, rfl⟩
        rw [hq]
        have HQ2 := Lib.hid hq
        clear hq b2 HC D1 B1 R1 hb2 f0 f1 f2 f3 hz1
        cases q
        · have hnl := wr1_no (y := (y0, y1, y2, y3)) HQ.out HQ2.out
          rw [hnl, List.append_nil] at HN
          go_wp2_with fail
          go_roundw
          case rel => exact ⟨p + 1, by go_num, by omega, by rw [HN.out]; exact D2, B2⟩
          case measure => simp [intOf]; omega
        · have hnl := wr1_mac (y := (y0, y1, y2, y3)) HQ.out HQ2.out
          rw [hnl] at HN
          simp only at HN
          have k1 := str_add [46] y1 (by simp; omega)
          obtain ⟨t1, ht1⟩ : ∃ t, ([46] : List UInt8) ++ y1 = t := ⟨_, rfl⟩
          have ht1l : t1.length = y1.length + 1 := by rw [← ht1]; simp
          rw [ht1] at k1
          have HT1 := Lib.hid ht1
          have W1 := Lib.hid (bw_any w.heap.size w.heap.size s t1 w2 D2.out (by omega) hz2)
          clear hnl ht1
          go_wp2_with fail
          refine W1.out.mono ?_
          rintro e w3 ⟨rfl, d3, b3, o3⟩
          have B3 := Lib.hid (B2.out.trans b3)
          have D3 := Lib.hid d3
          have hb3 : Blk w3 wr.heap.size 34 [.int .i64 y0, .string ⟨y1.toArray⟩, .slice a1 y2.length p1, .string ⟨y3.toArray⟩] :=
            o3 _ _ R2.out (fun e => by injection e with e; omega) (fun c fz e => by injection e with e1 e2 e3; exact absurd e2 (by decide))
          have g2 : w3.cell? ⟨wr.heap.size, 2, none⟩ = some (.slice a1 y2.length p1) := hb3.cell 2
          obtain ⟨S, hS⟩ : ∃ S, s ++ t1 = S := ⟨_, rfl⟩
          rw [hS] at D3
          have hSl : S.length = s.length + t1.length := by rw [← hS]; simp
          have HSE := Lib.hid hS
          clear d3 b3 o3 hb3 R2 D2 B2 W1 g1 hz2 k1 hS
          go_wp2_with fail
          go_loopw [30] (fun k wr3 => ∃ q : Nat, k = .int .i64 (q : Int) ∧ q ≤ y2.length ∧ Hid (Bd w.heap.size w.heap.size (S ++ sepq (y2.take q)) wr3) ∧ Hid (Below w.heap.size w wr3)) (fun k _ => y2.length - (intOf k).toNat)
          case atStart => exact ⟨0, rfl, by omega, by simpa [sepq_nil] using D3, B3⟩
          case round =>
            obtain ⟨q, rfl, hq, D4, B4⟩ := hrel
            have hsq := sepq_len (y2.take q)
            have htk := tot_take y2 q
            rw [List.length_take] at hsq
            have hz4 := B4.out.size
            obtain ⟨u1, hu1⟩ : ∃ t, sepq (y2.take q) = t := ⟨_, rfl⟩
            rw [hu1] at hsq D4
            have HU1 := Lib.hid hu1
            by_cases hql : q < y2.length
            · obtain ⟨x, hx⟩ : ∃ x, y2[q]? = some x := ⟨y2[q], List.getElem?_eq_getElem hql⟩
              have hxl := HEL.out x (List.mem_iff_getElem?.2 ⟨q, hx⟩)
              obtain ⟨g2, off2, hav, d0⟩ := Ss.at (HS2.out.below B4.out) hx
              subst hav
              have hql' : (q : Int) < (y2.length : Int) := by omega
              have hq0 : (0 : Int) ≤ (q : Int) := by omega
              have HSN := Lib.hid (sepq_next hx)
              have hqt := qt_len x
              have HQT := Lib.hid (quoted_any x _ (HM.out.below (Nat.le_refl _) B4.out) (by omega))
              have k3 := str_add [32] (qt x) (by simp; omega)
              obtain ⟨t, ht⟩ : ∃ t, ([32] : List UInt8) ++ qt x = t := ⟨_, rfl⟩
              have htl : t.length ≤ 2 * x.length + 3 := by rw [← ht]; simp; omega
              rw [ht] at k3
              have HT := Lib.hid ht
              clear hx ht hqt hu1
              go_wp2_with fail
              refine HQT.out.mono ?_
              rintro e w5 ⟨rfl, b5⟩
              have B5 := Lib.hid (B4.out.trans (b5.mono hz4))
              have hz5 := B5.out.size
              have W5 := Lib.hid (bw_any w.heap.size w.heap.size _ t w5 (D4.out.keep b5) (by simp; omega) hz5)
              clear b5 HQT D4
              go_wp2_with fail
              refine W5.out.mono ?_
              rintro e w6 ⟨rfl, d6, b6, -⟩
              have B6 := Lib.hid (B5.out.trans b6)
              have D6 := Lib.hid d6
              clear b6 d6 W5
              go_wp2_with fail
              go_roundw
              case rel => exact ⟨q + 1, by go_num, by omega, Lib.hid (by have h := D6.out; rw [HSN.out, HU1.out]; rw [← HT.out] at h; simpa using h), B6⟩
              case measure => simp [intOf]; omega
            · obtain rfl : q = y2.length := by omega
              have hql' : ¬ (y2.length : Int) < (y2.length : Int) := by omega
              rw [List.take_length] at HU1
              have W5 := Lib.hid (bw_any w.heap.size w.heap.size _ [10] _ D4.out (by simp; omega) hz4)
              clear hu1
              go_wp2_with fail
              refine W5.out.mono ?_
              rintro e w6 ⟨rfl, d6, b6, -⟩
              have B6 := Lib.hid (B4.out.trans b6)
              have D6 := Lib.hid d6
              clear b6 d6 W5 D4
              go_wp2_with fail
              go_roundw
              case rel => exact ⟨p + 1, by go_num, by omega, Lib.hid (by have h := D6.out; rw [HN.out, HU1.out]; rw [← HSE.out, ← HT1.out] at h; simpa using h), B6⟩
              case measure => simp [intOf]; omega
      · have hnl := wr1_text (y := (y0, y1, y2, y3)) HQ.out
        rw [hnl] at HN
        simp only at HN
        have W1 := Lib.hid (bw_any w.heap.size w.heap.size s y3 w1 D1.out (by omega) hz1)
        clear hnl
        go_wp2_with fail
        refine W1.out.mono ?_
        rintro e w2 ⟨rfl, d2, b2, -⟩
        have B2 := Lib.hid (B1.out.trans b2)
        have hz2 := B2.out.size
        have W2 := Lib.hid (bw_any w.heap.size w.heap.size _ [10] w2 d2 (by simp; omega) hz2)
        clear d2 b2 W1 D1 B1 R1
        go_wp2_with fail
        refine W2.out.mono ?_
        rintro e w3 ⟨rfl, d3, b3, -⟩
        have B3 := Lib.hid (B2.out.trans b3)
        have D3 := Lib.hid d3
        clear b3 d3 W2
        go_wp2_with fail
        go_roundw
        case rel => exact ⟨p + 1, by go_num, by omega, Lib.hid (by have h := D3.out; rw [HN.out]; simpa using h), B3⟩
        case measure => simp [intOf]; omega
    · obtain rfl : p = l.length := by omega
      have hlt' : ¬ (l.length : Int) < (l.length : Int) := by omega
      rw [List.take_length] at hbd
      have HS := Lib.hid (bstring_any w.heap.size w.heap.size (wrs l) wr hbd.out hsz)
      go_wp2_with fail
      refine HS.out.mono ?_
      rintro e w1 ⟨rfl, -, b1, -⟩
      have B1 := Lib.hid (BB.out.trans b1)
      clear b1 HS
      go_wp2_with fail
      go_ret
      exact ⟨rfl, B1.out⟩
end Go.Proofs.YteckiifnldcjbaaDoor
