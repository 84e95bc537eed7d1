/- The law DiagPlaces returns true at every input. -/
import Derived.Test.YtalopkplpbdgjaaDoorSh
import Derived.Test.YtalopkplpbdgjaaDoorL2
namespace Go.Proofs.YtalopkplpbdgjaaDoor

theorem place_of (es : List D) (d : D) (h : So es 0 es.length) : ∀ n, n ≤ es.length → ∃ k, k ≤ n ∧ (∀ p, p < k → ¬ cmpD d (at' es p) < 0) ∧ (∀ p, k ≤ p → p < n → cmpD d (at' es p) < 0)
  | 0, _ => ⟨0, Nat.le_refl _, fun p hp => absurd hp (Nat.not_lt_zero _), fun p _ hp => absurd hp (Nat.not_lt_zero _)⟩
  | n + 1, hn => by
    obtain ⟨k, hk, h1, h2⟩ := place_of es d h n (by omega)
    by_cases hc : cmpD d (at' es n) < 0
    · refine ⟨k, by omega, h1, fun p e1 e2 => ?_⟩
      by_cases e : p = n
      · rw [e]; exact hc
      · exact h2 p e1 (by omega)
    · refine ⟨n + 1, Nat.le_refl _, fun p hp => ?_, fun p e1 e2 => by omega⟩
      have e : leD (at' es p) (at' es n) := h.le (Nat.zero_le _) (by omega) (by omega)
      exact leD_trans e hc
theorem cmpD_self (d : D) : ¬ cmpD d d < 0 := leD_refl d

/-- The one more, sorted in. -/
theorem places_eq {es ms : List D} {d : D} (h : So es 0 es.length) (hm : So ms 0 ms.length) (hp : ms.Perm (es ++ [d])) :
    ∃ k, k ≤ es.length ∧ ms = insD es k d ∧ (∀ p, p < k → ¬ cmpD d (at' es p) < 0) ∧ (∀ p, k ≤ p → p < es.length → cmpD d (at' es p) < 0) := by
  obtain ⟨k, hk, h1, h2⟩ := place_of es d h es.length (Nat.le_refl _)
  refine ⟨k, hk, ?_, h1, h2⟩
  refine so_unique (hp.trans (insD_perm es k d).symm) (so_insD hk h ?_ h2) hm
  by_cases e : k = 0
  · exact .inl e
  · exact .inr ⟨k - 1, by omega, h1 _ (by omega)⟩
theorem ins_same {es : List D} {d : D} {k i : Nat} (h : So es 0 es.length) (hk : k ≤ es.length) (h1 : ∀ p, p < k → ¬ cmpD d (at' es p) < 0) (hi : i < k) (he : at' es i = d) : at' (insD es k d) (i + 1) = d := by
  rw [at_insD es k d hk]
  by_cases e : i + 1 < k
  · rw [if_pos e]
    have e1 : leD (at' es i) (at' es (i + 1)) := h.le (Nat.zero_le _) (by omega) (by omega)
    rw [he] at e1
    exact leD_anti (h1 _ e) e1
  · rw [if_neg e, if_pos (by omega)]
theorem at_ne {es : List D} {d : D} {p : Nat} (h : cmpD d (at' es p) < 0) : at' es p ≠ d := fun e => by
  rw [e] at h
  exact cmpD_self d h
theorem take_at {es : List D} {i : Nat} (h : i < es.length) : es.take (i + 1) = es.take i ++ [at' es i] := take_one (at_some h)
theorem agg_ne {x d : D} (h : x ≠ d) : (x.1 == d.1 && x.2.1 == d.2.1 && x.2.2 == d.2.2) = false := by
  obtain ⟨a, b, c⟩ := x
  obtain ⟨a', b', c'⟩ := d
  simp only [ne_eq, Prod.mk.injEq] at h
  simp only [Bool.and_eq_false_iff, beq_eq_false_iff_ne]
  by_cases h1 : a = a'
  · by_cases h2 : b = b'
    · exact .inr (fun e => h ⟨h1, h2, e⟩)
    · exact .inl (.inr h2)
  · exact .inl (.inl h1)

open Go.RowKit Go.Shelf Go.Extern.Stop Go.Stop Go.Extern

attribute [local go_sem ↓ high] builtin_app30

/-- A slice's element, in every later world. -/
theorem SDiag.two {W : World} {v : Value} {ds : List D} (h : SDiag W v ds) {p : Nat} (hp : p < ds.length) : ∃ g off cap, v = .slice (some ⟨g, off, none⟩) ds.length cap ∧ g < W.heap.size ∧
    ∀ W', Below W.heap.size W W' → W'.cell? ⟨g, off + p * 3, none⟩ = some (.int .i64 (at' ds p).1) ∧ W'.cell? ⟨g, off + p * 3 + 1, none⟩ = some (.int .i64 (at' ds p).2.1) ∧ W'.cell? ⟨g, off + p * 3 + 2, none⟩ = some (.int .i64 (at' ds p).2.2) := by
  obtain ⟨a, cap, rfl, hc⟩ := h
  obtain ⟨g, off, rfl, h0, h1, h2⟩ := hc p _ (at_some hp)
  have hg := World.block_lt_of_cell? W _ h0
  simp only at hg
  exact ⟨g, off, cap, rfl, hg, fun W' hb => ⟨(hb.cell (p := ⟨g, off + p * 3, none⟩) hg).trans h0, (hb.cell (p := ⟨g, off + p * 3 + 1, none⟩) hg).trans h1, (hb.cell (p := ⟨g, off + p * 3 + 2, none⟩) hg).trans h2⟩⟩

set_option maxRecDepth 1000000 in
set_option maxHeartbeats 4000000 in
theorem places_any (v : Value) (ds : List D) (k l c : Int) (w : World) (h0 : SDiag w v ds) (hE : ErrType w) :
    Calls Tryd.prog 8 #[v, .agg #[.int .i64 k, .int .i64 l, .int .i64 c]] w fun e W' => e = .returned (.bool true) ∧ Below w.heap.size w W' := by
  have HE := Lib.hid hE
  clear hE
  have H0 := Lib.hid h0
  obtain ⟨a0, cap0, rfl⟩ := sd_len h0
  clear h0
  have BA := Lib.hid (heap_alloc_new w (.cells #[.int .i64 k, .int .i64 l, .int .i64 c] 29))
  have B0 := Lib.hid ((Below.refl w.heap.size w).alloc (Nat.le_refl _) (.cells #[.int .i64 k, .int .i64 l, .int .i64 c] 29))
  by_cases h40 : 40 < ds.length
  · have h40' : (40 : Int) < (ds.length : Int) := by omega
    go_enter Tryd.func8, Tryd.ntmps8
    go_wp2_with fail
    refine (known_any _ (errType_below HE.out B0.out)).mono ?_
    rintro e w1 ⟨rfl, b1⟩
    have B1 := Lib.hid (B0.out.trans (b1.mono B0.out.size))
    clear b1
    go_wp2_with fail
    go_ret
    exact ⟨rfl, B1.out⟩
  · have h40' : ¬ ((40 : Int) < (ds.length : Int)) := by omega
    have hle : ds.length ≤ 40 := by omega
    go_enter Tryd.func8, Tryd.ntmps8
    go_wp2_with fail
    obtain ⟨wA, hwA⟩ : ∃ wA, w.alloc (.cells #[.int .i64 k, .int .i64 l, .int .i64 c] 29) = wA := ⟨_, rfl⟩
    rw [hwA] at BA B0 ⊢
    clear hwA
    refine (sorted_any ds _ wA (H0.out.below B0.out) (by omega)).mono ?_
    rintro e w1 ⟨u, es, rfl, o1, p1, s1, b1⟩
    have hel : es.length = ds.length := p1.length_eq
    have O1 := Lib.hid o1.sd
    have S1 := Lib.hid s1
    have B1 := Lib.hid b1
    have hz1 := Lib.hid b1.size
    obtain ⟨a1, cap1, rfl⟩ := sd_len o1.sd
    clear o1 p1 s1 b1
    rw [hel] at O1 ⊢
    have HEL := Lib.hid hel
    go_wp2_with fail
    go_loopw [6] (fun vi wr => ∃ j : Nat, vi = .int .i64 j ∧ 1 ≤ j ∧ (j ≤ ds.length ∨ j = 1) ∧ Below w1.heap.size w1 wr) (fun vi _ => 1000 - (intOf vi).toNat)
    case atStart => exact ⟨1, rfl, by omega, by omega, Below.refl _ _⟩
    case round =>
      obtain ⟨j, rfl, hj1, hj2, hb⟩ := hrel
      have HB := Lib.hid hb
      have hbz := hb.size
      clear hb
      by_cases hlt : j < ds.length
      · have g1 : (j : Int) < (ds.length : Int) := by omega
        have g0 : (0 : Int) ≤ (j : Int) := by omega
        obtain ⟨q, hq⟩ : ∃ q : Nat, q + 1 = j := ⟨j - 1, by omega⟩
        have hqz : (j : Int) - 1 = (q : Int) := by omega
        have q1 : (q : Int) < (ds.length : Int) := by omega
        have q0 : (0 : Int) ≤ (q : Int) := by omega
        obtain ⟨g, off, cap, e1, hg, hc⟩ := O1.out.two (p := j) (by omega)
        obtain ⟨g', off', cap', e2, hg', hc'⟩ := O1.out.two (p := q) (by omega)
        obtain ⟨rfl, -, rfl⟩ : a1 = some ⟨g, off, none⟩ ∧ ds.length = es.length ∧ cap1 = cap := by simpa using e1
        obtain ⟨⟨rfl, rfl⟩, -, -⟩ : (g = g' ∧ off = off') ∧ ds.length = es.length ∧ cap1 = cap' := by simpa using e2
        have hle2 := S1.out q j (Nat.zero_le _) (by omega) (by omega)
        obtain ⟨⟨xk, xl, xc⟩, ex⟩ : ∃ x, at' es j = x := ⟨_, rfl⟩
        obtain ⟨⟨yk, yl, yc⟩, ey⟩ : ∃ x, at' es q = x := ⟨_, rfl⟩
        rw [ex] at hc hle2
        rw [ey] at hc' hle2
        rw [leD_iff] at hle2
        simp only at hle2 hc hc'
        obtain ⟨x0, x1, x2⟩ := hc wr HB.out
        obtain ⟨y0, y1, y2⟩ := hc' wr HB.out
        have hgr : g < wr.heap.size := Nat.lt_of_lt_of_le hg hbz
        have N1 := Lib.hid (((Below.refl wr.heap.size wr).alloc (Nat.le_refl _) (.cells #[.int .i64 yk, .int .i64 yl, .int .i64 yc] 29)).alloc (by simp) (.cells #[.int .i64 xk, .int .i64 xl, .int .i64 xc] 29))
        have NB := Lib.hid (HB.out.trans (N1.out.mono hbz))
        clear hc hc' ex ey e1 e2 hg hg' hq
        rcases hle2 with c1 | ⟨rfl, c1 | ⟨rfl, c1⟩⟩
        · have t1 : ¬ xl < yl := by omega
          have t2 : (xl == yl) = false := by simp; omega
          have t3 : ¬ xl = yl := by omega
          go_wp2_with fail
          go_roundw
          case rel => exact ⟨j + 1, by go_num, by omega, by omega, NB.out⟩
          case measure => simp [intOf]; omega
        · have t1 : ¬ xc < yc := by omega
          have t2 : (xc == yc) = false := by simp; omega
          have t3 : ¬ xc = yc := by omega
          go_wp2_with fail
          go_roundw
          case rel => exact ⟨j + 1, by go_num, by omega, by omega, NB.out⟩
          case measure => simp [intOf]; omega
        · have t1 : ¬ xk < yk := by omega
          go_wp2_with fail
          go_roundw
          case rel => exact ⟨j + 1, by go_num, by omega, by omega, NB.out⟩
          case measure => simp [intOf]; omega
      · have g1 : ¬ (j : Int) < (ds.length : Int) := by omega
        have HB1 := Lib.hid (O1.out.below HB.out)
        obtain ⟨x1, w2, f1, o2, b2⟩ := app_ownD (OwnD.nil wr.heap.size wr) HB1.out (Nat.le_refl _) (by simp; omega)
        rw [List.nil_append] at o2
        have ba : Below w2.heap.size w2 (w2.alloc (.cells #[.int .i64 k, .int .i64 l, .int .i64 c] 29)) := (Below.refl _ _).alloc (Nat.le_refl _) _
        have b2a := b2.trans (ba.mono b2.size)
        obtain ⟨x2, w3, f2, o3, b3⟩ := app_ownD (o2.below ba) (SDiag.new (d := (k, l, c)) (heap_alloc_new w2 _)) b2a.size (by simp; omega)
        try simp only at f2
        have hA2 : Below wA.heap.size wA w2 := B1.out.trans ((HB.out.trans (b2.mono hbz)).mono hz1.out)
        obtain ⟨d0, d1, d2, _, _, _⟩ := three_below BA.out hA2
        have H3 := Lib.hid (HB.out.trans ((b2a.trans b3).mono hbz))
        have O3 := Lib.hid o3.sd
        clear o2 b2 ba b2a o3 b3 hA2
        go_wp2_with fail
        refine (sorted_any (es ++ [(k, l, c)]) x2 w3 O3.out (by simp; omega)).mono ?_
        rintro e w4 ⟨u4, ms, rfl, o4, p4, s4, b4⟩
        obtain ⟨K, hK, hms, hlo, hhi⟩ := places_eq S1.out s4 p4
        obtain ⟨N, hN⟩ : ∃ N, ds.length + 1 = N := ⟨_, rfl⟩
        have hml : ms.length = N := by rw [hms, insD_length _ _ _ hK, hel]; exact hN
        have AT := Lib.hid (fun p => at_insD es K (k, l, c) hK p)
        have SAME := Lib.hid (fun p (hp : p < K) (he : at' es p = (k, l, c)) => ins_same S1.out hK hlo hp he)
        rw [← hms] at AT SAME
        have HHI := Lib.hid hhi
        have H4 := Lib.hid (H3.out.trans (b4.mono H3.out.size))
        have O4 := Lib.hid o4.sd
        obtain ⟨a4, cap4, rfl⟩ := sd_len o4.sd
        have hz4 := Lib.hid (H4.out.size)
        have OA : Hid (Below wA.heap.size wA w4) := Lib.hid (B1.out.trans (H4.out.mono hz1.out))
        clear o4 p4 s4 b4 hms hlo hhi HB1 f1 f2 d0 d1 d2
        rw [hml] at O4 ⊢
        have HML := Lib.hid hml
        go_wp2_with fail
        go_loopw [11, 12, 13] (fun vr vo vi wr => ∃ (i : Nat) (o : Bool), i ≤ N ∧ vi = .int .i64 i ∧ vo = .bool o ∧ (o = true ↔ K < i) ∧ OwnD w4.heap.size wr vr (es.take (if i ≤ K then i else i - 1)) ∧ Below w4.heap.size w4 wr) (fun _ _ vi _ => N - (intOf vi).toNat)
        case atStart => exact ⟨0, false, Nat.zero_le _, rfl, rfl, by simp, by simpa using OwnD.nil w4.heap.size w4, Below.refl _ _⟩
        case round =>
          obtain ⟨i, o, hi, rfl, rfl, ho, hr, hbl⟩ := hrel
          have HR := Lib.hid hr
          have HL := Lib.hid hbl
          have hlz := hbl.size
          have HOI := Lib.hid ho
          clear hr hbl ho
          by_cases hin : i < N
          · have g1' : (i : Int) < (N : Int) := by omega
            have g0' : (0 : Int) ≤ (i : Int) := by omega
            obtain ⟨g, off, cap, e1, hg, hc⟩ := O4.out.two (p := i) (by omega)
            obtain ⟨rfl, -, rfl⟩ : a4 = some ⟨g, off, none⟩ ∧ N = ms.length ∧ cap4 = cap := by simpa using e1
            obtain ⟨d0, d1, d2, _, _, _⟩ := three_below BA.out (OA.out.trans (HL.out.mono (OA.out.size)))
            have hgr : g < wr.heap.size := Nat.lt_of_lt_of_le hg hlz
            obtain ⟨i2, hi2⟩ : ∃ i2, i + 1 = i2 := ⟨_, rfl⟩
            have hi2z : (i : Int) + 1 = (i2 : Int) := by omega
            by_cases hik : i = K
            · -- the one more itself
              have ea := AT.out i
              rw [if_neg (by omega), if_pos hik] at ea
              rw [ea] at hc
              simp only at hc
              obtain ⟨c0, c1, c2⟩ := hc wr HL.out
              obtain rfl : o = false := by
                cases o with
                | false => rfl
                | true => exact absurd (HOI.out.1 rfl) (by omega)
              have q1 : ∀ W : World, (binOp .eql 29 (.agg #[.int .i64 k, .int .i64 l, .int .i64 c]) (.agg #[.int .i64 k, .int .i64 l, .int .i64 c])).run Tryd.prog W = .ok (.bool true) W := fun W => by rw [eql29_any]; simp
              have HRR : Hid (es.take (if i + 1 ≤ K then i + 1 else i + 1 - 1) = es.take (if i ≤ K then i else i - 1)) := by
                show _ = _
                rw [if_neg (by omega), if_pos (by omega)]
                rfl
              have hiff : Hid ((true = true) ↔ K < i + 1) := by show _ ↔ _; simp; omega
              have hKes : K < es.length ↔ ¬ i2 = N := by have := HML.out; omega
              have hi2K : i2 = K + 1 := by omega
              have HI2K := Lib.hid hi2K
              have HKES := Lib.hid hKes
              clear hik hi2K hKes
              by_cases hl2 : i2 = N
              · have t1 : ((i2 : Int) == (N : Int)) = true := by simp; omega
                have t2 : (i2 : Int) = (N : Int) := by omega
                clear hc ea e1 hi2 hl2
                go_wp2_with fail
                go_quiet (fail)
                go_wp2_with fail
                go_roundw
                case rel => exact ⟨i + 1, true, by omega, by go_num, rfl, by have := hiff.out; simpa using this, by rw [HRR.out]; exact HR.out.below (below_drewN (Below.refl _ _) _), below_drewN HL.out _⟩
                case measure => simp [intOf]; omega
              · have t1 : ((i2 : Int) == (N : Int)) = false := by simp; omega
                have t2 : ¬ (i2 : Int) = (N : Int) := by omega
                have g2' : (i2 : Int) < (N : Int) := by omega
                have g20 : (0 : Int) ≤ (i2 : Int) := by omega
                obtain ⟨g', off', cap', e2, hg', hc'⟩ := O4.out.two (p := i2) (by omega)
                obtain ⟨⟨rfl, rfl⟩, -, -⟩ : (g = g' ∧ off = off') ∧ N = ms.length ∧ cap4 = cap' := by simpa using e2
                have eb := AT.out i2
                rw [if_neg (by have := HI2K.out; omega), if_neg (by have := HI2K.out; omega), show i2 - 1 = K by have := HI2K.out; omega] at eb
                have ne := at_ne (HHI.out K (Nat.le_refl _) (HKES.out.2 hl2))
                rw [eb] at hc'
                obtain ⟨⟨yk, yl, yc⟩, ey⟩ : ∃ y, at' es K = y := ⟨_, rfl⟩
                rw [ey] at hc' ne
                simp only at hc'
                obtain ⟨y0, y1, y2⟩ := hc' wr HL.out
                have q2 : ∀ W : World, (binOp .neq 29 (.agg #[.int .i64 yk, .int .i64 yl, .int .i64 yc]) (.agg #[.int .i64 k, .int .i64 l, .int .i64 c])).run Tryd.prog W = .ok (.bool true) W := fun W => by rw [neq29_any, agg_ne (x := (yk, yl, yc)) (d := (k, l, c)) ne]; rfl
                clear hc ea e1 hi2 hc' eb ey e2 hg' ne hl2
                go_wp2_with fail
                go_quiet (fail)
                go_wp2_with fail
                go_roundw
                case rel => exact ⟨i + 1, true, by omega, by go_num, rfl, by have := hiff.out; simpa using this, by rw [HRR.out]; exact HR.out.below (below_drewN (Below.refl _ _) _), below_drewN HL.out _⟩
                case measure => simp [intOf]; omega
            · -- one of the others
              obtain ⟨p, hp, hpe, ea, hcs⟩ : ∃ p, p < es.length ∧ es.take (if i ≤ K then i else i - 1) = es.take p ∧ at' ms i = at' es p ∧ ((i < K ∧ p = i) ∨ (K < i ∧ p + 1 = i)) := by
                by_cases h : i < K
                · exact ⟨i, by omega, by rw [if_pos (by omega)], by rw [AT.out, if_pos h], .inl ⟨h, rfl⟩⟩
                · exact ⟨i - 1, by have := HML.out; omega, by rw [if_neg (by omega)], by rw [AT.out, if_neg h, if_neg hik], .inr ⟨by omega, by omega⟩⟩
              obtain ⟨⟨xk, xl, xc⟩, ex⟩ : ∃ x, at' es p = x := ⟨_, rfl⟩
              have HT : Hid (es.take (if i + 1 ≤ K then i + 1 else i + 1 - 1) = es.take p ++ [(xk, xl, xc)]) := by
                show _ = _
                rw [← ex, ← take_at hp]
                congr 1
                rcases hcs with ⟨h, e⟩ | ⟨h, e⟩
                · rw [if_pos (by omega)]; omega
                · rw [if_neg (by omega)]; omega
              rw [hpe] at HR
              rw [ea, ex] at hc
              simp only at hc
              have HC := Lib.hid hc
              obtain ⟨c0, c1, c2⟩ := hc wr HL.out
              by_cases hxd : ((xk, xl, xc) : D) = (k, l, c)
              · -- equal: ahead of the one more
                have hcs' : i < K := by
                  rcases hcs with ⟨h, e⟩ | ⟨h, e⟩
                  · exact h
                  · exact absurd (ex.trans hxd) (at_ne (HHI.out p (by omega) hp))
                obtain rfl : o = false := by
                  cases o with
                  | false => rfl
                  | true => exact absurd (HOI.out.1 rfl) (by omega)
                have hpi : p = i := by rcases hcs with ⟨h, e⟩ | ⟨h, e⟩ <;> omega
                have es2 := SAME.out i hcs' (by rw [← hpi, ex]; exact hxd)
                obtain ⟨rfl, rfl, rfl⟩ : xk = k ∧ xl = l ∧ xc = c := by simpa using hxd
                have q1 : ∀ W : World, (binOp .eql 29 (.agg #[.int .i64 xk, .int .i64 xl, .int .i64 xc]) (.agg #[.int .i64 xk, .int .i64 xl, .int .i64 xc])).run Tryd.prog W = .ok (.bool true) W := fun W => by rw [eql29_any]; simp
                have q2 := fun W => neq29 xk xl xc W
                have t1 : ((i2 : Int) == (N : Int)) = false := by simp; omega
                have t2 : ¬ (i2 : Int) = (N : Int) := by omega
                have g2' : (i2 : Int) < (N : Int) := by omega
                have g20 : (0 : Int) ≤ (i2 : Int) := by omega
                obtain ⟨g', off', cap', e2, hg', hc'⟩ := O4.out.two (p := i2) (by omega)
                obtain ⟨⟨rfl, rfl⟩, -, -⟩ : (g = g' ∧ off = off') ∧ N = ms.length ∧ cap4 = cap' := by simpa using e2
                rw [← hi2, es2, hi2] at hc'
                simp only at hc'
                obtain ⟨y0, y1, y2⟩ := hc' wr HL.out
                have hiff : Hid ((false = true) ↔ K < i + 1) := by show _ ↔ _; simp; omega
                clear hc ea e1 hc' e2 hg' es2 hxd ex hpe hcs
                go_wp2_with fail
                go_quiet (fail)
                obtain ⟨w5, hw5⟩ : ∃ w5, wr.drewN nq = w5 := ⟨_, rfl⟩
                have b5 : Below wr.heap.size wr w5 := by rw [← hw5]; exact below_drewN (Below.refl _ _) _
                rw [hw5]
                clear hw5
                have hz5 : Below w4.heap.size w4 w5 := HL.out.trans (b5.mono hlz)
                obtain ⟨gx, k5, r5, o5, h5⟩ := app_ownD ((HR.out.below b5).below ((Below.refl _ w5).alloc (Nat.le_refl _) (.cells #[.int .i64 xk, .int .i64 xl, .int .i64 xc] 29))) (SDiag.new (d := (xk, xl, xc)) (heap_alloc_new w5 _)) (by have := hz5.size; simp; omega) (by rw [List.length_take]; simp; omega)
                try simp only at r5
                obtain ⟨z0, z1, z2⟩ := HC.out w5 hz5
                have O5 := Lib.hid o5
                have H5 := Lib.hid ((hz5.alloc hz5.size _).trans h5)
                clear o5 h5 hz5
                go_wp2_with fail
                go_roundw
                case rel => exact ⟨i + 1, false, by omega, by go_num, rfl, hiff.out, by rw [HT.out]; exact O5.out, H5.out⟩
                case measure => simp [intOf]; omega
              · have q1 : ∀ W : World, (binOp .eql 29 (.agg #[.int .i64 xk, .int .i64 xl, .int .i64 xc]) (.agg #[.int .i64 k, .int .i64 l, .int .i64 c])).run Tryd.prog W = .ok (.bool false) W := fun W => by rw [eql29_any, agg_ne (x := (xk, xl, xc)) (d := (k, l, c)) hxd]
                have hiff : Hid ((o = true) ↔ K < i + 1) := by
                  show _ ↔ _
                  have := HOI.out
                  rcases hcs with ⟨h, e⟩ | ⟨h, e⟩
                  · constructor
                    · intro h1; have := this.1 h1; omega
                    · intro h1; omega
                  · constructor
                    · intro h1; omega
                    · intro h1; exact this.2 h
                clear hc ea e1 hxd ex hpe hcs
                go_wp2_with fail
                go_quiet (fail)
                obtain ⟨w5, hw5⟩ : ∃ w5, wr.drewN nq = w5 := ⟨_, rfl⟩
                have b5 : Below wr.heap.size wr w5 := by rw [← hw5]; exact below_drewN (Below.refl _ _) _
                rw [hw5]
                clear hw5
                have hz5 : Below w4.heap.size w4 w5 := HL.out.trans (b5.mono hlz)
                obtain ⟨gx, k5, r5, o5, h5⟩ := app_ownD ((HR.out.below b5).below ((Below.refl _ w5).alloc (Nat.le_refl _) (.cells #[.int .i64 xk, .int .i64 xl, .int .i64 xc] 29))) (SDiag.new (d := (xk, xl, xc)) (heap_alloc_new w5 _)) (by have := hz5.size; simp; omega) (by rw [List.length_take]; simp; omega)
                try simp only at r5
                obtain ⟨z0, z1, z2⟩ := HC.out w5 hz5
                have O5 := Lib.hid o5
                have H5 := Lib.hid ((hz5.alloc hz5.size _).trans h5)
                clear o5 h5 hz5
                go_wp2_with fail
                go_roundw
                case rel => exact ⟨i + 1, o, by omega, by go_num, rfl, hiff.out, by rw [HT.out]; exact O5.out, H5.out⟩
                case measure => simp [intOf]; omega
          · obtain rfl : i = N := by omega
            obtain rfl : o = true := HOI.out.2 (by have := HML.out; omega)
            have HES : Hid (es.take (if i ≤ K then i else i - 1) = es) := by
              show _ = _
              rw [if_neg (by omega)]
              exact List.take_of_length_le (by omega)
            rw [HES.out] at HR
            have SS := Lib.hid (O1.out.below (H4.out.trans (HL.out.mono hz4.out)))
            have HRS := Lib.hid HR.out.sd
            have OW := Lib.hid (B0.out.trans ((OA.out.trans (HL.out.mono OA.out.size)).mono B0.out.size))
            go_wp2_with fail
            refine (same_true _ _ es wr (by omega) HRS.out SS.out).mono ?_
            rintro e w6 ⟨rfl, b6⟩
            have OW6 := Lib.hid (OW.out.trans (b6.mono OW.out.size))
            clear b6
            go_wp2_with fail
            refine (known_any _ (errType_below HE.out OW6.out)).mono ?_
            rintro e w7 ⟨rfl, b7⟩
            have OW7 := Lib.hid (OW6.out.trans (b7.mono OW6.out.size))
            clear b7
            go_wp2_with fail
            go_ret
            exact ⟨rfl, OW7.out⟩
end Go.Proofs.YtalopkplpbdgjaaDoor
