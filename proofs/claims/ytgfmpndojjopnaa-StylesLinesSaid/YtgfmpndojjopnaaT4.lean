/- StylesLines: the walk. -/
import Derived.Test.YtgfmpndojjopnaaS7
import Derived.Test.YtgfmpndojjopnaaT2
import Derived.Deep.RegionHeld3
namespace Go.Proofs.Ytgfmpndojjopnaa
open Go.RowKit
attribute [local go_sem ↓ high] builtin_appT

theorem all_pl {b : List UInt8} {j : Nat} {x : UInt8} (h : ∀ y ∈ b.take j, plB y) (hx : b[j]? = some x) (hp : plB x) : ∀ y ∈ b.take (j + 1), plB y := by
  intro y hy
  rw [List.take_add_one, hx] at hy
  rcases List.mem_append.1 hy with hy | hy
  · exact h y hy
  · simp at hy; rw [hy]; exact hp
set_option maxRecDepth 100000 in
set_option maxHeartbeats 4000000 in
theorem linesL_any (p q : Int) (a c : List Tok) (b : List UInt8) (va vc : Value) (w : World) (ha : Ts w va a) (hc : Ts w vc c) (ma : a.length ≤ 1000000000000000) (mc : c.length ≤ 1000000000000000) :
    Calls Try.prog 6 #[.agg #[.int .u8 p, .int .u8 q], va, vc, .string ⟨b.toArray⟩] w fun e W' => e = .returned (.bool true) ∧ Below w.heap.size w W' := by
  have hsz : (⟨b.toArray⟩ : ByteArray).size = b.length := by simp [Go.Lib.size_eq]
  have bl := below_lit w (.cells #[.int .u8 p, .int .u8 q] 23)
  have hK := known_any (w.alloc (.cells #[.int .u8 p, .int .u8 q] 23))
  have hA := Fs.below ha bl
  have hC := Fs.below hc bl
  obtain ⟨aa, ca, rfl⟩ := ha.len
  obtain ⟨ac, cc, rfl⟩ := hc.len
  clear ha hc
  have za : (a.length : Int) ≤ 1000000000000000 := by omega
  have zc : (c.length : Int) ≤ 1000000000000000 := by omega
  have ya : (0 : Int) ≤ (a.length : Int) := by omega
  have yc : (0 : Int) ≤ (c.length : Int) := by omega
  by_cases h1 : 300 < a.length + c.length
  · have hz : (300 : Int) < (a.length : Int) + (c.length : Int) := by omega
    have HB := Lib.hid bl
    have HK := Lib.hid hK
    clear bl hK hA hC
    go_enter Try.func6, Try.ntmps6
    go_wp2_with fail
    refine HK.out.mono ?_
    rintro e w1 ⟨rfl, b1⟩
    go_wp2_with fail
    go_ret
    exact ⟨rfl, Below.chain HB.out b1⟩
  · have hz : ¬ (300 : Int) < (a.length : Int) + (c.length : Int) := by omega
    by_cases h2 : 500 < b.length
    · have hz2 : (500 : Int) < (b.length : Int) := by omega
      have HB := Lib.hid bl
      have HK := Lib.hid hK
      clear bl hK hA hC
      go_enter Try.func6, Try.ntmps6
      go_wp2_with fail
      refine HK.out.mono ?_
      rintro e w1 ⟨rfl, b1⟩
      go_wp2_with fail
      go_ret
      exact ⟨rfl, Below.chain HB.out b1⟩
    · have hz2 : ¬ (500 : Int) < (b.length : Int) := by omega
      have hnf := neqF2_same
      have hal : a.length ≤ 300 := by omega
      have hcl : c.length ≤ 300 := by omega
      have hbl : b.length ≤ 500 := by omega
      obtain ⟨w0, hw0⟩ : ∃ w0, w.alloc (.cells #[.int .u8 p, .int .u8 q] 23) = w0 := ⟨_, rfl⟩
      have hb0 : Blk w0 w.heap.size 23 [.int .u8 p, .int .u8 q] := hw0 ▸ heap_alloc_new w _
      rw [hw0] at bl hA hC
      obtain ⟨x1, u1, r1, o1, g1, -⟩ := appT_own (FOwn.nil w0.heap.size w0) hA (Nat.le_refl _) (by simp; omega)
      have b1 := (FOwn.nil (e := 46) (n := 2) (f := tcell) w0.heap.size w0).below (Below.refl _ _) (Nat.le_refl _) g1
      rw [List.nil_append] at o1
      obtain ⟨x2, u2, r2, o2, g2, -⟩ := appT_own o1 (Fs.below hC b1) b1.size (by omega)
      have b2 := o1.below b1 b1.size g2
      obtain ⟨xa1, xc1, rfl⟩ := (FOwn.sl tcell_len o1).len
      obtain ⟨xa2, xc2, hx2⟩ := (FOwn.sl tcell_len o2).len
      have hacl : (a ++ c).length ≤ 600 := by rw [List.length_append]; omega
      have ht2 := FOwn.sl tcell_len o2
      obtain ⟨AC, hAC⟩ : ∃ AC, a ++ c = AC := ⟨_, rfl⟩
      have HSetAll := Lib.hid (set_any p q (a ++ c) x2 u2 (FOwn.sl tcell_len o2) (by omega))
      have HSetA := Lib.hid (fun W (h : Ts W (.slice aa a.length ca) a) => set_any p q a _ W h (by omega))
      have hgs := gset_app (p, q) a c
      have hxl := gset_len (p, q) (a ++ c)
      obtain ⟨⟨Y, A1, B1⟩, hY⟩ : ∃ S, gset (p, q) a = S := ⟨_, rfl⟩
      have HSetC := Lib.hid (fun W (h : Ts W (.slice ac c.length cc) c) => set_any A1 B1 c _ W h (by omega))
      have hyl := gset_len (p, q) a
      have hzl := gset_len (A1, B1) c
      unfold SEnd at HSetAll HSetA HSetC
      rw [hY] at hgs HSetA hyl
      simp only at hgs
      obtain ⟨⟨Z, A2, B2⟩, hZ⟩ : ∃ S, gset (A1, B1) c = S := ⟨_, rfl⟩
      rw [hZ] at hgs HSetC hzl
      rw [hgs] at HSetAll
      simp only at HSetAll HSetA HSetC hyl hzl
      have HJ := Lib.hid (fun v u W (h : Gs W v Y) (h2 : Gs W u Z) => join_any Y Z v u W h h2 (by omega))
      obtain ⟨X, hX⟩ : ∃ X, Y ++ Z = X := ⟨_, rfl⟩
      have hXl : X.length ≤ 200000 := by rw [← hX, List.length_append]; omega
      rw [hX] at HSetAll HJ
      have HSm := Lib.hid (fun v u W (h : Gs W v X) (h2 : Gs W u X) => rsameg_any X X v u W h h2 hXl hXl)
      rw [decide_eq_true (rfl : X = X)] at HSm
      have BL := Lib.hid bl
      have K0 := Lib.hid hb0
      have HA := Lib.hid hA
      have HC := Lib.hid hC
      have HB2 := Lib.hid b2
      have HW0 := Lib.hid hw0
      obtain ⟨n2, hn2⟩ : ∃ n, (a ++ c).length = n := ⟨_, rfl⟩
      rw [hn2] at hx2
      subst hx2
      have k2 := K0.out.below b2
      have y0 : u2.cell? ⟨w.heap.size, 0, none⟩ = some (.int .u8 p) := k2.cell 0
      have y1 : u2.cell? ⟨w.heap.size, 1, none⟩ = some (.int .u8 q) := k2.cell 1
      clear bl hK hA hC hb0 o1 g1 b1 o2 g2 b2 hgs hxl hyl hzl hY hZ hX hXl hAC ht2 hn2 k2 hacl h1 h2
      rw [← hw0] at r1
      clear hw0
      go_enter Try.func6, Try.ntmps6
      go_wp2_with fail
      refine HSetAll.out.mono ?_
      rintro e w1 ⟨v1, rfl, o1, b1⟩
      have bl1 := below_lit w1 (.cells #[.int .u8 A2, .int .u8 B2] 23)
      have hb1 : Blk (w1.alloc (.cells #[.int .u8 A2, .int .u8 B2] 23)) w1.heap.size 23 [.int .u8 A2, .int .u8 B2] := heap_alloc_new w1 _
      have c1 := Below.chain b1 bl1
      have g1 := FOwn.sl gcell_len (o1.keep bl1)
      have K1 := Lib.hid hb1
      have G1 := Lib.hid g1
      have C1 := Lib.hid c1
      have D1 := Lib.hid (Below.chain HB2.out c1)
      have k0 := K0.out.below D1.out
      have y2 : (w1.alloc (.cells #[.int .u8 A2, .int .u8 B2] 23)).cell? ⟨w.heap.size, 0, none⟩ = some (.int .u8 p) := k0.cell 0
      have y3 : (w1.alloc (.cells #[.int .u8 A2, .int .u8 B2] 23)).cell? ⟨w.heap.size, 1, none⟩ = some (.int .u8 q) := k0.cell 1
      have S1 := Lib.hid (HSetA.out _ (Fs.below HA.out D1.out))
      obtain ⟨va1, vc1, rfl⟩ := (FOwn.sl gcell_len o1).len
      clear o1 b1 bl1 hb1 c1 g1 k0 HSetAll HSetA y0 y1 r1 r2
      go_wp2_with fail
      refine S1.out.mono ?_
      rintro e w2 ⟨v2, rfl, o2, b2⟩
      have bl2 := below_lit w2 (.cells #[.int .u8 A1, .int .u8 B1] 23)
      have hb2 : Blk (w2.alloc (.cells #[.int .u8 A1, .int .u8 B1] 23)) w2.heap.size 23 [.int .u8 A1, .int .u8 B1] := heap_alloc_new w2 _
      have c2 := Below.chain b2 bl2
      have g2 := FOwn.sl gcell_len (o2.keep bl2)
      have K2 := Lib.hid hb2
      have G2 := Lib.hid g2
      have C2 := Lib.hid c2
      have D2 := Lib.hid (Below.chain D1.out c2)
      have S2 := Lib.hid (HSetC.out _ (Fs.below HC.out D2.out))
      obtain ⟨va2, vc2, rfl⟩ := (FOwn.sl gcell_len o2).len
      clear o2 b2 bl2 hb2 c2 g2 HSetC y2 y3 S1
      go_wp2_with fail
      refine S2.out.mono ?_
      rintro e w3 ⟨v3, rfl, o3, b3⟩
      have bl3 := below_lit w3 (.cells #[.int .u8 A2, .int .u8 B2] 23)
      have hb3 : Blk (w3.alloc (.cells #[.int .u8 A2, .int .u8 B2] 23)) w3.heap.size 23 [.int .u8 A2, .int .u8 B2] := heap_alloc_new w3 _
      have c3 := Below.chain b3 bl3
      have g3 := FOwn.sl gcell_len (o3.keep bl3)
      have K3 := Lib.hid hb3
      have G3 := Lib.hid g3
      have C3 := Lib.hid c3
      have D3 := Lib.hid (Below.chain D2.out c3)
      have S3 := Lib.hid (HJ.out _ _ _ (Fs.below G2.out c3) g3)
      obtain ⟨va3, vc3, rfl⟩ := (FOwn.sl gcell_len o3).len
      clear o3 b3 bl3 hb3 g3 HJ S2
      go_wp2_with fail
      refine S3.out.mono ?_
      rintro e w4 ⟨v4, rfl, o4, b4⟩
      have C14 := Lib.hid (Below.chain (Below.chain C2.out C3.out) b4)
      have D4 := Lib.hid (Below.chain D3.out b4)
      have S4 := Lib.hid (HSm.out _ _ w4 (Fs.below G1.out C14.out) (FOwn.sl gcell_len o4))
      have KB3 := Lib.hid (K3.out.below b4)
      have KB1 := Lib.hid (K1.out.below C14.out)
      obtain ⟨va4, vc4, rfl⟩ := (FOwn.sl gcell_len o4).len
      clear o4 b4 c3 HSm S3
      go_wp2_with fail
      refine S4.out.mono ?_
      rintro e w5 ⟨rfl, b5⟩
      have k1 := KB1.out.below b5
      have k3 := KB3.out.below b5
      have z0 : w5.cell? ⟨w1.heap.size, 0, none⟩ = some (.int .u8 A2) := k1.cell 0
      have z1 : w5.cell? ⟨w1.heap.size, 1, none⟩ = some (.int .u8 B2) := k1.cell 1
      have z2 : w5.cell? ⟨w3.heap.size, 0, none⟩ = some (.int .u8 A2) := k3.cell 0
      have z3 : w5.cell? ⟨w3.heap.size, 1, none⟩ = some (.int .u8 B2) := k3.cell 1
      have D5 := Lib.hid (Below.chain D4.out b5)
      clear k1 k3 b5 S4 KB1 KB3 K1 K2 K3 G1 G2 G3 C1 C2 C3 C14 D1 D2 D3 D4 HA HC HB2
      go_wp2_with fail
      clear z0 z1 z2 z3
      have HI := Lib.hid (fun j x (h : b[j]? = some x) => str_idx b j x h)
      go_loopw [16] (fun i wr => ∃ j : Nat, j ≤ b.length ∧ i = .int .i64 j ∧ wr = w5 ∧ Hid (∀ y ∈ b.take j, plB y)) (fun i _ => b.length - (intOf i).toNat)
      case atStart => exact ⟨0, by omega, rfl, rfl, Lib.hid (by simp)⟩
      case round =>
        obtain ⟨j, hj, rfl, rfl, hpl⟩ := hrel
        by_cases hlt : j < b.length
        · obtain ⟨x, hx⟩ : ∃ x, b[j]? = some x := ⟨b[j], List.getElem?_eq_getElem hlt⟩
          have i0 : (j : Int) < (b.length : Int) := by omega
          have i1 : (0 : Int) ≤ (j : Int) := by omega
          have k0 := HI.out j x hx
          have hm255 : x.toNat < 256 := x.toNat_lt
          have HN : Hid (plB x → ∀ y ∈ b.take (j + 1), plB y) := Lib.hid (all_pl hpl.out hx)
          unfold plB at HN
          obtain ⟨m, hm⟩ : ∃ m, x.toNat = m := ⟨_, rfl⟩
          rw [hm] at k0 hm255 HN
          clear hm hx
          have m0 : (0 : Int) ≤ (m : Int) := by omega
          have m1 : (m : Int) ≤ 255 := by omega
          have HK := Lib.hid (known_any wr)
          by_cases q1 : (m : Int) < 32
          · go_wp2_with fail
            refine HK.out.mono ?_
            rintro e w6 ⟨rfl, b6⟩
            have B6 := Lib.hid (Below.chain BL.out (Below.chain D5.out b6))
            clear b6 HK
            go_wp2_with fail
            go_ret
            exact ⟨rfl, B6.out⟩
          · by_cases q2 : (126 : Int) < (m : Int)
            · go_wp2_with fail
              refine HK.out.mono ?_
              rintro e w6 ⟨rfl, b6⟩
              have B6 := Lib.hid (Below.chain BL.out (Below.chain D5.out b6))
              clear b6 HK
              go_wp2_with fail
              go_ret
              exact ⟨rfl, B6.out⟩
            · by_cases q3 : (m : Int) = 92
              · obtain rfl : m = 92 := by omega
                go_wp2_with fail
                refine HK.out.mono ?_
                rintro e w6 ⟨rfl, b6⟩
                have B6 := Lib.hid (Below.chain BL.out (Below.chain D5.out b6))
                clear b6 HK
                go_wp2_with fail
                go_ret
                exact ⟨rfl, B6.out⟩
              · have HN2 := Lib.hid (HN.out ⟨q1, q2, q3⟩)
                clear HN
                go_wp2_with fail
                go_roundw
                case rel => exact ⟨j + 1, by omega, by go_num, by first | trivial | rfl, HN2⟩
                case measure => (simp [intOf]; try omega)
        · obtain rfl : j = b.length := by omega
          rw [List.take_length] at hpl
          have hln := line_any p q b wr (by omega)
          unfold LEnd at hln
          have hpn := line_plain (p, q) b hpl.out
          rw [hpn.1, hpn.2] at hln
          simp only at hln
          obtain ⟨L, hL⟩ : ∃ L, b.map (fun x => plGly p (x.toNat : Int)) = L := ⟨_, rfl⟩
          have hLl : L.length = b.length := by rw [← hL, List.length_map]
          have HLI : Hid (∀ (j : Nat) (x : UInt8), b[j]? = some x → L[j]? = some ((x.toNat : Int), if (x.toNat : Int) = 32 then 0 else p)) := Lib.hid (fun j x hx => by rw [← hL, List.getElem?_map, hx]; rfl)
          rw [hL] at hln
          have HLN := Lib.hid hln
          have HLL := Lib.hid hLl
          have k5 := K0.out.below D5.out
          have y0 : wr.cell? ⟨w.heap.size, 0, none⟩ = some (.int .u8 p) := k5.cell 0
          have y1 : wr.cell? ⟨w.heap.size, 1, none⟩ = some (.int .u8 q) := k5.cell 1
          clear hln hpn hL hLl k5 hpl
          go_wp2_with fail
          refine HLN.out.mono ?_
          rintro e w6 ⟨v6, d6, rfl, o6, p6, b6⟩
          have bl6 := below_lit w6 (.cells #[.int .u8 p, .int .u8 q] 23)
          have hb6 : Blk (w6.alloc (.cells #[.int .u8 p, .int .u8 q] 23)) w6.heap.size 23 [.int .u8 p, .int .u8 q] := heap_alloc_new w6 _
          have c6 := Below.chain b6 bl6
          obtain ⟨va6, vc6, hv6⟩ := (FOwn.sl gcell_len o6).len
          rw [HLL.out] at hv6
          subst hv6
          obtain ⟨da6, dc6, rfl⟩ := (FOwn.sl dcell_len p6).len
          have G6 := Lib.hid (FOwn.sl gcell_len (o6.keep bl6))
          have K6 := Lib.hid hb6
          have D6 := Lib.hid (Below.chain D5.out c6)
          clear o6 p6 b6 bl6 hb6 c6 HLN y0 y1
          simp only [List.length_nil]
          go_wp2_with fail
          go_loopw [20] (fun i wr => ∃ j : Nat, j ≤ b.length ∧ i = .int .i64 j ∧ Hid (Below (w6.alloc (.cells #[.int .u8 p, .int .u8 q] 23)).heap.size (w6.alloc (.cells #[.int .u8 p, .int .u8 q] 23)) wr)) (fun i _ => b.length - (intOf i).toNat)
          case atStart => exact ⟨0, by omega, rfl, Lib.hid (Below.refl _ _)⟩
          case round =>
            obtain ⟨j, hj, rfl, hB⟩ := hrel
            have k7 := K0.out.below (Below.chain D6.out hB.out)
            have y0 : wr.cell? ⟨w.heap.size, 0, none⟩ = some (.int .u8 p) := k7.cell 0
            have y1 : wr.cell? ⟨w.heap.size, 1, none⟩ = some (.int .u8 q) := k7.cell 1
            by_cases hlt : j < b.length
            · obtain ⟨x, hx⟩ : ∃ x, b[j]? = some x := ⟨b[j], List.getElem?_eq_getElem hlt⟩
              have i0 : (j : Int) < (b.length : Int) := by omega
              have i1 : (0 : Int) ≤ (j : Int) := by omega
              have k0 := HI.out j x hx
              have hg := HLI.out j x hx
              have hm255 : x.toNat < 256 := x.toNat_lt
              have hG7 := Fs.below G6.out hB.out
              rw [← HLL.out] at hG7
              obtain ⟨gb, go, he, g0, g1, -⟩ := Gs.at hG7 hg
              subst he
              obtain ⟨m, hm⟩ : ∃ m, x.toNat = m := ⟨_, rfl⟩
              rw [hm] at k0 hm255 g0 g1
              clear hm hx hg hG7 k7
              have m0 : (0 : Int) ≤ (m : Int) := by omega
              have m1 : (m : Int) ≤ 255 := by omega
              simp only at g0 g1
              by_cases q3 : (m : Int) = 32
              · rw [if_pos q3] at g1
                obtain rfl : m = 32 := by omega
                clear q3
                go_wp2_with fail
                go_quiet (fail)
                go_wp2_with fail
                go_roundw
                case rel => exact ⟨j + 1, by omega, by go_num, Lib.hid (below_drewN hB.out _)⟩
                case measure => (simp [intOf]; try omega)
              · rw [if_neg q3] at g1
                have q4 : decide ((m : Int) = 32) = false := decide_eq_false q3
                have q5 : ((m : Int) == 32) = false := beq_eq_false_iff_ne.2 q3
                have q6 : ((m : Int) != 32) = true := bne_iff_ne.2 q3
                have hcv : IntKind.i32.wrap (m : Int) = (m : Int) := IntWalk.i32_in (m : Int) (by omega)
                go_wp2_with fail
                go_quiet (fail)
                go_wp2_with fail
                go_roundw
                case rel => exact ⟨j + 1, by omega, by go_num, Lib.hid (below_drewN hB.out _)⟩
                case measure => (simp [intOf]; try omega)
            · obtain rfl : j = b.length := by omega
              have hq := eqF2_same
              have k8 := K6.out.below hB.out
              have y2 : wr.cell? ⟨w6.heap.size, 0, none⟩ = some (.int .u8 p) := k8.cell 0
              have y3 : wr.cell? ⟨w6.heap.size, 1, none⟩ = some (.int .u8 q) := k8.cell 1
              have HT := Lib.hid (rturn_any p q 9)
              simp only [fturn_none (p, q) 9 (.inr (by decide))] at HT
              have HKN := Lib.hid known_any
              have HCC : Hid (∀ W, Below wr.heap.size wr W → W.cell? ⟨w.heap.size, 0, none⟩ = some (.int .u8 p) ∧ W.cell? ⟨w.heap.size, 1, none⟩ = some (.int .u8 q) ∧ W.cell? ⟨w6.heap.size, 0, none⟩ = some (.int .u8 p) ∧ W.cell? ⟨w6.heap.size, 1, none⟩ = some (.int .u8 q)) := Lib.hid (fun W hb => ⟨(k7.below hb).cell 0, (k7.below hb).cell 1, (k8.below hb).cell 0, (k8.below hb).cell 1⟩)
              have B7 := Lib.hid (Below.chain BL.out (Below.chain D6.out hB.out))
              clear k7 k8 K0 K6 G6 D5 D6 BL HI HLI HLL hB za zc ya yc hnf hz hz2 hsz
              go_wp2_with fail
              go_region_held3 (fun W' => W'.cell? ⟨w.heap.size, 0, none⟩ = some (.int .u8 p) ∧ W'.cell? ⟨w.heap.size, 1, none⟩ = some (.int .u8 q) ∧ W'.cell? ⟨w6.heap.size, 0, none⟩ = some (.int .u8 p) ∧ W'.cell? ⟨w6.heap.size, 1, none⟩ = some (.int .u8 q))
                (first | assumption | go_keep)
                ((first
                  | (go_at_call 17; (with_reducible refine (HT.out _).mono ?_); rintro e w7 ⟨rfl, b7⟩; have B8 : Hid (Below wr.heap.size wr w7) := Lib.hid ((Below.refl _ wr).drew.trans b7); obtain ⟨u0, u1, u2, u3⟩ := HCC.out w7 B8.out; clear b7)
                  | (go_at_call 7; (with_reducible refine (HKN.out _).mono ?_); rintro e w9 ⟨rfl, b9⟩; have B10 : Hid (Below wr.heap.size wr w9) := Lib.hid (B8.out.trans (b9.mono B8.out.size)); obtain ⟨s0, s1, s2, s3⟩ := HCC.out w9 B10.out; have B9 : Hid (Below w.heap.size w w9) := Lib.hid (B7.out.trans (B10.out.mono B7.out.size)); clear b9)))
              all_goals
                go_wp2_with fail
                go_ret
                exact ⟨rfl, B9.out⟩
theorem lines6_any (p q : Int) (a c : List Tok) (s : ByteArray) (va vc : Value) (w : World) (ha : Ts w va a) (hc : Ts w vc c) (ma : a.length ≤ 1000000000000000) (mc : c.length ≤ 1000000000000000) :
    Calls Try.prog 6 #[.agg #[.int .u8 p, .int .u8 q], va, vc, .string s] w fun e W' => e = .returned (.bool true) ∧ Below w.heap.size w W' := by
  have hs : (⟨s.data.toList.toArray⟩ : ByteArray) = s := by cases s; simp
  have := linesL_any p q a c s.data.toList va vc w ha hc ma mc
  rw [hs] at this
  exact this
end Go.Proofs.Ytgfmpndojjopnaa
