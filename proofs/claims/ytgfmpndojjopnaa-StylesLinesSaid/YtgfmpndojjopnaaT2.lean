/- StylesSets: the walk. -/
import Derived.Test.YtgfmpndojjopnaaS5
namespace Go.Proofs.Ytgfmpndojjopnaa
open Go.RowKit

theorem Below.chain {a b c : World} (h1 : Below a.heap.size a b) (h2 : Below b.heap.size b c) : Below a.heap.size a c := h1.trans (h2.mono h1.size)
theorem eqF2 (k l k' l' : Int) (w : World) : (Op.equalIn 10000 23 (.agg #[.int .u8 k, .int .u8 l]) (.agg #[.int .u8 k', .int .u8 l'])).run Try.prog w = .ok (k == k' && l == l') w := by
  rw [run_equalIn_agg w 9999 23 _ _ (by kernel_rfl) (by kernel_rfl)]
  have h3 : ((Try.prog.fieldsOf 23).toList.map fun f => (f.name != "_", f.type, f.offset)) = [(true, 5, 0), (true, 5, 1)] := by kernel_rfl
  generalize (Try.prog.fieldsOf 23).toList = fs at *
  rcases fs with _ | ⟨f0, _ | ⟨f1, _ | ⟨f2, fs⟩⟩⟩
  · simp at h3
  · simp at h3
  · simp only [List.map_cons, List.map_nil, List.cons.injEq, Prod.mk.injEq, and_true, bne_iff_ne, ne_eq] at h3
    obtain ⟨⟨n0, t0, o0⟩, ⟨n1, t1, o1⟩⟩ := h3
    have e1 : ∀ (a b : Int) (w : World), (Op.equalIn 9999 5 (.int .u8 a) (.int .u8 b)).run Try.prog w = .ok (a == b) w := fun a b w => run_equalIn_int w 9998 5 .u8 .u8 a b Try.underlying5
    simp [go_sem, Op.eqFields, n0, n1, t0, t1, o0, o1, e1]
    by_cases a1 : k = k' <;> by_cases a2 : l = l' <;> simp [a1, a2]
  · simp at h3
theorem eqF2_same (k l : Int) (w : World) : (binOp .eql 23 (.agg #[.int .u8 k, .int .u8 l]) (.agg #[.int .u8 k, .int .u8 l])).run Try.prog w = .ok (.bool true) w := by
  rw [run_eql_struct, eqF2]
  simp [Result.andThen]
theorem neqF2_same (k l : Int) (w : World) : (binOp .neq 23 (.agg #[.int .u8 k, .int .u8 l]) (.agg #[.int .u8 k, .int .u8 l])).run Try.prog w = .ok (.bool false) w := by
  rw [run_neq_struct, eqF2]
  simp [Result.andThen]

set_option maxRecDepth 100000 in
set_option maxHeartbeats 4000000 in
theorem setsL_any (p q : Int) (l : List Tok) (b : List UInt8) (v : Value) (w : World) (hv : Ts w v l) :
    Calls Try.prog 3 #[.agg #[.int .u8 p, .int .u8 q], v, .string ⟨b.toArray⟩] w fun e W' => e = .returned (.bool true) ∧ Below w.heap.size w W' := by
  have HV := Lib.hid hv
  obtain ⟨va, vc, rfl⟩ := hv.len
  have hsz : (⟨b.toArray⟩ : ByteArray).size = b.length := by simp [Go.Lib.size_eq]
  have bl := below_lit w (.cells #[.int .u8 p, .int .u8 q] 23)
  have hK := known_any (w.alloc (.cells #[.int .u8 p, .int .u8 q] 23))
  clear hv
  by_cases h1 : 200 < l.length
  · have hz : (200 : Int) < (l.length : Int) := by omega
    have HB := Lib.hid bl
    have HK := Lib.hid hK
    clear bl hK
    go_enter Try.func3, Try.ntmps3
    go_wp2_with fail
    refine HK.out.mono ?_
    rintro e w1 ⟨rfl, b1⟩
    go_wp2_with fail
    go_ret
    exact ⟨rfl, Below.chain HB.out b1⟩
  · by_cases h2 : 800 < b.length
    · have hz : ¬ (200 : Int) < (l.length : Int) := by omega
      have hz2 : (800 : Int) < (b.length : Int) := by omega
      have HB := Lib.hid bl
      have HK := Lib.hid hK
      clear bl hK
      go_enter Try.func3, Try.ntmps3
      go_wp2_with fail
      refine HK.out.mono ?_
      rintro e w1 ⟨rfl, b1⟩
      go_wp2_with fail
      go_ret
      exact ⟨rfl, Below.chain HB.out b1⟩
    · have hz : ¬ (200 : Int) < (l.length : Int) := by omega
      have hz2 : ¬ (800 : Int) < (b.length : Int) := by omega
      have hq := eqF2_same
      have hl : l.length ≤ 200 := by omega
      have hdl := dec_le b
      have hsl := scan_len (dec b)
      have HSet := Lib.hid (fun W (h : Ts W (.slice va l.length vc) l) => set_any p q l _ W h (by omega))
      have HRSet := Lib.hid (fun W (h : Ts W (.slice va l.length vc) l) => rset_any p q l _ W h (by omega))
      have HLn := Lib.hid (fun W => line_any p q b W (by omega))
      have HRLn := Lib.hid (fun W => rline_any p q b W (by omega))
      have hxl := gset_len (p, q) l
      have hyl := gset_len (p, q) (scanL 0 (dec b)).1
      unfold SEnd at HSet HRSet
      unfold LEnd at HLn HRLn
      obtain ⟨⟨X, A, B⟩, hS⟩ : ∃ S, gset (p, q) l = S := ⟨_, rfl⟩
      obtain ⟨⟨Y, A2, B2⟩, hS2⟩ : ∃ S, gset (p, q) (scanL 0 (dec b)).1 = S := ⟨_, rfl⟩
      obtain ⟨D, hD⟩ : ∃ D, (scanL 0 (dec b)).2 = D := ⟨_, rfl⟩
      rw [hS] at HSet HRSet hxl
      rw [hS2, hD] at HLn HRLn
      rw [hS2] at hyl
      rw [hD] at hsl
      simp only at HSet HRSet HLn HRLn hxl hyl
      have hXl : X.length ≤ 200000 := by omega
      have hYl : Y.length ≤ 200000 := by omega
      have hDl : D.length ≤ 200000 := by omega
      have XL := Lib.hid hXl
      have YL := Lib.hid hYl
      have DL := Lib.hid hDl
      have L0 := Lib.hid (Fs.below HV.out bl)
      have hb0 : Blk (w.alloc (.cells #[.int .u8 p, .int .u8 q] 23)) w.heap.size 23 [.int .u8 p, .int .u8 q] := heap_alloc_new w _
      have K0 := Lib.hid hb0
      have HB := Lib.hid bl
      clear bl hK hS hS2 hD hdl hsl hxl hyl hXl hYl hDl hb0 h1 h2 hl
      go_enter Try.func3, Try.ntmps3
      go_wp2_with fail
      refine (HSet.out _ L0.out).mono ?_
      rintro e w1 ⟨x1, rfl, o1, b1⟩
      have bl1 := below_lit w1 (.cells #[.int .u8 A, .int .u8 B] 23)
      have hb1 : Blk (w1.alloc (.cells #[.int .u8 A, .int .u8 B] 23)) w1.heap.size 23 [.int .u8 A, .int .u8 B] := heap_alloc_new w1 _
      have c1 := Below.chain b1 bl1
      have g1 := FOwn.sl gcell_len (o1.keep bl1)
      have K1 := Lib.hid hb1
      have G1 := Lib.hid g1
      have C1 := Lib.hid c1
      have k0 := K0.out.below c1
      have y0 : (w1.alloc (.cells #[.int .u8 A, .int .u8 B] 23)).cell? ⟨w.heap.size, 0, none⟩ = some (.int .u8 p) := k0.cell 0
      have y1 : (w1.alloc (.cells #[.int .u8 A, .int .u8 B] 23)).cell? ⟨w.heap.size, 1, none⟩ = some (.int .u8 q) := k0.cell 1
      obtain ⟨xa1, xc1, rfl⟩ := (FOwn.sl gcell_len o1).len
      have L1 := Lib.hid (Fs.below L0.out c1)
      clear o1 b1 bl1 hb1 c1 g1 k0 HSet
      go_wp2_with fail
      refine (HRSet.out _ L1.out).mono ?_
      rintro e w2 ⟨x2, rfl, o2, b2⟩
      have bl2 := below_lit w2 (.cells #[.int .u8 A, .int .u8 B] 23)
      have hb2 : Blk (w2.alloc (.cells #[.int .u8 A, .int .u8 B] 23)) w2.heap.size 23 [.int .u8 A, .int .u8 B] := heap_alloc_new w2 _
      have c2 := Below.chain b2 bl2
      have g2 := FOwn.sl gcell_len (o2.keep bl2)
      have K2 := Lib.hid hb2
      have G2 := Lib.hid g2
      have C2 := Lib.hid c2
      have k0 := (K0.out.below C1.out).below c2
      have y0' : (w2.alloc (.cells #[.int .u8 A, .int .u8 B] 23)).cell? ⟨w.heap.size, 0, none⟩ = some (.int .u8 p) := k0.cell 0
      have y1' : (w2.alloc (.cells #[.int .u8 A, .int .u8 B] 23)).cell? ⟨w.heap.size, 1, none⟩ = some (.int .u8 q) := k0.cell 1
      obtain ⟨xa2, xc2, rfl⟩ := (FOwn.sl gcell_len o2).len
      clear o2 b2 bl2 hb2 c2 g2 k0 HRSet y0 y1
      go_wp2_with fail
      refine (HLn.out _).mono ?_
      rintro e w3 ⟨x3, d3, rfl, o3, p3, b3⟩
      have bl3 := below_lit w3 (.cells #[.int .u8 A2, .int .u8 B2] 23)
      have hb3 : Blk (w3.alloc (.cells #[.int .u8 A2, .int .u8 B2] 23)) w3.heap.size 23 [.int .u8 A2, .int .u8 B2] := heap_alloc_new w3 _
      have c3 := Below.chain b3 bl3
      have g3 := FOwn.sl gcell_len (o3.keep bl3)
      have e3 := FOwn.sl dcell_len (p3.keep bl3)
      have K3 := Lib.hid hb3
      have G3 := Lib.hid g3
      have C3 := Lib.hid c3
      have k0 := ((K0.out.below C1.out).below C2.out).below c3
      have y0 : (w3.alloc (.cells #[.int .u8 A2, .int .u8 B2] 23)).cell? ⟨w.heap.size, 0, none⟩ = some (.int .u8 p) := k0.cell 0
      have y1 : (w3.alloc (.cells #[.int .u8 A2, .int .u8 B2] 23)).cell? ⟨w.heap.size, 1, none⟩ = some (.int .u8 q) := k0.cell 1
      have E3 := Lib.hid e3
      obtain ⟨xa3, xc3, rfl⟩ := (FOwn.sl gcell_len o3).len
      obtain ⟨da3, dc3, rfl⟩ := (FOwn.sl dcell_len p3).len
      clear o3 p3 b3 bl3 hb3 c3 g3 e3 k0 HLn y0' y1'
      go_wp2_with fail
      refine (HRLn.out _).mono ?_
      rintro e w4 ⟨x4, d4, rfl, o4, p4, b4⟩
      have bl4 := below_lit w4 (.cells #[.int .u8 A2, .int .u8 B2] 23)
      have hb4 : Blk (w4.alloc (.cells #[.int .u8 A2, .int .u8 B2] 23)) w4.heap.size 23 [.int .u8 A2, .int .u8 B2] := heap_alloc_new w4 _
      have c4 := Below.chain b4 bl4
      have g4 := FOwn.sl gcell_len (o4.keep bl4)
      have e4 := FOwn.sl dcell_len (p4.keep bl4)
      have K4 := Lib.hid hb4
      have G4 := Lib.hid g4
      have C4 := Lib.hid c4
      have E4 := Lib.hid e4
      obtain ⟨xa4, xc4, rfl⟩ := (FOwn.sl gcell_len o4).len
      obtain ⟨da4, dc4, rfl⟩ := (FOwn.sl dcell_len p4).len
      have C14 := Lib.hid (Below.chain (Below.chain C2.out C3.out) c4)
      have C24 := Lib.hid (Below.chain C3.out c4)
      have HR : Hid (Below w.heap.size w (w4.alloc (.cells #[.int .u8 A2, .int .u8 B2] 23))) := Lib.hid (Below.chain (Below.chain HB.out C1.out) C14.out)
      have S1 := Lib.hid (rsameg_any X X _ _ (w4.alloc (.cells #[.int .u8 A2, .int .u8 B2] 23)) (Fs.below G1.out C14.out) (Fs.below G2.out C24.out) XL.out XL.out)
      rw [decide_eq_true (rfl : X = X)] at S1
      clear o4 p4 b4 bl4 hb4 g4 e4 HRLn y0 y1
      go_wp2_with fail
      refine S1.out.mono ?_
      rintro e w5 ⟨rfl, b5⟩
      have k1 := (K1.out.below C14.out).below b5
      have k2 := (K2.out.below C24.out).below b5
      have k3 := (K3.out.below c4).below b5
      have k4 := K4.out.below b5
      have z0 : w5.cell? ⟨w1.heap.size, 0, none⟩ = some (.int .u8 A) := k1.cell 0
      have z1 : w5.cell? ⟨w1.heap.size, 1, none⟩ = some (.int .u8 B) := k1.cell 1
      have z2 : w5.cell? ⟨w2.heap.size, 0, none⟩ = some (.int .u8 A) := k2.cell 0
      have z3 : w5.cell? ⟨w2.heap.size, 1, none⟩ = some (.int .u8 B) := k2.cell 1
      have K3 := Lib.hid k3
      have K4 := Lib.hid k4
      have B5 := Lib.hid b5
      have S2 := Lib.hid (rsameg_any Y Y _ _ w5 (Fs.below (Fs.below G3.out c4) b5) (Fs.below G4.out b5) YL.out YL.out)
      rw [decide_eq_true (rfl : Y = Y)] at S2
      have E3' := Lib.hid (Fs.below (Fs.below E3.out c4) b5)
      have E4' := Lib.hid (Fs.below E4.out b5)
      clear k1 k2 k3 k4 b5 c4 S1
      go_wp2_with fail
      refine S2.out.mono ?_
      rintro e w6 ⟨rfl, b6⟩
      have k3 := K3.out.below b6
      have k4 := K4.out.below b6
      have z4 : w6.cell? ⟨w3.heap.size, 0, none⟩ = some (.int .u8 A2) := k3.cell 0
      have z5 : w6.cell? ⟨w3.heap.size, 1, none⟩ = some (.int .u8 B2) := k3.cell 1
      have z6 : w6.cell? ⟨w4.heap.size, 0, none⟩ = some (.int .u8 A2) := k4.cell 0
      have z7 : w6.cell? ⟨w4.heap.size, 1, none⟩ = some (.int .u8 B2) := k4.cell 1
      have B6 := Lib.hid (Below.chain B5.out b6)
      have S3 := Lib.hid (rsamed_any D D _ _ w6 (Fs.below E3'.out b6) (Fs.below E4'.out b6) DL.out DL.out)
      rw [decide_eq_true (rfl : D = D)] at S3
      clear k3 k4 b6 S2 z0 z1 z2 z3
      go_wp2_with fail
      refine S3.out.mono ?_
      rintro e w7 ⟨rfl, b7⟩
      have B7 := Lib.hid (Below.chain B6.out b7)
      have HK := Lib.hid (known_any w7)
      clear b7 S3 z4 z5 z6 z7
      go_wp2_with fail
      refine HK.out.mono ?_
      rintro e w8 ⟨rfl, b8⟩
      have B8 := Lib.hid (Below.chain HR.out (Below.chain B7.out b8))
      clear b8 HK
      go_wp2_with fail
      go_ret
      exact ⟨rfl, B8.out⟩
theorem sets_any (p q : Int) (l : List Tok) (s : ByteArray) (v : Value) (w : World) (hv : Ts w v l) :
    Calls Try.prog 3 #[.agg #[.int .u8 p, .int .u8 q], v, .string s] w fun e W' => e = .returned (.bool true) ∧ Below w.heap.size w W' := by
  have hs : (⟨s.data.toList.toArray⟩ : ByteArray) = s := by cases s; simp
  have := setsL_any p q l s.data.toList v w hv
  rw [hs] at this
  exact this
end Go.Proofs.Ytgfmpndojjopnaa
