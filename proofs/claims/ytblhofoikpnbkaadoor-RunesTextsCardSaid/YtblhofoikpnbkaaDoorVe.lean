/- utf8.Valid's loop, a round by cases: a byte below 128. -/
import Derived.Test.YtblhofoikpnbkaaDoorV1
import Derived.Shelf.Unicode.DecodeAny
import Derived.Lib.ValidAsc
import Derived.Laws.BitsAllLaws
import Derived.Deep.LoopGhost
import Derived.Deep.DeepMust
import Derived.BigQuiet
import Derived.Deep.CutBlock
import Derived.Deep.DeepCutAuto
import Derived.Test.YtblhofoikpnbkaaDoorV2
namespace Go.Proofs.YtblhofoikpnbkaaDoor
open Go.RowKit Go.Shelf Go.Proofs
attribute [local go_sem ↓ high] slice_cut22 slice_clip22
set_option maxHeartbeats 16000000 in
set_option maxRecDepth 1000000 in
theorem fast
    {ANS : Bool} {w wr : World} {t : ByteArray} {gb ob gk : Nat} {c7 c8 c9 c10 c11 c12 u2 u3 u4 u5 u6 u13 u14 u15 u16 u17 u18 u19 u20 u21 u22 u23 u24 u25 u26 u27 u28 u29 u30 u31 u32 u33 u34 u35 u36 u37 u38 u39 u40 u41 u42 u43 u44 u45 u46 u47 u48 u49 u50 u51 u52 u53 u54 u55 u56 u57 u58 u59 u60 u61 u62 u63 u64 u65 u66 u67 u68 u69 u70 u71 u72 u73 u74 u75 u76 u77 u78 u79 u80 u81 u82 u83 u84 u85 u86 u87 u88 u89 u90 u91 u92 u93 u94 u95 u96 u97 u98 u99 u100 u101 u102 u103 u104 u105 u106 u107 u108 u109 u110 u111 u112 u113 u114 u115 u116 u117 u118 u119 u120 u121 u122 u123 u124 u125 u126 u127 u128 u129 u130 u131 u132 u133 u134 u135 u136 u137 u138 u139 u140 u141 u142 u143 u144 u145 u146 u147 u148 u149 u150 u151 u152 u153 u154 u155 u156 u157 u158 u159 u160 u161 u162 u163 u164 u165 u166 u167 u168 u169 u170 u171 u172 u173 u174 u175 u176 u177 u178 u179 u180 u181 u182 u183 u184 u185 u186 u187 : Value} {J : Nat → Act → World → Prop} {K K1 : Act → World → Prop}
    (hJ : ∀ (k : Nat) (a' : Act) (w' : World), (∃ u0 u2 u3 u4 u5 u6 u13 u14 u15 u16 u17 u18 u19 u20 u21 u22 u23 u24 u25 u26 u27 u28 u29 u30 u31 u32 u33 u34 u35 u36 u37 u38 u39 u40 u41 u42 u43 u44 u45 u46 u47 u48 u49 u50 u51 u52 u53 u54 u55 u56 u57 u58 u59 u60 u61 u62 u63 u64 u65 u66 u67 u68 u69 u70 u71 u72 u73 u74 u75 u76 u77 u78 u79 u80 u81 u82 u83 u84 u85 u86 u87 u88 u89 u90 u91 u92 u93 u94 u95 u96 u97 u98 u99 u100 u101 u102 u103 u104 u105 u106 u107 u108 u109 u110 u111 u112 u113 u114 u115 u116 u117 u118 u119 u120 u121 u122 u123 u124 u125 u126 u127 u128 u129 u130 u131 u132 u133 u134 u135 u136 u137 u138 u139 u140 u141 u142 u143 u144 u145 u146 u147 u148 u149 u150 u151 u152 u153 u154 u155 u156 u157 u158 u159 u160 u161 u162 u163 u164 u165 u166 u167 u168 u169 u170 u171 u172 u173 u174 u175 u176 u177 u178 u179 u180 u181 u182 u183 u184 u185 u186 u187 : Value, (Below w.heap.size w w' ∧ ∃ t, Bs w u0 t ∧ Lib.validD t.data.toList = ANS ∧ t.size < k ∧ t.size ≤ 9223372036854775807) ∧ a' = ⟨#[u0, undef, u2, u3, u4, u5, u6, c7, c8, c9, c10, c11, c12, u13, u14, u15, u16, u17, u18, u19, u20, u21, u22, u23, u24, u25, u26, u27, u28, u29, u30, u31, u32, u33, u34, u35, u36, u37, u38, u39, u40, u41, u42, u43, u44, u45, u46, u47, u48, u49, u50, u51, u52, u53, u54, u55, u56, u57, u58, u59, u60, u61, u62, u63, u64, u65, u66, u67, u68, u69, u70, u71, u72, u73, u74, u75, u76, u77, u78, u79, u80, u81, u82, u83, u84, u85, u86, u87, u88, u89, u90, u91, u92, u93, u94, u95, u96, u97, u98, u99, u100, u101, u102, u103, u104, u105, u106, u107, u108, u109, u110, u111, u112, u113, u114, u115, u116, u117, u118, u119, u120, u121, u122, u123, u124, u125, u126, u127, u128, u129, u130, u131, u132, u133, u134, u135, u136, u137, u138, u139, u140, u141, u142, u143, u144, u145, u146, u147, u148, u149, u150, u151, u152, u153, u154, u155, u156, u157, u158, u159, u160, u161, u162, u163, u164, u165, u166, u167, u168, u169, u170, u171, u172, u173, u174, u175, u176, u177, u178, u179, u180, u181, u182, u183, u184, u185, u186, u187], []⟩) → J k a' w')
    (hK : ∀ (a' : Act) (w' : World), Handed J gk a' w' → K a' w')
    (hbw : Below w.heap.size w wr) (hT : Lib.Utf8Tabs 0 1 w) (hBs0 : Bs w (.slice (some ⟨gb, ob, none⟩) t.size t.size) t) (hgb : gb < w.heap.size) (hbt : Bt w gb ob t)
    (hv : Lib.validD t.data.toList = ANS) (hg : t.size < gk) (hts : t.size ≤ 9223372036854775807) (h0 : 0 < t.size)
    (hasc : (t.get! 0).toNat < 128) :
    Code.wp Tryd.prog body31 (Exit.then K (Exit.inBlock 0 (Exit.then K1 (bodyPost Tryd.prog Tryd.f31 fun e w' => e = .returned (.bool ANS) ∧ Below w.heap.size w w')))) ⟨#[.slice (some ⟨gb, ob, none⟩) t.size t.size, undef, u2, u3, u4, u5, u6, c7, c8, c9, c10, c11, c12, u13, u14, u15, u16, u17, u18, u19, u20, u21, u22, u23, u24, u25, u26, u27, u28, u29, u30, u31, u32, u33, u34, u35, u36, u37, u38, u39, u40, u41, u42, u43, u44, u45, u46, u47, u48, u49, u50, u51, u52, u53, u54, u55, u56, u57, u58, u59, u60, u61, u62, u63, u64, u65, u66, u67, u68, u69, u70, u71, u72, u73, u74, u75, u76, u77, u78, u79, u80, u81, u82, u83, u84, u85, u86, u87, u88, u89, u90, u91, u92, u93, u94, u95, u96, u97, u98, u99, u100, u101, u102, u103, u104, u105, u106, u107, u108, u109, u110, u111, u112, u113, u114, u115, u116, u117, u118, u119, u120, u121, u122, u123, u124, u125, u126, u127, u128, u129, u130, u131, u132, u133, u134, u135, u136, u137, u138, u139, u140, u141, u142, u143, u144, u145, u146, u147, u148, u149, u150, u151, u152, u153, u154, u155, u156, u157, u158, u159, u160, u161, u162, u163, u164, u165, u166, u167, u168, u169, u170, u171, u172, u173, u174, u175, u176, u177, u178, u179, u180, u181, u182, u183, u184, u185, u186, u187], []⟩ wr := by
  conv => arg 2; whnf
  generalize hQ : (bodyPost Tryd.prog Tryd.f31 fun e w' => e = .returned (.bool ANS) ∧ Below w.heap.size w w') = Q'
  have HQ := Lib.hid hQ
  have HBs := Lib.hid hBs0
  have HTT := Lib.hid hT
  clear hQ hBs0 hT
  have hTr := Utf8Tabs_below HTT.out hbw
  have hbr := Below.bt hbw hbt hgb
  obtain ⟨g', rfl⟩ : ∃ g', gk = g' + 1 := ⟨gk - 1, by omega⟩
  have h0z : (0 : Int) < (t.size : Int) := by omega
  obtain ⟨x0, hx0⟩ : ∃ x0, t.get! 0 = x0 := ⟨_, rfl⟩
  have b0 : wr.cell? ⟨gb, ob, none⟩ = some (.int .u8 x0.toNat) := by have := hbr 0 h0; rw [hx0] at this; exact this
  have hx0lt : x0.toNat < 256 := x0.toNat_lt
  rw [hx0] at hasc
  clear hbr
  have hascz : (x0.toNat : Int) < 128 := by omega
  have a1 : Lib.Asc t 1 := Lib.asc_one t h0 (by rw [hx0]; exact hasc)
  obtain ⟨v1, hcv1, hBv1⟩ := HBs.out.cut 1 (by omega) (by omega)
  obtain ⟨t1, htt1⟩ : ∃ q, t.extract 1 t.size = q := ⟨_, rfl⟩
  rw [htt1] at hBv1
  have zt1 : t1.size + 1 = t.size := by rw [← htt1, Lib.ext_size]; omega
  have HBt1 := Lib.hid hBv1
  obtain ⟨at1, rfl, hat1⟩ := hBv1
  have hcv1' : ∀ W : World, (cut22 (.slice (some ⟨gb, ob, none⟩) t.size t.size) (.int .i64 1)).run Tryd.prog W = .ok (.slice at1 t1.size t1.size) W := hcv1
  clear hcv1
  have y1 : Lib.validD t1.data.toList = ANS := by rw [← htt1, Lib.valid_skip t 1 a1]; exact hv
  clear hTr hv a1 htt1 hx0
  by_cases c8 : 8 < t1.size
  · have c8z : (8 : Int) < (t1.size : Int) := by omega
    obtain ⟨gt1, ot1, rfl, hgt1, hbt1⟩ := hat1 (by omega)
    clear hat1
    have hbX := hbw
    obtain ⟨A1, hA1⟩ : ∃ q, Lib.leNat [t1.get! 0, t1.get! 1, t1.get! 2, t1.get! 3, t1.get! 4, t1.get! 5, t1.get! 6, t1.get! 7] = q := ⟨_, rfl⟩
    have lA1 : A1 < 18446744073709551616 := hA1 ▸ Lib.word_lt t1
    have cWA1 : ∀ n, Calls Tryd.prog 37 #[.slice (some ⟨gt1, ot1, none⟩) t1.size t1.size] (wr.drewN n) fun e w' => e = .returned (.int .u64 A1) ∧ ∃ q, w' = (wr.drewN n).drewN q := fun n => by rw [← hA1]; exact word_any gt1 ot1 t1.size t1.size t1 _ (by omega) rfl (Below.bt (below_drewN hbX n) hbt1 hgt1)
    have kA1 := Lib.word_asc t1 (by omega)
    rw [hA1] at kA1
    have hand1 : bits .and .u64 (A1 : Int) 9259542123273814144 = ((A1 &&& 9259542123273814144 : Nat) : Int) := u64_and_nat A1 9259542123273814144 lA1 (by omega)
    obtain ⟨Z1, hZ1⟩ : ∃ Z1, A1 &&& 9259542123273814144 = Z1 := ⟨_, rfl⟩
    rw [hZ1] at hand1 kA1
    have cW1 : Calls Tryd.prog 37 #[.slice (some ⟨gt1, ot1, none⟩) t1.size t1.size] wr fun e w' => e = .returned (.int .u64 A1) ∧ ∃ q, w' = wr.drewN q := cWA1 0
    clear cWA1 hbX hA1 hZ1 lA1
    by_cases hz1 : Z1 = 0
    · have hz1b : ((Z1 : Int) == 0) = true := by simp [hz1]
      have a8 : Lib.Asc t1 8 := kA1.1 hz1
      obtain ⟨v2, hcv2, hBv2⟩ := HBt1.out.cut 8 (by omega) (by omega)
      obtain ⟨t2, htt2⟩ : ∃ q, t1.extract 8 t1.size = q := ⟨_, rfl⟩
      rw [htt2] at hBv2
      have zt2 : t2.size + 8 = t1.size := by rw [← htt2, Lib.ext_size]; omega
      have HBt2 := Lib.hid hBv2
      obtain ⟨at2, rfl, hat2⟩ := hBv2
      have hcv2' : ∀ W : World, (cut22 (.slice (some ⟨gt1, ot1, none⟩) t1.size t1.size) (.int .i64 8)).run Tryd.prog W = .ok (.slice at2 t2.size t2.size) W := hcv2
      clear hcv2
      have y2 : Lib.validD t2.data.toList = ANS := by rw [← htt2, Lib.valid_skip t1 8 a8]; exact y1
      clear kA1 a8 y1 htt2
      go_wp2_with (go_at_call 37; go_must (refine Calls.mono cW1 ?_; rintro e W1 ⟨rfl, q1, rfl⟩))
      have hb1 : Below w.heap.size w (wr.drewN q1) := below_drewN hbw q1
      generalize wr.drewN q1 = wq at hb1 ⊢
      clear cW1 hbw
      by_cases c16 : 16 < t2.size
      · have c16z : (16 : Int) < (t2.size : Int) := by omega
        obtain ⟨gt2, ot2, rfl, hgt2, hbt2⟩ := hat2 (by omega)
        clear hat2
        obtain ⟨v3, hcv3, hBv3⟩ := HBt2.out.cut 8 (by omega) (by omega)
        obtain ⟨t2b, htt2b⟩ : ∃ q, t2.extract 8 t2.size = q := ⟨_, rfl⟩
        rw [htt2b] at hBv3
        have zt2b : t2b.size + 8 = t2.size := by rw [← htt2b, Lib.ext_size]; omega
        have HBt2b := Lib.hid hBv3
        obtain ⟨at2b, rfl, hat2b⟩ := hBv3
        have hcv3' : ∀ W : World, (cut22 (.slice (some ⟨gt2, ot2, none⟩) t2.size t2.size) (.int .i64 8)).run Tryd.prog W = .ok (.slice at2b t2b.size t2b.size) W := hcv3
        clear hcv3
        obtain ⟨gt2b, ot2b, rfl, hgt2b, hbt2b⟩ := hat2b (by omega)
        clear hat2b
        have hbX := hb1
        obtain ⟨A2, hA2⟩ : ∃ q, Lib.leNat [t2.get! 0, t2.get! 1, t2.get! 2, t2.get! 3, t2.get! 4, t2.get! 5, t2.get! 6, t2.get! 7] = q := ⟨_, rfl⟩
        have lA2 : A2 < 18446744073709551616 := hA2 ▸ Lib.word_lt t2
        have cWA2 : ∀ n, Calls Tryd.prog 37 #[.slice (some ⟨gt2, ot2, none⟩) t2.size t2.size] (wq.drewN n) fun e w' => e = .returned (.int .u64 A2) ∧ ∃ q, w' = (wq.drewN n).drewN q := fun n => by rw [← hA2]; exact word_any gt2 ot2 t2.size t2.size t2 _ (by omega) rfl (Below.bt (below_drewN hbX n) hbt2 hgt2)
        have kA2 := Lib.word_asc t2 (by omega)
        rw [hA2] at kA2
        obtain ⟨A3, hA3⟩ : ∃ q, Lib.leNat [t2b.get! 0, t2b.get! 1, t2b.get! 2, t2b.get! 3, t2b.get! 4, t2b.get! 5, t2b.get! 6, t2b.get! 7] = q := ⟨_, rfl⟩
        have lA3 : A3 < 18446744073709551616 := hA3 ▸ Lib.word_lt t2b
        have cWA3 : ∀ n, Calls Tryd.prog 37 #[.slice (some ⟨gt2b, ot2b, none⟩) t2b.size t2b.size] (wq.drewN n) fun e w' => e = .returned (.int .u64 A3) ∧ ∃ q, w' = (wq.drewN n).drewN q := fun n => by rw [← hA3]; exact word_any gt2b ot2b t2b.size t2b.size t2b _ (by omega) rfl (Below.bt (below_drewN hbX n) hbt2b hgt2b)
        have kA3 := Lib.word_asc t2b (by omega)
        rw [hA3] at kA3
        have hor2 : bits .or .u64 (A2 : Int) (A3 : Int) = ((A2 ||| A3 : Nat) : Int) := u64_or_nat A2 A3 lA2 lA3
        have lor2 : A2 ||| A3 < 18446744073709551616 := Nat.or_lt_two_pow (n := 64) lA2 lA3
        have hand2 : bits .and .u64 ((A2 ||| A3 : Nat) : Int) 9259542123273814144 = (((A2 ||| A3) &&& 9259542123273814144 : Nat) : Int) := u64_and_nat _ 9259542123273814144 lor2 (by omega)
        have k2 : (A2 ||| A3) &&& 9259542123273814144 = 0 → Lib.Asc t2 16 := fun h0' => by
          obtain ⟨e1, e2⟩ := (Lib.or_mask A2 A3 _).1 h0'
          exact Lib.asc_add t2 8 8 (kA2.1 e1) (by rw [htt2b]; exact kA3.1 e2)
        obtain ⟨O2, hO2⟩ : ∃ O2, A2 ||| A3 = O2 := ⟨_, rfl⟩
        rw [hO2] at hor2 hand2 k2
        obtain ⟨Z2, hZ2⟩ : ∃ Z2, O2 &&& 9259542123273814144 = Z2 := ⟨_, rfl⟩
        rw [hZ2] at hand2 k2
        clear kA2 kA3 lor2 hO2 hZ2 hbX hA2 hA3 lA2 lA3 htt2b
        by_cases hz2 : Z2 = 0
        · have hz2b : ((Z2 : Int) == 0) = true := by simp [hz2]
          have a16 := k2 hz2
          obtain ⟨v4, hcv4, hBv4⟩ := HBt2.out.cut 16 (by omega) (by omega)
          obtain ⟨t3, htt3⟩ : ∃ q, t2.extract 16 t2.size = q := ⟨_, rfl⟩
          rw [htt3] at hBv4
          have zt3 : t3.size + 16 = t2.size := by rw [← htt3, Lib.ext_size]; omega
          have HBt3 := Lib.hid hBv4
          obtain ⟨at3, rfl, hat3⟩ := hBv4
          have hcv4' : ∀ W : World, (cut22 (.slice (some ⟨gt2, ot2, none⟩) t2.size t2.size) (.int .i64 16)).run Tryd.prog W = .ok (.slice at3 t3.size t3.size) W := hcv4
          clear hcv4
          have y3 : Lib.validD t3.data.toList = ANS := by rw [← htt3, Lib.valid_skip t2 16 a16]; exact y2
          clear k2 a16 y2 htt3
          go_big_quiet (first | (go_at_call 37; (with_reducible refine Calls.quiet_of (cWA2 _))) | (go_at_call 37; (with_reducible refine Calls.quiet_of (cWA3 _))))
          have hb2 : Below w.heap.size w (wq.drewN nq) := below_drewN hb1 nq
          generalize wq.drewN nq = wq2 at hb2 ⊢
          clear cWA2 cWA3 hb1
          have HBt3' := HBt3
          have y3' := Lib.hid y3
          go_wp2
          go_loopg [0] (t3.size + 1) (fun g2 s0 wx => Below w.heap.size w wx ∧ ∃ u : ByteArray, Bs w s0 u ∧ Lib.validD u.data.toList = ANS ∧ u.size < g2 ∧ u.size ≤ t3.size)
          case atStart => exact ⟨hb2, t3, HBt3'.out, y3'.out, by omega, Nat.le_refl _⟩
          case round =>
            obtain ⟨hbu, u, hBu, vu, hgu, hut⟩ := hrel
            have HBu := Lib.hid hBu
            obtain ⟨au, rfl, hau⟩ := hBu
            by_cases c32 : 32 < u.size
            · obtain ⟨g3, rfl⟩ : ∃ g3, gk = g3 + 1 := ⟨gk - 1, by omega⟩
              have c32z : (32 : Int) < (u.size : Int) := by omega
              obtain ⟨gu, ou, rfl, hgu', hbu'⟩ := hau (by omega)
              clear hau
              obtain ⟨v5, hcv5, hBv5⟩ := HBu.out.cut 8 (by omega) (by omega)
              obtain ⟨ub, htub⟩ : ∃ q, u.extract 8 u.size = q := ⟨_, rfl⟩
              rw [htub] at hBv5
              have zub : ub.size + 8 = u.size := by rw [← htub, Lib.ext_size]; omega
              have HBub := Lib.hid hBv5
              obtain ⟨aub, rfl, haub⟩ := hBv5
              have hcv5' : ∀ W : World, (cut22 (.slice (some ⟨gu, ou, none⟩) u.size u.size) (.int .i64 8)).run Tryd.prog W = .ok (.slice aub ub.size ub.size) W := hcv5
              clear hcv5
              obtain ⟨gub, oub, rfl, hgub, hbub⟩ := haub (by omega)
              clear haub
              obtain ⟨v6, hcv6, hBv6⟩ := HBu.out.cut 16 (by omega) (by omega)
              obtain ⟨uc, htuc⟩ : ∃ q, u.extract 16 u.size = q := ⟨_, rfl⟩
              rw [htuc] at hBv6
              have zuc : uc.size + 16 = u.size := by rw [← htuc, Lib.ext_size]; omega
              have HBuc := Lib.hid hBv6
              obtain ⟨auc, rfl, hauc⟩ := hBv6
              have hcv6' : ∀ W : World, (cut22 (.slice (some ⟨gu, ou, none⟩) u.size u.size) (.int .i64 16)).run Tryd.prog W = .ok (.slice auc uc.size uc.size) W := hcv6
              clear hcv6
              obtain ⟨guc, ouc, rfl, hguc, hbuc⟩ := hauc (by omega)
              clear hauc
              obtain ⟨v7, hcv7, hBv7⟩ := HBu.out.cut 24 (by omega) (by omega)
              obtain ⟨ud, htud⟩ : ∃ q, u.extract 24 u.size = q := ⟨_, rfl⟩
              rw [htud] at hBv7
              have zud : ud.size + 24 = u.size := by rw [← htud, Lib.ext_size]; omega
              have HBud := Lib.hid hBv7
              obtain ⟨aud, rfl, haud⟩ := hBv7
              have hcv7' : ∀ W : World, (cut22 (.slice (some ⟨gu, ou, none⟩) u.size u.size) (.int .i64 24)).run Tryd.prog W = .ok (.slice aud ud.size ud.size) W := hcv7
              clear hcv7
              obtain ⟨gud, oud, rfl, hgud, hbud⟩ := haud (by omega)
              clear haud
              have hbX := hbu
              have hgu_ := hgu'
              obtain ⟨B0, hB0⟩ : ∃ q, Lib.leNat [u.get! 0, u.get! 1, u.get! 2, u.get! 3, u.get! 4, u.get! 5, u.get! 6, u.get! 7] = q := ⟨_, rfl⟩
              have lB0 : B0 < 18446744073709551616 := hB0 ▸ Lib.word_lt u
              have cWB0 : ∀ n, Calls Tryd.prog 37 #[.slice (some ⟨gu, ou, none⟩) u.size u.size] (wr.drewN n) fun e w' => e = .returned (.int .u64 B0) ∧ ∃ q, w' = (wr.drewN n).drewN q := fun n => by rw [← hB0]; exact word_any gu ou u.size u.size u _ (by omega) rfl (Below.bt (below_drewN hbX n) hbu' hgu')
              have kB0 := Lib.word_asc u (by omega)
              rw [hB0] at kB0
              obtain ⟨B1, hB1⟩ : ∃ q, Lib.leNat [ub.get! 0, ub.get! 1, ub.get! 2, ub.get! 3, ub.get! 4, ub.get! 5, ub.get! 6, ub.get! 7] = q := ⟨_, rfl⟩
              have lB1 : B1 < 18446744073709551616 := hB1 ▸ Lib.word_lt ub
              have cWB1 : ∀ n, Calls Tryd.prog 37 #[.slice (some ⟨gub, oub, none⟩) ub.size ub.size] (wr.drewN n) fun e w' => e = .returned (.int .u64 B1) ∧ ∃ q, w' = (wr.drewN n).drewN q := fun n => by rw [← hB1]; exact word_any gub oub ub.size ub.size ub _ (by omega) rfl (Below.bt (below_drewN hbX n) hbub hgub)
              have kB1 := Lib.word_asc ub (by omega)
              rw [hB1] at kB1
              obtain ⟨B2, hB2⟩ : ∃ q, Lib.leNat [uc.get! 0, uc.get! 1, uc.get! 2, uc.get! 3, uc.get! 4, uc.get! 5, uc.get! 6, uc.get! 7] = q := ⟨_, rfl⟩
              have lB2 : B2 < 18446744073709551616 := hB2 ▸ Lib.word_lt uc
              have cWB2 : ∀ n, Calls Tryd.prog 37 #[.slice (some ⟨guc, ouc, none⟩) uc.size uc.size] (wr.drewN n) fun e w' => e = .returned (.int .u64 B2) ∧ ∃ q, w' = (wr.drewN n).drewN q := fun n => by rw [← hB2]; exact word_any guc ouc uc.size uc.size uc _ (by omega) rfl (Below.bt (below_drewN hbX n) hbuc hguc)
              have kB2 := Lib.word_asc uc (by omega)
              rw [hB2] at kB2
              obtain ⟨B3, hB3⟩ : ∃ q, Lib.leNat [ud.get! 0, ud.get! 1, ud.get! 2, ud.get! 3, ud.get! 4, ud.get! 5, ud.get! 6, ud.get! 7] = q := ⟨_, rfl⟩
              have lB3 : B3 < 18446744073709551616 := hB3 ▸ Lib.word_lt ud
              have cWB3 : ∀ n, Calls Tryd.prog 37 #[.slice (some ⟨gud, oud, none⟩) ud.size ud.size] (wr.drewN n) fun e w' => e = .returned (.int .u64 B3) ∧ ∃ q, w' = (wr.drewN n).drewN q := fun n => by rw [← hB3]; exact word_any gud oud ud.size ud.size ud _ (by omega) rfl (Below.bt (below_drewN hbX n) hbud hgud)
              have kB3 := Lib.word_asc ud (by omega)
              rw [hB3] at kB3
              have ho1 : bits .or .u64 (B0 : Int) (B1 : Int) = ((B0 ||| B1 : Nat) : Int) := u64_or_nat B0 B1 lB0 lB1
              have ho2 : bits .or .u64 (B2 : Int) (B3 : Int) = ((B2 ||| B3 : Nat) : Int) := u64_or_nat B2 B3 lB2 lB3
              have lo1 : B0 ||| B1 < 18446744073709551616 := Nat.or_lt_two_pow (n := 64) lB0 lB1
              have lo2 : B2 ||| B3 < 18446744073709551616 := Nat.or_lt_two_pow (n := 64) lB2 lB3
              have ho3 : bits .or .u64 ((B0 ||| B1 : Nat) : Int) ((B2 ||| B3 : Nat) : Int) = (((B0 ||| B1) ||| (B2 ||| B3) : Nat) : Int) := u64_or_nat _ _ lo1 lo2
              have lo3 : (B0 ||| B1) ||| (B2 ||| B3) < 18446744073709551616 := Nat.or_lt_two_pow (n := 64) lo1 lo2
              have hand3 : bits .and .u64 (((B0 ||| B1) ||| (B2 ||| B3) : Nat) : Int) 9259542123273814144 = ((((B0 ||| B1) ||| (B2 ||| B3)) &&& 9259542123273814144 : Nat) : Int) := u64_and_nat _ 9259542123273814144 lo3 (by omega)
              have k3 : ((B0 ||| B1) ||| (B2 ||| B3)) &&& 9259542123273814144 = 0 → Lib.Asc u 32 := fun h0' => by
                obtain ⟨e01, e23⟩ := (Lib.or_mask _ _ _).1 h0'
                obtain ⟨e0, e1⟩ := (Lib.or_mask _ _ _).1 e01
                obtain ⟨e2, e3⟩ := (Lib.or_mask _ _ _).1 e23
                have s16 : Lib.Asc u 16 := Lib.asc_add u 8 8 (kB0.1 e0) (by rw [htub]; exact kB1.1 e1)
                have s24 : Lib.Asc u 24 := Lib.asc_add u 16 8 s16 (by rw [htuc]; exact kB2.1 e2)
                exact Lib.asc_add u 24 8 s24 (by rw [htud]; exact kB3.1 e3)
              obtain ⟨P1, hP1⟩ : ∃ P1, B0 ||| B1 = P1 := ⟨_, rfl⟩
              obtain ⟨P2, hP2⟩ : ∃ P2, B2 ||| B3 = P2 := ⟨_, rfl⟩
              rw [hP1, hP2] at ho3 hand3 k3
              rw [hP1] at ho1
              rw [hP2] at ho2
              obtain ⟨P3, hP3⟩ : ∃ P3, P1 ||| P2 = P3 := ⟨_, rfl⟩
              rw [hP3] at ho3 hand3 k3
              obtain ⟨Z3, hZ3⟩ : ∃ Z3, P3 &&& 9259542123273814144 = Z3 := ⟨_, rfl⟩
              rw [hZ3] at hand3 k3
              clear kB0 kB1 kB2 kB3 lo1 lo2 lo3 hP1 hP2 hP3 hZ3 hbX hB0 hB1 hB2 hB3 lB0 lB1 lB2 lB3 htub htuc htud
              by_cases hz3 : Z3 = 0
              · have hz3b : ((Z3 : Int) == 0) = true := by simp [hz3]
                have a32 := k3 hz3
                obtain ⟨v8, hcv8, hBv8⟩ := HBu.out.cut 32 (by omega) (by omega)
                obtain ⟨u2, htu2⟩ : ∃ q, u.extract 32 u.size = q := ⟨_, rfl⟩
                rw [htu2] at hBv8
                have zu2 : u2.size + 32 = u.size := by rw [← htu2, Lib.ext_size]; omega
                have HBu2 := Lib.hid hBv8
                obtain ⟨au2, rfl, hau2⟩ := hBv8
                have hcv8' : ∀ W : World, (cut22 (.slice (some ⟨gu, ou, none⟩) u.size u.size) (.int .i64 32)).run Tryd.prog W = .ok (.slice au2 u2.size u2.size) W := hcv8
                clear hcv8
                have vu2 : Lib.validD u2.data.toList = ANS := by rw [← htu2, Lib.valid_skip u 32 a32]; exact vu
                clear k3 a32 htu2
                have HV2 := Lib.hid vu2
                go_wp2_with fail
                go_big_quiet (first | (go_at_call 37; (with_reducible refine Calls.quiet_of (cWB0 _))) | (go_at_call 37; (with_reducible refine Calls.quiet_of (cWB1 _))) | (go_at_call 37; (with_reducible refine Calls.quiet_of (cWB2 _))) | (go_at_call 37; (with_reducible refine Calls.quiet_of (cWB3 _))))
                go_wp2
                go_roundg g3
                case measure => omega
                case rel => exact ⟨below_drewN hbu nq, u2, HBu2.out, HV2.out, by omega, by omega⟩
              · have hz3b : ((Z3 : Int) == 0) = false := by simp; omega
                clear k3
                have HVU := Lib.hid vu
                go_wp2_with fail
                go_big_quiet (first | (go_at_call 37; (with_reducible refine Calls.quiet_of (cWB0 _))) | (go_at_call 37; (with_reducible refine Calls.quiet_of (cWB1 _))) | (go_at_call 37; (with_reducible refine Calls.quiet_of (cWB2 _))) | (go_at_call 37; (with_reducible refine Calls.quiet_of (cWB3 _))))
                go_wp2
                go_roundg g'
                case measure => omega
                case rel => exact ⟨below_drewN hbu nq, u, HBu.out, HVU.out, by omega, by omega⟩
            · have c32z : ¬ ((32 : Int) < (u.size : Int)) := by omega
              have c32b : decide ((32 : Int) < (u.size : Int)) = false := decide_eq_false c32z
              have HVU := Lib.hid vu
              go_wp2_with fail
              go_big_quiet (fail)
              go_wp2
              go_roundg g'
              case measure => omega
              case rel => exact ⟨below_drewN hbu nq, u, HBu.out, HVU.out, by omega, by omega⟩
        · have hz2b : ((Z2 : Int) == 0) = false := by simp; omega
          have HY2 := Lib.hid y2
          clear k2 y2
          go_big_quiet (first | (go_at_call 37; (with_reducible refine Calls.quiet_of (cWA2 _))) | (go_at_call 37; (with_reducible refine Calls.quiet_of (cWA3 _))))
          go_wp2
          go_roundg g'
          case measure => omega
          case rel => exact ⟨below_drewN hb1 nq, t2, HBt2.out, HY2.out, by omega, by omega⟩
      · have c16z : ¬ ((16 : Int) < (t2.size : Int)) := by omega
        have c16b : decide ((16 : Int) < (t2.size : Int)) = false := decide_eq_false c16z
        have HY2 := Lib.hid y2
        clear y2
        go_big_quiet (fail)
        go_wp2
        go_roundg g'
        case measure => omega
        case rel => exact ⟨below_drewN hb1 nq, t2, HBt2.out, HY2.out, by omega, by omega⟩
    · have hz1b : ((Z1 : Int) == 0) = false := by simp; omega
      have HY1 := Lib.hid y1
      clear kA1 y1
      go_wp2_with (go_at_call 37; go_must (refine Calls.mono cW1 ?_; rintro e W1 ⟨rfl, q1, rfl⟩))
      go_roundg g'
      case measure => omega
      case rel => exact ⟨below_drewN hbw q1, t1, HBt1.out, HY1.out, by omega, by omega⟩
  · have c8z : ¬ ((8 : Int) < (t1.size : Int)) := by omega
    have HY1 := Lib.hid y1
    clear y1
    go_wp2
    go_roundg g'
    case measure => omega
    case rel => exact ⟨hbw, t1, HBt1.out, HY1.out, by omega, by omega⟩
end Go.Proofs.YtblhofoikpnbkaaDoor
