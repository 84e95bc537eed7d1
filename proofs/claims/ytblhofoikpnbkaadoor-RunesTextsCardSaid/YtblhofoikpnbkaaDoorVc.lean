/- utf8.Valid's loop, a round by cases: a lead byte of 4. -/
import Derived.Test.YtblhofoikpnbkaaDoorV1
import Derived.Shelf.Unicode.DecodeAny
import Derived.Lib.ValidAsc
import Derived.Laws.BitsAllLaws
import Derived.Deep.LoopGhost
import Derived.Deep.DeepMust
import Derived.BigQuiet
import Derived.Deep.CutBlock
import Derived.Deep.DeepCutAuto
import Derived.Test.YtblhofoikpnbkaaDoorV2
namespace Go.Proofs.YtblhofoikpnbkaaDoor
open Go.RowKit Go.Shelf Go.Proofs
attribute [local go_sem ↓ high] slice_cut22 slice_clip22
set_option maxHeartbeats 16000000 in
set_option maxRecDepth 1000000 in
theorem lead4
    {ANS : Bool} {w wr : World} {t : ByteArray} {gb ob gk : Nat} {c7 c8 c9 c10 c11 c12 u2 u3 u4 u5 u6 u13 u14 u15 u16 u17 u18 u19 u20 u21 u22 u23 u24 u25 u26 u27 u28 u29 u30 u31 u32 u33 u34 u35 u36 u37 u38 u39 u40 u41 u42 u43 u44 u45 u46 u47 u48 u49 u50 u51 u52 u53 u54 u55 u56 u57 u58 u59 u60 u61 u62 u63 u64 u65 u66 u67 u68 u69 u70 u71 u72 u73 u74 u75 u76 u77 u78 u79 u80 u81 u82 u83 u84 u85 u86 u87 u88 u89 u90 u91 u92 u93 u94 u95 u96 u97 u98 u99 u100 u101 u102 u103 u104 u105 u106 u107 u108 u109 u110 u111 u112 u113 u114 u115 u116 u117 u118 u119 u120 u121 u122 u123 u124 u125 u126 u127 u128 u129 u130 u131 u132 u133 u134 u135 u136 u137 u138 u139 u140 u141 u142 u143 u144 u145 u146 u147 u148 u149 u150 u151 u152 u153 u154 u155 u156 u157 u158 u159 u160 u161 u162 u163 u164 u165 u166 u167 u168 u169 u170 u171 u172 u173 u174 u175 u176 u177 u178 u179 u180 u181 u182 u183 u184 u185 u186 u187 : Value} {J : Nat → Act → World → Prop} {K K1 : Act → World → Prop}
    (hJ : ∀ (k : Nat) (a' : Act) (w' : World), (∃ u0 u2 u3 u4 u5 u6 u13 u14 u15 u16 u17 u18 u19 u20 u21 u22 u23 u24 u25 u26 u27 u28 u29 u30 u31 u32 u33 u34 u35 u36 u37 u38 u39 u40 u41 u42 u43 u44 u45 u46 u47 u48 u49 u50 u51 u52 u53 u54 u55 u56 u57 u58 u59 u60 u61 u62 u63 u64 u65 u66 u67 u68 u69 u70 u71 u72 u73 u74 u75 u76 u77 u78 u79 u80 u81 u82 u83 u84 u85 u86 u87 u88 u89 u90 u91 u92 u93 u94 u95 u96 u97 u98 u99 u100 u101 u102 u103 u104 u105 u106 u107 u108 u109 u110 u111 u112 u113 u114 u115 u116 u117 u118 u119 u120 u121 u122 u123 u124 u125 u126 u127 u128 u129 u130 u131 u132 u133 u134 u135 u136 u137 u138 u139 u140 u141 u142 u143 u144 u145 u146 u147 u148 u149 u150 u151 u152 u153 u154 u155 u156 u157 u158 u159 u160 u161 u162 u163 u164 u165 u166 u167 u168 u169 u170 u171 u172 u173 u174 u175 u176 u177 u178 u179 u180 u181 u182 u183 u184 u185 u186 u187 : Value, (Below w.heap.size w w' ∧ ∃ t, Bs w u0 t ∧ Lib.validD t.data.toList = ANS ∧ t.size < k ∧ t.size ≤ 9223372036854775807) ∧ a' = ⟨#[u0, undef, u2, u3, u4, u5, u6, c7, c8, c9, c10, c11, c12, u13, u14, u15, u16, u17, u18, u19, u20, u21, u22, u23, u24, u25, u26, u27, u28, u29, u30, u31, u32, u33, u34, u35, u36, u37, u38, u39, u40, u41, u42, u43, u44, u45, u46, u47, u48, u49, u50, u51, u52, u53, u54, u55, u56, u57, u58, u59, u60, u61, u62, u63, u64, u65, u66, u67, u68, u69, u70, u71, u72, u73, u74, u75, u76, u77, u78, u79, u80, u81, u82, u83, u84, u85, u86, u87, u88, u89, u90, u91, u92, u93, u94, u95, u96, u97, u98, u99, u100, u101, u102, u103, u104, u105, u106, u107, u108, u109, u110, u111, u112, u113, u114, u115, u116, u117, u118, u119, u120, u121, u122, u123, u124, u125, u126, u127, u128, u129, u130, u131, u132, u133, u134, u135, u136, u137, u138, u139, u140, u141, u142, u143, u144, u145, u146, u147, u148, u149, u150, u151, u152, u153, u154, u155, u156, u157, u158, u159, u160, u161, u162, u163, u164, u165, u166, u167, u168, u169, u170, u171, u172, u173, u174, u175, u176, u177, u178, u179, u180, u181, u182, u183, u184, u185, u186, u187], []⟩) → J k a' w')
    (hK : ∀ (a' : Act) (w' : World), Handed J gk a' w' → K a' w')
    (hbw : Below w.heap.size w wr) (hT : Lib.Utf8Tabs 0 1 w) (hBs0 : Bs w (.slice (some ⟨gb, ob, none⟩) t.size t.size) t) (hgb : gb < w.heap.size) (hbt : Bt w gb ob t)
    (hv : Lib.validD t.data.toList = ANS) (hg : t.size < gk) (hts : t.size ≤ 9223372036854775807) (h0 : 0 < t.size)
    (hasc : ¬ (t.get! 0).toNat < 128) (hsz : Lib.firstT (t.get! 0).toNat % 8 = 4) :
    Code.wp Tryd.prog body31 (Exit.then K (Exit.inBlock 0 (Exit.then K1 (bodyPost Tryd.prog Tryd.f31 fun e w' => e = .returned (.bool ANS) ∧ Below w.heap.size w w')))) ⟨#[.slice (some ⟨gb, ob, none⟩) t.size t.size, undef, u2, u3, u4, u5, u6, c7, c8, c9, c10, c11, c12, u13, u14, u15, u16, u17, u18, u19, u20, u21, u22, u23, u24, u25, u26, u27, u28, u29, u30, u31, u32, u33, u34, u35, u36, u37, u38, u39, u40, u41, u42, u43, u44, u45, u46, u47, u48, u49, u50, u51, u52, u53, u54, u55, u56, u57, u58, u59, u60, u61, u62, u63, u64, u65, u66, u67, u68, u69, u70, u71, u72, u73, u74, u75, u76, u77, u78, u79, u80, u81, u82, u83, u84, u85, u86, u87, u88, u89, u90, u91, u92, u93, u94, u95, u96, u97, u98, u99, u100, u101, u102, u103, u104, u105, u106, u107, u108, u109, u110, u111, u112, u113, u114, u115, u116, u117, u118, u119, u120, u121, u122, u123, u124, u125, u126, u127, u128, u129, u130, u131, u132, u133, u134, u135, u136, u137, u138, u139, u140, u141, u142, u143, u144, u145, u146, u147, u148, u149, u150, u151, u152, u153, u154, u155, u156, u157, u158, u159, u160, u161, u162, u163, u164, u165, u166, u167, u168, u169, u170, u171, u172, u173, u174, u175, u176, u177, u178, u179, u180, u181, u182, u183, u184, u185, u186, u187], []⟩ wr := by
  conv => arg 2; whnf
  generalize hQ : (bodyPost Tryd.prog Tryd.f31 fun e w' => e = .returned (.bool ANS) ∧ Below w.heap.size w w') = Q'
  have HQ := Lib.hid hQ
  have HBs := Lib.hid hBs0
  have HTT := Lib.hid hT
  clear hQ hBs0 hT
  have hTr := Utf8Tabs_below HTT.out hbw
  have hbr := Below.bt hbw hbt hgb
  obtain ⟨g', rfl⟩ : ∃ g', gk = g' + 1 := ⟨gk - 1, by omega⟩
  have h0z : (0 : Int) < (t.size : Int) := by omega
  obtain ⟨x0, hx0⟩ : ∃ x0, t.get! 0 = x0 := ⟨_, rfl⟩
  have b0 : wr.cell? ⟨gb, ob, none⟩ = some (.int .u8 x0.toNat) := by have := hbr 0 h0; rw [hx0] at this; exact this
  have hx0lt : x0.toNat < 256 := x0.toNat_lt
  rw [hx0] at hasc
  clear hbr
  have hge : 128 ≤ x0.toNat := by omega
  have hascz : ¬ ((x0.toNat : Int) < 128) := by omega
  obtain ⟨x1, hx1⟩ : ∃ x1, t.get! 1 = x1 := ⟨_, rfl⟩
  obtain ⟨x2, hx2⟩ : ∃ x2, t.get! 2 = x2 := ⟨_, rfl⟩
  obtain ⟨x3, hx3⟩ : ∃ x3, t.get! 3 = x3 := ⟨_, rfl⟩
  have l1 := x1.toNat_lt; have l2 := x2.toNat_lt; have l3 := x3.toNat_lt
  have hne : t.data.toList ≠ [] := fun h => by rw [Lib.size_eq, h] at h0; simp at h0
  have hlead := Lib.validD_lead t.data.toList hne (by rw [Lib.getD_get!', hx0]; exact hge)
  rw [Lib.getD_get!', Lib.getD_get!', Lib.getD_get!', Lib.getD_get!', hx0, hx1, hx2, hx3, ← Lib.size_eq, hv] at hlead
  rw [hx0] at hsz
  have hc0 := hTr.1 x0.toNat hx0lt
  have hXlt : Lib.firstT x0.toNat < 256 := by rcases Lib.firstT_cases x0.toNat with h | h | h | h | h | h | h | h | h <;> omega
  obtain ⟨X, hX⟩ : ∃ X, Lib.firstT x0.toNat = X := ⟨_, rfl⟩
  rw [hX] at hc0 hXlt hlead hsz
  have h7 := and7 ⟨X, hXlt⟩
  simp only at h7
  have ha0 : wr.cell? ⟨1, X / 16 * 2, none⟩ = some (.int .u8 (Lib.accLo (X / 16))) := by rw [Nat.mul_comm]; exact (hTr.2 (X / 16) (by omega)).1
  have ha1 : wr.cell? ⟨1, X / 16 * 2 + 1, none⟩ = some (.int .u8 (Lib.accHi (X / 16))) := by rw [Nat.mul_comm]; exact (hTr.2 (X / 16) (by omega)).2
  obtain ⟨LO, hLO⟩ : ∃ LO, Lib.accLo (X / 16) = LO := ⟨_, rfl⟩
  obtain ⟨HI, hHI⟩ : ∃ HI, Lib.accHi (X / 16) = HI := ⟨_, rfl⟩
  rw [hLO] at ha0 hlead
  rw [hHI] at ha1 hlead
  clear hTr hX hv hLO hHI hne hx0
  have Hts := Lib.hid hts
  have hSZz : (X : Int) % 8 = 4 := by omega
  rw [hsz] at hlead
  simp only [Lib.checkN, Nat.reduceEqDiff, if_true, if_false] at hlead
  go_upto_region 26 with fail
  obtain ⟨W1, hW1⟩ : ∃ W1, wr.alloc (.cells #[.int .u8 LO, .int .u8 HI] 47) = W1 := ⟨_, rfl⟩
  have hbA : Below w.heap.size w W1 := by rw [← hW1]; exact hbw.alloc hbw.size _
  have l0c : W1.cell? ⟨wr.heap.size, 0, none⟩ = some (.int .u8 LO) := by rw [← hW1, World.cell?_alloc_mark]; rfl
  have l1c : W1.cell? ⟨wr.heap.size, 1, none⟩ = some (.int .u8 HI) := by rw [← hW1, World.cell?_alloc_mark]; rfl
  rw [hW1]
  clear hW1
  go_cut [185] from 143 to 185 (fun c wx => c = .bool (decide (t.size < 4 ∨ x1.toNat < LO ∨ HI < x1.toNat ∨ x2.toNat < 128 ∨ 191 < x2.toNat ∨ x3.toNat < 128 ∨ 191 < x3.toNat)) ∧ Below w.heap.size w wx)
  case first =>
    by_cases q0 : t.size < 4
    · have q0z : (t.size : Int) < 4 := by omega
      go_big_quiet (fail)
      go_wp2
      go_meet
      exact ⟨congrArg Value.bool (decide_eq_true (p := t.size < 4 ∨ x1.toNat < LO ∨ HI < x1.toNat ∨ x2.toNat < 128 ∨ 191 < x2.toNat ∨ x3.toNat < 128 ∨ 191 < x3.toNat) (by omega)).symm, below_drewN hbA _⟩
    · have q0z : ¬ ((t.size : Int) < 4) := by omega
      have hz1 : (1 : Int) < (t.size : Int) := by omega
      have b1 : W1.cell? ⟨gb, ob + 1, none⟩ = some (.int .u8 x1.toNat) := by have := Below.bt hbA hbt hgb 1 (by omega); rw [hx1] at this; exact this
      have hz2 : (2 : Int) < (t.size : Int) := by omega
      have b2 : W1.cell? ⟨gb, ob + 2, none⟩ = some (.int .u8 x2.toNat) := by have := Below.bt hbA hbt hgb 2 (by omega); rw [hx2] at this; exact this
      have hz3 : (3 : Int) < (t.size : Int) := by omega
      have b3 : W1.cell? ⟨gb, ob + 3, none⟩ = some (.int .u8 x3.toNat) := by have := Below.bt hbA hbt hgb 3 (by omega); rw [hx3] at this; exact this
      by_cases q1 : x1.toNat < LO
      · have q1z : (x1.toNat : Int) < (LO : Int) := by omega
        go_big_quiet (fail)
        go_wp2
        go_meet
        exact ⟨congrArg Value.bool (decide_eq_true (p := t.size < 4 ∨ x1.toNat < LO ∨ HI < x1.toNat ∨ x2.toNat < 128 ∨ 191 < x2.toNat ∨ x3.toNat < 128 ∨ 191 < x3.toNat) (by omega)).symm, below_drewN hbA _⟩
      · have q1z : ¬ ((x1.toNat : Int) < (LO : Int)) := by omega
        by_cases q2 : HI < x1.toNat
        · have q2z : (HI : Int) < (x1.toNat : Int) := by omega
          go_big_quiet (fail)
          go_wp2
          go_meet
          exact ⟨congrArg Value.bool (decide_eq_true (p := t.size < 4 ∨ x1.toNat < LO ∨ HI < x1.toNat ∨ x2.toNat < 128 ∨ 191 < x2.toNat ∨ x3.toNat < 128 ∨ 191 < x3.toNat) (by omega)).symm, below_drewN hbA _⟩
        · have q2z : ¬ ((HI : Int) < (x1.toNat : Int)) := by omega
          by_cases q3 : x2.toNat < 128
          · have q3z : (x2.toNat : Int) < 128 := by omega
            go_big_quiet (fail)
            go_wp2
            go_meet
            exact ⟨congrArg Value.bool (decide_eq_true (p := t.size < 4 ∨ x1.toNat < LO ∨ HI < x1.toNat ∨ x2.toNat < 128 ∨ 191 < x2.toNat ∨ x3.toNat < 128 ∨ 191 < x3.toNat) (by omega)).symm, below_drewN hbA _⟩
          · have q3z : ¬ ((x2.toNat : Int) < 128) := by omega
            by_cases q4 : 191 < x2.toNat
            · have q4z : (191 : Int) < (x2.toNat : Int) := by omega
              go_big_quiet (fail)
              go_wp2
              go_meet
              exact ⟨congrArg Value.bool (decide_eq_true (p := t.size < 4 ∨ x1.toNat < LO ∨ HI < x1.toNat ∨ x2.toNat < 128 ∨ 191 < x2.toNat ∨ x3.toNat < 128 ∨ 191 < x3.toNat) (by omega)).symm, below_drewN hbA _⟩
            · have q4z : ¬ ((191 : Int) < (x2.toNat : Int)) := by omega
              by_cases q5 : x3.toNat < 128
              · have q5z : (x3.toNat : Int) < 128 := by omega
                go_big_quiet (fail)
                go_wp2
                go_meet
                exact ⟨congrArg Value.bool (decide_eq_true (p := t.size < 4 ∨ x1.toNat < LO ∨ HI < x1.toNat ∨ x2.toNat < 128 ∨ 191 < x2.toNat ∨ x3.toNat < 128 ∨ 191 < x3.toNat) (by omega)).symm, below_drewN hbA _⟩
              · have q5z : ¬ ((x3.toNat : Int) < 128) := by omega
                by_cases q6 : 191 < x3.toNat
                · have q6z : (191 : Int) < (x3.toNat : Int) := by omega
                  go_big_quiet (fail)
                  go_wp2
                  go_meet
                  exact ⟨congrArg Value.bool (decide_eq_true (p := t.size < 4 ∨ x1.toNat < LO ∨ HI < x1.toNat ∨ x2.toNat < 128 ∨ 191 < x2.toNat ∨ x3.toNat < 128 ∨ 191 < x3.toNat) (by omega)).symm, below_drewN hbA _⟩
                · have q6z : ¬ ((191 : Int) < (x3.toNat : Int)) := by omega
                  go_big_quiet (fail)
                  go_wp2
                  go_meet
                  exact ⟨congrArg Value.bool (decide_eq_false (p := t.size < 4 ∨ x1.toNat < LO ∨ HI < x1.toNat ∨ x2.toNat < 128 ∨ 191 < x2.toNat ∨ x3.toNat < 128 ∨ 191 < x3.toNat) (by omega)).symm, below_drewN hbA _⟩
  case rest =>
    obtain ⟨rfl, hbc⟩ := hcut
    by_cases hb : t.size < 4 ∨ x1.toNat < LO ∨ HI < x1.toNat ∨ x2.toNat < 128 ∨ 191 < x2.toNat ∨ x3.toNat < 128 ∨ 191 < x3.toNat
    · have hbd : decide (t.size < 4 ∨ x1.toNat < LO ∨ HI < x1.toNat ∨ x2.toNat < 128 ∨ 191 < x2.toNat ∨ x3.toNat < 128 ∨ 191 < x3.toNat) = true := decide_eq_true hb
      rw [if_pos hb] at hlead
      go_wp2
      all_goals (rw [← HQ.out]; go_ret; exact ⟨by first | rfl | (rw [hlead]; rfl), hbc⟩)
    · have hbd : decide (t.size < 4 ∨ x1.toNat < LO ∨ HI < x1.toNat ∨ x2.toNat < 128 ∨ 191 < x2.toNat ∨ x3.toNat < 128 ∨ 191 < x3.toNat) = false := decide_eq_false hb
      rw [if_neg hb] at hlead
      obtain ⟨vk, hcutk, hBk⟩ := HBs.out.cut 4 (by omega) hts
      have hcutk' : ∀ W : World, (cut22 (.slice (some ⟨gb, ob, none⟩) t.size t.size) (.int .i64 4)).run Tryd.prog W = .ok vk W := hcutk
      have HBk := Lib.hid hBk
      clear hBk hcutk
      go_wp2
      go_roundg g'
      case measure => omega
      case rel => exact ⟨hbc, _, HBk.out, by rw [Lib.ext_list, hlead], by rw [Lib.ext_size]; omega, by rw [Lib.ext_size]; omega⟩
end Go.Proofs.YtblhofoikpnbkaaDoor
