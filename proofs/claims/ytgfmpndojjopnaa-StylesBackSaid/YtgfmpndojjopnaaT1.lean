/- StylesBack: the walk. -/
import Derived.Test.YtgfmpndojjopnaaS5
import Derived.Deep.RegionWith
namespace Go.Proofs.Ytgfmpndojjopnaa
open Go.RowKit

theorem eqF (k l k' l' : Int) (w : World) : (Op.equalIn 10000 23 (.agg #[.int .u8 k, .int .u8 l]) (.agg #[.int .u8 k', .int .u8 l'])).run Try.prog w = .ok (k == k' && l == l') w := by
  rw [run_equalIn_agg w 9999 23 _ _ (by kernel_rfl) (by kernel_rfl)]
  have h3 : ((Try.prog.fieldsOf 23).toList.map fun f => (f.name != "_", f.type, f.offset)) = [(true, 5, 0), (true, 5, 1)] := by kernel_rfl
  generalize (Try.prog.fieldsOf 23).toList = fs at *
  rcases fs with _ | ⟨f0, _ | ⟨f1, _ | ⟨f2, fs⟩⟩⟩
  · simp at h3
  · simp at h3
  · simp only [List.map_cons, List.map_nil, List.cons.injEq, Prod.mk.injEq, and_true, bne_iff_ne, ne_eq] at h3
    obtain ⟨⟨n0, t0, o0⟩, ⟨n1, t1, o1⟩⟩ := h3
    have e1 : ∀ (a b : Int) (w : World), (Op.equalIn 9999 5 (.int .u8 a) (.int .u8 b)).run Try.prog w = .ok (a == b) w := fun a b w => run_equalIn_int w 9998 5 .u8 .u8 a b Try.underlying5
    simp [go_sem, Op.eqFields, n0, n1, t0, t1, o0, o1, e1]
    by_cases a1 : k = k' <;> by_cases a2 : l = l' <;> simp [a1, a2]
  · simp at h3
theorem eqF_same (k l : Int) (w : World) : (binOp .eql 23 (.agg #[.int .u8 k, .int .u8 l]) (.agg #[.int .u8 k, .int .u8 l])).run Try.prog w = .ok (.bool true) w := by
  rw [run_eql_struct, eqF]
  simp [Result.andThen]
theorem neqF_same (k l : Int) (w : World) : (binOp .neq 23 (.agg #[.int .u8 k, .int .u8 l]) (.agg #[.int .u8 k, .int .u8 l])).run Try.prog w = .ok (.bool false) w := by
  rw [run_neq_struct, eqF]
  simp [Result.andThen]

set_option maxRecDepth 100000 in
set_option maxHeartbeats 4000000 in
theorem back_any (a b n : Int) (w : World) (h0 : 0 ≤ n) (h1 : n ≤ 255) :
    Calls Try.prog 4 #[.agg #[.int .u8 a, .int .u8 b], .int .u8 n] w fun e w' => e = .returned (.bool true) ∧ Below w.heap.size w w' := by
  obtain ⟨k, hk⟩ : ∃ k, n.tmod 4 = k := ⟨_, rfl⟩
  have hm : n.tmod 4 = n % 4 := Int.tmod_eq_emod_of_nonneg h0
  have hk0 : 0 ≤ k := by omega
  have hk1 : k ≤ 3 := by omega
  have hq := eqF_same
  have HT1 := Lib.hid (fun W => turn_any a b k W)
  have HT2 := Lib.hid (fun W => turn_any k a 4 W)
  have HT3 := Lib.hid (fun W => turn_any a b 4 W)
  have HT4 := Lib.hid (fun W => turn_any b a 4 W)
  rw [fturn_to a b k hk0 hk1] at HT1
  simp only [fturn_back] at HT2 HT3 HT4
  go_enter Try.func4, Try.ntmps4
  go_wp2_with fail
  refine (HT1.out _).mono ?_
  rintro e w1 ⟨rfl, b1⟩
  have bl := below_lit w (.cells #[.int .u8 a, .int .u8 b] 23)
  have hb0 : Blk (w.alloc (.cells #[.int .u8 a, .int .u8 b] 23)) w.heap.size 23 [.int .u8 a, .int .u8 b] := heap_alloc_new w _
  have hb1 := hb0.below b1
  have bl1 := below_lit w1 (.cells #[.int .u8 k, .int .u8 a] 23)
  have hb2 := hb1.below bl1
  have hc0 : Blk (w1.alloc (.cells #[.int .u8 k, .int .u8 a] 23)) w1.heap.size 23 [.int .u8 k, .int .u8 a] := heap_alloc_new w1 _
  have z1 := b1.size
  simp at z1
  have B2 : Hid (Below w.heap.size w (w1.alloc (.cells #[.int .u8 k, .int .u8 a] 23))) := Lib.hid ((bl.trans (b1.mono (by simp))).trans (bl1.mono (by omega)))
  have HB2 := Lib.hid hb2
  have HC0 := Lib.hid hc0
  clear bl hb0 b1 bl1 hb1 hb2 hc0 HT1 hk
  go_wp2_with fail
  refine (HT2.out _).mono ?_
  rintro e w2 ⟨rfl, b2⟩
  have hb3 := HB2.out.below b2
  have hc3 := HC0.out.below b2
  have bl2 := below_lit w2 (.cells #[.int .u8 a, .int .u8 k] 23)
  have hb4 := hb3.below bl2
  have hc4 := hc3.below bl2
  have hd4 : Blk (w2.alloc (.cells #[.int .u8 a, .int .u8 k] 23)) w2.heap.size 23 [.int .u8 a, .int .u8 k] := heap_alloc_new w2 _
  have z2 := b2.size
  simp at z2
  obtain ⟨W3, hW3⟩ : ∃ W3, w2.alloc (.cells #[.int .u8 a, .int .u8 k] 23) = W3 := ⟨_, rfl⟩
  have B3 : Hid (Below w.heap.size w W3) := Lib.hid (hW3 ▸ ((B2.out.trans (b2.mono (by simp; omega))).trans (bl2.mono (by omega))))
  rw [hW3] at hb4 hc4 hd4
  have HC : Hid (∀ W, Below W3.heap.size W3 W → (W.cell? ⟨w.heap.size, 0, none⟩ = some (.int .u8 a) ∧ W.cell? ⟨w.heap.size, 1, none⟩ = some (.int .u8 b)) ∧ (W.cell? ⟨w1.heap.size, 0, none⟩ = some (.int .u8 k) ∧ W.cell? ⟨w1.heap.size, 1, none⟩ = some (.int .u8 a)) ∧ W.cell? ⟨w2.heap.size, 0, none⟩ = some (.int .u8 a) ∧ W.cell? ⟨w2.heap.size, 1, none⟩ = some (.int .u8 k)) := Lib.hid (fun W hb =>
    ⟨⟨(hb4.below hb).cell 0, (hb4.below hb).cell 1⟩, ⟨(hc4.below hb).cell 0, (hc4.below hb).cell 1⟩, (hd4.below hb).cell 0, (hd4.below hb).cell 1⟩)
  have HW3 := Lib.hid hW3
  obtain ⟨⟨y0, y1⟩, ⟨y2, y3⟩, y4, y5⟩ := HC.out W3 (Below.refl _ _)
  have HK := Lib.hid known_any
  have hwr : IntKind.u8.wrap k = k := IntWalk.u8_in k (by omega)
  clear hb3 hc3 bl2 hb4 hc4 hd4 b2 HT2 HB2 HC0 B2 hW3 hm z1 z2
  go_wp2_with fail
  rw [HW3.out]
  go_region_with ((first
    | (go_at_call 14; (with_reducible refine (HT3.out _).mono ?_); rintro e w6 ⟨rfl, b6⟩; have B6 : Hid (Below W3.heap.size W3 w6) := Lib.hid ((Below.refl _ W3).drew.trans b6); have C6 := HC.out w6 B6.out; obtain ⟨⟨x0, x1⟩, ⟨x2, x3⟩, x4, x5⟩ := C6; clear b6)
    | (go_at_call 14; (with_reducible refine (HT4.out _).mono ?_); rintro e w7 ⟨rfl, b7⟩; have B7 : Hid (Below W3.heap.size W3 w7) := Lib.hid (B6.out.trans (b7.mono B6.out.size)); have C7 := HC.out w7 B7.out; obtain ⟨⟨u0, u1⟩, ⟨u2, u3⟩, u4, u5⟩ := C7; clear b7)
    | (go_at_call 7; (with_reducible refine (HK.out _).mono ?_); rintro e w8 ⟨rfl, b8⟩; have B8 : Hid (Below w.heap.size w w8) := Lib.hid (B3.out.trans ((B7.out.trans (b8.mono B7.out.size)).mono B3.out.size)); clear b8)))
  all_goals
    go_simp
    go_wp2_with fail
    go_ret
    exact ⟨rfl, B8.out⟩
end Go.Proofs.Ytgfmpndojjopnaa
