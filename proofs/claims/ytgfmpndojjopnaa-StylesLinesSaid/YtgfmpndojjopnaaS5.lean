/- styles.Turns of two texts, as the chapter's example has it. -/
import Derived.Test.YtgfmpndojjopnaaS4
namespace Go.Proofs.Ytgfmpndojjopnaa
open Go.RowKit
attribute [local go_sem ↓ high] builtin_appG builtin_appDg

/-- What an argument more leaves: what is wrong first, then its glyphs. -/
theorem arg_more {base : Nat} {W wr w1 : World} {s d x vd : Value} {X L : List Gly} {D E : List Dg} (hs : GOwn base wr s X) (hd : DOwn base wr d D) (hx : GOwn wr.heap.size w1 x L) (hv : DOwn wr.heap.size w1 vd E) (h1 : Below wr.heap.size wr w1) (hW : Below base W wr) (hb : base ≤ wr.heap.size) (C : Obj)
    (hl : X.length + L.length ≤ 1000000) (hm : D.length + E.length ≤ 1000000) :
    ∃ d' w3 s' w4, (appDg #[d, vd]).run Try.prog (w1.alloc C) = .ok (.value d') w3 ∧ (appG #[s, x]).run Try.prog w3 = .ok (.value s') w4 ∧ GOwn base w4 s' (X ++ L) ∧ DOwn base w4 d' (D ++ E) ∧ Below base W w4 := by
  have hz := h1.size
  have bl := below_lit w1 C
  have s2 : GOwn base (w1.alloc C) s X := (hs.keep h1).keep bl
  have d2 : DOwn base (w1.alloc C) d D := (hd.keep h1).keep bl
  have x2 : GOwn wr.heap.size (w1.alloc C) x L := hx.keep bl
  have v2 : DOwn wr.heap.size (w1.alloc C) vd E := hv.keep bl
  have B2 : Below base W (w1.alloc C) := (hW.trans (h1.mono hb)).trans (bl.mono (by omega))
  obtain ⟨d', w3, k1, o1, g1, q1⟩ := appDg_own d2 (FOwn.sl dcell_len v2) (by simp; omega) hm
  have s3 : GOwn base w3 s X := FOwn.apart s2 g1 (ty_apart s2 d2 (by decide))
  have x3 : GOwn wr.heap.size w3 x L := FOwn.apart x2 g1 (ty_apart x2 d2 (by decide))
  have B3 : Below base W w3 := d2.below B2 (by simp; omega) g1
  have z3 := g1.size
  simp at z3
  obtain ⟨s', w4, k2, o2, g2, q2⟩ := appG_own s3 (FOwn.sl gcell_len x3) (by omega) hl
  exact ⟨d', w3, s', w4, k1, k2, o2, FOwn.apart o1 g2 (ty_apart o1 s3 (by decide)), s3.below B3 (by omega) g2⟩

theorem turn1_any (i a b : Int) (F G : Nat) (w : World) (hi : i = 0 ∨ i = 1) (c0 : w.cell? ⟨F, 0, none⟩ = some (.int .u8 a)) (c1 : w.cell? ⟨G, 0, none⟩ = some (.int .u8 b)) :
    Calls Try.prog 23 #[.int .i64 i, .pointer (some ⟨F, 0, none⟩), .pointer (some ⟨G, 0, none⟩)] w fun e w' => e = .returned (.int .u8 (if i = 0 then a else b)) ∧ w = w' := by
  rcases hi with rfl | rfl
  · go_enter Try.func23, Try.ntmps23
    go_wp2_with fail
    go_ret
    exact ⟨rfl, rfl⟩
  · go_enter Try.func23, Try.ntmps23
    go_wp2_with fail
    go_ret
    exact ⟨rfl, rfl⟩
theorem tight_any (v : Value) (w : World) :
    Calls Try.prog 24 #[v] w fun e w' => e = .returned v ∧ w = w' := by
  go_enter Try.func24, Try.ntmps24
  go_wp2_with fail
  go_ret
  exact ⟨rfl, rfl⟩

theorem kn_a (n : Int) : gset (n, n) (scanL 0 (dec [97])).1 = ([(97, n)], (n, n)) := by
  have : (scanL 0 (dec [97])).1 = [(1, 97)] := by decide +kernel
  rw [this]; rfl
theorem kn_b (n : Int) : gset (n, n) (scanL 0 (dec [98])).1 = ([(98, n)], (n, n)) := by
  have : (scanL 0 (dec [98])).1 = [(1, 98)] := by decide +kernel
  rw [this]; rfl

set_option maxRecDepth 100000 in
set_option maxHeartbeats 2000000 in
theorem each_ab (g F G : Nat) (w : World) (c0 : w.cell? ⟨g, 0, none⟩ = some (.string ⟨#[97]⟩)) (c1 : w.cell? ⟨g, 1, none⟩ = some (.string ⟨#[98]⟩)) (c2 : w.cell? ⟨F, 0, none⟩ = some (.int .u8 1)) (c3 : w.cell? ⟨G, 0, none⟩ = some (.int .u8 0)) :
    Calls Try.prog 25 #[.slice (some ⟨g, 0, none⟩) 2 2, .func (.func 23) #[] #[.pointer (some ⟨F, 0, none⟩), .pointer (some ⟨G, 0, none⟩)], .func (.func 24) #[] #[]] w
      fun e w' => ∃ u v, e = .returned (.tuple #[u, v]) ∧ GOwn w.heap.size w' u [(97, 1), (98, 0)] ∧ DOwn w.heap.size w' v [] ∧ Below w.heap.size w w' := by
  have hg := World.block_lt_of_cell? w _ c0
  have hF := World.block_lt_of_cell? w _ c2
  have hG := World.block_lt_of_cell? w _ c3
  simp only at hg hF hG
  have HC : Hid (∀ W, Below w.heap.size w W → (W.cell? ⟨g, 0, none⟩ = some (.string ⟨#[97]⟩) ∧ W.cell? ⟨g, 1, none⟩ = some (.string ⟨#[98]⟩)) ∧ W.cell? ⟨F, 0, none⟩ = some (.int .u8 1) ∧ W.cell? ⟨G, 0, none⟩ = some (.int .u8 0)) := Lib.hid (fun W hb => ⟨⟨(hb.cell (p := ⟨g, 0, none⟩) hg).trans c0, (hb.cell (p := ⟨g, 1, none⟩) hg).trans c1⟩, (hb.cell (p := ⟨F, 0, none⟩) hF).trans c2, (hb.cell (p := ⟨G, 0, none⟩) hG).trans c3⟩)
  have HLa := Lib.hid (fun n W => line_any n n [97] W (by decide))
  have HLb := Lib.hid (fun n W => line_any n n [98] W (by decide))
  have e1 : (scanL 0 (dec [97])).2 = [] := by decide +kernel
  have e2 : (scanL 0 (dec [98])).2 = [] := by decide +kernel
  unfold LEnd at HLa HLb
  simp only [kn_a, kn_b, e1, e2] at HLa HLb
  clear c0 c1 c2 c3 e1 e2 hg hF hG
  go_enter Try.func25, Try.ntmps25
  go_wp2_with fail
  go_step3
  go_wp2_with fail
  go_step3
  go_wp2_with fail
  go_loopw [8, 9, 18] (fun s d i wr => ∃ X, GOwn w.heap.size wr s X ∧ DOwn w.heap.size wr d [] ∧ Below w.heap.size w wr ∧ ((i = .int .i64 0 ∧ X = []) ∨ (i = .int .i64 1 ∧ X = [(97, 1)]) ∨ (i = .int .i64 2 ∧ X = [(97, 1), (98, 0)]))) (fun _ _ i _ => 3 - (intOf i).toNat)
  case atStart => exact ⟨[], FOwn.nil _ _, FOwn.nil _ _, Below.refl _ _, .inl ⟨rfl, rfl⟩⟩
  case round =>
    obtain ⟨X, hs, hd, hB, hcase⟩ := hrel
    obtain ⟨⟨y0, y1⟩, y2, y3⟩ := HC.out wr hB
    rcases hcase with ⟨rfl, rfl⟩ | ⟨rfl, rfl⟩ | ⟨rfl, rfl⟩
    · have HT := Lib.hid (turn1_any 0 1 0 F G wr (.inl rfl) y2 y3)
      have HL1 := Lib.hid (HLa.out 1 wr)
      have HP := Lib.hid (tight_any)
      have HS := Lib.hid hs
      have HD := Lib.hid hd
      have HB := Lib.hid hB
      obtain ⟨sa, sc, rfl⟩ := (FOwn.sl gcell_len hs).len
      obtain ⟨da, dc, rfl⟩ := (FOwn.sl dcell_len hd).len
      clear hs hd hB HLa HLb
      go_wp2_with fail
      refine HT.out.mono ?_
      rintro e w0 ⟨rfl, rfl⟩
      go_wp2_with fail
      refine HL1.out.mono ?_
      rintro e w1 ⟨x, vd, rfl, o1, o2, b1⟩
      obtain ⟨d', w3, s', w4, k1, k2, o3, o4, b4⟩ := arg_more HS.out HD.out o1 o2 b1 HB.out HB.out.size (.cells #[.int .u8 1, .int .u8 1] 23) (by decide) (by decide)
      obtain ⟨xa, xc, rfl⟩ := (FOwn.sl gcell_len o1).len
      obtain ⟨va, vc, rfl⟩ := (FOwn.sl dcell_len o2).len
      obtain ⟨sa', sc', rfl⟩ := (FOwn.sl gcell_len o3).len
      obtain ⟨da', dc', rfl⟩ := (FOwn.sl dcell_len o4).len
      have O3 := Lib.hid o3
      have O4 := Lib.hid o4
      have B4 := Lib.hid b4
      have k1' : (appDg #[.slice da 0 dc, .slice va 0 vc]).run Try.prog (w1.alloc (.cells #[.int .u8 1, .int .u8 1] 23)) = .ok (.value (.slice da' 0 dc')) w3 := k1
      have k2' : (appG #[.slice sa 0 sc, .slice xa 1 xc]).run Try.prog w3 = .ok (.value (.slice sa' 1 sc')) w4 := k2
      clear k1 k2 o1 o2 o3 o4 b1 b4 HS HD HB HT HL1
      go_wp2_with fail
      go_roundw
      case rel => exact ⟨_, O3.out, O4.out, B4.out, .inr (.inl ⟨by first | trivial | rfl, rfl⟩)⟩
      case measure => (simp [intOf]; try omega)
    · have HT := Lib.hid (turn1_any 1 1 0 F G wr (.inr rfl) y2 y3)
      have HL1 := Lib.hid (HLb.out 0 wr)
      have HP := Lib.hid (tight_any)
      have HS := Lib.hid hs
      have HD := Lib.hid hd
      have HB := Lib.hid hB
      obtain ⟨sa, sc, rfl⟩ := (FOwn.sl gcell_len hs).len
      obtain ⟨da, dc, rfl⟩ := (FOwn.sl dcell_len hd).len
      clear hs hd hB HLa HLb
      go_wp2_with fail
      refine HT.out.mono ?_
      rintro e w0 ⟨rfl, rfl⟩
      go_wp2_with fail
      refine HL1.out.mono ?_
      rintro e w1 ⟨x, vd, rfl, o1, o2, b1⟩
      obtain ⟨d', w3, s', w4, k1, k2, o3, o4, b4⟩ := arg_more HS.out HD.out o1 o2 b1 HB.out HB.out.size (.cells #[.int .u8 0, .int .u8 0] 23) (by decide) (by decide)
      obtain ⟨xa, xc, rfl⟩ := (FOwn.sl gcell_len o1).len
      obtain ⟨va, vc, rfl⟩ := (FOwn.sl dcell_len o2).len
      obtain ⟨sa', sc', rfl⟩ := (FOwn.sl gcell_len o3).len
      obtain ⟨da', dc', rfl⟩ := (FOwn.sl dcell_len o4).len
      have O3 := Lib.hid o3
      have O4 := Lib.hid o4
      have B4 := Lib.hid b4
      have k1' : (appDg #[.slice da 0 dc, .slice va 0 vc]).run Try.prog (w1.alloc (.cells #[.int .u8 0, .int .u8 0] 23)) = .ok (.value (.slice da' 0 dc')) w3 := k1
      have k2' : (appG #[.slice sa 1 sc, .slice xa 1 xc]).run Try.prog w3 = .ok (.value (.slice sa' 2 sc')) w4 := k2
      clear k1 k2 o1 o2 o3 o4 b1 b4 HS HD HB HT HL1
      go_wp2_with fail
      refine (HP.out _ _).mono ?_
      rintro e w5 ⟨rfl, rfl⟩
      go_wp2_with fail
      go_roundw
      case rel => exact ⟨_, O3.out, O4.out, B4.out, .inr (.inr ⟨by first | trivial | rfl, rfl⟩)⟩
      case measure => (simp [intOf]; try omega)
    · have HS := Lib.hid hs
      have HD := Lib.hid hd
      have HB := Lib.hid hB
      clear hs hd hB HLa HLb
      go_wp2_with fail
      repeat (change Exit.noGoto _ Exit.ret _ _; rw [Exit.noGoto_ret])
      go_ret2
      exact ⟨_, _, rfl, HS.out, HD.out, HB.out⟩

set_option maxRecDepth 100000 in
set_option maxHeartbeats 1000000 in
theorem turns_ab (g : Nat) (w : World) (c0 : w.cell? ⟨g, 0, none⟩ = some (.string ⟨#[97]⟩)) (c1 : w.cell? ⟨g, 1, none⟩ = some (.string ⟨#[98]⟩)) :
    Calls Try.prog 18 #[.int .u8 1, .int .u8 0, .slice (some ⟨g, 0, none⟩) 2 2] w fun e w' => ∃ u v, e = .returned (.tuple #[u, v]) ∧ GOwn w.heap.size w' u [(97, 1), (98, 0)] ∧ DOwn w.heap.size w' v [] ∧ Below w.heap.size w w' := by
  have hg := World.block_lt_of_cell? w _ c0
  simp only at hg
  have hb := below_two w (.cells #[.int .u8 1] 5) (.cells #[.int .u8 0] 5)
  have HE := Lib.hid (each_ab g w.heap.size (w.heap.size + 1) _ ((hb.cell (p := ⟨g, 0, none⟩) hg).trans c0) ((hb.cell (p := ⟨g, 1, none⟩) hg).trans c1) ((blk_first w [.int .u8 1] 5 (.cells #[.int .u8 0] 5)).cell 0) ((blk_second w (.cells #[.int .u8 1] 5) [.int .u8 0] 5).cell 0))
  have HB := Lib.hid hb
  have hsz : ((w.alloc (.cells #[.int .u8 1] 5)).alloc (.cells #[.int .u8 0] 5)).heap.size = w.heap.size + 1 + 1 := by simp
  have HZ := Lib.hid hsz
  clear c0 c1 hg hb hsz
  go_enter Try.func18, Try.ntmps18
  go_wp2_with fail
  refine HE.out.mono ?_
  rintro e w1 ⟨u, v, rfl, o1, o2, b1⟩
  have O1 := Lib.hid (FOwn.mono (base' := w.heap.size) o1 (by rw [HZ.out]; omega))
  have O2 := Lib.hid (FOwn.mono (base' := w.heap.size) o2 (by rw [HZ.out]; omega))
  have B1 := Lib.hid (HB.out.trans (b1.mono (by rw [HZ.out]; omega)))
  clear o1 o2 b1 HE HB HZ
  go_wp2_with fail
  go_ret2
  exact ⟨_, _, rfl, O1.out, O2.out, B1.out⟩
theorem glit_ab (w : World) : Gs (w.alloc (.cells #[.int .i32 97, .int .u8 1, .int .i32 98, .int .u8 0] 41)) (.slice (some ⟨w.heap.size, 0, none⟩) 2 2) [(97, 1), (98, 0)] := fs_lit gcell_len w 41 [(97, 1), (98, 0)]
set_option maxRecDepth 100000 in
set_option maxHeartbeats 1000000 in
theorem known_any (w : World) : Calls Try.prog 7 #[] w fun e w' => e = .returned (.bool true) ∧ Below w.heap.size w w' := by
  have bl := below_lit w (.cells #[.string ⟨#[97]⟩, .string ⟨#[98]⟩] 9)
  have hbk : Blk (w.alloc (.cells #[.string ⟨#[97]⟩, .string ⟨#[98]⟩] 9)) w.heap.size 9 [.string ⟨#[97]⟩, .string ⟨#[98]⟩] := heap_alloc_new w _
  have HT := Lib.hid (turns_ab w.heap.size _ (hbk.cell 0) (hbk.cell 1))
  have HB := Lib.hid bl
  clear bl hbk
  go_enter Try.func7, Try.ntmps7
  go_wp2_with fail
  refine HT.out.mono ?_
  rintro e w1 ⟨u, v, rfl, o1, o2, b1⟩
  have B1 := Lib.hid (HB.out.trans (b1.mono (by simp)))
  have bl := below_lit w1 (.cells #[.int .i32 97, .int .u8 1, .int .i32 98, .int .u8 0] 41)
  obtain ⟨ua, uc, rfl⟩ := (FOwn.sl gcell_len o1).len
  obtain ⟨va, vc, rfl⟩ := (FOwn.sl dcell_len o2).len
  have HS := Lib.hid (rsameg_any _ _ _ _ _ (Fs.below (FOwn.sl gcell_len o1) bl) (glit_ab w1) (by decide) (by decide))
  rw [decide_eq_true (rfl : ([(97, 1), (98, 0)] : List Gly) = [(97, 1), (98, 0)])] at HS
  have B2 := Lib.hid (B1.out.trans (bl.mono B1.out.size))
  clear o1 o2 b1 bl HT HB
  go_wp2_with fail
  refine HS.out.mono ?_
  rintro e w2 ⟨rfl, b2⟩
  have B3 := Lib.hid (B2.out.trans (b2.mono B2.out.size))
  clear b2 HS
  go_wp2_with fail
  go_ret
  exact ⟨rfl, B3.out⟩
end Go.Proofs.Ytgfmpndojjopnaa
