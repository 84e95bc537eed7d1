/- styles.Set. -/
import Derived.Test.YtgfmpndojjopnaaS0
namespace Go.Proofs.Ytgfmpndojjopnaa
open Go.RowKit
attribute [local go_sem ↓ high] builtin_appG

/-- The world while tokens are set: the face in the first block of the call's own, the result's in the second, the row behind them. -/
structure SetR (w : World) (s : Value) (c : List Gly × Fce) (W : World) : Prop where
  b0 : Blk W w.heap.size 23 [.int .u8 c.2.1, .int .u8 c.2.2]
  b1 : Blk W (w.heap.size + 1) 23 [.int .u8 0, .int .u8 0]
  s : GOwn (w.heap.size + 2) W s c.1
  bel : Below w.heap.size w W
section
variable {w W : World} {s : Value} {c : List Gly × Fce}
theorem SetR.big (h : SetR w s c W) : w.heap.size + 1 < W.heap.size := (Array.getElem?_eq_some_iff.1 h.b1).1
theorem SetR.keep {W' : World} (h : SetR w s c W) (hb : Below W.heap.size W W') : SetR w s c W' :=
  ⟨h.b0.below hb, h.b1.below hb, h.s.keep hb, h.bel.trans (hb.mono h.bel.size)⟩
/-- A glyph more. -/
theorem SetR.app (h : SetR w s c W) (r n : Int) (hl : c.1.length ≤ 500000) :
    ∃ s' W', (appG #[s, .slice (some ⟨W.heap.size, 0, none⟩) 1 1]).run Try.prog (W.alloc (.cells #[.int .i32 r, .int .u8 n] 41)) = .ok (.value s') W' ∧ SetR w s' (c.1 ++ [(r, n)], c.2) W' := by
  have hl1 := below_lit W (.cells #[.int .i32 r, .int .u8 n] 41)
  have hbig := h.big
  have h1 := h.keep hl1
  obtain ⟨s', W', hrun, ho, hg, -⟩ := appG_own h1.s (fs_lit gcell_len W 41 [(r, n)]) (by simp; omega) (by simp; omega)
  have n0 : s.ownBlock ≠ some w.heap.size := fun e => by have := (h1.s.ty e).1; omega
  have n1 : s.ownBlock ≠ some (w.heap.size + 1) := fun e => by have := (h1.s.ty e).1; omega
  exact ⟨s', W', hrun, (hg.block _ (by simp; omega) (fun e => n0 e.symm)).trans h1.b0, (hg.block _ (by simp; omega) (fun e => n1 e.symm)).trans h1.b1, ho, h1.bel.grown hg (by simp; omega) (fun j e => by have := (h1.s.ty e).1; omega)⟩
/-- The face turns. -/
theorem SetR.turn (h : SetR w s c W) (a b : Int) : SetR w s (c.1, (a, b)) ((W.setCell ⟨w.heap.size, 0, none⟩ (.int .u8 a)).setCell ⟨w.heap.size, 1, none⟩ (.int .u8 b)) :=
  ⟨by have := (h.b0.set 0 (.int .u8 a)).set 1 (.int .u8 b); simpa using this,
   (Below.heap_setCell _ _ _ _ (by simp)).trans ((Below.heap_setCell _ _ _ _ (by simp)).trans h.b1), ownsRow_setCell_below (ownsRow_setCell_below h.s (by simp) _) (by simp) _, (h.bel.setCell (by simp) _).setCell (by simp) _⟩
theorem SetR.fin (h : SetR w s c W) (a b : Value) : GOwn w.heap.size ((W.setCell ⟨w.heap.size + 1, 0, none⟩ a).setCell ⟨w.heap.size + 1, 1, none⟩ b).drew s c.1 ∧ Below w.heap.size w ((W.setCell ⟨w.heap.size + 1, 0, none⟩ a).setCell ⟨w.heap.size + 1, 1, none⟩ b).drew ∧ Blk ((W.setCell ⟨w.heap.size + 1, 0, none⟩ a).setCell ⟨w.heap.size + 1, 1, none⟩ b).drew (w.heap.size + 1) 23 [a, b] := by
  have h2 : GOwn (w.heap.size + 2) ((W.setCell ⟨w.heap.size + 1, 0, none⟩ a).setCell ⟨w.heap.size + 1, 1, none⟩ b) s c.1 := ownsRow_setCell_below (ownsRow_setCell_below h.s (by simp) _) (by simp) _
  refine ⟨FOwn.mono (h2.keep (Below.refl _ _).drew) (by omega), ((h.bel.setCell (by simp) _).setCell (by simp) _).drew, ?_⟩
  have h3 : Blk ((W.setCell ⟨w.heap.size + 1, 0, none⟩ a).setCell ⟨w.heap.size + 1, 1, none⟩ b) (w.heap.size + 1) 23 [a, b] := by
    have := (h.b1.set 0 a).set 1 b
    simpa using this
  exact h3.below (Below.refl _ _).drew
theorem SetR.start (w : World) (a b : Int) : SetR w (.slice none 0 0) ([], (a, b)) ((w.alloc (.cells #[.int .u8 a, .int .u8 b] 23)).alloc (.cells #[.int .u8 0, .int .u8 0] 23)) :=
  ⟨blk_first w [.int .u8 a, .int .u8 b] _ _, blk_second w _ [.int .u8 0, .int .u8 0] _, FOwn.nil _ _, below_two w _ _⟩
end

def SEnd (w : World) (c : List Gly × Fce) (e : Ending) (w' : World) : Prop :=
  ∃ x, e = .returned (.tuple #[x, .agg #[.int .u8 c.2.1, .int .u8 c.2.2]]) ∧ GOwn w.heap.size w' x c.1 ∧ Below w.heap.size w w'

set_option maxRecDepth 100000 in
set_option maxHeartbeats 4000000 in
theorem set_any (p q : Int) (l : List Tok) (v : Value) (w : World) (hv : Ts w v l) (hl : l.length ≤ 100000) :
    Calls Try.prog 8 #[.agg #[.int .u8 p, .int .u8 q], v] w (SEnd w (gset (p, q) l)) := by
  have HV := Lib.hid hv
  obtain ⟨a, cap, rfl⟩ := hv.len
  clear hv
  go_enter Try.func8, Try.ntmps8
  go_wp2_with fail
  go_loopw [6, 11] (fun s i wr => ∃ j : Nat, j ≤ l.length ∧ i = .int .i64 j ∧ SetR w s (gset (p, q) (l.take j)) wr) (fun _ i _ => l.length - (intOf i).toNat)
  case atStart => exact ⟨0, by omega, rfl, SetR.start w p q⟩
  case round =>
    obtain ⟨j, hj, rfl, hR⟩ := hrel
    have HL : Hid ((gset (p, q) (l.take j)).1.length ≤ 100000) := Lib.hid (by have := gset_len (p, q) (l.take j); simp only [List.length_take] at this; omega)
    obtain ⟨⟨X, A, B⟩, hS⟩ : ∃ S, gset (p, q) (l.take j) = S := ⟨_, rfl⟩
    rw [hS] at hR HL
    have HR := Lib.hid hR
    by_cases hlt : j < l.length
    · obtain ⟨⟨k, r⟩, hz⟩ : ∃ z, l[j]? = some z := ⟨l[j], List.getElem?_eq_getElem hlt⟩
      obtain ⟨g, off, rfl, z0, z1⟩ := Fs.t (Fs.below HV.out hR.bel) hz
      have HN := Lib.hid (gset_take (f := (p, q)) hz)
      rw [hS] at HN
      have hi0 : (j : Int) < (l.length : Int) := by omega
      have hi1 : (0 : Int) ≤ (j : Int) := by omega
      have bl := below_lit wr (.cells #[.int .i64 k, .int .i32 r] 46)
      have hR1 := hR.keep bl
      have c0 : (wr.alloc (.cells #[.int .i64 k, .int .i32 r] 46)).cell? ⟨w.heap.size, 0, none⟩ = some (.int .u8 A) := hR1.b0.cell 0
      have c1 : (wr.alloc (.cells #[.int .i64 k, .int .i32 r] 46)).cell? ⟨w.heap.size, 1, none⟩ = some (.int .u8 B) := hR1.b0.cell 1
      have f0 : (wr.alloc (.cells #[.int .i64 k, .int .i32 r] 46)).frozen? ⟨w.heap.size, 0, none⟩ = false := hR1.b0.frozen (by simp)
      have f1 : (wr.alloc (.cells #[.int .i64 k, .int .i32 r] 46)).frozen? ⟨w.heap.size, 1, none⟩ = false := hR1.b0.frozen (by simp)
      obtain ⟨sa, sc, hs⟩ := (FOwn.sl gcell_len hR.s).len
      change _ = Value.slice sa X.length sc at hs
      obtain ⟨xl, hxl⟩ : ∃ xl, X.length = xl := ⟨_, rfl⟩
      rw [hxl] at hs
      subst hs
      have R1 := Lib.hid hR1
      clear HR hR hR1 hS bl hz
      by_cases k1 : k = 1
      · subst k1
        obtain ⟨s', W', hrun, hR2⟩ := R1.out.app r A (by have := HL.out; simp only at this ⊢; omega)
        have R2 : Hid (SetR w s' (gstep (X, A, B) (1, r)) W') := Lib.hid hR2
        rw [← HN.out] at R2
        have hrun' : (appG #[.slice sa xl sc, .slice (some ⟨wr.heap.size + 1, 0, none⟩) 1 1]).run Try.prog ((wr.alloc (.cells #[.int .i64 1, .int .i32 r] 46)).alloc (.cells #[.int .i32 r, .int .u8 A] 41)) = .ok (.value s') W' := by simpa using hrun
        obtain ⟨sa', sc', hs'⟩ := (FOwn.sl gcell_len hR2.s).len
        obtain ⟨xl', hxl'⟩ : ∃ xl', (X ++ [(r, A)]).length = xl' := ⟨_, rfl⟩
        simp only at hs'
        rw [hxl'] at hs'
        subst hs'
        clear hrun hR2 hxl' HN hxl
        go_wp2_with fail
        go_roundw
        case rel => exact ⟨j + 1, by omega, by go_num, R2.out⟩
        case measure => (simp [intOf]; try omega)
      · by_cases k2 : k = 2
        · subst k2
          obtain ⟨s', W', hrun, hR2⟩ := R1.out.app 32 0 (by have := HL.out; simp only at this ⊢; omega)
          have R2 : Hid (SetR w s' (gstep (X, A, B) (2, r)) W') := Lib.hid hR2
          rw [← HN.out] at R2
          have hrun' : (appG #[.slice sa xl sc, .slice (some ⟨wr.heap.size + 1, 0, none⟩) 1 1]).run Try.prog ((wr.alloc (.cells #[.int .i64 2, .int .i32 r] 46)).alloc (.cells #[.int .i32 32, .int .u8 0] 41)) = .ok (.value s') W' := by simpa using hrun
          obtain ⟨sa', sc', hs'⟩ := (FOwn.sl gcell_len hR2.s).len
          obtain ⟨xl', hxl'⟩ : ∃ xl', (X ++ [((32 : Int), (0 : Int))]).length = xl' := ⟨_, rfl⟩
          simp only at hs'
          rw [hxl'] at hs'
          subst hs'
          clear hrun hR2 hxl' HN hxl
          go_wp2_with fail
          go_roundw
          case rel => exact ⟨j + 1, by omega, by go_num, R2.out⟩
          case measure => (simp [intOf]; try omega)
        · by_cases k3 : k = 3
          · subst k3
            have HT := Lib.hid (turn_any A B r (wr.alloc (.cells #[.int .i64 3, .int .i32 r] 46)))
            obtain ⟨⟨A', B'⟩, hF⟩ : ∃ F, fturn (A, B) r = F := ⟨_, rfl⟩
            have HG : Hid (gset (p, q) (l.take (j + 1)) = (X, (A', B'))) := Lib.hid (by rw [HN.out]; simp [gstep, hF])
            rw [hF] at HT
            clear hF HN hxl k1 k2
            go_wp2_with fail
            refine HT.out.mono ?_
            rintro e w2 ⟨rfl, b2⟩
            have hR2 := R1.out.keep b2
            have R3 := Lib.hid (hR2.turn A' B')
            have g0 : w2.cell? ⟨w.heap.size, 0, none⟩ = some (.int .u8 A) := hR2.b0.cell 0
            have g1 : w2.cell? ⟨w.heap.size, 1, none⟩ = some (.int .u8 B) := hR2.b0.cell 1
            have e0 : w2.frozen? ⟨w.heap.size, 0, none⟩ = false := hR2.b0.frozen (by simp)
            have e1 : w2.frozen? ⟨w.heap.size, 1, none⟩ = false := hR2.b0.frozen (by simp)
            clear hR2 b2 HT c0 c1 f0 f1
            go_wp2_with fail
            go_roundw
            case rel => exact ⟨j + 1, by omega, by go_num, by rw [HG.out]; exact R3.out⟩
            case measure => (simp [intOf]; try omega)
          · have R2 : Hid (SetR w (.slice sa xl sc) (gstep (X, A, B) (k, r)) (wr.alloc (.cells #[.int .i64 k, .int .i32 r] 46))) := Lib.hid (by simp only [gstep, if_neg k1, if_neg k2, if_neg k3]; exact R1.out)
            rw [← HN.out] at R2
            clear HN hxl
            go_wp2_with fail
            go_roundw
            case rel => exact ⟨j + 1, by omega, by go_num, R2.out⟩
            case measure => (simp [intOf]; try omega)
    · obtain rfl : j = l.length := by omega
      have c0 : wr.cell? ⟨w.heap.size, 0, none⟩ = some (.int .u8 A) := hR.b0.cell 0
      have c1 : wr.cell? ⟨w.heap.size, 1, none⟩ = some (.int .u8 B) := hR.b0.cell 1
      have d0 : wr.cell? ⟨w.heap.size + 1, 0, none⟩ = some (.int .u8 0) := hR.b1.cell 0
      have d1 : wr.cell? ⟨w.heap.size + 1, 1, none⟩ = some (.int .u8 0) := hR.b1.cell 1
      have f0 : wr.frozen? ⟨w.heap.size + 1, 0, none⟩ = false := hR.b1.frozen (by simp)
      have f1 : wr.frozen? ⟨w.heap.size + 1, 1, none⟩ = false := hR.b1.frozen (by simp)
      obtain ⟨sa, sc, hs⟩ := (FOwn.sl gcell_len hR.s).len
      change _ = Value.slice sa X.length sc at hs
      obtain ⟨xl, hxl⟩ : ∃ xl, X.length = xl := ⟨_, rfl⟩
      rw [hxl] at hs
      subst hs
      rw [List.take_length] at hS
      have HS := Lib.hid hS
      obtain ⟨o1, o2, o3⟩ := hR.fin (.int .u8 A) (.int .u8 B)
      have HO := Lib.hid o1
      have HBl := Lib.hid o2
      have HBK := Lib.hid o3
      clear o1 o2 o3
      clear hR hS hxl
      go_wp2_with fail
      go_region
      go_wp2_with fail
      have k0 := HBK.out.cell 0
      have k1 := HBK.out.cell 1
      simp at k0 k1
      exact bodyPost_ret (v := .tuple #[.slice sa xl sc, .agg #[.int .u8 A, .int .u8 B]]) (by simp [results, Try.results8, go_sem, k0, k1]) rfl (by rw [HS.out]; exact ⟨_, rfl, HO.out, HBl.out⟩)
end Go.Proofs.Ytgfmpndojjopnaa
