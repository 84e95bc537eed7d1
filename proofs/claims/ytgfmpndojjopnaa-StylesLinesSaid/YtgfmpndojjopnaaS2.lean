/- The document's Set. -/
import Derived.Test.YtgfmpndojjopnaaS1
import Derived.Deep.RegionWith
import Derived.Deep.RegionLaw
namespace Go.Proofs.Ytgfmpndojjopnaa
open Go.RowKit
attribute [local go_sem ↓ high] builtin_appG

theorem Fs.t_at {w : World} {g off k cap : Nat} {l : List Tok} (h : Ts w (.slice (some ⟨g, off, none⟩) k cap) l) {j : Nat} {x y : Int} (hj : l[j]? = some (x, y)) :
    w.cell? ⟨g, off + j * 2, none⟩ = some (.int .i64 x) ∧ w.cell? ⟨g, off + j * 2 + 1, none⟩ = some (.int .i32 y) := by
  obtain ⟨g', off', he, z0, z1⟩ := Fs.t h hj
  injection he with he
  injection he with e1 e2
  subst e1 e2
  exact ⟨z0, z1⟩

/-- A glyph more, as one step of a region that draws. -/
theorem SetR.app0 {w W : World} {s : Value} {c : List Gly × Fce} (h : SetR w s c W) (r n : Int) (hl : c.1.length ≤ 500000) :
    ∃ sa sc W', (Builtin.append_ #[26, 26] 26 #[s, .slice (some ⟨W.heap.size, 0, none⟩) 1 1]).run Try.prog (W.alloc (.cells #[.int .i32 r, .int .u8 n] 41)) = .ok (.slice sa (c.1.length + 1) sc) W' ∧ SetR w (.slice sa (c.1.length + 1) sc) (c.1 ++ [(r, n)], c.2) W' := by
  have hl1 := below_lit W (.cells #[.int .i32 r, .int .u8 n] 41)
  have hbig := h.big
  have h1 := h.keep hl1
  obtain ⟨i0, hi, hz0, hz1, hz2⟩ := info_parts infoG
  obtain ⟨s', W', hrun, ho, hg, -⟩ := fapp gcell_len gcell_one (by decide) Try.underlying26 hi hz0 hz1 hz2 rfl (by decide) h1.s (fs_lit gcell_len W 41 [(r, n)]) (by simp; omega) (by simp; omega)
  obtain ⟨sa, sc, hs⟩ := (FOwn.sl gcell_len ho).len
  rw [List.length_append, List.length_singleton] at hs
  subst hs
  have n0 : s.ownBlock ≠ some w.heap.size := fun e => by have := (h1.s.ty e).1; omega
  have n1 : s.ownBlock ≠ some (w.heap.size + 1) := fun e => by have := (h1.s.ty e).1; omega
  exact ⟨sa, sc, W', hrun, (hg.block _ (by simp; omega) (fun e => n0 e.symm)).trans h1.b0, (hg.block _ (by simp; omega) (fun e => n1 e.symm)).trans h1.b1, ho, h1.bel.grown hg (by simp; omega) (fun j e => by have := (h1.s.ty e).1; omega)⟩

set_option maxRecDepth 100000 in
set_option maxHeartbeats 4000000 in
theorem rset_any (p q : Int) (l : List Tok) (v : Value) (w : World) (hv : Ts w v l) (hl : l.length ≤ 100000) :
    Calls Try.prog 9 #[.agg #[.int .u8 p, .int .u8 q], v] w (SEnd w (gset (p, q) l)) := by
  have HV := Lib.hid hv
  obtain ⟨a, cap, rfl⟩ := hv.len
  clear hv
  go_enter Try.func9, Try.ntmps9
  go_wp2_with fail
  go_loopw [6, 7] (fun s i wr => ∃ j : Nat, j ≤ l.length ∧ i = .int .i64 j ∧ SetR w s (gset (p, q) (l.take j)) wr) (fun _ i _ => l.length - (intOf i).toNat)
  case atStart => exact ⟨0, by omega, rfl, SetR.start w p q⟩
  case round =>
    obtain ⟨j, hj, rfl, hR⟩ := hrel
    have HL : Hid ((gset (p, q) (l.take j)).1.length ≤ 100000) := Lib.hid (by have := gset_len (p, q) (l.take j); simp only [List.length_take] at this; omega)
    obtain ⟨⟨X, A, B⟩, hS⟩ : ∃ S, gset (p, q) (l.take j) = S := ⟨_, rfl⟩
    rw [hS] at hR HL
    by_cases hlt : j < l.length
    · obtain ⟨⟨k, r⟩, hz⟩ : ∃ z, l[j]? = some z := ⟨l[j], List.getElem?_eq_getElem hlt⟩
      obtain ⟨g, off, rfl, z0, z1⟩ := Fs.t (Fs.below HV.out hR.bel) hz
      have HN := Lib.hid (gset_take (f := (p, q)) hz)
      rw [hS] at HN
      have hi0 : (j : Int) < (l.length : Int) := by omega
      have hi1 : (0 : Int) ≤ (j : Int) := by omega
      have c0 : wr.cell? ⟨w.heap.size, 0, none⟩ = some (.int .u8 A) := hR.b0.cell 0
      have c1 : wr.cell? ⟨w.heap.size, 1, none⟩ = some (.int .u8 B) := hR.b0.cell 1
      obtain ⟨sa, sc, hs⟩ := (FOwn.sl gcell_len hR.s).len
      change _ = Value.slice sa X.length sc at hs
      obtain ⟨xl, hxl⟩ : ∃ xl, X.length = xl := ⟨_, rfl⟩
      rw [hxl] at hs
      subst hs
      have R1 := Lib.hid hR
      have HZ : Hid (∀ W, Below w.heap.size w W → W.cell? ⟨g, off + j * 2, none⟩ = some (.int .i64 k) ∧ W.cell? ⟨g, off + j * 2 + 1, none⟩ = some (.int .i32 r)) := Lib.hid (fun W hb => Fs.t_at (Fs.below HV.out hb) hz)
      by_cases k1 : k = 1
      · subst k1
        obtain ⟨sa', sc', W', hrun, hR2⟩ := (hR.keep (Below.refl _ wr).drew).app0 r A (by have := HL.out; simp only at this ⊢; omega)
        simp only at hrun hR2
        rw [hxl] at hrun hR2
        obtain ⟨y0, y1⟩ := HZ.out W' hR2.bel
        have R2 : Hid (SetR w (.slice sa' (xl + 1) sc') (gstep (X, A, B) (1, r)) W') := Lib.hid hR2
        rw [← HN.out] at R2
        clear hR2 HN hxl hR hS hz
        go_wp2_with fail
        go_region_law ((refine step_append_run rfl (.tmp 20) (.tmp 29) 26 26 rfl _ _ rfl rfl hrun ?_))
        all_goals
          go_simp
          go_wp2_with fail
          go_roundw
          case rel => exact ⟨j + 1, by omega, by go_num, R2.out⟩
          case measure => (simp [intOf]; try omega)
      · by_cases k2 : k = 2
        · subst k2
          obtain ⟨s', W', hrun, hR2⟩ := R1.out.app 32 0 (by have := HL.out; simp only at this ⊢; omega)
          obtain ⟨y0, y1⟩ := HZ.out W' hR2.bel
          have R2 : Hid (SetR w s' (gstep (X, A, B) (2, r)) W') := Lib.hid hR2
          rw [← HN.out] at R2
          obtain ⟨sa', sc', hs'⟩ := (FOwn.sl gcell_len hR2.s).len
          obtain ⟨xl', hxl'⟩ : ∃ xl', (X ++ [((32 : Int), (0 : Int))]).length = xl' := ⟨_, rfl⟩
          simp only at hs'
          rw [hxl'] at hs'
          subst hs'
          clear hR2 hxl' HN hxl hR hS hz
          go_wp2_with fail
          go_roundw
          case rel => exact ⟨j + 1, by omega, by go_num, R2.out⟩
          case measure => (simp [intOf]; try omega)
        · by_cases k3 : k = 3
          · subst k3
            have HT := Lib.hid (fun W => rturn_any A B r W)
            obtain ⟨⟨A', B'⟩, hF⟩ : ∃ F, fturn (A, B) r = F := ⟨_, rfl⟩
            have HG : Hid (gset (p, q) (l.take (j + 1)) = (X, (A', B'))) := Lib.hid (by rw [HN.out]; simp [gstep, hF])
            rw [hF] at HT
            have HC : Hid (∀ w2, Below wr.heap.size wr.drew w2 → (w2.cell? ⟨w.heap.size, 0, none⟩ = some (.int .u8 A) ∧ w2.cell? ⟨w.heap.size, 1, none⟩ = some (.int .u8 B) ∧ w2.frozen? ⟨w.heap.size, 0, none⟩ = false ∧ w2.frozen? ⟨w.heap.size, 1, none⟩ = false) ∧ Hid (SetR w (.slice sa xl sc) (X, (A', B')) ((w2.setCell ⟨w.heap.size, 0, none⟩ (.int .u8 A')).setCell ⟨w.heap.size, 1, none⟩ (.int .u8 B')))) := Lib.hid (fun w2 b2 => by
              have h2 := R1.out.keep ((Below.refl _ wr).drew.trans b2)
              exact ⟨⟨h2.b0.cell 0, h2.b0.cell 1, h2.b0.frozen (by simp), h2.b0.frozen (by simp)⟩, Lib.hid (h2.turn A' B')⟩)
            clear hF HN hxl k1 k2 hR hS hz
            go_wp2_with fail
            go_region_with ((go_at_call 17; (with_reducible refine (HT.out _).mono ?_); rintro e w2 ⟨rfl, b2⟩; obtain ⟨⟨g0, g1, e0, e1⟩, R3⟩ := HC.out w2 b2))
            all_goals
              go_simp
              go_wp2_with fail
              go_roundw
              case rel => exact ⟨j + 1, by omega, by go_num, by rw [HG.out]; exact R3.out⟩
              case measure => (simp [intOf]; try omega)
          · have R2 : Hid (SetR w (.slice sa xl sc) (gstep (X, A, B) (k, r)) wr) := Lib.hid (by simp only [gstep, if_neg k1, if_neg k2, if_neg k3]; exact R1.out)
            rw [← HN.out] at R2
            clear HN hxl hR hS hz
            go_wp2_with fail
            go_roundw
            case rel => exact ⟨j + 1, by omega, by go_num, R2.out⟩
            case measure => (simp [intOf]; try omega)
    · obtain rfl : j = l.length := by omega
      have c0 : wr.cell? ⟨w.heap.size, 0, none⟩ = some (.int .u8 A) := hR.b0.cell 0
      have c1 : wr.cell? ⟨w.heap.size, 1, none⟩ = some (.int .u8 B) := hR.b0.cell 1
      have d0 : wr.cell? ⟨w.heap.size + 1, 0, none⟩ = some (.int .u8 0) := hR.b1.cell 0
      have d1 : wr.cell? ⟨w.heap.size + 1, 1, none⟩ = some (.int .u8 0) := hR.b1.cell 1
      have f0 : wr.frozen? ⟨w.heap.size + 1, 0, none⟩ = false := hR.b1.frozen (by simp)
      have f1 : wr.frozen? ⟨w.heap.size + 1, 1, none⟩ = false := hR.b1.frozen (by simp)
      obtain ⟨sa, sc, hs⟩ := (FOwn.sl gcell_len hR.s).len
      change _ = Value.slice sa X.length sc at hs
      obtain ⟨xl, hxl⟩ : ∃ xl, X.length = xl := ⟨_, rfl⟩
      rw [hxl] at hs
      subst hs
      rw [List.take_length] at hS
      have HS := Lib.hid hS
      obtain ⟨o1, o2, o3⟩ := hR.fin (.int .u8 A) (.int .u8 B)
      have HO := Lib.hid o1
      have HBl := Lib.hid o2
      have HBK := Lib.hid o3
      clear o1 o2 o3
      clear hR hS hxl
      go_wp2_with fail
      go_region
      go_wp2_with fail
      have k0 := HBK.out.cell 0
      have k1 := HBK.out.cell 1
      simp at k0 k1
      exact bodyPost_ret (v := .tuple #[.slice sa xl sc, .agg #[.int .u8 A, .int .u8 B]]) (by simp [results, Try.results9, go_sem, k0, k1]) rfl (by rw [HS.out]; exact ⟨_, rfl, HO.out, HBl.out⟩)
end Go.Proofs.Ytgfmpndojjopnaa
