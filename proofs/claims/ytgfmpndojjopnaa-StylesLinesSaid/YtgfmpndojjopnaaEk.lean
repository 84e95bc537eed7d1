/- The document's own escape: where a rune stands for another one. -/
import Derived.Test.YtgfmpndojjopnaaEj
import Derived.IntWalk
namespace Go.Proofs.Ytgfmpndojjopnaa
open Go.RowKit
attribute [local go_sem ↓ high] builtin_appT builtin_appDg

def smL : List Int := smTab.map (·.1)
def smR : List Int := smTab.map (·.2)
/-- What lies when the loop over short escapes begins. -/
structure Lp (base : Nat) (w : World) (lv : Value) (L : List Int) (tv dv : Value) (T : List Tok) (D : List Dg) (W : World) : Prop where
  rx : Rx base w lv L tv dv T D W
  p : Sl .i32 W (.slice (some ⟨w.heap.size + 1 + 1, 0, none⟩) 9 9) smL
  a : Sl .i32 W (.slice (some ⟨w.heap.size + 1 + 1 + 1, 0, none⟩) 9 9) smR
section
variable {base : Nat} {w : World} {lv : Value} {L : List Int} {tv dv : Value} {T : List Tok} {D : List Dg} {W : World}
theorem Lp.keep {W' : World} (h : Lp base w lv L tv dv T D W) (hb : Below W.heap.size W W') : Lp base w lv L tv dv T D W' := ⟨h.rx.keep hb, h.p.below hb, h.a.below hb⟩
theorem Lp.start (hs : Sl .i32 w lv L) (ht : TOwn base w tv T) (hd : DOwn base w dv D) :
    Lp base w lv L tv dv T D ((((w.alloc (.cells #[tv, dv] 67)).alloc (.cells #[.slice none 0 0, .slice none 0 0] 67)).alloc (.cells #[.int .i32 92, .int .i32 101, .int .i32 45, .int .i32 46, .int .i32 39, .int .i32 96, .int .i32 32, .int .i32 126, .int .i32 48] 21)).alloc (.cells #[.int .i32 92, .int .i32 92, .int .i32 45, .int .i32 46, .int .i32 180, .int .i32 96, .int .i32 160, .int .i32 160, .int .i32 160] 21)) := by
  have h := Rx.start hs ht hd
  have hsz : ((w.alloc (.cells #[tv, dv] 67)).alloc (.cells #[.slice none 0 0, .slice none 0 0] 67)).heap.size = w.heap.size + 1 + 1 := by simp
  obtain ⟨W2, hW2⟩ : ∃ W2, (w.alloc (.cells #[tv, dv] 67)).alloc (.cells #[.slice none 0 0, .slice none 0 0] 67) = W2 := ⟨_, rfl⟩
  rw [hW2] at h hsz ⊢
  have p1 := sl_lit (k := .i32) W2 21 smL
  have p2 := sl_lit (k := .i32) (W2.alloc (.cells #[.int .i32 92, .int .i32 101, .int .i32 45, .int .i32 46, .int .i32 39, .int .i32 96, .int .i32 32, .int .i32 126, .int .i32 48] 21)) 21 smR
  have e3 : (W2.alloc (.cells #[.int .i32 92, .int .i32 101, .int .i32 45, .int .i32 46, .int .i32 39, .int .i32 96, .int .i32 32, .int .i32 126, .int .i32 48] 21)).heap.size = w.heap.size + 1 + 1 + 1 := by simp [hsz]
  rw [hsz] at p1
  rw [e3] at p2
  exact ⟨h.keep (below_two W2 _ _), p1.below (below_lit _ _), p2⟩
theorem Lp.plain (h : Lp base w lv L tv dv T D W) {j : Nat} {p : Int × Int} (hp : smTab[j]? = some p) : W.cell? ⟨w.heap.size + 1 + 1, j, none⟩ = some (.int .i32 p.1) := by
  obtain ⟨g, off, he, c⟩ := h.p.at (j := j) (z := p.1) (by simp [smL, hp])
  cases he
  rw [Nat.zero_add] at c
  exact c
theorem Lp.as (h : Lp base w lv L tv dv T D W) {j : Nat} {p : Int × Int} (hp : smTab[j]? = some p) : W.cell? ⟨w.heap.size + 1 + 1 + 1, j, none⟩ = some (.int .i32 p.2) := by
  obtain ⟨g, off, he, c⟩ := h.a.at (j := j) (z := p.2) (by simp [smR, hp])
  cases he
  rw [Nat.zero_add] at c
  exact c

theorem kept_cell {w W W' : World} {tv dv : Value} (n1 : ∀ b, w.heap.size ≤ b → tv.ownBlock ≠ some b) (n2 : ∀ b, w.heap.size ≤ b → dv.ownBlock ≠ some b) (hk : ∀ b, b < W.heap.size → tv.ownBlock ≠ some b → dv.ownBlock ≠ some b → W'.heap[b]? = W.heap[b]?) {b j : Nat} {v : Value} (hb : w.heap.size ≤ b) (h : W.cell? ⟨b, j, none⟩ = some v) : W'.cell? ⟨b, j, none⟩ = some v :=
  (World.cell?_of_block (w := W) (a := ⟨b, j, none⟩) (hk b (World.block_lt_of_cell? _ _ h) (n1 b hb) (n2 b hb))).trans h

set_option maxRecDepth 100000 in
set_option maxHeartbeats 4000000 in
theorem resc_char (q : Nat) (d x : Int) (w : World) (hs : Sl .i32 w lv L) (ht : TOwn base w tv T) (hd : DOwn base w dv D) (hb : base ≤ w.heap.size) (hq : L[q]? = some d) (hL : L.length ≤ 2000) (hTl : T.length ≤ 2000) (hx : simC d = some x) :
    Calls Try.prog 32 #[.agg #[tv, dv], lv, .int .i64 (q : Int)] w (REnd base w tv dv (T ++ [(1, x)]) D (q + 1)) := by
  have HX := Lib.hid (Lp.start hs ht hd)
  have HN1 := Lib.hid (fun b (hb : w.heap.size ≤ b) => own_block ht hb)
  have HN2 := Lib.hid (fun b (hb : w.heap.size ≤ b) => own_block hd hb)
  have hlt := (List.getElem?_eq_some_iff.1 hq).1
  obtain ⟨a, cap, rfl⟩ := hs.len
  obtain ⟨ta, tc, hx1⟩ := (FOwn.sl tcell_len ht).len
  obtain ⟨da, dc, hx2⟩ := (FOwn.sl dcell_len hd).len
  obtain ⟨g, off, rfl, c5⟩ := hs.at hq
  obtain ⟨N, hN⟩ : ∃ N, L.length = N := ⟨_, rfl⟩
  rw [hN] at HX hlt hL ⊢
  obtain ⟨W3, hW3⟩ : ∃ W3, ((((w.alloc (.cells #[tv, dv] 67)).alloc (.cells #[.slice none 0 0, .slice none 0 0] 67)).alloc (.cells #[.int .i32 92, .int .i32 101, .int .i32 45, .int .i32 46, .int .i32 39, .int .i32 96, .int .i32 32, .int .i32 126, .int .i32 48] 21)).alloc (.cells #[.int .i32 92, .int .i32 92, .int .i32 45, .int .i32 46, .int .i32 180, .int .i32 96, .int .i32 160, .int .i32 160, .int .i32 160] 21)) = W3 := ⟨_, rfl⟩
  rw [hW3] at HX
  subst hx1 hx2
  have HW3 := Lib.hid hW3
  have HQ := Lib.hid hb
  have HHQ := Lib.hid hq
  have HXX := Lib.hid hx
  have hz : ¬ (N : Int) ≤ (q : Int) := by omega
  have hz0 : (q : Int) < (N : Int) := by omega
  have hz1 : (0 : Int) ≤ (q : Int) := by omega
  have hz2 : (q : Int) ≤ 2000 := by omega
  clear hW3 hs ht hd hN hq hb hx
  go_enter Try.func32, Try.ntmps32
  go_wp2_with fail
  rw [HW3.out]
  go_loopw [11] (fun i wr => ∃ j : Nat, j ≤ 9 ∧ i = .int .i64 j ∧ Below W3.heap.size W3 wr ∧ smLook (smTab.drop j) d = some x) (fun i _ => 9 - (intOf i).toNat)
  case atStart => exact ⟨0, by omega, rfl, Below.refl _ _, by rw [List.drop_zero, ← simC_tab]; exact HXX.out⟩
  case round =>
    obtain ⟨j, hj, rfl, hbw, hl⟩ := hrel
    have HL := Lib.hid hl
    have HXW := Lib.hid (HX.out.keep hbw)
    have HBW := Lib.hid hbw
    clear hl hbw c5
    by_cases hlt9 : j < 9
    · obtain ⟨p, hp⟩ : ∃ p, smTab[j]? = some p := ⟨smTab[j]'(by simpa [smTab] using hlt9), List.getElem?_eq_getElem _⟩
      obtain ⟨g', off', he, c5⟩ := (HXW.out.rx.s).at HHQ.out
      cases he
      have c6 := HXW.out.plain hp
      have c7 := HXW.out.as hp
      have hi0 : (j : Int) < 9 := by omega
      have hi1 : (0 : Int) ≤ (j : Int) := by omega
      by_cases he : p.1 = d
      · have hpx : p.2 = x := by
          have := HL.out
          rw [← he, smLook_hit hp] at this
          exact Option.some.inj this
        have hdq : (d == p.1) = true := by simpa using he.symm
        rw [hpx] at c7
        have hx7 : ∀ W, Lp base w (.slice (some ⟨g, off, none⟩) N cap) L (.slice ta T.length tc) (.slice da D.length dc) T D W → W.cell? ⟨w.heap.size + 1 + 1 + 1, j, none⟩ = some (.int .i32 x) := fun W h => hpx ▸ h.as hp
        have c8 : wr.cell? ⟨w.heap.size, 0, none⟩ = some (.slice ta T.length tc) := HXW.out.rx.b0.cell 0
        have c9 : wr.cell? ⟨w.heap.size, 1, none⟩ = some (.slice da D.length dc) := HXW.out.rx.b0.cell 1
        have HXD := Lib.hid (fun n => HXW.out.keep (below_drewN (Below.refl _ wr) n))
        clear hp he hpx
        go_wp2_with fail
        go_quiet (fail)
        generalize hwd : World.drewN wr _ = wd
        have HXE : Hid (Lp base w (.slice (some ⟨g, off, none⟩) N cap) L (.slice ta T.length tc) (.slice da D.length dc) T D wd) := Lib.hid (by rw [← hwd]; exact HXD.out _)
        clear hwd HXD HXW HBW HL c5 c6 c7 c8 c9
        have c7 : wd.cell? ⟨w.heap.size + 1 + 1 + 1, j, none⟩ = some (.int .i32 x) := hx7 wd HXE.out
        have c8 : wd.cell? ⟨w.heap.size, 0, none⟩ = some (.slice ta T.length tc) := HXE.out.rx.b0.cell 0
        have c9 : wd.cell? ⟨w.heap.size, 1, none⟩ = some (.slice da D.length dc) := HXE.out.rx.b0.cell 1
        have hwq : IntKind.i64.wrap ((q : Int) + 1) = (q : Int) + 1 := IntWalk.i64_in _ (by omega)
        have HS := Lib.hid (fun W (h : Below wd.heap.size wd W) => say_any base _ _ 1 x T D W (HXE.out.keep h).rx.t (HXE.out.keep h).rx.d (by have := (HXE.out.keep h).rx.big; have := HQ.out; omega) (by omega))
        go_wp2_with fail
        go_region_held3 (fun W' => W'.cell? ⟨w.heap.size + 1 + 1 + 1, j, none⟩ = some (.int .i32 x) ∧ W'.cell? ⟨w.heap.size, 0, none⟩ = some (.slice ta T.length tc) ∧ W'.cell? ⟨w.heap.size, 1, none⟩ = some (.slice da D.length dc))
          (first | assumption | go_keep)
          ((go_at_call 33; (with_reducible refine (HS.out _ (Below.refl _ wd).drew).mono ?_); rintro e w5 ⟨tv', dv', rfl, ht', hd', hbl, hsz, hk⟩; have k7 := kept_cell HN1.out HN2.out hk (by omega) c7; have k8 := kept_cell HN1.out HN2.out hk (Nat.le_refl _) c8; have k9 := kept_cell HN1.out HN2.out hk (Nat.le_refl _) c9; have HF := (HXE.out.keep (Below.refl _ wd).drew).rx.fin HQ.out ht' hd' hbl hsz hk; obtain ⟨ta', tc', hx1⟩ := (FOwn.sl tcell_len ht').len; obtain ⟨da', dc', hx2⟩ := (FOwn.sl dcell_len hd').len; obtain ⟨m, hm⟩ : ∃ m, (T ++ [(1, x)]).length = m := ⟨_, rfl⟩; rw [hm] at hx1; subst hx1 hx2; have q0 := HF.c0; have q1 := HF.c1; have f0 := HF.f0; have f1 := HF.f1; have HR := Lib.hid (HF.fin (q + 1)); clear ht' hd' hbl hsz hk HF hm))
        go_wp2_with fail
        exact bodyPost_ret (v := .tuple #[.agg #[.slice ta' m tc', .slice da' D.length dc'], .int .i64 ((q + 1 : Nat) : Int)]) (by simp [results, Try.results32, go_sem, q0, q1]) rfl HR.out
      · have hnx := Lib.hid (show smLook (smTab.drop (j + 1)) d = some x by rw [← smLook_miss hp he]; exact HL.out)
        have hdq : (d == p.1) = false := by simpa using fun h : d = p.1 => he h.symm
        clear hp he c7
        go_wp2_with fail
        go_quiet (fail)
        go_wp2
        go_roundw
        case rel => exact ⟨j + 1, by omega, by go_num, below_drewN HBW.out _, hnx.out⟩
        case measure => simp [intOf]; omega
    · obtain rfl : j = 9 := by omega
      have := HL.out
      cases this
end
end Go.Proofs.Ytgfmpndojjopnaa
