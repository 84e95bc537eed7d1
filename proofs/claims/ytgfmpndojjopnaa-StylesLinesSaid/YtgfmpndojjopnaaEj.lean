/- The document's own escape: its cells while it runs; what it leaves. -/
import Derived.Test.YtgfmpndojjopnaaEi
import Derived.Test.YtgfmpndojjopnaaEh
import Derived.Test.YtgfmpndojjopnaaEd
import Derived.Deep.RegionHeld3
namespace Go.Proofs.Ytgfmpndojjopnaa
open Go.RowKit
attribute [local go_sem ↓ high] builtin_appT builtin_appDg

def smTab : List (Int × Int) := [(92, 92), (101, 92), (45, 45), (46, 46), (39, 180), (96, 96), (32, 160), (126, 160), (48, 160)]
def smLook : List (Int × Int) → Int → Option Int
  | [], _ => none
  | p :: t, d => if p.1 = d then some p.2 else smLook t d
theorem smLook_hit {l : List (Int × Int)} {j : Nat} {p : Int × Int} (h : l[j]? = some p) : smLook (l.drop j) p.1 = some p.2 := by
  obtain ⟨hp, rfl⟩ := List.getElem?_eq_some_iff.1 h
  rw [List.drop_eq_getElem_cons hp]
  simp [smLook]
theorem smLook_miss {l : List (Int × Int)} {j : Nat} {p : Int × Int} {d : Int} (h : l[j]? = some p) (hb : ¬ p.1 = d) : smLook (l.drop j) d = smLook (l.drop (j + 1)) d := by
  obtain ⟨hp, rfl⟩ := List.getElem?_eq_some_iff.1 h
  rw [List.drop_eq_getElem_cons hp]
  simp [smLook, hb]
theorem simC_tab (d : Int) : simC d = smLook smTab d := by
  cases h : simC d with
  | some x => rcases simC_some h with ⟨rfl, rfl⟩ | ⟨rfl, rfl⟩ | ⟨rfl, rfl⟩ | ⟨rfl, rfl⟩ | ⟨rfl, rfl⟩ | ⟨rfl, rfl⟩ | ⟨rfl, rfl⟩ | ⟨rfl, rfl⟩ | ⟨rfl, rfl⟩ <;> decide
  | none =>
    obtain ⟨x1, x2, x3, x4, x5, x6, x7, x8, x9⟩ := simC_none h
    simp [smLook, smTab, Ne.symm x1, Ne.symm x2, Ne.symm x3, Ne.symm x4, Ne.symm x5, Ne.symm x6, Ne.symm x7, Ne.symm x8, Ne.symm x9]

/-- The world while it runs: its own two blocks behind what was there. -/
structure Rx (base : Nat) (w : World) (lv : Value) (L : List Int) (tv dv : Value) (T : List Tok) (D : List Dg) (W : World) : Prop where
  b0 : Blk W w.heap.size 67 [tv, dv]
  b1 : Blk W (w.heap.size + 1) 67 [.slice none 0 0, .slice none 0 0]
  t : TOwn base W tv T
  d : DOwn base W dv D
  s : Sl .i32 W lv L
  bel : Below w.heap.size w W
section
variable {base : Nat} {w : World} {lv : Value} {L : List Int} {tv dv : Value} {T : List Tok} {D : List Dg} {W : World}
theorem Rx.big (h : Rx base w lv L tv dv T D W) : w.heap.size + 1 < W.heap.size := (Array.getElem?_eq_some_iff.1 h.b1).1
theorem Rx.keep {W' : World} (h : Rx base w lv L tv dv T D W) (hb : Below W.heap.size W W') : Rx base w lv L tv dv T D W' :=
  ⟨h.b0.below hb, h.b1.below hb, h.t.keep hb, h.d.keep hb, h.s.below hb, h.bel.trans (hb.mono (by have := h.big; omega))⟩
theorem Rx.start (hs : Sl .i32 w lv L) (ht : TOwn base w tv T) (hd : DOwn base w dv D) : Rx base w lv L tv dv T D ((w.alloc (.cells #[tv, dv] 67)).alloc (.cells #[.slice none 0 0, .slice none 0 0] 67)) :=
  ⟨blk_first w [tv, dv] _ _, blk_second w _ [.slice none 0 0, .slice none 0 0] _, ht.keep (below_two w _ _), hd.keep (below_two w _ _), hs.below (below_two w _ _), below_two w _ _⟩
theorem row_ne {α : Type} {e n : Nat} {f : α → List Value} {x : Value} {l : List α} (h : FOwn e n f base W x l) {b e' : Nat} {C : List Value} (hb : Blk W b e' C) (he : e ≠ e') : x.ownBlock ≠ some b := by
  intro hx
  obtain ⟨-, cur, hc⟩ := h.ty hx
  have hb' : W.heap[b]? = some (.cells C.toArray e' (0, 0)) := hb
  rw [hb'] at hc
  injection hc with hc
  injection hc with _ h2 _
  exact he h2.symm

def REnd (base : Nat) (w : World) (tv0 dv0 : Value) (T : List Tok) (D : List Dg) (nx : Nat) (e : Ending) (w' : World) : Prop :=
  ∃ tv dv, e = .returned (.tuple #[.agg #[tv, dv], .int .i64 (nx : Int)]) ∧ TOwn base w' tv T ∧ DOwn base w' dv D ∧ Below base w w' ∧ w.heap.size ≤ w'.heap.size ∧ ∀ b, b < w.heap.size → tv0.ownBlock ≠ some b → dv0.ownBlock ≠ some b → w'.heap[b]? = w.heap[b]?
/-- What is told is laid into the result's cells. -/
structure Fin (base : Nat) (w : World) (tv0 dv0 : Value) (tv dv : Value) (T : List Tok) (D : List Dg) (W : World) : Prop where
  c0 : W.cell? ⟨w.heap.size + 1, 0, none⟩ = some (.slice none 0 0)
  c1 : W.cell? ⟨w.heap.size + 1, 1, none⟩ = some (.slice none 0 0)
  f0 : W.frozen? ⟨w.heap.size + 1, 0, none⟩ = false
  f1 : W.frozen? ⟨w.heap.size + 1, 1, none⟩ = false
  fin : ∀ nx : Nat, REnd base w tv0 dv0 T D nx (.returned (.tuple #[.agg #[tv, dv], .int .i64 (nx : Int)])) ((W.setCell ⟨w.heap.size + 1, 0, none⟩ tv).setCell ⟨w.heap.size + 1, 1, none⟩ dv)
theorem Rx.fin (h : Rx base w lv L tv dv T D W) (hb : base ≤ w.heap.size) {W' : World} {tv' dv' : Value} {T' : List Tok} {D' : List Dg} (ht : TOwn base W' tv' T') (hd : DOwn base W' dv' D') (hbl : Below base W W') (hz : W.heap.size ≤ W'.heap.size)
    (hk : ∀ b, b < W.heap.size → tv.ownBlock ≠ some b → dv.ownBlock ≠ some b → W'.heap[b]? = W.heap[b]?) : Fin base w tv dv tv' dv' T' D' W' := by
  have hbig := h.big
  have n1 := row_ne h.t h.b1 (by decide)
  have n2 := row_ne h.d h.b1 (by decide)
  have b1 : Blk W' (w.heap.size + 1) 67 [.slice none 0 0, .slice none 0 0] := (hk _ (by omega) n1 n2).trans h.b1
  have m1 := row_ne ht b1 (by decide)
  have m2 := row_ne hd b1 (by decide)
  refine ⟨b1.cell 0, b1.cell 1, b1.frozen (by simp), b1.frozen (by simp), fun nx => ⟨tv', dv', rfl, ownsRow_setCell_other (ownsRow_setCell_other ht m1 _) m1 _, ownsRow_setCell_other (ownsRow_setCell_other hd m2 _) m2 _, (((h.bel.mono hb).trans hbl).setCell (by simp only; omega) _).setCell (by simp only; omega) _, by simp only [setCell_sz]; omega, fun b hb' q1 q2 => ?_⟩⟩
  exact ((((Below.refl (b + 1) W').setCell (by simp only; omega) _).setCell (by simp only; omega) _).block b (by omega)).trans ((hk b (by omega) q1 q2).trans (h.bel.block b hb'))
theorem Rx.same (h : Rx base w lv L tv dv T D W) (hb : base ≤ w.heap.size) : Fin base w tv dv tv dv T D W :=
  h.fin hb h.t h.d (Below.refl _ _) (Nat.le_refl _) (fun _ _ _ _ => rfl)

set_option maxRecDepth 100000 in
set_option maxHeartbeats 2000000 in
theorem resc_end (q : Nat) (w : World) (hs : Sl .i32 w lv L) (ht : TOwn base w tv T) (hd : DOwn base w dv D) (hb : base ≤ w.heap.size) (hq : q = L.length) (hq0 : 1 ≤ q) (hL : L.length ≤ 2000) (hDl : D.length ≤ 2000) :
    Calls Try.prog 32 #[.agg #[tv, dv], lv, .int .i64 (q : Int)] w (REnd base w tv dv T (D ++ dgs (q - 1) [1]) q) := by
  have HX := Lib.hid (Rx.start hs ht hd)
  obtain ⟨a, cap, rfl⟩ := hs.len
  obtain ⟨ta, tc, hx1⟩ := (FOwn.sl tcell_len ht).len
  obtain ⟨da, dc, hx2⟩ := (FOwn.sl dcell_len hd).len
  obtain ⟨N, hN⟩ : ∃ N, L.length = N := ⟨_, rfl⟩
  rw [hN] at HX hq ⊢
  obtain ⟨W2, hW2⟩ : ∃ W2, (w.alloc (.cells #[tv, dv] 67)).alloc (.cells #[.slice none 0 0, .slice none 0 0] 67) = W2 := ⟨_, rfl⟩
  rw [hW2] at HX
  have HW2 := Lib.hid hW2
  have c0 : W2.cell? ⟨w.heap.size, 0, none⟩ = some tv := HX.out.b0.cell 0
  have c1 : W2.cell? ⟨w.heap.size, 1, none⟩ = some dv := HX.out.b0.cell 1
  subst hx1 hx2
  obtain ⟨p, rfl⟩ : ∃ p, q = p + 1 := ⟨q - 1, by omega⟩
  have HC := Lib.hid (tell_any base _ _ 1 p T D W2 HX.out.t HX.out.d (by have := HX.out.big; omega) (by omega) (by omega))
  have hz : (N : Int) ≤ ((p + 1 : Nat) : Int) := by omega
  have hz1 : (0 : Int) ≤ (p : Int) := by omega
  have hz2 : (p : Int) ≤ 2000 := by omega
  have HQ := Lib.hid hb
  simp only [Nat.add_sub_cancel]
  clear hW2 hs ht hd hN hq hb
  go_enter Try.func32, Try.ntmps32
  go_wp2_with fail
  rw [HW2.out]
  refine HC.out.mono ?_
  rintro e w5 ⟨tv', dv', rfl, ht', hd', hbl, hsz, hk⟩
  have HF := HX.out.fin HQ.out ht' hd' hbl hsz hk
  obtain ⟨ta', tc', hx1⟩ := (FOwn.sl tcell_len ht').len
  obtain ⟨da', dc', hx2⟩ := (FOwn.sl dcell_len hd').len
  obtain ⟨m, hm⟩ : ∃ m, (D ++ dgs p [1]).length = m := ⟨_, rfl⟩
  rw [hm] at hx2
  subst hx1 hx2
  have q0 := HF.c0
  have q1 := HF.c1
  have f0 := HF.f0
  have f1 := HF.f1
  have HR := Lib.hid (HF.fin (p + 1))
  clear HC HX HW2 ht' hd' hbl hsz hk hm HF c0 c1
  go_wp2_with fail
  exact bodyPost_ret (v := .tuple #[.agg #[.slice ta' T.length tc', .slice da' m dc'], .int .i64 ((p + 1 : Nat) : Int)]) (by simp [results, Try.results32, go_sem, q0, q1]) rfl HR.out
end
end Go.Proofs.Ytgfmpndojjopnaa
