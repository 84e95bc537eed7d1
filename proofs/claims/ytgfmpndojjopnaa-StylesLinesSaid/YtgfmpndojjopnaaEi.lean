/- The document's own: a token more, something more that is wrong. -/
import Derived.Test.YtgfmpndojjopnaaE6
namespace Go.Proofs.Ytgfmpndojjopnaa
open Go.RowKit
attribute [local go_sem ↓ high] builtin_appT builtin_appDg

theorem below_two (w : World) (a b : Obj) : Below w.heap.size w ((w.alloc a).alloc b) := ((Below.refl _ w).alloc (Nat.le_refl _) _).alloc (by simp) _
theorem blk_first (w : World) (L : List Value) (e : TypeId) (b : Obj) : Blk ((w.alloc (.cells L.toArray e)).alloc b) w.heap.size e L :=
  Blk.below (W := w.alloc (.cells L.toArray e)) (heap_alloc_new w _) (below_lit _ _)
theorem blk_second (w : World) (a : Obj) (L : List Value) (e : TypeId) : Blk ((w.alloc a).alloc (.cells L.toArray e)) (w.heap.size + 1) e L := by
  have := heap_alloc_new (w.alloc a) (.cells L.toArray e)
  have e1 : (w.alloc a).heap.size = w.heap.size + 1 := by simp
  rw [e1] at this
  exact this
theorem own_block {α : Type} {e n : Nat} {f : α → List Value} {base : Nat} {W : World} {x : Value} {l : List α} (h : FOwn e n f base W x l) {b : Nat} (hb : W.heap.size ≤ b) : x.ownBlock ≠ some b := fun e => by
  have := (World.ownsRow.lt h b e).2
  omega

theorem setCell_sz (w : World) (a : Addr) (v : Value) : (w.setCell a v).heap.size = w.heap.size := by simp [World.setCell]
/-- What is read of a text so far, by value. -/
def TEnd (base : Nat) (w : World) (tv0 dv0 : Value) (T : List Tok) (D : List Dg) (e : Ending) (w' : World) : Prop :=
  ∃ tv dv, e = .returned (.agg #[tv, dv]) ∧ TOwn base w' tv T ∧ DOwn base w' dv D ∧ Below base w w' ∧ w.heap.size ≤ w'.heap.size ∧ ∀ b, b < w.heap.size → tv0.ownBlock ≠ some b → dv0.ownBlock ≠ some b → w'.heap[b]? = w.heap[b]?

set_option maxRecDepth 100000 in
set_option maxHeartbeats 2000000 in
theorem say_any (base : Nat) (tv dv : Value) (k r : Int) (T : List Tok) (D : List Dg) (w : World) (ht : TOwn base w tv T) (hd : DOwn base w dv D) (hb : base ≤ w.heap.size) (hT : T.length ≤ 20000) :
    Calls Try.prog 33 #[.agg #[tv, dv], .int .i64 k, .int .i32 r] w (TEnd base w tv dv (T ++ [(k, r)]) D) := by
  have h2 : TOwn base ((w.alloc (.cells #[tv, dv] 67)).alloc (.cells #[.slice none 0 0, .slice none 0 0] 67)) tv T := ht.keep (below_two w _ _)
  have d2 : DOwn base ((w.alloc (.cells #[tv, dv] 67)).alloc (.cells #[.slice none 0 0, .slice none 0 0] 67)) dv D := hd.keep (below_two w _ _)
  have e1 := blk_first w [tv, dv] 67 (.cells #[.slice none 0 0, .slice none 0 0] 67)
  have e2 := blk_second w (.cells #[tv, dv] 67) [.slice none 0 0, .slice none 0 0] 67
  have hsz : ((w.alloc (.cells #[tv, dv] 67)).alloc (.cells #[.slice none 0 0, .slice none 0 0] 67)).heap.size = w.heap.size + 1 + 1 := by simp
  have hb2 := (below_two w (.cells #[tv, dv] 67) (.cells #[.slice none 0 0, .slice none 0 0] 67)).mono hb
  have ne1 : tv.ownBlock ≠ some w.heap.size := own_block ht (Nat.le_refl _)
  have ne2 : tv.ownBlock ≠ some (w.heap.size + 1) := own_block ht (by omega)
  have nd1 : dv.ownBlock ≠ some w.heap.size := own_block hd (Nat.le_refl _)
  have nd2 : dv.ownBlock ≠ some (w.heap.size + 1) := own_block hd (by omega)
  obtain ⟨W2, hW2⟩ : ∃ W2, (w.alloc (.cells #[tv, dv] 67)).alloc (.cells #[.slice none 0 0, .slice none 0 0] 67) = W2 := ⟨_, rfl⟩
  have e1' : Blk W2 w.heap.size 67 [tv, dv] := hW2 ▸ e1
  have e2' : Blk W2 (w.heap.size + 1) 67 [.slice none 0 0, .slice none 0 0] := hW2 ▸ e2
  rw [hW2] at h2 d2 hsz hb2
  have hl := below_lit W2 (.cells #[.int .i64 k, .int .i32 r] 46)
  have h3 : TOwn base (W2.alloc (.cells #[.int .i64 k, .int .i32 r] 46)) tv T := h2.keep hl
  obtain ⟨tv', W4, hrun, ho, hg, hq⟩ := appT_own h3 (fs_lit tcell_len W2 46 [(k, r)]) (by simp; omega) (by simp; omega)
  have d3 : DOwn base (W2.alloc (.cells #[.int .i64 k, .int .i32 r] 46)) dv D := d2.keep hl
  have d4 : DOwn base W4 dv D := FOwn.apart d3 hg (ty_apart d3 h3 (by decide))
  have b1 : Blk W4 w.heap.size 67 [tv, dv] := (hg.block _ (by simp; omega) (fun e => ne1 e.symm)).trans (e1'.below hl)
  have b2 : Blk W4 (w.heap.size + 1) 67 [.slice none 0 0, .slice none 0 0] := (hg.block _ (by simp; omega) (fun e => ne2 e.symm)).trans (e2'.below hl)
  have hbel : Below base w W4 := (hb2.trans (hl.mono (by omega))).grown hg (by simp; omega) (fun j e => (h3.ty e).1)
  have nt1 : tv'.ownBlock ≠ some w.heap.size := by
    rcases hq with hq | hq
    · rw [hq]; exact ne1
    · rw [hq]; simp; omega
  have nt2 : tv'.ownBlock ≠ some (w.heap.size + 1) := by
    rcases hq with hq | hq
    · rw [hq]; exact ne2
    · rw [hq]; simp; omega
  have c0 : W4.cell? ⟨w.heap.size, 0, none⟩ = some tv := b1.cell 0
  have c1 : W4.cell? ⟨w.heap.size, 1, none⟩ = some dv := b1.cell 1
  have f0 : W4.frozen? ⟨w.heap.size, 0, none⟩ = false := b1.frozen (by simp)
  have c2 : W4.cell? ⟨w.heap.size + 1, 0, none⟩ = some (.slice none 0 0) := b2.cell 0
  have c3 : W4.cell? ⟨w.heap.size + 1, 1, none⟩ = some (.slice none 0 0) := b2.cell 1
  have f2 : W4.frozen? ⟨w.heap.size + 1, 0, none⟩ = false := b2.frozen (by simp)
  have f3 : W4.frozen? ⟨w.heap.size + 1, 1, none⟩ = false := b2.frozen (by simp)
  obtain ⟨ta, tc, rfl⟩ := (FOwn.sl tcell_len ht).len
  obtain ⟨da, dc, rfl⟩ := (FOwn.sl dcell_len hd).len
  obtain ⟨ta', tc', hx⟩ := (FOwn.sl tcell_len ho).len
  rw [hsz, ← hW2] at hrun
  have HT : Hid (TOwn base (((W4.setCell ⟨w.heap.size, 0, none⟩ tv').setCell ⟨w.heap.size + 1, 0, none⟩ tv').setCell ⟨w.heap.size + 1, 1, none⟩ (.slice da D.length dc)) tv' (T ++ [(k, r)])) :=
    Lib.hid (ownsRow_setCell_other (ownsRow_setCell_other (ownsRow_setCell_other ho nt1 _) nt2 _) nt2 _)
  have HD : Hid (DOwn base (((W4.setCell ⟨w.heap.size, 0, none⟩ tv').setCell ⟨w.heap.size + 1, 0, none⟩ tv').setCell ⟨w.heap.size + 1, 1, none⟩ (.slice da D.length dc)) (.slice da D.length dc) D) :=
    Lib.hid (ownsRow_setCell_other (ownsRow_setCell_other (ownsRow_setCell_other d4 nd1 _) nd2 _) nd2 _)
  have HB : Hid (Below base w (((W4.setCell ⟨w.heap.size, 0, none⟩ tv').setCell ⟨w.heap.size + 1, 0, none⟩ tv').setCell ⟨w.heap.size + 1, 1, none⟩ (.slice da D.length dc))) :=
    Lib.hid (((hbel.setCell hb _).setCell (by simp only; omega) _).setCell (by simp only; omega) _)
  have hsz4 := hg.size
  have HZ : Hid (w.heap.size ≤ (((W4.setCell ⟨w.heap.size, 0, none⟩ tv').setCell ⟨w.heap.size + 1, 0, none⟩ tv').setCell ⟨w.heap.size + 1, 1, none⟩ (.slice da D.length dc)).heap.size) := Lib.hid (by simp only [setCell_sz]; simp at hsz4; omega)
  have HK : Hid (∀ b, b < w.heap.size → (Value.slice ta T.length tc).ownBlock ≠ some b → (Value.slice da D.length dc).ownBlock ≠ some b → (((W4.setCell ⟨w.heap.size, 0, none⟩ tv').setCell ⟨w.heap.size + 1, 0, none⟩ tv').setCell ⟨w.heap.size + 1, 1, none⟩ (.slice da D.length dc)).heap[b]? = w.heap[b]?) := Lib.hid (fun b hb ht hd =>
    (((((Below.refl (b + 1) W4).setCell (by simp only; omega) _).setCell (by simp only; omega) _).setCell (by simp only; omega) _).block b (by omega)).trans ((hg.block b (by simp; omega) (fun e => ht e.symm)).trans ((hl.block b (by omega)).trans (hW2 ▸ (below_two w _ _).block b hb))))
  obtain ⟨m, hm⟩ : ∃ m, (T ++ [(k, r)]).length = m := ⟨_, rfl⟩
  rw [hm] at hx
  subst hx
  clear hm hsz4 hq nt1 nt2 nd1 nd2 ne1 ne2 b1 b2 e1 e2 e1' e2' h2 d2 h3 d3 d4 ho hg hbel hb2 hsz hW2 hl ht hd
  have hrun' : (appT #[.slice ta T.length tc, .slice (some ⟨w.heap.size + 1 + 1, 0, none⟩) 1 1]).run Try.prog (((w.alloc (.cells #[.slice ta T.length tc, .slice da D.length dc] 67)).alloc (.cells #[.slice none 0 0, .slice none 0 0] 67)).alloc (.cells #[.int .i64 k, .int .i32 r] 46)) = .ok (.value (.slice ta' m tc')) W4 := hrun
  clear hrun
  go_enter Try.func33, Try.ntmps33
  go_wp2_with fail
  exact bodyPost_ret (v := .agg #[.slice ta' m tc', .slice da D.length dc]) (by simp [results, Try.results33, go_sem, c2, c3]) rfl ⟨_, _, rfl, HT.out, HD.out, HB.out, HZ.out, HK.out⟩

set_option maxRecDepth 100000 in
set_option maxHeartbeats 2000000 in
theorem tell_any (base : Nat) (tv dv : Value) (k : Int) (p : Nat) (T : List Tok) (D : List Dg) (w : World) (ht : TOwn base w tv T) (hd : DOwn base w dv D) (hb : base ≤ w.heap.size) (hD : D.length ≤ 20000) (hp : p ≤ 20000) :
    Calls Try.prog 35 #[.agg #[tv, dv], .int .i64 k, .int .i64 (p : Int)] w (TEnd base w tv dv T (D ++ dgs p [k])) := by
  have h2 : TOwn base ((w.alloc (.cells #[tv, dv] 67)).alloc (.cells #[.slice none 0 0, .slice none 0 0] 67)) tv T := ht.keep (below_two w _ _)
  have d2 : DOwn base ((w.alloc (.cells #[tv, dv] 67)).alloc (.cells #[.slice none 0 0, .slice none 0 0] 67)) dv D := hd.keep (below_two w _ _)
  have e1 := blk_first w [tv, dv] 67 (.cells #[.slice none 0 0, .slice none 0 0] 67)
  have e2 := blk_second w (.cells #[tv, dv] 67) [.slice none 0 0, .slice none 0 0] 67
  have hsz : ((w.alloc (.cells #[tv, dv] 67)).alloc (.cells #[.slice none 0 0, .slice none 0 0] 67)).heap.size = w.heap.size + 1 + 1 := by simp
  have hb2 := (below_two w (.cells #[tv, dv] 67) (.cells #[.slice none 0 0, .slice none 0 0] 67)).mono hb
  have ne1 : tv.ownBlock ≠ some w.heap.size := own_block ht (Nat.le_refl _)
  have ne2 : tv.ownBlock ≠ some (w.heap.size + 1) := own_block ht (by omega)
  have nd1 : dv.ownBlock ≠ some w.heap.size := own_block hd (Nat.le_refl _)
  have nd2 : dv.ownBlock ≠ some (w.heap.size + 1) := own_block hd (by omega)
  obtain ⟨W2, hW2⟩ : ∃ W2, (w.alloc (.cells #[tv, dv] 67)).alloc (.cells #[.slice none 0 0, .slice none 0 0] 67) = W2 := ⟨_, rfl⟩
  have e1' : Blk W2 w.heap.size 67 [tv, dv] := hW2 ▸ e1
  have e2' : Blk W2 (w.heap.size + 1) 67 [.slice none 0 0, .slice none 0 0] := hW2 ▸ e2
  rw [hW2] at h2 d2 hsz hb2
  have hl := below_lit W2 (.cells #[.int .i64 k, .int .i64 0, .int .i64 ((p : Int) + 1)] 50)
  have h3 : TOwn base (W2.alloc (.cells #[.int .i64 k, .int .i64 0, .int .i64 ((p : Int) + 1)] 50)) tv T := h2.keep hl
  have d3 : DOwn base (W2.alloc (.cells #[.int .i64 k, .int .i64 0, .int .i64 ((p : Int) + 1)] 50)) dv D := d2.keep hl
  obtain ⟨dv', W4, hrun, ho, hg, hq⟩ := appDg_own d3 (fs_lit dcell_len W2 50 [(k, 0, (p : Int) + 1)]) (by simp; omega) (by simp; omega)
  have h4 : TOwn base W4 tv T := FOwn.apart h3 hg (ty_apart h3 d3 (by decide))
  have b1 : Blk W4 w.heap.size 67 [tv, dv] := (hg.block _ (by simp; omega) (fun e => nd1 e.symm)).trans (e1'.below hl)
  have b2 : Blk W4 (w.heap.size + 1) 67 [.slice none 0 0, .slice none 0 0] := (hg.block _ (by simp; omega) (fun e => nd2 e.symm)).trans (e2'.below hl)
  have hbel : Below base w W4 := (hb2.trans (hl.mono (by omega))).grown hg (by simp; omega) (fun j e => (d3.ty e).1)
  have nt1 : dv'.ownBlock ≠ some w.heap.size := by
    rcases hq with hq | hq
    · rw [hq]; exact nd1
    · rw [hq]; simp; omega
  have nt2 : dv'.ownBlock ≠ some (w.heap.size + 1) := by
    rcases hq with hq | hq
    · rw [hq]; exact nd2
    · rw [hq]; simp; omega
  have c0 : W4.cell? ⟨w.heap.size, 0, none⟩ = some tv := b1.cell 0
  have c1 : W4.cell? ⟨w.heap.size, 1, none⟩ = some dv := b1.cell 1
  have f0 : W4.frozen? ⟨w.heap.size, 1, none⟩ = false := b1.frozen (by simp)
  have c2 : W4.cell? ⟨w.heap.size + 1, 0, none⟩ = some (.slice none 0 0) := b2.cell 0
  have c3 : W4.cell? ⟨w.heap.size + 1, 1, none⟩ = some (.slice none 0 0) := b2.cell 1
  have f2 : W4.frozen? ⟨w.heap.size + 1, 0, none⟩ = false := b2.frozen (by simp)
  have f3 : W4.frozen? ⟨w.heap.size + 1, 1, none⟩ = false := b2.frozen (by simp)
  obtain ⟨ta, tc, rfl⟩ := (FOwn.sl tcell_len ht).len
  obtain ⟨da, dc, rfl⟩ := (FOwn.sl dcell_len hd).len
  obtain ⟨ta', tc', hx⟩ := (FOwn.sl dcell_len ho).len
  rw [hsz, ← hW2] at hrun
  have HT : Hid (DOwn base (((W4.setCell ⟨w.heap.size, 1, none⟩ dv').setCell ⟨w.heap.size + 1, 0, none⟩ (.slice ta T.length tc)).setCell ⟨w.heap.size + 1, 1, none⟩ dv') dv' (D ++ dgs p [k])) :=
    Lib.hid (ownsRow_setCell_other (ownsRow_setCell_other (ownsRow_setCell_other ho nt1 _) nt2 _) nt2 _)
  have HD : Hid (TOwn base (((W4.setCell ⟨w.heap.size, 1, none⟩ dv').setCell ⟨w.heap.size + 1, 0, none⟩ (.slice ta T.length tc)).setCell ⟨w.heap.size + 1, 1, none⟩ dv') (.slice ta T.length tc) T) :=
    Lib.hid (ownsRow_setCell_other (ownsRow_setCell_other (ownsRow_setCell_other h4 ne1 _) ne2 _) ne2 _)
  have HB : Hid (Below base w (((W4.setCell ⟨w.heap.size, 1, none⟩ dv').setCell ⟨w.heap.size + 1, 0, none⟩ (.slice ta T.length tc)).setCell ⟨w.heap.size + 1, 1, none⟩ dv')) :=
    Lib.hid (((hbel.setCell hb _).setCell (by simp only; omega) _).setCell (by simp only; omega) _)
  have hsz4 := hg.size
  have HZ : Hid (w.heap.size ≤ (((W4.setCell ⟨w.heap.size, 1, none⟩ dv').setCell ⟨w.heap.size + 1, 0, none⟩ (.slice ta T.length tc)).setCell ⟨w.heap.size + 1, 1, none⟩ dv').heap.size) := Lib.hid (by simp only [setCell_sz]; simp at hsz4; omega)
  have HK : Hid (∀ b, b < w.heap.size → (Value.slice ta T.length tc).ownBlock ≠ some b → (Value.slice da D.length dc).ownBlock ≠ some b → (((W4.setCell ⟨w.heap.size, 1, none⟩ dv').setCell ⟨w.heap.size + 1, 0, none⟩ (.slice ta T.length tc)).setCell ⟨w.heap.size + 1, 1, none⟩ dv').heap[b]? = w.heap[b]?) := Lib.hid (fun b hb ht hd =>
    (((((Below.refl (b + 1) W4).setCell (by simp only; omega) _).setCell (by simp only; omega) _).setCell (by simp only; omega) _).block b (by omega)).trans ((hg.block b (by simp; omega) (fun e => hd e.symm)).trans ((hl.block b (by omega)).trans (hW2 ▸ (below_two w _ _).block b hb))))
  obtain ⟨m, hm⟩ : ∃ m, (D ++ [(k, 0, (p : Int) + 1)]).length = m := ⟨_, rfl⟩
  rw [hm] at hx
  subst hx
  clear hm hsz4 hq nt1 nt2 nd1 nd2 ne1 ne2 b1 b2 e1 e2 e1' e2' h2 d2 h3 d3 h4 ho hg hbel hb2 hsz hW2 hl ht hd
  have hrun' : (appDg #[.slice da D.length dc, .slice (some ⟨w.heap.size + 1 + 1, 0, none⟩) 1 1]).run Try.prog (((w.alloc (.cells #[.slice ta T.length tc, .slice da D.length dc] 67)).alloc (.cells #[.slice none 0 0, .slice none 0 0] 67)).alloc (.cells #[.int .i64 k, .int .i64 0, .int .i64 ((p : Int) + 1)] 50)) = .ok (.value (.slice ta' m tc')) W4 := hrun
  clear hrun
  go_enter Try.func35, Try.ntmps35
  go_wp2_with fail
  exact bodyPost_ret (v := .agg #[.slice ta T.length tc, .slice ta' m tc']) (by simp [results, Try.results35, go_sem, c2, c3]) rfl ⟨_, _, rfl, HD.out, HT.out, HB.out, HZ.out, HK.out⟩
end Go.Proofs.Ytgfmpndojjopnaa
