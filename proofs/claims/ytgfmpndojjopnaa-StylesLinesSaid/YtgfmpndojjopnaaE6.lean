/- Rows of tokens, rows of what is wrong; a reader's own cells, and what each method leaves of them. -/
import Derived.Test.YtgfmpndojjopnaaE5
import Derived.Test.YtgfmpndojjopnaaGx
namespace Go.Proofs.Ytgfmpndojjopnaa
open Go.RowKit

def tcell (t : Tok) : List Value := [.int .i64 t.1, .int .i32 t.2]
theorem tcell_len (t : Tok) : (tcell t).length = 2 := rfl
theorem tcell_one (t : Tok) : ∀ u ∈ tcell t, u.oneCell' = true := by
  intro u hu
  simp [tcell] at hu
  rcases hu with rfl | rfl <;> rfl
def dcell (d : Dg) : List Value := [.int .i64 d.1, .int .i64 d.2.1, .int .i64 d.2.2]
theorem dcell_len (d : Dg) : (dcell d).length = 3 := rfl
theorem dcell_one (d : Dg) : ∀ u ∈ dcell d, u.oneCell' = true := by
  intro u hu
  simp [dcell] at hu
  rcases hu with rfl | rfl | rfl <;> rfl
abbrev Ts (w : World) (v : Value) (l : List Tok) : Prop := Fs 2 tcell w v l
abbrev TOwn (base : Nat) (W : World) (x : Value) (l : List Tok) : Prop := FOwn 46 2 tcell base W x l
abbrev Ds (w : World) (v : Value) (l : List Dg) : Prop := Fs 3 dcell w v l
abbrev DOwn (base : Nat) (W : World) (x : Value) (l : List Dg) : Prop := FOwn 50 3 dcell base W x l
theorem infoT : (Try.prog.info? 46).map (fun i => (i.zero, i.size, i.bytes)) = some (some (.agg #[.int .i64 0, .int .i32 0]), 2, 16) := by kernel_rfl
theorem infoDg : (Try.prog.info? 50).map (fun i => (i.zero, i.size, i.bytes)) = some (some (.agg #[.int .i64 0, .int .i64 0, .int .i64 0]), 3, 24) := by kernel_rfl

noncomputable def appT (args : Array Value) : Sem Next := do pure (.value (← Builtin.append_ #[24, 24] 24 args))
theorem builtin_appT (cs : Array Bool) (args : Array Value) : builtin .append #[24, 24] 24 cs args = appT args := rfl
noncomputable def appDg (args : Array Value) : Sem Next := do pure (.value (← Builtin.append_ #[30, 30] 30 args))
theorem builtin_appDg (cs : Array Bool) (args : Array Value) : builtin .append #[30, 30] 30 cs args = appDg args := rfl
theorem appT_own {base : Nat} {W : World} {x u : Value} {l m : List Tok} (h : TOwn base W x l) (hu : Ts W u m) (hb : base ≤ W.heap.size) (hd : l.length + m.length ≤ 1000000) :
    ∃ x' w', (appT #[x, u]).run Try.prog W = .ok (.value x') w' ∧ TOwn base w' x' (l ++ m) ∧ W.grownBy w' x.ownBlock ∧ (x'.ownBlock = x.ownBlock ∨ x'.ownBlock = some W.heap.size) := by
  obtain ⟨i0, hi, hz0, hz1, hz2⟩ := info_parts infoT
  obtain ⟨x', w', hr, r⟩ := fapp tcell_len tcell_one (by decide) Try.underlying24 hi hz0 hz1 hz2 rfl (by decide) h hu hb hd
  refine ⟨x', w', ?_, r⟩
  unfold appT
  simp only [Sem.run_bind, Sem.run_pure, Result.andThen_ok, hr]
theorem appDg_own {base : Nat} {W : World} {x u : Value} {l m : List Dg} (h : DOwn base W x l) (hu : Ds W u m) (hb : base ≤ W.heap.size) (hd : l.length + m.length ≤ 1000000) :
    ∃ x' w', (appDg #[x, u]).run Try.prog W = .ok (.value x') w' ∧ DOwn base w' x' (l ++ m) ∧ W.grownBy w' x.ownBlock ∧ (x'.ownBlock = x.ownBlock ∨ x'.ownBlock = some W.heap.size) := by
  obtain ⟨i0, hi, hz0, hz1, hz2⟩ := info_parts infoDg
  obtain ⟨x', w', hr, r⟩ := fapp dcell_len dcell_one (by decide) Try.underlying30 hi hz0 hz1 hz2 rfl (by decide) h hu hb hd
  refine ⟨x', w', ?_, r⟩
  unfold appDg
  simp only [Sem.run_bind, Sem.run_pure, Result.andThen_ok, hr]

/-- A reader in block B: its text, where it reads on, what it has told so far. -/
structure RdV (w0 : World) (B : Nat) (tv : Value) (L : List Int) (W : World) (nx : Int) (T : List Tok) (D : List Dg) (vt vd vm : Value) : Prop where
  hB : w0.heap.size = B
  sl : Sl .i32 w0 tv L
  bel : Below B w0 W
  blk : Blk W B 61 [tv, .int .i64 nx, vt, vd, vm]
  tk : TOwn (B + 1) W vt T
  dg : DOwn (B + 1) W vd D
  mp : vm = .map none ∨ ∃ M, vm = .map (some M) ∧ B < M ∧ Nms W M
def Rd (w0 : World) (B : Nat) (tv : Value) (L : List Int) (W : World) (nx : Int) (T : List Tok) (D : List Dg) : Prop := ∃ vt vd vm, RdV w0 B tv L W nx T D vt vd vm

section
variable {w0 : World} {B : Nat} {tv : Value} {L : List Int} {W : World} {nx : Int} {T : List Tok} {D : List Dg} {vt vd vm : Value}
theorem RdV.lt (h : RdV w0 B tv L W nx T D vt vd vm) : B < W.heap.size := (Array.getElem?_eq_some_iff.1 h.blk).1
theorem RdV.text (h : RdV w0 B tv L W nx T D vt vd vm) : Sl .i32 W tv L := h.sl.below (by rw [h.hB]; exact h.bel)
theorem RdV.keep {W' : World} (h : RdV w0 B tv L W nx T D vt vd vm) (hb : Below W.heap.size W W') : RdV w0 B tv L W' nx T D vt vd vm := by
  refine ⟨h.hB, h.sl, h.bel.trans (hb.mono (Nat.le_of_lt h.lt)), h.blk.below hb, h.tk.keep hb, h.dg.keep hb, ?_⟩
  rcases h.mp with h0 | ⟨M, h1, h2, h3⟩
  · exact .inl h0
  · exact .inr ⟨M, h1, h2, h3.keep hb⟩
theorem nms_set {W : World} {M : Nat} (h : Nms W M) {a : Addr} (ha : a.block ≠ M) (u : Value) : Nms (W.setCell a u) M := World.ownsMap.setCell h (fun e => ha e.symm) u
theorem nms_row {W : World} {M : Nat} (h : Nms W M) {α : Type} {e n : Nat} {f : α → List Value} {base : Nat} {x : Value} {l : List α} (ho : FOwn e n f base W x l) : some M ≠ x.ownBlock := by
  intro hx
  obtain ⟨es, clock, hb, -⟩ := h
  obtain ⟨-, cur, hc⟩ := ho.ty hx.symm
  rw [hb] at hc
  cases hc
/-- One cell of the reader is written. -/
theorem RdV.set (h : RdV w0 B tv L W nx T D vt vd vm) (j : Nat) (u : Value) {nx' : Int} {vt' vd' vm' : Value} (hl : [tv, .int .i64 nx, vt, vd, vm].set j u = [tv, .int .i64 nx', vt', vd', vm']) {T' : List Tok} {D' : List Dg} (ht : TOwn (B + 1) W vt' T') (hd : DOwn (B + 1) W vd' D') (hm : vm' = .map none ∨ ∃ M, vm' = .map (some M) ∧ B < M ∧ Nms W M) :
    RdV w0 B tv L (W.setCell ⟨B, j, none⟩ u) nx' T' D' vt' vd' vm' := by
  refine ⟨h.hB, h.sl, h.bel.setCell (Nat.le_refl _) _, hl ▸ h.blk.set j u, ownsRow_setCell_below ht (by simp) u, ownsRow_setCell_below hd (by simp) u, ?_⟩
  rcases hm with h0 | ⟨M, h1, h2, h3⟩
  · exact .inl h0
  · exact .inr ⟨M, h1, h2, nms_set h3 (by simp only; omega) u⟩
theorem RdV.next (h : RdV w0 B tv L W nx T D vt vd vm) (nx' : Int) : RdV w0 B tv L (W.setCell ⟨B, 1, none⟩ (.int .i64 nx')) nx' T D vt vd vm :=
  h.set 1 (.int .i64 nx') rfl h.tk h.dg h.mp
theorem RdV.names (h : RdV w0 B tv L W nx T D vt vd vm) {M : Nat} (hM : B < M) (hm : Nms W M) : RdV w0 B tv L (W.setCell ⟨B, 4, none⟩ (.map (some M))) nx T D vt vd (.map (some M)) :=
  h.set 4 (.map (some M)) rfl h.tk h.dg (.inr ⟨M, rfl, hM, hm⟩)
/-- A token more. -/
theorem RdV.say (h : RdV w0 B tv L W nx T D vt vd vm) (k r : Int) (hT : T.length ≤ 500000) :
    ∃ vt' w2, (appT #[vt, .slice (some ⟨W.heap.size, 0, none⟩) 1 1]).run Try.prog (W.alloc (.cells #[.int .i64 k, .int .i32 r] 46)) = .ok (.value vt') w2 ∧ w2.cell? ⟨B, 2, none⟩ = some vt ∧ w2.frozen? ⟨B, 2, none⟩ = false ∧
      RdV w0 B tv L (w2.setCell ⟨B, 2, none⟩ vt') nx (T ++ [(k, r)]) D vt' vd vm := by
  have hlt := h.lt
  have b1 := below_lit W (.cells #[.int .i64 k, .int .i32 r] 46)
  have h1 := h.keep b1
  have hlt1 := h1.lt
  obtain ⟨vt', w2, hrun, ho, hg, -⟩ := appT_own h1.tk (fs_lit tcell_len W 46 [(k, r)]) (by omega) (by simp; omega)
  have hne : vt.ownBlock ≠ some B := fun e => by have := (h1.tk.ty e).1; omega
  have blk2 : Blk w2 B 61 [tv, .int .i64 nx, vt, vd, vm] := (hg.block B hlt1 (fun e => hne e.symm)).trans h1.blk
  have hd2 : DOwn (B + 1) w2 vd D := FOwn.apart h1.dg hg (ty_apart h1.dg h1.tk (by decide))
  have hbel : Below B w0 w2 := h1.bel.grown hg (by omega) (fun j e => by have := (h1.tk.ty e).1; omega)
  refine ⟨vt', w2, hrun, blk2.cell 2, blk2.frozen (by simp), ?_⟩
  have hm2 : vm = .map none ∨ ∃ M, vm = .map (some M) ∧ B < M ∧ Nms w2 M := by
    rcases h1.mp with h0 | ⟨M, e1, e2, e3⟩
    · exact .inl h0
    · exact .inr ⟨M, e1, e2, World.ownsMap.kept e3 hg (nms_row e3 h1.tk)⟩
  refine ⟨h.hB, h.sl, hbel.setCell (Nat.le_refl _) _, blk2.set 2 vt', ownsRow_setCell_below ho (by simp) _, ownsRow_setCell_below hd2 (by simp) _, ?_⟩
  rcases hm2 with h0 | ⟨M, e1, e2, e3⟩
  · exact .inl h0
  · exact .inr ⟨M, e1, e2, nms_set e3 (by simp only; omega) _⟩
/-- Something more that is wrong. -/
theorem RdV.tell (h : RdV w0 B tv L W nx T D vt vd vm) (k r : Int) (hD : D.length ≤ 500000) :
    ∃ vd' w2, (appDg #[vd, .slice (some ⟨W.heap.size, 0, none⟩) 1 1]).run Try.prog (W.alloc (.cells #[.int .i64 k, .int .i64 0, .int .i64 r] 50)) = .ok (.value vd') w2 ∧ w2.cell? ⟨B, 3, none⟩ = some vd ∧ w2.frozen? ⟨B, 3, none⟩ = false ∧
      RdV w0 B tv L (w2.setCell ⟨B, 3, none⟩ vd') nx T (D ++ [(k, 0, r)]) vt vd' vm := by
  have hlt := h.lt
  have b1 := below_lit W (.cells #[.int .i64 k, .int .i64 0, .int .i64 r] 50)
  have h1 := h.keep b1
  have hlt1 := h1.lt
  obtain ⟨vd', w2, hrun, ho, hg, -⟩ := appDg_own h1.dg (fs_lit dcell_len W 50 [(k, 0, r)]) (by omega) (by simp; omega)
  have hne : vd.ownBlock ≠ some B := fun e => by have := (h1.dg.ty e).1; omega
  have blk2 : Blk w2 B 61 [tv, .int .i64 nx, vt, vd, vm] := (hg.block B hlt1 (fun e => hne e.symm)).trans h1.blk
  have ht2 : TOwn (B + 1) w2 vt T := FOwn.apart h1.tk hg (ty_apart h1.tk h1.dg (by decide))
  have hbel : Below B w0 w2 := h1.bel.grown hg (by omega) (fun j e => by have := (h1.dg.ty e).1; omega)
  refine ⟨vd', w2, hrun, blk2.cell 3, blk2.frozen (by simp), ?_⟩
  have hm2 : vm = .map none ∨ ∃ M, vm = .map (some M) ∧ B < M ∧ Nms w2 M := by
    rcases h1.mp with h0 | ⟨M, e1, e2, e3⟩
    · exact .inl h0
    · exact .inr ⟨M, e1, e2, World.ownsMap.kept e3 hg (nms_row e3 h1.dg)⟩
  refine ⟨h.hB, h.sl, hbel.setCell (Nat.le_refl _) _, blk2.set 3 vd', ownsRow_setCell_below ht2 (by simp) _, ownsRow_setCell_below ho (by simp) _, ?_⟩
  rcases hm2 with h0 | ⟨M, e1, e2, e3⟩
  · exact .inl h0
  · exact .inr ⟨M, e1, e2, nms_set e3 (by simp only; omega) _⟩
end

def RdEnd (w0 : World) (B : Nat) (tv : Value) (L : List Int) (nx : Int) (T : List Tok) (D : List Dg) (v : Value) (e : Ending) (w' : World) : Prop := e = .returned v ∧ Rd w0 B tv L w' nx T D

attribute [local go_sem ↓ high] builtin_appT builtin_appDg
set_option maxRecDepth 100000 in
set_option maxHeartbeats 1000000 in
theorem char_any {w0 : World} {B : Nat} {tv : Value} {L : List Int} {nx : Int} {T : List Tok} {D : List Dg} (c : Int) (w : World) (h : Rd w0 B tv L w nx T D) (hT : T.length ≤ 500000) :
    Calls Try.prog 30 #[.pointer (some ⟨B, 0, none⟩), .int .i32 c] w (RdEnd w0 B tv L nx (T ++ [(1, c)]) D (.tuple #[])) := by
  obtain ⟨vt, vd, vm, hv⟩ := h
  have c2 := hv.blk.cell 2
  have c2' : w.cell? ⟨B, 2, none⟩ = some vt := c2
  obtain ⟨vt', w2, k2, q2, f2, r2⟩ := hv.say 1 c hT
  obtain ⟨a1, n1, rfl⟩ := (FOwn.sl tcell_len hv.tk).len
  obtain ⟨a2, n2, rfl⟩ := (FOwn.sl tcell_len r2.tk).len
  obtain ⟨m, hm⟩ : ∃ m, (T ++ [(1, c)]).length = m := ⟨_, rfl⟩
  rw [hm] at k2 r2
  clear hm
  have R2 := Lib.hid r2
  clear c2 hv r2
  go_enter Try.func30, Try.ntmps30
  go_wp2_with fail
  go_end0
  exact ⟨rfl, _, _, _, R2.out⟩
set_option maxRecDepth 100000 in
set_option maxHeartbeats 1000000 in
theorem wrong_any {w0 : World} {B : Nat} {tv : Value} {L : List Int} {nx : Int} {T : List Tok} {D : List Dg} (k : Int) (p : Nat) (w : World) (h : Rd w0 B tv L w nx T D) (hD : D.length ≤ 500000) (hp : p ≤ 500000) :
    Calls Try.prog 29 #[.pointer (some ⟨B, 0, none⟩), .int .i64 k, .int .i64 (p : Int)] w (RdEnd w0 B tv L nx T (D ++ dgs p [k]) (.tuple #[])) := by
  obtain ⟨vt, vd, vm, hv⟩ := h
  have c2 := hv.blk.cell 3
  have c2' : w.cell? ⟨B, 3, none⟩ = some vd := c2
  obtain ⟨vt', w2, k2, q2, f2, r2⟩ := hv.tell k ((p : Int) + 1) hD
  obtain ⟨a1, n1, rfl⟩ := (FOwn.sl dcell_len hv.dg).len
  obtain ⟨a2, n2, rfl⟩ := (FOwn.sl dcell_len r2.dg).len
  obtain ⟨m, hm⟩ : ∃ m, (D ++ [(k, 0, (p : Int) + 1)]).length = m := ⟨_, rfl⟩
  rw [hm] at k2 r2
  clear hm
  have R2 := Lib.hid r2
  clear c2 hv r2
  go_enter Try.func29, Try.ntmps29
  go_wp2_with fail
  go_end0
  exact ⟨rfl, _, _, _, R2.out⟩
end Go.Proofs.Ytgfmpndojjopnaa
