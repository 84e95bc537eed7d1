/- A phrase in memory: its pieces, and what is wrong; Callable, sticking, spoken, sign. Callable, sticking, spoken; sign. Texts: '+' of them, rows of them, whether two rows of them are one. Texts cut at a byte, words, looks, columns: what stands while a loop goes on. -/
import Derived.Test.YtpcbbhfbldchlaaEa
import Derived.Test.YtpcbbhfbldchlaaGd
import Derived.Test.YtpcbbhfbldchlaaC0
import Derived.Test.YtpcbbhfbldchlaaS3
import Derived.Test.YtpcbbhfbldchlaaBd
import Derived.Deep.RegionHeld3
import Derived.Lib.Hide
import Derived.Lib.Strings
import Derived.Laws.Strings3
import Derived.Deep.QuietTactic
import Derived.BigQuiet
import Derived.Test.YtpcbbhfbldchlaaQ2
set_option linter.unusedVariables false
set_option linter.unusedSimpArgs false
namespace Go.Proofs.Ytpcbbhfbldchlaa
open Go.RowKit
abbrev PcV := PV × Bool × Bool
def pccell (x : PcV) : List Value := [pv x.1, .bool x.2.1, .bool x.2.2]
theorem pccell_len (x : PcV) : (pccell x).length = 3 := rfl
theorem pccell_one (x : PcV) : ∀ u ∈ pccell x, u.oneCell' = true := fun u hu => by
  simp only [pccell, List.mem_cons, List.not_mem_nil, or_false] at hu
  rcases hu with rfl | rfl | rfl <;> rfl
theorem infoPc : (Try.prog.info? 25).map (fun i => (i.zero, i.size, i.bytes)) = some (some (.agg #[.slice none 0 0, .bool false, .bool false]), 3, 32) := by kernel_rfl
abbrev PcOwn (base : Nat) (w : World) (x : Value) (l : List PcV) : Prop := FOwn 25 3 pccell base w x l
noncomputable def appPc (args : Array Value) : Sem Next := do pure (.value (← Builtin.append_ #[22, 22] 22 args))
theorem builtin_appPc (cs : Array Bool) (args : Array Value) : builtin .append #[22, 22] 22 cs args = appPc args := rfl
theorem appPc_own {base : Nat} {W : World} {x u : Value} {l m : List PcV} (h : PcOwn base W x l) (hu : Fs 3 pccell W u m) (hb : base ≤ W.heap.size) (hd : l.length + m.length ≤ 1000000) :
    ∃ x' w', (appPc #[x, u]).run Try.prog W = .ok (.value x') w' ∧ PcOwn base w' x' (l ++ m) ∧ W.grownBy w' x.ownBlock ∧ (x'.ownBlock = x.ownBlock ∨ x'.ownBlock = some W.heap.size) := by
  obtain ⟨i0, hi, hz0, hz1, hz2⟩ := info_parts infoPc
  obtain ⟨x', w', hr, r⟩ := fapp pccell_len pccell_one (by decide) Try.underlying22 hi hz0 hz1 hz2 rfl (by decide) h hu hb hd
  refine ⟨x', w', ?_, r⟩
  unfold appPc
  simp only [Sem.run_bind, Sem.run_pure, Result.andThen_ok, hr]
theorem appPc_raw {W W' : World} {args : Array Value} {v : Value} (h : (appPc args).run Try.prog W = .ok (.value v) W') : (Builtin.append_ #[22, 22] 22 args).run Try.prog W = .ok v W' := by
  unfold appPc at h
  simp only [Sem.run_bind, Sem.run_pure] at h
  cases k : (Builtin.append_ #[22, 22] 22 args).run Try.prog W with
  | ok v' w' => rw [k] at h; simp only [Result.andThen_ok] at h; injection h with h1 h2; injection h1 with h1; rw [h1, h2]
  | _ => rw [k] at h; simp [Result.andThen] at h
/-- What Line tells to be wrong: without a line. -/
def dgsW (l : List (Int × Int)) : List Dg := l.map (fun q => (q.1, 0, q.2))
/-- Pieces as they lie, each with its glyphs in a row of the call's own. -/
def PcsIs (base : Nat) (w : World) (P : List PcV) (l : List Pc) : Prop :=
  P.length = l.length ∧ ∀ (i : Nat) x p, P[i]? = some x → l[i]? = some p → GOwn base w (pv x.1) p.g ∧ x.2.1 = p.l ∧ x.2.2 = p.r
theorem PcsIs.nil (base : Nat) (w : World) : PcsIs base w [] [] := ⟨rfl, fun i x p h => by simp at h⟩
/-- Some blocks turn: none of them of glyphs. -/
theorem PcsIs.exc {base : Nat} {w F : World} {P : List PcV} {l : List Pc} (h : PcsIs base w P l) {X : Nat → Prop} (hE : Exc X w F) (hX : ∀ k, k < w.heap.size → X k → ∃ cur e fz, w.heap[k]? = some (.cells cur e fz) ∧ e ≠ 27) : PcsIs base F P l := by
  refine ⟨h.1, fun i x p h1 h2 => ?_⟩
  obtain ⟨q1, q2⟩ := h.2 i x p h1 h2
  refine ⟨q1.kp (fun k e => hE.block k (q1.ltb e) (fun z => ?_)), q2⟩
  obtain ⟨cur, e1, fz, g1, g2⟩ := hX k (q1.ltb e) z
  obtain ⟨-, cur2, g3⟩ := q1.ty e
  rw [g1] at g3
  injection g3 with g3
  injection g3 with _ g4 _
  exact g2 g4
theorem PcsIs.keep {base : Nat} {w F : World} {P : List PcV} {l : List Pc} (h : PcsIs base w P l) (hb : Below w.heap.size w F) : PcsIs base F P l :=
  h.exc (X := fun _ => False) (Exc.of hb) (fun k _ q => q.elim)
theorem PcsIs.push {base : Nat} {w : World} {P : List PcV} {l : List Pc} (h : PcsIs base w P l) {x : PcV} {p : Pc} (hx : GOwn base w (pv x.1) p.g) (hl : x.2.1 = p.l) (hr : x.2.2 = p.r) : PcsIs base w (P ++ [x]) (l ++ [p]) := by
  refine ⟨by simp [h.1], fun i y q h1 h2 => ?_⟩
  by_cases hi : i < P.length
  · rw [List.getElem?_append_left hi] at h1
    rw [List.getElem?_append_left (by rw [← h.1]; exact hi)] at h2
    exact h.2 i y q h1 h2
  · have e : i - P.length = 0 := by
      have := (List.getElem?_eq_some_iff.1 h1).1
      simp at this
      omega
    rw [List.getElem?_append_right (by omega), e] at h1
    rw [List.getElem?_append_right (by rw [← h.1]; omega), ← h.1, e] at h2
    simp at h1 h2
    subst h1 h2
    exact ⟨hx, hl, hr⟩
/-- A phrase's box. -/
structure PhV (base : Nat) (w : World) (B : Nat) (s : Ph) (pr dv : Value) (P : List PcV) : Prop where
  lo : base ≤ B
  box : Blk w B 41 [.string ⟨s.name.toArray⟩, .int .i64 (s.op : Int), pr, dv]
  pc : PcOwn base w pr P
  is : PcsIs base w P s.p
  dg : DOwn base w dv (dgsW s.d)
def PhM (base : Nat) (w : World) (B : Nat) (s : Ph) : Prop := ∃ pr dv P, PhV base w B s pr dv P
section
variable {base : Nat} {w W : World} {B : Nat} {s : Ph} {pr dv : Value} {P : List PcV}
theorem PhV.keep (h : PhV base w B s pr dv P) (hb : Below w.heap.size w W) : PhV base W B s pr dv P := ⟨h.lo, h.box.below hb, h.pc.keep hb, h.is.keep hb, h.dg.keep hb⟩
theorem PhV.bs (h : PhV base w B s pr dv P) : base ≤ w.heap.size := Nat.le_trans h.lo (Nat.le_of_lt h.box.lt)
theorem PhV.len (h : PhV base w B s pr dv P) : (∃ a c, pr = .slice a s.p.length c) ∧ ∃ a c, dv = .slice a s.d.length c := by
  refine ⟨by rw [← h.is.1]; exact (FOwn.sl pccell_len h.pc).len, ?_⟩
  have := (FOwn.sl edcell_len h.dg).len
  simpa [dgsW] using this
theorem box_ty {w : World} {B : Nat} {t : TypeId} {L : List Value} (h : Blk w B t L) : w.heap[B]? = some (.cells L.toArray t (0, 0)) := h
theorem own_ne {α : Type} {e n : Nat} {f : α → List Value} {b0 : Nat} {w : World} {x : Value} {l : List α} (ho : FOwn e n f b0 w x l) {B : Nat} {t : TypeId} {L : List Value} (hb : Blk w B t L) (he : e ≠ t) {k : Nat} (hk : x.ownBlock = some k) : k ≠ B := fun q => by
  obtain ⟨-, cur, g⟩ := ho.ty hk
  rw [q, box_ty hb] at g
  injection g with g
  injection g with _ g _
  exact he g.symm
/-- One cell of the box. -/
theorem PhV.set (h : PhV base w B s pr dv P) (j : Nat) (u : Value) {s' : Ph} (hl : [Value.string ⟨s.name.toArray⟩, .int .i64 (s.op : Int), pr, dv].set j u = [.string ⟨s'.name.toArray⟩, .int .i64 (s'.op : Int), pr, dv]) (hp : s'.p = s.p) (hd : s'.d = s.d) : PhV base (w.setCell ⟨B, j, none⟩ u) B s' pr dv P ∧ Below base w (w.setCell ⟨B, j, none⟩ u) := by
  have hE : Exc (fun k => k = B) w (w.setCell ⟨B, j, none⟩ u) := (Exc.refl _ w).set j u (fun _ => rfl)
  have h1 : PcOwn base (w.setCell ⟨B, j, none⟩ u) pr P := h.pc.kp (fun k e => hE.block k (h.pc.ltb e) (own_ne h.pc h.box (by decide) e))
  have h2 : DOwn base (w.setCell ⟨B, j, none⟩ u) dv (dgsW s.d) := h.dg.kp (fun k e => hE.block k (h.dg.ltb e) (own_ne h.dg h.box (by decide) e))
  have h3 : PcsIs base (w.setCell ⟨B, j, none⟩ u) P s.p := h.is.exc hE (fun k _ q => q ▸ ⟨_, _, _, box_ty h.box, by decide⟩)
  exact ⟨⟨h.lo, hl ▸ h.box.set j u, h1, hp.symm ▸ h3, hd.symm ▸ h2⟩, hE.below h.bs (fun k hk q => by have := h.lo; omega)⟩
theorem PhV.neP (h : PhV base w B s pr dv P) : pr.ownBlock ≠ some B := fun e => own_ne h.pc h.box (by decide) e rfl
theorem PhV.neD (h : PhV base w B s pr dv P) : dv.ownBlock ≠ some B := fun e => own_ne h.dg h.box (by decide) e rfl
/-- A piece more. -/
theorem PhV.piece (h : PhV base w B s pr dv P) (hb : Below w.heap.size w W) {x : PcV} {p : Pc} (hx : GOwn base W (pv x.1) p.g) (hl : x.2.1 = p.l) (hr : x.2.2 = p.r) {u : Value} (hu : Fs 3 pccell W u [x]) (hn : s.p.length ≤ 500000) :
    ∃ a c a' c' w2, pr = .slice a s.p.length c ∧ (appPc #[pr, u]).run Try.prog W = .ok (.value (.slice a' (s.p.length + 1) c')) w2 ∧ W.cell? ⟨B, 2, none⟩ = some pr ∧ w2.cell? ⟨B, 2, none⟩ = some pr ∧ w2.frozen? ⟨B, 2, none⟩ = false ∧ PhM base (w2.setCell ⟨B, 2, none⟩ (.slice a' (s.p.length + 1) c')) B { s with p := s.p ++ [p] } ∧ Below base w (w2.setCell ⟨B, 2, none⟩ (.slice a' (s.p.length + 1) c')) ∧ Exc (fun k => k < w.heap.size) W (w2.setCell ⟨B, 2, none⟩ (.slice a' (s.p.length + 1) c')) := by
  have hW := h.keep hb
  have hs := hb.size
  obtain ⟨pr', w2, hrun, ho, hg, -⟩ := appPc_own hW.pc hu hW.bs (by rw [hW.is.1]; simp; omega)
  obtain ⟨⟨a, c, e⟩, -⟩ := h.len
  obtain ⟨a', c', e'⟩ := (FOwn.sl pccell_len ho).len
  have el : (P ++ [x]).length = s.p.length + 1 := by simp [hW.is.1]
  rw [el] at e'
  subst e'
  have hE2 : Exc (fun k => pr.ownBlock = some k) W w2 := ⟨hg.os, hg.tape, hg.output, hg.size, fun k hk hx => hg.block k hk (fun e => hx e.symm)⟩
  have box2 : Blk w2 B 41 [.string ⟨s.name.toArray⟩, .int .i64 (s.op : Int), pr, dv] := hE2.blk hW.box hW.neP
  have hd2 : DOwn base w2 dv (dgsW s.d) := FOwn.apart hW.dg hg (ty_apart hW.dg hW.pc (by decide))
  have hi2 : PcsIs base w2 (P ++ [x]) (s.p ++ [p]) := (hW.is.push hx hl hr).exc hE2 (fun k _ q => by
    obtain ⟨-, cur, g⟩ := hW.pc.ty q
    exact ⟨cur, _, _, g, by decide⟩)
  have hE3 : Exc (fun k => k = B) w2 (w2.setCell ⟨B, 2, none⟩ (.slice a' (s.p.length + 1) c')) := (Exc.refl _ w2).set 2 _ (fun _ => rfl)
  refine ⟨a, c, a', c', w2, e, hrun, hW.box.cell 2, box2.cell 2, box2.frozen (by simp), ⟨_, dv, P ++ [x], ⟨h.lo, box2.set 2 _, ho.kp (fun k e => hE3.block k (ho.ltb e) (fun q => ?_)), hi2.exc hE3 (fun k _ q => q ▸ ⟨_, _, _, box_ty box2, by decide⟩), hd2.kp (fun k e => hE3.block k (hd2.ltb e) (fun q => ?_))⟩⟩, ?_, (hE2.mono (Y := fun k => k < w.heap.size) (fun k _ q => h.pc.ltb q)).trans (hE3.mono (Y := fun k => k < w.heap.size) (fun k _ q => by rw [q]; exact h.box.lt)) (fun _ _ q => q)⟩
  · exact own_ne ho box2 (by decide) e q
  · exact own_ne hd2 box2 (by decide) e q
  · have hlo := h.lo
    refine ((hb.mono h.bs).trans (hE2.below hW.bs (fun k hk q => by have := (hW.pc.ty q).1; omega))).trans (hE3.below (Nat.le_trans hW.bs hg.size) (fun k hk q => by omega))
/-- More that is wrong. -/
theorem PhV.more (h : PhV base w B s pr dv P) (hb : Below w.heap.size w W) {l : List (Int × Int)} {u : Value} (hu : Fs 3 edcell W u (dgsW l)) (hn : s.d.length + l.length ≤ 1000000) :
    ∃ a c a' c' w2, dv = .slice a s.d.length c ∧ (appDg #[dv, u]).run Try.prog W = .ok (.value (.slice a' (s.d ++ l).length c')) w2 ∧ W.cell? ⟨B, 3, none⟩ = some dv ∧ w2.cell? ⟨B, 3, none⟩ = some dv ∧ w2.frozen? ⟨B, 3, none⟩ = false ∧ PhM base (w2.setCell ⟨B, 3, none⟩ (.slice a' (s.d ++ l).length c')) B { s with d := s.d ++ l } ∧ Below base w (w2.setCell ⟨B, 3, none⟩ (.slice a' (s.d ++ l).length c')) ∧ Exc (fun k => k < w.heap.size) W (w2.setCell ⟨B, 3, none⟩ (.slice a' (s.d ++ l).length c')) := by
  have hW := h.keep hb
  have hs := hb.size
  have hl1 : (dgsW s.d).length = s.d.length := by simp [dgsW]
  have hl2 : (dgsW l).length = l.length := by simp [dgsW]
  have ha : dgsW s.d ++ dgsW l = dgsW (s.d ++ l) := by simp [dgsW]
  obtain ⟨dv', w2, hrun, ho, hg, -⟩ := appDg_own hW.dg hu hW.bs (by omega)
  rw [ha] at ho
  obtain ⟨-, a, c, e⟩ := h.len
  obtain ⟨a', c', e'⟩ := (FOwn.sl edcell_len ho).len
  have el : (dgsW (s.d ++ l)).length = (s.d ++ l).length := by simp [dgsW]
  rw [el] at e'
  subst e'
  have hE2 : Exc (fun k => dv.ownBlock = some k) W w2 := ⟨hg.os, hg.tape, hg.output, hg.size, fun k hk hx => hg.block k hk (fun e => hx e.symm)⟩
  have box2 : Blk w2 B 41 [.string ⟨s.name.toArray⟩, .int .i64 (s.op : Int), pr, dv] := hE2.blk hW.box hW.neD
  have hp2 : PcOwn base w2 pr P := FOwn.apart hW.pc hg (ty_apart hW.pc hW.dg (by decide))
  have hi2 : PcsIs base w2 P s.p := hW.is.exc hE2 (fun k _ q => by
    obtain ⟨-, cur, g⟩ := hW.dg.ty q
    exact ⟨cur, _, _, g, by decide⟩)
  have hE3 : Exc (fun k => k = B) w2 (w2.setCell ⟨B, 3, none⟩ (.slice a' (s.d ++ l).length c')) := (Exc.refl _ w2).set 3 _ (fun _ => rfl)
  refine ⟨a, c, a', c', w2, e, hrun, hW.box.cell 3, box2.cell 3, box2.frozen (by simp), ⟨pr, _, P, ⟨h.lo, box2.set 3 _, hp2.kp (fun k e => hE3.block k (hp2.ltb e) (fun q => ?_)), hi2.exc hE3 (fun k _ q => q ▸ ⟨_, _, _, box_ty box2, by decide⟩), ho.kp (fun k e => hE3.block k (ho.ltb e) (fun q => ?_))⟩⟩, ?_, (hE2.mono (Y := fun k => k < w.heap.size) (fun k _ q => h.dg.ltb q)).trans (hE3.mono (Y := fun k => k < w.heap.size) (fun k _ q => by rw [q]; exact h.box.lt)) (fun _ _ q => q)⟩
  · exact own_ne hp2 box2 (by decide) e q
  · exact own_ne ho box2 (by decide) e q
  · have hlo := h.lo
    refine ((hb.mono h.bs).trans (hE2.below hW.bs (fun k hk q => by have := (hW.dg.ty q).1; omega))).trans (hE3.below (Nat.le_trans hW.bs hg.size) (fun k hk q => by omega))
end
end Go.Proofs.Ytpcbbhfbldchlaa
namespace Go.Proofs.Ytpcbbhfbldchlaa
open Go.RowKit
set_option maxHeartbeats 1000000 in
theorem dcall_any (s : Txt) (w : World) :
    Calls Try.prog 11 #[.string ⟨s.toArray⟩] w fun e w' => e = .returned (.bool (callW s)) ∧ w = w' := by
  by_cases c : s ∈ [cAr, cCm, cEm, cFl, cLi, cNm, cNo, cOp, cSy, cXr]
  · simp only [List.mem_cons, List.not_mem_nil, or_false] at c
    rcases c with rfl | rfl | rfl | rfl | rfl | rfl | rfl | rfl | rfl | rfl
    all_goals
      go_enter Try.func11, Try.ntmps11
      go_wp2_with fail
      go_ret
      exact ⟨rfl, rfl⟩
  · simp only [List.mem_cons, List.not_mem_nil, or_false, not_or] at c
    obtain ⟨c1, c2, c3, c4, c5, c6, c7, c8, c9, c10⟩ := c
    have e : callW s = false := by
      unfold callW
      rw [beq_no c1, beq_no c2, beq_no c3, beq_no c4, beq_no c5, beq_no c6, beq_no c7, beq_no c8, beq_no c9, beq_no c10]
      rfl
    rw [e]
    have d1 := beq_no c1
    have d2 := beq_no c2
    have d3 := beq_no c3
    have d4 := beq_no c4
    have d5 := beq_no c5
    have d6 := beq_no c6
    have d7 := beq_no c7
    have d8 := beq_no c8
    have d9 := beq_no c9
    have d10 := beq_no c10
    simp only [cAr, cCm, cEm, cFl, cLi, cNm, cNo, cOp, cSy, cXr] at d1 d2 d3 d4 d5 d6 d7 d8 d9 d10
    clear c1 c2 c3 c4 c5 c6 c7 c8 c9 c10 e
    go_enter Try.func11, Try.ntmps11
    go_wp2_with fail
    go_ret
    exact ⟨rfl, rfl⟩
set_option maxHeartbeats 1000000 in
theorem stick_any (s : Txt) (w : World) :
    Calls Try.prog 19 #[.string ⟨s.toArray⟩] w fun e w' => e = .returned (.tuple #[.bool (leftW s), .bool (rightW s)]) ∧ w = w' := by
  by_cases c : s ∈ ([[46], [44], [58], [59], [41], [93], [63], [33], [40], [91]] : List Txt)
  · simp only [List.mem_cons, List.not_mem_nil, or_false] at c
    rcases c with rfl | rfl | rfl | rfl | rfl | rfl | rfl | rfl | rfl | rfl
    all_goals
      go_enter Try.func19, Try.ntmps19
      go_wp2_with fail
      go_ret2
      exact ⟨rfl, rfl⟩
  · simp only [List.mem_cons, List.not_mem_nil, or_false, not_or] at c
    obtain ⟨c1, c2, c3, c4, c5, c6, c7, c8, c9, c10⟩ := c
    have d1 := beq_no c1
    have d2 := beq_no c2
    have d3 := beq_no c3
    have d4 := beq_no c4
    have d5 := beq_no c5
    have d6 := beq_no c6
    have d7 := beq_no c7
    have d8 := beq_no c8
    have d9 := beq_no c9
    have d10 := beq_no c10
    have e1 : leftW s = false := by
      unfold leftW
      rw [d1, d2, d3, d4, d5, d6, d7, d8]
      rfl
    have e2 : rightW s = false := by
      unfold rightW
      rw [d9, d10]
      rfl
    rw [e1, e2]
    clear c1 c2 c3 c4 c5 c6 c7 c8 c9 c10 e1 e2
    go_enter Try.func19, Try.ntmps19
    go_wp2_with fail
    go_ret2
    exact ⟨rfl, rfl⟩
set_option maxHeartbeats 1000000 in
theorem dspoken_any (s : Txt) (w : World) :
    Calls Try.prog 16 #[.string ⟨s.toArray⟩] w fun e w' => e = .returned (.bool (!signW s)) ∧ w = w' := by
  have HS := Lib.hid (stick_any s w)
  have e : signW s = (leftW s || rightW s) := rfl
  rw [e]
  obtain ⟨l, hl⟩ : ∃ l, leftW s = l := ⟨_, rfl⟩
  obtain ⟨r, hr⟩ : ∃ l, rightW s = l := ⟨_, rfl⟩
  rw [hl, hr] at HS ⊢
  clear e hl hr
  cases l <;> cases r
  all_goals
    go_enter Try.func16, Try.ntmps16
    go_wp2_with fail
    refine HS.out.mono ?_
    rintro e w2 ⟨rfl, rfl⟩
    go_wp2_with fail
    go_ret
    exact ⟨rfl, rfl⟩
theorem wp_app_run {P : Program} {o : Oper} {a : Act} {w : World} {K : Act → World → Prop} {Q : Exit → Act → World → Prop}
    (d s : Operand) (t t' : TypeId) (hop : o.op = Op.call { callee := Callee.builtin Builtin.append, args := #[d, s], argTypes := #[t, t'] })
    (vd vs : Value) (hd : a.eval d = vd) (hs : a.eval s = vs) {v' : Value} {w' : World} (hrun : (Builtin.append_ #[t, t'] o.type #[vd, vs]).run P w = .ok v' w') (hK : K (a.put o.dst v') w') : Oper.wp P o a w K Q := by
  unfold Oper.wp
  have hb : builtin .append #[t, t'] o.type = fun _ args => (do pure (.value (← Builtin.append_ #[t, t'] o.type args)) : Sem Next) := rfl
  simp [execOp, hop, resolve, invoke, hb, hd, hs, hrun, Result.andThen]
  exact hK
/-- Behind a method of a phrase. -/
def PhRet (base : Nat) (w : World) (B : Nat) (v : Value) (s' : Ph) (e : Ending) (w' : World) : Prop := e = .returned v ∧ PhM base w' B s' ∧ Below base w w'
end Go.Proofs.Ytpcbbhfbldchlaa
namespace Go.Proofs.Ytpcbbhfbldchlaa
open Go.RowKit
theorem arr_size (b : List UInt8) : (⟨b.toArray⟩ : ByteArray).size = b.length := by simp [Go.Lib.size_eq]
theorem cat_str (a c : List UInt8) : (⟨a.toArray⟩ : ByteArray) ++ ⟨c.toArray⟩ = ⟨(a ++ c).toArray⟩ := by
  apply ByteArray.ext
  simp
/-- '+' of texts, kept whole. -/
noncomputable def addS (a c : Value) : Sem Value := binOp .add 9 a c
theorem binop_addS (a c : Value) : binOp .add 9 a c = addS a c := rfl
theorem str_add (a c : List UInt8) (h : a.length + c.length ≤ 100000000) (W : World) : (addS (.string ⟨a.toArray⟩) (.string ⟨c.toArray⟩)).run Try.prog W = .ok (.string ⟨(a ++ c).toArray⟩) W := by
  unfold addS
  have ha := arr_size a
  have hc := arr_size c
  rw [binOp_string_add]
  simp [Op.stringOp, cat_str, ha, hc, maxLen]
  omega
theorem scell_one (b : List UInt8) : ∀ u ∈ scell b, u.oneCell' = true := by
  intro u hu
  simp [scell] at hu
  rw [hu]; rfl
abbrev Ss (w : World) (v : Value) (l : List (List UInt8)) : Prop := Fs 1 scell w v l
abbrev SOwn (base : Nat) (W : World) (x : Value) (l : List (List UInt8)) : Prop := FOwn 9 1 scell base W x l
theorem infoS : (Try.prog.info? 9).map (fun i => (i.zero, i.size, i.bytes)) = some (some (.string ⟨#[]⟩), 1, 16) := by kernel_rfl
noncomputable def appS (args : Array Value) : Sem Next := do pure (.value (← Builtin.append_ #[32, 32] 32 args))
theorem builtin_appS (cs : Array Bool) (args : Array Value) : builtin .append #[32, 32] 32 cs args = appS args := rfl
theorem appS_own {base : Nat} {W : World} {x u : Value} {l m : List (List UInt8)} (h : SOwn base W x l) (hu : Ss W u m) (hb : base ≤ W.heap.size) (hd : l.length + m.length ≤ 1000000) :
    ∃ x' w', (appS #[x, u]).run Try.prog W = .ok (.value x') w' ∧ SOwn base w' x' (l ++ m) ∧ W.grownBy w' x.ownBlock ∧ (x'.ownBlock = x.ownBlock ∨ x'.ownBlock = some W.heap.size) := by
  obtain ⟨i0, hi, hz0, hz1, hz2⟩ := info_parts infoS
  obtain ⟨x', w', hr, r⟩ := fapp scell_len scell_one (by decide) Try.underlying32 hi hz0 hz1 hz2 rfl (by decide) h hu hb hd
  refine ⟨x', w', ?_, r⟩
  unfold appS
  simp only [Sem.run_bind, Sem.run_pure, Result.andThen_ok, hr]
theorem Ss.at {w : World} {a : Option Addr} {k cap : Nat} {l : List (List UInt8)} (h : Ss w (.slice a k cap) l) {j : Nat} {x : List UInt8} (hj : l[j]? = some x) :
    ∃ b off, a = some ⟨b, off, none⟩ ∧ w.cell? ⟨b, off + j, none⟩ = some (.string ⟨x.toArray⟩) := by
  obtain ⟨a', cap', hv, _, hr⟩ := h
  injection hv with h1 h2 h3
  subst h1
  obtain ⟨b, off, rfl, h0⟩ := hr j x hj
  have := h0 0 _ rfl
  rw [Nat.mul_one] at this
  exact ⟨b, off, rfl, this⟩
end Go.Proofs.Ytpcbbhfbldchlaa
namespace Go.Proofs.Ytpcbbhfbldchlaa
open Go.RowKit
theorem wrap_any9 {q : Int} (h0 : -1000000000 ≤ q) (h1 : q ≤ 1000000000) : IntKind.i64.wrap q = q := by
  simp [IntKind.wrap, IntKind.bits, IntKind.signed]
  omega
theorem take_one9 {α : Type} {b : List α} {j : Nat} {y : α} (hy : b[j]? = some y) : b.take (j + 1) = b.take j ++ [y] := by
  rw [List.take_add_one, hy]
  rfl
section
variable {b : Txt} {c : UInt8} {j : Nat} {acc : List Txt} {x : Txt}
end
section
variable {b : Txt} {j : Nat} {acc : List Txt} {x : Txt}
end
section
variable {L : List Txt} {j : Nat} {bx al : Bool} {w : Txt}
end
end Go.Proofs.Ytpcbbhfbldchlaa
