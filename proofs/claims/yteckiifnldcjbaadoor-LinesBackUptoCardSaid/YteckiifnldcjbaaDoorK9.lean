/- The builder in a reader's block: it is written, told, emptied. -/
import Derived.Test.YteckiifnldcjbaaDoorK8
namespace Go.Proofs.YteckiifnldcjbaaDoor
open Go.RowKit

def bcell (c : UInt8) : List Value := [.int .u8 (c.toNat : Int)]
theorem bcell_len (c : UInt8) : (bcell c).length = 1 := rfl
abbrev BOwn (base : Nat) (W : World) (x : Value) (l : List UInt8) : Prop := FOwn 5 1 bcell base W x l
theorem flat_bytes : ∀ l : List UInt8, flatV bcell l = Lib.byteCells l
  | [] => rfl
  | c :: t => by
    rw [flatV_cons, flat_bytes t]
    rfl

theorem SameE.trans {e base : Nat} {a b c : World} (h : SameE e base a b) (k : SameE e base b c) : SameE e base a c := fun g cur h1 h2 =>
  (k g cur h1 ((h g cur h1 h2).trans h2)).trans (h g cur h1 h2)
/-- A reader in block B: the number of its line, that of the first one put together, what it has told so far. -/
structure RS0 (base B : Nat) (W : World) (ln fi : Int) (va vb vr vd : Value) (rows : List Row) (dg : List Dg) : Prop where
  lt : B < base
  sz : base ≤ W.heap.size
  blk : Blk W B 67 [.int .i64 ln, .int .i64 fi, va, vb, vr, vd]
  rw : RwOwn base W vr rows
  dg : DOwn base W vd dg
/-- .. and its builder. -/
structure RS (base B : Nat) (W : World) (ln fi : Int) (va vb vr vd : Value) (tx : List UInt8) (rows : List Row) (dg : List Dg) : Prop extends RS0 base B W ln fi va vb vr vd rows dg where
  ad : va = .pointer none ∨ va = .pointer (some ⟨B, 2, none⟩)
  bf : BOwn base W vb tx
  bn : tx = [] → vb = .slice none 0 0
section
variable {base B : Nat} {W W' : World} {ln fi : Int} {va vb vr vd : Value} {tx : List UInt8} {rows : List Row} {dg : List Dg}
theorem RS0.keep (h : RS0 base B W ln fi va vb vr vd rows dg) (hb : Below W.heap.size W W') : RS0 base B W' ln fi va vb vr vd rows dg :=
  ⟨h.lt, Nat.le_trans h.sz hb.size, h.blk.below hb, h.rw.keep hb, h.dg.keep hb⟩
theorem RS.keep (h : RS base B W ln fi va vb vr vd tx rows dg) (hb : Below W.heap.size W W') : RS base B W' ln fi va vb vr vd tx rows dg :=
  ⟨h.toRS0.keep hb, h.ad, h.bf.keep hb, h.bn⟩
/-- One of its own cells is written: what its rows hold stands. -/
theorem RS0.set (h : RS0 base B W ln fi va vb vr vd rows dg) (j : Nat) (u : Value) {ln' fi' : Int} {va' vb' : Value} (hl : [.int .i64 ln, .int .i64 fi, va, vb, vr, vd].set j u = [.int .i64 ln', .int .i64 fi', va', vb', vr, vd]) :
    RS0 base B (W.setCell ⟨B, j, none⟩ u) ln' fi' va' vb' vr vd rows dg :=
  ⟨h.lt, by rw [setCell_sz]; exact h.sz, hl ▸ h.blk.set j u, h.rw.held (SameE.low W h.lt j u) (SameE.low W h.lt j u), h.dg.held (SameE.low W h.lt j u)⟩
theorem RS.setNum (h : RS base B W ln fi va vb vr vd tx rows dg) (j : Nat) (u : Value) {ln' fi' : Int} (hl : [.int .i64 ln, .int .i64 fi, va, vb, vr, vd].set j u = [.int .i64 ln', .int .i64 fi', va, vb, vr, vd]) :
    RS base B (W.setCell ⟨B, j, none⟩ u) ln' fi' va vb vr vd tx rows dg :=
  ⟨h.toRS0.set j u hl, h.ad, h.bf.held (SameE.low W h.lt j u), h.bn⟩
theorem RS.own (h : RS base B W ln fi va vb vr vd tx rows dg) : RS base B (W.setCell ⟨B, 2, none⟩ (.pointer (some ⟨B, 2, none⟩))) ln fi (.pointer (some ⟨B, 2, none⟩)) vb vr vd tx rows dg :=
  ⟨h.toRS0.set 2 _ rfl, .inr rfl, h.bf.held (SameE.low W h.lt 2 _), h.bn⟩
theorem RS0.shape (h : RS0 base B W ln fi va vb vr vd rows dg) : W.shape? B = some (67, 6) := by
  have hb : W.heap[B]? = some (.cells #[.int .i64 ln, .int .i64 fi, va, vb, vr, vd] 67 (0, 0)) := h.blk
  simp [World.shape?, hb]
/-- The builder's row grows. -/
theorem RS.grow (h : RS base B W ln fi va vb vr vd tx rows dg) (hg : W.grownBy W' vb.ownBlock) {vb' : Value} {tx' : List UInt8} (hb : BOwn base W' vb' tx') (hn : tx' = [] → vb' = .slice none 0 0) :
    Blk W' B 67 [.int .i64 ln, .int .i64 fi, va, vb, vr, vd] ∧ RS base B (W'.setCell ⟨B, 3, none⟩ vb') ln fi va vb' vr vd tx' rows dg ∧ Fr base B W (W'.setCell ⟨B, 3, none⟩ vb') := by
  have hlt : B < W.heap.size := (Array.getElem?_eq_some_iff.1 h.blk).1
  have hne : vb.ownBlock ≠ some B := fun e => by have := (h.bf.ty e).1; have := h.lt; omega
  have hb0 : Blk W' B 67 [.int .i64 ln, .int .i64 fi, va, vb, vr, vd] := (hg.block B hlt (fun e => hne e.symm)).trans h.blk
  have s1 : SameE 34 base W W' := SameE.grown hg (fun r hr => by obtain ⟨-, cur, e⟩ := h.bf.ty hr; exact ⟨cur, _, e, by decide⟩)
  have s2 : SameE 9 base W W' := SameE.grown hg (fun r hr => by obtain ⟨-, cur, e⟩ := h.bf.ty hr; exact ⟨cur, _, e, by decide⟩)
  have s3 : SameE 45 base W W' := SameE.grown hg (fun r hr => by obtain ⟨-, cur, e⟩ := h.bf.ty hr; exact ⟨cur, _, e, by decide⟩)
  have h0 : RS0 base B W' ln fi va vb vr vd rows dg := ⟨h.lt, Nat.le_trans h.sz hg.size, hb0, h.rw.held s1 s2, h.dg.held s3⟩
  refine ⟨hb0, ⟨h0.set 3 vb' rfl, h.ad, hb.held (SameE.low W' h.lt 3 vb'), hn⟩, (Fr.grown h.sz hg (fun r hr => ?_)).trans (Fr.set _ _ _)⟩
  obtain ⟨q1, cur, e⟩ := h.bf.ty hr
  exact ⟨q1, cur, _, e⟩
end
theorem infoBd : (Tryd.prog.info? 58).map (·.size) = some 2 := by kernel_rfl
theorem liesBd : liesAt Tryd.prog Tryd.prog.depth 67 (6 / Tryd.prog.cellsOf 67) 2 58 1 = true := by kernel_rfl

section
variable {base B : Nat} {ln fi : Int} {va vb vr vd : Value} {tx : List UInt8} {rows : List Row} {dg : List Dg}
set_option maxRecDepth 100000 in
set_option maxHeartbeats 1000000 in
theorem ccheck_any (W : World) (h : RS base B W ln fi va vb vr vd tx rows dg) :
    Calls Tryd.prog 53 #[.pointer (some ⟨B, 2, none⟩)] W fun e W' => e = .returned (.tuple #[]) ∧ RS base B W' ln fi (.pointer (some ⟨B, 2, none⟩)) vb vr vd tx rows dg ∧ Fr base B W W' := by
  obtain ⟨j, hj, hjs⟩ := Option.map_eq_some_iff.1 infoBd
  have hsh := h.shape
  have c2 := h.blk.cell 2
  have f2 := h.blk.frozen (j := 2) (by simp)
  rcases h.ad with rfl | rfl
  · have c2' : W.cell? ⟨B, 2, none⟩ = some (.pointer none) := c2
    have HO := Lib.hid (And.intro h.own (Fr.set (base := base) (B := B) W 2 (.pointer (some ⟨B, 2, none⟩))))
    have hv1 := Lib.run_to_unsafe W ⟨B, 2, none⟩ Tryd.underlying55 Tryd.underlying86 hj (by rw [hjs]; decide) hsh (by show 2 < 6; omega)
    have hv2 := Lib.run_from_unsafe W ⟨B, 2, none⟩ Tryd.underlying86 Tryd.underlying55 hj hsh liesBd
    clear h c2 hsh
    go_enter Tryd.func53, Tryd.ntmps53
    go_wp2_with fail
    rw [run_callFunc_extern Tryd.func69 (by kernel_rfl) (by kernel_rfl) (by kernel_rfl) (e := Extern.AbiNoEscape.same) (by kernel_rfl)]
    rw [Lib.run_noEscape]
    simp only [Result.andThen]
    rw [Oper.upon_value]
    go_wp2_with fail
    go_end0
    exact ⟨rfl, HO.out⟩
  · have c2' : W.cell? ⟨B, 2, none⟩ = some (.pointer (some ⟨B, 2, none⟩)) := c2
    have HO := Lib.hid (And.intro h (Fr.refl (base := base) (B := B) W))
    have hq := Lib.run_neq_ptr_same (P := Tryd.prog) W ⟨B, 2, none⟩ Tryd.underlying55 hj
    clear h c2 hsh f2
    go_enter Tryd.func53, Tryd.ntmps53
    go_wp2_with fail
    go_end0
    exact ⟨rfl, HO.out⟩

/-- '.. = append(buf, s...)', s a text: kept whole. -/
noncomputable def appB (args : Array Value) : Sem Next := do pure (.value (← Builtin.append_ #[56, 9] 56 args))
theorem builtin_appB (cs : Array Bool) (args : Array Value) : builtin .append #[56, 9] 56 cs args = appB args := rfl
theorem appB_own {W : World} (h : RS base B W ln fi va vb vr vd tx rows dg) (s : List UInt8) (hl : tx.length + s.length ≤ 1000000) :
    ∃ vb' w', (appB #[vb, .string ⟨s.toArray⟩]).run Tryd.prog W = .ok (.value vb') w' ∧ BOwn base w' vb' (tx ++ s) ∧ W.grownBy w' vb.ownBlock ∧ (tx ++ s = [] → vb' = .slice none 0 0) ∧ ∃ a n c, vb' = .slice a n c := by
  obtain ⟨i0, hi, hz0, hz1, hz2⟩ := info_parts infoU8
  have hb : W.ownsRow base 5 1 vb tx.length (Lib.byteCells tx) := by
    have q : W.ownsRow base 5 1 vb tx.length (flatV bcell tx) := h.bf
    rw [flat_bytes] at q
    exact q
  have hsz := arr_size s
  obtain ⟨v', w', hr, ho, hg, hn⟩ := Lib.run_append_own_string (P := Tryd.prog) (w := W) base 56 9 56 5 i0 Tryd.underlying56 Tryd.underlying9 hi hz0 hz1 hz2 vb tx.length (Lib.byteCells tx) hb ⟨s.toArray⟩ (by rw [hsz]; unfold maxLen; omega) (by rw [hsz]; omega) h.sz
  have hc : Lib.byteCells tx ++ Lib.strCells ⟨s.toArray⟩ = flatV bcell (tx ++ s) := by
    rw [flatV_app, flat_bytes, flat_bytes]
    rfl
  have ho' : BOwn base w' v' (tx ++ s) := by
    show w'.ownsRow base 5 1 v' (tx ++ s).length (flatV bcell (tx ++ s))
    rw [← hc, List.length_append, ← hsz]
    exact ho
  refine ⟨v', w', ?_, ho', hg, fun he => ?_, ?_⟩
  · unfold appB
    simp only [Sem.run_bind, Sem.run_pure, Result.andThen_ok, hr]
  · obtain ⟨h1, h2⟩ := List.append_eq_nil_iff.1 he
    exact hn.2 ⟨h.bn h1, by rw [hsz, h2]; rfl⟩
  · obtain ⟨a, c, e⟩ := (FOwn.sl bcell_len ho').len
    exact ⟨_, _, _, e⟩

attribute [local go_sem ↓ high] builtin_appB
set_option maxRecDepth 100000 in
set_option maxHeartbeats 1000000 in
theorem rwrite_any (W : World) (h : RS base B W ln fi va vb vr vd tx rows dg) (s : List UInt8) (hl : tx.length + s.length ≤ 1000000) :
    Calls Tryd.prog 35 #[.pointer (some ⟨B, 2, none⟩), .string ⟨s.toArray⟩] W fun e W' => ∃ va' vb', e = .returned (.tuple #[.int .i64 (s.length : Int), .nilIface]) ∧ RS base B W' ln fi va' vb' vr vd (tx ++ s) rows dg ∧ Fr base B W W' := by
  have HC := Lib.hid (ccheck_any W h)
  have hsz := arr_size s
  clear h
  go_enter Tryd.func35, Tryd.ntmps35
  go_wp2_with fail
  refine HC.out.mono ?_
  rintro e W1 ⟨rfl, h1, q1⟩
  have c3 := h1.blk.cell 3
  have c3' : W1.cell? ⟨B, 3, none⟩ = some vb := c3
  obtain ⟨vb', w2, k1, ho, hg, hn, a, n, c, rfl⟩ := appB_own h1 s hl
  obtain ⟨b2, r2, g2⟩ := h1.grow hg ho hn
  have d3 := b2.cell 3
  have d3' : w2.cell? ⟨B, 3, none⟩ = some vb := d3
  have f3 := b2.frozen (j := 3) (by simp)
  have R2 := Lib.hid (And.intro r2 (q1.trans g2))
  clear HC h1 q1 c3 ho hg hn b2 r2 g2 d3
  go_wp2_with fail
  go_ret2
  exact ⟨_, _, rfl, R2.out⟩

set_option maxHeartbeats 1000000 in
/-- The builder is emptied. -/
theorem rreset_any (W : World) (h : RS0 base B W ln fi va vb vr vd rows dg) :
    Calls Tryd.prog 57 #[.pointer (some ⟨B, 2, none⟩)] W fun e W' => e = .returned (.tuple #[]) ∧ RS base B W' ln fi (.pointer none) (.slice none 0 0) vr vd [] rows dg ∧ Fr base B W W' ∧ SameE 34 base W W' := by
  have c2 : W.cell? ⟨B, 2, none⟩ = some va := h.blk.cell 2
  have f2 := h.blk.frozen (j := 2) (by simp)
  have h1 := h.set 2 (.pointer none) rfl
  have c3 : (W.setCell ⟨B, 2, none⟩ (.pointer none)).cell? ⟨B, 3, none⟩ = some vb := h1.blk.cell 3
  have f3 := h1.blk.frozen (j := 3) (by simp)
  have h2 := h1.set 3 (.slice none 0 0) rfl
  have HO : Hid (RS base B ((W.setCell ⟨B, 2, none⟩ (.pointer none)).setCell ⟨B, 3, none⟩ (.slice none 0 0)) ln fi (.pointer none) (.slice none 0 0) vr vd [] rows dg ∧ Fr base B W ((W.setCell ⟨B, 2, none⟩ (.pointer none)).setCell ⟨B, 3, none⟩ (.slice none 0 0)) ∧ SameE 34 base W ((W.setCell ⟨B, 2, none⟩ (.pointer none)).setCell ⟨B, 3, none⟩ (.slice none 0 0))) :=
    Lib.hid ⟨⟨h2, .inl rfl, FOwn.nil _ _, fun _ => rfl⟩, (Fr.set _ _ _).trans (Fr.set _ _ _), SameE.trans (SameE.low W h.lt 2 _) (SameE.low _ h.lt 3 _)⟩
  have c3' : W.cell? ⟨B, 3, none⟩ = some vb := h.blk.cell 3
  have f3' := h.blk.frozen (j := 3) (by simp)
  clear h h1 h2
  go_enter Tryd.func57, Tryd.ntmps57
  go_wp2_with fail
  go_end0
  exact ⟨rfl, HO.out⟩

set_option maxRecDepth 100000 in
set_option maxHeartbeats 2000000 in
/-- What the builder holds is told. -/
theorem rstring_any (W : World) (h : RS base B W ln fi va vb vr vd tx rows dg) :
    Calls Tryd.prog 36 #[.pointer (some ⟨B, 2, none⟩)] W fun e W' => e = .returned (.string ⟨tx.toArray⟩) ∧ RS0 base B W' ln fi va vb vr vd rows dg ∧ Fr base B W W' ∧ SameE 34 base W W' := by
  have c3 : W.cell? ⟨B, 3, none⟩ = some vb := h.blk.cell 3
  by_cases h0 : tx = []
  · subst h0
    have hvb := h.bn rfl
    subst hvb
    have hSD : (Builtin.unsafeSliceData_ #[56] 75 #[.slice none 0 0]).run Tryd.prog W.drew = .ok (.pointer none) W.drew := rfl
    have hUS : (Builtin.unsafeString_ #[75, 3] 9 #[.pointer none, .int .i64 0]).run Tryd.prog W.drew = .ok (.string ⟨#[]⟩) W.drew := Lib.run_unsafeString_none W.drew _ _ _ none
    have HO : Hid (RS0 base B W.drew ln fi va (.slice none 0 0) vr vd rows dg ∧ Fr base B W W.drew ∧ SameE 34 base W W.drew) := Lib.hid ⟨h.toRS0.keep (Below.refl _ _).drew, Fr.drew W, fun _ _ _ _ => rfl⟩
    clear h
    go_enter Tryd.func36, Tryd.ntmps36
    go_wp2_with fail
    go_region
    all_goals
      go_wp2_with fail
      go_ret
      exact ⟨rfl, HO.out⟩
  · have hb : W.ownsRow base 5 1 vb tx.length (Lib.byteCells tx) := by
      have q : W.ownsRow base 5 1 vb tx.length (flatV bcell tx) := h.bf
      rw [flat_bytes] at q
      exact q
    have hl0 : tx.length ≠ 0 := by simpa using h0
    obtain ⟨g, cap, cur, rfl, hbg, hg, hnc, hcm, hcs, htake⟩ : ∃ g cap cur, vb = .slice (some ⟨g, 0, none⟩) tx.length cap ∧ base ≤ g ∧ W.heap[g]? = some (.cells cur 5 (0, 0)) ∧ tx.length ≤ cap ∧ cap ≤ maxLen ∧ cur.size = cap * 1 ∧ cur.toList.take (tx.length * 1) = Lib.byteCells tx := by
      rcases hb.2 with ⟨_, hz⟩ | ⟨g, cap, cur, hv, r⟩
      · exact absurd hz hl0
      · exact ⟨g, cap, cur, hv, r⟩
    have hSD : (Builtin.unsafeSliceData_ #[56] 75 #[.slice (some ⟨g, 0, none⟩) tx.length cap]).run Tryd.prog W.drew = .ok (.pointer (some ⟨g, 0, none⟩)) W.drew :=
      Lib.run_unsafeSliceData_row _ _ _ _ _ _ (by omega)
    have hUS : (Builtin.unsafeString_ #[75, 3] 9 #[.pointer (some ⟨g, 0, none⟩), .int .i64 (tx.length : Int)]).run Tryd.prog W.drew = .ok (.string ⟨tx.toArray⟩) (W.drew.freeze ⟨g, 0, none⟩ tx.length) := by
      refine Lib.run_unsafeString_row W.drew 75 3 9 5 Tryd.underlying75 (by kernel_rfl) g cur.size (by have hg' : W.drew.heap[g]? = some (.cells cur 5 (0, 0)) := hg; simp [World.shape?, hg']) tx h0 (by omega) (by unfold maxLen at hcm; omega) ?_
      intro j x hx
      have hbd : W.drew.ownsRow base 5 1 (.slice (some ⟨g, 0, none⟩) tx.length cap) tx.length (Lib.byteCells tx) := hb
      have := World.ownsRow.cells (g := g) hbd rfl j (.int .u8 x.toNat) (by simp [Lib.byteCells, hx])
      exact this
    have s1 : SameE 34 base W.drew (W.drew.freeze ⟨g, 0, none⟩ tx.length) := fun k cu hk hc => heap_freeze _ _ _ _ (by
      intro e
      rw [show k = g from e] at hc
      have hg' : W.drew.heap[g]? = some (.cells cur 5 (0, 0)) := hg
      rw [hg'] at hc; cases hc)
    have s2 : SameE 9 base W.drew (W.drew.freeze ⟨g, 0, none⟩ tx.length) := fun k cu hk hc => heap_freeze _ _ _ _ (by
      intro e
      rw [show k = g from e] at hc
      have hg' : W.drew.heap[g]? = some (.cells cur 5 (0, 0)) := hg
      rw [hg'] at hc; cases hc)
    have s3 : SameE 45 base W.drew (W.drew.freeze ⟨g, 0, none⟩ tx.length) := fun k cu hk hc => heap_freeze _ _ _ _ (by
      intro e
      rw [show k = g from e] at hc
      have hg' : W.drew.heap[g]? = some (.cells cur 5 (0, 0)) := hg
      rw [hg'] at hc; cases hc)
    have h1 := h.toRS0.keep (Below.refl W.heap.size W).drew
    have HO : Hid (RS0 base B (W.drew.freeze ⟨g, 0, none⟩ tx.length) ln fi va (.slice (some ⟨g, 0, none⟩) tx.length cap) vr vd rows dg ∧ Fr base B W (W.drew.freeze ⟨g, 0, none⟩ tx.length) ∧ SameE 34 base W (W.drew.freeze ⟨g, 0, none⟩ tx.length)) := by
      have hlt := h.lt
      refine Lib.hid ⟨⟨h1.lt, ?_, (heap_freeze _ _ _ _ (by simp only; omega)).trans h1.blk, h1.rw.held s1 s2, h1.dg.held s3⟩, (Fr.drew W).trans (Fr.freeze hbg _ hg), fun k cu h1 h2 => s1 k cu h1 h2⟩
      exact Nat.le_trans h1.sz (Lib.below_freeze (Below.refl base W.drew) (p := ⟨g, 0, none⟩) hbg tx.length).size
    obtain ⟨m, hm⟩ : ∃ m, tx.length = m := ⟨_, rfl⟩
    rw [hm] at hSD hUS c3 HO
    have HML := Lib.hid hm
    clear h h1 hb s1 s2 s3 hl0 hnc htake hg hm
    go_enter Tryd.func36, Tryd.ntmps36
    go_wp2_with fail
    go_region
    all_goals
      go_wp2_with fail
      go_ret
      exact ⟨rfl, by rw [HML.out]; exact HO.out⟩
end
end Go.Proofs.YteckiifnldcjbaaDoor
