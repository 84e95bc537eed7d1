/- lines.Read: its lines, one by one. -/
import Derived.Test.YteckiifnldcjbaaDoorKD
import Derived.Test.YteckiifnldcjbaaDoorKF
namespace Go.Proofs.YteckiifnldcjbaaDoor
open Go.RowKit
attribute [local go_sem] Oper.semAt_some
attribute [local go_sem ↓ high] binop_eqlS binop_neqS

/-- A text's lines, as a reader reads them. -/
def cr (l : List UInt8) : List UInt8 := Lib.trimSuffix l [13]
def St.all (s : St) (q : List (List UInt8)) : St := q.foldl (fun s l => s.step (cr l)) s
def st0 : St := ⟨0, 0, [], [], []⟩
def readS (s : List UInt8) : St := (st0.all (pcs (Lib.trimSuffix s [10]))).stop
def readL (s : List UInt8) : List Row × List Dg := if s = [] then ([], []) else ((readS s).rows, (readS s).dg)
theorem St.all_snoc (s : St) (q : List (List UInt8)) (x : List UInt8) : s.all (q ++ [x]) = (s.all q).step (cr x) := by simp [St.all, List.foldl_append]
theorem trimS_le (l p : List UInt8) : (Lib.trimSuffix l p).length ≤ l.length := by
  unfold Lib.trimSuffix
  split
  · simp only [List.length_take]; omega
  · exact Nat.le_refl _
theorem tell_le (fi : Int) (tx : List UInt8) : (tellRow fi tx).1.length ≤ 1 ∧ (tellRow fi tx).2.length ≤ 2 := by
  unfold tellRow
  split
  · split
    · simp
    · refine ⟨by simp, ?_⟩
      unfold mdgs
      rw [List.length_append]
      split <;> split <;> simp
  · simp
/-- What a reader holds is no more than what it has read. -/
structure St.Le (s : St) (k m : Nat) : Prop where
  ln : s.ln = (k : Int)
  fi : 0 ≤ s.fi
  tx : s.tx.length ≤ m
  rows : s.rows.length ≤ k
  dg : s.dg.length ≤ 2 * k
theorem St.more_le {s : St} {k m : Nat} (h : s.Le k m) {fi : Int} (hf : 0 ≤ fi) (u : List UInt8) : (s.more fi u).Le (k + 1) (m + u.length) := by
  have h1 := h.ln; have h2 := h.tx; have h3 := h.rows; have h4 := h.dg
  have ht := tell_le fi (s.tx ++ u)
  unfold St.more
  split
  · exact ⟨by simp only; omega, hf, by simp only [List.length_append, List.length_take]; omega, by simp only; omega, by simp only; omega⟩
  · exact ⟨by simp only; omega, by simp only; omega, by simp, by simp only [List.length_append]; omega, by simp only [List.length_append]; omega⟩
theorem St.step_le {s : St} {k m : Nat} (h : s.Le k m) (l : List UInt8) : (s.step l).Le (k + 1) (m + l.length) := by
  have h1 := h.ln; have h2 := h.tx; have h3 := h.rows; have h4 := h.dg; have h5 := h.fi
  have hu := unc_le l
  have up : ∀ {t : St}, t.Le (k + 1) (m + (unc l).1.length) → t.Le (k + 1) (m + l.length) := fun q => ⟨q.ln, q.fi, by have := q.tx; omega, q.rows, q.dg⟩
  unfold St.step
  split
  · split
    · exact ⟨by simp only; omega, h5, by simp only; omega, by simp only; omega, by simp only; omega⟩
    · exact up (St.more_le h (by omega) _)
  · exact up (St.more_le h h5 _)
theorem St.all_le : ∀ (q : List (List UInt8)) {s : St} {k m : Nat}, s.Le k m → (s.all q).Le (k + q.length) (m + q.flatten.length)
  | [], s, k, m, h => by simpa [St.all] using h
  | x :: q, s, k, m, h => by
    have h1 := St.step_le h (cr x)
    have h2 := St.all_le q h1
    have hc := trimS_le x [13]
    have e : s.all (x :: q) = (s.step (cr x)).all q := rfl
    rw [e]
    have hc' : (cr x).length ≤ x.length := hc
    refine ⟨by have := h2.ln; rw [this]; simp only [List.length_cons]; omega, h2.fi, by have := h2.tx; simp only [List.flatten_cons, List.length_append]; omega, by have := h2.rows; simp only [List.length_cons]; omega, by have := h2.dg; simp only [List.length_cons]; omega⟩
theorem st0_le : st0.Le 0 0 := ⟨rfl, Int.le_refl _, Nat.le_refl _, Nat.le_refl _, Nat.le_refl _⟩
theorem flat_prefix {q p : List (List UInt8)} (h : q <+: p) : q.length ≤ p.length ∧ q.flatten.length ≤ p.flatten.length := by
  obtain ⟨r, rfl⟩ := h
  simp only [List.length_append, List.flatten_append]
  omega

theorem RwOwn.mono {base base' : Nat} {W : World} {v : Value} {l : List Row} (h : RwOwn base W v l) (hb : base' ≤ base) : RwOwn base' W v l := by
  obtain ⟨L, hL, hA⟩ := h
  exact ⟨L, hL.mono hb, hA.mono fun v a ha => ha.mono hb⟩
theorem SameE.put {e base D : Nat} {W : World} {o : Obj} (o' : Obj) (h : W.heap[D]? = some o) (hc : o.isCells = false) : SameE e base W (W.putObj D o') := fun g cur _ hg => World.putObj_heap_other (by
  rintro rfl
  rw [h] at hg
  cases hg
  cases hc)
theorem RSS.kept {base B : Nat} {W W' : World} {s : St} {row : Option Nat} (h : RSS base B W s) (hg : W.grownBy W' row) (hr : ∀ r, row = some r → r ≠ B ∧ (r < base ∨ ∃ o : Obj, W.heap[r]? = some o ∧ o.isCells = false)) : RSS base B W' s := by
  obtain ⟨va, vb, vr, vd, h⟩ := h
  have hs : ∀ e, SameE e base W W' := fun e g cur hb hc => hg.block g (Array.getElem?_eq_some_iff.1 hc).1 (fun q => by
    rcases (hr g q.symm).2 with h1 | ⟨o, ho, hoc⟩
    · omega
    · rw [hc] at ho; cases ho; cases hoc)
  have hlt : B < W.heap.size := (Array.getElem?_eq_some_iff.1 h.blk).1
  exact ⟨va, vb, vr, vd, ⟨⟨h.lt, Nat.le_trans h.sz hg.size, (hg.block B hlt (fun q => (hr B q.symm).1 rfl)).trans h.blk, h.rw.held (hs _) (hs _), h.dg.held (hs _)⟩, h.ad, h.bf.held (hs _), h.bn⟩⟩

theorem read_nil (w : World) : Calls Tryd.prog 23 #[.string ⟨#[]⟩] w fun e w' => e = .returned (.tuple #[.slice none 0 0, .slice none 0 0]) ∧ w = w' := by
  have E1 : ∀ W, (eqlS (.string ⟨#[]⟩) (.string ⟨#[]⟩)).run Tryd.prog W = .ok (.bool true) W := eqlS_run [] []
  go_enter Tryd.func23, Tryd.ntmps23
  go_wp2_with fail
  go_ret2
  exact ⟨rfl, rfl⟩

set_option maxRecDepth 100000 in
set_option maxHeartbeats 4000000 in
theorem read_in (s : List UInt8) (w : World) (hM : Mx w) (hs : s.length ≤ 40000) (hne : s ≠ []) :
    CallsIn Fence.wide 9 Tryd.prog 23 #[.string ⟨s.toArray⟩] w fun e w' => ∃ vr vd, e = .returned (.tuple #[vr, vd]) ∧ RwOwn w.heap.size w' vr (readS s).rows ∧ DOwn w.heap.size w' vd (readS s).dg ∧ Below w.heap.size w w' ∧ w.heap.size ≤ w'.heap.size := by
  have E1 : ∀ W, (eqlS (.string ⟨s.toArray⟩) (.string ⟨#[]⟩)).run Tryd.prog W = .ok (.bool false) W := by
    intro W
    have h := eqlS_run s [] W
    rw [decide_eq_false hne] at h
    exact h
  have hs1 := trimS_le s [10]
  obtain ⟨s1, hs1e⟩ : ∃ s1, Lib.trimSuffix s [10] = s1 := ⟨_, rfl⟩
  have T1 : Hid (∀ W, CallsIn Fence.wide 8 Tryd.prog 41 #[.string ⟨s.toArray⟩, .string ⟨#[10]⟩] W fun e w' => e = .returned (.string ⟨s1.toArray⟩) ∧ W = w') := Lib.hid fun W => by
    have h := trimSuffix_any s [10] W (by omega)
    rw [hs1e] at h
    exact callsIn_wide.2 (h.mono fun e w' ⟨a, b⟩ => ⟨a, b.symm⟩)
  rw [hs1e] at hs1
  have S1 : Hid (∀ W, CallsIn Fence.wide 8 Tryd.prog 40 #[.string ⟨s1.toArray⟩, .string ⟨#[10]⟩] W fun e w' => e = .returned (.func (.func 70) #[] #[.pointer (some ⟨W.heap.size + 1, 0, none⟩), .pointer (some ⟨W.heap.size, 0, none⟩), .pointer (some ⟨W.heap.size + 2, 0, none⟩)]) ∧
    ((W.alloc (.cells #[.string ⟨s1.toArray⟩] 9)).alloc (.cells #[.string ⟨#[10]⟩] 9)).alloc (.cells #[.int .i64 0] 3) = w') := Lib.hid fun W => callsIn_wide.2 (splitSeq_any s1 W)
  have hRS : readS s = (st0.all (pcs s1)).stop := by unfold readS; rw [hs1e]
  rw [hRS]
  clear hs1e hne hRS
  refine callsIn_of_wp_marks Tryd.func23 rfl trivial ?_ rfl
  simp only [Tryd.ntmps23, List.size_toArray, List.length_cons, List.length_nil, Nat.reduceAdd, Nat.reduceSub, Array.replicate_succ, Array.replicate_zero, List.push_toArray, List.append_toArray, List.nil_append, List.cons_append]
  gi_wp2_with (first
    | (refine ⟨trivial, ?_⟩; gi_at_call 41; refine (T1.out _).mono ?_; rintro e w' ⟨rfl, rfl⟩)
    | (refine ⟨trivial, ?_⟩; gi_at_call 40; refine (S1.out _).mono ?_; rintro e w' ⟨rfl, rfl⟩))
  obtain ⟨W0, hW0⟩ : ∃ W0, ((((w.alloc (.cells #[.int .i64 0, .int .i64 0, .pointer none, .slice none 0 0, .slice none 0 0, .slice none 0 0] 67)).alloc (.cells #[.string ⟨s1.toArray⟩] 9)).alloc (.cells #[.string ⟨#[10]⟩] 9)).alloc (.cells #[.int .i64 0] 3)) = W0 := ⟨_, rfl⟩
  have hsz : W0.heap.size = w.heap.size + 4 := by rw [← hW0]; simp
  have hB0 : Below w.heap.size w W0 := by
    rw [← hW0]
    exact ((((Below.refl _ w).alloc (Nat.le_refl _) _).alloc (by simp <;> omega) _).alloc (by simp <;> omega) _).alloc (by simp <;> omega) _
  have k0 : Blk W0 w.heap.size 67 [.int .i64 0, .int .i64 0, .pointer none, .slice none 0 0, .slice none 0 0, .slice none 0 0] := by
    rw [← hW0]
    exact (Below.heap_alloc _ _ _ (by simp <;> omega)).trans ((Below.heap_alloc _ _ _ (by simp <;> omega)).trans ((Below.heap_alloc _ _ _ (by simp <;> omega)).trans (heap_alloc_new w _)))
  have k1 : Blk W0 (w.heap.size + 1) 9 [.string ⟨s1.toArray⟩] := by
    rw [← hW0]
    refine (Below.heap_alloc _ _ _ (by simp <;> omega)).trans ((Below.heap_alloc _ _ _ (by simp <;> omega)).trans ?_)
    have := heap_alloc_new (w.alloc (.cells #[.int .i64 0, .int .i64 0, .pointer none, .slice none 0 0, .slice none 0 0, .slice none 0 0] 67)) (.cells #[.string ⟨s1.toArray⟩] 9)
    rwa [World.size_alloc] at this
  have k2 : Blk W0 (w.heap.size + 1 + 1) 9 [.string ⟨#[10]⟩] := by
    rw [← hW0]
    refine (Below.heap_alloc _ _ _ (by simp <;> omega)).trans ?_
    have := heap_alloc_new ((w.alloc (.cells #[.int .i64 0, .int .i64 0, .pointer none, .slice none 0 0, .slice none 0 0, .slice none 0 0] 67)).alloc (.cells #[.string ⟨s1.toArray⟩] 9)) (.cells #[.string ⟨#[10]⟩] 9)
    rwa [World.size_alloc, World.size_alloc] at this
  have k3 : Blk W0 (w.heap.size + 1 + 2) 3 [.int .i64 0] := by
    rw [← hW0]
    have := heap_alloc_new (((w.alloc (.cells #[.int .i64 0, .int .i64 0, .pointer none, .slice none 0 0, .slice none 0 0, .slice none 0 0] 67)).alloc (.cells #[.string ⟨s1.toArray⟩] 9)).alloc (.cells #[.string ⟨#[10]⟩] 9)) (.cells #[.int .i64 0] 3)
    rwa [World.size_alloc, World.size_alloc, World.size_alloc] at this
  have rs0 : RSS (w.heap.size + 4) w.heap.size W0 st0 := ⟨_, _, _, _, ⟨⟨by omega, by omega, k0, RwOwn.nil _ _, FOwn.nil _ _⟩, .inl rfl, FOwn.nil _ _, fun _ => rfl⟩⟩
  have hsum := pcs_sum s1
  rw [hW0]
  clear hW0
  refine range_all rfl (by decide) (gf := 70) (lb := #[.pointer (some ⟨w.heap.size + 1 + 1, 0, none⟩), .pointer (some ⟨w.heap.size + 1, 0, none⟩), .pointer (some ⟨w.heap.size + 1 + 2, 0, none⟩)]) rfl trivial (enters_of Tryd.func70 (by kernel_rfl) rfl)
    (lines_seq 8 (w.heap.size + 4) w.heap.size (w.heap.size + 1) s1 W0 (by omega) (by omega) (by omega) k1 k2 k3) (by omega)
    (fun h k i h1 h2 => (k i h1 h2).trans (h i h1 h2)) (fun A i _ _ => rfl) (fun W l o' hl i h1 h2 => World.putObj_heap_other (by omega)) (fun W o hw i h1 h2 => Below.heap_alloc W o i (by omega)) (fun _ => rfl)
    (fun q W => RSS (w.heap.size + 4) w.heap.size W (st0.all q) ∧ Below w.heap.size w W)
    (fun q A A' row hi hg hr => ⟨hi.1.kept hg (fun r e => by
        rcases hr r e with h1 | ⟨h1, h2⟩
        · exact ⟨by omega, .inl (by omega)⟩
        · exact ⟨by omega, .inr h2⟩),
      hi.2.grown hg hi.2.size (fun r e => by
        rcases hr r e with h1 | ⟨h1, h2⟩
        · omega
        · omega)⟩)
    ⟨rs0, hB0⟩
    (fun x => { tmps := #[.string ⟨s.toArray⟩, undef, .slice none 0 0, .slice none 0 0, .pointer (some ⟨w.heap.size, 0, none⟩), .string ⟨x.toArray⟩, .string ⟨s.toArray⟩, .bool false, .string ⟨s.toArray⟩, .string ⟨s1.toArray⟩, .func (.func 70) #[] #[.pointer (some ⟨w.heap.size + 1 + 1, 0, none⟩), .pointer (some ⟨w.heap.size + 1, 0, none⟩), .pointer (some ⟨w.heap.size + 1 + 2, 0, none⟩)], .string ⟨x.toArray⟩, undef, undef, undef, undef, undef, undef, undef, undef], defers := [] }) ?assign ?body ?done
  case assign =>
    intro l x W K hK
    simp only [encL]
    gi_wp2
    exact hK
  case body =>
    rintro l pre x W ⟨hr, hb⟩ hsp
    obtain ⟨p1, p2⟩ := flat_prefix hsp
    simp only [List.length_append, List.length_singleton, List.flatten_append, List.flatten_cons, List.flatten_nil, List.append_nil] at p1 p2
    have hle := St.all_le pre st0_le
    have hx := trimS_le x [13]
    obtain ⟨st, hst⟩ : ∃ st, st0.all pre = st := ⟨_, rfl⟩
    have hsn : st0.all (pre ++ [x]) = st.step (cr x) := by rw [St.all_snoc, hst]
    rw [hst] at hle hr
    have l1 := hle.ln; have l2 := hle.tx; have l3 := hle.rows; have l4 := hle.dg; have l5 := hle.fi
    have hwz := hb.size
    have T2 : Hid (∀ W m, CallsIn (Fence.wide.inRound l) m Tryd.prog 41 #[.string ⟨x.toArray⟩, .string ⟨#[13]⟩] W fun e w' => e = .returned (.string ⟨(cr x).toArray⟩) ∧ W = w') := Lib.hid fun W m => by
      have h := trimSuffix_any x [13] W (by omega)
      exact CallsIn.inRound l (callsIn_wide.2 (h.mono fun e w' ⟨a, b⟩ => ⟨a, b.symm⟩))
    have R2 : Hid (∀ m, CallsIn (Fence.wide.inRound l) m Tryd.prog 42 #[.pointer (some ⟨w.heap.size, 0, none⟩), .string ⟨(cr x).toArray⟩] W (REnd (w.heap.size + 4) w.heap.size W (st.step (cr x)))) := Lib.hid fun m =>
      CallsIn.inRound l (callsIn_wide.2 (read_any W st hr (fun W' h => hM.below (Nat.le_refl _) (hb.trans (h.below (by omega) (Nat.le_refl _)))) (cr x) (by omega) (by omega) l5 (by
        have : (cr x).length ≤ x.length := hx
        omega) (by omega) (by omega)))
    have HB := Lib.hid hb
    have HSN := Lib.hid hsn
    obtain ⟨cx, hcx⟩ : ∃ cx, cr x = cx := ⟨_, rfl⟩
    rw [hcx] at T2 R2 HSN
    clear hr hb hsp hle hst hsn hcx hx k0 k1 k2 k3 rs0
    gi_wp2_with (first
      | (refine ⟨trivial, ?_⟩; gi_at_call 41; refine (T2.out _ _).mono ?_; rintro e w' ⟨rfl, rfl⟩)
      | (refine ⟨trivial, ?_⟩; gi_at_call 42; refine (R2.out _).mono ?_; rintro e W3 ⟨rfl, r3, q3⟩))
    refine ⟨q3.ko, q3.low, ?_, HB.out.trans (q3.below (by omega) (Nat.le_refl _))⟩
    rw [HSN.out]
    exact r3
  case done =>
    rintro D xs W hD hS ⟨hr, hb⟩ hdef
    subst hS
    have hle := St.all_le (pcs s1) st0_le
    obtain ⟨st, hst⟩ : ∃ st, st0.all (pcs s1) = st := ⟨_, rfl⟩
    rw [hst] at hle hr
    have l1 := hle.ln; have l2 := hle.tx; have l3 := hle.rows; have l4 := hle.dg; have l5 := hle.fi
    have Z1 : Hid (∀ m, CallsIn Fence.wide m Tryd.prog 43 #[.pointer (some ⟨w.heap.size, 0, none⟩)] W (REnd (w.heap.size + 4) w.heap.size W st.stop)) := Lib.hid fun m =>
      callsIn_wide.2 (stop_any W st hr (fun W' h => hM.below (Nat.le_refl _) (hb.trans (h.below (by omega) (Nat.le_refl _)))) (by omega) (by omega) (by omega))
    have HB := Lib.hid hb
    have HD := Lib.hid hdef
    have HST := Lib.hid hst
    clear hr hb hdef hle hst k0 k1 k2 k3 rs0
    gi_wp2_with fail
    refine ⟨trivial, ?_⟩
    refine (Z1.out _).mono ?_
    rintro e W2 ⟨rfl, ⟨va, vb, vr, vd, r2⟩, q2⟩
    have hd2 : W2.heap[D]? = some (.deferred (some [])) := q2.ko.same _ _ HD.out rfl
    have c4 : W2.cell? ⟨w.heap.size, 4, none⟩ = some vr := r2.blk.cell 4
    have c5 : W2.cell? ⟨w.heap.size, 5, none⟩ = some vd := r2.blk.cell 5
    have HE : Hid (RwOwn w.heap.size (W2.drew.putObj D (.deferred none)) vr st.stop.rows ∧ DOwn w.heap.size (W2.drew.putObj D (.deferred none)) vd st.stop.dg ∧ Below w.heap.size w (W2.drew.putObj D (.deferred none))) := by
      have h1 := r2.keep (Below.refl W2.heap.size W2).drew
      have hd3 : W2.drew.heap[D]? = some (.deferred (some [])) := hd2
      have hs : ∀ e, SameE e (w.heap.size + 4) W2.drew (W2.drew.putObj D (.deferred none)) := fun e => SameE.put _ hd3 rfl
      have hb2 : Below w.heap.size w W2 := HB.out.trans (q2.below (by omega) (Nat.le_refl _))
      refine Lib.hid ⟨(h1.rw.held (hs _) (hs _)).mono (by omega), (h1.dg.held (hs _)).mono (by omega), hb2.drew.trans ?_⟩
      exact ⟨rfl, rfl, rfl, by simp, fun k hk => World.putObj_heap_other (by omega)⟩
    obtain ⟨ra, rc, hra⟩ := r2.rw.len
    obtain ⟨da, dc, hda⟩ := (FOwn.sl dcell_len r2.dg).len
    obtain ⟨m1, hm1⟩ : ∃ m1, st.stop.rows.length = m1 := ⟨_, rfl⟩
    obtain ⟨m2, hm2⟩ : ∃ m2, st.stop.dg.length = m2 := ⟨_, rfl⟩
    rw [hm1] at hra
    rw [hm2] at hda
    subst hra hda
    have HD2 := Lib.hid hd2
    clear r2 q2 hd2 hm1 hm2 Z1 HD HB
    gi_wp2_with fail
    gi_region
    all_goals
      gi_wp2_with fail
      refine ⟨by simp, .inl ⟨_, _, rfl, run_takeDeferred (w := W2.drew) HD2.out, ?_⟩⟩
      refine ⟨_, results_tmp2 (by rfl) _ _ _, _, _, rfl, ?_, ?_, HE.out.2.2, HE.out.2.2.size⟩
      · rw [HST.out]; exact HE.out.1
      · rw [HST.out]; exact HE.out.2.1
theorem read_all (s : List UInt8) (w : World) (hM : Mx w) (hs : s.length ≤ 40000) :
    Calls Tryd.prog 23 #[.string ⟨s.toArray⟩] w fun e w' => ∃ vr vd, e = .returned (.tuple #[vr, vd]) ∧ RwOwn w.heap.size w' vr (readL s).1 ∧ DOwn w.heap.size w' vd (readL s).2 ∧ Below w.heap.size w w' ∧ w.heap.size ≤ w'.heap.size := by
  unfold readL
  by_cases h : s = []
  · subst h
    refine (read_nil w).mono ?_
    rintro e w' ⟨rfl, rfl⟩
    exact ⟨_, _, rfl, RwOwn.nil _ _, FOwn.nil _ _, Below.refl _ _, Nat.le_refl _⟩
  · rw [if_neg h]
    exact callsIn_wide.1 (read_in s w hM hs h)
end Go.Proofs.YteckiifnldcjbaaDoor
