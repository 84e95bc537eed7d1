/- Contracts over errors, nil or not: Tell, Move, All, Kind, Place; Same at equal lists. -/
import Derived.Test.YtalopkplpbdgjaaDoorX7
namespace Go.Proofs.YtalopkplpbdgjaaDoor
open Go.RowKit Go.Shelf Go.Extern.Stop Go.Stop Go.Extern

/-- The value v is nil, or an error of depth n at most, and tells ds. -/
def EO (w : World) (n : Nat) (v : Value) (ds : List D) : Prop := (v = .nilIface ∧ ds = []) ∨ (∃ t x, v = .iface t x ∧ Er w n (.iface t x) ds)
theorem EO.below {w w' : World} {n : Nat} {v : Value} {ds : List D} (h : EO w n v ds) (hb : Below w.heap.size w w') : EO w' n v ds := by
  rcases h with h | ⟨t, x, rfl, h⟩
  · exact .inl h
  · exact .inr ⟨t, x, rfl, h.below hb⟩
theorem EO.deeper {w : World} {n m : Nat} {v : Value} {ds : List D} (h : EO w n v ds) (hm : n ≤ m) : EO w m v ds := by
  rcases h with h | ⟨t, x, rfl, h⟩
  · exact .inl h
  · exact .inr ⟨t, x, rfl, h.deeper hm⟩

/-- The slice value v reads as ds. -/
def SDiag (W : World) (v : Value) (ds : List D) : Prop :=
  ∃ a cap, v = .slice a ds.length cap ∧ ∀ j d, ds[j]? = some d → ∃ g off, a = some ⟨g, off, none⟩ ∧ W.cell? ⟨g, off + j * 3, none⟩ = some (.int .i64 d.1) ∧ W.cell? ⟨g, off + j * 3 + 1, none⟩ = some (.int .i64 d.2.1) ∧ W.cell? ⟨g, off + j * 3 + 2, none⟩ = some (.int .i64 d.2.2)

theorem SDiag.below {W W' : World} {v : Value} {ds : List D} (h : SDiag W v ds) (hb : Below W.heap.size W W') : SDiag W' v ds := by
  obtain ⟨a, cap, hv, hc⟩ := h
  refine ⟨a, cap, hv, fun j d hj => ?_⟩
  obtain ⟨g, off, ha, h0, h1, h2⟩ := hc j d hj
  have hl := World.block_lt_of_cell? W _ h0
  exact ⟨g, off, ha, (hb.cell hl).trans h0, (hb.cell (p := ⟨g, off + j * 3 + 1, none⟩) hl).trans h1, (hb.cell (p := ⟨g, off + j * 3 + 2, none⟩) hl).trans h2⟩

theorem dcells_length (ds : List D) : (dcells ds).length = ds.length * 3 := by
  induction ds with
  | nil => rfl
  | cons d ds ih => simp [dcells, dcell] at ih ⊢; omega
theorem dcells_get (ds : List D) : ∀ (j : Nat) (d : D), ds[j]? = some d → (dcells ds)[j * 3]? = some (.int .i64 d.1) ∧ (dcells ds)[j * 3 + 1]? = some (.int .i64 d.2.1) ∧ (dcells ds)[j * 3 + 2]? = some (.int .i64 d.2.2) := by
  induction ds with
  | nil => intro j d h; simp at h
  | cons e ds ih =>
    intro j d h
    have he : dcells (e :: ds) = .int .i64 e.1 :: .int .i64 e.2.1 :: .int .i64 e.2.2 :: dcells ds := rfl
    rw [he]
    cases j with
    | zero => simp at h; subst h; simp
    | succ j =>
      have := ih j d (by simpa using h)
      have e1 : (j + 1) * 3 = j * 3 + 3 := by omega
      rw [e1]
      simpa using this
theorem SDiag.of_owns {W : World} {base : Nat} {v : Value} {ds : List D} (h : W.ownsRow base 29 3 v ds.length (dcells ds)) : SDiag W v ds := by
  rcases h.2 with ⟨rfl, h0⟩ | ⟨g, cap, cur, rfl, _⟩
  · refine ⟨none, 0, by rw [h0], fun j d hj => ?_⟩
    rw [List.eq_nil_of_length_eq_zero h0] at hj
    simp at hj
  · refine ⟨_, cap, rfl, fun j d hj => ⟨g, 0, rfl, ?_⟩⟩
    have hjl := (List.getElem?_eq_some_iff.1 hj).1
    obtain ⟨h0, h1, h2⟩ := dcells_get ds j d hj
    rw [Nat.zero_add, h.cellAt _ (by omega), h.cellAt _ (by omega), h.cellAt _ (by omega)]
    exact ⟨h0, h1, h2⟩

theorem eq29 (k l c k' l' c' : Int) (w : World) : (Op.equalIn 10000 29 (.agg #[.int .i64 k, .int .i64 l, .int .i64 c]) (.agg #[.int .i64 k', .int .i64 l', .int .i64 c'])).run Tryd.prog w = .ok (k == k' && l == l' && c == c') w := by
  rw [run_equalIn_agg w 9999 29 _ _ (by kernel_rfl) (by kernel_rfl)]
  have h3 : ((Tryd.prog.fieldsOf 29).toList.map fun f => (f.name != "_", f.type, f.offset)) = [(true, 3, 0), (true, 3, 1), (true, 3, 2)] := by kernel_rfl
  generalize (Tryd.prog.fieldsOf 29).toList = fs at *
  rcases fs with _ | ⟨f0, _ | ⟨f1, _ | ⟨f2, _ | ⟨f3, fs⟩⟩⟩⟩
  · simp at h3
  · simp at h3
  · simp at h3
  · simp only [List.map_cons, List.map_nil, List.cons.injEq, Prod.mk.injEq, and_true, bne_iff_ne, ne_eq] at h3
    obtain ⟨⟨n0, t0, o0⟩, ⟨n1, t1, o1⟩, ⟨n2, t2, o2⟩⟩ := h3
    have e0 : ∀ (a b : Int) (w : World), (Op.equalIn 9999 3 (.int .i64 a) (.int .i64 b)).run Tryd.prog w = .ok (a == b) w := fun a b w => run_equalIn_int w 9998 3 .i64 .i64 a b Tryd.underlying3
    simp [go_sem, Op.eqFields, n0, n1, n2, t0, t1, t2, o0, o1, o2, e0]
    by_cases a1 : k = k' <;> by_cases a2 : l = l' <;> by_cases a3 : c = c' <;> simp [a1, a2, a3]
  · simp at h3
theorem neq29_any (k l c k' l' c' : Int) (w : World) : (binOp .neq 29 (.agg #[.int .i64 k, .int .i64 l, .int .i64 c]) (.agg #[.int .i64 k', .int .i64 l', .int .i64 c'])).run Tryd.prog w = .ok (.bool (!(k == k' && l == l' && c == c'))) w := by
  rw [run_neq_struct, eq29]
  rfl
theorem eql29_any (k l c k' l' c' : Int) (w : World) : (binOp .eql 29 (.agg #[.int .i64 k, .int .i64 l, .int .i64 c]) (.agg #[.int .i64 k', .int .i64 l', .int .i64 c'])).run Tryd.prog w = .ok (.bool (k == k' && l == l' && c == c')) w := by
  rw [run_eql_struct, eq29]
  rfl
theorem neq29 (k l c : Int) (w : World) : (binOp .neq 29 (.agg #[.int .i64 k, .int .i64 l, .int .i64 c]) (.agg #[.int .i64 k, .int .i64 l, .int .i64 c])).run Tryd.prog w = .ok (.bool false) w := by
  rw [neq29_any]
  simp

set_option maxRecDepth 100000 in
set_option maxHeartbeats 2000000 in
theorem same_true (v u : Value) (ds : List D) (w : World) (hd : ds.length ≤ 1000) (hv : SDiag w v ds) (hu : SDiag w u ds) :
    Calls Tryd.prog 13 #[v, u] w fun e W' => e = .returned (.bool true) ∧ Below w.heap.size w W' := by
  obtain ⟨a, cap, rfl, hc⟩ := hv
  obtain ⟨a', cap', rfl, hc'⟩ := hu
  have HC := Lib.hid hc
  have HC' := Lib.hid hc'
  clear hc hc'
  have hq := neq29
  go_enter Tryd.func13, Tryd.ntmps13
  go_wp2_with fail
  go_loopw [5] (fun i wr => ∃ j : Nat, j ≤ ds.length ∧ i = .int .i64 j ∧ Below w.heap.size w wr) (fun i _ => ds.length - (intOf i).toNat)
  case atStart => exact ⟨0, Nat.zero_le _, rfl, Below.refl _ _⟩
  case round =>
    obtain ⟨j, hj, rfl, hb⟩ := hrel
    by_cases hlt : j < ds.length
    · obtain ⟨d, hd1⟩ : ∃ d, ds[j]? = some d := ⟨ds[j], List.getElem?_eq_getElem hlt⟩
      obtain ⟨g, off, rfl, h0, h1, h2⟩ := HC.out j d hd1
      obtain ⟨g', off', rfl, h0', h1', h2'⟩ := HC'.out j d hd1
      have hg := World.block_lt_of_cell? w _ h0
      have hg' := World.block_lt_of_cell? w _ h0'
      simp only at hg hg'
      have c0 : wr.cell? ⟨g, off + j * 3, none⟩ = some (.int .i64 d.1) := (hb.cell hg).trans h0
      have c1 : wr.cell? ⟨g, off + j * 3 + 1, none⟩ = some (.int .i64 d.2.1) := (hb.cell (p := ⟨g, off + j * 3 + 1, none⟩) hg).trans h1
      have c2 : wr.cell? ⟨g, off + j * 3 + 2, none⟩ = some (.int .i64 d.2.2) := (hb.cell (p := ⟨g, off + j * 3 + 2, none⟩) hg).trans h2
      have c0' : wr.cell? ⟨g', off' + j * 3, none⟩ = some (.int .i64 d.1) := (hb.cell hg').trans h0'
      have c1' : wr.cell? ⟨g', off' + j * 3 + 1, none⟩ = some (.int .i64 d.2.1) := (hb.cell (p := ⟨g', off' + j * 3 + 1, none⟩) hg').trans h1'
      have c2' : wr.cell? ⟨g', off' + j * 3 + 2, none⟩ = some (.int .i64 d.2.2) := (hb.cell (p := ⟨g', off' + j * 3 + 2, none⟩) hg').trans h2'
      clear h0 h1 h2 h0' h1' h2' hd1
      have hi : (j : Int) < (ds.length : Int) := by omega
      have hi0 : (0 : Int) ≤ (j : Int) := by omega
      go_wp2_with fail
      go_quiet (fail)
      go_wp2
      go_roundw
      case rel => exact ⟨j + 1, by omega, by go_num, below_drewN hb _⟩
      case measure => simp [intOf]; omega
    · obtain rfl : j = ds.length := by omega
      go_wp2_with fail
      go_ret
      exact ⟨rfl, hb⟩
end Go.Proofs.YtalopkplpbdgjaaDoor
