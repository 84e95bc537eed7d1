/- An append of one api.Diag inside a region that draws its order: the operation as one step. -/
import Derived.Test.YtalopkplpbdgjaaDoorX3
namespace Go.Proofs.YtalopkplpbdgjaaDoor
open Go.RowKit Go.Shelf Go.Extern.Stop Go.Stop Go.Extern

/-- The append of api.Diags, kept whole. -/
noncomputable def app30 (args : Array Value) : Sem Next := do pure (.value (← Builtin.append_ #[30, 30] 30 args))
theorem builtin_app30 (cs : Array Bool) (args : Array Value) : builtin .append #[30, 30] 30 cs args = app30 args := rfl

theorem Tryd.info29 : (Tryd.prog.info? 29).map (fun i => (i.zero, i.size, i.bytes)) = some (some (.agg #[.int .i64 0, .int .i64 0, .int .i64 0]), 3, 24) := by kernel_rfl

def dcell (d : D) : List Value := [.int .i64 d.1, .int .i64 d.2.1, .int .i64 d.2.2]
def dcells (ds : List D) : List Value := (ds.map dcell).flatten
theorem dcells_snoc (ds : List D) (d : D) : dcells (ds ++ [d]) = dcells ds ++ dcell d := by simp [dcells]

/-- The box B of type 30 holds a slice that owns the cells of ds. -/
def Holds (W : World) (base B : Nat) (v : Value) (ds : List D) : Prop := Boxed W B 30 v ∧ W.ownsRow base 29 3 v ds.length (dcells ds)

theorem app_own {W1 : World} {base B : Nat} {v : Value} {ds : List D} (h : Holds W1 base B v ds) (hb : base ≤ B) (hd : ds.length < 1000) (d : D) :
    ∃ g cap w', (app30 #[v, .slice (some ⟨W1.heap.size, 0, none⟩) 1 1]).run Tryd.prog (W1.alloc (.cells #[.int .i64 d.1, .int .i64 d.2.1, .int .i64 d.2.2] 29)) = .ok (.value (.slice (some ⟨g, 0, none⟩) (ds.length + 1) cap)) w' ∧
      Boxed w' B 30 v ∧ w'.ownsRow base 29 3 (.slice (some ⟨g, 0, none⟩) (ds.length + 1) cap) (ds.length + 1) (dcells (ds ++ [d])) ∧ (W1.alloc (.cells #[.int .i64 d.1, .int .i64 d.2.1, .int .i64 d.2.2] 29)).grownBy w' v.ownBlock := by
  obtain ⟨i0, hi, hz0, hz1, hz2⟩ := info_parts Tryd.info29
  obtain ⟨hB, hown⟩ := h
  have hc : ∀ j u, (dcell d)[j]? = some u → (W1.alloc (.cells #[.int .i64 d.1, .int .i64 d.2.1, .int .i64 d.2.2] 29)).cell? ((⟨W1.heap.size, 0, none⟩ : Addr).add j) = some u := by
    intro j u hj
    rw [Addr.add_lit, Nat.zero_add, World.cell?_alloc_at _ _ _ _ rfl]
    match j, hj with
    | 0, hj => simpa [dcell] using hj
    | 1, hj => simpa [dcell] using hj
    | 2, hj => simpa [dcell] using hj
  have h1 : ∀ u ∈ dcell d, u.oneCell' = true := by
    intro u hu
    simp [dcell] at hu
    rcases hu with rfl | rfl | rfl <;> rfl
  obtain ⟨v', w', hr, ho, hg, _⟩ := run_append_own (P := Tryd.prog) (W1.alloc (.cells #[.int .i64 d.1, .int .i64 d.2.1, .int .i64 d.2.2] 29)) base 30 30 29 i0 (.agg #[.int .i64 0, .int .i64 0, .int .i64 0]) 3 24 Tryd.underlying30 hi hz0 hz1 hz2 rfl (by decide) v ds.length (dcells ds) (hown.alloc _) ⟨W1.heap.size, 0, none⟩ 1 1 (dcell d) rfl hc h1 (by unfold maxLen; omega) (by omega) (by have := hB.lt; simp; omega)
  obtain ⟨g, cap, rfl⟩ := ownsRow_succ ho
  refine ⟨g, cap, w', ?_, (hB.alloc _).kept hg (hB.not_row (by decide) hown), by rw [dcells_snoc]; exact ho, hg⟩
  unfold app30
  simp only [Sem.run_bind, Sem.run_pure, Result.andThen_ok, hr]
end Go.Proofs.YtalopkplpbdgjaaDoor
