/- The contract of the document's Make: the lists that genD says. -/
import Derived.Test.YtalopkplpbdgjaaDoorZ5
namespace Go.Proofs.YtalopkplpbdgjaaDoor
open Go.RowKit Go.Shelf Go.Extern.Stop Go.Stop Go.Extern

attribute [local go_sem ↓ high] builtin_app30

theorem SDiag.mono {w w' : World} {v : Value} {ds : List D} (hc : ∀ {b i : Nat} {u : Value}, w.cell? ⟨b, i, none⟩ = some u → w'.cell? ⟨b, i, none⟩ = some u) (h : SDiag w v ds) : SDiag w' v ds := by
  obtain ⟨a, cap, hv, hk⟩ := h
  refine ⟨a, cap, hv, fun j d hj => ?_⟩
  obtain ⟨g, off, ha, h0, h1, h2⟩ := hk j d hj
  exact ⟨g, off, ha, hc h0, hc h1, hc h2⟩
theorem SDiag.nil (w : World) : SDiag w (.slice none 0 0) [] := ⟨none, 0, rfl, fun j d hj => by simp at hj⟩
theorem SDiag.unveil {o : Option Nat} {W : World} {v : Value} {ds : List D} (h : SDiag (veil o W) v ds) : SDiag W v ds := h.mono fun hu => (veil_cell.1 hu).2
theorem SDiag.veil_below {o : Option Nat} {W W' : World} {v : Value} {ds : List D} (h : SDiag (veil o W) v ds) (hb : Below W.heap.size W W') : SDiag (veil o W') v ds :=
  h.mono fun {b i u} hu => by
    obtain ⟨h1, h2⟩ := veil_cell.1 hu
    exact veil_cell.2 ⟨h1, (hb.cell (p := ⟨b, i, none⟩) (World.block_lt_of_cell? W _ h2)).trans h2⟩
theorem SDiag.veil_grow {o o' : Option Nat} {W W' : World} {v : Value} {ds : List D} (h : SDiag (veil o W) v ds) (hg : W.grownBy W' o) (ho : o' = o ∨ o' = some W.heap.size) : SDiag (veil o' W') v ds :=
  h.mono fun {b i u} hu => by
    obtain ⟨h1, h2⟩ := veil_cell.1 hu
    have hlt := World.block_lt_of_cell? W _ h2
    simp only at hlt
    refine veil_cell.2 ⟨?_, ?_⟩
    · rcases ho with rfl | rfl
      · exact h1
      · intro e
        simp at e
        omega
    · have hbk := hg.block b hlt (fun e => h1 e.symm)
      simp only [World.cell?] at h2 ⊢
      rw [hbk]
      exact h2

/-- Slices and what they hold, one by one. -/
def SPairs (W : World) (us : List Value) (gs : List (List D)) : Prop := ∀ q, SDiag W (us.getD q (.slice none 0 0)) (gs.getD q [])
theorem SPairs.at {W : World} {us : List Value} {gs : List (List D)} (h : SPairs W us gs) (k : Int) : SDiag W (atZ (.slice none 0 0) us k) (atZ [] gs k) := by
  unfold atZ
  split
  · exact SDiag.nil W
  · exact h _
theorem SPairs.snoc {W : World} {us : List Value} {gs : List (List D)} {v : Value} {d : List D} (h : SPairs W us gs) (hl : us.length = gs.length) (hv : SDiag W v d) : SPairs W (us ++ [v]) (gs ++ [d]) := by
  intro q
  rcases Nat.lt_trichotomy q us.length with hq | hq | hq
  · have := h q
    simp only [List.getD_eq_getElem?_getD] at this ⊢
    rwa [List.getElem?_append_left hq, List.getElem?_append_left (by omega)]
  · subst hq
    simp only [List.getD_eq_getElem?_getD]
    rw [List.getElem?_append_right (by omega), List.getElem?_append_right (by omega)]
    simpa [hl] using hv
  · simp only [List.getD_eq_getElem?_getD]
    rw [List.getElem?_eq_none (by simp; omega), List.getElem?_eq_none (by simp; omega)]
    exact SDiag.nil W

/-- The append of lists, and the building of a row of lists, kept whole. -/
noncomputable def app26 (args : Array Value) : Sem Next := do pure (.value (← Builtin.append_ #[26, 26] 26 args))
theorem builtin_app26 (cs : Array Bool) (args : Array Value) : builtin .append #[26, 26] 26 cs args = app26 args := rfl
theorem Tryd.info30 : (Tryd.prog.info? 30).map (fun i => (i.zero, i.size, i.bytes)) = some (some (.slice none 0 0), 1, 24) := by kernel_rfl
theorem SDiag.one {w : World} {v : Value} {ds : List D} (h : SDiag w v ds) : v.oneCell' = true := by
  obtain ⟨a, cap, rfl, _⟩ := h
  rfl
theorem app26_own {W : World} {base : Nat} {u : Value} {us : List Value} (h : W.ownsRow base 30 1 u us.length us) (hb : base ≤ W.heap.size) (hd : us.length < 1000) (v : Value) (hv : v.oneCell' = true) :
    ∃ u' w', (app26 #[u, .slice (some ⟨W.heap.size, 0, none⟩) 1 1]).run Tryd.prog (W.alloc (.cells #[v] 30)) = .ok (.value u') w' ∧
      w'.ownsRow base 30 1 u' (us ++ [v]).length (us ++ [v]) ∧ (W.alloc (.cells #[v] 30)).grownBy w' u.ownBlock ∧ (u'.ownBlock = u.ownBlock ∨ u'.ownBlock = some (W.heap.size + 1)) := by
  obtain ⟨i0, hi, hz0, hz1, hz2⟩ := info_parts Tryd.info30
  obtain ⟨v', w', hr, ho, hg, _, hq⟩ := run_append_own_at (P := Tryd.prog) (W.alloc (.cells #[v] 30)) base 26 26 30 i0 (.slice none 0 0) 1 24 Tryd.underlying26 hi hz0 hz1 hz2 rfl (by decide) u us.length us (h.alloc _) ⟨W.heap.size, 0, none⟩ 1 1 [v] rfl (fun j x hj => by
      rw [Addr.add_lit, Nat.zero_add, World.cell?_alloc_at _ _ _ _ rfl]
      match j, hj with
      | 0, hj => simpa using hj) (fun x hx => by simp at hx; subst hx; exact hv) (by unfold maxLen; omega) (by omega) (by simp; omega)
  refine ⟨v', w', ?_, by simpa using ho, hg, by simpa using hq⟩
  unfold app26
  simp only [Sem.run_bind, Sem.run_pure, Result.andThen_ok, hr]
end Go.Proofs.YtalopkplpbdgjaaDoor
