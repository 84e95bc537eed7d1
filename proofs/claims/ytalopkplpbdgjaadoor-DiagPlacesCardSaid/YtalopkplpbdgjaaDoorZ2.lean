/- Errors seen through a veil: a block that none of them is made of may change. -/
import Derived.Test.YtalopkplpbdgjaaDoorZ1
import Derived.Maps.AppendAt
namespace Go.Proofs.YtalopkplpbdgjaaDoor
open Go.RowKit Go.Shelf Go.Extern.Stop Go.Stop Go.Extern

/-- The world without a block. -/
def veil (o : Option Nat) (W : World) : World := match o with | none => W | some g => W.putObj g (.deferred none)

theorem veil_cell {o : Option Nat} {W : World} {b i : Nat} {u : Value} : (veil o W).cell? ⟨b, i, none⟩ = some u ↔ o ≠ some b ∧ W.cell? ⟨b, i, none⟩ = some u := by
  rcases o with _ | g
  · simp [veil]
  · by_cases h : b = g
    · subst h
      simp only [ne_eq, not_true_eq_false, false_and, iff_false]
      simp only [veil, World.cell?, World.putObj]
      by_cases hb : b < W.heap.size
      · simp [hb]
      · simp [hb]
    · have h1 : (veil (some g) W).heap[b]? = W.heap[b]? := World.putObj_heap_other h
      simp only [World.cell?, h1]
      simp [Ne.symm h]
@[simp] theorem veil_size {o : Option Nat} {W : World} : (veil o W).heap.size = W.heap.size := by
  rcases o with _ | g <;> simp [veil]

theorem Er.mono {w w' : World} (hc : ∀ {b i : Nat} {u : Value}, w.cell? ⟨b, i, none⟩ = some u → w'.cell? ⟨b, i, none⟩ = some u) : ∀ {n : Nat} {v : Value} {ds : List D}, Er w n v ds → Er w' n v ds
  | n + 1, v, ds, he => by
    unfold Er at he ⊢
    rcases he with ⟨b, k, l, c, hv, h0, h1, h2, r⟩ | ⟨b, tx, x, ls, cs, ds', hv, h0, h1, h2, hr, hd⟩ | ⟨b, s, cap, es, dss, hv, hp, hm, hl, h0, hs, hr, hd⟩
    · exact .inl ⟨b, k, l, c, hv, hc h0, hc h1, hc h2, r⟩
    · exact .inr (.inl ⟨b, tx, x, ls, cs, ds', hv, hc h0, hc h1, hc h2, Er.mono hc hr, hd⟩)
    · exact .inr (.inr ⟨b, s, cap, es, dss, hv, hp, hm, hl, hc h0, fun j p hj => hc (hs j p hj), fun j p d hj hd' => Er.mono hc (hr j p d hj hd'), hd⟩)
theorem EO.mono {w w' : World} {n : Nat} {v : Value} {ds : List D} (hc : ∀ {b i : Nat} {u : Value}, w.cell? ⟨b, i, none⟩ = some u → w'.cell? ⟨b, i, none⟩ = some u) (h : EO w n v ds) : EO w' n v ds := by
  rcases h with h | ⟨t, x, rfl, h⟩
  · exact .inl h
  · exact .inr ⟨t, x, rfl, h.mono hc⟩
theorem EO.unveil {o : Option Nat} {W : World} {n : Nat} {v : Value} {ds : List D} (h : EO (veil o W) n v ds) : EO W n v ds := h.mono fun hu => (veil_cell.1 hu).2
theorem EO.veil_below {o : Option Nat} {W W' : World} {n : Nat} {v : Value} {ds : List D} (h : EO (veil o W) n v ds) (hb : Below W.heap.size W W') : EO (veil o W') n v ds :=
  h.mono fun {b i u} hu => by
    obtain ⟨h1, h2⟩ := veil_cell.1 hu
    exact veil_cell.2 ⟨h1, (hb.cell (p := ⟨b, i, none⟩) (World.block_lt_of_cell? W _ h2)).trans h2⟩
theorem EO.veil_grow {o o' : Option Nat} {W W' : World} {n : Nat} {v : Value} {ds : List D} (h : EO (veil o W) n v ds) (hg : W.grownBy W' o) (ho : o' = o ∨ o' = some W.heap.size) : EO (veil o' W') n v ds :=
  h.mono fun {b i u} hu => by
    obtain ⟨h1, h2⟩ := veil_cell.1 hu
    have hlt := World.block_lt_of_cell? W _ h2
    simp only at hlt
    refine veil_cell.2 ⟨?_, ?_⟩
    · rcases ho with rfl | rfl
      · exact h1
      · intro e
        simp at e
        omega
    · have hbk := hg.block b hlt (fun e => h1 e.symm)
      simp only [World.cell?] at h2 ⊢
      rw [hbk]
      exact h2

def okO (o : Option Nat) (n : Nat) : Prop := ∀ g, o = some g → g < n
theorem veil_alloc {o : Option Nat} {W : World} (h : okO o W.heap.size) (b : Obj) : veil o (W.alloc b) = (veil o W).alloc b := by
  rcases o with _ | g
  · rfl
  · have hg := h g rfl
    have he : (W.heap.push b).setIfInBounds g (.deferred none) = (W.heap.setIfInBounds g (.deferred none)).push b := by
      apply Array.ext_getElem?
      intro i
      by_cases hi : i = g
      · subst hi
        rw [Array.getElem?_push, if_neg (by simp; omega)]
        simp [hg, Nat.lt_succ_of_lt hg]
      · rw [Array.getElem?_setIfInBounds_ne (Ne.symm hi)]
        simp only [Array.getElem?_push, Array.size_setIfInBounds]
        rw [Array.getElem?_setIfInBounds_ne (Ne.symm hi)]
    show ({ W with heap := W.heap.push b }).putObj g _ = _
    simp only [World.putObj, veil, World.alloc, he]

theorem new_veil (k l c : Int) (w : World) (o : Option Nat) (ho : okO o w.heap.size) : Calls Tryd.prog 24 #[.int .i64 k, .int .i64 l, .int .i64 c] w fun e w' => ∃ v, e = .returned v ∧ EO (veil o w') 1 v (told k l c) ∧ Below w.heap.size w w' := by
  by_cases hk : k = 0
  · subst hk
    exact (new_zero l c w).mono fun e w' ⟨he, hw⟩ => ⟨_, he, .inl ⟨rfl, by simp [told]⟩, by subst hw; exact Below.refl _ _⟩
  · refine (new_pos k l c w (by simpa using hk)).mono fun e w' ⟨he, hw⟩ => ⟨_, he, ?_, by rw [← hw]; exact (Below.refl _ w).alloc (Nat.le_refl _) _⟩
    subst hw
    rw [veil_alloc ho]
    have := er_new (veil o w) k l c hk
    rw [veil_size] at this
    exact .inr ⟨62, _, rfl, by rw [told, if_neg hk]; exact this⟩
theorem move_veil {w : World} {n : Nat} {v : Value} {ds : List D} (o : Option Nat) (ho : okO o w.heap.size) (h : EO (veil o w) n v ds) (ls cs : Int) : Calls Tryd.prog 21 #[v, .int .i64 ls, .int .i64 cs] w fun e w' => ∃ v', e = .returned v' ∧ EO (veil o w') (n + 1) v' (ds.map (mv ls cs)) ∧ Below w.heap.size w w' := by
  rcases h with ⟨rfl, rfl⟩ | ⟨t, x, rfl, h⟩
  · exact (move_nil ls cs w).mono fun e w' ⟨he, hw⟩ => ⟨_, he, .inl ⟨rfl, rfl⟩, by subst hw; exact Below.refl _ _⟩
  · refine (move_any t x ls cs w).mono fun e w' ⟨he, hw⟩ => ⟨_, he, ?_, by rw [← hw]; exact (Below.refl _ w).alloc (Nat.le_refl _) _⟩
    subst hw
    rw [veil_alloc ho]
    have := er_move h ls cs
    rw [veil_size] at this
    exact .inr ⟨75, _, rfl, this⟩

/-- The append of errors, kept whole. -/
noncomputable def app24 (args : Array Value) : Sem Next := do pure (.value (← Builtin.append_ #[24, 24] 24 args))
theorem builtin_app24 (cs : Array Bool) (args : Array Value) : builtin .append #[24, 24] 24 cs args = app24 args := rfl
theorem app24_own {W : World} {base : Nat} {u : Value} {vs : List Value} (h : W.ownsRow base 34 1 u vs.length vs) (hb : base ≤ W.heap.size) (hd : vs.length < 1000) (v : Value) (hv : v.oneCell' = true) :
    ∃ u' w', (app24 #[u, .slice (some ⟨W.heap.size, 0, none⟩) 1 1]).run Tryd.prog (W.alloc (.cells #[v] 34)) = .ok (.value u') w' ∧
      w'.ownsRow base 34 1 u' (vs ++ [v]).length (vs ++ [v]) ∧ (W.alloc (.cells #[v] 34)).grownBy w' u.ownBlock ∧ (u'.ownBlock = u.ownBlock ∨ u'.ownBlock = some (W.heap.size + 1)) := by
  obtain ⟨i0, hi, hz0, hz1, hz2⟩ := info_parts Tryd.info34
  obtain ⟨v', w', hr, ho, hg, _, hq⟩ := run_append_own_at (P := Tryd.prog) (W.alloc (.cells #[v] 34)) base 24 24 34 i0 .nilIface 1 16 Tryd.underlying24 hi hz0 hz1 hz2 rfl (by decide) u vs.length vs (h.alloc _) ⟨W.heap.size, 0, none⟩ 1 1 [v] rfl (fun j x hj => by
      rw [Addr.add_lit, Nat.zero_add, World.cell?_alloc_at _ _ _ _ rfl]
      match j, hj with
      | 0, hj => simpa using hj) (fun x hx => by simp at hx; subst hx; exact hv) (by unfold maxLen; omega) (by omega) (by simp; omega)
  refine ⟨v', w', ?_, by simpa using ho, hg, by simpa using hq⟩
  unfold app24
  simp only [Sem.run_bind, Sem.run_pure, Result.andThen_ok, hr]
end Go.Proofs.YtalopkplpbdgjaaDoor
