/- Appends of api.Diags to a row that is owned; what is made is in place, and no more than can be. -/
import Derived.Test.YtalopkplpbdgjaaDoorZ4
namespace Go.Proofs.YtalopkplpbdgjaaDoor
open Go.RowKit Go.Shelf Go.Extern.Stop Go.Stop Go.Extern

def Lists (n : Nat) (gs : List (List D)) : Prop := ∀ l ∈ gs, l.length ≤ n ∧ ∀ d ∈ l, inPlace d
theorem Lists.at {n : Nat} {gs : List (List D)} (h : Lists n gs) (k : Int) : (atZ [] gs k).length ≤ n ∧ ∀ d ∈ atZ [] gs k, inPlace d := by
  unfold atZ
  split
  · simp
  · rw [List.getD_eq_getElem?_getD]
    rcases hq : gs[k.toNat]? with _ | l
    · simp
    · exact h l (List.mem_of_getElem? hq)
theorem told_inPlace (k l c : Int) : ∀ d ∈ told k l c, inPlace d := by
  intro d hd
  unfold told at hd
  split at hd
  · simp at hd
  · simp at hd; subst hd; simp only [inPlace, clip]; omega
theorem Lists.step {n : Nat} {gs : List (List D)} (h : Lists n gs) (hn : 1 ≤ n) (d : Do4) : (stepD gs d).length ≤ n + n ∧ ∀ x ∈ stepD gs d, inPlace x := by
  unfold stepD
  split
  · have := told_len d.2.1 d.2.2.1 d.2.2.2
    exact ⟨by omega, told_inPlace _ _ _⟩
  · split
    · have := (h.at d.2.1).1
      refine ⟨by simp; omega, fun x hx => ?_⟩
      simp only [List.mem_map] at hx
      obtain ⟨y, _, rfl⟩ := hx
      exact mv_inPlace _ _ _
    · have h1 := h.at d.2.1
      have h2 := h.at d.2.2.1
      refine ⟨by simp; omega, fun x hx => ?_⟩
      rcases List.mem_append.1 hx with hx | hx
      · exact h1.2 x hx
      · exact h2.2 x hx
theorem genD_lists : ∀ (l : List Do4) (gs : List (List D)) (n : Nat), 1 ≤ n → Lists n gs → Lists (2 ^ l.length * n) (genD gs l)
  | [], gs, n, _, h => by simpa [genD] using h
  | d :: l, gs, n, hn, h => by
    have := genD_lists l (gs ++ [stepD gs d]) (n + n) (by omega) (fun x hx => by
      rcases List.mem_append.1 hx with hx | hx
      · exact ⟨Nat.le_trans (h x hx).1 (by omega), (h x hx).2⟩
      · simp at hx; subst hx; exact h.step hn d)
    have e : 2 ^ (d :: l).length * n = 2 ^ l.length * (n + n) := by
      rw [List.length_cons, Nat.pow_succ, Nat.mul_assoc, Nat.two_mul]
    rw [e]
    exact this
theorem genD_small (l : List Do4) (hl : l.length ≤ 9) : Lists 512 (genD [] l) := by
  have := genD_lists l [] 1 (Nat.le_refl _) (fun x hx => by simp at hx)
  intro x hx
  refine ⟨Nat.le_trans (this x hx).1 ?_, (this x hx).2⟩
  have h2 : 2 ^ l.length ≤ 2 ^ 9 := Nat.pow_le_pow_right (by decide) hl
  omega

theorem dcells_at : ∀ (ds : List D) (j : Nat) (u : Value), (dcells ds)[j]? = some u → ∃ q d, ds[q]? = some d ∧ ((j = q * 3 ∧ u = .int .i64 d.1) ∨ (j = q * 3 + 1 ∧ u = .int .i64 d.2.1) ∨ (j = q * 3 + 2 ∧ u = .int .i64 d.2.2))
  | [], j, u, h => by simp [dcells] at h
  | e :: ds, j, u, h => by
    have he : dcells (e :: ds) = .int .i64 e.1 :: .int .i64 e.2.1 :: .int .i64 e.2.2 :: dcells ds := rfl
    rw [he] at h
    match j, h with
    | 0, h => exact ⟨0, e, rfl, .inl ⟨rfl, by simpa using h.symm⟩⟩
    | 1, h => exact ⟨0, e, rfl, .inr (.inl ⟨rfl, by simpa using h.symm⟩)⟩
    | 2, h => exact ⟨0, e, rfl, .inr (.inr ⟨rfl, by simpa using h.symm⟩)⟩
    | j + 3, h =>
      obtain ⟨q, d, hq, hr⟩ := dcells_at ds j u (by simpa using h)
      exact ⟨q + 1, d, by simpa using hq, by rcases hr with ⟨h1, h2⟩ | ⟨h1, h2⟩ | ⟨h1, h2⟩ <;> simp only [h2, Value.int.injEq, true_and, and_true] <;> omega⟩
theorem dcells_append (a b : List D) : dcells (a ++ b) = dcells a ++ dcells b := by simp [dcells]
theorem dcells_one (ds : List D) : ∀ u ∈ dcells ds, u.oneCell' = true := by
  intro u hu
  obtain ⟨j, hj⟩ := List.mem_iff_getElem?.1 hu
  obtain ⟨q, d, _, hr⟩ := dcells_at ds j u hj
  rcases hr with ⟨_, rfl⟩ | ⟨_, rfl⟩ | ⟨_, rfl⟩ <;> rfl

/-- append(x, u...), x a row that is owned. -/
theorem app30_own {W : World} {base : Nat} {x u : Value} {ds es : List D} (h : W.ownsRow base 29 3 x ds.length (dcells ds)) (hu : SDiag W u es) (hb : base ≤ W.heap.size) (hd : ds.length + es.length ≤ 2000) :
    ∃ x' w', (app30 #[x, u]).run Tryd.prog W = .ok (.value x') w' ∧ w'.ownsRow base 29 3 x' (ds ++ es).length (dcells (ds ++ es)) ∧ W.grownBy w' x.ownBlock ∧ (x'.ownBlock = x.ownBlock ∨ x'.ownBlock = some W.heap.size) := by
  obtain ⟨i0, hi, hz0, hz1, hz2⟩ := info_parts Tryd.info29
  obtain ⟨a, cap, rfl, hc⟩ := hu
  rcases a with _ | a
  · obtain rfl : es = [] := by
      rcases es with _ | ⟨e, es⟩
      · rfl
      · obtain ⟨g, off, hg, _⟩ := hc 0 e rfl
        cases hg
    refine ⟨x, W, ?_, by simpa using h, ?_, .inl rfl⟩
    · have hz : ∀ (b : Option Addr) (n c : Nat), n ≤ c → (app30 #[.slice b n c, .slice none 0 cap]).run Tryd.prog W = .ok (.value (.slice b n c)) W := by
        intro b n c hnc
        unfold app30
        rcases b with _ | b
        · simp [Builtin.append_, run_underlying Tryd.underlying30, sizeOf, typeInfo, hi, Builtin.lenOf, Builtin.firstCells, hnc, Result.andThen]
        · simp [Builtin.append_, run_underlying Tryd.underlying30, sizeOf, typeInfo, hi, Builtin.lenOf, Builtin.firstCells, hnc, Result.andThen, storeCells]
      rcases h.2 with ⟨rfl, h0⟩ | ⟨g, cap', cur, rfl, hh⟩
      · exact hz none 0 0 (Nat.le_refl _)
      · exact hz _ _ _ hh.2.2.1
    · exact grown_of_below (Below.refl _ _) _
  · have hcells : ∀ j v, (dcells es)[j]? = some v → W.cell? (a.add j) = some v := by
      intro j v hj
      obtain ⟨q, d, hq, hr⟩ := dcells_at es j v hj
      obtain ⟨g, off, hg, h0, h1, h2⟩ := hc q d hq
      obtain rfl := Option.some.inj hg
      rw [Addr.add_lit]
      rcases hr with ⟨rfl, rfl⟩ | ⟨rfl, rfl⟩ | ⟨rfl, rfl⟩
      · exact h0
      · exact h1
      · exact h2
    obtain ⟨x', w', hr, ho, hg, _, hq⟩ := run_append_own_at (P := Tryd.prog) W base 30 30 29 i0 (.agg #[.int .i64 0, .int .i64 0, .int .i64 0]) 3 24 Tryd.underlying30 hi hz0 hz1 hz2 rfl (by decide) x ds.length (dcells ds) h a es.length cap (dcells es) (dcells_length es) hcells (dcells_one es) (by unfold maxLen; omega) (by omega) hb
    refine ⟨x', w', ?_, by rw [dcells_append, List.length_append]; exact ho, hg, hq⟩
    unfold app30
    simp only [Sem.run_bind, Sem.run_pure, Result.andThen_ok, hr]
end Go.Proofs.YtalopkplpbdgjaaDoor
