/- The document's less and Sorted: what they need. -/
import Derived.Test.YtalopkplpbdgjaaDoorSf
import Derived.Test.YtalopkplpbdgjaaDoorZ7
namespace Go.Proofs.YtalopkplpbdgjaaDoor
open Go.RowKit Go.Shelf Go.Extern.Stop Go.Stop Go.Extern

set_option maxRecDepth 100000 in
set_option maxHeartbeats 1000000 in
theorem less_any (x y : D) (w : World) : Calls Tryd.prog 35 #[.agg #[.int .i64 x.1, .int .i64 x.2.1, .int .i64 x.2.2], .agg #[.int .i64 y.1, .int .i64 y.2.1, .int .i64 y.2.2]] w fun e w' => e = .returned (.bool (decide (cmpD x y < 0))) ∧ Below w.heap.size w w' := by
  obtain ⟨k, l, c⟩ := x
  obtain ⟨k', l', c'⟩ := y
  simp only
  have hD : decide (cmpD (k, l, c) (k', l', c') < 0) = decide (l < l' ∨ (l = l' ∧ (c < c' ∨ (c = c' ∧ k < k')))) := decide_eq_decide.2 (cmpD_lt _ _)
  rw [hD]
  clear hD
  have bW : Below w.heap.size w ((w.alloc (.cells #[.int .i64 k, .int .i64 l, .int .i64 c] 29)).alloc (.cells #[.int .i64 k', .int .i64 l', .int .i64 c'] 29)) := ((Below.refl _ w).alloc (Nat.le_refl _) _).alloc (by simp) _
  have BW := Lib.hid bW
  clear bW
  by_cases h1 : l = l'
  · subst h1
    by_cases h2 : c = c'
    · subst h2
      have e : decide (l < l ∨ (l = l ∧ (c < c ∨ (c = c ∧ k < k')))) = decide (k < k') := decide_eq_decide.2 (by omega)
      rw [e]
      clear e
      go_enter Tryd.func35, Tryd.ntmps35
      go_wp2_with fail
      go_ret
      exact ⟨rfl, BW.out⟩
    · have h2b : (c == c') = false := by simpa using h2
      have e : decide (l < l ∨ (l = l ∧ (c < c' ∨ (c = c' ∧ k < k')))) = decide (c < c') := decide_eq_decide.2 (by omega)
      rw [e]
      clear e
      go_enter Tryd.func35, Tryd.ntmps35
      go_wp2_with fail
      go_ret
      exact ⟨rfl, BW.out⟩
  · have h1b : (l == l') = false := by simpa using h1
    have e : decide (l < l' ∨ (l = l' ∧ (c < c' ∨ (c = c' ∧ k < k')))) = decide (l < l') := decide_eq_decide.2 (by omega)
    rw [e]
    clear e
    go_enter Tryd.func35, Tryd.ntmps35
    go_wp2_with fail
    go_ret
    exact ⟨rfl, BW.out⟩

noncomputable def frontD (x hi : Value) : Sem Value := Instr.slice 30 x none (some hi) none
theorem slice_frontD (x hi : Value) : Instr.slice 30 x none (some hi) none = frontD x hi := rfl
noncomputable def backD (x lo : Value) : Sem Value := Instr.slice 30 x (some lo) none none
theorem slice_backD (x lo : Value) : Instr.slice 30 x (some lo) none none = backD x lo := rfl
theorem OwnD.cap {base : Nat} {W : World} {v : Value} {ds : List D} (h : OwnD base W v ds) : ∃ a cap, v = .slice a ds.length cap ∧ ds.length ≤ cap := by
  have h' := h
  rcases h.2 with ⟨rfl, h0⟩ | ⟨g, cap, cur, rfl, hh⟩
  · exact ⟨none, 0, by rw [h0], by omega⟩
  · exact ⟨_, cap, rfl, hh.2.2.1⟩
theorem OwnD.le {base base' : Nat} {W : World} {v : Value} {ds : List D} (h : OwnD base W v ds) (hb : base' ≤ base) : OwnD base' W v ds := by
  refine ⟨h.1, ?_⟩
  rcases h.2 with ⟨rfl, h0⟩ | ⟨g, cap, cur, rfl, hh⟩
  · exact .inl ⟨rfl, h0⟩
  · exact .inr ⟨g, cap, cur, rfl, Nat.le_trans hb hh.1, hh.2⟩
theorem frontD_run {base : Nat} {w : World} {v : Value} {ds : List D} (h : OwnD base w v ds) (k : Nat) (hk : k ≤ ds.length) :
    ∃ u, (∀ W : World, (frontD v (.int .i64 (k : Int))).run Tryd.prog W = .ok u W) ∧ SDiag w u (ds.take k) := by
  obtain ⟨i0, hi, hz0, hz1, hz2⟩ := info_parts Tryd.info29
  obtain ⟨a, cap, rfl, hcap⟩ := h.cap
  obtain ⟨a1, cap1, e1, hr⟩ := h.sd
  cases e1
  refine ⟨.slice a k cap, fun W => ?_, ?_⟩
  · have h1 : k ≤ cap := by omega
    unfold frontD
    simp [Instr.slice, Instr.sliceBounds, Instr.sliceBound, asIntOf, run_underlying Tryd.underlying30, h1, sizeOf, typeInfo, hi]
    intro _
    cases a with
    | none => rfl
    | some a => rfl
  · have hl : (ds.take k).length = k := by rw [List.length_take]; omega
    refine ⟨a, cap, by rw [hl], fun j d hj => ?_⟩
    have hj1 : j < k := by
      have := (List.getElem?_eq_some_iff.1 hj).1
      omega
    rw [List.getElem?_take, if_pos hj1] at hj
    exact hr j d hj
theorem backD_run {base : Nat} {w : World} {v : Value} {ds : List D} (h : OwnD base w v ds) (k : Nat) (hk : k ≤ ds.length) :
    ∃ u, (∀ W : World, (backD v (.int .i64 (k : Int))).run Tryd.prog W = .ok u W) ∧ SDiag w u (ds.drop k) := by
  obtain ⟨i0, hi, hz0, hz1, hz2⟩ := info_parts Tryd.info29
  obtain ⟨a, cap, rfl, hcap⟩ := h.cap
  obtain ⟨a1, cap1, e1, hr⟩ := h.sd
  cases e1
  refine ⟨.slice (if cap = k then a else a.map (·.add (k * 3))) (ds.length - k) (cap - k), fun W => ?_, ?_⟩
  · have h1 : k ≤ cap := by omega
    unfold backD
    simp [Instr.slice, Instr.sliceBounds, Instr.sliceBound, asIntOf, run_underlying Tryd.underlying30, h1, hk, sizeOf, typeInfo, hi, hz1]
  · have hl : (ds.drop k).length = ds.length - k := by rw [List.length_drop]
    refine ⟨_, _, by rw [hl], fun j d hj => ?_⟩
    have hj1 : j < ds.length - k := by
      have := (List.getElem?_eq_some_iff.1 hj).1
      omega
    rw [List.getElem?_drop] at hj
    obtain ⟨g, off, rfl, h0, h1, h2⟩ := hr (k + j) d hj
    rw [if_neg (by omega)]
    have e : off + k * 3 + j * 3 = off + (k + j) * 3 := by omega
    refine ⟨g, off + k * 3, ?_, ?_, ?_, ?_⟩
    · rw [Option.map_some, Addr.add_lit]
    · rw [e]; exact h0
    · rw [e]; exact h1
    · rw [e]; exact h2

/-- One put between. -/
def insD (es : List D) (k : Nat) (x : D) : List D := es.take k ++ [x] ++ es.drop k
theorem insD_length (es : List D) (k : Nat) (x : D) (hk : k ≤ es.length) : (insD es k x).length = es.length + 1 := by
  unfold insD
  simp
  omega
theorem insD_perm (es : List D) (k : Nat) (x : D) : (insD es k x).Perm (es ++ [x]) := by
  unfold insD
  have h : (es.take k ++ ([x] ++ es.drop k)).Perm (es.take k ++ (es.drop k ++ [x])) := List.Perm.append_left _ List.perm_append_comm
  rw [← List.append_assoc, ← List.append_assoc, List.take_append_drop] at h
  exact h
theorem at_insD (es : List D) (k : Nat) (x : D) (hk : k ≤ es.length) (p : Nat) : at' (insD es k x) p = if p < k then at' es p else if p = k then x else at' es (p - 1) := by
  unfold at' insD
  simp only [List.getD_eq_getElem?_getD, List.getElem?_append, List.length_append, List.length_take, List.length_cons, List.length_nil, List.getElem?_take, List.getElem?_drop, Nat.min_eq_left hk]
  have e1 : k + (0 + 1) = k + 1 := by omega
  rw [e1]
  by_cases h1 : p < k
  · simp only [if_pos h1, if_pos (show p < k + 1 by omega)]
  · by_cases h2 : p = k
    · subst h2
      simp
    · have h3 : ¬ p < k + 1 := by omega
      simp only [if_neg h1, if_neg h2, if_neg h3]
      congr 2
      omega
theorem so_insD {es : List D} {k : Nat} {x : D} (hk : k ≤ es.length) (h : So es 0 es.length) (hlo : k = 0 ∨ ∃ q, q + 1 = k ∧ ¬ cmpD x (at' es q) < 0) (hhi : ∀ p, k ≤ p → p < es.length → cmpD x (at' es p) < 0) : So (insD es k x) 0 (insD es k x).length := by
  rw [insD_length es k x hk]
  intro p q h1 h2 h3
  rw [at_insD es k x hk, at_insD es k x hk]
  by_cases hq : q < k
  · rw [if_pos (by omega), if_pos hq]
    exact h p q h1 h2 (by omega)
  · rw [if_neg hq]
    by_cases hq2 : q = k
    · rw [if_pos hq2, if_pos (by omega)]
      rcases hlo with e | ⟨r, e, hr⟩
      · omega
      · exact leD_trans (h.le (p := p) (q := r) (by omega) (by omega) (by omega)) hr
    · rw [if_neg hq2]
      by_cases hp : p < k
      · rw [if_pos hp]
        exact h.le (by omega) (by omega) (by omega)
      · rw [if_neg hp]
        by_cases hp2 : p = k
        · rw [if_pos hp2]
          exact leD_of_lt (hhi _ (by omega) (by omega))
        · rw [if_neg hp2]
          exact h.le (by omega) (by omega) (by omega)

/-- What a round of Sorted makes. -/
theorem ins_round {b0 : Nat} {wx : World} {v : Value} {es : List D} (k : Nat) (x : D) (h : OwnD b0 wx v es) (hk : k ≤ es.length) (hl : es.length ≤ 1000) :
    ∃ u1 x1 w1 x2 w2 u2 x3 w3, (∀ W : World, (frontD v (.int .i64 (k : Int))).run Tryd.prog W = .ok u1 W) ∧ (app30 #[.slice none 0 0, u1]).run Tryd.prog wx = .ok (.value x1) w1 ∧ Below wx.heap.size wx w1 ∧
      (app30 #[x1, .slice (some ⟨w1.heap.size, 0, none⟩) 1 1]).run Tryd.prog (w1.alloc (.cells #[.int .i64 x.1, .int .i64 x.2.1, .int .i64 x.2.2] 29)) = .ok (.value x2) w2 ∧
      (∀ W : World, (backD v (.int .i64 (k : Int))).run Tryd.prog W = .ok u2 W) ∧ (app30 #[x2, u2]).run Tryd.prog w2 = .ok (.value x3) w3 ∧ OwnD wx.heap.size w3 x3 (insD es k x) ∧ Below wx.heap.size wx w3 := by
  obtain ⟨u1, f1, s1⟩ := frontD_run h k hk
  obtain ⟨u2, f2, s2⟩ := backD_run h k hk
  have l1 : (es.take k).length = k := by rw [List.length_take]; omega
  have l2 : (es.drop k).length = es.length - k := by rw [List.length_drop]
  obtain ⟨x1, w1, k1, o1, b1⟩ := app_ownD (OwnD.nil wx.heap.size wx) s1 (Nat.le_refl _) (by rw [l1]; simp; omega)
  rw [List.nil_append] at o1
  have ba : Below w1.heap.size w1 (w1.alloc (.cells #[.int .i64 x.1, .int .i64 x.2.1, .int .i64 x.2.2] 29)) := (Below.refl _ _).alloc (Nat.le_refl _) _
  have b1a := b1.trans (ba.mono b1.size)
  obtain ⟨x2, w2, k2, o2, b2⟩ := app_ownD (o1.below ba) (SDiag.new (d := x) (heap_alloc_new w1 _)) b1a.size (by rw [l1]; simp; omega)
  have b2a := b1a.trans b2
  obtain ⟨x3, w3, k3, o3, b3⟩ := app_ownD o2 (s2.below b2a) b2a.size (by rw [List.length_append, l1, l2]; simp; omega)
  exact ⟨u1, x1, w1, x2, w2, u2, x3, w3, f1, k1, b1, k2, f2, k3, o3, b2a.trans b3⟩
end Go.Proofs.YtalopkplpbdgjaaDoor
