/- The document's Runs: the last row of rows grows in its place; whether two rows of rows are the same. -/
import Derived.Test.YtkiglnfapoifiaaDoorN3
import Derived.Laws.OwnMore
import Derived.OneCell
namespace Go.Proofs.YtkiglnfapoifiaaDoor
open Go.RowKit

/-- Rows of rows, the last one of which shares its block with none of the others. -/
def RwL (base : Nat) (W : World) (v : Value) (d : List (List Gly)) (c : List Gly) : Prop :=
  ∃ (ss : List SV) (s : SV), ss.length = d.length ∧ SOwn base W v (ss ++ [s]) ∧ (∀ (i : Nat) (s' : SV) (r : List Gly), ss[i]? = some s' → d[i]? = some r → GOwn base W (sv s') r ∧ ∀ g, (sv s).ownBlock = some g → (sv s').ownBlock ≠ some g) ∧ GOwn base W (sv s) c
theorem RwL.rws {base : Nat} {W : World} {v : Value} {d : List (List Gly)} {c : List Gly} (h : RwL base W v d c) : Rws base W v (d ++ [c]) := by
  obtain ⟨ss, s, hl, ho, hi, hc⟩ := h
  refine ⟨ss ++ [s], by simp [hl], ho, fun i s' r hs hr => ?_⟩
  by_cases hil : i < ss.length
  · rw [List.getElem?_append_left hil] at hs
    rw [List.getElem?_append_left (by omega)] at hr
    exact (hi i s' r hs hr).1
  · rw [List.getElem?_append_right (by omega)] at hs
    rw [List.getElem?_append_right (by omega), ← hl] at hr
    match hq : i - ss.length, hs, hr with
    | 0, hs, hr =>
      simp at hs hr
      subst hs hr
      exact hc
    | q + 1, hs, hr => simp at hs
theorem RwL.keep {base : Nat} {W W' : World} {v : Value} {d : List (List Gly)} {c : List Gly} (h : RwL base W v d c) (hb : Below W.heap.size W W') : RwL base W' v d c := by
  obtain ⟨ss, s, hl, ho, hi, hc⟩ := h
  exact ⟨ss, s, hl, ho.keep hb, fun i s' r hs hr => ⟨(hi i s' r hs hr).1.keep hb, (hi i s' r hs hr).2⟩, hc.keep hb⟩
/-- A new one begins. -/
theorem Rws.begin {base : Nat} {W : World} {v : Value} {rs : List (List Gly)} (h : Rws base W v rs) (hb : base ≤ W.heap.size) (hl : rs.length ≤ 500000) :
    ∃ v' w', (Builtin.append_ #[29, 29] 29 #[v, .slice (some ⟨W.heap.size, 0, none⟩) 1 1]).run Tryd.prog (W.alloc (.cells #[.slice none 0 0] 22)) = .ok v' w' ∧ RwL base w' v' rs [] ∧ Below base W w' := by
  obtain ⟨i0, hi0, hz0, hz1, hz2⟩ := info_parts infoS
  obtain ⟨ss, hsl, ho, hi⟩ := h
  have hb1 := below_lit W (.cells #[.slice none 0 0] 22)
  have h1 : SOwn base (W.alloc (.cells #[.slice none 0 0] 22)) v ss := ho.keep hb1
  obtain ⟨x', w', hrun, ho', hg, -⟩ := fapp fS_len fS_one (by decide) Tryd.underlying29 hi0 hz0 hz1 hz2 rfl (by decide) h1 (fs_lit fS_len W 22 [((none, 0, 0) : SV)]) (by simp; omega) (by simp; omega)
  refine ⟨x', w', hrun, ⟨ss, (none, 0, 0), hsl, ho', fun i s' r' hs' hr' => ⟨?_, fun g hgg => by cases hgg⟩, FOwn.nil _ _⟩, (hb1.mono hb).grown hg (by simp; omega) (fun k e => (h1.ty e).1)⟩
  have hk : GOwn base (W.alloc (.cells #[.slice none 0 0] 22)) (sv s') r' := (hi i s' r' hs' hr').keep hb1
  exact FOwn.apart hk hg (ty_apart hk h1 (by decide))
theorem flatV_fS_set (ss : List SV) (s s2 : SV) : (flatV fS (ss ++ [s])).set ss.length (sv s2) = flatV fS (ss ++ [s2]) := by
  have h : ∀ l : List SV, flatV fS l = l.map sv := fun l => by induction l with | nil => rfl | cons x l ih => rw [flatV_cons, ih]; rfl
  rw [h, h]
  simp
/-- The last one grows by one. -/
theorem RwL.grow {base : Nat} {W : World} {v : Value} {d : List (List Gly)} {c : List Gly} (h : RwL base W v d c) (z : Gly) (hb : base ≤ W.heap.size) (hl : c.length ≤ 500000) :
    ∃ g cap ac cc ax cx w3, v = .slice (some ⟨g, 0, none⟩) (d.length + 1) cap ∧ g < W.heap.size ∧ W.cell? ⟨g, d.length, none⟩ = some (.slice ac c.length cc) ∧
      (Builtin.append_ #[22, 22] 22 #[.slice ac c.length cc, .slice (some ⟨W.heap.size, 0, none⟩) 1 1]).run Tryd.prog (W.alloc (.cells #[.int .i32 z.1, .int .u8 z.2] 47)) = .ok (.slice ax (c.length + 1) cx) w3 ∧
      w3.cell? ⟨g, d.length, none⟩ = some (.slice ac c.length cc) ∧ w3.frozen? ⟨g, d.length, none⟩ = false ∧
      RwL base (w3.setCell ⟨g, d.length, none⟩ (.slice ax (c.length + 1) cx)) v d (c ++ [z]) ∧ Below base W (w3.setCell ⟨g, d.length, none⟩ (.slice ax (c.length + 1) cx)) := by
  obtain ⟨i0, hi0, hz0, hz1, hz2⟩ := info_parts infoG
  obtain ⟨ss, s, hsl, ho, hi, hc⟩ := h
  have hb1 := below_lit W (.cells #[.int .i32 z.1, .int .u8 z.2] 47)
  have ho1 : SOwn base (W.alloc (.cells #[.int .i32 z.1, .int .u8 z.2] 47)) v (ss ++ [s]) := ho.keep hb1
  have hc1 : GOwn base (W.alloc (.cells #[.int .i32 z.1, .int .u8 z.2] 47)) (sv s) c := hc.keep hb1
  obtain ⟨x', w3, hrun, o3, hg3, hq⟩ := fapp gcell_len gcell_one (by decide) Tryd.underlying22 hi0 hz0 hz1 hz2 rfl (by decide) hc1 (fs_lit gcell_len W 47 [z]) (by simp; omega) (by simp; omega)
  have ho3 : SOwn base w3 v (ss ++ [s]) := FOwn.apart ho1 hg3 (ty_apart ho1 hc1 (by decide))
  have hv : ∃ g cap, v = .slice (some ⟨g, 0, none⟩) (d.length + 1) cap := by
    rcases ho.2 with ⟨_, h0⟩ | ⟨g, cap, cur, hv, _⟩
    · simp at h0
    · refine ⟨g, cap, ?_⟩
      rw [hv, List.length_append, List.length_singleton, hsl]
  obtain ⟨g, cap, rfl⟩ := hv
  obtain ⟨ac, cc, hsc⟩ := (FOwn.sl gcell_len hc).len
  obtain ⟨ax, cx, hxc⟩ := (FOwn.sl gcell_len o3).len
  rw [List.length_append, List.length_singleton] at hxc
  have hlast : (flatV fS (ss ++ [s]))[d.length]? = some (sv s) := by
    have := flatV_at fS_len (ss ++ [s]) ss.length 0 s (sv s) (by simp) rfl
    rw [Nat.mul_one, Nat.add_zero, hsl] at this
    exact this
  have c0 := World.ownsRow.cells (g := g) ho rfl d.length (sv s) hlast
  have c3 := World.ownsRow.cells (g := g) ho3 rfl d.length (sv s) hlast
  rw [Addr.add_lit, Nat.zero_add] at c0 c3
  have hglt := World.block_lt_of_cell? W _ c0
  obtain ⟨hbg, cur, hcur⟩ := ho3.ty (g := g) rfl
  have hfz : w3.frozen? ⟨g, d.length, none⟩ = false := by
    have hlt : d.length < cur.size := by
      have := c3
      simp only [World.cell?, hcur] at this
      simp at this
      exact (Array.getElem?_eq_some_iff.1 this).1
    simp only [World.frozen?, hcur]
    simp
  have hst := World.ownsRow.stored (show w3.ownsRow base _ 1 (.slice (some ⟨g, 0, none⟩) (d.length + 1) cap) (d.length + 1) (flatV fS (ss ++ [s])) from by
    have h := ho3
    unfold SOwn FOwn at h
    rw [List.length_append, List.length_singleton, hsl] at h
    exact h) d.length x'
  rw [hsc] at c0 c3 hrun
  rw [hxc] at hrun o3 hq hst
  refine ⟨g, cap, ac, cc, ax, cx, w3, rfl, hglt, c0, hrun, c3, hfz, ⟨ss, (ax, c.length + 1, cx), hsl, ?_, fun i s' r hs hr => ⟨?_, fun g' hg' => ?_⟩, ?_⟩, ?_⟩
  · have h := hst.1
    have e := flatV_fS_set ss s (ax, c.length + 1, cx)
    rw [hsl] at e
    rw [show (Value.slice ax (c.length + 1) cx) = sv (ax, c.length + 1, cx) from rfl, e] at h
    unfold SOwn FOwn
    rw [List.length_append, List.length_singleton, hsl]
    exact h
  · obtain ⟨hk, hne⟩ := hi i s' r hs hr
    have hk1 : GOwn base (W.alloc (.cells #[.int .i32 z.1, .int .u8 z.2] 47)) (sv s') r := hk.keep hb1
    have hk3 : GOwn base w3 (sv s') r := FOwn.apart hk1 hg3 (by
      cases hx : (sv s').ownBlock with
      | none => exact .inl rfl
      | some g' => exact .inr fun e => hne g' e.symm hx)
    refine ownsRow_setCell_other hk3 ?_ _
    rcases ty_apart hk3 ho3 (by decide) with h0 | h0
    · rw [h0]; simp
    · exact h0
  · obtain ⟨hk, hne⟩ := hi i s' r hs hr
    rcases hq with hq | hq
    · have e : (sv s).ownBlock = some g' := hq.symm.trans hg'
      exact hne g' e
    · intro e
      have h1 := (World.ownsRow.lt hk g' e).2
      have h2 : some g' = some (W.alloc (.cells #[.int .i32 z.1, .int .u8 z.2] 47)).heap.size := hg'.symm.trans hq
      simp at h2
      omega
  · refine ownsRow_setCell_other o3 ?_ _
    rcases ty_apart o3 ho3 (by decide) with h0 | h0
    · rw [h0]; simp
    · exact h0
  · exact ((hb1.mono hb).grown hg3 (by simp; omega) (fun k e => (hc1.ty e).1)).setCell hbg _
end Go.Proofs.YtkiglnfapoifiaaDoor
