/- Rows of texts; whether two texts are one; a macro's arguments. -/
import Derived.Test.YteckiifnldcjbaaDoorK3
namespace Go.Proofs.YteckiifnldcjbaaDoor
open Go.RowKit

def scell (b : List UInt8) : List Value := [.string ⟨b.toArray⟩]
theorem scell_len (b : List UInt8) : (scell b).length = 1 := rfl
theorem scell_one (b : List UInt8) : ∀ u ∈ scell b, u.oneCell' = true := by
  intro u hu
  simp [scell] at hu
  rw [hu]; rfl
abbrev Ss (w : World) (v : Value) (l : List (List UInt8)) : Prop := Fs 1 scell w v l
abbrev SOwn (base : Nat) (W : World) (x : Value) (l : List (List UInt8)) : Prop := FOwn 9 1 scell base W x l
theorem infoS : (Tryd.prog.info? 9).map (fun i => (i.zero, i.size, i.bytes)) = some (some (.string ⟨#[]⟩), 1, 16) := by kernel_rfl
noncomputable def appS (args : Array Value) : Sem Next := do pure (.value (← Builtin.append_ #[23, 23] 23 args))
theorem builtin_appS (cs : Array Bool) (args : Array Value) : builtin .append #[23, 23] 23 cs args = appS args := rfl
theorem appS_own {base : Nat} {W : World} {x u : Value} {l m : List (List UInt8)} (h : SOwn base W x l) (hu : Ss W u m) (hb : base ≤ W.heap.size) (hd : l.length + m.length ≤ 1000000) :
    ∃ x' w', (appS #[x, u]).run Tryd.prog W = .ok (.value x') w' ∧ SOwn base w' x' (l ++ m) ∧ W.grownBy w' x.ownBlock ∧ (x'.ownBlock = x.ownBlock ∨ x'.ownBlock = some W.heap.size) := by
  obtain ⟨i0, hi, hz0, hz1, hz2⟩ := info_parts infoS
  obtain ⟨x', w', hr, r⟩ := fapp scell_len scell_one (by decide) Tryd.underlying23 hi hz0 hz1 hz2 rfl (by decide) h hu hb hd
  refine ⟨x', w', ?_, r⟩
  unfold appS
  simp only [Sem.run_bind, Sem.run_pure, Result.andThen_ok, hr]
/-- One more. -/
theorem push_own {base : Nat} {W : World} {v : Value} {acc : List (List UInt8)} (h : SOwn base W v acc) (hb : base ≤ W.heap.size) (x : List UInt8) (hd : acc.length ≤ 500000) :
    ∃ v' w2, (appS #[v, .slice (some ⟨W.heap.size, 0, none⟩) 1 1]).run Tryd.prog (W.alloc (.cells #[.string ⟨x.toArray⟩] 9)) = .ok (.value v') w2 ∧ SOwn base w2 v' (acc ++ [x]) ∧ Below base W w2 ∧ W.heap.size ≤ w2.heap.size := by
  have b1 := below_lit W (.cells #[.string ⟨x.toArray⟩] 9)
  have h1 := h.keep b1
  obtain ⟨v', w2, hrun, ho, hg, -⟩ := appS_own h1 (fs_lit scell_len W 9 [x]) (by simp; omega) (by simp; omega)
  have hz := hg.size
  refine ⟨v', w2, hrun, ho, (b1.mono hb).grown hg (by simp; omega) (fun j e => (h1.ty e).1), ?_⟩
  simp at hz
  omega
theorem Ss.at {w : World} {a : Option Addr} {k cap : Nat} {l : List (List UInt8)} (h : Ss w (.slice a k cap) l) {j : Nat} {x : List UInt8} (hj : l[j]? = some x) :
    ∃ b off, a = some ⟨b, off, none⟩ ∧ w.cell? ⟨b, off + j, none⟩ = some (.string ⟨x.toArray⟩) := by
  obtain ⟨a', cap', hv, _, hr⟩ := h
  injection hv with h1 h2 h3
  subst h1
  obtain ⟨b, off, rfl, h0⟩ := hr j x hj
  have := h0 0 _ rfl
  rw [Nat.mul_one] at this
  exact ⟨b, off, rfl, this⟩

/-- '==' and '!=' of texts, kept whole. -/
noncomputable def eqlS (a c : Value) : Sem Value := binOp .eql 9 a c
theorem binop_eqlS (a c : Value) : binOp .eql 9 a c = eqlS a c := rfl
noncomputable def neqS (a c : Value) : Sem Value := binOp .neq 9 a c
theorem binop_neqS (a c : Value) : binOp .neq 9 a c = neqS a c := rfl
theorem eqlS_run (a c : List UInt8) (W : World) : (eqlS (.string ⟨a.toArray⟩) (.string ⟨c.toArray⟩)).run Tryd.prog W = .ok (.bool (decide (a = c))) W := by
  rw [← str_eq]
  unfold eqlS
  simp [go_sem]
  exact bool_of_iff (by simp)
theorem neqS_run (a c : List UInt8) (W : World) : (neqS (.string ⟨a.toArray⟩) (.string ⟨c.toArray⟩)).run Tryd.prog W = .ok (.bool (!decide (a = c))) W := by
  rw [← str_eq]
  unfold neqS
  simp [go_sem]
  exact bool_of_iff (by simp)
end Go.Proofs.YteckiifnldcjbaaDoor
