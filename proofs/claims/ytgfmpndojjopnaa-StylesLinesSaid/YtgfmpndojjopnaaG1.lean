/- Slices of glyphs; Width in the program and in the document's answer; whether two rows are the same. -/
import Derived.Test.YtgfmpndojjopnaaG0
import Derived.Test.YtgfmpndojjopnaaW7
import Derived.Test.YtgfmpndojjopnaaGx
namespace Go.Proofs.Ytgfmpndojjopnaa
open Go.RowKit

/-- A glyph: its rune, and how it is set. -/
abbrev Gly := Int × Int
def gcell (g : Gly) : List Value := [.int .i32 g.1, .int .u8 g.2]
theorem gcell_len (g : Gly) : (gcell g).length = 2 := rfl
theorem gcell_one (g : Gly) : ∀ u ∈ gcell g, u.oneCell' = true := by
  intro u hu
  simp only [gcell, List.mem_cons, List.not_mem_nil, or_false] at hu
  rcases hu with rfl | rfl <;> rfl
abbrev Gs (w : World) (v : Value) (l : List Gly) : Prop := Fs 2 gcell w v l
abbrev GOwn (base : Nat) (W : World) (x : Value) (l : List Gly) : Prop := FOwn 41 2 gcell base W x l
theorem Gs.at {w : World} {a : Option Addr} {k cap : Nat} {l : List Gly} (h : Gs w (.slice a k cap) l) {j : Nat} {g : Gly} (hj : l[j]? = some g) :
    ∃ b off, a = some ⟨b, off, none⟩ ∧ w.cell? ⟨b, off + j * 2, none⟩ = some (.int .i32 g.1) ∧ w.cell? ⟨b, off + j * 2 + 1, none⟩ = some (.int .u8 g.2) ∧ b < w.heap.size := by
  obtain ⟨a', cap', hv, _, hr⟩ := h
  injection hv with h1 h2 h3
  subst h1
  obtain ⟨b, off, rfl, h0⟩ := hr j g hj
  have c0 := h0 0 _ rfl
  have c1 := h0 1 _ rfl
  exact ⟨b, off, rfl, c0, c1, World.block_lt_of_cell? w _ c0⟩

theorem infoG : (Try.prog.info? 41).map (fun i => (i.zero, i.size, i.bytes)) = some (some (.agg #[.int .i32 0, .int .u8 0]), 2, 8) := by kernel_rfl

/-- All widths. -/
def gsm (l : List Gly) : Int := sm (l.map (·.1))
theorem gsm_take {l : List Gly} {j : Nat} {g : Gly} (h : l[j]? = some g) : gsm (l.take (j + 1)) = gsm (l.take j) + wd g.1 := by
  unfold gsm
  rw [List.map_take, List.map_take]
  exact sm_take_succ (by simp [h])
theorem gsm_bd (l : List Gly) : 0 ≤ gsm l ∧ gsm l ≤ 2 * l.length := by
  have := sm_bd (l.map (·.1))
  rw [List.length_map] at this
  exact this
theorem gsm_app (a b : List Gly) : gsm (a ++ b) = gsm a + gsm b := by simp [gsm, sm_app]

theorem eqG (k l k' l' : Int) (w : World) : (Op.equalIn 10000 41 (.agg #[.int .i32 k, .int .u8 l]) (.agg #[.int .i32 k', .int .u8 l'])).run Try.prog w = .ok (k == k' && l == l') w := by
  rw [run_equalIn_agg w 9999 41 _ _ (by kernel_rfl) (by kernel_rfl)]
  have h3 : ((Try.prog.fieldsOf 41).toList.map fun f => (f.name != "_", f.type, f.offset)) = [(true, 21, 0), (true, 5, 1)] := by kernel_rfl
  generalize (Try.prog.fieldsOf 41).toList = fs at *
  rcases fs with _ | ⟨f0, _ | ⟨f1, _ | ⟨f2, fs⟩⟩⟩
  · simp at h3
  · simp at h3
  · simp only [List.map_cons, List.map_nil, List.cons.injEq, Prod.mk.injEq, and_true, bne_iff_ne, ne_eq] at h3
    obtain ⟨⟨n0, t0, o0⟩, ⟨n1, t1, o1⟩⟩ := h3
    have e0 : ∀ (a b : Int) (w : World), (Op.equalIn 9999 21 (.int .i32 a) (.int .i32 b)).run Try.prog w = .ok (a == b) w := fun a b w => run_equalIn_int w 9998 21 .i32 .i32 a b Try.underlying21
    have e1 : ∀ (a b : Int) (w : World), (Op.equalIn 9999 5 (.int .u8 a) (.int .u8 b)).run Try.prog w = .ok (a == b) w := fun a b w => run_equalIn_int w 9998 5 .u8 .u8 a b Try.underlying5
    simp [go_sem, Op.eqFields, n0, n1, t0, t1, o0, o1, e0, e1]
    by_cases a1 : k = k' <;> by_cases a2 : l = l' <;> simp [a1, a2]
  · simp at h3
theorem neqG_any (k l k' l' : Int) (w : World) : (binOp .neq 41 (.agg #[.int .i32 k, .int .u8 l]) (.agg #[.int .i32 k', .int .u8 l'])).run Try.prog w = .ok (.bool (!(k == k' && l == l'))) w := by
  rw [run_neq_struct, eqG]
  rfl
theorem neqG_same (k l : Int) (w : World) : (binOp .neq 41 (.agg #[.int .i32 k, .int .u8 l]) (.agg #[.int .i32 k, .int .u8 l])).run Try.prog w = .ok (.bool false) w := by
  rw [neqG_any]
  simp
theorem neqG_other {x y : Gly} (h : x ≠ y) (w : World) : (binOp .neq 41 (.agg #[.int .i32 x.1, .int .u8 x.2]) (.agg #[.int .i32 y.1, .int .u8 y.2])).run Try.prog w = .ok (.bool true) w := by
  rw [neqG_any]
  have : (x.1 == y.1 && x.2 == y.2) = false := by
    rw [Bool.eq_false_iff]
    intro e
    simp only [Bool.and_eq_true, beq_iff_eq] at e
    exact h (Prod.ext e.1 e.2)
  rw [this]
  rfl

end Go.Proofs.Ytgfmpndojjopnaa
