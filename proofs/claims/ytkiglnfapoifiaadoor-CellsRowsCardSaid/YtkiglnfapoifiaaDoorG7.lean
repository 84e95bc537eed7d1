/- Rows that are made, and copied into; Repeat; Blank. -/
import Derived.Test.YtkiglnfapoifiaaDoorG4
import Derived.Laws.CopyOwn
import Derived.Laws.MakeOwn
namespace Go.Proofs.YtkiglnfapoifiaaDoor
open Go.RowKit

def zg : Gly := (0, 0)
def bg : Gly := (32, 0)
/-- The cells of k blanks, and of m glyphs that are zero. -/
def rowC (k m : Nat) : List Value := flatV gcell (List.replicate k bg ++ List.replicate m zg)
theorem rowC_len (k m : Nat) : (rowC k m).length = (k + m) * 2 := by
  unfold rowC
  rw [flatV_len gcell_len]
  simp
theorem made_row (n : Nat) : madeCells #[.int .i32 0, .int .u8 0] (n * 2) = (rowC 0 n).toArray := by
  apply Array.ext'
  apply List.ext_getElem?
  intro i
  by_cases h : i < n * 2
  · have hl : (List.replicate 0 bg ++ List.replicate n zg)[i / 2]? = some zg := by
      simp only [List.replicate_zero, List.nil_append]
      rw [List.getElem?_replicate, if_pos (by omega)]
    have hm : (madeCells #[.int .i32 0, .int .u8 0] (n * 2)).toList[i]? = some (#[Value.int .i32 0, .int .u8 0][i % 2]!) := by
      rw [List.getElem?_eq_getElem (by simp [madeCells]; omega)]
      simp [madeCells]
    rw [hm]
    show _ = (rowC 0 n)[i]?
    have hd : i = i / 2 * 2 + i % 2 := by omega
    rcases Nat.mod_two_eq_zero_or_one i with h0 | h1
    · rw [h0]
      rw [h0] at hd
      have := flatV_at gcell_len _ (i / 2) 0 zg (.int .i32 0) hl rfl
      rw [← hd] at this
      exact this.symm
    · rw [h1]
      rw [h1] at hd
      have := flatV_at gcell_len _ (i / 2) 1 zg (.int .u8 0) hl rfl
      rw [← hd] at this
      exact this.symm
  · rw [List.getElem?_eq_none (by simp [madeCells]; omega), List.getElem?_eq_none (by show (rowC 0 n).length ≤ i; rw [rowC_len]; omega)]
theorem rowC_step (k q m : Nat) (hm : m ≤ q) : (rowC k q).take (k * 2) ++ flatV gcell (List.replicate m bg) ++ (rowC k q).drop (k * 2 + (flatV gcell (List.replicate m bg)).length) = rowC (k + m) (q - m) := by
  have hA : (flatV gcell (List.replicate k bg)).length = k * 2 := by rw [flatV_len gcell_len]; simp
  have hM : (flatV gcell (List.replicate m bg)).length = m * 2 := by rw [flatV_len gcell_len]; simp
  have hZ : (flatV gcell (List.replicate m zg)).length = m * 2 := by rw [flatV_len gcell_len]; simp
  have hq : List.replicate q zg = List.replicate m zg ++ List.replicate (q - m) zg := by rw [List.replicate_append_replicate]; congr 1; omega
  rw [hM]
  unfold rowC
  rw [flatV_app, flatV_app, hq, flatV_app, ← hA, List.take_left, ← List.drop_drop, List.drop_left, ← hZ, List.drop_left]
  rw [← List.replicate_append_replicate, flatV_app]

/-- 'make([]api.Glyph, n)', 'copy' of glyphs, kept whole. -/
noncomputable def makeG (a b : Value) : Sem Value := Instr.makeSlice 22 a b
theorem make_makeG (a b : Value) : Instr.makeSlice 22 a b = makeG a b := rfl
noncomputable def copyG (args : Array Value) : Sem Next := do pure (.value (← Builtin.copy_ #[22, 22] 3 args))
theorem builtin_copyG (cs : Array Bool) (args : Array Value) : builtin .copy #[22, 22] 3 cs args = copyG args := rfl
theorem makeG_run (W : World) (n : Nat) (hn : n ≤ 100000) : (makeG (.int .i64 (n : Int)) (.int .i64 (n : Int))).run Tryd.prog W = .ok (.slice (some ⟨W.heap.size, 0, none⟩) n n) (W.alloc (.cells (rowC 0 n).toArray 47)) := by
  obtain ⟨i0, hi, hz0, hz1, hz2⟩ := info_parts infoG
  have := run_makeSlice (P := Tryd.prog) W 22 47 i0 _ Tryd.underlying22 hi hz0 .i64 .i64 (n : Int) (n : Int) (by omega) (Int.le_refl _) (by rw [hz1]; simp; omega) (by rw [hz2]; omega) (by omega)
  unfold makeG
  rw [this]
  simp only [Int.toNat_natCast, hz1]
  have e : (Value.agg #[Value.int .i32 0, .int .u8 0]).cells = #[.int .i32 0, .int .u8 0] := rfl
  rw [e, made_row]
theorem copy0_run {W : World} {g o dLen dCap sLen sCap : Nat} {a : Addr} {cur cs : List Value} (hg : W.heap[g]? = some (.cells cur.toArray 47 (0, 0))) (hn : cs.length = Nat.min sLen dLen * 2)
    (hsrc : ∀ j v, cs[j]? = some v → W.cell? (a.add j) = some v) (hfit : o + cs.length ≤ cur.length) (h1 : ∀ v ∈ cs, v.oneCell' = true) :
    (Builtin.copy_ #[22, 22] 3 #[.slice (some ⟨g, o, none⟩) dLen dCap, .slice (some a) sLen sCap]).run Tryd.prog W = .ok (goInt (Nat.min sLen dLen)) (W.setRow g (cur.take o ++ cs ++ cur.drop (o + cs.length)).toArray) := by
  obtain ⟨i0, hi, hz0, hz1, hz2⟩ := info_parts infoG
  have hl := run_loadCells_list (P := Tryd.prog) W a cs hsrc
  have hst := run_storeCells_at (P := Tryd.prog) g o 47 cs 0 cur.toArray W hg (by simpa using hfit) h1
  simp only [Nat.add_zero] at hst
  simp [Builtin.copy_, run_underlying Tryd.underlying22, Builtin.lenOf, Builtin.firstCells, sizeOf, typeInfo, hi, hz1, ← hn, hl, hst, Result.andThen]
theorem copyG_of {W W' : World} {args : Array Value} {v : Value} (h : (Builtin.copy_ #[22, 22] 3 args).run Tryd.prog W = .ok v W') : (copyG args).run Tryd.prog W = .ok (.value v) W' := by
  unfold copyG
  simp only [Sem.run_bind, Sem.run_pure, Result.andThen_ok, h]
theorem frontG_lit (g k n : Nat) (hk : k ≤ n) (W : World) : (frontG (.slice (some ⟨g, 0, none⟩) n n) (.int .i64 (k : Int))).run Tryd.prog W = .ok (.slice (some ⟨g, 0, none⟩) k n) W := by
  obtain ⟨i0, hi, hz0, hz1, hz2⟩ := info_parts infoG
  unfold frontG
  simp [Instr.slice, Instr.sliceBounds, Instr.sliceBound, asIntOf, run_underlying Tryd.underlying22, hk, sizeOf, typeInfo, hi]
  intro _; rfl
theorem backG_lit (g k n : Nat) (hk : k < n) (W : World) : (backG (.slice (some ⟨g, 0, none⟩) n n) (.int .i64 (k : Int))).run Tryd.prog W = .ok (.slice (some ⟨g, k * 2, none⟩) (n - k) (n - k)) W := by
  obtain ⟨i0, hi, hz0, hz1, hz2⟩ := info_parts infoG
  unfold backG
  have h : k ≤ n := by omega
  simp [Instr.slice, Instr.sliceBounds, Instr.sliceBound, asIntOf, run_underlying Tryd.underlying22, h, sizeOf, typeInfo, hi, hz1]
  rw [if_neg (by omega), Addr.add_lit]
  simp
end Go.Proofs.YtkiglnfapoifiaaDoor
