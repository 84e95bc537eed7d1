/- Faces, slices of glyphs and of tokens that came in: opened, and shut. -/
import Derived.Test.YtgfmpndojjopnaaRows
import Derived.Test.YtgfmpndojjopnaaS0
import Derived.WalkKit
import Derived.ProofKit
import Derived.OpenShut
import Derived.Carry
import Derived.ChangeMaps5
import Derived.Deep.Slices
import Derived.Deep.Fields
import Derived.ChangeSame
import Derived.Lib.SmallJoins
namespace Go.Proofs.Ytgfmpndojjopnaa
open Go.ChangeShapes Go.WideShapes Go.ChangeAt Go.RowKit Go.Deep Go.Joins

theorem own : ownKnob Try.prog.godebug = none := by kernel_rfl
theorem laidOut : laidOutB Try.prog = true := by kernel_rfl
theorem u8_bd {x : Int} (h : (Lit.int .u8 x).wf = true) : 0 ≤ x ∧ x ≤ 255 := by
  simp [Lit.wf, IntKind.min, IntKind.max, IntKind.signed, IntKind.bits] at h
  omega
theorem i32_bd {x : Int} (h : (Lit.int .i32 x).wf = true) : -2147483648 ≤ x ∧ x ≤ 2147483647 := by
  simp [Lit.wf, IntKind.min, IntKind.max, IntKind.signed, IntKind.bits] at h
  omega
def okG (l : List Gly) : Prop := ∀ g ∈ l, (-2147483648 ≤ g.1 ∧ g.1 ≤ 2147483647) ∧ (0 ≤ g.2 ∧ g.2 ≤ 255)

section
variable {H : Type} {enc : TypeId × Value → H} {P : Program} {w : World} {base : Nat} {spare : Nat → Bool} {held : Bool}
/-- A slice of structs of one-cell fields, each read. -/
theorem open_rows {t e : TypeId} {fs : Array Field} {fuel : Nat} {cs : List Value} {x : DataW H × List MemPlace} (ht : P.underlying t = some (.slice e)) (he : P.underlying e = some (.struct fs))
    (hone : oneCellFields P fs = true) (hC : P.cellsOf e = fs.size) (h : DataW.trod enc P w base spare held fuel t cs = some x) :
    (cs = [.slice none 0 0] ∧ x = (.nil, [])) ∨
    ∃ (a : Addr) (len cap : Nat), cs = [.slice (some a) len cap] ∧ len ≤ cap ∧ cap ≤ maxLen ∧
      ∀ i, i < len → ∀ (j : Nat) (f : Field), fs[j]? = some f → ∃ (n : Nat) (v : Value) (y : DataW H × List MemPlace), w.cell? (a.add (i * fs.size + j)) = some v ∧ DataW.trod enc P w base spare held n f.type [v] = some y := by
  rcases open_slice ht h with h0 | ⟨a, len, cap, m, n, D, Pl, hcs, hb, hl, hm, hmm, hx, hi⟩
  · exact .inl h0
  · refine .inr ⟨a, len, cap, hcs, hl, hm, fun i him j f hj => ?_⟩
    obtain ⟨cs', hc, ht'⟩ := hi i (by rw [hmm]; split <;> omega)
    rw [hC] at hc
    obtain ⟨ys, n', hn', hy, hlen, hyl, hf⟩ := DataW.trod_struct he ht'
    obtain ⟨_, hcl, hat⟩ := World.cells?_some hc
    obtain ⟨ho, hk⟩ := hone_of hone j f hj
    have hjl : j < fs.size := (Array.getElem?_eq_some_iff.1 hj).1
    have hcell := hat j hjl
    have hv : cs'[j]? = some (cs'[j]'(by omega)) := List.getElem?_eq_getElem (by omega)
    have h1 := hf j f hj
    rw [ho, hk] at h1
    have hone' : (cs'.drop j).take 1 = [cs'[j]'(by omega)] := by
      rw [List.drop_eq_getElem_cons (by omega)]
      rfl
    rw [hone'] at h1
    have hys : ys[j]? = some (ys[j]'(by omega)) := List.getElem?_eq_getElem (by omega)
    refine ⟨_, _, _, ?_, h1.trans hys⟩
    rw [← Go.Deep.add_add, hcell, hv]
end

variable {H : Type} {enc : TypeId × Value → H} {W : World}
theorem cellsG : Try.prog.cellsOf 41 = 2 := by kernel_rfl
theorem fieldsG : ∃ fs : Array Field, Try.prog.underlying 41 = some (.struct fs) ∧ oneCellFields Try.prog fs = true ∧ ∃ f0 f1 : Field, fs = #[f0, f1] ∧ f0.type = 21 ∧ f1.type = 5 :=
  ⟨_, Try.underlying41, by kernel_rfl, _, _, rfl, rfl, rfl⟩

def okT (l : List Tok) : Prop := ∀ g ∈ l, (-2147483648 ≤ g.2 ∧ g.2 ≤ 2147483647)
theorem rows_list (w : World) (a : Addr) : ∀ (n : Nat), (∀ i, i < n → ∃ g : Gly, w.cell? (a.add (i * 2 + 0)) = some (.int .i32 g.1) ∧ w.cell? (a.add (i * 2 + 1)) = some (.int .u8 g.2) ∧ ((-2147483648 ≤ g.1 ∧ g.1 ≤ 2147483647) ∧ (0 ≤ g.2 ∧ g.2 ≤ 255))) →
    ∃ l : List Gly, l.length = n ∧ okG l ∧ ∀ (i : Nat) (g : Gly), l[i]? = some g → w.cell? (a.add (i * 2 + 0)) = some (.int .i32 g.1) ∧ w.cell? (a.add (i * 2 + 1)) = some (.int .u8 g.2)
  | 0, _ => ⟨[], rfl, fun g hg => by simp at hg, fun i g hi => by simp at hi⟩
  | n + 1, h => by
    obtain ⟨l, hl, hok, hr⟩ := rows_list w a n (fun i hi => h i (by omega))
    obtain ⟨g, h0, h1, hb⟩ := h n (by omega)
    refine ⟨l ++ [g], by simp [hl], fun x hx => ?_, fun i x hx => ?_⟩
    · rcases List.mem_append.1 hx with hx | hx
      · exact hok x hx
      · simp only [List.mem_singleton] at hx; rw [hx]; exact hb
    · by_cases hi : i < n
      · rw [List.getElem?_append_left (by omega)] at hx
        exact hr i x hx
      · have : i = n := by
          have := (List.getElem?_eq_some_iff.1 hx).1
          simp at this
          omega
        subst this
        rw [List.getElem?_append_right (by omega)] at hx
        simp [hl] at hx
        subst hx
        exact ⟨h0, h1⟩

theorem glyphs_open {r : Reach} {b0 : Nat} {v : Value} {d : DataW H} {p : List MemPlace} (hval : Value.okWide Try.prog W r b0 26 v) (h : DataW.Trod enc Try.prog W 0 (fun _ => true) true 26 v d p) :
    ∃ l : List Gly, Gs W v l ∧ okG l ∧ l.length ≤ maxLen := by
  obtain ⟨a, len, cap, rfl⟩ := okWide_slice Try.underlying26 hval
  obtain ⟨fu, hf⟩ := h
  obtain ⟨fs, hu, hone, f0, f1, rfl, ht0, ht1⟩ := fieldsG
  rcases open_rows Try.underlying26 hu hone cellsG hf with ⟨hcs, hx⟩ | ⟨a', len', cap', hcs, hl, hm, hi⟩
  · simp [Value.cells] at hcs
    obtain ⟨rfl, rfl, rfl⟩ := hcs
    exact ⟨[], Fs.nil W, fun g hg => by simp at hg, by simp⟩
  · simp [Value.cells] at hcs
    obtain ⟨rfl, rfl, rfl⟩ := hcs
    obtain ⟨l, hll, hok, hr⟩ := rows_list W a' len (fun i hil => by
      obtain ⟨n0, v0, y0, hc0, h0⟩ := hi i hil 0 f0 rfl
      obtain ⟨n1, v1, y1, hc1, h1⟩ := hi i hil 1 f1 rfl
      rw [ht0] at h0
      rw [ht1] at h1
      obtain ⟨z0, hz0, _, hw0⟩ := DataW.trod_int Try.underlying21 h0
      obtain ⟨z1, hz1, _, hw1⟩ := DataW.trod_int Try.underlying5 h1
      obtain rfl : v0 = .int .i32 z0 := by simpa using hz0
      obtain rfl : v1 = .int .u8 z1 := by simpa using hz1
      exact ⟨(z0, z1), hc0, hc1, i32_bd hw0, u8_bd hw1⟩)
    refine ⟨l, ⟨some a', cap, by rw [hll], by rw [hll]; exact hl, fun j g hj => ?_⟩, hok, by rw [hll]; omega⟩
    obtain ⟨h0, h1⟩ := hr j g hj
    obtain ⟨xb, xo, spot⟩ := a'
    have hjl := (List.getElem?_eq_some_iff.1 hj).1
    have h00 := (hr 0 _ (List.getElem?_eq_getElem (show 0 < l.length by omega))).1
    have hspot : spot = none := by simpa [Addr.add] using World.cell?_spot h00
    subst hspot
    refine ⟨xb, xo, rfl, fun i c hc => ?_⟩
    rw [Addr.add_lit] at h0 h1
    match i, hc with
    | 0, hc => simp [gcell] at hc; rw [← hc]; exact h0
    | 1, hc => simp [gcell] at hc; rw [← hc]; exact h1
    | i + 2, hc => simp [gcell] at hc

theorem cellsT : Try.prog.cellsOf 46 = 2 := by kernel_rfl
theorem fieldsT : ∃ fs : Array Field, Try.prog.underlying 46 = some (.struct fs) ∧ oneCellFields Try.prog fs = true ∧ ∃ f0 f1 : Field, fs = #[f0, f1] ∧ f0.type = 3 ∧ f1.type = 21 :=
  ⟨_, Try.underlying46, by kernel_rfl, _, _, rfl, rfl, rfl⟩

theorem rows_listT (w : World) (a : Addr) : ∀ (n : Nat), (∀ i, i < n → ∃ g : Tok, w.cell? (a.add (i * 2 + 0)) = some (.int .i64 g.1) ∧ w.cell? (a.add (i * 2 + 1)) = some (.int .i32 g.2) ∧ (-2147483648 ≤ g.2 ∧ g.2 ≤ 2147483647)) →
    ∃ l : List Tok, l.length = n ∧ okT l ∧ ∀ (i : Nat) (g : Tok), l[i]? = some g → w.cell? (a.add (i * 2 + 0)) = some (.int .i64 g.1) ∧ w.cell? (a.add (i * 2 + 1)) = some (.int .i32 g.2)
  | 0, _ => ⟨[], rfl, fun g hg => by simp at hg, fun i g hi => by simp at hi⟩
  | n + 1, h => by
    obtain ⟨l, hl, hok, hr⟩ := rows_listT w a n (fun i hi => h i (by omega))
    obtain ⟨g, h0, h1, hb⟩ := h n (by omega)
    refine ⟨l ++ [g], by simp [hl], fun x hx => ?_, fun i x hx => ?_⟩
    · rcases List.mem_append.1 hx with hx | hx
      · exact hok x hx
      · simp only [List.mem_singleton] at hx; rw [hx]; exact hb
    · by_cases hi : i < n
      · rw [List.getElem?_append_left (by omega)] at hx
        exact hr i x hx
      · have : i = n := by
          have := (List.getElem?_eq_some_iff.1 hx).1
          simp at this
          omega
        subst this
        rw [List.getElem?_append_right (by omega)] at hx
        simp [hl] at hx
        subst hx
        exact ⟨h0, h1⟩

theorem tokens_open {r : Reach} {b0 : Nat} {v : Value} {d : DataW H} {p : List MemPlace} (hval : Value.okWide Try.prog W r b0 24 v) (h : DataW.Trod enc Try.prog W 0 (fun _ => true) true 24 v d p) :
    ∃ l : List Tok, Ts W v l ∧ okT l ∧ l.length ≤ maxLen := by
  obtain ⟨a, len, cap, rfl⟩ := okWide_slice Try.underlying24 hval
  obtain ⟨fu, hf⟩ := h
  obtain ⟨fs, hu, hone, f0, f1, rfl, ht0, ht1⟩ := fieldsT
  rcases open_rows Try.underlying24 hu hone cellsT hf with ⟨hcs, hx⟩ | ⟨a', len', cap', hcs, hl, hm, hi⟩
  · simp [Value.cells] at hcs
    obtain ⟨rfl, rfl, rfl⟩ := hcs
    exact ⟨[], Fs.nil W, fun g hg => by simp at hg, by simp⟩
  · simp [Value.cells] at hcs
    obtain ⟨rfl, rfl, rfl⟩ := hcs
    obtain ⟨l, hll, hok, hr⟩ := rows_listT W a' len (fun i hil => by
      obtain ⟨n0, v0, y0, hc0, h0⟩ := hi i hil 0 f0 rfl
      obtain ⟨n1, v1, y1, hc1, h1⟩ := hi i hil 1 f1 rfl
      rw [ht0] at h0
      rw [ht1] at h1
      obtain ⟨z0, hz0, _, hw0⟩ := DataW.trod_int Try.underlying3 h0
      obtain ⟨z1, hz1, _, hw1⟩ := DataW.trod_int Try.underlying21 h1
      obtain rfl : v0 = .int .i64 z0 := by simpa using hz0
      obtain rfl : v1 = .int .i32 z1 := by simpa using hz1
      exact ⟨(z0, z1), hc0, hc1, i32_bd hw1⟩)
    refine ⟨l, ⟨some a', cap, by rw [hll], by rw [hll]; exact hl, fun j g hj => ?_⟩, hok, by rw [hll]; omega⟩
    obtain ⟨h0, h1⟩ := hr j g hj
    obtain ⟨xb, xo, spot⟩ := a'
    have hjl := (List.getElem?_eq_some_iff.1 hj).1
    have h00 := (hr 0 _ (List.getElem?_eq_getElem (show 0 < l.length by omega))).1
    have hspot : spot = none := by simpa [Addr.add] using World.cell?_spot h00
    subst hspot
    refine ⟨xb, xo, rfl, fun i c hc => ?_⟩
    rw [Addr.add_lit] at h0 h1
    match i, hc with
    | 0, hc => simp [tcell] at hc; rw [← hc]; exact h0
    | 1, hc => simp [tcell] at hc; rw [← hc]; exact h1
    | i + 2, hc => simp [tcell] at hc

theorem cellsF : Try.prog.cellsOf 23 = 2 := by kernel_rfl
def faceD {H : Type} (k l : Int) : DataW H := .agg [.lit (.int .u8 k), .lit (.int .u8 l)]
section
variable {H : Type} {enc : TypeId × Value → H} {w : World} {base : Nat} {spare : Nat → Bool} {held : Bool}
set_option maxRecDepth 100000 in
theorem open_face {r : Reach} {b0 : Nat} {v : Value} {d : DataW H} {p : List MemPlace} (hv : Value.okWide Try.prog w r b0 23 v) (h : DataW.Trod enc Try.prog w base spare held 23 v d p) :
    ∃ k l : Int, v = .agg #[.int .u8 k, .int .u8 l] ∧ d = faceD k l ∧ p = [] ∧ (Lit.int .u8 k).wf = true ∧ (Lit.int .u8 l).wf = true := by
  obtain ⟨c0, c1, y0, y1, m, rfl, rfl, rfl, hy0, hy1⟩ := open_agg2 Try.underlying23 (by kernel_rfl) cellsF hv h
  obtain ⟨a, e0, rfl, wa⟩ := DataW.trod_int Try.underlying5 hy0
  obtain ⟨b, e1, rfl, wb⟩ := DataW.trod_int Try.underlying5 hy1
  simp at e0 e1
  subst e0 e1
  exact ⟨a, b, rfl, rfl, rfl, wa, wb⟩
set_option maxRecDepth 100000 in
theorem shut_face {k l : Int} (wk : (Lit.int .u8 k).wf = true) (wl : (Lit.int .u8 l).wf = true) :
    DataW.Trod enc Try.prog w base spare held 23 (.agg #[.int .u8 k, .int .u8 l]) (faceD k l) [] :=
  shut_agg2 (y0 := (.lit (.int .u8 k), [])) (y1 := (.lit (.int .u8 l), [])) Try.underlying23 (by kernel_rfl) cellsF
    ⟨1, by simp [DataW.trod, Try.underlying5, wk]⟩ ⟨1, by simp [DataW.trod, Try.underlying5, wl]⟩
end
end Go.Proofs.Ytgfmpndojjopnaa
