/- A slice of rows that came in: opened. -/
import Derived.Test.YteckiifnldcjbaaDoorRm
import Derived.Test.YteckiifnldcjbaaDoorKH
import Derived.Deep.Fields
namespace Go.Proofs.YteckiifnldcjbaaDoor
open Go.ChangeShapes Go.WideShapes Go.ChangeAt Go.RowKit Go.Deep

section
variable {H : Type} {enc : TypeId × Value → H} {P : Program} {w : World} {base : Nat} {spare : Nat → Bool} {held : Bool}
theorem weightsEach_mem {P : Program} : ∀ (ts : List TypeId) (ds : List (DataW H)) (j : Nat) (t : TypeId) (d : DataW H), ts[j]? = some t → ds[j]? = some d → ∀ q ∈ d.weights P t, q ∈ DataW.weightsEach P ts ds
  | [], _, _, _, _, h, _, _, _ => by simp at h
  | _ :: _, [], _, _, _, _, h, _, _ => by simp at h
  | t' :: ts, d' :: ds, 0, t, d, h1, h2, q, hq => by
    simp only [List.getElem?_cons_zero, Option.some.injEq] at h1 h2
    subst h1 h2
    unfold DataW.weightsEach
    exact List.mem_append_left _ hq
  | t' :: ts, d' :: ds, j + 1, t, d, h1, h2, q, hq => by
    simp only [List.getElem?_cons_succ] at h1 h2
    unfold DataW.weightsEach
    exact List.mem_append_right _ (weightsEach_mem ts ds j t d h1 h2 q hq)
/-- A slice of structs of one-cell fields, each read, and how long what is read may be. -/
theorem open_rowsW {t e : TypeId} {fs : Array Field} {fuel : Nat} {cs : List Value} {x : DataW H × List MemPlace} (ht : P.underlying t = some (.slice e)) (he : P.underlying e = some (.struct fs))
    (hone : oneCellFields P fs = true) (hC : P.cellsOf e = fs.size) (h : DataW.trod enc P w base spare held fuel t cs = some x) :
    (cs = [.slice none 0 0] ∧ x = (.nil, [])) ∨
    ∃ (a : Addr) (len cap : Nat), cs = [.slice (some a) len cap] ∧ len ≤ cap ∧ cap ≤ maxLen ∧ (∃ N, len ≤ N ∧ N * P.bytesOf e ∈ DataW.weights P t x.1) ∧
      ∀ i, i < len → ∀ (j : Nat) (f : Field), fs[j]? = some f → ∃ (n : Nat) (v : Value) (y : DataW H × List MemPlace), w.cell? (a.add (i * fs.size + j)) = some v ∧ DataW.trod enc P w base spare held n f.type [v] = some y ∧ ∀ q ∈ DataW.weights P f.type y.1, q ∈ DataW.weights P t x.1 := by
  rcases open_slice ht h with h0 | ⟨a, len, cap, m, n, D, Pl, hcs, hb, hl, hm, hmm, hx, hi⟩
  · exact .inl h0
  · have hx1 : x.1 = .slice ((List.range len).map D) ((List.range (m - len)).map fun j => D (len + j)) := congrArg Prod.fst hx
    refine .inr ⟨a, len, cap, hcs, hl, hm, ⟨((List.range len).map D).length + ((List.range (m - len)).map fun j => D (len + j)).length, by simp, ?_⟩, fun i him j f hj => ?_⟩
    · rw [hx1]
      simp only [DataW.weights, ht]
      exact List.mem_cons_self
    obtain ⟨cs', hc, ht'⟩ := hi i (by rw [hmm]; split <;> omega)
    rw [hC] at hc
    obtain ⟨ys, n', hn', hy, hlen, hyl, hf⟩ := DataW.trod_struct he ht'
    obtain ⟨_, hcl, hat⟩ := World.cells?_some hc
    obtain ⟨ho, hk⟩ := hone_of hone j f hj
    have hjl : j < fs.size := (Array.getElem?_eq_some_iff.1 hj).1
    have hcell := hat j hjl
    have hv : cs'[j]? = some (cs'[j]'(by omega)) := List.getElem?_eq_getElem (by omega)
    have h1 := hf j f hj
    rw [ho, hk] at h1
    have hone' : (cs'.drop j).take 1 = [cs'[j]'(by omega)] := by
      rw [List.drop_eq_getElem_cons (by omega)]
      rfl
    rw [hone'] at h1
    have hys : ys[j]? = some (ys[j]'(by omega)) := List.getElem?_eq_getElem (by omega)
    refine ⟨_, _, _, ?_, h1.trans hys, fun q hq => ?_⟩
    · rw [← Go.Deep.add_add, hcell, hv]
    · have hD : D i = .agg (ys.map (·.1)) := congrArg Prod.fst hy
      rw [hx1]
      simp only [DataW.weights, ht]
      refine List.mem_cons_of_mem _ (List.mem_append_left _ (weightsAll_mem _ (D i) (List.mem_map.2 ⟨i, List.mem_range.2 him, rfl⟩) _ ?_))
      rw [hD]
      simp only [DataW.weights, he]
      refine weightsEach_mem _ _ j f.type _ ?_ ?_ q hq
      · rw [List.getElem?_map]
        have : fs.toList[j]? = some f := by simpa using hj
        rw [this]; rfl
      · rw [List.getElem?_map, hys]; rfl
end

variable {H : Type} {enc : TypeId × Value → H} {W : World}
set_option maxRecDepth 100000 in
theorem strs_trod {fu : Nat} {v : Value} {x : DataW H × List MemPlace} (hf : DataW.trod enc Tryd.prog W 0 (fun _ => true) true fu 23 [v] = some x) (hw : ∀ q ∈ DataW.weights Tryd.prog 23 x.1, q ≤ reachBytes) :
    ∃ (l : List (List UInt8)) (a : Option Addr × Nat × Nat), v = avOf a ∧ Ss W v l ∧ (∀ x ∈ l, x.length ≤ 1000000000000000) ∧ l.length ≤ 8796093021952 := by
  have shape : ∃ a len cap, v = .slice a len cap := by
    rcases open_slice1 Tryd.underlying23 cellsS hf with ⟨hcs, hx⟩ | ⟨a', len', cap', m, n, V, D, Pl, hcs, hb, hl, hm, hmm, hx, hi⟩
    · exact ⟨none, 0, 0, by simpa using hcs⟩
    · exact ⟨some a', len', cap', by simpa using hcs⟩
  obtain ⟨a, len, cap, rfl⟩ := shape
  rcases open_slice1 Tryd.underlying23 cellsS hf with ⟨hcs, hx⟩ | ⟨a', len', cap', m, n, V, D, Pl, hcs, hb, hl, hm, hmm, hx, hi⟩
  · simp [Value.cells] at hcs
    obtain ⟨rfl, rfl, rfl⟩ := hcs
    exact ⟨[], (none, 0, 0), rfl, Fs.nil W, fun g hg => by simp at hg, by simp⟩
  · simp [Value.cells] at hcs
    obtain ⟨rfl, rfl, rfl⟩ := hcs
    have hd : x.1 = .slice ((List.range len).map D) ((List.range (m - len)).map fun j => D (len + j)) := congrArg Prod.fst hx
    rw [hd] at hw
    have hml : len ≤ m := by rw [hmm]; split <;> omega
    have key : ∀ i, i < len → W.cell? (a'.add i) = some (.string ⟨(txtOf (V i)).toArray⟩) ∧ (txtOf (V i)).length ≤ 1000000000000000 := fun i hil => by
      obtain ⟨hc, ht⟩ := hi i (by omega)
      obtain ⟨s, e1, e2, e3⟩ := DataW.trod_string Tryd.underlying9 ht
      have e1' : V i = .string s := by simpa using e1
      have ed : D i = .lit (.string s.data.toList) := congrArg Prod.fst e2
      refine ⟨?_, ?_⟩
      · rw [hc, e1']; simp [txtOf]
      · have hq := hw s.data.toList.length (by
          show _ ∈ DataW.weights _ _ _
          simp only [DataW.weights, Tryd.underlying23]
          refine List.mem_cons_of_mem _ (List.mem_append_left _ (weightsAll_mem _ (D i) (List.mem_map.2 ⟨i, List.mem_range.2 hil, rfl⟩) _ ?_))
          rw [ed]
          simp [DataW.weights])
        unfold reachBytes at hq
        rw [e1']
        show s.data.toList.length ≤ _
        omega
    refine ⟨(List.range len).map fun i => txtOf (V i), (some a', len, cap), rfl, ⟨some a', cap, by simp, by simp; exact hl, fun j y hj => ?_⟩, fun y hy => ?_, ?_⟩
    · obtain ⟨xb, xo, spot⟩ := a'
      rw [List.getElem?_map] at hj
      obtain ⟨i, hi', rfl⟩ := Option.map_eq_some_iff.1 hj
      obtain ⟨hjl, hji⟩ := List.getElem?_eq_some_iff.1 hi'
      simp only [List.getElem_range] at hji
      simp only [List.length_range] at hjl
      subst hji
      have h0 := (key j hjl).1
      have hspot : spot = none := by simpa [Addr.add] using World.cell?_spot (key 0 (by omega)).1
      subst hspot
      refine ⟨xb, xo, rfl, fun k c hc => ?_⟩
      rw [Addr.add_lit] at h0
      match k, hc with
      | 0, hc =>
        have : c = .string ⟨(txtOf (V j)).toArray⟩ := by simpa [scell] using hc.symm
        subst this
        simpa using h0
      | k + 1, hc => simp [scell] at hc
    · obtain ⟨i, hi', rfl⟩ := List.mem_map.1 hy
      exact (key i (List.mem_range.1 hi')).2
    · have hq := hw ((((List.range len).map D).length + ((List.range (m - len)).map fun j => D (len + j)).length) * Tryd.prog.bytesOf 9) (by simp [DataW.weights, Tryd.underlying23])
      rw [bytesS] at hq
      simp only [List.length_map, List.length_range, reachBytes] at hq ⊢
      omega
/-- How long a row's parts may be. -/
def RowOk (y : Row) : Prop := y.2.1.length ≤ 1000000000000000 ∧ y.2.2.2.length ≤ 1000000000000000 ∧ y.2.2.1.length ≤ 8796093021952 ∧ (∀ x ∈ y.2.2.1, x.length ≤ 1000000000000000) ∧ (Lit.int .i64 y.1).wf = true
theorem cellsRw : Tryd.prog.cellsOf 34 = 4 := by kernel_rfl
theorem bytesRw : Tryd.prog.bytesOf 34 = 64 := by kernel_rfl
theorem fieldsRw : ∃ fs : Array Field, Tryd.prog.underlying 34 = some (.struct fs) ∧ oneCellFields Tryd.prog fs = true ∧ ∃ f0 f1 f2 f3 : Field, fs = #[f0, f1, f2, f3] ∧ f0.type = 3 ∧ f1.type = 9 ∧ f2.type = 23 ∧ f3.type = 9 :=
  ⟨_, Tryd.underlying34, by kernel_rfl, _, _, _, _, rfl, rfl, rfl, rfl, rfl⟩
theorem rows_list5 (w : World) (a : Addr) : ∀ (n : Nat), (∀ i, i < n → ∃ (x : RV) (y : Row), (∀ j c, (rcell x)[j]? = some c → w.cell? (a.add (i * 4 + j)) = some c) ∧ RvIs (Ss w) x y ∧ RowOk y) →
    ∃ (L : List RV) (l : List Row), L.length = n ∧ AllIs (Ss w) L l ∧ (∀ y ∈ l, RowOk y) ∧ ∀ (i : Nat) (x : RV), L[i]? = some x → ∀ j c, (rcell x)[j]? = some c → w.cell? (a.add (i * 4 + j)) = some c
  | 0, _ => ⟨[], [], rfl, AllIs.nil _, fun g hg => by simp at hg, fun i g hi => by simp at hi⟩
  | n + 1, h => by
    obtain ⟨L, l, hl, hA, hok, hr⟩ := rows_list5 w a n (fun i hi => h i (by omega))
    obtain ⟨x, y, h0, h1, hb⟩ := h n (by omega)
    refine ⟨L ++ [x], l ++ [y], by simp [hl], hA.snoc h1, fun z hz => ?_, fun i z hz => ?_⟩
    · rcases List.mem_append.1 hz with hz | hz
      · exact hok z hz
      · simp only [List.mem_singleton] at hz; rw [hz]; exact hb
    · by_cases hi : i < n
      · rw [List.getElem?_append_left (by omega)] at hz
        exact hr i z hz
      · have : i = n := by
          have := (List.getElem?_eq_some_iff.1 hz).1
          simp at this
          omega
        subst this
        rw [List.getElem?_append_right (by omega)] at hz
        simp [hl] at hz
        subst hz
        exact h0
set_option maxRecDepth 100000 in
theorem rows_open5 {r : Reach} {b0 : Nat} {v : Value} {d : DataW H} {p : List MemPlace} (hval : Value.okWide Tryd.prog W r b0 29 v) (h : DataW.Trod enc Tryd.prog W 0 (fun _ => true) true 29 v d p)
    (hw : ∀ q ∈ DataW.weights Tryd.prog 29 d, q ≤ reachBytes) :
    ∃ l : List Row, Rws W v l ∧ (∀ y ∈ l, RowOk y) ∧ l.length ≤ 2199023255488 := by
  obtain ⟨a, len, cap, rfl⟩ := okWide_slice Tryd.underlying29 hval
  obtain ⟨fu, hf⟩ := h
  obtain ⟨fs, hu, hone, f0, f1, f2, f3, rfl, ht0, ht1, ht2, ht3⟩ := fieldsRw
  rcases open_rowsW Tryd.underlying29 hu hone cellsRw hf with ⟨hcs, hx⟩ | ⟨a', len', cap', hcs, hl, hm, ⟨N, hN1, hN2⟩, hi⟩
  · simp [Value.cells] at hcs
    obtain ⟨rfl, rfl, rfl⟩ := hcs
    exact ⟨[], ⟨[], Fs.nil W, AllIs.nil _⟩, fun g hg => by simp at hg, by simp⟩
  · simp [Value.cells] at hcs
    obtain ⟨rfl, rfl, rfl⟩ := hcs
    have hNb := hw _ hN2
    rw [bytesRw] at hNb
    unfold reachBytes at hNb
    have txt : ∀ {n : Nat} {v : Value} {y : DataW H × List MemPlace}, DataW.trod enc Tryd.prog W 0 (fun _ => true) true n 9 [v] = some y → (∀ q ∈ DataW.weights Tryd.prog 9 y.1, q ≤ reachBytes) → ∃ b : List UInt8, v = .string ⟨b.toArray⟩ ∧ b.length ≤ 1000000000000000 := fun ht hq => by
      obtain ⟨s, e1, e2, e3⟩ := DataW.trod_string Tryd.underlying9 ht
      have hs := hq s.data.toList.length (by rw [congrArg Prod.fst e2]; simp [DataW.weights])
      unfold reachBytes at hs
      exact ⟨s.data.toList, by simpa using e1, by omega⟩
    obtain ⟨L, l, hL, hA, hok, hr⟩ := rows_list5 W a' len (fun i hil => by
      obtain ⟨n0, v0, y0, hc0, h0, w0⟩ := hi i hil 0 f0 rfl
      obtain ⟨n1, v1, y1, hc1, h1, w1⟩ := hi i hil 1 f1 rfl
      obtain ⟨n2, v2, y2, hc2, h2, w2⟩ := hi i hil 2 f2 rfl
      obtain ⟨n3, v3, y3, hc3, h3, w3⟩ := hi i hil 3 f3 rfl
      rw [ht0] at h0
      rw [ht1] at h1 w1
      rw [ht2] at h2 w2
      rw [ht3] at h3 w3
      obtain ⟨z0, hz0, _, hw0⟩ := DataW.trod_int Tryd.underlying3 h0
      obtain rfl : v0 = .int .i64 z0 := by simpa using hz0
      obtain ⟨b1, rfl, hb1⟩ := txt h1 (fun q hq => hw q (w1 q hq))
      obtain ⟨b3, rfl, hb3⟩ := txt h3 (fun q hq => hw q (w3 q hq))
      obtain ⟨l2, a2, rfl, hs2, ha2, hn2⟩ := strs_trod h2 (fun q hq => hw q (w2 q hq))
      refine ⟨(z0, b1, a2, b3), (z0, b1, l2, b3), fun j c hc => ?_, ⟨rfl, rfl, rfl, hs2⟩, ⟨hb1, hb3, hn2, ha2, hw0⟩⟩
      match j, hc with
      | 0, hc => simp [rcell] at hc; subst hc; exact hc0
      | 1, hc => simp [rcell] at hc; subst hc; exact hc1
      | 2, hc => simp [rcell] at hc; subst hc; exact hc2
      | 3, hc => simp [rcell] at hc; subst hc; exact hc3
      | j + 4, hc => simp [rcell] at hc)
    refine ⟨l, ⟨L, ⟨some a', cap, by rw [hL], by rw [hL]; exact hl, fun j x hj => ?_⟩, hA⟩, hok, by rw [← hA.1, hL]; omega⟩
    have hr' := hr j x hj
    obtain ⟨xb, xo, spot⟩ := a'
    have hjl := (List.getElem?_eq_some_iff.1 hj).1
    have h00 := hr 0 _ (List.getElem?_eq_getElem (show 0 < L.length by omega)) 0 _ rfl
    have hspot : spot = none := by simpa [Addr.add] using World.cell?_spot h00
    subst hspot
    refine ⟨xb, xo, rfl, fun i c hc => ?_⟩
    have := hr' i c hc
    rw [Addr.add_lit] at this
    exact this
end Go.Proofs.YteckiifnldcjbaaDoor
