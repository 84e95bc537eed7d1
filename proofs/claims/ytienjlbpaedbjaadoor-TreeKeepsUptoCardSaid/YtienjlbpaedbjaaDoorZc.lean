/- slices.DeleteFunc of glyphs with Leaves' own question; Leaves. -/
import Derived.Test.YtienjlbpaedbjaaDoorZb
namespace Go.Proofs.YtienjlbpaedbjaaDoor
open Go.RowKit

/-- A glyph stored into a row of one's own. -/
theorem g_set : ∀ (l : List Gly) (q : Nat) (x : Gly), q < l.length → flatV gcell (l.set q x) = ((flatV gcell l).set (q * 2) (.int .i32 x.1)).set (q * 2 + 1) (.int .u8 x.2)
  | [], q, x, h => by simp at h
  | y :: l, 0, x, h => by
    rw [List.set_cons_zero, flatV_cons, flatV_cons]
    rfl
  | y :: l, q + 1, x, h => by
    rw [List.set_cons_succ, flatV_cons, flatV_cons, g_set l q x (by simpa using h)]
    obtain ⟨c0, c1, e⟩ : ∃ c0 c1, gcell y = [c0, c1] := ⟨_, _, rfl⟩
    rw [e, show (q + 1) * 2 = q * 2 + 1 + 1 by omega]
    rfl
theorem GOwn.put {base : Nat} {W : World} {g n c : Nat} {l : List Gly} (h : GOwn base W (.slice (some ⟨g, 0, none⟩) n c) l) {q : Nat} (hq : q < l.length) (x : Gly) :
    GOwn base ((W.setCell ⟨g, q * 2, none⟩ (.int .i32 x.1)).setCell ⟨g, q * 2 + 1, none⟩ (.int .u8 x.2)) (.slice (some ⟨g, 0, none⟩) n c) (l.set q x) := by
  obtain ⟨a, c', e2⟩ := (FOwn.sl gcell_len h).len
  injection e2 with e3 e4 e5
  have h' : W.ownsRow base 50 2 (.slice (some ⟨g, 0, none⟩) n c) l.length (flatV gcell l) := h
  rw [e4] at h'
  have k1 := (h'.stored (q * 2) (.int .i32 x.1)).1
  have k2 := (k1.stored (q * 2 + 1) (.int .u8 x.2)).1
  rw [← g_set l q x hq] at k2
  show World.ownsRow _ base 50 2 _ (l.set q x).length (flatV gcell (l.set q x))
  rw [List.length_set, e4]
  exact k2
theorem GOwn.slot {base : Nat} {W : World} {g n c : Nat} {l : List Gly} (h : GOwn base W (.slice (some ⟨g, 0, none⟩) n c) l) {q : Nat} {x : Gly} (hx : l[q]? = some x) :
    W.cell? ⟨g, q * 2, none⟩ = some (.int .i32 x.1) ∧ W.cell? ⟨g, q * 2 + 1, none⟩ = some (.int .u8 x.2) ∧ W.frozen? ⟨g, q * 2, none⟩ = false ∧ W.frozen? ⟨g, q * 2 + 1, none⟩ = false := by
  obtain ⟨a, c', e2⟩ := (FOwn.sl gcell_len h).len
  injection e2 with e3 e4 e5
  have h' : W.ownsRow base 50 2 (.slice (some ⟨g, 0, none⟩) n c) l.length (flatV gcell l) := h
  rw [e4] at h'
  refine ⟨?_, ?_, h'.frozenAt _, h'.frozenAt _⟩
  · have := World.ownsRow.cells (g := g) h rfl (q * 2 + 0) _ (flatV_at gcell_len l q 0 x _ hx rfl)
    rw [Addr.add_lit, Nat.zero_add] at this
    exact this
  · have := World.ownsRow.cells (g := g) h rfl (q * 2 + 1) _ (flatV_at gcell_len l q 1 x _ hx rfl)
    rw [Addr.add_lit, Nat.zero_add] at this
    exact this

set_option maxRecDepth 100000 in
theorem isblank_any (x : Gly) (w : World) : Calls Tryd.prog 55 #[.agg (gcell x).toArray] w fun e w' => e = .returned (.bool (x.1 == 32)) ∧ Below w.heap.size w w' := by
  obtain ⟨r, s⟩ := x
  have b1 := below_lit w (.cells (gcell (r, s)).toArray 50)
  simp only [gcell] at b1 ⊢
  have HB := Lib.hid b1
  clear b1
  go_enter Tryd.func55, Tryd.ntmps55
  go_wp2_with fail
  go_ret
  exact ⟨rfl, HB.out⟩

/-- Where the first blank is. -/
def IxP (l : List Gly) (w : World) (e : Ending) (w' : World) : Prop := ∃ r : Int, e = .returned (.int .i64 r) ∧ Hid ((r = -1 ∧ ink l = l) ∨ ∃ (k : Nat) (x : Gly), r = (k : Int) ∧ l[k]? = some x ∧ x.1 = 32 ∧ ink (l.take k) = l.take k) ∧ Below w.heap.size w w'
theorem ink_next {l : List Gly} {p : Nat} {x : Gly} (hx : l[p]? = some x) : ink (l.take (p + 1)) = ink (l.take p) ++ ink [x] := by
  rw [List.take_add_one, hx, ink_app]
  rfl
theorem ink_yes {x : Gly} (h : (x.1 == 32) = false) : ink [x] = [x] := by simp [ink, bne, h]
theorem ink_no {x : Gly} (h : (x.1 == 32) = true) : ink [x] = [] := by simp [ink, bne, h]
set_option maxRecDepth 100000 in
set_option maxHeartbeats 1000000 in
theorem index_any (l : List Gly) (v : Value) (w : World) (hv : Gs w v l) (hl : l.length ≤ 1000000) :
    Calls Tryd.prog 81 #[v, .func (.func 55) #[] #[]] w (IxP l w) := by
  have HV := Lib.hid hv
  obtain ⟨aa, ca, rfl, -, -⟩ := hv
  go_enter Tryd.func81, Tryd.ntmps81
  go_wp2_with fail
  go_loopw [5, 8] (fun _ i wr => ∃ (p : Nat), i = .int .i64 (p : Int) ∧ p ≤ l.length ∧ Hid (ink (l.take p) = l.take p) ∧ Hid (Below w.heap.size w wr)) (fun _ i _ => l.length - (intOf i).toNat)
  case atStart => exact ⟨0, rfl, by omega, Lib.hid (by simp [ink]), Lib.hid (Below.refl _ _)⟩
  case round =>
    obtain ⟨p, rfl, hp, HN, HB⟩ := hrel
    by_cases hlt : p < l.length
    · obtain ⟨x, hx⟩ : ∃ x, l[p]? = some x := ⟨l[p], List.getElem?_eq_getElem hlt⟩
      have hlt' : (p : Int) < (l.length : Int) := by omega
      have hp0 : (0 : Int) ≤ (p : Int) := by omega
      have HXX := Lib.hid hx
      have hcall := isblank_any x wr
      obtain ⟨a2, c2, e2, -, hr⟩ := HV.out.below HB.out
      injection e2 with e3 e4 e5
      subst e3 e5
      obtain ⟨g, off, rfl, h0⟩ := hr p x hx
      obtain ⟨xr, xs⟩ := x
      have c0 : wr.cell? ⟨g, off + p * 2, none⟩ = some (.int .i32 xr) := h0 0 _ rfl
      have c1 : wr.cell? ⟨g, off + p * 2 + 1, none⟩ = some (.int .u8 xs) := by rw [Nat.add_assoc]; exact h0 1 _ rfl
      obtain ⟨d, hd⟩ : ∃ d, (xr == 32) = d := ⟨_, rfl⟩
      simp only [gcell] at hcall
      rw [hd] at hcall
      have HC := Lib.hid hcall
      have HD := Lib.hid hd
      clear hcall hd hx hr h0 e4
      go_wp2_with fail
      refine HC.out.mono ?_
      rintro e w3 ⟨rfl, b3⟩
      have HB3 := Lib.hid (HB.out.trans (b3.mono HB.out.size))
      clear b3 HC c0 c1
      cases d with
      | true =>
        go_wp2_with fail
        all_goals
          go_ret
          exact ⟨_, rfl, Lib.hid (.inr ⟨p, _, rfl, HXX.out, beq_iff_eq.1 HD.out, HN.out⟩), HB3.out⟩
      | false =>
        go_wp2_with fail
        go_roundw
        case rel => exact ⟨p + 1, by go_num, by omega, Lib.hid (by rw [ink_next HXX.out, HN.out, ink_yes HD.out, List.take_add_one, HXX.out]; rfl), HB3⟩
        case measure => (simp [intOf]; try omega)
    · obtain rfl : p = l.length := by omega
      have hlt' : ¬ (l.length : Int) < (l.length : Int) := by omega
      rw [List.take_length] at HN
      go_wp2_with fail
      go_ret
      exact ⟨_, rfl, Lib.hid (.inl ⟨rfl, HN.out⟩), HB.out⟩

noncomputable def clrG (args : Array Value) : Sem Next := do pure (.value (← Builtin.clear_ #[36] 0 args))
theorem builtin_clrG (cs : Array Bool) (args : Array Value) : builtin .clear #[36] 0 cs args = clrG args := rfl
theorem zeroG (w : World) : (zeroValue 50).run Tryd.prog w = .ok (.agg #[.int .i32 0, .int .u8 0]) w := by kernel_rfl
theorem exc_setCells {X : Nat → Prop} {a : World} {g : Nat} (hg : g < a.heap.size → X g) : ∀ (vs : List Value) (o : Nat) (w : World), Exc X a w → Exc X a (w.setCells g o vs)
  | [], _, _, h => h
  | v :: r, o, w, h => exc_setCells hg r (o + 1) _ (h.set o v hg)
theorem zeros_one (n : Nat) : ∀ v ∈ (Builtin.zeroCells #[.int .i32 0, .int .u8 0] n).toList, v.oneCell' = true := by
  intro v hv
  unfold Builtin.zeroCells at hv
  rw [Array.mem_toList_iff, Array.mem_map] at hv
  obtain ⟨i, -, rfl⟩ := hv
  have h : i % 2 = 0 ∨ i % 2 = 1 := by omega
  rcases h with h | h <;> simp [h] <;> rfl
theorem zeros_len (n : Nat) : (Builtin.zeroCells #[.int .i32 0, .int .u8 0] n).toList.length = n * 2 := by simp [Builtin.zeroCells]
theorem clear_run {base : Nat} {W : World} {g n c q : Nat} {cur : List Gly} (h : GOwn base W (.slice (some ⟨g, 0, none⟩) n c) cur) (hq : q < cur.length) :
    ∃ W', (clrG #[.slice (some ⟨g, q * 2, none⟩) (n - q) (c - q)]).run Tryd.prog W = .ok (.value (.tuple #[])) W' ∧ Gs W' (.slice (some ⟨g, 0, none⟩) q c) (cur.take q) ∧ Exc (· = g) W W' := by
  obtain ⟨a, c', e2⟩ := (FOwn.sl gcell_len h).len
  injection e2 with e3 e4 e5
  obtain ⟨a0, c0, e0, hcc, -⟩ := FOwn.sl gcell_len h
  injection e0 with e6 e7 e8
  subst e4 e8
  have hcell : ∀ j, j < (cur.length - q) * 2 → (W.cell? ⟨g, q * 2 + 0 + j, none⟩).isSome = true ∧ W.frozen? ⟨g, q * 2 + 0 + j, none⟩ = false := fun j hj => by
    obtain ⟨x, hx⟩ : ∃ x, cur[q + j / 2]? = some x := ⟨cur[q + j / 2]'(by omega), List.getElem?_eq_getElem _⟩
    obtain ⟨s0, s1, f0, f1⟩ := h.slot hx
    have hj2 : q * 2 + 0 + j = (q + j / 2) * 2 ∨ q * 2 + 0 + j = (q + j / 2) * 2 + 1 := by omega
    rcases hj2 with e | e
    · rw [e, s0, f0]; exact ⟨rfl, rfl⟩
    · rw [e, s1, f1]; exact ⟨rfl, rfl⟩
  have hst := run_storeCells_cells (P := Tryd.prog) g (q * 2) (Builtin.zeroCells #[.int .i32 0, .int .u8 0] (cur.length - q)).toList 0 W (fun j hj => (hcell j (by rwa [zeros_len] at hj)).1) (fun j hj => (hcell j (by rwa [zeros_len] at hj)).2) (zeros_one _)
  rw [Nat.add_zero] at hst
  refine ⟨W.setCells g (q * 2) (Builtin.zeroCells #[.int .i32 0, .int .u8 0] (cur.length - q)).toList, ?_, ?_, exc_setCells (X := (· = g)) (fun _ => rfl) _ _ _ (Exc.refl _ _)⟩
  · obtain ⟨m, hm⟩ : ∃ m, cur.length - q = m + 1 := ⟨cur.length - q - 1, by omega⟩
    unfold clrG
    rw [hm] at hst ⊢
    simp [Builtin.clear_, run_underlying Tryd.underlying36, zeroG, Value.cells, hst]
  · have ht : (cur.take q).length = q := by rw [List.length_take]; omega
    refine ⟨_, _, by rw [ht], by rw [ht]; omega, fun j x hj => ⟨g, 0, rfl, fun i u hu => ?_⟩⟩
    have hjq : j < q := by have := (List.getElem?_eq_some_iff.1 hj).1; omega
    rw [List.getElem?_take_of_lt hjq] at hj
    obtain ⟨s0, s1, -, -⟩ := h.slot hj
    have hi : i < 2 := by have := (List.getElem?_eq_some_iff.1 hu).1; rwa [gcell_len] at this
    rw [World.cell?_setCells_out g _ _ _ _ (fun _ _ => .inl (by show 0 + (j * 2 + i) < q * 2; omega))]
    match i, hi, hu with
    | 0, _, hu => rw [Nat.zero_add, Nat.add_zero, s0]; exact hu
    | 1, _, hu => rw [Nat.zero_add, s1]; exact hu
theorem backG_at (g n c q : Nat) (hq : q < n) (hc : n ≤ c) (W : World) : (backG (.slice (some ⟨g, 0, none⟩) n c) (.int .i64 (q : Int))).run Tryd.prog W = .ok (.slice (some ⟨g, q * 2, none⟩) (n - q) (c - q)) W := by
  obtain ⟨i0, hi, hz0, hz1, hz2⟩ := info_parts infoG
  have h1 : q ≤ c := by omega
  have h2 : q ≤ n := by omega
  have h3 : ¬ c = q := by omega
  unfold backG
  simp [Instr.slice, Instr.sliceBounds, Instr.sliceBound, asIntOf, run_underlying Tryd.underlying36, h1, h2, h3, sizeOf, typeInfo, hi, hz1, Addr.add_lit]
theorem frontG_at (g n c q : Nat) (hq : q ≤ c) (W : World) : (frontG (.slice (some ⟨g, 0, none⟩) n c) (.int .i64 (q : Int))).run Tryd.prog W = .ok (.slice (some ⟨g, 0, none⟩) q c) W := by
  obtain ⟨i0, hi, hz0, hz1, hz2⟩ := info_parts infoG
  unfold frontG
  simp [Instr.slice, Instr.sliceBounds, Instr.sliceBound, asIntOf, run_underlying Tryd.underlying36, hq, sizeOf, typeInfo, hi]
  intro _
  rfl

theorem FOwn.addrZ {α : Type} {e n : Nat} {f : α → List Value} {base : Nat} {W : World} {a : Option Addr} {k c : Nat} {l : List α} (h : FOwn e n f base W (.slice a k c) l) (hl : 0 < l.length) : ∃ g, a = some ⟨g, 0, none⟩ ∧ base ≤ g := by
  rcases h.2 with ⟨h', h0⟩ | ⟨g, cap, cur, hx, hb, hgg, -⟩
  · omega
  · injection hx with e1 e2 e3
    subst e1
    exact ⟨g, rfl, hb⟩
/-- What stands in the row while it is gone through. -/
structure DI (l : List Gly) (base : Nat) (w : World) (g c q j : Nat) (W : World) : Prop where
  lt : q < j
  le : j ≤ l.length
  num : q = (ink (l.take j)).length
  row : ∃ cur, GOwn base W (.slice (some ⟨g, 0, none⟩) l.length c) cur ∧ cur.length = l.length ∧ cur.take q = ink (l.take j) ∧ cur.drop j = l.drop j
  exc : Exc (· = g) w W
theorem DI.at {l : List Gly} {base g c q j : Nat} {w W : World} (h : DI l base w g c q j W) {x : Gly} (hx : l[j]? = some x) :
    W.cell? ⟨g, j * 2, none⟩ = some (.int .i32 x.1) ∧ W.cell? ⟨g, j * 2 + 1, none⟩ = some (.int .u8 x.2) := by
  obtain ⟨cur, h1, h2, h3, h4⟩ := h.row
  have hc : cur[j]? = some x := by
    have := congrArg (·[0]?) h4
    simpa [hx] using this
  exact ⟨(h1.slot hc).1, (h1.slot hc).2.1⟩
theorem DI.keep {l : List Gly} {base g c q j : Nat} {w W W' : World} (h : DI l base w g c q j W) (hb : Below W.heap.size W W') : DI l base w g c q j W' := by
  obtain ⟨cur, h1, h2⟩ := h.row
  exact ⟨h.lt, h.le, h.num, ⟨cur, h1.keep hb, h2⟩, h.exc.trans (Exc.of (X := fun _ => False) hb) (fun _ _ q => q.elim)⟩
theorem DI.slot {l : List Gly} {base g c q j : Nat} {w W : World} (h : DI l base w g c q j W) : ∃ x : Gly, W.cell? ⟨g, q * 2, none⟩ = some (.int .i32 x.1) ∧ W.cell? ⟨g, q * 2 + 1, none⟩ = some (.int .u8 x.2) ∧ W.frozen? ⟨g, q * 2, none⟩ = false ∧ W.frozen? ⟨g, q * 2 + 1, none⟩ = false := by
  obtain ⟨cur, h1, h2, -, -⟩ := h.row
  have := h.lt
  have := h.le
  exact ⟨_, h1.slot (List.getElem?_eq_getElem (show q < cur.length by omega))⟩
theorem DI.skip {l : List Gly} {base g c q j : Nat} {w W : World} (h : DI l base w g c q j W) {x : Gly} (hx : l[j]? = some x) (hb : (x.1 == 32) = true) : DI l base w g c q (j + 1) W := by
  obtain ⟨cur, h1, h2, h3, h4⟩ := h.row
  have hj := (List.getElem?_eq_some_iff.1 hx).1
  have e : ink (l.take (j + 1)) = ink (l.take j) := by rw [ink_next hx, ink_no hb, List.append_nil]
  refine ⟨by have := h.lt; omega, by omega, by rw [e]; exact h.num, ⟨cur, h1, h2, by rw [e]; exact h3, ?_⟩, h.exc⟩
  have := congrArg (List.drop 1) h4
  simpa [List.drop_drop] using this
theorem DI.store {l : List Gly} {base g c q j : Nat} {w W : World} (h : DI l base w g c q j W) {x : Gly} (hx : l[j]? = some x) (hb : (x.1 == 32) = false) :
    DI l base w g c (q + 1) (j + 1) ((W.setCell ⟨g, q * 2, none⟩ (.int .i32 x.1)).setCell ⟨g, q * 2 + 1, none⟩ (.int .u8 x.2)) := by
  obtain ⟨cur, h1, h2, h3, h4⟩ := h.row
  have hj := (List.getElem?_eq_some_iff.1 hx).1
  have hlt := h.lt
  have e : ink (l.take (j + 1)) = ink (l.take j) ++ [x] := by rw [ink_next hx, ink_yes hb]
  refine ⟨by omega, by omega, by rw [e, List.length_append, ← h.num]; rfl, ⟨cur.set q x, h1.put (by omega) x, by rw [List.length_set, h2], ?_, ?_⟩, (h.exc.set _ _ (fun _ => rfl)).set _ _ (fun _ => rfl)⟩
  · rw [e, ← h3, List.take_add_one, List.take_set_of_le (Nat.le_refl q), List.getElem?_set_self (by omega)]
    rfl
  · rw [List.drop_set_of_lt (by omega)]
    have := congrArg (List.drop 1) h4
    simpa [List.drop_drop] using this
theorem DI.start {l : List Gly} {base g c k : Nat} {w W : World} (h : GOwn base w (.slice (some ⟨g, 0, none⟩) l.length c) l) (hb : Below w.heap.size w W) {x : Gly} (hx : l[k]? = some x) (h32 : x.1 = 32) (hk : ink (l.take k) = l.take k) : DI l base w g c k (k + 1) W := by
  have hj := (List.getElem?_eq_some_iff.1 hx).1
  have e : ink (l.take (k + 1)) = l.take k := by rw [ink_next hx, ink_no (beq_iff_eq.2 h32), List.append_nil, hk]
  exact ⟨by omega, by omega, by rw [e, List.length_take]; omega, ⟨l, h.keep hb, rfl, by rw [e], rfl⟩, Exc.of hb⟩

def DfP (l : List Gly) (v : Value) (w : World) (e : Ending) (w' : World) : Prop := ∃ u, e = .returned u ∧ Gs w' u (ink l) ∧ Exc (fun b => v.ownBlock = some b) w w'
attribute [local go_sem ↓ high] builtin_clrG slice_frontG slice_backG
set_option maxRecDepth 100000 in
set_option maxHeartbeats 4000000 in
theorem delete_any (base : Nat) (l : List Gly) (v : Value) (w : World) (h : GOwn base w v l) (hl : l.length ≤ 1000000) :
    Calls Tryd.prog 56 #[v, .func (.func 55) #[] #[]] w (DfP l v w) := by
  have HI := Lib.hid (index_any l v w (FOwn.sl gcell_len h) hl)
  have HO := Lib.hid h
  clear h
  go_enter Tryd.func56, Tryd.ntmps56
  go_wp2_with fail
  refine HI.out.mono ?_
  rintro e w1 ⟨r, rfl, HR, b1⟩
  have HB1 := Lib.hid b1
  clear b1 HI
  rcases HR.out with ⟨rfl, hink⟩ | ⟨k, x0, rfl, hx0, h32, hk⟩
  · have h1 : ((-1 : Int) == -1) = true := rfl
    have HK := Lib.hid hink
    clear hink HR
    go_wp2_with fail
    go_ret
    exact ⟨_, rfl, by rw [HK.out]; exact (FOwn.sl gcell_len HO.out).below HB1.out, Exc.of HB1.out⟩
  · have hkl := (List.getElem?_eq_some_iff.1 hx0).1
    have h1 : ((k : Int) == -1) = false := beq_eq_false_iff_ne.2 (by omega)
    obtain ⟨aa, ca, e0, hcap, -⟩ := FOwn.sl gcell_len HO.out
    subst e0
    obtain ⟨g, rfl, hbg⟩ := FOwn.addrZ HO.out (by omega)
    have HD := Lib.hid (DI.start HO.out HB1.out hx0 h32 hk)
    clear hx0 h32 hk HR HB1
    go_wp2_with fail
    go_loopw [5, 6] (fun i j wr => ∃ (q p : Nat), i = .int .i64 (q : Int) ∧ j = .int .i64 (p : Int) ∧ q < p ∧ p ≤ l.length ∧ Hid (DI l base w g ca q p wr)) (fun _ j _ => l.length - (intOf j).toNat)
    case atStart => exact ⟨k, k + 1, rfl, by go_num, by omega, by omega, HD⟩
    case round =>
      obtain ⟨q, p, rfl, rfl, hqp, hp, HDr⟩ := hrel
      have hq0 : (0 : Int) ≤ (q : Int) := by omega
      by_cases hlt : p < l.length
      · obtain ⟨x, hx⟩ : ∃ x, l[p]? = some x := ⟨l[p], List.getElem?_eq_getElem hlt⟩
        have hlt' : (p : Int) < (l.length : Int) := by omega
        have hql : (q : Int) < (l.length : Int) := by omega
        have hp0 : (0 : Int) ≤ (p : Int) := by omega
        obtain ⟨c0, c1⟩ := HDr.out.at hx
        obtain ⟨X, hX⟩ : ∃ X, X = wr.alloc (.cells (gcell x).toArray 50) := ⟨_, rfl⟩
        have bX : Below wr.heap.size wr X := by rw [hX]; exact below_lit _ _
        have kX : Blk X wr.heap.size 50 (gcell x) := by rw [hX]; exact heap_alloc_new wr _
        have HC := Lib.hid (isblank_any x X)
        have HDX := Lib.hid (HDr.out.keep bX)
        have HXX := Lib.hid hx
        have HBX := Lib.hid kX
        have HXW := Lib.hid hX
        obtain ⟨xr, xs⟩ := x
        simp only [gcell] at HXW HBX HC c0 c1
        have d0 : X.cell? ⟨wr.heap.size, 0, none⟩ = some (.int .i32 xr) := HBX.out.cell 0
        have d1 : X.cell? ⟨wr.heap.size, 1, none⟩ = some (.int .u8 xs) := HBX.out.cell 1
        obtain ⟨d, hd⟩ : ∃ d, (xr == 32) = d := ⟨_, rfl⟩
        rw [hd] at HC
        have HBD := Lib.hid hd
        clear hd hx hX bX kX
        go_upto_region 8 with fail
        rw [← HXW.out]
        clear c0 c1 HXW
        go_wp2_with fail
        refine HC.out.mono ?_
        rintro e w3 ⟨rfl, b3⟩
        have hD3 := HDX.out.keep b3
        have y0 : w3.cell? ⟨wr.heap.size, 0, none⟩ = some (.int .i32 xr) := (HBX.out.below b3).cell 0
        have y1 : w3.cell? ⟨wr.heap.size, 1, none⟩ = some (.int .u8 xs) := (HBX.out.below b3).cell 1
        have HD3 := Lib.hid hD3
        clear b3 HC d0 d1 hD3 HDX HBX HDr
        cases d with
        | true =>
          go_wp2_with fail
          go_roundw
          case rel => exact ⟨q, p + 1, rfl, by go_num, by omega, by omega, Lib.hid (HD3.out.skip HXX.out HBD.out)⟩
          case measure => (simp [intOf]; try omega)
        | false =>
          obtain ⟨z, z0, z1, f0, f1⟩ := HD3.out.slot
          go_wp2_with fail
          go_roundw
          case rel => exact ⟨q + 1, p + 1, by go_num, by go_num, by omega, by omega, Lib.hid (HD3.out.store HXX.out HBD.out)⟩
          case measure => (simp [intOf]; try omega)
      · obtain rfl : p = l.length := by omega
        have hlt' : ¬ (l.length : Int) < (l.length : Int) := by omega
        obtain ⟨cur, h1, h2, h3, -⟩ := HDr.out.row
        rw [List.take_length] at h3
        obtain ⟨W', hrun, hG, hE⟩ := clear_run h1 (q := q) (by omega)
        rw [h3] at hG
        have hb := backG_at g l.length ca q (by omega) hcap wr
        have hf := frontG_at g l.length ca q (by omega) W'
        have HG := Lib.hid hG
        have HE := Lib.hid (HDr.out.exc.then hE)
        clear h1 h2 h3 hG hE
        go_wp2_with fail
        go_ret
        exact ⟨_, rfl, HG.out, HE.out.mono fun i _ e => by subst e; rfl⟩

def LvP (l : List Nd) (w : World) (e : Ending) (w' : World) : Prop := ∃ u, e = .returned u ∧ Gs w' u (lvL l) ∧ Below w.heap.size w w'
set_option maxRecDepth 100000 in
set_option maxHeartbeats 2000000 in
theorem pleaves_any (S : Nat → Prop) (l : List Nd) (v : Value) (w : World) (hv : NsS S w v l) (hS : ∀ b, S b → b < w.heap.size) (hl : nlL l ≤ 500000) :
    Calls Tryd.prog 26 #[v] w (LvP l w) := by
  obtain ⟨X1, hX1⟩ : ∃ X1, X1 = w.alloc (.cells [.slice none 0 0].toArray 36) := ⟨_, rfl⟩
  have b1 : Below w.heap.size w X1 := by rw [hX1]; exact below_lit _ _
  have k1 : Blk X1 w.heap.size 36 [.slice none 0 0] := by rw [hX1]; exact heap_alloc_new w _
  have s1 : X1.heap.size = w.heap.size + 1 := by rw [hX1]; simp
  obtain ⟨X, hX⟩ : ∃ X, X = X1.alloc (.cells [takeV w.heap.size].toArray 73) := ⟨_, rfl⟩
  have b2 : Below X1.heap.size X1 X := by rw [hX]; exact below_lit _ _
  have k2 : Blk X X1.heap.size 73 [takeV w.heap.size] := by rw [hX]; exact heap_alloc_new X1 _
  have b12 : Below w.heap.size w X := b1.trans (b2.mono b1.size)
  have hT : Tk w.heap.size w.heap.size X [] X := ⟨b12.size, LF.refl _ _ _, _, k1.below b2, FOwn.nil _ _⟩
  have hSX : ∀ b, S b → St w.heap.size w.heap.size X b := fun b q => by
    have := hS b q
    exact ⟨Nat.lt_of_lt_of_le this b12.size, by omega, .inl this⟩
  have hcall := eachl_any w.heap.size X1.heap.size w.heap.size X (by omega) (cntL l) l rfl S [] v X hT k2 (hv.keep (Kp.below b12 hS)) hSX (by simpa using hl)
  obtain ⟨aa, ca, rfl⟩ := hv.len
  have hal := alL_len l
  have HC := Lib.hid hcall
  have HX1 := Lib.hid hX1
  have HX := Lib.hid hX
  have HB := Lib.hid b12
  have HS1 := Lib.hid s1
  rw [s1] at HC
  clear hcall hX1 hX b1 b2 b12 k1 k2 hT hSX hv hS s1
  go_enter Tryd.func26, Tryd.ntmps26
  go_upto_region 5 with fail
  rw [← HX1.out, ← HX.out]
  clear HX1 HX
  go_wp2_with fail
  refine HC.out.mono ?_
  rintro e w3 ⟨rfl, hT3, hL3⟩
  rw [List.nil_append] at hT3
  obtain ⟨v3, hB3, hO3⟩ := hT3.row
  have c0 : w3.cell? ⟨w.heap.size, 0, none⟩ = some v3 := hB3.cell 0
  have HD := Lib.hid (delete_any _ _ v3 w3 hO3 (by omega))
  have hbl : Below w.heap.size w w3 := HB.out.trans (hL3.below HB.out.size (Nat.le_refl _) (Nat.le_refl _))
  have HW3 := Lib.hid hbl
  have HOW : Hid (∀ b, v3.ownBlock = some b → w.heap.size ≤ b) := Lib.hid fun b e => (hO3.ty e).1
  clear hT3 hL3 hB3 hO3 hbl HC
  go_wp2_with fail
  refine HD.out.mono ?_
  rintro e w4 ⟨u, rfl, hG, hE⟩
  have HG := Lib.hid hG
  have HE := Lib.hid (HW3.out.trans (hE.below HW3.out.size fun b hb e => by have := HOW.out b e; omega))
  clear hG hE HD c0
  go_wp2_with fail
  go_ret
  exact ⟨_, rfl, by rw [← ink_alL]; exact HG.out, HE.out⟩
end Go.Proofs.YtienjlbpaedbjaaDoor
