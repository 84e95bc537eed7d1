/- The program's own for documents: rows of rows, copied. -/
import Derived.Test.YtienjlbpaedbjaaDoorOQ7
import Derived.Test.YtienjlbpaedbjaaDoorODh
import Derived.Laws.OwnMore
namespace Go.Proofs.YtienjlbpaedbjaaDoor
open Go.RowKit

/-- A row of one's own, of one-cell values: its cells; one that is stored. -/
theorem p_flat (L : List PV) : flatV pcell L = L.map pv := by
  induction L with
  | nil => rfl
  | cons x L ih => rw [flatV_cons, ih]; rfl
theorem FOwn.slot {e base : Nat} {W : World} {g n c : Nat} {L : List PV} (h : FOwn e 1 pcell base W (.slice (some ⟨g, 0, none⟩) n c) L) {j : Nat} {s : PV} (hs : L[j]? = some s) :
    W.cell? ⟨g, j, none⟩ = some (pv s) ∧ W.frozen? ⟨g, j, none⟩ = false := by
  obtain ⟨a, c', e2⟩ := (FOwn.sl pcell_len h).len
  injection e2 with e3 e4 e5
  have hjl := (List.getElem?_eq_some_iff.1 hs).1
  have h' : W.ownsRow base e 1 (.slice (some ⟨g, 0, none⟩) n c) L.length (flatV pcell L) := h
  rw [e4] at h'
  refine ⟨?_, h'.frozenAt j⟩
  rw [h'.cellAt j (by omega), p_flat, List.getElem?_map, hs]
  rfl
theorem FOwn.put {e base : Nat} {W : World} {g n c : Nat} {L : List PV} (h : FOwn e 1 pcell base W (.slice (some ⟨g, 0, none⟩) n c) L) (j : Nat) (s : PV) :
    FOwn e 1 pcell base (W.setCell ⟨g, j, none⟩ (pv s)) (.slice (some ⟨g, 0, none⟩) n c) (L.set j s) := by
  obtain ⟨a, c', e2⟩ := (FOwn.sl pcell_len h).len
  injection e2 with e3 e4 e5
  have h' : W.ownsRow base e 1 (.slice (some ⟨g, 0, none⟩) n c) L.length (flatV pcell L) := h
  rw [e4] at h'
  have k := (h'.stored j (pv s)).1
  rw [p_flat, ← List.map_set, ← p_flat] at k
  unfold FOwn
  rw [List.length_set, e4]
  exact k
theorem FOwn.addr {α : Type} {e n : Nat} {f : α → List Value} {base : Nat} {W : World} {a : Option Addr} {k c : Nat} {l : List α} (h : FOwn e n f base W (.slice a k c) l) (hl : 0 < l.length) : ∃ g, a = some ⟨g, 0, none⟩ ∧ base ≤ g ∧ ∃ cur, W.heap[g]? = some (.cells cur e (0, 0)) := by
  rcases h.2 with ⟨h', h0⟩ | ⟨g, cap, cur, hx, hb, hgg, -⟩
  · omega
  · injection hx with e1 e2 e3
    subst e1
    exact ⟨g, rfl, hb, cur, hgg⟩
/-- Rows of a row of one's own that are made anew, one by one: those ahead of j are. -/
structure RI (SI : Nat → Prop) (F : List Gly → List Gly) (base : Nat) (W : World) (v : Value) (l : List (List Gly)) (j : Nat) : Prop where
  lt : ∀ b, SI b → b < base
  sz : base ≤ W.heap.size
  own : ∃ (L : List PV) (S : Nat → Prop), FOwn 36 1 pcell base W v L ∧ L.length = l.length ∧ (∀ b, S b → base ≤ b ∧ ∃ cur fz, W.heap[b]? = some (.cells cur 50 fz)) ∧
    (∀ (i : Nat) s r, i < j → L[i]? = some s → l[i]? = some r → FsS S 2 gcell W (pv s) (F r)) ∧ (∀ (i : Nat) s r, j ≤ i → L[i]? = some s → l[i]? = some r → FsS SI 2 gcell W (pv s) r)
section
variable {SI : Nat → Prop} {F : List Gly → List Gly} {base : Nat} {W W' : World} {v : Value} {l : List (List Gly)} {j : Nat}
theorem RI.len (h : RI SI F base W v l j) : ∃ a cap, v = .slice a l.length cap := by
  obtain ⟨L, S, hL, hl, -⟩ := h.own
  obtain ⟨a, cap, e⟩ := (FOwn.sl pcell_len hL).len
  exact ⟨a, cap, hl ▸ e⟩
theorem RI.keep (h : RI SI F base W v l j) (hb : Below W.heap.size W W') : RI SI F base W' v l j := by
  obtain ⟨L, S, hL, hl, hS, h1, h2⟩ := h.own
  refine ⟨h.lt, Nat.le_trans h.sz hb.size, ⟨L, S, hL.keep hb, hl, fun b hb' => ?_, fun i s r a c d => (h1 i s r a c d).keep (fun b hb' => ?_), fun i s r a c d => (h2 i s r a c d).keep (fun b hb' => hb.block b (Nat.lt_of_lt_of_le (h.lt b hb') h.sz))⟩⟩
  · obtain ⟨q1, cur, fz, q2⟩ := hS b hb'
    exact ⟨q1, cur, fz, (hb.block b (Array.getElem?_eq_some_iff.1 q2).1).trans q2⟩
  · obtain ⟨q1, cur, fz, q2⟩ := hS b hb'
    exact hb.block b (Array.getElem?_eq_some_iff.1 q2).1
theorem RI.at {a : Option Addr} {n c : Nat} (h : RI SI F base W (.slice a n c) l j) {r : List Gly} (hr : l[j]? = some r) :
    ∃ g s, a = some ⟨g, 0, none⟩ ∧ W.cell? ⟨g, j, none⟩ = some (pv s) ∧ W.frozen? ⟨g, j, none⟩ = false ∧ FsS SI 2 gcell W (pv s) r := by
  obtain ⟨L, S, hL, hl, hS, h1, h2⟩ := h.own
  have hj := (List.getElem?_eq_some_iff.1 hr).1
  obtain ⟨s, hs⟩ : ∃ s, L[j]? = some s := ⟨L[j]'(by omega), List.getElem?_eq_getElem _⟩
  obtain ⟨g, rfl, -, -⟩ := hL.addr (by omega)
  obtain ⟨k1, k2⟩ := hL.slot hs
  exact ⟨g, s, rfl, k1, k2, h2 j s r (Nat.le_refl _) hs hr⟩
/-- One more: a row of one's own, just made, in its place. -/
theorem RI.step {g n c : Nat} (h : RI SI F base W (.slice (some ⟨g, 0, none⟩) n c) l j) (hb : Below W.heap.size W W') {r : List Gly} (hr : l[j]? = some r) {s : PV} (hs : GOwn W.heap.size W' (pv s) (F r)) :
    RI SI F base (W'.setCell ⟨g, j, none⟩ (pv s)) (.slice (some ⟨g, 0, none⟩) n c) l (j + 1) ∧ Exc (fun b => b = g) W (W'.setCell ⟨g, j, none⟩ (pv s)) := by
  obtain ⟨L, S, hL, hl, hS, h1, h2⟩ := h.own
  have hj := (List.getElem?_eq_some_iff.1 hr).1
  obtain ⟨s0, hs0⟩ : ∃ s, L[j]? = some s := ⟨L[j]'(by omega), List.getElem?_eq_getElem _⟩
  obtain ⟨g', e1, hg, cur0, hcur⟩ := hL.addr (by omega)
  injection e1 with e1
  injection e1 with e1
  subst e1
  have hne : ∀ b cur fz, W.heap[b]? = some (.cells cur 50 fz) → b ≠ g := fun b cur fz hb' e => by
    rw [e, hcur] at hb'
    injection hb' with hb'
    injection hb' with _ h3
    exact absurd h3 (by decide)
  have hglt : g < W.heap.size := (Array.getElem?_eq_some_iff.1 hcur).1
  have kS : Kp S W (W'.setCell ⟨g, j, none⟩ (pv s)) := fun b hb' => by
    obtain ⟨q1, cur, fz, q2⟩ := hS b hb'
    rw [Below.heap_setCell _ _ _ _ (hne b cur fz q2)]
    exact hb.block b (Array.getElem?_eq_some_iff.1 q2).1
  have kI : Kp SI W (W'.setCell ⟨g, j, none⟩ (pv s)) := fun b hb' => by
    have := h.lt b hb'
    rw [Below.heap_setCell _ _ _ _ (show b ≠ g by omega)]
    exact hb.block b (Nat.lt_of_lt_of_le this h.sz)
  have fS := own_foot gcell_len hs
  have hne2 : ∀ b, (W.heap.size ≤ b ∧ ∃ cur fz, W'.heap[b]? = some (.cells cur 50 fz)) → b ≠ g := fun b hb' => by omega
  have kN : Kp (fun b => W.heap.size ≤ b ∧ ∃ cur fz, W'.heap[b]? = some (.cells cur 50 fz)) W' (W'.setCell ⟨g, j, none⟩ (pv s)) := fun b hb' => by
    rw [Below.heap_setCell _ _ _ _ (hne2 b hb')]
  refine ⟨⟨h.lt, by rw [szset]; exact Nat.le_trans h.sz hb.size, ⟨L.set j s, fun b => S b ∨ (W.heap.size ≤ b ∧ ∃ cur fz, W'.heap[b]? = some (.cells cur 50 fz)), (hL.keep hb).put j s, by rw [List.length_set]; exact hl, ?_, ?_, ?_⟩⟩, ?_⟩
  · rintro b (hb' | hb')
    · obtain ⟨q1, cur, fz, q2⟩ := hS b hb'
      exact ⟨q1, cur, fz, (kS b hb').trans q2⟩
    · obtain ⟨q1, cur, fz, q2⟩ := hb'
      exact ⟨Nat.le_trans h.sz q1, cur, fz, (kN b ⟨q1, cur, fz, q2⟩).trans q2⟩
  · intro i s' r' hi hs' hr'
    by_cases hij : i = j
    · subst hij
      rw [List.getElem?_set_self (by omega)] at hs'
      obtain rfl := Option.some.inj hs'
      rw [hr] at hr'
      obtain rfl := Option.some.inj hr'
      exact (fS.keep kN).mono (fun b q => .inr q)
    · rw [List.getElem?_set_ne (fun e => hij e.symm)] at hs'
      exact ((h1 i s' r' (by omega) hs' hr').keep kS).mono (fun b q => .inl q)
  · intro i s' r' hi hs' hr'
    rw [List.getElem?_set_ne (by omega)] at hs'
    exact (h2 i s' r' (by omega) hs' hr').keep kI
  · exact (Exc.of hb).set _ _ (fun _ => rfl)
theorem RI.done (h : RI SI F base W v l l.length) : CInv base W v (l.map F) := by
  obtain ⟨L, S, hL, hl, hS, h1, h2⟩ := h.own
  refine ⟨⟨L, S, hL, by rw [List.length_map]; exact hl, hS, fun i s r hs hr => ?_⟩⟩
  rw [List.getElem?_map] at hr
  cases hx : l[i]? with
  | none => rw [hx] at hr; cases hr
  | some x =>
    rw [hx] at hr
    obtain rfl := Option.some.inj hr
    exact h1 i s x (List.getElem?_eq_some_iff.1 hx).1 hs hx
end

attribute [local go_sem ↓ high] builtin_appP
theorem appP_own {base : Nat} {W : World} {x u : Value} {l m : List PV} (h : FOwn 36 1 pcell base W x l) (hu : Fs 1 pcell W u m) (hb : base ≤ W.heap.size) (hd : l.length + m.length ≤ 1000000) :
    ∃ x' w', (appP #[x, u]).run Tryd.prog W = .ok (.value x') w' ∧ FOwn 36 1 pcell base w' x' (l ++ m) ∧ W.grownBy w' x.ownBlock := by
  obtain ⟨i0, hi, hz0, hz1, hz2⟩ := info_parts infoSG
  obtain ⟨x', w', hr, ho, hg, -⟩ := fapp (P := Tryd.prog) (t := 37) pcell_len pcell_one (by decide) Tryd.underlying37 hi hz0 hz1 hz2 rfl (by decide) h hu hb hd
  refine ⟨x', w', ?_, ho, hg⟩
  unfold appP
  simp only [Sem.run_bind, Sem.run_pure, Result.andThen_ok, hr]
set_option maxRecDepth 100000 in
set_option maxHeartbeats 1000000 in
theorem clonep_any (L : List PV) (v : Value) (w : World) (hv : Fs 1 pcell w v L) (hl : L.length ≤ 200000) :
    Calls Tryd.prog 104 #[v] w fun e w' => ∃ u, e = .returned u ∧ FOwn 36 1 pcell w.heap.size w' u L ∧ Below w.heap.size w w' := by
  have HV := Lib.hid hv
  obtain ⟨a, cap, rfl, -, hr⟩ := hv
  cases a with
  | none =>
    obtain rfl : L = [] := by
      cases L with
      | nil => rfl
      | cons x l => obtain ⟨g, off, h0, _⟩ := hr 0 x rfl; cases h0
    clear hr
    have hnil : (binOp .eql 37 (.slice none 0 cap) (.slice none 0 0)).run Tryd.prog w = .ok (.bool true) w := Lib.run_eql_slice_nil w 37 36 none 0 cap 0 0 Tryd.underlying37
    simp only [List.length_nil]
    go_enter Tryd.func104, Tryd.ntmps104
    go_wp2_with fail
    go_ret
    exact ⟨_, rfl, FOwn.nil _ _, Below.refl _ _⟩
  | some a =>
    clear hr
    have b1 := below_lit w (.cells #[] 36)
    have o1 : FOwn 36 1 pcell w.heap.size (w.alloc (.cells #[] 36)) (.slice (some ⟨w.heap.size, 0, none⟩) 0 0) [] := fown_lit pcell_len w (Nat.le_refl _) [] (by simp)
    obtain ⟨x', w', k1, o2, g2⟩ := appP_own o1 (Fs.below HV.out b1) (by simp) (by simp; omega)
    have b2 := Lib.hid (o1.below b1 (by simp) g2)
    have O2 := Lib.hid o2
    have hnil : (binOp .eql 37 (.slice (some a) L.length cap) (.slice none 0 0)).run Tryd.prog w = .ok (.bool false) w := Lib.run_eql_slice_nil w 37 36 (some a) L.length cap 0 0 Tryd.underlying37
    clear o1 o2 g2 b1
    go_enter Tryd.func104, Tryd.ntmps104
    go_wp2_with fail
    go_ret
    exact ⟨_, rfl, O2.out, b2.out⟩

set_option maxRecDepth 100000 in
set_option maxHeartbeats 2000000 in
theorem pcopied_any (S : Nat → Prop) (l : List (List Gly)) (v : Value) (w : World) (hv : GrS S w v l) (hl : l.length + lens l ≤ 90000) (hS : ∀ b, S b → b < w.heap.size) :
    Calls Tryd.prog 99 #[v] w fun e w' => ∃ u, e = .returned u ∧ CInv w.heap.size w' u l ∧ Below w.heap.size w w' := by
  obtain ⟨L, hLl, hLv, hLr⟩ := hv
  have HC := Lib.hid (clonep_any L v w hLv.1 (by omega))
  have HST := Lib.hid (fun w1 u (b1 : Below w.heap.size w w1) (ho : FOwn 36 1 pcell w.heap.size w1 u L) => (⟨hS, b1.size, ⟨L, fun _ => False, ho, hLl, fun _ h => h.elim, fun i s r h => by omega, fun i s r _ a c => (hLr i s r a c).keep (Kp.below b1 hS)⟩⟩ : RI S id w.heap.size w1 u l 0))
  obtain ⟨va, vc, rfl⟩ := hLv.1.len
  rw [hLl] at HC ⊢
  clear hLv hLr hS hLl
  go_enter Tryd.func99, Tryd.ntmps99
  go_wp2_with fail
  refine HC.out.mono ?_
  rintro e w1 ⟨u, rfl, ho, b1⟩
  have HRI := Lib.hid (HST.out w1 u b1 ho)
  have B1 := Lib.hid b1
  obtain ⟨ua, uc, rfl⟩ := HRI.out.len
  clear HC HST ho b1
  go_wp2_with fail
  go_loopw [4, 5, 10] (fun _ _ i wr => ∃ j : Nat, j ≤ l.length ∧ i = .int .i64 j ∧ Hid (RI S id w.heap.size wr (.slice ua l.length uc) l j) ∧ Hid (Below w.heap.size w wr)) (fun _ _ i _ => l.length - (intOf i).toNat)
  case atStart => exact ⟨0, by omega, rfl, HRI, B1⟩
  case round =>
    obtain ⟨j, hj, rfl, HR, BW⟩ := hrel
    clear HRI B1
    by_cases hlt : j < l.length
    · obtain ⟨r, hr⟩ : ∃ r, l[j]? = some r := ⟨l[j], List.getElem?_eq_getElem hlt⟩
      have lr := lens_le hr
      obtain ⟨g, ⟨s1, s2, s3⟩, rfl, c0, f0, hs⟩ := HR.out.at hr
      simp only [pv] at c0 hs
      have HG := Lib.hid (cloneg_any r _ wr hs.1 (by omega))
      have hi0 : (j : Int) < (l.length : Int) := by omega
      have hi1 : (0 : Int) ≤ (j : Int) := by omega
      have HRR := Lib.hid hr
      have hgl := World.block_lt_of_cell? wr _ c0
      have HSZ := Lib.hid hgl
      clear hr hs hgl
      go_wp2_with fail
      refine HG.out.mono ?_
      rintro e w2 ⟨u, rfl, ho, b2⟩
      obtain ⟨u1, u3, e2⟩ := (FOwn.sl gcell_len ho).len
      obtain ⟨k1, k2⟩ := HR.out.step b2 HRR.out (s := (u1, r.length, u3)) (by unfold pv; rw [← e2]; exact ho)
      simp only [pv] at k1 k2
      subst e2
      have c2 : w2.cell? ⟨g, j, none⟩ = some (.slice s1 s2 s3) := (b2.cell (p := ⟨g, j, none⟩) HSZ.out).trans c0
      have f2 : w2.frozen? ⟨g, j, none⟩ = false := (b2.frozen (p := ⟨g, j, none⟩) HSZ.out).trans f0
      have K1 := Lib.hid k1
      have hgb : w.heap.size ≤ g := by
        obtain ⟨L', S', hL', hl', -⟩ := HR.out.own
        obtain ⟨g', e1, hg, -⟩ := hL'.addr (by omega)
        injection e1 with e1
        injection e1 with e1
        omega
      have K2 := Lib.hid (BW.out.trans (k2.below BW.out.size (fun b hb e => by omega)))
      clear k1 k2 ho b2 HG c0 f0
      go_wp2_with fail
      go_roundw
      case rel => exact ⟨j + 1, by omega, by go_num, K1, K2⟩
      case measure => (simp [intOf]; try omega)
    · obtain rfl : j = l.length := by omega
      have hlt' : ¬ (l.length : Int) < (l.length : Int) := by omega
      have HD := Lib.hid HR.out.done
      rw [List.map_id] at HD
      clear HR
      go_wp2_with fail
      go_ret
      exact ⟨_, rfl, HD.out, BW.out⟩
end Go.Proofs.YtienjlbpaedbjaaDoor
