/- The program's own for documents: rows of rows, copied. The builder's own: rows cloned, rows of rows copied. The program's own for documents: a table's row, mended. -/
import Derived.Test.YtpccjgoeoeehoaaDoorBs
import Derived.Test.YtpccjgoeoeehoaaDoorDh
import Derived.Laws.OwnMore
import Derived.Laws.CopyOwn
import Derived.Laws.MakeOwn
set_option linter.unusedVariables false
set_option linter.unusedSimpArgs false
namespace Go.Proofs.YtpccjgoeoeehoaaDoor
open Go.RowKit
/-- A row of one's own, of one-cell values: its cells; one that is stored. -/
theorem p_flat (L : List PV) : flatV pcell L = L.map pv := by
  induction L with
  | nil => rfl
  | cons x L ih => rw [flatV_cons, ih]; rfl
theorem FOwn.slot {e base : Nat} {W : World} {g n c : Nat} {L : List PV} (h : FOwn e 1 pcell base W (.slice (some ⟨g, 0, none⟩) n c) L) {j : Nat} {s : PV} (hs : L[j]? = some s) :
    W.cell? ⟨g, j, none⟩ = some (pv s) ∧ W.frozen? ⟨g, j, none⟩ = false := by
  obtain ⟨a, c', e2⟩ := (FOwn.sl pcell_len h).len
  injection e2 with e3 e4 e5
  have hjl := (List.getElem?_eq_some_iff.1 hs).1
  have h' : W.ownsRow base e 1 (.slice (some ⟨g, 0, none⟩) n c) L.length (flatV pcell L) := h
  rw [e4] at h'
  refine ⟨?_, h'.frozenAt j⟩
  rw [h'.cellAt j (by omega), p_flat, List.getElem?_map, hs]
  rfl
theorem FOwn.put {e base : Nat} {W : World} {g n c : Nat} {L : List PV} (h : FOwn e 1 pcell base W (.slice (some ⟨g, 0, none⟩) n c) L) (j : Nat) (s : PV) :
    FOwn e 1 pcell base (W.setCell ⟨g, j, none⟩ (pv s)) (.slice (some ⟨g, 0, none⟩) n c) (L.set j s) := by
  obtain ⟨a, c', e2⟩ := (FOwn.sl pcell_len h).len
  injection e2 with e3 e4 e5
  have h' : W.ownsRow base e 1 (.slice (some ⟨g, 0, none⟩) n c) L.length (flatV pcell L) := h
  rw [e4] at h'
  have k := (h'.stored j (pv s)).1
  rw [p_flat, ← List.map_set, ← p_flat] at k
  unfold FOwn
  rw [List.length_set, e4]
  exact k
theorem FOwn.addr {α : Type} {e n : Nat} {f : α → List Value} {base : Nat} {W : World} {a : Option Addr} {k c : Nat} {l : List α} (h : FOwn e n f base W (.slice a k c) l) (hl : 0 < l.length) : ∃ g, a = some ⟨g, 0, none⟩ ∧ base ≤ g ∧ ∃ cur, W.heap[g]? = some (.cells cur e (0, 0)) := by
  rcases h.2 with ⟨h', h0⟩ | ⟨g, cap, cur, hx, hb, hgg, -⟩
  · omega
  · injection hx with e1 e2 e3
    subst e1
    exact ⟨g, rfl, hb, cur, hgg⟩
/-- Rows of a row of one's own that are made anew, one by one: those ahead of j are. -/
structure RI (SI : Nat → Prop) (F : List Gly → List Gly) (base : Nat) (W : World) (v : Value) (l : List (List Gly)) (j : Nat) : Prop where
  lt : ∀ b, SI b → b < base
  sz : base ≤ W.heap.size
  own : ∃ (L : List PV) (S : Nat → Prop), FOwn 30 1 pcell base W v L ∧ L.length = l.length ∧ (∀ b, S b → base ≤ b ∧ ∃ cur fz, W.heap[b]? = some (.cells cur 56 fz)) ∧
    (∀ (i : Nat) s r, i < j → L[i]? = some s → l[i]? = some r → FsS S 2 gcell W (pv s) (F r)) ∧ (∀ (i : Nat) s r, j ≤ i → L[i]? = some s → l[i]? = some r → FsS SI 2 gcell W (pv s) r)
section
variable {SI : Nat → Prop} {F : List Gly → List Gly} {base : Nat} {W W' : World} {v : Value} {l : List (List Gly)} {j : Nat}
theorem RI.len (h : RI SI F base W v l j) : ∃ a cap, v = .slice a l.length cap := by
  obtain ⟨L, S, hL, hl, -⟩ := h.own
  obtain ⟨a, cap, e⟩ := (FOwn.sl pcell_len hL).len
  exact ⟨a, cap, hl ▸ e⟩
theorem RI.at {a : Option Addr} {n c : Nat} (h : RI SI F base W (.slice a n c) l j) {r : List Gly} (hr : l[j]? = some r) :
    ∃ g s, a = some ⟨g, 0, none⟩ ∧ W.cell? ⟨g, j, none⟩ = some (pv s) ∧ W.frozen? ⟨g, j, none⟩ = false ∧ FsS SI 2 gcell W (pv s) r := by
  obtain ⟨L, S, hL, hl, hS, h1, h2⟩ := h.own
  have hj := (List.getElem?_eq_some_iff.1 hr).1
  obtain ⟨s, hs⟩ : ∃ s, L[j]? = some s := ⟨L[j]'(by omega), List.getElem?_eq_getElem _⟩
  obtain ⟨g, rfl, -, -⟩ := hL.addr (by omega)
  obtain ⟨k1, k2⟩ := hL.slot hs
  exact ⟨g, s, rfl, k1, k2, h2 j s r (Nat.le_refl _) hs hr⟩
/-- One more: a row of one's own, just made, in its place. -/
theorem RI.step {g n c : Nat} (h : RI SI F base W (.slice (some ⟨g, 0, none⟩) n c) l j) (hb : Below W.heap.size W W') {r : List Gly} (hr : l[j]? = some r) {s : PV} (hs : GOwn W.heap.size W' (pv s) (F r)) :
    RI SI F base (W'.setCell ⟨g, j, none⟩ (pv s)) (.slice (some ⟨g, 0, none⟩) n c) l (j + 1) ∧ Exc (fun b => b = g) W (W'.setCell ⟨g, j, none⟩ (pv s)) := by
  obtain ⟨L, S, hL, hl, hS, h1, h2⟩ := h.own
  have hj := (List.getElem?_eq_some_iff.1 hr).1
  obtain ⟨s0, hs0⟩ : ∃ s, L[j]? = some s := ⟨L[j]'(by omega), List.getElem?_eq_getElem _⟩
  obtain ⟨g', e1, hg, cur0, hcur⟩ := hL.addr (by omega)
  injection e1 with e1
  injection e1 with e1
  subst e1
  have hne : ∀ b cur fz, W.heap[b]? = some (.cells cur 56 fz) → b ≠ g := fun b cur fz hb' e => by
    rw [e, hcur] at hb'
    injection hb' with hb'
    injection hb' with _ h3
    exact absurd h3 (by decide)
  have hglt : g < W.heap.size := (Array.getElem?_eq_some_iff.1 hcur).1
  have kS : Kp S W (W'.setCell ⟨g, j, none⟩ (pv s)) := fun b hb' => by
    obtain ⟨q1, cur, fz, q2⟩ := hS b hb'
    rw [Below.heap_setCell _ _ _ _ (hne b cur fz q2)]
    exact hb.block b (Array.getElem?_eq_some_iff.1 q2).1
  have kI : Kp SI W (W'.setCell ⟨g, j, none⟩ (pv s)) := fun b hb' => by
    have := h.lt b hb'
    rw [Below.heap_setCell _ _ _ _ (show b ≠ g by omega)]
    exact hb.block b (Nat.lt_of_lt_of_le this h.sz)
  have fS := own_foot gcell_len hs
  have hne2 : ∀ b, (W.heap.size ≤ b ∧ ∃ cur fz, W'.heap[b]? = some (.cells cur 56 fz)) → b ≠ g := fun b hb' => by omega
  have kN : Kp (fun b => W.heap.size ≤ b ∧ ∃ cur fz, W'.heap[b]? = some (.cells cur 56 fz)) W' (W'.setCell ⟨g, j, none⟩ (pv s)) := fun b hb' => by
    rw [Below.heap_setCell _ _ _ _ (hne2 b hb')]
  refine ⟨⟨h.lt, by rw [szset]; exact Nat.le_trans h.sz hb.size, ⟨L.set j s, fun b => S b ∨ (W.heap.size ≤ b ∧ ∃ cur fz, W'.heap[b]? = some (.cells cur 56 fz)), (hL.keep hb).put j s, by rw [List.length_set]; exact hl, ?_, ?_, ?_⟩⟩, ?_⟩
  · rintro b (hb' | hb')
    · obtain ⟨q1, cur, fz, q2⟩ := hS b hb'
      exact ⟨q1, cur, fz, (kS b hb').trans q2⟩
    · obtain ⟨q1, cur, fz, q2⟩ := hb'
      exact ⟨Nat.le_trans h.sz q1, cur, fz, (kN b ⟨q1, cur, fz, q2⟩).trans q2⟩
  · intro i s' r' hi hs' hr'
    by_cases hij : i = j
    · subst hij
      rw [List.getElem?_set_self (by omega)] at hs'
      obtain rfl := Option.some.inj hs'
      rw [hr] at hr'
      obtain rfl := Option.some.inj hr'
      exact (fS.keep kN).mono (fun b q => .inr q)
    · rw [List.getElem?_set_ne (fun e => hij e.symm)] at hs'
      exact ((h1 i s' r' (by omega) hs' hr').keep kS).mono (fun b q => .inl q)
  · intro i s' r' hi hs' hr'
    rw [List.getElem?_set_ne (by omega)] at hs'
    exact (h2 i s' r' (by omega) hs' hr').keep kI
  · exact (Exc.of hb).set _ _ (fun _ => rfl)
theorem RI.done (h : RI SI F base W v l l.length) : CInv base W v (l.map F) := by
  obtain ⟨L, S, hL, hl, hS, h1, h2⟩ := h.own
  refine ⟨⟨L, S, hL, by rw [List.length_map]; exact hl, hS, fun i s r hs hr => ?_⟩⟩
  rw [List.getElem?_map] at hr
  cases hx : l[i]? with
  | none => rw [hx] at hr; cases hr
  | some x =>
    rw [hx] at hr
    obtain rfl := Option.some.inj hr
    exact h1 i s x (List.getElem?_eq_some_iff.1 hx).1 hs hx
end
attribute [local go_sem ↓ high] builtin_appP
theorem appP_own {base : Nat} {W : World} {x u : Value} {l m : List PV} (h : FOwn 30 1 pcell base W x l) (hu : Fs 1 pcell W u m) (hb : base ≤ W.heap.size) (hd : l.length + m.length ≤ 1000000) :
    ∃ x' w', (appP #[x, u]).run Tryd.prog W = .ok (.value x') w' ∧ FOwn 30 1 pcell base w' x' (l ++ m) ∧ W.grownBy w' x.ownBlock := by
  obtain ⟨i0, hi, hz0, hz1, hz2⟩ := info_parts infoSG
  obtain ⟨x', w', hr, ho, hg, -⟩ := fapp (P := Tryd.prog) (t := 35) pcell_len pcell_one (by decide) Tryd.underlying35 hi hz0 hz1 hz2 rfl (by decide) h hu hb hd
  refine ⟨x', w', ?_, ho, hg⟩
  unfold appP
  simp only [Sem.run_bind, Sem.run_pure, Result.andThen_ok, hr]
set_option maxRecDepth 100000 in
set_option maxHeartbeats 1000000 in
theorem clonep_any (L : List PV) (v : Value) (w : World) (hv : Fs 1 pcell w v L) (hl : L.length ≤ 200000) :
    Calls Tryd.prog 81 #[v] w fun e w' => ∃ u, e = .returned u ∧ FOwn 30 1 pcell w.heap.size w' u L ∧ Below w.heap.size w w' := by
  have HV := Lib.hid hv
  obtain ⟨a, cap, rfl, -, hr⟩ := hv
  cases a with
  | none =>
    obtain rfl : L = [] := by
      cases L with
      | nil => rfl
      | cons x l => obtain ⟨g, off, h0, _⟩ := hr 0 x rfl; cases h0
    clear hr
    have hnil : (binOp .eql 35 (.slice none 0 cap) (.slice none 0 0)).run Tryd.prog w = .ok (.bool true) w := Lib.run_eql_slice_nil w 35 30 none 0 cap 0 0 Tryd.underlying35
    simp only [List.length_nil]
    go_enter Tryd.func81, Tryd.ntmps81
    go_wp2_with fail
    go_ret
    exact ⟨_, rfl, FOwn.nil _ _, Below.refl _ _⟩
  | some a =>
    clear hr
    have b1 := below_lit w (.cells #[] 30)
    have o1 : FOwn 30 1 pcell w.heap.size (w.alloc (.cells #[] 30)) (.slice (some ⟨w.heap.size, 0, none⟩) 0 0) [] := fown_lit pcell_len w (Nat.le_refl _) [] (by simp)
    obtain ⟨x', w', k1, o2, g2⟩ := appP_own o1 (Fs.below HV.out b1) (by simp) (by simp; omega)
    have b2 := Lib.hid (o1.below b1 (by simp) g2)
    have O2 := Lib.hid o2
    have hnil : (binOp .eql 35 (.slice (some a) L.length cap) (.slice none 0 0)).run Tryd.prog w = .ok (.bool false) w := Lib.run_eql_slice_nil w 35 30 (some a) L.length cap 0 0 Tryd.underlying35
    clear o1 o2 g2 b1
    go_enter Tryd.func81, Tryd.ntmps81
    go_wp2_with fail
    go_ret
    exact ⟨_, rfl, O2.out, b2.out⟩
set_option maxRecDepth 100000 in
set_option maxHeartbeats 2000000 in
theorem pcopied_any (S : Nat → Prop) (l : List (List Gly)) (v : Value) (w : World) (hv : GrS S w v l) (hl : l.length + lens l ≤ 90000) (hS : ∀ b, S b → b < w.heap.size) :
    Calls Tryd.prog 92 #[v] w fun e w' => ∃ u, e = .returned u ∧ CInv w.heap.size w' u l ∧ Below w.heap.size w w' := by
  obtain ⟨L, hLl, hLv, hLr⟩ := hv
  have HC := Lib.hid (clonep_any L v w hLv.1 (by omega))
  have HST := Lib.hid (fun w1 u (b1 : Below w.heap.size w w1) (ho : FOwn 30 1 pcell w.heap.size w1 u L) => (⟨hS, b1.size, ⟨L, fun _ => False, ho, hLl, fun _ h => h.elim, fun i s r h => by omega, fun i s r _ a c => (hLr i s r a c).keep (Kp.below b1 hS)⟩⟩ : RI S id w.heap.size w1 u l 0))
  obtain ⟨va, vc, rfl⟩ := hLv.1.len
  rw [hLl] at HC ⊢
  clear hLv hLr hS hLl
  go_enter Tryd.func92, Tryd.ntmps92
  go_wp2_with fail
  refine HC.out.mono ?_
  rintro e w1 ⟨u, rfl, ho, b1⟩
  have HRI := Lib.hid (HST.out w1 u b1 ho)
  have B1 := Lib.hid b1
  obtain ⟨ua, uc, rfl⟩ := HRI.out.len
  clear HC HST ho b1
  go_wp2_with fail
  go_loopw [4, 5, 10] (fun _ _ i wr => ∃ j : Nat, j ≤ l.length ∧ i = .int .i64 j ∧ Hid (RI S id w.heap.size wr (.slice ua l.length uc) l j) ∧ Hid (Below w.heap.size w wr)) (fun _ _ i _ => l.length - (intOf i).toNat)
  case atStart => exact ⟨0, by omega, rfl, HRI, B1⟩
  case round =>
    obtain ⟨j, hj, rfl, HR, BW⟩ := hrel
    clear HRI B1
    by_cases hlt : j < l.length
    · obtain ⟨r, hr⟩ : ∃ r, l[j]? = some r := ⟨l[j], List.getElem?_eq_getElem hlt⟩
      have lr := lens_le hr
      obtain ⟨g, ⟨s1, s2, s3⟩, rfl, c0, f0, hs⟩ := HR.out.at hr
      simp only [pv] at c0 hs
      have HG := Lib.hid (cloneg_any r _ wr hs.1 (by omega))
      have hi0 : (j : Int) < (l.length : Int) := by omega
      have hi1 : (0 : Int) ≤ (j : Int) := by omega
      have HRR := Lib.hid hr
      have hgl := World.block_lt_of_cell? wr _ c0
      have HSZ := Lib.hid hgl
      clear hr hs hgl
      go_wp2_with fail
      refine HG.out.mono ?_
      rintro e w2 ⟨u, rfl, ho, b2⟩
      obtain ⟨u1, u3, e2⟩ := (FOwn.sl gcell_len ho).len
      obtain ⟨k1, k2⟩ := HR.out.step b2 HRR.out (s := (u1, r.length, u3)) (by unfold pv; rw [← e2]; exact ho)
      simp only [pv] at k1 k2
      subst e2
      have c2 : w2.cell? ⟨g, j, none⟩ = some (.slice s1 s2 s3) := (b2.cell (p := ⟨g, j, none⟩) HSZ.out).trans c0
      have f2 : w2.frozen? ⟨g, j, none⟩ = false := (b2.frozen (p := ⟨g, j, none⟩) HSZ.out).trans f0
      have K1 := Lib.hid k1
      have hgb : w.heap.size ≤ g := by
        obtain ⟨L', S', hL', hl', -⟩ := HR.out.own
        obtain ⟨g', e1, hg, -⟩ := hL'.addr (by omega)
        injection e1 with e1
        injection e1 with e1
        omega
      have K2 := Lib.hid (BW.out.trans (k2.below BW.out.size (fun b hb e => by omega)))
      clear k1 k2 ho b2 HG c0 f0
      go_wp2_with fail
      go_roundw
      case rel => exact ⟨j + 1, by omega, by go_num, K1, K2⟩
      case measure => (simp [intOf]; try omega)
    · obtain rfl : j = l.length := by omega
      have hlt' : ¬ (l.length : Int) < (l.length : Int) := by omega
      have HD := Lib.hid HR.out.done
      rw [List.map_id] at HD
      clear HR
      go_wp2_with fail
      go_ret
      exact ⟨_, rfl, HD.out, BW.out⟩
end Go.Proofs.YtpccjgoeoeehoaaDoor
namespace Go.Proofs.YtpccjgoeoeehoaaDoor
open Go.RowKit
attribute [local go_sem ↓ high] builtin_appW builtin_appN
theorem appW_own {base : Nat} {W : World} {x u : Value} {l m : List (Bool × PV)} (h : FOwn 83 2 trcell base W x l) (hu : Fs 2 trcell W u m) (hb : base ≤ W.heap.size) (hd : l.length + m.length ≤ 1000000) :
    ∃ x' w', (appW #[x, u]).run Tryd.prog W = .ok (.value x') w' ∧ FOwn 83 2 trcell base w' x' (l ++ m) ∧ W.grownBy w' x.ownBlock := by
  obtain ⟨i0, hi, hz0, hz1, hz2⟩ := info_parts infoTR
  obtain ⟨x', w', hr, ho, hg, -⟩ := fapp (P := Tryd.prog) (t := 36) trcell_len trcell_one (by decide) Tryd.underlying36 hi hz0 hz1 hz2 rfl (by decide) h hu hb hd
  refine ⟨x', w', ?_, ho, hg⟩
  unfold appW
  simp only [Sem.run_bind, Sem.run_pure, Result.andThen_ok, hr]
set_option maxRecDepth 100000 in
set_option maxHeartbeats 1000000 in
theorem clonet_any (L : List (Bool × PV)) (v : Value) (w : World) (hv : Fs 2 trcell w v L) (hl : L.length ≤ 200000) :
    Calls Tryd.prog 69 #[v] w fun e w' => ∃ u, e = .returned u ∧ FOwn 83 2 trcell w.heap.size w' u L ∧ Below w.heap.size w w' := by
  have HV := Lib.hid hv
  obtain ⟨a, cap, rfl, -, hr⟩ := hv
  cases a with
  | none =>
    obtain rfl : L = [] := by
      cases L with
      | nil => rfl
      | cons x l => obtain ⟨g, off, h0, _⟩ := hr 0 x rfl; cases h0
    clear hr
    have hnil : (binOp .eql 36 (.slice none 0 cap) (.slice none 0 0)).run Tryd.prog w = .ok (.bool true) w := Lib.run_eql_slice_nil w 36 83 none 0 cap 0 0 Tryd.underlying36
    simp only [List.length_nil]
    go_enter Tryd.func69, Tryd.ntmps69
    go_wp2_with fail
    go_ret
    exact ⟨_, rfl, FOwn.nil _ _, Below.refl _ _⟩
  | some a =>
    clear hr
    have b1 := below_lit w (.cells #[] 83)
    have o1 : FOwn 83 2 trcell w.heap.size (w.alloc (.cells #[] 83)) (.slice (some ⟨w.heap.size, 0, none⟩) 0 0) [] := fown_lit trcell_len w (Nat.le_refl _) [] (by simp)
    obtain ⟨x', w', k1, o2, g2⟩ := appW_own o1 (Fs.below HV.out b1) (by simp) (by simp; omega)
    have b2 := Lib.hid (o1.below b1 (by simp) g2)
    have O2 := Lib.hid o2
    have hnil : (binOp .eql 36 (.slice (some a) L.length cap) (.slice none 0 0)).run Tryd.prog w = .ok (.bool false) w := Lib.run_eql_slice_nil w 36 83 (some a) L.length cap 0 0 Tryd.underlying36
    clear o1 o2 g2 b1
    go_enter Tryd.func69, Tryd.ntmps69
    go_wp2_with fail
    go_ret
    exact ⟨_, rfl, O2.out, b2.out⟩
attribute [local go_sem ↓ high] builtin_appN
theorem appN_own {base : Nat} {W : World} {x u : Value} {l m : List NV} (h : FOwn 40 10 ncell base W x l) (hu : Fs 10 ncell W u m) (hb : base ≤ W.heap.size) (hd : l.length + m.length ≤ 1000000) :
    ∃ x' w', (appN #[x, u]).run Tryd.prog W = .ok (.value x') w' ∧ FOwn 40 10 ncell base w' x' (l ++ m) ∧ W.grownBy w' x.ownBlock := by
  obtain ⟨i0, hi, hz0, hz1, hz2⟩ := info_parts infoNd
  obtain ⟨x', w', hr, ho, hg, -⟩ := fapp (P := Tryd.prog) (t := 27) ncell_len ncell_one (by decide) Tryd.underlying27 hi hz0 hz1 hz2 rfl (by decide) h hu hb hd
  refine ⟨x', w', ?_, ho, hg⟩
  unfold appN
  simp only [Sem.run_bind, Sem.run_pure, Result.andThen_ok, hr]
set_option maxRecDepth 100000 in
set_option maxHeartbeats 1000000 in
theorem clonen_any (L : List NV) (v : Value) (w : World) (hv : Fs 10 ncell w v L) (hl : L.length ≤ 200000) :
    Calls Tryd.prog 41 #[v] w fun e w' => ∃ u, e = .returned u ∧ FOwn 40 10 ncell w.heap.size w' u L ∧ Below w.heap.size w w' := by
  have HV := Lib.hid hv
  obtain ⟨a, cap, rfl, -, hr⟩ := hv
  cases a with
  | none =>
    obtain rfl : L = [] := by
      cases L with
      | nil => rfl
      | cons x l => obtain ⟨g, off, h0, _⟩ := hr 0 x rfl; cases h0
    clear hr
    have hnil : (binOp .eql 27 (.slice none 0 cap) (.slice none 0 0)).run Tryd.prog w = .ok (.bool true) w := Lib.run_eql_slice_nil w 27 40 none 0 cap 0 0 Tryd.underlying27
    simp only [List.length_nil]
    go_enter Tryd.func41, Tryd.ntmps41
    go_wp2_with fail
    go_ret
    exact ⟨_, rfl, FOwn.nil _ _, Below.refl _ _⟩
  | some a =>
    clear hr
    have b1 := below_lit w (.cells #[] 40)
    have o1 : FOwn 40 10 ncell w.heap.size (w.alloc (.cells #[] 40)) (.slice (some ⟨w.heap.size, 0, none⟩) 0 0) [] := fown_lit ncell_len w (Nat.le_refl _) [] (by simp)
    obtain ⟨x', w', k1, o2, g2⟩ := appN_own o1 (Fs.below HV.out b1) (by simp) (by simp; omega)
    have b2 := Lib.hid (o1.below b1 (by simp) g2)
    have O2 := Lib.hid o2
    have hnil : (binOp .eql 27 (.slice (some a) L.length cap) (.slice none 0 0)).run Tryd.prog w = .ok (.bool false) w := Lib.run_eql_slice_nil w 27 40 (some a) L.length cap 0 0 Tryd.underlying27
    clear o1 o2 g2 b1
    go_enter Tryd.func41, Tryd.ntmps41
    go_wp2_with fail
    go_ret
    exact ⟨_, rfl, O2.out, b2.out⟩
set_option maxRecDepth 100000 in
set_option maxHeartbeats 2000000 in
theorem bcrows_any (S : Nat → Prop) (l : List (List Gly)) (v : Value) (w : World) (hv : GrS S w v l) (hl : l.length + lens l ≤ 90000) (hS : ∀ b, S b → b < w.heap.size) :
    Calls Tryd.prog 68 #[v] w fun e w' => ∃ u, e = .returned u ∧ CInv w.heap.size w' u l ∧ Below w.heap.size w w' := by
  obtain ⟨L, hLl, hLv, hLr⟩ := hv
  have HC := Lib.hid (clonep_any L v w hLv.1 (by omega))
  have HST := Lib.hid (fun w1 u (b1 : Below w.heap.size w w1) (ho : FOwn 30 1 pcell w.heap.size w1 u L) => (⟨hS, b1.size, ⟨L, fun _ => False, ho, hLl, fun _ h => h.elim, fun i s r h => by omega, fun i s r _ a c => (hLr i s r a c).keep (Kp.below b1 hS)⟩⟩ : RI S id w.heap.size w1 u l 0))
  obtain ⟨va, vc, rfl⟩ := hLv.1.len
  rw [hLl] at HC ⊢
  clear hLv hLr hS hLl
  go_enter Tryd.func68, Tryd.ntmps68
  go_wp2_with fail
  refine HC.out.mono ?_
  rintro e w1 ⟨u, rfl, ho, b1⟩
  have HRI := Lib.hid (HST.out w1 u b1 ho)
  have B1 := Lib.hid b1
  obtain ⟨ua, uc, rfl⟩ := HRI.out.len
  clear HC HST ho b1
  go_wp2_with fail
  go_loopw [4, 5, 10] (fun _ _ i wr => ∃ j : Nat, j ≤ l.length ∧ i = .int .i64 j ∧ Hid (RI S id w.heap.size wr (.slice ua l.length uc) l j) ∧ Hid (Below w.heap.size w wr)) (fun _ _ i _ => l.length - (intOf i).toNat)
  case atStart => exact ⟨0, by omega, rfl, HRI, B1⟩
  case round =>
    obtain ⟨j, hj, rfl, HR, BW⟩ := hrel
    clear HRI B1
    by_cases hlt : j < l.length
    · obtain ⟨r, hr⟩ : ∃ r, l[j]? = some r := ⟨l[j], List.getElem?_eq_getElem hlt⟩
      have lr := lens_le hr
      obtain ⟨g, ⟨s1, s2, s3⟩, rfl, c0, f0, hs⟩ := HR.out.at hr
      simp only [pv] at c0 hs
      have HG := Lib.hid (cloneg_any r _ wr hs.1 (by omega))
      have hi0 : (j : Int) < (l.length : Int) := by omega
      have hi1 : (0 : Int) ≤ (j : Int) := by omega
      have HRR := Lib.hid hr
      have hgl := World.block_lt_of_cell? wr _ c0
      have HSZ := Lib.hid hgl
      clear hr hs hgl
      go_wp2_with fail
      refine HG.out.mono ?_
      rintro e w2 ⟨u, rfl, ho, b2⟩
      obtain ⟨u1, u3, e2⟩ := (FOwn.sl gcell_len ho).len
      obtain ⟨k1, k2⟩ := HR.out.step b2 HRR.out (s := (u1, r.length, u3)) (by unfold pv; rw [← e2]; exact ho)
      simp only [pv] at k1 k2
      subst e2
      have c2 : w2.cell? ⟨g, j, none⟩ = some (.slice s1 s2 s3) := (b2.cell (p := ⟨g, j, none⟩) HSZ.out).trans c0
      have f2 : w2.frozen? ⟨g, j, none⟩ = false := (b2.frozen (p := ⟨g, j, none⟩) HSZ.out).trans f0
      have K1 := Lib.hid k1
      have hgb : w.heap.size ≤ g := by
        obtain ⟨L', S', hL', hl', -⟩ := HR.out.own
        obtain ⟨g', e1, hg, -⟩ := hL'.addr (by omega)
        injection e1 with e1
        injection e1 with e1
        omega
      have K2 := Lib.hid (BW.out.trans (k2.below BW.out.size (fun b hb e => by omega)))
      clear k1 k2 ho b2 HG c0 f0
      go_wp2_with fail
      go_roundw
      case rel => exact ⟨j + 1, by omega, by go_num, K1, K2⟩
      case measure => (simp [intOf]; try omega)
    · obtain rfl : j = l.length := by omega
      have hlt' : ¬ (l.length : Int) < (l.length : Int) := by omega
      have HD := Lib.hid HR.out.done
      rw [List.map_id] at HD
      clear HR
      go_wp2_with fail
      go_ret
      exact ⟨_, rfl, HD.out, BW.out⟩
end Go.Proofs.YtpccjgoeoeehoaaDoor
namespace Go.Proofs.YtpccjgoeoeehoaaDoor
open Go.RowKit
def padL {α : Type} (z : α) (n : Nat) (l : List α) : List α := l.take n ++ List.replicate (n - l.length) z
theorem padL_len {α : Type} (z : α) (n : Nat) (l : List α) : (padL z n l).length = n := by unfold padL; simp; omega
theorem mcells_pad : ∀ (n : Nat) (l : List (List Gly)), mcells n l = (padL [] n l).map sqz
  | 0, l => by simp [mcells, padL]
  | n + 1, [] => by
    have ih := mcells_pad n []
    unfold mcells
    rw [ih]
    simp [padL, List.replicate_succ, sqz_nil]
  | n + 1, c :: l => by
    have ih := mcells_pad n l
    unfold mcells
    rw [ih]
    simp [padL]
theorem padL_at {α β : Type} (z : α) (z' : β) (n : Nat) {l : List α} {m : List β} (h : l.length = m.length) {i : Nat} {x : α} {y : β} (hx : (padL z n l)[i]? = some x) (hy : (padL z' n m)[i]? = some y) : (l[i]? = some x ∧ m[i]? = some y) ∨ (x = z ∧ y = z') := by
  unfold padL at hx hy
  by_cases hi : i < (l.take n).length
  · rw [List.getElem?_append_left hi] at hx
    have hi' : i < (m.take n).length := by rw [List.length_take] at hi ⊢; omega
    rw [List.getElem?_append_left hi'] at hy
    rw [List.length_take] at hi
    rw [List.getElem?_take_of_lt (by omega)] at hx hy
    exact .inl ⟨hx, hy⟩
  · rw [List.getElem?_append_right (by omega)] at hx
    have hi' : ¬ i < (m.take n).length := by rw [List.length_take] at hi ⊢; omega
    rw [List.getElem?_append_right (by omega)] at hy
    rw [List.getElem?_replicate] at hx hy
    split at hx <;> split at hy <;> simp at hx hy
    exact .inr ⟨hx.symm, hy.symm⟩
theorem CInv.mono {base base' : Nat} {W : World} {v : Value} {l : List (List Gly)} (h : CInv base W v l) (hb : base' ≤ base) : CInv base' W v l := by
  obtain ⟨L, S, hL, hl, hS, hE⟩ := h.own
  exact ⟨⟨L, S, hL.mono hb, hl, fun b q => ⟨Nat.le_trans hb (hS b q).1, (hS b q).2⟩, hE⟩⟩
theorem pflat_len (L : List PV) : (flatV pcell L).length = L.length := by rw [flatV_len pcell_len]; omega
noncomputable def makeP (a b : Value) : Sem Value := Instr.makeSlice 35 a b
theorem make_makeP (a b : Value) : Instr.makeSlice 35 a b = makeP a b := rfl
noncomputable def copyP (args : Array Value) : Sem Next := do pure (.value (← Builtin.copy_ #[35, 35] 3 args))
theorem builtin_copyP (cs : Array Bool) (args : Array Value) : builtin .copy #[35, 35] 3 cs args = copyP args := rfl
theorem makeP_run (W : World) (n : Nat) (hn : n ≤ 100000) : (makeP (.int .i64 (n : Int)) (.int .i64 (n : Int))).run Tryd.prog W = .ok (.slice (some ⟨W.heap.size, 0, none⟩) n n) (W.alloc (.cells (flatV pcell (List.replicate n nilP)).toArray 30)) := by
  obtain ⟨i0, hi, hz0, hz1, hz2⟩ := info_parts infoSG
  have := run_makeSlice (P := Tryd.prog) W 35 30 i0 _ Tryd.underlying35 hi hz0 .i64 .i64 (n : Int) (n : Int) (by omega) (Int.le_refl _) (by rw [hz1]; simp; omega) (by rw [hz2]; omega) (by omega)
  unfold makeP
  rw [this]
  simp only [Int.toNat_natCast, hz1]
  have e : (Value.slice none 0 0).cells = #[.slice none 0 0] := rfl
  rw [e]
  have e2 : madeCells #[Value.slice none 0 0] (n * 1) = (flatV pcell (List.replicate n nilP)).toArray := by
    apply Array.ext'
    rw [toList_madeCells_one, p_flat, List.map_replicate, Nat.mul_one]
    rfl
  rw [e2]
theorem copyP_run {base g : Nat} {W : World} {n : Nat} {L : List PV} {v : Value} (hd : FOwn 30 1 pcell base W (.slice (some ⟨g, 0, none⟩) n n) (List.replicate n nilP)) (hb : Blk W g 30 (flatV pcell (List.replicate n nilP))) (hs : Fs 1 pcell W v L) (hm : n ≤ maxLen) (hbg : base ≤ g) :
    ∃ W', (copyP #[.slice (some ⟨g, 0, none⟩) n n, v]).run Tryd.prog W = .ok (.value (.int .i64 ((min L.length n : Nat) : Int))) W' ∧ FOwn 30 1 pcell base W' (.slice (some ⟨g, 0, none⟩) n n) (padL nilP n L) ∧ Exc (fun b => b = g) W W' := by
  obtain ⟨i0, hi, hz0, hz1, hz2⟩ := info_parts infoSG
  obtain ⟨a, c, rfl, hc, hr⟩ := hs
  cases a with
  | none =>
    obtain rfl : L = [] := by
      cases L with
      | nil => rfl
      | cons x l => obtain ⟨g, off, h0, _⟩ := hr 0 x rfl; cases h0
    refine ⟨W, ?_, by simpa [padL] using hd, Exc.refl _ _⟩
    unfold copyP
    simp [Builtin.copy_, run_underlying Tryd.underlying35, Builtin.lenOf, Builtin.firstCells, sizeOf, typeInfo, hi, hz1, Result.andThen, goInt, storeCells]
  | some a =>
    have hcells : ∀ j v, (flatV pcell (L.take n))[j]? = some v → W.cell? (a.add j) = some v := by
      intro j v hj
      obtain ⟨q, i, y, rfl, hq, hi⟩ := flatV_inv pcell_len _ j v hj
      have hq' : L[q]? = some y := by
        have := (List.getElem?_eq_some_iff.1 hq).1
        rw [List.length_take] at this
        rwa [List.getElem?_take_of_lt (by omega)] at hq
      obtain ⟨g, off, hg, h0⟩ := hr q y hq'
      obtain rfl := Option.some.inj hg
      rw [Addr.add_lit]
      exact h0 i v hi
    have hlen : (flatV pcell (L.take n)).length = Nat.min L.length n * 1 := by rw [pflat_len, List.length_take]; show min n L.length = min L.length n * 1; omega
    have hl := run_loadCells_list (P := Tryd.prog) W a (flatV pcell (L.take n)) hcells
    have hfit : (flatV pcell (L.take n)).length ≤ (flatV pcell (List.replicate n nilP)).length := by rw [pflat_len, pflat_len, List.length_take, List.length_replicate]; omega
    have hst := run_storeCells_at (P := Tryd.prog) g 0 30 (flatV pcell (L.take n)) 0 (flatV pcell (List.replicate n nilP)).toArray W hb (by simpa using hfit) (fun v hv => by
      simp only [flatV, List.mem_flatten, List.mem_map] at hv
      obtain ⟨ys, ⟨y, _, rfl⟩, hy⟩ := hv
      exact pcell_one y v hy)
    simp only [Nat.add_zero, Nat.zero_add] at hst
    have hcell : ∀ A : Array Value, Blk W g 30 (flatV pcell (List.replicate n nilP)) → (W.setRow g A).heap[g]? = some (.cells A 30 (0, 0)) := fun A h => setRow_heap _ _ _ _ _ _ h
    obtain ⟨A, hA⟩ : ∃ A, A = ((flatV pcell (List.replicate n nilP)).take 0 ++ flatV pcell (L.take n) ++ (flatV pcell (List.replicate n nilP)).drop (flatV pcell (L.take n)).length).toArray := ⟨_, rfl⟩
    have hEq : (flatV pcell (List.replicate n nilP)).take 0 ++ flatV pcell (L.take n) ++ (flatV pcell (List.replicate n nilP)).drop (flatV pcell (L.take n)).length = flatV pcell (padL nilP n L) := by
      have e3 : (flatV pcell (L.take n)).length = min n L.length := by rw [pflat_len, List.length_take]
      have e4 : (flatV pcell (List.replicate n nilP)).drop (min n L.length) = flatV pcell (List.replicate (n - L.length) nilP) := by
        rw [p_flat, p_flat, List.map_replicate, List.map_replicate, List.drop_replicate, show n - min n L.length = n - L.length by omega]
      rw [List.take_zero, List.nil_append, e3, e4]
      unfold padL
      rw [flatV_app]
    have hrow : Blk (W.setRow g A) g 30 (flatV pcell (padL nilP n L)) := by
      have h1 := hcell A hb
      rw [hA, hEq] at h1
      rw [hA, hEq]
      exact h1
    refine ⟨W.setRow g A, ?_, ?_, ?_⟩
    · unfold copyP
      rw [hA]
      simp [Builtin.copy_, run_underlying Tryd.underlying35, Builtin.lenOf, Builtin.firstCells, sizeOf, typeInfo, hi, hz1, ← hlen, hl, hst, Result.andThen, goInt]
    · have := Blk.fown (base := base) (l := padL nilP n L) pcell_len hrow hbg (by rw [padL_len]; exact hm)
      rw [padL_len] at this
      exact this
    · exact ⟨rfl, rfl, rfl, by simp [World.setRow], fun k hk hx => setRow_other W g k A (fun e => hx (by omega))⟩
attribute [local go_sem ↓ high] make_makeP builtin_copyP
def MRowP (b : Bool) (m : List (List Gly)) (w : World) (e : Ending) (w' : World) : Prop := ∃ s : PV, e = .returned (.agg (trcell (b, s)).toArray) ∧ CInv w.heap.size w' (pv s) m ∧ Below w.heap.size w w'
set_option maxRecDepth 100000 in
set_option maxHeartbeats 4000000 in
theorem pmendrow_any (S : Nat → Prop) (x : Bool × PV) (r : Trow) (n : Nat) (w : World) (hx : x.1 = r.1) (hv : GrS S w (pv x.2) r.2) (hS : ∀ b, S b → b < w.heap.size) (h1 : 1 ≤ n) (hn : n ≤ 1000) (hl : r.2.length + lens r.2 ≤ 90000) :
    Calls Tryd.prog 95 #[.agg (trcell x).toArray, .int .i64 (n : Int)] w (MRowP r.1 (mrowT n r).2 w) := by
  obtain ⟨x1, ⟨x2, x3, x4⟩⟩ := x
  obtain ⟨b, l⟩ := r
  simp only at hx hv hl
  subst hx
  obtain ⟨L, hLl, hLv, hLr⟩ := hv
  have b2 := bel2 w (.cells (trcell (x1, (x2, x3, x4))).toArray 83) (.cells ([.bool false, .slice none 0 0] : List Value).toArray 83)
  cases x1
  · have hmr : (mrowT n (false, l)).2 = (padL [] n l).map sqz := by rw [← mcells_pad]; rfl
    rw [hmr]
    clear hmr
    obtain ⟨W1, hW1⟩ : ∃ W, W = (w.alloc (.cells (trcell (false, (x2, x3, x4))).toArray 83)).alloc (.cells ([.bool false, .slice none 0 0] : List Value).toArray 83) := ⟨_, rfl⟩
    rw [← hW1] at b2
    have hz1 : W1.heap.size = w.heap.size + 2 := by rw [hW1, World.size_alloc, World.size_alloc]
    have hX : Blk W1 w.heap.size 83 (trcell (false, (x2, x3, x4))) := by rw [hW1]; exact (heap_alloc_old _ _ (by simp)).trans (heap_alloc_new w _)
    have hR : Blk W1 (w.heap.size + 1) 83 [.bool false, .slice none 0 0] := by
      have := heap_alloc_new (w.alloc (.cells (trcell (false, (x2, x3, x4))).toArray 83)) (.cells ([.bool false, .slice none 0 0] : List Value).toArray 83)
      rw [World.size_alloc, ← hW1] at this
      exact this
    have hmk := makeP_run W1 n (by omega)
    obtain ⟨W2, hW2⟩ : ∃ W, W = W1.alloc (.cells (flatV pcell (List.replicate n nilP)).toArray 30) := ⟨_, rfl⟩
    rw [← hW2] at hmk
    have b3 : Below W1.heap.size W1 W2 := by rw [hW2]; exact below_lit _ _
    have hB2 : Blk W2 W1.heap.size 30 (flatV pcell (List.replicate n nilP)) := by rw [hW2]; exact heap_alloc_new W1 _
    have hO2 : FOwn 30 1 pcell W1.heap.size W2 (.slice (some ⟨W1.heap.size, 0, none⟩) n n) (List.replicate n nilP) := by
      have := fown_lit (e := 30) pcell_len W1 (Nat.le_refl _) (List.replicate n nilP) (by rw [List.length_replicate]; unfold maxLen; omega)
      rw [List.length_replicate, ← hW2] at this
      exact this
    have hs2 : Fs 1 pcell W2 (pv (x2, x3, x4)) L := Fs.below (Fs.below hLv.1 b2) b3
    obtain ⟨W3, hcp, hO3, hE3⟩ := copyP_run hO2 hB2 hs2 (by unfold maxLen; omega) (Nat.le_refl _)
    have hX2 := hX.below b3
    have x4' : W2.cell? ⟨w.heap.size, 1, none⟩ = some (.slice x2 x3 x4) := hX2.cell 1
    have hR3 := Lib.hid (hE3.blk (hR.below b3) (by omega))
    have hB3 : Below w.heap.size w W3 := (b2.trans (b3.mono (by omega))).trans (hE3.below (by have := b3.size; omega) (fun b hb e => by omega))
    have HR0 : Hid (RI S sqz W1.heap.size W3 (.slice (some ⟨W1.heap.size, 0, none⟩) n n) (padL [] n l) 0) := Lib.hid ⟨fun b hb => by have := hS b hb; omega, by have := b3.size; have := hE3.size; omega, ⟨padL nilP n L, fun _ => False, hO3, by rw [padL_len, padL_len], fun _ h => h.elim, fun i s r h => by omega, fun i s r _ hs hr => by
      rcases padL_at nilP [] n hLl hs hr with ⟨q1, q2⟩ | ⟨rfl, rfl⟩
      · exact (hLr i s r q1 q2).keep (Kp.below hB3 hS)
      · exact FsS.nil _ _ _ _⟩⟩
    have hlens : ∀ (j : Nat) r, (padL [] n l)[j]? = some r → r.length ≤ 90000 := fun j r hr => by
      unfold padL at hr
      have hm := List.mem_of_getElem? hr
      rcases List.mem_append.1 hm with q | q
      · obtain ⟨i, hi⟩ := List.mem_iff_getElem?.1 (List.mem_of_mem_take q)
        have := lens_le hi
        omega
      · rw [(List.mem_replicate.1 q).2]
        simp
    have HLE := Lib.hid hlens
    have HB3 := Lib.hid hB3
    have HZ1 := Lib.hid hz1
    have hpl : (padL ([] : List Gly) n l).length = n := padL_len _ _ _
    have HPL := Lib.hid hpl
    obtain ⟨M, hM⟩ : ∃ M, padL ([] : List Gly) n l = M := ⟨_, rfl⟩
    rw [hM] at HR0 HLE HPL ⊢
    obtain ⟨G, hG⟩ : ∃ G, W1.heap.size = G := ⟨_, rfl⟩
    rw [hG] at HR0 hmk hcp HZ1
    simp only [trcell, pv] at hW1 hcp ⊢
    subst hW1
    clear b2 b3 hX hR hB2 hO2 hO3 hE3 hX2 hB3 hs2 hLv hLr hS hW2 hlens hpl hz1 hM hG hLl hl
    go_enter Tryd.func95, Tryd.ntmps95
    go_wp2_with fail
    go_loopw [6, 7, 19] (fun _ _ i wr => ∃ j : Nat, j ≤ n ∧ i = .int .i64 j ∧ Hid (RI S sqz G wr (.slice (some ⟨G, 0, none⟩) n n) M j) ∧ Hid (Below w.heap.size w wr) ∧ Hid (Blk wr (w.heap.size + 1) 83 [.bool false, .slice none 0 0])) (fun _ _ i _ => n - (intOf i).toNat)
    case atStart => exact ⟨0, by omega, rfl, HR0, HB3, hR3⟩
    case round =>
      obtain ⟨j, hj, rfl, HR, BW, HRB⟩ := hrel
      clear HR0 HB3 hR3
      by_cases hlt : j < n
      · obtain ⟨r, hr⟩ : ∃ r, M[j]? = some r := ⟨M[j]'(by rw [HPL.out]; exact hlt), List.getElem?_eq_getElem _⟩
        obtain ⟨g, ⟨s1, s2, s3⟩, hgg, c0, f0, hs⟩ := HR.out.at hr
        injection hgg with hgg
        injection hgg with hgg
        subst hgg
        simp only [pv] at c0 hs
        have HG := Lib.hid (psqueeze_any r _ wr hs.1 (HLE.out j r hr))
        have hi0 : (j : Int) < (n : Int) := by omega
        have hi1 : (0 : Int) ≤ (j : Int) := by omega
        have HRR := Lib.hid hr
        have HSZ := Lib.hid (World.block_lt_of_cell? wr _ c0)
        clear hr hs
        go_wp2_with fail
        refine HG.out.mono ?_
        rintro e w2 ⟨u, rfl, ho, b2⟩
        obtain ⟨u1, u3, e2⟩ := (FOwn.sl gcell_len ho).len
        obtain ⟨k1, k2⟩ := HR.out.step b2 HRR.out (s := (u1, (sqz r).length, u3)) (by unfold pv; rw [← e2]; exact ho)
        simp only [pv] at k1 k2
        subst e2
        have c2 : w2.cell? ⟨G, j, none⟩ = some (.slice s1 s2 s3) := (b2.cell (p := ⟨G, j, none⟩) HSZ.out).trans c0
        have f2 : w2.frozen? ⟨G, j, none⟩ = false := (b2.frozen (p := ⟨G, j, none⟩) HSZ.out).trans f0
        have K1 := Lib.hid k1
        have K2 := Lib.hid (BW.out.trans (k2.below BW.out.size (fun b hb e => by have := HZ1.out; omega)))
        have K3 := Lib.hid (k2.blk HRB.out (by have := HZ1.out; omega))
        obtain ⟨q, hq⟩ : ∃ q, (sqz r).length = q := ⟨_, rfl⟩
        rw [hq] at K1 K2 K3 ⊢
        clear k1 k2 ho b2 HG c0 f0 hq
        go_wp2_with fail
        go_roundw
        case rel => exact ⟨j + 1, by omega, by go_num, K1, K2, K3⟩
        case measure => (simp [intOf]; try omega)
      · obtain rfl : j = n := by omega
        have hlt' : ¬ (j : Int) < (j : Int) := by omega
        have hd := HR.out
        have hj2 : Hid (RI S sqz G wr (.slice (some ⟨G, 0, none⟩) j j) M M.length) := Lib.hid (by rw [HPL.out]; exact hd)
        have HD := Lib.hid hj2.out.done
        have x0 := HRB.out.cell 0
        have x1 := HRB.out.cell 1
        have y0 : wr.frozen? ⟨w.heap.size + 1, 0, none⟩ = false := HRB.out.frozen (by simp)
        have y1 : wr.frozen? ⟨w.heap.size + 1, 1, none⟩ = false := HRB.out.frozen (by simp)
        simp only [List.getElem?_cons_zero, List.getElem?_cons_succ] at x0 x1
        have HBL := Lib.hid ((HRB.out.set 0 (.bool false)).set 1 (.slice (some ⟨G, 0, none⟩) j j))
        clear hd hj2 HR
        go_wp2_with fail
        have B7 := HBL.out
        have k0 := B7.cell 0
        have k1 := B7.cell 1
        simp at k0 k1
        refine bodyPost_ret (v := .agg #[.bool false, .slice (some ⟨G, 0, none⟩) j j]) (by simp [results, Tryd.results95, go_sem, k0, k1]) rfl ?_
        refine ⟨(some ⟨G, 0, none⟩, j, j), rfl, ?_, ?_⟩
        · have h1 := HRB.out
          have h2 := h1.set 0 (.bool false)
          exact ((HD.out.mono (by have := HZ1.out; omega)).sam (SamT.set h1 (by decide) 0 _) (SamT.set h1 (by decide) 0 _)).sam (SamT.set h2 (by decide) 1 _) (SamT.set h2 (by decide) 1 _)
        · exact (BW.out.setCell (by show w.heap.size ≤ w.heap.size + 1; omega) _).setCell (by show w.heap.size ≤ w.heap.size + 1; omega) _
  · have hmr : (mrowT n (true, l)).2 = [] := rfl
    rw [hmr]
    clear hmr
    have B2 := Lib.hid b2
    simp only [trcell, pv] at B2 ⊢
    clear hLv hLr hS hLl b2
    go_enter Tryd.func95, Tryd.ntmps95
    go_wp2_with fail
    refine bodyPost_ret (v := .agg #[.bool true, .slice none 0 0]) (by simp [results, Tryd.results95, go_sem]) rfl ?_
    refine ⟨nilP, rfl, CInv.nil _ _, ?_⟩
    exact ((Below.refl _ w).alloc (Nat.le_refl _) _).alloc (by simp) _
end Go.Proofs.YtpccjgoeoeehoaaDoor
