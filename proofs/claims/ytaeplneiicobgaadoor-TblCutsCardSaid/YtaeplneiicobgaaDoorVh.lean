/- A table's reader: a row: the maths, and what holds in memory. -/
import Derived.Test.YtaeplneiicobgaaDoorVg
set_option linter.unusedVariables false
set_option linter.unusedSimpArgs false
namespace Go.Proofs.YtaeplneiicobgaaDoor
open Go.RowKit
theorem takeT_mem9 (lg : Lgf) : ∀ (l : List Txt) (ln : Int) (acc : List Gly) (d : List Dgn), ∀ y ∈ (takeT lg l ln acc d).2.2.2, y ∈ l
  | [], _, _, _ => fun y h => by simp [takeT] at h
  | s :: r, ln, acc, d => by
    unfold takeT
    split
    · exact fun y h => h
    · exact fun y h => List.mem_cons_of_mem _ (takeT_mem9 lg r (ln + 1) (jn acc (lg s).1) (d ++ dgsB ln (lg s).2) y h)
theorem takeT_pre9 (lg : Lgf) (d0 : List Dgn) : ∀ (l : List Txt) (ln : Int) (acc : List Gly) (d : List Dgn), takeT lg l ln acc (d0 ++ d) = ((takeT lg l ln acc d).1, d0 ++ (takeT lg l ln acc d).2.1, (takeT lg l ln acc d).2.2)
  | [], _, _, _ => rfl
  | s :: r, ln, acc, d => by
    unfold takeT
    split
    · rfl
    · rw [List.append_assoc]
      exact takeT_pre9 lg d0 r (ln + 1) (jn acc (lg s).1) (d ++ dgsB ln (lg s).2)
abbrev preC (d0 : List Dgn) (q : CRes) : CRes := (q.1, d0 ++ q.2.1, q.2.2)
theorem cellsI_pre9 (lg : Lgf) (d0 : List Dgn) {K : List Txt → List Txt → Int → List (List Gly) → List Dgn → CRes} (hK : ∀ ps rest ln cs d, K ps rest ln cs (d0 ++ d) = preC d0 (K ps rest ln cs d)) : ∀ (ps rest : List Txt) (ln : Int) (cs : List (List Gly)) (d : List Dgn), cellsI lg K ps rest ln cs (d0 ++ d) = preC d0 (cellsI lg K ps rest ln cs d)
  | [], rest, ln, cs, d => rfl
  | p :: ps, rest, ln, cs, d => by
    unfold cellsI
    by_cases hp : p = tbW
    · rw [if_pos hp, if_pos hp]
      have e := takeT_pre9 lg d0 rest (ln + 1) [] d
      generalize takeT lg rest (ln + 1) [] d = q at e
      obtain ⟨g, d2, ln2, r2⟩ := q
      rw [e]
      cases r2 with
      | nil => simp [preC]
      | cons s r => exact hK _ _ _ _ _
    · rw [if_neg hp, if_neg hp, List.append_assoc]
      exact cellsI_pre9 lg d0 hK ps rest ln (cs ++ [(lg p).1]) (d ++ dgsB ln (lg p).2)
theorem cellsP_pre9 (lg : Lgf) (d0 : List Dgn) : ∀ (n : Nat) (ps rest : List Txt) (ln : Int) (cs : List (List Gly)) (d : List Dgn), cellsP lg n ps rest ln cs (d0 ++ d) = preC d0 (cellsP lg n ps rest ln cs d)
  | 0, ps, rest, ln, cs, d => cellsI_pre9 lg d0 (fun _ _ _ _ _ => rfl) ps rest ln cs d
  | n + 1, ps, rest, ln, cs, d => cellsI_pre9 lg d0 (cellsP_pre9 lg d0 n) ps rest ln cs d
/-- Between two of a row's cells, and what the rest of it will tell. -/
structure RoK (L : List Txt) (line : Int) (x : Txt) (s0 : RS) (T : CRes) (s : RS) (ps : List Txt) (cs : List (List Gly)) : Prop where
  k0 : s0.k ≤ s.k
  kl : s.k ≤ L.length
  dl : s.d.length + lnT ps + lnT (L.drop s.k) ≤ s0.d.length + (x.length + 1) + lnT (L.drop s0.k)
  tl : cs.length + lens cs + lnT ps + lnT (L.drop s.k) ≤ (x.length + 1) + lnT (L.drop s0.k)
  pl : ∀ p ∈ ps, p.length ≤ 2000
  same : SameT s0 s
  inv : (∃ n, (L.drop s.k).length ≤ n ∧ cellsP lgF (n + 1) ps (L.drop s.k) (line + s.k - 1) cs s.d = T) ∨ (ps = [] ∧ T.1 = cs ∧ T.2.1 = s.d ∧ T.2.2.2 = [] ∧ L.drop s.k = [])
section
variable {L : List Txt} {line : Int} {x : Txt} {s0 s s' : RS} {T : CRes} {ps : List Txt} {cs : List (List Gly)}
theorem RoK.start (s0 : RS) (hk : s0.k ≤ L.length) (hx : x.length ≤ 2000) : RoK L line x s0 (cellsP lgF ((L.drop s0.k).length + 1) (cutB 9 x) (L.drop s0.k) (line + s0.k - 1) [] s0.d) s0 (cutB 9 x) [] := by
  have h1 := cut_lnT 9 x
  refine ⟨Nat.le_refl _, hk, by omega, by simp [lens]; omega, fun p hp => ?_, SameT.refl _, .inl ⟨_, Nat.le_refl _, rfl⟩⟩
  have := lnT_mem hp
  omega
theorem RoK.gly {p : Txt} (h : RoK L line x s0 T s (p :: ps) cs) (hp : p ≠ tbW) : RoK L line x s0 T (s.add (dgsB (line + s.k - 1) (lgF p).2)) ps (cs ++ [(lgF p).1]) := by
  have h1 := h.dl
  have h2 := h.tl
  have h3 := lgF_len p
  have h4 := dgsB_len (line + s.k - 1) (lgF p).2
  rw [lnT_cons] at h1 h2
  refine ⟨h.k0, h.kl, ?_, ?_, fun q hq => h.pl q (List.mem_cons_of_mem _ hq), h.same.trans ⟨rfl, rfl, rfl, rfl⟩, ?_⟩
  · show (s.d ++ dgsB (line + s.k - 1) (lgF p).2).length + lnT ps + lnT (L.drop s.k) ≤ _
    rw [List.length_append]
    omega
  · rw [List.length_append, lens_app, lens_one]
    show _ + lnT ps + lnT (L.drop s.k) ≤ _
    simp only [List.length_cons, List.length_nil]
    omega
  · rcases h.inv with ⟨n, q1, q2⟩ | ⟨q, -⟩
    · refine .inl ⟨n, q1, ?_⟩
      rw [← q2]
      show cellsI lgF (cellsP lgF n) ps _ _ _ _ = cellsI lgF (cellsP lgF n) (p :: ps) _ _ _ _
      rw [cellsI, if_neg hp]
      rfl
    · cases q
theorem RoK.blk {g : List Gly} {bh : List Txt} (h : RoK L line x s0 T s (tbW :: ps) cs) (hb : BlP L line s (takeT lgF (L.drop s.k) (line + s.k) [] s.d) s' g bh) (hL : ∀ y ∈ L, y.length ≤ 2000) : RoK L line x s0 T s' bh (cs ++ [g]) := by
  have h1 := h.dl
  have h2 := h.tl
  rw [lnT_cons] at h1 h2
  have h3 := takeT_told (lg := lgF) (fun s => (lgF_len s).2) (L.drop s.k) (line + s.k) [] s.d
  have h4 := takeT_size (lg := lgF) (fun s => (lgF_len s).1) (L.drop s.k) (line + s.k) [] s.d
  have h5 := takeT_mem9 lgF (L.drop s.k) (line + s.k) [] s.d
  have h6 := takeT_len lgF (L.drop s.k) (line + s.k) [] s.d
  obtain ⟨b1, b2, b3, b4, b5, b6⟩ := hb
  have hk0 := h.k0
  have e0 : line + (s.k : Int) - 1 + 1 = line + s.k := by omega
  have hT : ∃ q, takeT lgF (L.drop s.k) (line + s.k) [] s.d = q := ⟨_, rfl⟩
  obtain ⟨q, hq⟩ := hT
  rw [hq] at h3 h4 h5 h6 b5 b6
  obtain ⟨tg, td, tn, tr⟩ := q
  simp only at h3 h4 h5 h6 b5 b6
  subst b5
  rcases b6 with ⟨q1, q2, q3, q4⟩ | ⟨t, q1, q2, q3, q4, q5⟩
  · subst q1 q2
    have e : L.drop s'.k = [] := by rw [q4]; simp
    refine ⟨by omega, b2, ?_, ?_, by simp, h.same.trans b4, ?_⟩
    · rw [e, q3, List.length_append]
      simp only [lnT, List.map_nil, List.sum_nil, List.length_cons, List.length_nil] at h1 h3 ⊢
      omega
    · rw [e, List.length_append, lens_app, lens_one]
      simp only [lnT, List.map_nil, List.sum_nil, List.length_cons, List.length_nil] at h2 h4 ⊢
      omega
    · refine .inr ⟨rfl, ?_⟩
      rcases h.inv with ⟨n, p1, p2⟩ | ⟨p, -⟩
      · rw [← p2, e, q3]
        show (cellsI lgF (cellsP lgF n) (tbW :: ps) _ _ _ _).1 = _ ∧ (cellsI lgF (cellsP lgF n) (tbW :: ps) _ _ _ _).2.1 = _ ∧ (cellsI lgF (cellsP lgF n) (tbW :: ps) _ _ _ _).2.2.2 = _ ∧ _
        rw [cellsI, if_pos rfl, e0, hq]
        exact ⟨rfl, rfl, rfl, rfl⟩
      · cases p
  · subst q1 q2
    have g1 := cut_lnT 9 t
    have g2 := lnT_tail (cutB 9 t)
    rw [lnT_cons] at h3 h4
    have ht : t ∈ L := List.mem_of_mem_drop (h5 t (List.mem_cons_self ..))
    refine ⟨by omega, b2, ?_, ?_, fun p hp => ?_, h.same.trans b4, ?_⟩
    · rw [q3]; omega
    · rw [List.length_append, lens_app, lens_one]
      simp only [List.length_cons, List.length_nil] at h4 ⊢
      omega
    · have g3 := lnT_mem (List.mem_of_mem_tail hp)
      have g4 := hL t ht
      omega
    · refine .inl ?_
      rcases h.inv with ⟨n, p1, p2⟩ | ⟨p, -⟩
      · have g5 : (L.drop s'.k).length + 1 ≤ (L.drop s.k).length := by simpa using h6
        cases n with
        | zero => omega
        | succ n =>
          refine ⟨n, by omega, ?_⟩
          rw [← p2]
          show _ = cellsI lgF (cellsP lgF (n + 1)) (tbW :: ps) _ _ _ _
          rw [cellsI, if_pos rfl, e0, hq]
          show _ = cellsP lgF (n + 1) (cutB 9 t).tail (L.drop s'.k) tn _ td
          rw [q4, q3]
      · cases p
theorem RoK.fin (h : RoK L line x s0 T s [] cs) : T.1 = cs ∧ T.2.1 = s.d ∧ T.2.2.2 = L.drop s.k ∧ (L.drop s.k = [] ∨ T.2.2.1 = line + s.k - 1) := by
  rcases h.inv with ⟨n, -, q⟩ | ⟨-, q1, q2, q3, q4⟩
  · subst q
    exact ⟨rfl, rfl, rfl, .inr rfl⟩
  · exact ⟨q1, q2, q3.trans q4.symm, .inl q4⟩
/-- What a row's reading leaves. -/
structure RowE (L : List Txt) (line : Int) (x : Txt) (s0 s : RS) : Prop where
  k0 : s0.k ≤ s.k
  kl : s.k ≤ L.length
  dl : s.d.length + lnT (L.drop s.k) ≤ s0.d.length + (x.length + 2) + lnT (L.drop s0.k)
  cols : s.cols = s0.cols
  bx : s.bx = s0.bx
  al : s.al = s0.al
  rows : s.rows = s0.rows ++ [(rowP lgF s0.cols.length x (L.drop s0.k) (line + s0.k - 1)).1]
  d : s.d = s0.d ++ (rowP lgF s0.cols.length x (L.drop s0.k) (line + s0.k - 1)).2.1
  rest : L.drop s.k = (rowP lgF s0.cols.length x (L.drop s0.k) (line + s0.k - 1)).2.2.2
  ln : L.drop s.k = [] ∨ (rowP lgF s0.cols.length x (L.drop s0.k) (line + s0.k - 1)).2.2.1 = line + s.k - 1
/-- A row more. -/
def RS.row (s : RS) (r : Trow) : RS := { s with rows := s.rows ++ [r] }
theorem RowE.rule (s0 : RS) (hk : s0.k ≤ L.length) (hx : x = [95] ∨ x = [61]) : RowE L line x s0 (s0.row (true, [])) := by
  have e : rowP lgF s0.cols.length x (L.drop s0.k) (line + s0.k - 1) = ((true, []), [], line + s0.k - 1, L.drop s0.k) := by unfold rowP; rw [if_pos hx]
  refine ⟨Nat.le_refl _, hk, ?_, rfl, rfl, rfl, by rw [e]; rfl, by rw [e]; simp [RS.row], by rw [e]; rfl, .inr (by rw [e]; rfl)⟩
  show s0.d.length + lnT (L.drop s0.k) ≤ _
  omega
theorem RoK.row (h : RoK L line x s0 (cellsP lgF ((L.drop s0.k).length + 1) (cutB 9 x) (L.drop s0.k) (line + s0.k - 1) [] s0.d) s [] cs) (hx : ¬ (x = [95] ∨ x = [61])) :
    (¬ s0.cols.length < cs.length → RowE L line x s0 (s.row (false, cs))) ∧ (s0.cols.length < cs.length → RowE L line x s0 (({ s with d := s.d ++ [(11, line + s0.k - 1, 0)] } : RS).row (false, cs))) := by
  have hf := h.fin
  have hp := cellsP_pre9 lgF s0.d ((L.drop s0.k).length + 1) (cutB 9 x) (L.drop s0.k) (line + s0.k - 1) [] []
  rw [List.append_nil] at hp
  rw [hp] at hf
  have e : rowP lgF s0.cols.length x (L.drop s0.k) (line + s0.k - 1) = ((false, (cellsP lgF ((L.drop s0.k).length + 1) (cutB 9 x) (L.drop s0.k) (line + s0.k - 1) [] []).1), (cellsP lgF ((L.drop s0.k).length + 1) (cutB 9 x) (L.drop s0.k) (line + s0.k - 1) [] []).2.1 ++ (if s0.cols.length < (cellsP lgF ((L.drop s0.k).length + 1) (cutB 9 x) (L.drop s0.k) (line + s0.k - 1) [] []).1.length then [(11, line + s0.k - 1, 0)] else []), (cellsP lgF ((L.drop s0.k).length + 1) (cutB 9 x) (L.drop s0.k) (line + s0.k - 1) [] []).2.2.1, (cellsP lgF ((L.drop s0.k).length + 1) (cutB 9 x) (L.drop s0.k) (line + s0.k - 1) [] []).2.2.2) := by
    unfold rowP
    rw [if_neg hx]
  generalize cellsP lgF ((L.drop s0.k).length + 1) (cutB 9 x) (L.drop s0.k) (line + s0.k - 1) [] [] = q at hf e
  obtain ⟨q1, q2, q3, q4⟩ := q
  simp only at hf e
  obtain ⟨f1, f2, f3, f4⟩ := hf
  subst f1
  have h1 := h.dl
  simp only [lnT, List.map_nil, List.sum_nil, Nat.add_zero] at h1
  have hs := h.same
  refine ⟨fun hn => ?_, fun hn => ?_⟩
  · rw [if_neg hn, List.append_nil] at e
    refine ⟨h.k0, h.kl, ?_, hs.cols, hs.bx, hs.al, ?_, ?_, ?_, ?_⟩
    · show s.d.length + lnT (L.drop s.k) ≤ _
      simp only [lnT]
      omega
    · rw [e, ← hs.rows]; rfl
    · rw [e]; exact f2.symm
    · rw [e]; exact f3.symm
    · rw [e]; exact f4
  · rw [if_pos hn] at e
    refine ⟨h.k0, h.kl, ?_, hs.cols, hs.bx, hs.al, ?_, ?_, ?_, ?_⟩
    · show (s.d ++ [(11, line + s0.k - 1, 0)]).length + lnT (L.drop s.k) ≤ _
      rw [List.length_append]
      simp only [lnT, List.length_cons, List.length_nil]
      omega
    · rw [e, ← hs.rows]; rfl
    · rw [e]
      show s.d ++ [(11, line + s0.k - 1, 0)] = s0.d ++ (q2 ++ [(11, line + s0.k - 1, 0)])
      rw [← f2, List.append_assoc]
    · rw [e]; exact f3.symm
    · rw [e]; exact f4
end
/-- All stands but the reader's own block, rows of what is wrong, and rows of rows. -/
structure FrW (W W' : World) : Prop where
  size : W.heap.size ≤ W'.heap.size
  same : ∀ (g : Nat) (o : Obj), W.heap[g]? = some o → (∀ cur fz, o ≠ Obj.cells cur 68 fz) → (∀ cur fz, o ≠ Obj.cells cur 41 fz) → (∀ cur fz, o ≠ Obj.cells cur 49 fz) → W'.heap[g]? = some o
theorem FrW.trans {a b c : World} (h : FrW a b) (k : FrW b c) : FrW a c := ⟨Nat.le_trans h.size k.size, fun g o ho h1 h2 h3 => k.same g o (h.same g o ho h1 h2 h3) h1 h2 h3⟩
theorem FrR.w {W W' : World} (h : FrR W W') : FrW W W' := ⟨h.size, fun g o ho h1 h2 _ => h.same g o ho h1 h2⟩
theorem FrW.blk {W W' : World} (h : FrW W W') {g e : Nat} {L : List Value} (hb : Blk W g e L) (h1 : e ≠ 68) (h2 : e ≠ 41) (h3 : e ≠ 49) : Blk W' g e L :=
  h.same g _ hb (fun c f q => by injection q with _ q; exact h1 q) (fun c f q => by injection q with _ q; exact h2 q) (fun c f q => by injection q with _ q; exact h3 q)
theorem FrW.ko {W W' : World} (h : FrW W W') : KeepsOthers W W' := ⟨h.size, fun k o hk ho => h.same k o hk (fun c f q => by subst q; cases ho) (fun c f q => by subst q; cases ho) (fun c f q => by subst q; cases ho)⟩
theorem FrW.set {W : World} {B : Nat} {L : List Value} (h : Blk W B 68 L) (j : Nat) (v : Value) : FrW W (W.setCell ⟨B, j, none⟩ v) := by
  refine ⟨(Below.refl 0 W).setCell (p := ⟨B, j, none⟩) (Nat.zero_le _) v |>.size, fun g o ho h1 _ _ => ?_⟩
  rw [Below.heap_setCell _ _ _ _ (fun e => by
      have e : g = B := e
      have k : W.heap[B]? = some (.cells L.toArray 68 (0, 0)) := h
      rw [← e, ho] at k
      injection k with k
      exact h1 _ _ k)]
  exact ho
theorem FrW.grown {W W' : World} {row : Option Nat} (hg : W.grownBy W' row) (hr : ∀ g, row = some g → ∃ cur fz, W.heap[g]? = some (.cells cur 49 fz)) : FrW W W' :=
  ⟨hg.size, fun g o ho _ _ h2 => (hg.block g (Array.getElem?_eq_some_iff.1 ho).1 (fun e => by
    obtain ⟨cur, fz, hc⟩ := hr g e.symm
    rw [ho] at hc
    injection hc with hc
    exact h2 _ _ hc)).trans ho⟩
theorem appW_raw9 {W W' : World} {args : Array Value} {v : Value} (h : (appW args).run Tryd.prog W = .ok (.value v) W') : (Builtin.append_ #[34, 34] 34 args).run Tryd.prog W = .ok v W' := by
  unfold appW at h
  rw [Sem.run_bind] at h
  cases k : (Builtin.append_ #[34, 34] 34 args).run Tryd.prog W with
  | ok u w1 =>
    rw [k, Result.andThen_ok, Sem.run_pure] at h
    injection h with h1 h2
    injection h1 with h1
    rw [h1, h2]
  | _ => rw [k] at h; cases h
theorem WInv.frw {base : Nat} {W : World} {v : Value} {l : List Trow} (h : WInv base W v l) (hb : base ≤ W.heap.size) (hl : l.length ≤ 500000) (b : Bool) (s : PV) {v' : Value} {w' : World} (hr : (appW #[v, .slice (some ⟨W.heap.size, 0, none⟩) 1 1]).run Tryd.prog (W.alloc (.cells #[.bool b, pv s] 49)) = .ok (.value v') w') : FrW W w' := by
  obtain ⟨L, S, hL, hLl, hS, hE⟩ := h.own
  obtain ⟨i0, hi, hz0, hz1, hz2⟩ := info_parts infoTR
  obtain ⟨a', c', w2, hr2, ho, hg, hty⟩ := fpush (P := Tryd.prog) (t := 34) trcell_len trcell_one (by decide) Tryd.underlying34 hi hz0 hz1 hz2 rfl (by decide) hL hb (by omega) (b, s)
  have e : w' = w2 := by
    have h1 := appW_raw9 hr
    rw [show (trcell (b, s)).toArray = #[.bool b, pv s] from rfl] at hr2
    exact res_inj (h1.symm.trans hr2)
  subst e
  exact (FrR.w (FrR.below (below_lit W _))).trans (FrW.grown hg hty)
/-- A row more in the table. -/
theorem RI.row {w W : World} {B : Nat} {line : Int} {vl : Value} {s : RS} (h : RI w B line vl s W) (hl : s.rows.length ≤ 500000) (b : Bool) (q : PV) (r : List (List Gly))
    (hs : GrS (fun x => w.heap.size ≤ x ∧ ∃ cur e fz, W.heap[x]? = some (.cells cur e fz) ∧ (e = 46 ∨ e = 45)) W (pv q) r) :
    ∃ a c a' c' w2, W.cell? ⟨B, 4, none⟩ = some (.slice a s.rows.length c) ∧ (appW #[.slice a s.rows.length c, .slice (some ⟨W.heap.size, 0, none⟩) 1 1]).run Tryd.prog (W.alloc (.cells #[.bool b, pv q] 49)) = .ok (.value (.slice a' (s.rows.length + 1) c')) w2 ∧ w2.cell? ⟨B, 4, none⟩ = some (.slice a s.rows.length c) ∧ w2.frozen? ⟨B, 4, none⟩ = false ∧
      RI w B line vl (s.row (b, r)) (w2.setCell ⟨B, 4, none⟩ (.slice a' (s.rows.length + 1) c')) ∧ FrW W (w2.setCell ⟨B, 4, none⟩ (.slice a' (s.rows.length + 1) c')) := by
  obtain ⟨vr, vd, h1, h2, h3⟩ := h.val
  obtain ⟨a, c, rfl⟩ := h2.len
  obtain ⟨a', c', w2, hr, hi, hb, sam⟩ := h2.push h.bel.size hl b q r hs
  have fw := h2.frw h.bel.size hl b q hr
  have k1 := h1.sam h.sz (sam _ (by decide))
  refine ⟨a, c, a', c', w2, h1.cell 4, hr, k1.cell 4, k1.frozen (by simp), ⟨h.sz, (h.bel.trans hb).setCell (p := ⟨B, 4, none⟩) h.sz _, _, vd, k1.set 4 _, ?_, ?_⟩, fw.trans (FrW.set k1 4 _)⟩
  · exact hi.sam (SamT.set k1 (by decide) _ _) (SamT.set k1 (by decide) _ _) (SamT.set k1 (by decide) _ _)
  · exact (h3.sam (sam _ (by decide))).sam (SamT.set k1 (by decide) _ _)
/-- Between two of a row's cells. -/
structure RwM (w W0 : World) (B C : Nat) (line : Int) (vl : Value) (s : RS) (cs : List (List Gly)) (W : World) : Prop where
  ri : RI w B line vl s W
  fr : FrR W0 W
  box : ∃ v, Blk W C 49 [.bool false, v] ∧ CInv W0.heap.size W v cs
  h0 : ∃ s0, RI w B line vl s0 W0 ∧ s.rows = s0.rows
  c0 : W0.heap.size ≤ C
section
variable {w W0 : World} {B C : Nat} {line : Int} {vl : Value} {s s' : RS} {cs : List (List Gly)} {A A' : World}
theorem RwM.go (h : RwM w W0 B C line vl s cs A) (hr : RI w B line vl s' A') (hf : FrR A A') (hrw : s'.rows = s.rows := by rfl) : RwM w W0 B C line vl s' cs A' := by
  obtain ⟨v, h1, h2⟩ := h.box
  obtain ⟨s0, k1, k2⟩ := h.h0
  exact ⟨hr, h.fr.trans hf, ⟨v, hf.blk h1 (by decide) (by decide), h2.fr hf⟩, ⟨s0, k1, hrw.trans k2⟩, h.c0⟩
theorem RwM.keep (h : RwM w W0 B C line vl s cs A) (hb : Below A.heap.size A A') : RwM w W0 B C line vl s cs A' := h.go (h.ri.keep hb) (FrR.below hb)
/-- A cell more. -/
theorem RwM.push (h : RwM w W0 B C line vl s cs A) (hl : cs.length ≤ 500000) (q : PV) (r : List Gly) (hs : GlF W0.heap.size A (pv q) r) :
    ∃ ta tc a' c' w', A.cell? ⟨C, 1, none⟩ = some (.slice ta cs.length tc) ∧ (appP #[.slice ta cs.length tc, .slice (some ⟨A.heap.size, 0, none⟩) 1 1]).run Tryd.prog (A.alloc (.cells #[pv q] 46)) = .ok (.value (.slice a' (cs.length + 1) c')) w' ∧ w'.cell? ⟨C, 1, none⟩ = some (.slice ta cs.length tc) ∧ w'.frozen? ⟨C, 1, none⟩ = false ∧
      RwM w W0 B C line vl s (cs ++ [r]) (w'.setCell ⟨C, 1, none⟩ (.slice a' (cs.length + 1) c')) ∧ SamT 9 0 A (w'.setCell ⟨C, 1, none⟩ (.slice a' (cs.length + 1) c')) := by
  obtain ⟨v, t1, t2⟩ := h.box
  obtain ⟨s0, k1, k2⟩ := h.h0
  obtain ⟨ta, tc, rfl⟩ := t2.len
  have hc0 := h.c0
  obtain ⟨a', c', w', hr, ci, hb, sam⟩ := t2.push h.fr.size hl q r hs
  have z : ∀ {e : TypeId}, e ≠ 46 → SamT e 0 A w' := fun he => (sam _ he).zero (fun g hg => hb.block g hg)
  have t1' := t1.sam (Nat.zero_le _) (z (by decide))
  have ri1 := h.ri.ext h.fr k1 k2 hb (fun g cur fz _ hg => z (e := 41) (by decide) g cur fz (Nat.zero_le _) hg)
  have fr1 := h.fr.ext hb
  have hb2 : Below W0.heap.size w' (w'.setCell ⟨C, 1, none⟩ (.slice a' (cs.length + 1) c')) := (Below.refl _ w').setCell (p := ⟨C, 1, none⟩) hc0 _
  have st : ∀ {e : TypeId}, e ≠ 49 → SamT e 0 w' (w'.setCell ⟨C, 1, none⟩ (.slice a' (cs.length + 1) c')) := fun he => SamT.set t1' (fun q => he q) 1 _
  refine ⟨ta, tc, a', c', w', t1.cell 1, hr, t1'.cell 1, t1'.frozen (by simp), ⟨?_, fr1.ext hb2, ⟨_, t1'.set 1 _, ?_⟩, ⟨s0, k1, k2⟩, h.c0⟩, (z (by decide)).trans (st (by decide))⟩
  · exact ri1.ext fr1 k1 k2 hb2 (fun g cur fz _ hg => st (e := 41) (by decide) g cur fz (Nat.zero_le _) hg)
  · exact ci.sam (SamT.set t1' (by decide) 1 _) (SamT.set t1' (by decide) 1 _)
/-- The row is done. -/
theorem RwM.row (h : RwM w W0 B C line vl s cs A) (hl : s.rows.length ≤ 500000) :
    ∃ v1 a c a' c' w2, A.cell? ⟨C, 0, none⟩ = some (.bool false) ∧ A.cell? ⟨C, 1, none⟩ = some v1 ∧ A.cell? ⟨B, 4, none⟩ = some (.slice a s.rows.length c) ∧ (appW #[.slice a s.rows.length c, .slice (some ⟨A.heap.size, 0, none⟩) 1 1]).run Tryd.prog (A.alloc (.cells #[.bool false, v1] 49)) = .ok (.value (.slice a' (s.rows.length + 1) c')) w2 ∧ w2.cell? ⟨B, 4, none⟩ = some (.slice a s.rows.length c) ∧ w2.frozen? ⟨B, 4, none⟩ = false ∧
      RI w B line vl (s.row (false, cs)) (w2.setCell ⟨B, 4, none⟩ (.slice a' (s.rows.length + 1) c')) ∧ FrW W0 (w2.setCell ⟨B, 4, none⟩ (.slice a' (s.rows.length + 1) c')) := by
  obtain ⟨v, t1, t2⟩ := h.box
  obtain ⟨ta, tc, rfl⟩ := t2.len
  obtain ⟨s0, k1, k2⟩ := h.h0
  obtain ⟨a, c, a', c', w2, r1, r2, r3, r4, r5, r6⟩ := h.ri.row hl false (ta, cs.length, tc) cs (t2.grs.mono fun b ⟨q1, q2⟩ => ⟨Nat.le_trans k1.bel.size q1, q2⟩)
  exact ⟨_, a, c, a', c', w2, t1.cell 0, t1.cell 1, r1, r2, r3, r4, r5, h.fr.w.trans r6⟩
end
end Go.Proofs.YtaeplneiicobgaaDoor
