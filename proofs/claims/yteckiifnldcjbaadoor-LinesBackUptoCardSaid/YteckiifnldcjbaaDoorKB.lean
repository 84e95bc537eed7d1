/- A reader tells a macro: the walk. -/
import Derived.Test.YteckiifnldcjbaaDoorKA
import Derived.Deep.Cut
import Derived.Deep.CutRange
import Derived.Deep.DeepCutAuto
namespace Go.Proofs.YteckiifnldcjbaaDoor
open Go.RowKit

section
variable {base B : Nat} {W : World} {ln fi : Int} {va vb vr vd : Value} {tx : List UInt8} {rows : List Row} {dg : List Dg}
theorem Fr.high {R : Nat} (hR : base ≤ R) (j : Nat) (u : Value) : Fr base B W (W.setCell ⟨R, j, none⟩ u) :=
  ⟨rfl, rfl, rfl, fun k hk _ => Below.heap_setCell W ⟨R, j, none⟩ u k (by simp only; omega), KeepsOthers.setCell _ _ _⟩
/-- A row of one's own, that is not among those told: its cells may be written. -/
theorem RS.setRow (h : RS base B W ln fi va vb vr vd tx rows dg) {R : Nat} {C : List Value} (hC : Blk W R 34 C) (hne : vr.ownBlock ≠ some R) (hRB : R ≠ B) (j : Nat) (u : Value) : RS base B (W.setCell ⟨R, j, none⟩ u) ln fi va vb vr vd tx rows dg := by
  obtain ⟨L, hL, hI⟩ := h.rw
  refine ⟨⟨h.lt, by rw [setCell_sz]; exact h.sz, ?_, ⟨L, ownsRow_setCell_other hL hne u, ?_⟩, ownsRow_setCell_other h.dg (row_ne h.dg hC (by decide)) u⟩, h.ad, ownsRow_setCell_other h.bf (row_ne h.bf hC (by decide)) u, h.bn⟩
  · exact (Below.heap_setCell W ⟨R, j, none⟩ u B (fun e => hRB e.symm)).trans h.blk
  · exact hI.mono fun v a ha => ownsRow_setCell_other ha (row_ne ha hC (by decide)) u
theorem RS.rowNe (h : RS base B W ln fi va vb vr vd tx rows dg) : vr.ownBlock ≠ some W.heap.size := by
  obtain ⟨L, hL, hI⟩ := h.rw
  intro e
  obtain ⟨-, cur, hc⟩ := hL.ty e
  have := (Array.getElem?_eq_some_iff.1 hc).1
  omega
end
theorem avOf_of (a : Option Addr) (n c : Nat) : Value.slice a n c = avOf (a, n, c) := rfl

/-- The world before a row more is told. -/
structure MAt (base B R : Nat) (w : World) (q : Int) (L : List (List UInt8)) (aa : Option Addr) (cc : Nat) (ln fi : Int) (va vb vr vd : Value) (tx : List UInt8) (rows : List Row) (dg : List Dg) (W : World) : Prop where
  rs : RS base B W ln fi va vb vr vd tx rows dg
  fr : Fr base B w W
  row : Blk W R 34 [.int .i64 q, .string ⟨#[]⟩, .slice none 0 0, .string ⟨#[]⟩]
  arg : SOwn base W (.slice aa L.length cc) L
  ne : vr.ownBlock ≠ some R
  hR : base ≤ R
section
variable {base B R : Nat} {w W : World} {q ln fi : Int} {L : List (List UInt8)} {aa : Option Addr} {cc : Nat} {va vb vr vd : Value} {tx : List UInt8} {rows : List Row} {dg : List Dg}
theorem MAt.tell (h : MAt base B R w q L aa cc ln fi va vb vr vd tx rows dg W) (hl : dg.length ≤ 500000) (k : Int) :
    ∃ vd' w2, (Builtin.append_ #[40, 40] 40 #[vd, .slice (some ⟨W.heap.size, 0, none⟩) 1 1]).run Tryd.prog (W.alloc (.cells #[.int .i64 k, .int .i64 q, .int .i64 0] 45)).drew = .ok vd' w2 ∧ w2.cell? ⟨B, 5, none⟩ = some vd ∧ w2.frozen? ⟨B, 5, none⟩ = false ∧
      MAt base B R w q L aa cc ln fi va vb vr vd' tx rows (dg ++ [(k, q, 0)]) (w2.setCell ⟨B, 5, none⟩ vd') ∧ ∃ b n c, vd' = .slice b n c := by
  obtain ⟨vd', w2, hr, c, f, r2, f2, s1, s2, sh⟩ := h.rs.tell hl (k, q, 0) _ rfl
  exact ⟨vd', w2, hr, c, f, ⟨r2, h.fr.trans f2, (s1 _ _ h.hR h.row).trans h.row, h.arg.held s2, h.ne, h.hR⟩, sh⟩
theorem MAt.clone {W' : World} {ab : Option Addr} {cb : Nat} {L' : List (List UInt8)} (h : MAt base B R w q L aa cc ln fi va vb vr vd tx rows dg W) (hb : Below W.heap.size W W') (ho : SOwn W.heap.size W' (.slice ab L'.length cb) L') : MAt base B R w q L' ab cb ln fi va vb vr vd tx rows dg W' :=
  ⟨h.rs.keep hb, h.fr.trans (Fr.of_below h.rs.sz hb), h.row.below hb, ho.mono h.rs.sz, h.ne, h.hR⟩
theorem MAt.say (h : MAt base B R w q L aa cc ln fi va vb vr vd tx rows dg W) (hl : rows.length ≤ 500000) (nm : List UInt8) :
    ∃ W2 vr' w2, W2 = (W.setCell ⟨R, 1, none⟩ (.string ⟨nm.toArray⟩)).setCell ⟨R, 2, none⟩ (.slice aa L.length cc) ∧
      (W2.cell? ⟨R, 0, none⟩ = some (.int .i64 q) ∧ W2.cell? ⟨R, 1, none⟩ = some (.string ⟨nm.toArray⟩) ∧ W2.cell? ⟨R, 2, none⟩ = some (.slice aa L.length cc) ∧ W2.cell? ⟨R, 3, none⟩ = some (.string ⟨#[]⟩)) ∧ W2.cell? ⟨B, 4, none⟩ = some vr ∧
      (Builtin.append_ #[29, 29] 29 #[vr, .slice (some ⟨W2.heap.size, 0, none⟩) 1 1]).run Tryd.prog (W2.alloc (.cells #[.int .i64 q, .string ⟨nm.toArray⟩, .slice aa L.length cc, .string ⟨#[]⟩] 34)).drew = .ok vr' w2 ∧ w2.cell? ⟨B, 4, none⟩ = some vr ∧ w2.frozen? ⟨B, 4, none⟩ = false ∧
      RS base B (w2.setCell ⟨B, 4, none⟩ vr') ln fi va vb vr' vd tx (rows ++ [(q, nm, L, [])]) dg ∧ Fr base B w (w2.setCell ⟨B, 4, none⟩ vr') ∧ ∃ b n c, vr' = .slice b n c := by
  have hlt := h.rs.lt
  have hR := h.hR
  have r1 := h.rs.setRow h.row h.ne (by omega) 1 (.string ⟨nm.toArray⟩)
  have k1 := h.row.set 1 (.string ⟨nm.toArray⟩)
  have r2 := r1.setRow k1 h.ne (by omega) 2 (.slice aa L.length cc)
  have k2 := k1.set 2 (.slice aa L.length cc)
  have a2 : SOwn base ((W.setCell ⟨R, 1, none⟩ (.string ⟨nm.toArray⟩)).setCell ⟨R, 2, none⟩ (.slice aa L.length cc)) (.slice aa L.length cc) L :=
    ownsRow_setCell_other (ownsRow_setCell_other h.arg (row_ne h.arg h.row (by decide)) _) (row_ne h.arg h.row (by decide)) _
  obtain ⟨vr', w2, hr, c, f, r3, f3, sh⟩ := r2.say hl (q, nm, L, []) (aa, L.length, cc) a2 _ rfl
  exact ⟨_, vr', w2, rfl, ⟨k2.cell 0, k2.cell 1, k2.cell 2, k2.cell 3⟩, r2.blk.cell 4, hr, c, f, r3, ((h.fr.trans (Fr.high hR _ _)).trans (Fr.high hR _ _)).trans f3, sh⟩
end

/-- What a method leaves: rows, and what is wrong. -/
def MEnd (base B : Nat) (W : World) (ln fi : Int) (va vb : Value) (tx : List UInt8) (rows : List Row) (dg : List Dg) (e : Ending) (W' : World) : Prop :=
  ∃ vr' vd', e = .returned (.tuple #[]) ∧ RS base B W' ln fi va vb vr' vd' tx rows dg ∧ Fr base B W W'
theorem MEnd.mk {base B : Nat} {W W' : World} {ln fi : Int} {va vb vr' vd' : Value} {tx : List UInt8} {rows : List Row} {dg : List Dg} {e : Ending} (h0 : e = .returned (.tuple #[])) (h1 : RS base B W' ln fi va vb vr' vd' tx rows dg) (h2 : Fr base B W W') : MEnd base B W ln fi va vb tx rows dg e W' := ⟨_, _, h0, h1, h2⟩

set_option maxRecDepth 100000 in
set_option maxHeartbeats 8000000 in
theorem macro_any {base B : Nat} {ln fi : Int} {va vb vr vd : Value} {tx : List UInt8} {rows : List Row} {dg : List Dg} (W : World) (h : RS base B W ln fi va vb vr vd tx rows dg) (hM : Mx W) (q : Int) (t : List UInt8) (ht : t.length ≤ 100000) (hr : rows.length ≤ 100000) (hd : dg.length ≤ 100000) :
    Calls Tryd.prog 59 #[.pointer (some ⟨B, 0, none⟩), .agg #[.int .i64 q, .string ⟨#[]⟩, .slice none 0 0, .string ⟨#[]⟩], .string ⟨t.toArray⟩] W (MEnd base B W ln fi va vb tx (rows ++ [mrow q t]) (dg ++ mdgs q t)) := by
  obtain ⟨i0, hi, hz0, hz1, hz2⟩ := info_parts infoS
  have hsz := arr_size t
  have hnle := nmN_le t
  obtain ⟨L, F, hA⟩ : ∃ L F, args (t.drop (nmN t)) = (L, F) := ⟨_, _, rfl⟩
  have hLl : L.length ≤ 100000 := by
    have h1 := args_len (t.drop (nmN t))
    rw [hA, List.length_drop] at h1
    simp only at h1
    omega
  have A1 : Hid (∀ W, Mx W → Calls Tryd.prog 12 #[.string ⟨(t.drop (nmN t)).toArray⟩] W fun e w' => ∃ v, e = .returned (.tuple #[v, .bool F]) ∧ SOwn W.heap.size w' v L ∧ Below W.heap.size W w' ∧ W.heap.size ≤ w'.heap.size) := Lib.hid fun W hM => by
    have h1 := args_any (t.drop (nmN t)) W hM (by rw [List.length_drop]; omega)
    rw [hA] at h1
    exact h1
  have hrow : mrow q t = (q, t.take (nmN t), L.take 200, []) := by unfold mrow; rw [hA]
  have hdgs : mdgs q t = (if F then [] else [(5, q, 0)]) ++ (if 200 < L.length then [(11, q, 0)] else []) := by unfold mdgs; rw [hA]
  have k1 := str_from t (nmN t) hnle
  have k2 := str_to t (nmN t) hnle
  obtain ⟨ix, hix, hcase⟩ : ∃ ix : Int, Lib.indexAny t [32, 9] = ix ∧ (ix = (nmN t : Int) ∨ (ix = -1 ∧ nmN t = t.length)) := by
    refine ⟨_, rfl, ?_⟩
    rw [indexAny_nm]
    by_cases hn : nmN t < t.length
    · rw [if_pos hn]; exact .inl rfl
    · rw [if_neg hn]; exact .inr ⟨rfl, by omega⟩
  have I1 : Hid (∀ W, Calls Tryd.prog 67 #[.string ⟨t.toArray⟩, .string ⟨#[32, 9]⟩] W fun e w' => e = .returned (.int .i64 ix) ∧ Below W.heap.size W w') := Lib.hid fun W => by
    have h1 := indexAny_any t [32, 9] W (by decide) (by decide) (by omega) (by
      intro j b hb
      have hm : b ∈ ([32, 9] : List UInt8) := List.mem_iff_getElem?.2 ⟨j, hb⟩
      simp at hm
      rcases hm with rfl | rfl <;> decide)
    rw [hix] at h1
    exact h1
  obtain ⟨k, hk⟩ : ∃ k, nmN t = k := ⟨_, rfl⟩
  obtain ⟨nm, hnm⟩ : ∃ nm, t.take (nmN t) = nm := ⟨_, rfl⟩
  obtain ⟨rs, hrs⟩ : ∃ rs, t.drop (nmN t) = rs := ⟨_, rfl⟩
  rw [hnm] at hrow k2
  rw [hrs] at A1 k1
  rw [hk] at hcase k1 k2 hnle
  obtain ⟨dd, hdd⟩ : ∃ dd, mdgs q t = dd := ⟨_, rfl⟩
  rw [hrow, hdd]
  rw [hdd] at hdgs
  obtain ⟨d1, hd1⟩ : ∃ d1 : List Dg, (if F then [] else [(5, q, 0)]) = d1 := ⟨_, rfl⟩
  obtain ⟨d2, hd2⟩ : ∃ d2 : List Dg, (if 200 < L.length then [(11, q, 0)] else []) = d2 := ⟨_, rfl⟩
  obtain ⟨LL, hLL⟩ : ∃ LL, L.take 200 = LL := ⟨_, rfl⟩
  rw [hd1, hd2] at hdgs
  rw [hLL]
  have hd1l : d1.length ≤ 1 := by rw [← hd1]; split <;> simp
  have HDD := Lib.hid hdgs
  have HD1 := Lib.hid hd1
  have HD2 := Lib.hid hd2
  have HLL := Lib.hid hLL
  clear hd1 hd2 hLL
  have H := Lib.hid h
  have HM := Lib.hid hM
  have HCASE := Lib.hid hcase
  clear hcase hk hnm hrs hrow hdgs hdd hix hA h hM
  go_enter Tryd.func59, Tryd.ntmps59
  go_wp2_with fail
  refine (I1.out _).mono ?_
  rintro e W1 ⟨rfl, b1⟩
  obtain ⟨R, hRe⟩ : ∃ R, W.heap.size = R := ⟨_, rfl⟩
  have H1 : Hid (RS base B W1 ln fi va vb vr vd tx rows dg ∧ Fr base B W W1 ∧ Blk W1 R 34 [.int .i64 q, .string ⟨#[]⟩, .slice none 0 0, .string ⟨#[]⟩] ∧ Mx W1 ∧ vr.ownBlock ≠ some R ∧ base ≤ R) := by
    have hz := H.out.sz
    have bb : Below W.heap.size W W1 := ((Below.refl _ W).alloc (Nat.le_refl _) _).trans (b1.mono (by simp))
    refine Lib.hid ⟨H.out.keep bb, Fr.of_below hz bb, ?_, HM.out.below (Nat.le_refl _) bb, hRe ▸ H.out.rowNe, by omega⟩
    have hb0 := blk_new W [.int .i64 q, .string ⟨#[]⟩, .slice none 0 0, .string ⟨#[]⟩] 34
    rw [hRe] at hb0
    exact hb0.below b1
  clear b1 I1 H HM
  have HRe := Lib.hid hRe
  rw [hRe]
  clear hRe
  obtain ⟨nn, hnn⟩ : ∃ nn, LL.length = nn := ⟨_, rfl⟩
  have HNN := Lib.hid hnn
  clear hnn
  go_upto_if 15 with fail
  go_cut [6] (fun s6 wx => s6 = .int .i64 (k : Int) ∧ wx = W1)
  case first =>
    rcases HCASE.out with rfl | ⟨rfl, rfl⟩
    · go_wp2_with fail
      go_meet
      exact ⟨rfl, rfl⟩
    · go_wp2_with fail
      go_meet
      exact ⟨rfl, rfl⟩
  case rest =>
  obtain ⟨rfl, rfl⟩ := hcut
  clear HCASE
  go_wp2_with fail
  refine (A1.out _ H1.out.2.2.2.1).mono ?_
  rintro e W2 ⟨v, rfl, o2, b2, z2⟩
  obtain ⟨aa, cc, rfl⟩ := (FOwn.sl scell_len o2).len
  have M2 : Hid (MAt base B R W q L aa cc ln fi va vb vr vd tx rows dg W2) := by
    obtain ⟨h1, h2, h3, h4, h5, h6⟩ := H1.out
    exact Lib.hid ⟨h1.keep b2, h2.trans (Fr.of_below h1.sz b2), h3.below b2, o2.mono h1.sz, h5, h6⟩
  clear o2 b2 z2 H1 A1 k1
  go_upto_if 25 with fail
  go_cut [] (fun wx => ∃ vd', MAt base B R W q L aa cc ln fi va vb vr vd' tx rows (dg ++ d1) wx)
  case first =>
    cases F
    · obtain ⟨vd3, w3, r3, d3, f3, m3, b3, n3, c3, rfl⟩ := M2.out.tell (by omega) 5
      have x3 : W2.cell? ⟨B, 5, none⟩ = some vd := M2.out.rs.blk.cell 5
      have x3' : (W2.alloc (.cells #[.int .i64 5, .int .i64 q, .int .i64 0] 45)).cell? ⟨B, 5, none⟩ = some vd := (M2.out.rs.blk.below (below_lit W2 _)).cell 5
      have y3 : W2.cell? ⟨R, 0, none⟩ = some (.int .i64 q) := M2.out.row.cell 0
      have M3 := Lib.hid m3
      have e1 : [(5, q, 0)] = d1 := HD1.out
      have E1 := Lib.hid e1
      clear m3 e1
      go_wp2_with fail
      go_region_law ((refine step_append_run rfl (.tmp 30) (.tmp 34) 40 40 rfl _ _ rfl rfl r3 ?_))
      all_goals
        go_wp2_with fail
        go_meet
        exact ⟨_, by rw [← E1.out]; exact M3.out⟩
    · have e1 : [] = d1 := HD1.out
      have E1 := Lib.hid e1
      clear e1
      go_wp2_with fail
      go_meet
      exact ⟨_, by rw [← E1.out, List.append_nil]; exact M2.out⟩
  case rest =>
  obtain ⟨vd3, hm3⟩ := hcut
  obtain ⟨W3, hW3⟩ : ∃ W3, wc = W3 := ⟨_, rfl⟩
  rw [hW3] at hm3 ⊢
  have M3 := Lib.hid hm3
  clear hm3 hW3 M2
  go_upto_if 40 with fail
  go_cut [8] (fun s8 wx => ∃ ab cb vd', s8 = .slice ab nn cb ∧ MAt base B R W q LL ab cb ln fi va vb vr vd' tx rows (dg ++ d1 ++ d2) wx)
  case first =>
    by_cases hl : 200 < L.length
    · have hl' : (200 : Int) < (L.length : Int) := by omega
      have HLF := Lib.hid hl
      have e2 : [(11, q, 0)] = d2 := by have := HD2.out; rwa [if_pos hl] at this
      have E2 := Lib.hid e2
      obtain ⟨vd4, w4, r4, d4, f4, m4, b4, n4, c4, rfl⟩ := M3.out.tell (by simp only [List.length_append]; omega) 11
      have x4 : W3.cell? ⟨B, 5, none⟩ = some vd3 := M3.out.rs.blk.cell 5
      have x4' : (W3.alloc (.cells #[.int .i64 11, .int .i64 q, .int .i64 0] 45)).cell? ⟨B, 5, none⟩ = some vd3 := (M3.out.rs.blk.below (below_lit W3 _)).cell 5
      have y4 : W3.cell? ⟨R, 0, none⟩ = some (.int .i64 q) := M3.out.row.cell 0
      have M4 := Lib.hid m4
      obtain ⟨u, hu, hs, hsh⟩ := Fs.front (P := Tryd.prog) Tryd.underlying23 hi (FOwn.sl scell_len M4.out.arg) 200 (by omega)
      have hsh' := hsh _ _ _ rfl
      subst hsh'
      have hu' : ∀ W, (Instr.slice 23 (.slice aa L.length cc) none (some (.int .i64 200)) none).run Tryd.prog W = .ok (.slice aa 200 cc) W := hu
      have C1 := Lib.hid (clone_any _ hs (by rw [List.length_take]; omega) (by rw [List.length_take]; omega))
      clear m4 e2 hu hs hsh hl M3
      go_wp2_with fail
      go_region_law ((refine step_append_run rfl (.tmp 45) (.tmp 49) 40 40 rfl _ _ rfl rfl r4 ?_))
      all_goals
        go_wp2_with fail
        refine C1.out.mono ?_
        rintro e W6 ⟨v6, rfl, o6, b6⟩
        obtain ⟨ab, cb, rfl⟩ := (FOwn.sl scell_len o6).len
        have M6 := Lib.hid (M4.out.clone b6 o6)
        have hL6 : (L.take 200).length = nn := by rw [HLL.out, HNN.out]
        have HL6 := Lib.hid hL6
        clear o6 b6 C1 M4 r4
        rw [hL6]
        clear hL6
        go_wp2_with fail
        go_meet
        refine ⟨ab, cb, .slice b4 n4 c4, rfl, ?_⟩
        have q6 := M6.out
        rw [HLL.out] at q6
        rw [← E2.out]
        exact q6
    · have hl' : ¬ (200 : Int) < (L.length : Int) := by omega
      have e2 : [] = d2 := by have := HD2.out; rwa [if_neg hl] at this
      have e3 : L = LL := by have := HLL.out; rwa [List.take_of_length_le (by omega)] at this
      have E2 := Lib.hid e2
      have e4 : L.length = nn := by rw [e3]; exact HNN.out
      have E3 := Lib.hid e3
      have E4 := Lib.hid e4
      clear e2 e3 e4 hl
      go_wp2_with fail
      go_meet
      refine ⟨aa, cc, vd3, by show Value.slice aa L.length cc = _; rw [E4.out], ?_⟩
      have q6 := M3.out
      rw [E3.out] at q6
      rw [← E2.out, List.append_nil]
      exact q6
  case rest =>
  obtain ⟨ab, cb, vd5, rfl, hm5⟩ := hcut
  obtain ⟨W6, hW6⟩ : ∃ W6, wc = W6 := ⟨_, rfl⟩
  rw [hW6] at hm5 ⊢
  have M6 := Lib.hid hm5
  clear hm5 hW6 M3
  obtain ⟨WW, vr9, w9, hWW, ⟨z0, z1, z2, z3⟩, z4, kk, d9, f9, m9, q9, b9, n9, c9, rfl⟩ := M6.out.say (by omega) nm
  rw [HNN.out] at hWW z2 kk
  have y1 : W6.cell? ⟨R, 1, none⟩ = some (.string ⟨#[]⟩) := M6.out.row.cell 1
  have y2 : W6.cell? ⟨R, 2, none⟩ = some (.slice none 0 0) := M6.out.row.cell 2
  have g1 : W6.frozen? ⟨R, 1, none⟩ = false := M6.out.row.frozen (by simp)
  have g2 : W6.frozen? ⟨R, 2, none⟩ = false := M6.out.row.frozen (by simp)
  have z5 : (WW.alloc (.cells #[.int .i64 q, .string ⟨nm.toArray⟩, .slice ab nn cb, .string ⟨#[]⟩] 34)).cell? ⟨B, 4, none⟩ = some vr := (Below.cell (below_lit WW _) (World.block_lt_of_cell? WW _ z4)).trans z4
  have M9 := Lib.hid (And.intro m9 q9)
  have HWW := Lib.hid hWW
  clear m9 q9 hWW M6
  go_wp2_with fail
  rw [← HWW.out]
  go_region_law ((refine step_append_run rfl (.tmp 66) (.tmp 68) 29 29 rfl _ _ rfl rfl kk ?_))
  all_goals
    go_wp2_with fail
    go_end0
    refine MEnd.mk (vr' := .slice b9 n9 c9) (vd' := vd5) rfl ?_ M9.out.2
    have e9 := M9.out.1
    rw [HDD.out, ← List.append_assoc]
    exact e9
end Go.Proofs.YteckiifnldcjbaaDoor
