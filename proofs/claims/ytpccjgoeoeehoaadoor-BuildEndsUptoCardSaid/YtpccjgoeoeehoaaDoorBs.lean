/- Cut; known() is true. known() is true. Trim, in the program and in the document's answer. The document's own answer for documents: a row squeezed; is it? The document's own answer for documents: side, in, stands, full. The document's own answer for documents: full. Texts, byte by byte; the document's own answer for documents: Right. Rows of rows that are made: whose blocks lie apart, by their types. The document's own answer for documents: Mend. The document's own answer for documents: Mend, the walk. The document's own answer for documents: what a node of a kind has of another one. The document's own answer for documents: own, the walk. Rows of nodes that are made. The document's own answer for documents: tidy; what its walk wants. The document's own answer for documents: tidy; the round's memory. A builder in memory: its cells, and what they say. The document's own answer for documents: tidy, the walk. The document's own answer for documents: Tidy. slices.Concat of three rows; styles.Join. How much there is of what was put right. -/
import Derived.Test.YtpccjgoeoeehoaaDoorB0
import Derived.Deep.RegionWith
import Derived.Deep.LoopGhost
import Derived.Lib.AppendZerosOnto
set_option linter.unusedVariables false
set_option linter.unusedSimpArgs false
namespace Go.Proofs.YtpccjgoeoeehoaaDoor
open Go.RowKit
attribute [local go_sem ↓ high] slice_frontG slice_backG
end Go.Proofs.YtpccjgoeoeehoaaDoor
namespace Go.Proofs.YtpccjgoeoeehoaaDoor
open Go.RowKit
attribute [local go_sem ↓ high] slice_frontG slice_backG
def kl : List Gly := [(97, 0), (19968, 0), (98, 0)]
end Go.Proofs.YtpccjgoeoeehoaaDoor
namespace Go.Proofs.YtpccjgoeoeehoaaDoor
open Go.RowKit
attribute [local go_sem ↓ high] slice_frontG
/-- How many glyphs a row has without the blanks at its end. -/
def trimN : List Gly → Nat
  | [] => 0
  | g :: l => if trimN l = 0 ∧ g.1 = 32 then 0 else trimN l + 1
theorem trimN_le : ∀ l : List Gly, trimN l ≤ l.length
  | [] => Nat.le_refl _
  | g :: l => by
    unfold trimN
    split
    · omega
    · have := trimN_le l; simp only [List.length_cons]; omega
theorem trimN_tail : ∀ (l : List Gly) (j : Nat) (g : Gly), trimN l ≤ j → l[j]? = some g → g.1 = 32
  | [], j, g, _, h => by simp at h
  | x :: l, 0, g, hj, h => by
    simp at h
    subst h
    unfold trimN at hj
    split at hj
    · rename_i hx; exact hx.2
    · omega
  | x :: l, j + 1, g, hj, h => by
    refine trimN_tail l j g ?_ (by simpa using h)
    unfold trimN at hj
    split at hj
    · rename_i hx; omega
    · omega
theorem trimN_last : ∀ (l : List Gly) (g : Gly), 0 < trimN l → l[trimN l - 1]? = some g → g.1 ≠ 32
  | [], g, h, _ => by simp [trimN] at h
  | x :: l, g, h, hg => by
    by_cases hx : trimN l = 0 ∧ x.1 = 32
    · have : trimN (x :: l) = 0 := by unfold trimN; rw [if_pos hx]
      omega
    · have e : trimN (x :: l) = trimN l + 1 := by conv => lhs; unfold trimN; rw [if_neg hx]
      rw [e] at hg
      by_cases h0 : trimN l = 0
      · rw [h0] at hg
        simp at hg
        subst hg
        exact fun h32 => hx ⟨h0, h32⟩
      · have e2 : trimN l + 1 - 1 = trimN l - 1 + 1 := by omega
        rw [e2] at hg
        exact trimN_last l g (by omega) (by simpa using hg)
/-- It is the one number that is so. -/
theorem trimN_unique {l : List Gly} {n : Nat} (hn : n ≤ l.length) (h1 : ∀ j g, n ≤ j → l[j]? = some g → g.1 = 32) (h2 : ∀ g, 0 < n → l[n - 1]? = some g → g.1 ≠ 32) : n = trimN l := by
  have hl := trimN_le l
  by_cases h : n < trimN l
  · exfalso
    have hlt : trimN l - 1 < l.length := by omega
    have hg : l[trimN l - 1]? = some l[trimN l - 1] := List.getElem?_eq_getElem hlt
    exact trimN_last l _ (by omega) hg (h1 _ _ (by omega) hg)
  · by_cases h' : trimN l < n
    · exfalso
      have hlt : n - 1 < l.length := by omega
      have hg : l[n - 1]? = some l[n - 1] := List.getElem?_eq_getElem hlt
      exact h2 _ (by omega) hg (trimN_tail l _ _ (by omega) hg)
    · omega
def trimL (l : List Gly) : List Gly := l.take (trimN l)
theorem trimL_len (l : List Gly) : (trimL l).length = trimN l := by
  unfold trimL
  rw [List.length_take]
  have := trimN_le l
  omega
set_option maxRecDepth 100000 in
set_option maxHeartbeats 1000000 in
theorem trim_any (l : List Gly) (v : Value) (w : World) (hv : Gs w v l) (hl : l.length ≤ 100000) :
    Calls Tryd.prog 52 #[v] w fun e w' => ∃ u, e = .returned u ∧ GOwn w.heap.size w' u (trimL l) ∧ Below w.heap.size w w' := by
  have HV := Lib.hid hv
  obtain ⟨a, cap, rfl⟩ := hv.len
  clear hv
  go_enter Tryd.func52, Tryd.ntmps52
  go_wp2_with fail
  go_loopw [3] (fun s wr => ∃ n : Nat, n ≤ l.length ∧ s = .int .i64 n ∧ Hid (∀ j g, n ≤ j → l[j]? = some g → g.1 = 32) ∧ wr = w) (fun s _ => (intOf s).toNat)
  case atStart => exact ⟨l.length, Nat.le_refl _, rfl, Lib.hid (fun j g hj hg => by rw [List.getElem?_eq_none hj] at hg; cases hg), rfl⟩
  case round =>
    obtain ⟨n, hn, rfl, HB, rfl⟩ := hrel
    by_cases h0 : 0 < n
    · obtain ⟨m, rfl⟩ : ∃ m, n = m + 1 := ⟨n - 1, by omega⟩
      obtain ⟨z, hz⟩ : ∃ z, l[m]? = some z := ⟨l[m]'(by omega), List.getElem?_eq_getElem _⟩
      obtain ⟨g, off, rfl, c0, c1, -⟩ := Gs.at HV.out hz
      have hi0 : (m : Int) < (l.length : Int) := by omega
      have hi1 : (0 : Int) ≤ (m : Int) := by omega
      have HZ := Lib.hid hz
      clear hz c1
      by_cases h32 : z.1 = 32
      · have HN : Hid (∀ j g, m ≤ j → l[j]? = some g → g.1 = 32) := Lib.hid (fun j g hj hg => by
          by_cases e : j = m
          · subst e
            rw [HZ.out] at hg
            rw [← Option.some.inj hg]; exact h32
          · exact HB.out j g (by omega) hg)
        go_wp2_with fail
        go_roundw
        case rel => exact ⟨m, by omega, by go_num, HN, by first | trivial | rfl⟩
        case measure => (simp [intOf]; try omega)
      · have HN : Hid (m + 1 = trimN l) := Lib.hid (trimN_unique hn HB.out (fun g _ hg => by
          rw [show m + 1 - 1 = m from rfl, HZ.out] at hg
          rw [← Option.some.inj hg]; exact h32))
        obtain ⟨u1, f1, s1, -⟩ := frontG_run HV.out (m + 1) hn
        have HC := Lib.hid (cloneg_any (l.take (m + 1)) u1 wr s1 (by rw [List.length_take]; omega))
        have f1' := f1
        simp only [Int.natCast_add, Int.natCast_one, Int.natCast_zero, Int.cast_ofNat_Int] at f1'
        clear s1 f1
        go_wp2_with fail
        refine HC.out.mono ?_
        rintro e w1 ⟨u, rfl, o1, b1⟩
        have O1 : Hid (GOwn wr.heap.size w1 u (trimL l)) := Lib.hid (by unfold trimL; rw [← HN.out]; exact o1)
        clear o1 HC
        go_wp2_with fail
        go_ret
        exact ⟨_, rfl, O1.out, b1⟩
    · obtain rfl : n = 0 := by omega
      have HN : Hid (0 = trimN l) := Lib.hid (trimN_unique hn HB.out (fun g h _ => absurd h (by omega)))
      obtain ⟨u1, f1, s1, -⟩ := frontG_run HV.out 0 hn
      have HC := Lib.hid (cloneg_any (l.take 0) u1 wr s1 (by rw [List.length_take]; omega))
      have f1' := f1
      simp only [Int.natCast_add, Int.natCast_one, Int.natCast_zero, Int.cast_ofNat_Int] at f1'
      clear s1 f1
      go_wp2_with fail
      refine HC.out.mono ?_
      rintro e w1 ⟨u, rfl, o1, b1⟩
      have O1 : Hid (GOwn wr.heap.size w1 u (trimL l)) := Lib.hid (by unfold trimL; rw [← HN.out]; exact o1)
      clear o1 HC
      go_wp2_with fail
      go_ret
      exact ⟨_, rfl, O1.out, b1⟩
end Go.Proofs.YtpccjgoeoeehoaaDoor
namespace Go.Proofs.YtpccjgoeoeehoaaDoor
open Go.RowKit
theorem trm_trimL : ∀ l : List Gly, trimL l = trm l
  | [] => rfl
  | g :: l => by
    have ih := trm_trimL l
    have hn : trimN l = 0 ↔ trm l = [] := by
      rw [← ih]
      unfold trimL
      constructor
      · intro h; rw [h]; rfl
      · intro h
        have := trimN_le l
        have h2 : (l.take (trimN l)).length = 0 := by rw [h]; rfl
        rw [List.length_take] at h2
        omega
    unfold trimL
    rw [trm_cons]
    by_cases hc : trimN l = 0 ∧ g.1 = 32
    · have e : trimN (g :: l) = 0 := by unfold trimN; rw [if_pos hc]
      rw [e, if_pos ⟨hn.1 hc.1, hc.2⟩]
      rfl
    · have e : trimN (g :: l) = trimN l + 1 := by conv => lhs; unfold trimN; rw [if_neg hc]
      rw [e, if_neg (fun h => hc ⟨hn.2 h.1, h.2⟩)]
      show g :: l.take (trimN l) = g :: trm l
      rw [← ih]
      rfl
/-- Does what stands there end with no blank? -/
def lastNB (b : Bool) (l : List Gly) : Bool := match l.getLast? with
  | none => b
  | some g => g.1 != 32
theorem lastNB_cons (b : Bool) (g : Gly) (l : List Gly) : lastNB b (g :: l) = lastNB (g.1 != 32) l := by
  unfold lastNB
  cases l with
  | nil => rfl
  | cons x l =>
    rw [List.getLast?_cons_cons]
    cases h : (x :: l).getLast? with
    | none => simp at h
    | some y => rfl
theorem sqA_app : ∀ (b : Bool) (P Q : List Gly), sqA b (P ++ Q) = sqA b P ++ sqA (lastNB b (sqA b P)) Q
  | b, [], Q => rfl
  | b, g :: P, Q => by
    rw [List.cons_append]
    by_cases hg : g.1 = 32
    · rw [sqA_blank b hg, sqA_blank b hg]
      cases b
      · simpa using sqA_app false P Q
      · rw [if_pos rfl, if_pos rfl, sqA_app false P Q, lastNB_cons]
        rfl
    · rw [sqA_other b hg, sqA_other b hg, sqA_app true P Q, lastNB_cons]
      have e : (g.1 != 32) = true := by simpa using hg
      rw [e]
      rfl
attribute [local go_sem ↓ high] builtin_appG
end Go.Proofs.YtpccjgoeoeehoaaDoor
namespace Go.Proofs.YtpccjgoeoeehoaaDoor
open Go.RowKit
def icell (x : Int) : List Value := [.int .i64 x]
theorem icell_len (x : Int) : (icell x).length = 1 := rfl
end Go.Proofs.YtpccjgoeoeehoaaDoor
namespace Go.Proofs.YtpccjgoeoeehoaaDoor
open Go.RowKit
def fullV (k : Int) (tl cl rl ql : Nat) : Bool :=
  if 1 ≤ k ∧ k ≤ 3 then decide (0 < tl) else if k = 5 then decide (0 < cl) else if k = 6 then decide (0 < rl) else k == 4 || (k == 7 && decide (0 < ql))
end Go.Proofs.YtpccjgoeoeehoaaDoor
namespace Go.Proofs.YtpccjgoeoeehoaaDoor
open Go.RowKit
end Go.Proofs.YtpccjgoeoeehoaaDoor
namespace Go.Proofs.YtpccjgoeoeehoaaDoor
open Go.RowKit
/-- Blocks of elements of type e, from base on, stand as they stood. -/
def SamT (e : TypeId) (base : Nat) (W W' : World) : Prop := ∀ g cur fz, base ≤ g → W.heap[g]? = some (.cells cur e fz) → W'.heap[g]? = some (.cells cur e fz)
theorem SamT.trans {e : TypeId} {base : Nat} {a b c : World} (h : SamT e base a b) (k : SamT e base b c) : SamT e base a c := fun g cur fz hb hg => k g cur fz hb (h g cur fz hb hg)
theorem SamT.below {e : TypeId} {base : Nat} {W W' : World} (h : Below W.heap.size W W') : SamT e base W W' := fun g _ _ _ hg => (h.block g (Array.getElem?_eq_some_iff.1 hg).1).trans hg
theorem SamT.grown {e e' : TypeId} {base : Nat} {W W' : World} {row : Option Nat} (h : W.grownBy W' row) (hr : ∀ g, row = some g → ∃ cur fz, W.heap[g]? = some (.cells cur e' fz)) (he : e ≠ e') : SamT e base W W' := by
  intro g cur fz _ hg
  rw [h.block g (Array.getElem?_eq_some_iff.1 hg).1 (fun e2 => by
    obtain ⟨cur', fz', h2⟩ := hr g e2.symm
    rw [hg] at h2
    injection h2 with h2
    injection h2 with _ h3
    exact he h3)]
  exact hg
theorem SamT.set {e e' : TypeId} {base g : Nat} {W : World} {L : List Value} (hb : Blk W g e' L) (he : e ≠ e') (j : Nat) (v : Value) : SamT e base W (W.setCell ⟨g, j, none⟩ v) := by
  intro g2 cur fz _ hg
  have hne : g2 ≠ g := fun e2 => by
    rw [e2] at hg
    have h1 : W.heap[g]? = some (.cells L.toArray e' (0, 0)) := hb
    rw [h1] at hg
    injection hg with hg
    injection hg with _ h3
    exact he h3.symm
  rw [Below.heap_setCell _ _ _ _ (fun e2 => hne e2)]
  exact hg
theorem FOwn.sam {α : Type} {e n : Nat} {f : α → List Value} {base : Nat} {W W' : World} {x : Value} {l : List α} (h : FOwn e n f base W x l) (hs : SamT e base W W') : FOwn e n f base W' x l := by
  refine ⟨h.1, ?_⟩
  rcases h.2 with hn | ⟨g, cap, cur, hx, hb, hgg, rest⟩
  · exact .inl hn
  · exact .inr ⟨g, cap, cur, hx, hb, hs g cur _ hb hgg, rest⟩
/-- One more, behind a row of one's own. -/
theorem fpush {α : Type} {P : Program} {W : World} {base t e n bytes : Nat} {f : α → List Value} {i0 : TypeInfo} {z : Value} (hf : ∀ x, (f x).length = n) (h1 : ∀ x, ∀ u ∈ f x, u.oneCell' = true) (hn : 0 < n)
    (ht : P.underlying t = some (.slice e)) (hi : P.info? e = some i0) (hz0 : i0.zero = some z) (hz1 : i0.size = n) (hz2 : i0.bytes = bytes) (hzs : z.cells.size = n) (hbt : bytes ≤ 1000)
    {x : Value} {l : List α} (h : FOwn e n f base W x l) (hb : base ≤ W.heap.size) (hl : l.length ≤ 500000) (y : α) :
    ∃ a' c' w', (Builtin.append_ #[t, t] t #[x, .slice (some ⟨W.heap.size, 0, none⟩) 1 1]).run P (W.alloc (.cells (f y).toArray e)) = .ok (.slice a' (l.length + 1) c') w' ∧ FOwn e n f base w' (.slice a' (l.length + 1) c') (l ++ [y]) ∧
      (W.alloc (.cells (f y).toArray e)).grownBy w' x.ownBlock ∧ (∀ g, x.ownBlock = some g → ∃ cur fz, (W.alloc (.cells (f y).toArray e)).heap[g]? = some (.cells cur e fz)) := by
  have b1 := below_lit W (.cells (f y).toArray e)
  have hu : Fs n f (W.alloc (.cells (f y).toArray e)) (.slice (some ⟨W.heap.size, 0, none⟩) 1 1) [y] := by
    have := fs_lit hf W e [y]
    rw [flatV_one] at this
    exact this
  obtain ⟨x', w', hr, ho, hg, -⟩ := fapp hf h1 hn ht hi hz0 hz1 hz2 hzs hbt (h.keep b1) hu (Nat.le_trans hb b1.size) (by simp; omega)
  obtain ⟨a', c', e'⟩ := (FOwn.sl hf ho).len
  have e2 : (l ++ [y]).length = l.length + 1 := by simp
  rw [e2] at e'
  subst e'
  refine ⟨a', c', w', hr, ho, hg, fun g hg' => ?_⟩
  obtain ⟨-, cur, hc⟩ := (h.keep b1).ty hg'
  exact ⟨cur, _, hc⟩
theorem infoSG : (Tryd.prog.info? 30).map (fun i => (i.zero, i.size, i.bytes)) = some (some (.slice none 0 0), 1, 24) := by kernel_rfl
theorem infoTR : (Tryd.prog.info? 83).map (fun i => (i.zero, i.size, i.bytes)) = some (some (.agg #[.bool false, .slice none 0 0]), 2, 32) := by kernel_rfl
noncomputable def appP (args : Array Value) : Sem Next := do pure (.value (← Builtin.append_ #[35, 35] 35 args))
theorem builtin_appP (cs : Array Bool) (args : Array Value) : builtin .append #[35, 35] 35 cs args = appP args := rfl
noncomputable def appW (args : Array Value) : Sem Next := do pure (.value (← Builtin.append_ #[36, 36] 36 args))
theorem builtin_appW (cs : Array Bool) (args : Array Value) : builtin .append #[36, 36] 36 cs args = appW args := rfl
/-- Cells that are made: a row of one's own, of rows of one's own. -/
structure CInv (base : Nat) (W : World) (v : Value) (l : List (List Gly)) : Prop where
  own : ∃ (L : List PV) (S : Nat → Prop), FOwn 30 1 pcell base W v L ∧ L.length = l.length ∧ (∀ b, S b → base ≤ b ∧ ∃ cur fz, W.heap[b]? = some (.cells cur 56 fz)) ∧
    ∀ (i : Nat) s r, L[i]? = some s → l[i]? = some r → FsS S 2 gcell W (pv s) r
theorem CInv.nil (base : Nat) (W : World) : CInv base W (.slice none 0 0) [] := ⟨⟨[], fun _ => False, FOwn.nil _ _, rfl, fun _ h => h.elim, fun i s r h => by simp at h⟩⟩
theorem CInv.sam {base : Nat} {W W' : World} {v : Value} {l : List (List Gly)} (h : CInv base W v l) (h1 : SamT 30 base W W') (h2 : SamT 56 base W W') : CInv base W' v l := by
  obtain ⟨L, S, hL, hl, hS, hE⟩ := h.own
  have hk : Kp S W W' := fun b hb => by
    obtain ⟨q1, cur, fz, q2⟩ := hS b hb
    rw [h2 b cur fz q1 q2, q2]
  exact ⟨⟨L, S, hL.sam h1, hl, fun b hb => by
    obtain ⟨q1, cur, fz, q2⟩ := hS b hb
    exact ⟨q1, cur, fz, h2 b cur fz q1 q2⟩, fun i s r a b => (hE i s r a b).keep hk⟩⟩
theorem CInv.len {base : Nat} {W : World} {v : Value} {l : List (List Gly)} (h : CInv base W v l) : ∃ a cap, v = .slice a l.length cap := by
  obtain ⟨L, S, hL, hl, -, -⟩ := h.own
  obtain ⟨a, cap, e⟩ := (FOwn.sl pcell_len hL).len
  exact ⟨a, cap, hl ▸ e⟩
/-- As it reads. -/
theorem own_foot {α : Type} {e n : Nat} {f : α → List Value} {base : Nat} {W : World} {x : Value} {l : List α} (hf : ∀ x, (f x).length = n) (h : FOwn e n f base W x l) : FsS (fun b => base ≤ b ∧ ∃ cur fz, W.heap[b]? = some (.cells cur e fz)) n f W x l := by
  refine ⟨FOwn.sl hf h, fun a k c e1 hk => ?_⟩
  subst e1
  rcases h.2 with ⟨hn, -⟩ | ⟨g, cap, cur, hx, hb, hgg, -⟩
  · injection hn with e1 e2 e3
    cases e1
  · injection hx with e1 e2 e3
    injection e1 with e1
    subst e1
    exact ⟨⟨hb, cur, _, hgg⟩, fun _ i _ => by simp [World.frozen?, hgg]⟩
theorem CInv.grs {base : Nat} {W : World} {v : Value} {l : List (List Gly)} (h : CInv base W v l) :
    GrS (fun b => base ≤ b ∧ ∃ cur e fz, W.heap[b]? = some (.cells cur e fz) ∧ (e = 30 ∨ e = 56)) W v l := by
  obtain ⟨L, S, hL, hl, hS, hE⟩ := h.own
  refine ⟨L, hl, (own_foot pcell_len hL).mono fun b hb => ?_, fun i s r a b => (hE i s r a b).mono fun x hx => ?_⟩
  · obtain ⟨q1, cur, fz, q2⟩ := hb
    exact ⟨q1, cur, _, fz, q2, .inl rfl⟩
  · obtain ⟨q1, cur, fz, q2⟩ := hS x hx
    exact ⟨q1, cur, _, fz, q2, .inr rfl⟩
/-- Rows of a table that are made. -/
structure WInv (base : Nat) (W : World) (v : Value) (l : List Trow) : Prop where
  own : ∃ (L : List (Bool × PV)) (S : Nat → Prop), FOwn 83 2 trcell base W v L ∧ L.length = l.length ∧ (∀ b, S b → base ≤ b ∧ ∃ cur e fz, W.heap[b]? = some (.cells cur e fz) ∧ (e = 30 ∨ e = 56)) ∧
    ∀ (i : Nat) s r, L[i]? = some s → l[i]? = some r → s.1 = r.1 ∧ GrS S W (pv s.2) r.2
theorem WInv.nil (base : Nat) (W : World) : WInv base W (.slice none 0 0) [] := ⟨⟨[], fun _ => False, FOwn.nil _ _, rfl, fun _ h => h.elim, fun i s r h => by simp at h⟩⟩
theorem WInv.len {base : Nat} {W : World} {v : Value} {l : List Trow} (h : WInv base W v l) : ∃ a cap, v = .slice a l.length cap := by
  obtain ⟨L, S, hL, hl, -, -⟩ := h.own
  obtain ⟨a, cap, e⟩ := (FOwn.sl trcell_len hL).len
  exact ⟨a, cap, hl ▸ e⟩
theorem kp_two {base : Nat} {W W' : World} {S : Nat → Prop} (hS : ∀ b, S b → base ≤ b ∧ ∃ cur e fz, W.heap[b]? = some (.cells cur e fz) ∧ (e = 30 ∨ e = 56)) (h1 : SamT 30 base W W') (h2 : SamT 56 base W W') :
    Kp S W W' ∧ ∀ b, S b → base ≤ b ∧ ∃ cur e fz, W'.heap[b]? = some (.cells cur e fz) ∧ (e = 30 ∨ e = 56) := by
  have key : ∀ b, S b → W'.heap[b]? = W.heap[b]? := fun b hb => by
    obtain ⟨q1, cur, e, fz, q2, q3⟩ := hS b hb
    rcases q3 with rfl | rfl
    · rw [h1 b cur fz q1 q2, q2]
    · rw [h2 b cur fz q1 q2, q2]
  refine ⟨key, fun b hb => ?_⟩
  obtain ⟨q1, cur, e, fz, q2, q3⟩ := hS b hb
  exact ⟨q1, cur, e, fz, by rw [key b hb, q2], q3⟩
/-- What holds besides its own block's being kept. -/
theorem WInv.held {base : Nat} {W W' : World} {v : Value} {l : List Trow} (h : WInv base W v l) (ho : ∀ L, FOwn 83 2 trcell base W v L → FOwn 83 2 trcell base W' v L) (h1 : SamT 30 base W W') (h2 : SamT 56 base W W') : WInv base W' v l := by
  obtain ⟨L, S, hL, hl, hS, hE⟩ := h.own
  obtain ⟨k1, t1⟩ := kp_two hS h1 h2
  exact ⟨⟨L, S, ho L hL, hl, t1, fun i s r a b => ⟨(hE i s r a b).1, (hE i s r a b).2.keep k1⟩⟩⟩
theorem WInv.sam {base : Nat} {W W' : World} {v : Value} {l : List Trow} (h : WInv base W v l) (h0 : SamT 83 base W W') (h1 : SamT 30 base W W') (h2 : SamT 56 base W W') : WInv base W' v l := h.held (fun L hL => hL.sam h0) h1 h2
theorem WInv.keep {base : Nat} {W W' : World} {v : Value} {l : List Trow} (h : WInv base W v l) (hb : Below W.heap.size W W') : WInv base W' v l := h.sam (SamT.below hb) (SamT.below hb) (SamT.below hb)
theorem WInv.trs {base : Nat} {W : World} {v : Value} {l : List Trow} (h : WInv base W v l) : TrS (fun b => base ≤ b ∧ b < W.heap.size) W v l := by
  obtain ⟨L, S, hL, hl, hS, hE⟩ := h.own
  refine ⟨L, hl, (own_foot trcell_len hL).mono fun b hb => ?_, fun i s r a b => ⟨(hE i s r a b).1, (hE i s r a b).2.mono fun x hx => ?_⟩⟩
  · obtain ⟨q1, cur, fz, q2⟩ := hb
    exact ⟨q1, (Array.getElem?_eq_some_iff.1 q2).1⟩
  · obtain ⟨q1, cur, e, fz, q2, -⟩ := hS x hx
    exact ⟨q1, (Array.getElem?_eq_some_iff.1 q2).1⟩
/-- A row more. -/
theorem WInv.push {base : Nat} {W : World} {v : Value} {l : List Trow} (h : WInv base W v l) (hb : base ≤ W.heap.size) (hl : l.length ≤ 500000) (b : Bool) (s : PV) (r : List (List Gly))
    (hs : GrS (fun b => base ≤ b ∧ ∃ cur e fz, W.heap[b]? = some (.cells cur e fz) ∧ (e = 30 ∨ e = 56)) W (pv s) r) :
    ∃ a' c' w', (appW #[v, .slice (some ⟨W.heap.size, 0, none⟩) 1 1]).run Tryd.prog (W.alloc (.cells #[.bool b, pv s] 83)) = .ok (.value (.slice a' (l.length + 1) c')) w' ∧ WInv base w' (.slice a' (l.length + 1) c') (l ++ [(b, r)]) ∧ Below base W w' ∧
      ∀ e, e ≠ 83 → SamT e base W w' := by
  obtain ⟨L, S, hL, hLl, hS, hE⟩ := h.own
  obtain ⟨i0, hi, hz0, hz1, hz2⟩ := info_parts infoTR
  obtain ⟨a', c', w', hr, ho, hg, hty⟩ := fpush (P := Tryd.prog) (t := 36) trcell_len trcell_one (by decide) Tryd.underlying36 hi hz0 hz1 hz2 rfl (by decide) hL hb (by omega) (b, s)
  have b1 := below_lit W (.cells (trcell (b, s)).toArray 83)
  have sam : ∀ e, e ≠ 83 → SamT e base W w' := fun e he => (SamT.below b1).trans (SamT.grown hg hty he)
  obtain ⟨k1, t1⟩ := kp_two hS (sam _ (by decide)) (sam _ (by decide))
  obtain ⟨k2, t2⟩ := kp_two (S := fun b => base ≤ b ∧ ∃ cur e fz, W.heap[b]? = some (.cells cur e fz) ∧ (e = 30 ∨ e = 56)) (fun b hb => hb) (sam _ (by decide)) (sam _ (by decide))
  rw [hLl] at hr ho
  refine ⟨a', c', w', ?_, ⟨⟨L ++ [(b, s)], fun b => S b ∨ (base ≤ b ∧ ∃ cur e fz, W.heap[b]? = some (.cells cur e fz) ∧ (e = 30 ∨ e = 56)), ho, by simp [hLl], fun b hb => ?_, fun i x y hx hy => ?_⟩⟩, ?_, sam⟩
  · unfold appW
    simp only [Sem.run_bind, Sem.run_pure, Result.andThen_ok]
    rw [show (#[.bool b, pv s] : Array Value) = (trcell (b, s)).toArray from rfl, hr]
    rfl
  · rcases hb with hb | hb
    · exact t1 b hb
    · exact t2 b hb
  · by_cases hil : i < l.length
    · rw [List.getElem?_append_left (by omega)] at hx hy
      exact ⟨(hE i x y hx hy).1, ((hE i x y hx hy).2.keep k1).mono fun b hb => .inl hb⟩
    · have : i = l.length := by
        have := (List.getElem?_eq_some_iff.1 hy).1
        simp at this
        omega
      subst this
      rw [List.getElem?_append_right (by omega), hLl, Nat.sub_self] at hx
      rw [List.getElem?_append_right (by omega), Nat.sub_self] at hy
      simp at hx hy
      subst hx hy
      exact ⟨rfl, (hs.keep k2).mono fun b hb => .inr hb⟩
  · exact (hL.keep b1).below (b1.mono hb) (Nat.le_trans hb b1.size) hg
end Go.Proofs.YtpccjgoeoeehoaaDoor
namespace Go.Proofs.YtpccjgoeoeehoaaDoor
open Go.RowKit
attribute [local go_sem ↓ high] binop_eqT binop_neqT builtin_appP builtin_appW
theorem Blk.sam {W W' : World} {g e base : Nat} {L : List Value} (h : Blk W g e L) (hb : base ≤ g) (hs : SamT e base W W') : Blk W' g e L := hs g _ _ hb h
theorem Blk.other {W : World} {g e g' : Nat} {L : List Value} (h : Blk W g e L) (hne : g ≠ g') (j : Nat) (v : Value) : Blk (W.setCell ⟨g', j, none⟩ v) g e L := by
  show (W.setCell ⟨g', j, none⟩ v).heap[g]? = _
  rw [Below.heap_setCell _ _ _ _ (fun e2 => hne e2)]
  exact h
section
variable {w W W' : World} {cols C : List UInt8} {rv v : Value} {gb ga al : Bool} {rows : List Trow}
end
section
variable {wo W W' : World} {x : Bool} {v : Value} {cells : List (List Gly)}
end
end Go.Proofs.YtpccjgoeoeehoaaDoor
namespace Go.Proofs.YtpccjgoeoeehoaaDoor
open Go.RowKit
attribute [local go_sem ↓ high] binop_eqT binop_neqT builtin_appP builtin_appW
end Go.Proofs.YtpccjgoeoeehoaaDoor
namespace Go.Proofs.YtpccjgoeoeehoaaDoor
open Go.RowKit
/-- 'min' of two numbers, kept whole. -/
noncomputable def mnS (args : Array Value) : Sem Next := do pure (.value (← Builtin.min_ #[3, 3] 3 args))
theorem builtin_mnS (cs : Array Bool) (args : Array Value) : builtin .min #[3, 3] 3 cs args = mnS args := rfl
theorem mnS_run (x y z : Int) (hz : (if y < x then y else x) = z) (w : World) : (mnS #[.int .i64 x, .int .i64 y]).run Tryd.prog w = .ok (.value (.int .i64 z)) w := by
  unfold mnS
  simp only [Sem.run_bind, Sem.run_pure, run_min_int2, Result.andThen_ok, hz]
def zNd : List Value := [.int .i64 0, .int .i64 0, .int .i64 0, .slice none 0 0, .slice none 0 0, .slice none 0 0, .string ⟨#[]⟩, .slice none 0 0, .bool false, .bool false]
section
variable {w W W' : World} {x y y' : NV}
end
/-- Ten cells of a block, one by one. -/
def set10 (W : World) (g : Nat) (x : NV) : World :=
  ((((((((((W.setCell ⟨g, 0, none⟩ (.int .i64 x.kind)).setCell ⟨g, 1, none⟩ (.int .i64 x.line)).setCell ⟨g, 2, none⟩ (.int .i64 x.n)).setCell ⟨g, 3, none⟩ (pv x.text)).setCell ⟨g, 4, none⟩ (pv x.kids)).setCell ⟨g, 5, none⟩ (pv x.rows)).setCell ⟨g, 6, none⟩ (.string ⟨x.cols.toArray⟩)).setCell ⟨g, 7, none⟩ (pv x.trows)).setCell ⟨g, 8, none⟩ (.bool x.box)).setCell ⟨g, 9, none⟩ (.bool x.all))
theorem set10_heap (W : World) (g : Nat) (x : NV) {k : Nat} (h : k ≠ g) : (set10 W g x).heap[k]? = W.heap[k]? := by
  unfold set10
  simp only [Below.heap_setCell _ (⟨g, _, none⟩ : Addr) _ k h]
theorem set10_size (W : World) (g : Nat) (x : NV) : (set10 W g x).heap.size = W.heap.size := by simp [set10, World.setCell]
theorem set10_blk {W : World} {g : Nat} {e : TypeId} {a0 a1 a2 a3 a4 a5 a6 a7 a8 a9 : Value} (h : Blk W g e [a0, a1, a2, a3, a4, a5, a6, a7, a8, a9]) (x : NV) : Blk (set10 W g x) g e (ncell x) :=
  (((((((((h.set 0 _).set 1 _).set 2 _).set 3 _).set 4 _).set 5 _).set 6 _).set 7 _).set 8 _).set 9 _
theorem set10_below {D : Nat} {a W : World} (h : Below D a W) {g : Nat} (hg : D ≤ g) (x : NV) : Below D a (set10 W g x) :=
  (((((((((h.setCell hg _).setCell hg _).setCell hg _).setCell hg _).setCell hg _).setCell hg _).setCell hg _).setCell hg _).setCell hg _).setCell hg _
end Go.Proofs.YtpccjgoeoeehoaaDoor
namespace Go.Proofs.YtpccjgoeoeehoaaDoor
open Go.RowKit
attribute [local go_sem ↓ high] builtin_mxS builtin_mnS
theorem szset (W : World) (a : Addr) (v : Value) : (W.setCell a v).heap.size = W.heap.size := by simp [World.setCell]
end Go.Proofs.YtpccjgoeoeehoaaDoor
namespace Go.Proofs.YtpccjgoeoeehoaaDoor
open Go.RowKit
theorem infoNd : (Tryd.prog.info? 40).map (fun i => (i.zero, i.size, i.bytes)) = some (some (.agg zNd.toArray), 10, 144) := by kernel_rfl
noncomputable def appN (args : Array Value) : Sem Next := do pure (.value (← Builtin.append_ #[27, 27] 27 args))
theorem builtin_appN (cs : Array Bool) (args : Array Value) : builtin .append #[27, 27] 27 cs args = appN args := rfl
/-- A node as it lies, and what it says. -/
theorem NsS.atR {S : Nat → Prop} {w : World} {a : Option Addr} {k cap : Nat} {l : List Nd} (h : NsS S w (.slice a k cap) l) {j : Nat} {y : Nd} (hy : l[j]? = some y) :
    ∃ g off x, a = some ⟨g, off, none⟩ ∧ S g ∧ (∀ (i : Nat) c, (ncell x)[i]? = some c → w.cell? ⟨g, off + j * 10 + i, none⟩ = some c) ∧ HdIs S w x y.hd ∧ NsS S w (pv x.kids) y.kids := by
  cases h with
  | mk _ _ L hl hs hh hk =>
    obtain ⟨x, hx⟩ : ∃ x, L[j]? = some x := ⟨L[j]'(by have := (List.getElem?_eq_some_iff.1 hy).1; omega), List.getElem?_eq_getElem _⟩
    obtain ⟨g, off, e, hg, hc⟩ := hs.at hx
    exact ⟨g, off, x, e, hg, fun i c hi => by rw [Nat.add_assoc]; exact hc i c hi, hh j x y hx hy, hk j x y hx hy⟩
/-- Nodes that are made: a row of one's own; what they hold lies among what came in (SI), or was made, apart from the row itself. -/
structure NInv (SI : Nat → Prop) (base : Nat) (W : World) (v : Value) (l : List Nd) : Prop where
  lt : ∀ b, SI b → b < base
  sz : base ≤ W.heap.size
  own : ∃ (L : List NV) (S : Nat → Prop), FOwn 40 10 ncell base W v L ∧ L.length = l.length ∧ (∀ b, S b → SI b ∨ (base ≤ b ∧ b < W.heap.size ∧ v.ownBlock ≠ some b)) ∧
    ∀ (i : Nat) x y, L[i]? = some x → l[i]? = some y → HdIs S W x y.hd ∧ NsS S W (pv x.kids) y.kids
section
variable {SI : Nat → Prop} {base : Nat} {W W' : World} {v : Value} {l : List Nd}
theorem NInv.nil (h1 : ∀ b, SI b → b < base) (h2 : base ≤ W.heap.size) : NInv SI base W (.slice none 0 0) [] :=
  ⟨h1, h2, ⟨[], fun _ => False, FOwn.nil _ _, rfl, fun _ h => h.elim, fun i x y h => by simp at h⟩⟩
theorem NInv.len (h : NInv SI base W v l) : ∃ a cap, v = .slice a l.length cap := by
  obtain ⟨L, S, hL, hl, -, -⟩ := h.own
  obtain ⟨a, cap, e⟩ := (FOwn.sl ncell_len hL).len
  exact ⟨a, cap, hl ▸ e⟩
theorem NInv.keep (h : NInv SI base W v l) (hb : Below W.heap.size W W') : NInv SI base W' v l := by
  obtain ⟨L, S, hL, hl, hS, hE⟩ := h.own
  have hk : Kp S W W' := fun b hb' => hb.block b (by
    rcases hS b hb' with q | q
    · exact Nat.lt_of_lt_of_le (h.lt b q) h.sz
    · exact q.2.1)
  refine ⟨h.lt, Nat.le_trans h.sz hb.size, ⟨L, S, hL.keep hb, hl, fun b hb' => ?_, fun i x y a c => ⟨(hE i x y a c).1.keep hk, (hE i x y a c).2.keep hk⟩⟩⟩
  rcases hS b hb' with q | q
  · exact .inl q
  · exact .inr ⟨q.1, Nat.lt_of_lt_of_le q.2.1 hb.size, q.2.2⟩
theorem NInv.nss (h : NInv SI base W v l) : NsS (fun b => SI b ∨ (base ≤ b ∧ b < W.heap.size)) W v l := by
  obtain ⟨L, S, hL, hl, hS, hE⟩ := h.own
  have hm : ∀ b, S b → SI b ∨ (base ≤ b ∧ b < W.heap.size) := fun b hb => (hS b hb).imp id fun q => ⟨q.1, q.2.1⟩
  refine .mk _ _ L hl ((own_foot ncell_len hL).mono fun b hb => .inr ⟨hb.1, ?_⟩) (fun i x y a c => (hE i x y a c).1.mono hm) (fun i x y a c => (hE i x y a c).2.mono hm)
  obtain ⟨-, cur, fz, hc⟩ := hb
  exact (Array.getElem?_eq_some_iff.1 hc).1
end
end Go.Proofs.YtpccjgoeoeehoaaDoor
namespace Go.Proofs.YtpccjgoeoeehoaaDoor
open Go.RowKit
theorem pv_len {α : Type} {n : Nat} {f : α → List Value} {w : World} {s : PV} {l : List α} (h : Fs n f w (pv s) l) : s.2.1 = l.length := by
  obtain ⟨a, c, e⟩ := h.len
  rw [pv_eq e]
theorem full_of {S : Nat → Prop} {w : World} {x : NV} {h : Hd} (hh : HdIs S w x h) (c : Nat) : fullV x.kind x.text.2.1 c x.rows.2.1 x.trows.2.1 = fullB h (decide (0 < c)) := by
  have e1 := pv_len hh.text.1
  obtain ⟨a2, c2, e2⟩ := hh.rows.len
  obtain ⟨a3, c3, e3⟩ := hh.trows.len
  rw [e1, pv_eq e2, pv_eq e3, hh.kind]
  simp only
  unfold fullV fullB
  have p : ∀ {α : Type} (l : List α), decide (0 < l.length) = decide (l ≠ []) := fun l => by
    cases l <;> simp
  rw [p, p, p]
theorem hasK_len {α : Type} (l : List α) : decide (0 < l.length) = hasK l := by cases l <;> simp [hasK]
theorem full_kind4 {h : Hd} (hk : h.kind = 4) (b : Bool) : fullB h b = true := by unfold fullB; rw [hk]; rfl
end Go.Proofs.YtpccjgoeoeehoaaDoor
namespace Go.Proofs.YtpccjgoeoeehoaaDoor
open Go.RowKit
section
variable {SI : Nat → Prop} {base gy : Nat} {wo W W' : World} {x y : NV} {hy : Hd} {v : Value} {l : List Nd}
end
end Go.Proofs.YtpccjgoeoeehoaaDoor
namespace Go.Proofs.YtpccjgoeoeehoaaDoor
open Go.RowKit
/-- How much there is of a builder. -/
def btl (t : Bt) : Nat := nlL t.kids + nlL t.opn + t.text.length
theorem nl_own (y x : Nd) : nlN (ownKid y x) = nlN y + nlN x := by
  cases y
  simp only [ownKid, nlN, Nd.hd, Nd.kids, nlL_app, nlL]
  omega
theorem btl_lay (t : Bt) (x : Nd) : btl (bLay t x) = btl t + nlN x := by
  rcases opn_cases t.opn with h | ⟨l, y, h⟩
  · rw [lay_none x h]
    simp only [btl, nlL_app, nlL]
    omega
  · rw [lay_some x h]
    unfold btl
    simp only
    rw [h, nlL_app, nlL_app]
    simp only [nlL, nl_own]
    omega
theorem btl_pop (t : Bt) : btl (bPop t) = btl t := by
  rcases opn_cases t.opn with h | ⟨l, x, h⟩
  · rw [pop_none h]
  · rw [pop_some h, btl_lay]
    unfold btl
    simp only
    rw [h, nlL_app]
    simp only [nlL]
    omega
theorem nl_para (t : Bt) : nlN (paraN t) = 3 + t.text.length := by simp [paraN, nlN, hdl, nlL, noGrid, lens, trls]
theorem btl_end (t : Bt) : btl (bEnd t) ≤ btl t + 3 := by
  unfold bEnd
  split
  · unfold btl bFlat
    simp only [List.length_nil]
    omega
  · have h := btl_lay t (paraN t)
    rw [nl_para] at h
    have e : btl (bFlat (bLay t (paraN t))) + (bLay t (paraN t)).text.length = btl (bLay t (paraN t)) := by
      unfold btl bFlat
      simp only [List.length_nil]
      omega
    have e2 : (bLay t (paraN t)).text = t.text := (lay_sameP t _).2.1
    rw [e2] at e
    omega
theorem jn_len_le (a b : List Gly) : (jn a b).length ≤ a.length + b.length + 1 := by
  unfold jn
  split
  · omega
  · split
    · omega
    · simp; omega
theorem btl_text (t : Bt) (l : List Gly) (i : Int) : btl (bText t l i) ≤ btl t + l.length + 1 := by
  have := jn_len_le t.text l
  unfold btl bText
  simp only
  omega
theorem btl_open (t : Bt) (x : Nd) : btl (bOpen t x) ≤ btl t + 3 + nlN x := by
  have := btl_end t
  unfold bOpen btl at *
  simp only [nlL_app, nlL] at *
  omega
theorem btl_add (t : Bt) (x : Nd) : btl (bAdd t x) ≤ btl t + 3 + nlN x := by
  have := btl_end t
  unfold bAdd
  rw [btl_lay]
  omega
theorem btl_popAll (K : List Int) : ∀ (n : Nat) (t : Bt), btl (popAll K n t) = btl t
  | 0, t => rfl
  | n + 1, t => by
    unfold popAll
    split
    · rfl
    · split
      · rw [btl_popAll K n, btl_pop]
      · rfl
theorem btl_popTo (k : Int) : ∀ (n : Nat) (t : Bt), btl (popTo k n t) = btl t
  | 0, t => rfl
  | n + 1, t => by
    unfold popTo
    split
    · rfl
    · split
      · exact btl_pop t
      · rw [btl_popTo k n, btl_pop]
theorem btl_shut (t : Bt) (K : List Int) : btl (bShut t K) ≤ btl t + 3 := by unfold bShut; rw [btl_popAll]; exact btl_end t
theorem btl_close (t : Bt) (k : Int) : btl (bClose t k).1 ≤ btl t + 3 := by
  unfold bClose
  split
  · rw [btl_popTo]; exact btl_end t
  · exact btl_end t
theorem nl_wrap : ∀ l : List Nd, nlL (wrapK l) = nlL l
  | [] => rfl
  | y :: r => by
    have := nl_wrap r
    cases y
    simp only [wrapK, nlL, nlN, Nd.hd, Nd.kids, nlL_app]
    omega
theorem btl_all (t : Bt) : nlL (bAll t) ≤ btl t := by
  unfold bAll btl
  rw [nlL_app, nl_wrap]
  omega
end Go.Proofs.YtpccjgoeoeehoaaDoor
namespace Go.Proofs.YtpccjgoeoeehoaaDoor
open Go.RowKit
attribute [local go_sem ↓ high] builtin_appN
theorem kt1 {k m : Int} (h1 : k = 1 ∨ k = 2) (h : stands k m = true) : kindAt k m = k := by unfold kindAt; rw [if_neg]; rw [h]; simp
theorem kt3 {k m : Int} (h1 : k = 1 ∨ k = 2) (h : stands k m = false) : kindAt k m = 3 := by unfold kindAt; rw [if_pos ⟨h1, h⟩]
theorem kt0 {k m : Int} (h1 : ¬ k = 1) (h2 : ¬ k = 2) : kindAt k m = k := by unfold kindAt; rw [if_neg]; omega
end Go.Proofs.YtpccjgoeoeehoaaDoor
namespace Go.Proofs.YtpccjgoeoeehoaaDoor
open Go.RowKit
end Go.Proofs.YtpccjgoeoeehoaaDoor
namespace Go.Proofs.YtpccjgoeoeehoaaDoor
open Go.RowKit
theorem below_two (w : World) (a b : Obj) : Below w.heap.size w ((w.alloc a).alloc b) := ((Below.refl _ w).alloc (Nat.le_refl _) _).alloc (by simp) _
theorem blk_second (w : World) (a : Obj) (L : List Value) (e : TypeId) : Blk ((w.alloc a).alloc (.cells L.toArray e)) (w.heap.size + 1) e L := by
  have := heap_alloc_new (w.alloc a) (.cells L.toArray e)
  have e1 : (w.alloc a).heap.size = w.heap.size + 1 := by simp
  rw [e1] at this
  exact this
noncomputable def appZ (args : Array Value) : Sem Next := do pure (.value (← Builtin.append_ #[30, 3] 30 args))
theorem builtin_appZ (cs : Array Bool) (args : Array Value) : builtin .append #[30, 3] 30 cs args = appZ args := rfl
theorem front_zero (a : Option Addr) (l c : Nat) (W : World) : (frontG (.slice a l c) (.int .i64 0)).run Tryd.prog W = .ok (.slice a 0 c) W := by
  obtain ⟨i0, hi, hz0, hz1, hz2⟩ := info_parts infoG
  unfold frontG
  simp [Instr.slice, Instr.sliceBounds, Instr.sliceBound, asIntOf, run_underlying Tryd.underlying30, sizeOf, typeInfo, hi]
  intro _
  cases a <;> rfl
theorem appZ_run (W : World) (n : Nat) (h0 : 0 < n) (hn : n ≤ 1000000) : ∃ G C, n ≤ G ∧ G ≤ maxLen ∧ C.size = G * 2 ∧ (appZ #[.slice none 0 0, .int .i64 (n : Int)]).run Tryd.prog W = .ok (.value (.slice (some ⟨W.heap.size, 0, none⟩) n G)) (W.drew.alloc (.cells C 56)) := by
  obtain ⟨i0, hi, hz0, hz1, hz2⟩ := info_parts infoG
  have h := Lib.run_append_grow_zeros (P := Tryd.prog) W 30 3 30 56 i0 _ .i64 .i64 Tryd.underlying30 Tryd.underlying3 hi hz0 none 0 0 [] (run_firstCells_none _ _ _ _ _) n h0 (by rw [hz1]; decide) (by omega) (by omega) (by rw [hz2]; omega) (growslice_fits (by omega) (by rw [hz2]; omega))
  have hg := grownCap_ge W (0 + n) 0 56
  have hm := grownCap_le_maxLen W (0 + n) 0 56 (by unfold maxLen; omega)
  simp only [Nat.zero_add] at h hg hm
  have e : (Value.agg #[Value.int .i32 0, Value.int .u8 0]).cells = #[.int .i32 0, .int .u8 0] := rfl
  rw [e] at h
  obtain ⟨C, hC⟩ : ∃ C, ([] : List Value).toArray ++ Builtin.zeroCells #[Value.int .i32 0, .int .u8 0] n ++ Builtin.zeroCells #[Value.int .i32 0, .int .u8 0] (grownCap W n 0 56 - n) = C := ⟨_, rfl⟩
  rw [hC] at h
  refine ⟨grownCap W n 0 56, C, hg, hm, ?_, ?_⟩
  · rw [← hC]
    simp [Builtin.zeroCells]
    omega
  · unfold appZ
    simp only [Sem.run_bind, Sem.run_pure, Result.andThen_ok, h]
attribute [local go_sem ↓ high] slice_frontG builtin_appZ
set_option maxRecDepth 100000 in
set_option maxHeartbeats 1000000 in
theorem grow_nil (n : Nat) (hn : n ≤ 1000000) (w : World) :
    Calls Tryd.prog 84 #[.slice none 0 0, .int .i64 (n : Int)] w fun e w' => ∃ u, e = .returned u ∧ GOwn w.heap.size w' u [] ∧ Below w.heap.size w w' := by
  by_cases h0 : n = 0
  · subst h0
    go_enter Tryd.func84, Tryd.ntmps84
    go_wp2_with fail
    go_ret
    exact ⟨_, rfl, FOwn.nil _ _, Below.refl _ _⟩
  · have hp : (0 : Int) < (n : Int) := by omega
    have hn0 : (n : Int) ≤ 1000000 := by omega
    obtain ⟨G, C, hG, hGm, hC, k1⟩ := appZ_run w n (by omega) hn
    have f1 : ∀ W : World, (frontG (.slice none 0 0) (.int .i64 0)).run Tryd.prog W = .ok (.slice none 0 0) W := fun W => front_zero none 0 0 W
    have f2 : ∀ W : World, (frontG (.slice (some ⟨w.heap.size, 0, none⟩) n G) (.int .i64 0)).run Tryd.prog W = .ok (.slice (some ⟨w.heap.size, 0, none⟩) 0 G) W := fun W => front_zero _ n G W
    have HO : Hid (GOwn w.heap.size (w.drew.alloc (.cells C 56)) (.slice (some ⟨w.heap.size, 0, none⟩) 0 G) []) := Lib.hid (World.ownsRow_made w.drew C G (Nat.le_refl _) hGm hC)
    have HB := Lib.hid ((Below.refl w.heap.size w).drew.alloc (Nat.le_refl _) (.cells C 56))
    clear h0 hG hGm hC
    go_enter Tryd.func84, Tryd.ntmps84
    go_wp2_with fail
    go_ret
    exact ⟨_, rfl, HO.out, HB.out⟩
attribute [local go_sem ↓ high] builtin_appG
set_option maxRecDepth 100000 in
set_option maxHeartbeats 2000000 in
theorem concat3_any (a b c : List Gly) (v1 v2 v3 : Value) (g : Nat) (w : World) (c0 : w.cell? ⟨g, 0, none⟩ = some v1) (c1 : w.cell? ⟨g, 1, none⟩ = some v2) (c2 : w.cell? ⟨g, 2, none⟩ = some v3) (h1 : Gs w v1 a) (h2 : Gs w v2 b) (h3 : Gs w v3 c) (hl : a.length + b.length + c.length ≤ 400000) :
    Calls Tryd.prog 76 #[.slice (some ⟨g, 0, none⟩) 3 3] w fun e w' => ∃ u, e = .returned u ∧ GOwn w.heap.size w' u (a ++ b ++ c) ∧ Below w.heap.size w w' := by
  have H1 := Lib.hid h1
  have H2 := Lib.hid h2
  have H3 := Lib.hid h3
  obtain ⟨a1, k1, rfl⟩ := h1.len
  obtain ⟨a2, k2, rfl⟩ := h2.len
  obtain ⟨a3, k3, rfl⟩ := h3.len
  have hg := World.block_lt_of_cell? w _ c0
  simp only at hg
  have HG := Lib.hid (grow_nil (a.length + b.length + c.length) (by omega))
  have ha0 : (0 : Int) ≤ (a.length : Int) := by omega
  have ha1 : (a.length : Int) ≤ 400000 := by omega
  have hb0 : (0 : Int) ≤ (b.length : Int) := by omega
  have hb1 : (b.length : Int) ≤ 400000 := by omega
  have hc0 : (0 : Int) ≤ (c.length : Int) := by omega
  have hc1 : (c.length : Int) ≤ 400000 := by omega
  clear h1 h2 h3
  go_enter Tryd.func76, Tryd.ntmps76
  go_wp2_with fail
  go_loopw [3, 11] (fun s i wr => wr = w ∧ ((i = .int .i64 0 ∧ s = .int .i64 0) ∨ (i = .int .i64 1 ∧ s = .int .i64 (a.length : Int)) ∨ (i = .int .i64 2 ∧ s = .int .i64 ((a.length : Int) + (b.length : Int))) ∨ (i = .int .i64 3 ∧ s = .int .i64 ((a.length : Int) + (b.length : Int) + (c.length : Int))))) (fun _ i _ => 4 - (intOf i).toNat)
  case atStart => exact ⟨rfl, .inl ⟨rfl, rfl⟩⟩
  case round =>
    obtain ⟨rfl, hcase⟩ := hrel
    rcases hcase with ⟨rfl, rfl⟩ | ⟨rfl, rfl⟩ | ⟨rfl, rfl⟩ | ⟨rfl, rfl⟩
    · go_wp2_with fail
      go_roundw
      case rel => exact ⟨by first | trivial | rfl, .inr (.inl ⟨by first | trivial | rfl, by first | trivial | rfl⟩)⟩
      case measure => simp [intOf]
    · go_wp2_with fail
      go_roundw
      case rel => exact ⟨by first | trivial | rfl, .inr (.inr (.inl ⟨by first | trivial | rfl, by first | trivial | rfl⟩))⟩
      case measure => simp [intOf]
    · go_wp2_with fail
      go_roundw
      case rel => exact ⟨by first | trivial | rfl, .inr (.inr (.inr ⟨by first | trivial | rfl, by first | trivial | rfl⟩))⟩
      case measure => simp [intOf]
    · go_wp2_with fail
      refine (HG.out _).mono ?_
      rintro e w1 ⟨u, rfl, o1, b1⟩
      have z1 := b1.size
      have q0 := (b1.cell (p := ⟨g, 0, none⟩) hg).trans c0
      have q1 := (b1.cell (p := ⟨g, 1, none⟩) hg).trans c1
      have q2 := (b1.cell (p := ⟨g, 2, none⟩) hg).trans c2
      obtain ⟨x1, w2, j1, o2, g2, -⟩ := appG_own o1 (Fs.below H1.out b1) z1 (by simp; omega)
      rw [List.nil_append] at o2
      have b2 := o1.below b1 z1 g2
      obtain ⟨x2, w3, j2, o3, g3, -⟩ := appG_own o2 (Fs.below H2.out b2) b2.size (by omega)
      have b3 := o2.below b2 b2.size g3
      obtain ⟨x3, w4, j3, o4, g4, -⟩ := appG_own o3 (Fs.below H3.out b3) b3.size (by rw [List.length_append]; omega)
      have O4 := Lib.hid o4
      have B4 := Lib.hid (o3.below b3 b3.size g4)
      have r0 := (b2.cell (p := ⟨g, 0, none⟩) hg).trans c0
      have r1 := (b2.cell (p := ⟨g, 1, none⟩) hg).trans c1
      have r2 := (b2.cell (p := ⟨g, 2, none⟩) hg).trans c2
      have s0 := (b3.cell (p := ⟨g, 0, none⟩) hg).trans c0
      have s1 := (b3.cell (p := ⟨g, 1, none⟩) hg).trans c1
      have s2 := (b3.cell (p := ⟨g, 2, none⟩) hg).trans c2
      clear o1 b1 o2 g2 b2 o3 g3 o4 g4 b3 HG
      go_wp2_with fail
      go_loopw [6, 27] (fun s i wr => (i = .int .i64 0 ∧ s = u ∧ wr = w1) ∨ (i = .int .i64 1 ∧ s = x1 ∧ wr = w2) ∨ (i = .int .i64 2 ∧ s = x2 ∧ wr = w3) ∨ (i = .int .i64 3 ∧ s = x3 ∧ wr = w4)) (fun _ i _ => 4 - (intOf i).toNat)
      case atStart => exact .inl ⟨rfl, rfl, rfl⟩
      case round =>
        rcases hrel with ⟨rfl, rfl, rfl⟩ | ⟨rfl, rfl, rfl⟩ | ⟨rfl, rfl, rfl⟩ | ⟨rfl, rfl, rfl⟩
        · go_wp2_with fail
          go_roundw
          case rel => exact .inr (.inl ⟨by first | trivial | rfl, by first | trivial | rfl, by first | trivial | rfl⟩)
          case measure => simp [intOf]
        · go_wp2_with fail
          go_roundw
          case rel => exact .inr (.inr (.inl ⟨by first | trivial | rfl, by first | trivial | rfl, by first | trivial | rfl⟩))
          case measure => simp [intOf]
        · go_wp2_with fail
          go_roundw
          case rel => exact .inr (.inr (.inr ⟨by first | trivial | rfl, by first | trivial | rfl, by first | trivial | rfl⟩))
          case measure => simp [intOf]
        · go_wp2_with fail
          go_ret
          exact ⟨_, rfl, O4.out, B4.out⟩
theorem jn_nil' (a : List Gly) : jn a [] = a := by
  unfold jn
  split
  · rename_i h; rw [h]
  · rfl
set_option maxRecDepth 100000 in
set_option maxHeartbeats 2000000 in
theorem sjoin_any (a b : List Gly) (v u : Value) (w : World) (hv : Gs w v a) (hu : Gs w u b) (hl : a.length + b.length ≤ 100000) :
    Calls Tryd.prog 54 #[v, u] w fun e w' => ∃ x, e = .returned x ∧ GOwn w.heap.size w' x (jn a b) ∧ Below w.heap.size w w' := by
  obtain ⟨aa, ca, rfl⟩ := hv.len
  obtain ⟨ab, cb, rfl⟩ := hu.len
  by_cases ha : a = []
  · have e : jn a b = b := by rw [ha]; rfl
    rw [e]
    have HC := Lib.hid (cloneg_any b _ w hu (by omega))
    subst ha
    clear hv hu e
    simp only [List.length_nil]
    go_enter Tryd.func54, Tryd.ntmps54
    go_wp2_with fail
    refine HC.out.mono ?_
    rintro e w1 ⟨x, rfl, o1, b1⟩
    have O1 := Lib.hid o1
    have B1 := Lib.hid b1
    clear o1 b1 HC
    go_wp2_with fail
    go_ret
    exact ⟨_, rfl, O1.out, B1.out⟩
  · have hal : 0 < a.length := List.length_pos_iff.2 ha
    have ha0 : ¬ (a.length : Int) = 0 := by omega
    by_cases hb : b = []
    · have e : jn a b = a := by rw [hb]; exact jn_nil' a
      rw [e]
      have HC := Lib.hid (cloneg_any a _ w hv (by omega))
      subst hb
      clear hv hu e ha hal
      simp only [List.length_nil]
      go_enter Tryd.func54, Tryd.ntmps54
      go_wp2_with fail
      refine HC.out.mono ?_
      rintro e w1 ⟨x, rfl, o1, b1⟩
      have O1 := Lib.hid o1
      have B1 := Lib.hid b1
      clear o1 b1 HC
      go_wp2_with fail
      go_ret
      exact ⟨_, rfl, O1.out, B1.out⟩
    · have hbl : 0 < b.length := List.length_pos_iff.2 hb
      have hb0 : ¬ (b.length : Int) = 0 := by omega
      have e : jn a b = a ++ [(32, 0)] ++ b := by unfold jn; rw [if_neg ha, if_neg hb]
      rw [e]
      have bl := below_lit w (.cells #[.int .i32 32, .int .u8 0] 56)
      have g2 : Gs (w.alloc (.cells #[.int .i32 32, .int .u8 0] 56)) (.slice (some ⟨w.heap.size, 0, none⟩) 1 1) [(32, 0)] := fs_lit gcell_len w 56 [(32, 0)]
      have bl2 := below_lit (w.alloc (.cells #[.int .i32 32, .int .u8 0] 56)) (.cells #[.slice aa a.length ca, .slice (some ⟨w.heap.size, 0, none⟩) 1 1, .slice ab b.length cb] 30)
      have hbk : Blk ((w.alloc (.cells #[.int .i32 32, .int .u8 0] 56)).alloc (.cells #[.slice aa a.length ca, .slice (some ⟨w.heap.size, 0, none⟩) 1 1, .slice ab b.length cb] 30)) (w.heap.size + 1) 30 [.slice aa a.length ca, .slice (some ⟨w.heap.size, 0, none⟩) 1 1, .slice ab b.length cb] := blk_second w _ [.slice aa a.length ca, .slice (some ⟨w.heap.size, 0, none⟩) 1 1, .slice ab b.length cb] _
      have hb2 := below_two w (.cells #[.int .i32 32, .int .u8 0] 56) (.cells #[.slice aa a.length ca, .slice (some ⟨w.heap.size, 0, none⟩) 1 1, .slice ab b.length cb] 30)
      have HC := Lib.hid (concat3_any a [(32, 0)] b _ _ _ (w.heap.size + 1) _ (hbk.cell 0) (hbk.cell 1) (hbk.cell 2) (Fs.below hv hb2) (Fs.below g2 bl2) (Fs.below hu hb2) (by simp; omega))
      have HB := Lib.hid hb2
      clear hv hu e ha hal hb hbl bl g2 bl2 hbk hb2
      go_enter Tryd.func54, Tryd.ntmps54
      go_wp2_with fail
      refine HC.out.mono ?_
      rintro e w1 ⟨x, rfl, o1, b1⟩
      have O1 := Lib.hid (FOwn.mono (base' := w.heap.size) o1 HB.out.size)
      have B1 := Lib.hid (HB.out.trans (b1.mono HB.out.size))
      clear o1 b1 HC
      go_wp2_with fail
      go_ret
      exact ⟨_, rfl, O1.out, B1.out⟩
end Go.Proofs.YtpccjgoeoeehoaaDoor
namespace Go.Proofs.YtpccjgoeoeehoaaDoor
open Go.RowKit
theorem lens_mcells : ∀ (n : Nat) (l : List (List Gly)), lens (mcells n l) ≤ lens l
  | 0, l => by simp [mcells, lens]
  | n + 1, [] => by have := lens_mcells n []; simp [mcells, lens] at this ⊢; exact this
  | n + 1, c :: l => by
    have := lens_mcells n l
    have := sqz_len c
    simp only [mcells, lens, List.map_cons, List.sum_cons] at *
    omega
theorem trl_mrow (n : Nat) (r : Trow) : trl (mrowT n r) ≤ n + trl r := by
  obtain ⟨b, l⟩ := r
  have := lens_mcells n l
  have := mcells_len n l
  unfold trl mrowT
  cases b
  · simp only [Bool.false_eq_true, if_false]
    omega
  · simp [lens]
    omega
theorem trls_mrows (n : Nat) : ∀ l : List Trow, trls (l.map (mrowT n)) ≤ n * l.length + trls l
  | [] => by simp [trls]
  | r :: l => by
    have h1 := trls_mrows n l
    have h2 := trl_mrow n r
    simp only [trls, List.map_cons, List.sum_cons, List.length_cons, Nat.mul_add, Nat.mul_one] at *
    omega
theorem mend_size2 (t : Tab) : trls (mend t).rows ≤ 21 * trls t.rows ∧ (mend t).cols.length ≤ 20 := by
  have h1 := trls_mrows (mcols t.cols).length t.rows
  have h2 := trls_len t.rows
  have h3 := (mcols_ok t.cols).2.1
  have h4 : (mcols t.cols).length * t.rows.length ≤ 20 * trls t.rows := Nat.mul_le_mul h3 h2
  refine ⟨?_, h3⟩
  show trls (t.rows.map (mrowT (mcols t.cols).length)) ≤ _
  omega
theorem hdl_own (h : Hd) (k : Int) : hdl (ownH h k) ≤ 24 * hdl h := by
  have da : hdl h = 3 + h.text.length + h.grid.cols.length + (h.rows.length + lens h.rows) + trls h.grid.rows := rfl
  have db : hdl (ownH h k) = 3 + (ownH h k).text.length + (ownH h k).grid.cols.length + ((ownH h k).rows.length + lens (ownH h k).rows) + trls (ownH h k).grid.rows := rfl
  have h1 : (ownH h k).text.length ≤ h.text.length := by
    unfold ownH
    simp only
    split
    · exact sqz_len _
    · simp
  have h2 : (ownH h k).rows.length + lens (ownH h k).rows ≤ h.rows.length + lens h.rows := by
    unfold ownH
    simp only
    split
    · exact Nat.le_refl _
    · simp [lens]
  have h3 : (ownH h k).grid.cols.length ≤ 20 ∧ trls (ownH h k).grid.rows ≤ 21 * trls h.grid.rows := by
    unfold ownH
    simp only
    split
    · exact ⟨(mend_size2 _).2, (mend_size2 _).1⟩
    · simp [noGrid, trls]
  omega
mutual
theorem tdN_size : ∀ (x : Nd) (w : Int) (d n : Nat), nlL (tdN x w d n).1 ≤ 24 * nlN x
  | .mk h ks, w, d, n => by
    rw [tdN_mk]
    have ho := hdl_own h (kindAt h.kind w)
    split
    · have i1 := tdL_size ks (kindAt h.kind w) (d + 1) n
      simp only
      split
      · simp only [nlL, nlN]; omega
      · simp only [nlL, nlN]; omega
    · simp only
      rw [nlL_app]
      have h1 : nlL (if fullB (ownH h (kindAt h.kind w)) false = true then [Nd.mk (ownH h (kindAt h.kind w)) []] else []) ≤ hdl (ownH h (kindAt h.kind w)) := by
        split <;> simp [nlL, nlN]
      by_cases hm : mayK h.kind = true
      · rw [if_pos hm]
        have i1 := tdL_size ks w d n
        simp only [nlN]
        omega
      · rw [if_neg hm]
        simp only [nlL, nlN]; omega
theorem tdL_size : ∀ (l : List Nd) (w : Int) (d n : Nat), nlL (tdL l w d n).1 ≤ 24 * nlL l
  | [], w, d, n => by rw [tdL_nil]; simp [nlL]
  | x :: l, w, d, n => by
    rw [tdL_cons]
    split
    · simp [nlL]
    · simp only
      rw [nlL_app]
      have h1 := tdN_size x w d (n - 1)
      have h3 := tdL_size l w d (tdN x w d (n - 1)).2
      simp only [nlL]
      omega
end
theorem tidy_size (l : List Nd) : nlL (tidyL l) ≤ 24 * nlL l := tdL_size l 0 0 20000
end Go.Proofs.YtpccjgoeoeehoaaDoor
