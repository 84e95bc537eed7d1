/- Rows of texts that came in, with the sum of their lengths. How much is read of a table's lines: plain maths. What is printed of a table of letters: it is not great, and a mended table of letters is one: plain maths. The chapter's example, and what the laws of tables say: plain maths. What the laws of tables ask of the package. The walk of TblCuts. How much is told of a table's lines: plain maths. All of some rows of glyphs, joined: halves first. The laws' own small functions for tables: long; whether a table has letters alone. The walk of TblSafe. -/
import Derived.Test.YtaeplneiicobgaaDoorRD
import Derived.Test.YtaeplneiicobgaaDoorBg
import Derived.Test.YtaeplneiicobgaaDoorQc
import Derived.Test.YtaeplneiicobgaaDoorEc
import Derived.Test.YtaeplneiicobgaaDoorQ2
import Derived.Test.YtaeplneiicobgaaDoorQ9
import Derived.Deep.RegionWith
set_option linter.unusedVariables false
set_option linter.unusedSimpArgs false
namespace Go.Proofs.YtaeplneiicobgaaDoor
open Go.ChangeShapes Go.WideShapes Go.ChangeAt Go.RowKit
/-- How much there is of texts. -/
def lnT (l : List (List UInt8)) : Nat := (l.map (fun b => b.length + 1)).sum
theorem lnT_cons (b : List UInt8) (l : List (List UInt8)) : lnT (b :: l) = b.length + 1 + lnT l := by simp [lnT]
theorem lnT_app (l m : List (List UInt8)) : lnT (l ++ m) = lnT l + lnT m := by simp [lnT]
theorem lnT_num : ∀ l : List (List UInt8), l.length ≤ lnT l
  | [] => Nat.zero_le _
  | b :: l => by have := lnT_num l; rw [lnT_cons, List.length_cons]; omega
theorem lnT_mem {l : List (List UInt8)} {b : List UInt8} (h : b ∈ l) : b.length + 1 ≤ lnT l := by
  induction l with
  | nil => simp at h
  | cons x l ih =>
    rw [lnT_cons]
    rcases List.mem_cons.1 h with rfl | h
    · omega
    · have := ih h; omega
theorem lnT_take (l : List (List UInt8)) (j : Nat) : lnT (l.take j) ≤ lnT l := by
  have := lnT_app (l.take j) (l.drop j)
  rw [List.take_append_drop] at this
  omega
section
variable {H : Type} {enc : TypeId × Value → H} {w : World} {held : Bool}
theorem texts_of {fuel : Nat} {v : Value} {x : DataW H × List MemPlace} (h : DataW.trod enc Tryd.prog w 0 (fun _ => true) held fuel 28 [v] = some x) :
    ∃ l : List (List UInt8), FsS (fun b => b < w.heap.size) 1 scell w v l ∧ 1 + lnT l ≤ Rows.uptoBulk x.1 := by
  rcases open_sl Tryd.underlying28 h with ⟨rfl, hx⟩ | ⟨a, len, cap, n, ys, rest, -, rfl, hl, hyl, hx, hi⟩
  · exact ⟨[], FsS.nil _ _ _ _, by rw [hx]; simp [Rows.uptoBulk, lnT]⟩
  · rw [cellsStr] at hi
    obtain ⟨L, l, h1, h2, h3⟩ := two_lists (fun i (g : List UInt8) (_ : Unit) => (∀ (j : Nat) c, (scell g)[j]? = some c → w.cell? (a.add (i * 1 + j)) = some c) ∧ ∃ y, ys[i]? = some y ∧ g.length + 1 ≤ Rows.uptoBulk y.1) len (fun i hil => by
      obtain ⟨cs, y, hy, hcl, hc, ht⟩ := hi i hil
      rcases cs with _ | ⟨c, _ | ⟨d, cs⟩⟩
      · simp at hcl
      · obtain ⟨b, rfl, hb⟩ := text_of ht
        exact ⟨b, (), hc, y, hy, by omega⟩
      · simp at hcl)
    refine ⟨L, fss_of scell_len (by decide) h1 hl (fun i x hx j c hj => ?_), ?_⟩
    · have hil := (List.getElem?_eq_some_iff.1 hx).1
      obtain ⟨u, hu⟩ := get_of_len h2 (j := i) (by omega)
      exact (h3 i x u hx hu).1 j c hj
    · have hs := bulk_sum (fun b : List UInt8 => b.length + 1) L (ys.map (·.1)) (by rw [List.length_map, h1, hyl]) (fun i r d hr hd => by
        obtain ⟨u, hu⟩ := get_of_len h2 (j := i) (by have := (List.getElem?_eq_some_iff.1 hr).1; omega)
        obtain ⟨y, hy, hb⟩ := (h3 i r u hr hu).2
        rw [List.getElem?_map, hy] at hd
        simp at hd
        subst hd
        exact hb)
      rw [hx]
      simp only [Rows.uptoBulk, lnT]
      omega
set_option maxRecDepth 100000 in
theorem texts_open {r : Reach} {b0 : Nat} {v : Value} {d : DataW H} {p : List MemPlace} (hval : Value.okWide Tryd.prog w r b0 28 v) (h : DataW.Trod enc Tryd.prog w 0 (fun _ => true) true 28 v d p) :
    ∃ l : List (List UInt8), FsS (fun b => b < w.heap.size) 1 scell w v l ∧ 1 + lnT l ≤ Rows.uptoBulk d := by
  obtain ⟨a, len, cap, rfl⟩ := okWide_slice Tryd.underlying28 hval
  obtain ⟨fu, hf⟩ := h
  exact texts_of hf
end
end Go.Proofs.YtaeplneiicobgaaDoor
namespace Go.Proofs.YtaeplneiicobgaaDoor
open Go.RowKit
theorem jn_le9 (a b : List Gly) : (jn a b).length ≤ a.length + b.length + 1 := by
  unfold jn
  split
  · omega
  · split
    · omega
    · simp only [List.length_append, List.length_singleton]; omega
theorem cut_lnT (c : UInt8) : ∀ s : Txt, lnT (cutB c s) = s.length + 1
  | [] => rfl
  | x :: r => by
    have ih := cut_lnT c r
    unfold cutB
    split
    · rw [lnT_cons, ih]
      simp only [List.length_nil, List.length_cons]
      omega
    · cases e : cutB c r with
      | nil => exact absurd e (cutB_ne c r)
      | cons a b =>
        rw [e, lnT_cons] at ih
        simp only [lnT_cons, List.length_cons]
        omega
theorem lnT_tail (l : List Txt) : lnT l.tail ≤ lnT l := by
  cases l with
  | nil => exact Nat.le_refl _
  | cons b l => rw [lnT_cons]; show lnT l ≤ _; omega
theorem lens_app (a b : List (List Gly)) : lens (a ++ b) = lens a + lens b := by simp [lens]
theorem lens_one (g : List Gly) : lens [g] = g.length := by simp [lens]
section
variable {lg : Lgf} (hg : ∀ s, (lg s).1.length ≤ s.length)
include hg
theorem takeT_size : ∀ (l : List Txt) (ln : Int) (acc : List Gly) (d : List Dgn), (takeT lg l ln acc d).1.length + lnT (takeT lg l ln acc d).2.2.2 ≤ acc.length + lnT l
  | [], ln, acc, d => by simp [takeT]
  | s :: r, ln, acc, d => by
    unfold takeT
    split
    · exact Nat.le_refl _
    · have ih := takeT_size r (ln + 1) (jn acc (lg s).1) (d ++ dgsB ln (lg s).2)
      have h1 := jn_le9 acc (lg s).1
      have h2 := hg s
      rw [lnT_cons]
      omega
omit hg in
def cSz (ps rest : List Txt) (cs : List (List Gly)) (q : CRes) : Prop := q.1.length + lens q.1 + lnT q.2.2.2 ≤ cs.length + lens cs + lnT ps + lnT rest
theorem cellsI_size {K : List Txt → List Txt → Int → List (List Gly) → List Dgn → CRes} (hK : ∀ ps rest ln cs d, cSz ps rest cs (K ps rest ln cs d)) : ∀ (ps rest : List Txt) (ln : Int) (cs : List (List Gly)) (d : List Dgn), cSz ps rest cs (cellsI lg K ps rest ln cs d)
  | [], rest, ln, cs, d => by unfold cSz cellsI; simp [lnT]
  | p :: ps, rest, ln, cs, d => by
    unfold cellsI
    split
    · have ht := takeT_size hg rest (ln + 1) [] d
      generalize takeT lg rest (ln + 1) [] d = q at ht
      obtain ⟨g, d2, ln2, r2⟩ := q
      cases r2 with
      | nil =>
        simp only [List.length_nil] at ht
        unfold cSz
        simp only [List.length_append, List.length_singleton, lens_app, lens_one, lnT_cons]
        omega
      | cons s r =>
        have h1 := hK (cutB 9 s).tail r ln2 (cs ++ [g]) d2
        have h2 := lnT_tail (cutB 9 s)
        rw [cut_lnT] at h2
        unfold cSz at h1 ⊢
        simp only [List.length_append, List.length_singleton, lens_app, lens_one, lnT_cons, List.length_nil] at h1 ht ⊢
        omega
    · have h1 := cellsI_size hK ps rest ln (cs ++ [(lg p).1]) (d ++ dgsB ln (lg p).2)
      have h2 := hg p
      unfold cSz at h1 ⊢
      simp only [List.length_append, List.length_singleton, lens_app, lens_one, lnT_cons] at h1 ⊢
      omega
theorem cellsP_size : ∀ (n : Nat) (ps rest : List Txt) (ln : Int) (cs : List (List Gly)) (d : List Dgn), cSz ps rest cs (cellsP lg n ps rest ln cs d)
  | 0, ps, rest, ln, cs, d => cellsI_size hg (fun ps rest ln cs d => by unfold cSz; simp only; omega) ps rest ln cs d
  | n + 1, ps, rest, ln, cs, d => cellsI_size hg (cellsP_size n) ps rest ln cs d
theorem rowP_size (nc : Nat) (s : Txt) (rest : List Txt) (ln : Int) : trl (rowP lg nc s rest ln).1 + lnT (rowP lg nc s rest ln).2.2.2 ≤ 1 + lnT (s :: rest) := by
  unfold rowP
  split
  · rw [lnT_cons]
    unfold trl
    simp [lens]
  · have h := cellsP_size hg (rest.length + 1) (cutB 9 s) rest ln [] []
    unfold cSz at h
    rw [cut_lnT] at h
    simp only [List.length_nil, lens, List.map_nil, List.sum_nil] at h
    rw [lnT_cons]
    unfold trl lens
    simp only
    omega
theorem rowsP_size (nc : Nat) : ∀ (n : Nat) (l : List Txt) (ln : Int) (rs : List Trow) (d : List Dgn), trls (rowsP lg nc n l ln rs d).1 ≤ trls rs + n + lnT l
  | 0, l, ln, rs, d => by simp [rowsP]
  | n + 1, [], ln, rs, d => by simp [rowsP]; omega
  | n + 1, s :: r, ln, rs, d => by
    have h1 := rowP_size hg nc s r ln
    unfold rowsP
    simp only
    have ih := rowsP_size nc n (rowP lg nc s r ln).2.2.2 ((rowP lg nc s r ln).2.2.1 + 1) (rs ++ [(rowP lg nc s r ln).1]) (d ++ (rowP lg nc s r ln).2.1)
    have h4 : trls (rs ++ [(rowP lg nc s r ln).1]) = trls rs + trl (rowP lg nc s r ln).1 := by simp [trls]
    omega
omit hg in
theorem look_lnT (line : Int) (l : List Txt) : lnT (lookP line l).2.2.2.1 ≤ lnT l := by
  unfold lookP
  cases l with
  | nil => exact Nat.le_refl _
  | cons s r =>
    simp only
    split
    · rw [lnT_cons]; simp only; omega
    · exact Nat.le_refl _
omit hg in
theorem cols_lnT : ∀ (l : List Txt) (ln : Int) (cols : Txt) (d : List Dgn), lnT (colsP l ln cols d).2.2.2.1 ≤ lnT l
  | [], ln, cols, d => by simp [colsP]
  | s :: r, ln, cols, d => by
    unfold colsP
    simp only
    rw [lnT_cons]
    split
    · simp only; omega
    · have := cols_lnT r (ln + 1) (if (colsB s).1 = [] then cols else (colsB s).1.take 20) (d ++ (if (colsB s).2 then [] else [(10, ln, 0)]) ++ (if 20 < (colsB s).1.length then [(11, ln, 0)] else []))
      omega
omit hg in
theorem lens_mcells9 : ∀ (n : Nat) (l : List (List Gly)), lens (mcells n l) ≤ lens l
  | 0, l => by simp [mcells, lens]
  | n + 1, [] => by have := lens_mcells9 n []; simp [mcells, lens] at this ⊢; exact this
  | n + 1, c :: l => by
    have := lens_mcells9 n l
    have := sqz_len c
    simp only [mcells, lens, List.map_cons, List.sum_cons] at *
    omega
omit hg in
theorem trls_mrows9 (n : Nat) : ∀ l : List Trow, trls (l.map (mrowT n)) ≤ n * l.length + trls l
  | [] => by simp [trls]
  | r :: l => by
    have h1 := trls_mrows9 n l
    have h2 : trl (mrowT n r) ≤ n + trl r := by
      obtain ⟨b, l⟩ := r
      have := lens_mcells9 n l
      have := mcells_len n l
      unfold trl mrowT
      cases b
      · simp only [Bool.false_eq_true, if_false]
        omega
      · simp [lens]
        omega
    simp only [trls, List.map_cons, List.sum_cons, List.length_cons, Nat.mul_add, Nat.mul_one] at *
    omega
/-- A table that is read is not great. -/
theorem parse_size (line : Int) (l : List Txt) : trls (parseP lg line l).1.rows ≤ 42 * lnT l := by
  have h1 := look_lnT line l
  have h2 := cols_lnT (lookP line l).2.2.2.1 (lookP line l).2.2.2.2 [] (lookP line l).2.2.1
  have h3 := lnT_num (colsP (lookP line l).2.2.2.1 (lookP line l).2.2.2.2 [] (lookP line l).2.2.1).2.2.2.1
  unfold parseP
  simp only
  generalize (colsP (lookP line l).2.2.2.1 (lookP line l).2.2.2.2 [] (lookP line l).2.2.1) = b at h2 h3
  generalize (if b.1 = [] then [108] else b.1 : Txt) = cols
  generalize b.2.2.1 ++ (if b.2.1 then [] else [(7, line, 0)]) = d
  have h4 := rowsP_size hg cols.length b.2.2.2.1.length b.2.2.2.1 b.2.2.2.2 [] d
  generalize rowsP lg cols.length b.2.2.2.1.length b.2.2.2.1 b.2.2.2.2 [] d = q at h4
  simp only [trls, List.map_nil, List.sum_nil, Nat.zero_add] at h4
  have h5 := trls_mrows9 (mcols cols).length q.1
  have h6 := (mcols_ok cols).2.1
  have h7 := trls_len q.1
  have h8 : (mcols cols).length * q.1.length ≤ 20 * q.1.length := Nat.mul_le_mul_right _ h6
  have h9 : trls q.1 ≤ b.2.2.2.1.length + lnT b.2.2.2.1 := h4
  show trls (q.1.map (mrowT (mcols cols).length)) ≤ 42 * lnT l
  omega
end
end Go.Proofs.YtaeplneiicobgaaDoor
namespace Go.Proofs.YtaeplneiicobgaaDoor
open Go.RowKit
theorem joinB_len (c : UInt8) : ∀ l : List Txt, (joinB c l).length ≤ lnT l
  | [] => by simp [joinB]
  | [a] => by simp [joinB, lnT]
  | a :: b :: l => by
    have ih := joinB_len c (b :: l)
    rw [lnT_cons]
    simp only [joinB, List.length_append, List.length_cons]
    omega
end Go.Proofs.YtaeplneiicobgaaDoor
namespace Go.Proofs.YtaeplneiicobgaaDoor
open Go.RowKit
def knM : Tab := ⟨[108, 114], [(false, [[(97, 0)], [(98, 0)]])], false, false⟩
theorem known_parse : parseP lgF 1 [[108, 32, 114, 46], [97, 9, 98]] = (knM, []) := by
  have h := print_back lgF_ok 1 (m := knM) (by decide) (by decide)
  have e : printM knM = [[108, 32, 114, 46], [97, 9, 98]] := by decide
  rwa [e] at h
theorem parse_right (line : Int) (l : List Txt) : rightT (parseP lgF line l).1 = true := right_mend _
end Go.Proofs.YtaeplneiicobgaaDoor
namespace Go.Proofs.YtaeplneiicobgaaDoor
open Go.RowKit
abbrev DgS (w : World) (v : Value) (l : List Dgn) : Prop := Ds w v l
structure ImplT : Prop where
  cut : ∀ (b : Txt) (w : World), b.length ≤ 500 → Calls Tryd.prog 12 #[.string ⟨b.toArray⟩] w fun e w' => ∃ v, e = .returned v ∧ SOwn w.heap.size w' v (cutB 9 b) ∧ Below w.heap.size w w'
  look : ∀ (b : Txt) (w : World), U8 w → b.length ≤ 500 → Calls Tryd.prog 7 #[.string ⟨b.toArray⟩] w fun e w' => e = .returned (.tuple #[.bool (lookB b).1, .bool (lookB b).2.1, .bool (lookB b).2.2]) ∧ Below w.heap.size w w'
  cols : ∀ (b : Txt) (w : World), U8 w → b.length ≤ 500 → Calls Tryd.prog 9 #[.string ⟨b.toArray⟩] w fun e w' => e = .returned (.tuple #[.string ⟨(colsB b).1.toArray⟩, .bool (colsB b).2]) ∧ Below w.heap.size w w'
  parse : ∀ (line : Int) (L : List Txt) (v : Value) (w : World), 0 ≤ line → line ≤ 100000 → U8 w → Ss w v L → lnT L ≤ 40000 → (∀ s ∈ L, s.length ≤ 2000) →
    Calls Tryd.prog 15 #[.int .i64 line, v] w fun e w' => ∃ (r : PV) (vd : Value), e = .returned (.tuple #[tabV (parseP lgF line L).1 r, vd]) ∧ TrS (fun b => w.heap.size ≤ b ∧ b < w'.heap.size) w' (pv r) (parseP lgF line L).1.rows ∧ DgS w' vd (parseP lgF line L).2 ∧ Below w.heap.size w w'
/-- The laws' known holds. -/
def KnT : Prop := ∀ w, U8 w → Calls Tryd.prog 6 #[] w fun e w' => e = .returned (.bool true) ∧ Below w.heap.size w w'
theorem joinB_snoc (c : UInt8) : ∀ (l : List Txt) (x : Txt), joinB c (l ++ [x]) = if l = [] then x else joinB c l ++ c :: x
  | [], x => rfl
  | [a], x => rfl
  | a :: b :: l, x => by
    have ih := joinB_snoc c (b :: l) x
    rw [if_neg (by simp)] at ih ⊢
    show a ++ c :: joinB c (b :: (l ++ [x])) = _
    rw [show b :: (l ++ [x]) = (b :: l) ++ [x] from rfl, ih]
    show _ = a ++ c :: joinB c (b :: l) ++ c :: x
    simp
theorem joinB_step (c : UInt8) {L : List Txt} {j : Nat} {x : Txt} (hx : L[j]? = some x) : joinB c (L.take (j + 1)) = if j = 0 then x else joinB c (L.take j) ++ c :: x := by
  rw [take_one9 hx, joinB_snoc]
  obtain ⟨hl, -⟩ := List.getElem?_eq_some_iff.1 hx
  by_cases hj : j = 0
  · subst hj; rfl
  · rw [if_neg hj, if_neg (fun e => by
      have := congrArg List.length e
      rw [List.length_take, List.length_nil] at this
      omega)]
theorem count_step (c : UInt8) {b : Txt} {j : Nat} {x : UInt8} (hx : b[j]? = some x) : (b.take (j + 1)).count c = (b.take j).count c + (if x = c then 1 else 0) := by
  rw [take_one9 hx, List.count_append]
  by_cases h : x = c
  · rw [if_pos h, h]; simp
  · rw [if_neg h]
    have : List.count c [x] = 0 := by
      rw [List.count_eq_zero]
      simp only [List.mem_singleton]
      exact fun e => h e.symm
    rw [this]
theorem joinB_take_len (c : UInt8) (L : List Txt) (j : Nat) : (joinB c (L.take j)).length ≤ lnT L := by
  have h1 := joinB_len c (L.take j)
  have h2 := lnT_take L j
  omega
attribute [local go_sem ↓ high] binop_addS binop_eqlS binop_neqS
set_option maxRecDepth 100000 in
set_option maxHeartbeats 8000000 in
theorem tblcuts_any (I : ImplT) (hK : KnT) (b : Txt) (w : World) (hU : U8 w) (hb : b.length ≤ 2000000) :
    Calls Tryd.prog 5 #[.string ⟨b.toArray⟩] w fun e w' => e = .returned (.bool true) ∧ Below w.heap.size w w' := by
  have HK : Hid (∀ W, Below w.heap.size w W → Calls Tryd.prog 6 #[] W fun e w' => e = .returned (.bool true) ∧ Below w.heap.size w w') :=
    Lib.hid (fun W hb => (hK W (hU.below hb)).mono fun e w' ⟨e1, e2⟩ => ⟨e1, hb.trans (e2.mono hb.size)⟩)
  have hsz := arr_size b
  by_cases hg : 500 < b.length
  · have hg' : (500 : Int) < (b.length : Int) := by omega
    go_enter Tryd.func5, Tryd.ntmps5
    go_wp2_with fail
    refine (HK.out _ (Below.refl _ _)).mono ?_
    rintro e w9 ⟨rfl, b9⟩
    go_wp2_with fail
    go_ret
    exact ⟨rfl, b9⟩
  · have hg' : ¬ (500 : Int) < (b.length : Int) := by omega
    have HC := Lib.hid (I.cut b w (by omega))
    have HI := Lib.hid (fun j x (h : b[j]? = some x) => str_idx b j x h)
    have hcl := cut_lnT 9 b
    have hcn := cutB_len 9 b
    have hcj := join_cut 9 b
    obtain ⟨L, hL⟩ : ∃ L, cutB 9 b = L := ⟨_, rfl⟩
    rw [hL] at HC hcl hcn hcj
    have hln := lnT_num L
    clear hL hg
    go_enter Tryd.func5, Tryd.ntmps5
    go_wp2_with fail
    refine HC.out.mono ?_
    rintro e w1 ⟨v, rfl, ho, hbl⟩
    obtain ⟨va, vc, rfl⟩ := (FOwn.sl scell_len ho).len
    have HS := Lib.hid (FOwn.sl scell_len ho)
    have HB := Lib.hid hbl
    obtain ⟨N, hN⟩ : ∃ N, L.length = N := ⟨_, rfl⟩
    have HJ := Lib.hid hcj
    have HN := Lib.hid hN
    have hn1 : N = 1 + b.count 9 := by omega
    have HCN := Lib.hid hn1
    have hNb : N ≤ 501 := by omega
    have hlj := joinB_take_len 9 L
    have HLJ := Lib.hid hlj
    rw [hN] at HS
    rw [hN]
    clear ho hbl HC hcj hN hcn hn1 hlj
    go_wp2_with fail
    go_loopw [4, 6] (fun u i wr => ∃ (j : Nat), i = .int .i64 (j : Int) ∧ u = .string ⟨(joinB 9 (L.take j)).toArray⟩ ∧ j ≤ N ∧ wr = w1) (fun _ i _ => N - (intOf i).toNat)
    case atStart => exact ⟨0, rfl, rfl, by omega, rfl⟩
    case round =>
      obtain ⟨j, rfl, rfl, hj, rfl⟩ := hrel
      by_cases hlt : j < N
      · obtain ⟨x, hx⟩ : ∃ x, L[j]? = some x := ⟨L[j]'(by rw [HN.out]; exact hlt), List.getElem?_eq_getElem _⟩
        obtain ⟨g, off, rfl, c0⟩ := Ss.at HS.out hx
        have hi0 : (0 : Int) ≤ (j : Int) := by omega
        have hi1 : (j : Int) < (N : Int) := by omega
        have hst := joinB_step 9 hx
        have hl1 := HLJ.out j
        have hl2 := lnT_mem (List.mem_of_getElem? hx)
        obtain ⟨u, hu⟩ : ∃ u, joinB 9 (L.take j) = u := ⟨_, rfl⟩
        rw [hu] at hst hl1
        rw [hu]
        have HU := Lib.hid hu
        have HST := Lib.hid hst
        clear hu hst hx
        by_cases hj0 : j = 0
        · have hj1 : ¬ (0 : Int) < (j : Int) := by omega
          obtain rfl : u = [] := by rw [← HU.out, hj0]; rfl
          have a0 : ∀ W, (addS (.string ⟨([] : Txt).toArray⟩) (.string ⟨x.toArray⟩)).run Tryd.prog W = .ok (.string ⟨x.toArray⟩) W := str_add [] x (by simp; omega)
          have HJ0 := Lib.hid hj0
          clear hj0
          go_wp2_with fail
          go_roundw
          case rel => exact ⟨j + 1, by go_num, by rw [HST.out, if_pos HJ0.out], by omega, by first | trivial | rfl⟩
          case measure => simp [intOf]; omega
        · have hj1 : (0 : Int) < (j : Int) := by omega
          have a0 : ∀ W, (addS (.string ⟨u.toArray⟩) (.string ⟨#[9]⟩)).run Tryd.prog W = .ok (.string ⟨(u ++ [9]).toArray⟩) W := str_add u [9] (by simp; omega)
          have a1 : ∀ W, (addS (.string ⟨(u ++ [9]).toArray⟩) (.string ⟨x.toArray⟩)).run Tryd.prog W = .ok (.string ⟨(u ++ [9] ++ x).toArray⟩) W := str_add (u ++ [9]) x (by simp; omega)
          go_wp2_with fail
          go_roundw
          case rel => exact ⟨j + 1, by go_num, by rw [HST.out, if_neg hj0]; try simp, by omega, by first | trivial | rfl⟩
          case measure => simp [intOf]; omega
      · obtain rfl : j = N := by omega
        have hu : joinB 9 (L.take j) = b := by rw [← HN.out, List.take_length, HJ.out]
        rw [hu]
        clear hu
        go_wp2_with fail
        go_loopw [5, 7] (fun n i w2 => ∃ (k : Nat), i = .int .i64 (k : Int) ∧ n = .int .i64 ((1 + (b.take k).count 9 : Nat) : Int) ∧ k ≤ b.length ∧ w2 = wr) (fun _ i _ => b.length - (intOf i).toNat)
        case atStart => exact ⟨0, rfl, rfl, by omega, rfl⟩
        case round =>
          obtain ⟨k, rfl, rfl, hk, rfl⟩ := hrel
          by_cases hlt2 : k < b.length
          · obtain ⟨y, hy⟩ : ∃ y, b[k]? = some y := ⟨b[k], List.getElem?_eq_getElem hlt2⟩
            have k0 := HI.out k y hy
            have hlt' : (k : Int) < (b.length : Int) := by omega
            have hst := count_step 9 hy
            have hcb : (b.take k).count 9 ≤ k := by
              have := List.count_le_length (a := (9 : UInt8)) (l := b.take k)
              rw [List.length_take] at this
              omega
            have HST := Lib.hid hst
            obtain ⟨q, hq⟩ : ∃ q, (b.take k).count 9 = q := ⟨_, rfl⟩
            rw [hq] at hcb HST
            rw [hq]
            clear hst hq
            by_cases hy9 : y = 9
            · subst hy9
              have k0' : ∀ W, (Instr.index 9 (.string ⟨b.toArray⟩) (.int .i64 (k : Int))).run Tryd.prog W = .ok (.int .u8 9) W := k0
              clear k0 hy
              go_wp2_with fail
              go_roundw
              case rel => exact ⟨k + 1, by go_num, by rw [HST.out]; go_num, by omega, by first | trivial | rfl⟩
              case measure => simp [intOf]; omega
            · have hne : ((y.toNat : Int) == 9) = false := byte_ne hy9
              clear hy
              go_wp2_with fail
              go_roundw
              case rel => exact ⟨k + 1, by go_num, by rw [HST.out, if_neg hy9]; rfl, by omega, by first | trivial | rfl⟩
              case measure => simp [intOf]; omega
          · obtain rfl : k = b.length := by omega
            rw [List.take_length]
            have q1 : ∀ W, (eqlS (.string ⟨b.toArray⟩) (.string ⟨b.toArray⟩)).run Tryd.prog W = .ok (.bool true) W := fun W => by
              have := eqlS_run b b W
              simpa using this
            have q2 : ((j : Int) == 1 + ((b.count 9 : Nat) : Int)) = true := by
              have := HCN.out
              rw [beq_iff_eq]
              omega
            go_wp2_with fail
            refine (HK.out _ HB.out).mono ?_
            rintro e w9 ⟨rfl, b9⟩
            go_wp2_with fail
            go_ret
            exact ⟨rfl, b9⟩
end Go.Proofs.YtaeplneiicobgaaDoor
namespace Go.Proofs.YtaeplneiicobgaaDoor
open Go.RowKit
theorem dgsB_len (ln : Int) (l : List (Int × Int)) : (dgsB ln l).length = l.length := by simp [dgsB]
section
variable {lg : Lgf} (hg : ∀ s, (lg s).2.length ≤ s.length)
include hg
theorem takeT_told : ∀ (l : List Txt) (ln : Int) (acc : List Gly) (d : List Dgn), (takeT lg l ln acc d).2.1.length + lnT (takeT lg l ln acc d).2.2.2 ≤ d.length + lnT l
  | [], ln, acc, d => by simp [takeT]
  | s :: r, ln, acc, d => by
    unfold takeT
    split
    · exact Nat.le_refl _
    · have ih := takeT_told r (ln + 1) (jn acc (lg s).1) (d ++ dgsB ln (lg s).2)
      have h2 := hg s
      rw [List.length_append, dgsB_len] at ih
      rw [lnT_cons]
      omega
omit hg in
def cTd (ps rest : List Txt) (d : List Dgn) (q : CRes) : Prop := q.2.1.length + lnT q.2.2.2 ≤ d.length + lnT ps + lnT rest
theorem cellsI_told {K : List Txt → List Txt → Int → List (List Gly) → List Dgn → CRes} (hK : ∀ ps rest ln cs d, cTd ps rest d (K ps rest ln cs d)) : ∀ (ps rest : List Txt) (ln : Int) (cs : List (List Gly)) (d : List Dgn), cTd ps rest d (cellsI lg K ps rest ln cs d)
  | [], rest, ln, cs, d => by unfold cTd cellsI; simp [lnT]
  | p :: ps, rest, ln, cs, d => by
    unfold cellsI
    split
    · have ht := takeT_told hg rest (ln + 1) [] d
      generalize takeT lg rest (ln + 1) [] d = q at ht
      obtain ⟨g, d2, ln2, r2⟩ := q
      cases r2 with
      | nil =>
        simp only at ht
        unfold cTd
        simp only [List.length_append, List.length_singleton, lnT_cons]
        omega
      | cons s r =>
        have h1 := hK (cutB 9 s).tail r ln2 (cs ++ [g]) d2
        have h2 := lnT_tail (cutB 9 s)
        rw [cut_lnT] at h2
        unfold cTd at h1 ⊢
        simp only [lnT_cons] at h1 ht ⊢
        omega
    · have h1 := cellsI_told hK ps rest ln (cs ++ [(lg p).1]) (d ++ dgsB ln (lg p).2)
      have h2 := hg p
      unfold cTd at h1 ⊢
      simp only [List.length_append, dgsB_len, lnT_cons] at h1 ⊢
      omega
theorem cellsP_told : ∀ (n : Nat) (ps rest : List Txt) (ln : Int) (cs : List (List Gly)) (d : List Dgn), cTd ps rest d (cellsP lg n ps rest ln cs d)
  | 0, ps, rest, ln, cs, d => cellsI_told hg (fun ps rest ln cs d => by unfold cTd; simp only; omega) ps rest ln cs d
  | n + 1, ps, rest, ln, cs, d => cellsI_told hg (cellsP_told n) ps rest ln cs d
theorem rowP_told (nc : Nat) (s : Txt) (rest : List Txt) (ln : Int) : (rowP lg nc s rest ln).2.1.length + lnT (rowP lg nc s rest ln).2.2.2 ≤ 1 + lnT (s :: rest) := by
  unfold rowP
  split
  · rw [lnT_cons]
    simp only [List.length_nil]
    omega
  · have h := cellsP_told hg (rest.length + 1) (cutB 9 s) rest ln [] []
    unfold cTd at h
    rw [cut_lnT] at h
    simp only [List.length_nil] at h
    rw [lnT_cons]
    simp only [List.length_append]
    split
    · simp only [List.length_singleton]; omega
    · simp only [List.length_nil]; omega
theorem rowsP_told (nc : Nat) : ∀ (n : Nat) (l : List Txt) (ln : Int) (rs : List Trow) (d : List Dgn), (rowsP lg nc n l ln rs d).2.length ≤ d.length + n + lnT l
  | 0, l, ln, rs, d => by simp [rowsP]
  | n + 1, [], ln, rs, d => by simp [rowsP]; omega
  | n + 1, s :: r, ln, rs, d => by
    have h1 := rowP_told hg nc s r ln
    unfold rowsP
    simp only
    have ih := rowsP_told nc n (rowP lg nc s r ln).2.2.2 ((rowP lg nc s r ln).2.2.1 + 1) (rs ++ [(rowP lg nc s r ln).1]) (d ++ (rowP lg nc s r ln).2.1)
    rw [List.length_append] at ih
    omega
omit hg in
theorem cols_told : ∀ (l : List Txt) (ln : Int) (cols : Txt) (d : List Dgn), (colsP l ln cols d).2.2.1.length ≤ d.length + 2 * l.length
  | [], ln, cols, d => by simp [colsP]
  | s :: r, ln, cols, d => by
    have h1 : (d ++ (if (colsB s).2 then [] else [(10, ln, 0)]) ++ (if 20 < (colsB s).1.length then [(11, ln, 0)] else []) : List Dgn).length ≤ d.length + 2 := by
      simp only [List.length_append]
      split <;> split <;> simp
    unfold colsP
    simp only [List.length_cons]
    split
    · simp only; omega
    · have := cols_told r (ln + 1) (if (colsB s).1 = [] then cols else (colsB s).1.take 20) (d ++ (if (colsB s).2 then [] else [(10, ln, 0)]) ++ (if 20 < (colsB s).1.length then [(11, ln, 0)] else []))
      omega
omit hg in
theorem look_told (line : Int) (l : List Txt) : (lookP line l).2.2.1.length ≤ 1 := by
  unfold lookP
  cases l with
  | nil => simp
  | cons s r =>
    simp only
    split
    · simp only; split <;> simp
    · simp
/-- What is wrong is not much. -/
theorem parse_told (line : Int) (l : List Txt) : (parseP lg line l).2.length ≤ 2 + 4 * lnT l := by
  have h0 := look_told line l
  have h1 := look_lnT line l
  have h2 := cols_lnT (lookP line l).2.2.2.1 (lookP line l).2.2.2.2 [] (lookP line l).2.2.1
  have h3 := lnT_num (colsP (lookP line l).2.2.2.1 (lookP line l).2.2.2.2 [] (lookP line l).2.2.1).2.2.2.1
  have h4 := cols_told (lookP line l).2.2.2.1 (lookP line l).2.2.2.2 [] (lookP line l).2.2.1
  have h5 := lnT_num (lookP line l).2.2.2.1
  unfold parseP
  simp only
  generalize (colsP (lookP line l).2.2.2.1 (lookP line l).2.2.2.2 [] (lookP line l).2.2.1) = b at h2 h3 h4
  generalize (if b.1 = [] then [108] else b.1 : Txt) = cols
  have h6 : (b.2.2.1 ++ (if b.2.1 then [] else [(7, line, 0)]) : List Dgn).length ≤ b.2.2.1.length + 1 := by
    rw [List.length_append]
    split <;> simp
  generalize (b.2.2.1 ++ (if b.2.1 then [] else [(7, line, 0)]) : List Dgn) = d at h6
  have h7 := rowsP_told hg cols.length b.2.2.2.1.length b.2.2.2.1 b.2.2.2.2 [] d
  omega
end
end Go.Proofs.YtaeplneiicobgaaDoor
namespace Go.Proofs.YtaeplneiicobgaaDoor
open Go.RowKit
def jns : List (List Gly) → List Gly
  | [] => []
  | a :: r => jn a (jns r)
theorem jns_app : ∀ a b : List (List Gly), jns (a ++ b) = jn (jns a) (jns b)
  | [], b => rfl
  | x :: a, b => by
    show jn x (jns (a ++ b)) = jn (jn x (jns a)) (jns b)
    rw [jns_app a b, jn_assoc]
theorem jns_snoc (a : List (List Gly)) (x : List Gly) : jns (a ++ [x]) = jn (jns a) x := by
  rw [jns_app]
  show jn (jns a) (jn x []) = _
  rw [jn_nil']
theorem jns_len : ∀ l : List (List Gly), (jns l).length ≤ lens l + l.length
  | [] => Nat.le_refl _
  | x :: l => by
    have h1 := jn_le9 x (jns l)
    have h2 := jns_len l
    have h3 := lens_app [x] l
    rw [lens_one] at h3
    show (jn x (jns l)).length ≤ lens ([x] ++ l) + (l.length + 1)
    omega
/-- Rows of glyphs in blocks of S, told by a slice. -/
def JoIn (S : Nat → Prop) (W : World) (v : Value) (l : List (List Gly)) : Prop := ∃ L : List PV, L.length = l.length ∧ Fs 1 pcell W v L ∧ ∀ (i : Nat) s r, L[i]? = some s → l[i]? = some r → FsS S 2 gcell W (pv s) r
theorem JoIn.keep {S : Nat → Prop} {W W' : World} {v : Value} {l : List (List Gly)} (h : JoIn S W v l) (hS : ∀ b, S b → b < W.heap.size) (hb : Below W.heap.size W W') : JoIn S W' v l := by
  obtain ⟨L, h1, h2, h3⟩ := h
  exact ⟨L, h1, h2.below hb, fun i s r a b => (h3 i s r a b).keep (Kp.below hb hS)⟩
theorem JoIn.len {S : Nat → Prop} {W : World} {v : Value} {l : List (List Gly)} (h : JoIn S W v l) : ∃ a cap, v = .slice a l.length cap := by
  obtain ⟨L, h1, h2, -⟩ := h
  obtain ⟨a, cap, e⟩ := h2.len
  exact ⟨a, cap, h1 ▸ e⟩
noncomputable def frontP9 (x hi : Value) : Sem Value := Instr.slice 47 x none (some hi) none
theorem slice_frontP9 (x hi : Value) : Instr.slice 47 x none (some hi) none = frontP9 x hi := rfl
noncomputable def backP9 (x lo : Value) : Sem Value := Instr.slice 47 x (some lo) none none
theorem slice_backP9 (x lo : Value) : Instr.slice 47 x (some lo) none none = backP9 x lo := rfl
theorem JoIn.front {S : Nat → Prop} {W : World} {v : Value} {l : List (List Gly)} (h : JoIn S W v l) (k : Nat) (hk : k ≤ l.length) : ∃ u, (∀ W' : World, (frontP9 v (.int .i64 (k : Int))).run Tryd.prog W' = .ok u W') ∧ JoIn S W u (l.take k) := by
  obtain ⟨i0, hi, hz0, hz1, hz2⟩ := info_parts infoSG
  obtain ⟨L, h1, h2, h3⟩ := h
  obtain ⟨u, hr, hu, -⟩ := Fs.front (P := Tryd.prog) Tryd.underlying47 hi h2 k (by omega)
  refine ⟨u, hr, L.take k, by simp [h1], hu, fun i s r a b => ?_⟩
  rw [List.getElem?_take] at a b
  split at a
  · rename_i hq
    rw [if_pos hq] at b
    exact h3 i s r a b
  · cases a
theorem JoIn.back {S : Nat → Prop} {W : World} {v : Value} {l : List (List Gly)} (h : JoIn S W v l) (k : Nat) (hk : k ≤ l.length) : ∃ u, (∀ W' : World, (backP9 v (.int .i64 (k : Int))).run Tryd.prog W' = .ok u W') ∧ JoIn S W u (l.drop k) := by
  obtain ⟨i0, hi, hz0, hz1, hz2⟩ := info_parts infoSG
  obtain ⟨L, h1, h2, h3⟩ := h
  obtain ⟨u, hr, hu⟩ := Fs.back (P := Tryd.prog) Tryd.underlying47 hi hz1 h2 k (by omega)
  refine ⟨u, hr, L.drop k, by simp [h1], hu, fun i s r a b => ?_⟩
  rw [List.getElem?_drop] at a b
  exact h3 _ s r a b
/-- In blocks of S, or in rows of glyphs that were made since. -/
def JR (S : Nat → Prop) (base : Nat) (W : World) (v : Value) (g : List Gly) : Prop := FsS (fun b => S b ∨ (base ≤ b ∧ ∃ cur fz, W.heap[b]? = some (.cells cur 45 fz))) 2 gcell W v g
theorem JR.keep {S : Nat → Prop} {base : Nat} {W W' : World} {v : Value} {g : List Gly} (h : JR S base W v g) (hS : ∀ b, S b → b < W.heap.size) (hb : Below W.heap.size W W') : JR S base W' v g := by
  refine FsS.mono (FsS.keep h (fun b q => hb.block b ?_)) (fun b q => ?_)
  · rcases q with q | ⟨-, cur, fz, q⟩
    · exact hS b q
    · exact (Array.getElem?_eq_some_iff.1 q).1
  · rcases q with q | ⟨q0, cur, fz, q⟩
    · exact .inl q
    · exact .inr ⟨q0, cur, fz, (hb.block b (Array.getElem?_eq_some_iff.1 q).1).trans q⟩
theorem JR.own {S : Nat → Prop} {base base' : Nat} {W : World} {v : Value} {g : List Gly} (h : GOwn base' W v g) (hb : base ≤ base') : JR S base W v g :=
  (own_foot gcell_len (h.mono hb)).mono (fun b q => .inr q)
attribute [local go_sem ↓ high] slice_frontP9 slice_backP9
def JoQ (S : Nat → Prop) (base : Nat) (V : World) (g : List Gly) (e : Ending) (V' : World) : Prop := ∃ x, e = .returned x ∧ JR S base V' x g ∧ Below V.heap.size V V'
set_option maxRecDepth 100000 in
set_option maxHeartbeats 4000000 in
theorem joined_any (S : Nat → Prop) (base : Nat) : ∀ (n : Nat) (l : List (List Gly)) (v : Value) (W : World), l.length = n → JoIn S W v l → (∀ b, S b → b < W.heap.size) → base ≤ W.heap.size → lens l + l.length ≤ 90000 →
    Calls Tryd.prog 59 #[v] W (JoQ S base W (jns l)) := by
  intro n
  induction n using Nat.strongRecOn with
  | _ n ih =>
  intro l v W hn hv hS hbase hl
  obtain ⟨a, c, rfl⟩ := hv.len
  rcases l with _ | ⟨x, _ | ⟨y, r⟩⟩
  · clear ih hv hl hn
    simp only [List.length_nil]
    go_enter Tryd.func59, Tryd.ntmps59
    go_wp2_with fail
    go_ret
    exact ⟨_, rfl, FsS.nil _ _ _ _, Below.refl _ _⟩
  · obtain ⟨L, h1, h2, h3⟩ := hv
    obtain ⟨s, hs⟩ : ∃ s, L[0]? = some s := ⟨L[0]'(by simp at h1; omega), List.getElem?_eq_getElem _⟩
    obtain ⟨a', cap', hv', -, hr⟩ := h2
    injection hv' with e1 e2 e3
    subst e1
    obtain ⟨g, off, rfl, hc⟩ := hr 0 s hs
    have c0 : W.cell? ⟨g, off, none⟩ = some (pv s) := by
      have := hc 0 _ rfl
      simpa using this
    have hj := h3 0 s x hs rfl
    obtain ⟨s1, s2, s3⟩ := s
    simp only [pv] at c0 hj
    have hjn : jns [x] = x := jn_nil' x
    rw [hjn]
    have HJ := Lib.hid hj
    clear ih h1 h3 hs hr hc hl hn hj hjn
    simp only [List.length_cons, List.length_nil]
    go_enter Tryd.func59, Tryd.ntmps59
    go_wp2_with fail
    go_ret
    exact ⟨_, rfl, FsS.mono HJ.out (fun b q => .inl q), Below.refl _ _⟩
  · obtain ⟨l, hle⟩ : ∃ l, x :: y :: r = l := ⟨_, rfl⟩
    have hl2 : 2 ≤ l.length := by rw [← hle]; simp
    rw [hle] at hn hl hv ⊢
    obtain ⟨q, hq⟩ : ∃ q, l.length / 2 = q := ⟨_, rfl⟩
    obtain ⟨uf, hrf, hf⟩ := hv.front q (by omega)
    obtain ⟨ub, hrb, hb⟩ := hv.back q (by omega)
    have hspl : l.take q ++ l.drop q = l := List.take_append_drop q l
    have hls := lens_app (l.take q) (l.drop q)
    rw [hspl] at hls
    have hjs : jns l = jn (jns (l.take q)) (jns (l.drop q)) := by rw [← jns_app, hspl]
    have hlf : (l.take q).length = q := by rw [List.length_take]; omega
    have hlb : (l.drop q).length = l.length - q := by rw [List.length_drop]
    have n1 := jns_len (l.take q)
    have n2 := jns_len (l.drop q)
    have IF : Hid (∀ V, Below W.heap.size W V → Calls Tryd.prog 59 #[uf] V (JoQ S base V (jns (l.take q)))) := Lib.hid fun V hV => ih q (by omega) _ _ V hlf (hf.keep hS hV) (fun b h => Nat.lt_of_lt_of_le (hS b h) hV.size) (Nat.le_trans hbase hV.size) (by omega)
    have IB : Hid (∀ V, Below W.heap.size W V → Calls Tryd.prog 59 #[ub] V (JoQ S base V (jns (l.drop q)))) := Lib.hid fun V hV => ih (l.length - q) (by omega) _ _ V hlb (hb.keep hS hV) (fun b h => Nat.lt_of_lt_of_le (hS b h) hV.size) (Nat.le_trans hbase hV.size) (by omega)
    rw [hjs]
    obtain ⟨gf, hgf⟩ : ∃ gf, jns (l.take q) = gf := ⟨_, rfl⟩
    obtain ⟨gb, hgb⟩ : ∃ gb, jns (l.drop q) = gb := ⟨_, rfl⟩
    rw [hgf] at IF n1 ⊢
    rw [hgb] at IB n2 ⊢
    have HJ : Hid (∀ V x y, JR S base V x gf → JR S base V y gb → Calls Tryd.prog 71 #[x, y] V fun e w' => ∃ z, e = .returned z ∧ GOwn V.heap.size w' z (jn gf gb) ∧ Below V.heap.size V w') := Lib.hid fun V x y hx hy => sjoin_any gf gb x y V hx.1 hy.1 (by omega)
    have HS := Lib.hid hS
    have H0 := Lib.hid (Below.refl W.heap.size W).drew
    have hd : ((l.length : Int)).tdiv 2 = (q : Int) := by rw [← hq]; rfl
    have hnq : (l.length : Int) ≠ 0 := by omega
    obtain ⟨m, hm⟩ : ∃ m, (l.length : Int) = m := ⟨_, rfl⟩
    have k0 : (m == 0) = false := by simp; omega
    have k1 : (m == 1) = false := by simp; omega
    have hw1 : IntKind.i64.wrap (q : Int) = (q : Int) := wrap_any9 (by omega) (by omega)
    rw [hm] at hd
    have HQ := Lib.hid hrf
    have hsl : ∀ cap, Value.slice a l.length cap = .slice a l.length cap := fun _ => rfl
    clear ih hv hf hb hspl hls hjs hlf hlb n1 n2 hgf hgb hle hl hn hS hnq hl2 HQ hsl hq
    go_enter Tryd.func59, Tryd.ntmps59
    go_wp2_with fail
    first | (go_region_with (first
      | (go_at_call 59; (with_reducible refine (IF.out _ H0.out).mono ?_); rintro e w1 ⟨xf, rfl, f1, b1⟩; have F1 := Lib.hid f1; have B1 := Lib.hid b1; have HX1 := Lib.hid (H0.out.trans (b1.mono H0.out.size)); clear f1 b1)
      | (go_at_call 59; (with_reducible refine (IB.out _ H0.out).mono ?_); rintro e w1 ⟨xb, rfl, f1, b1⟩; have F1 := Lib.hid f1; have B1 := Lib.hid b1; have HX1 := Lib.hid (H0.out.trans (b1.mono H0.out.size)); clear f1 b1)
      | (go_at_call 59; (with_reducible refine (IF.out _ HX1.out).mono ?_); rintro e w2 ⟨xf, rfl, f2, b2⟩; have F2 := Lib.hid f2; have B2 := Lib.hid b2; clear f2 b2; have FF := Lib.hid F2.out; have FB := Lib.hid (F1.out.keep (fun b h => Nat.lt_of_lt_of_le (HS.out b h) HX1.out.size) B2.out); have HX2 := Lib.hid (HX1.out.trans (B2.out.mono HX1.out.size)))
      | (go_at_call 59; (with_reducible refine (IB.out _ HX1.out).mono ?_); rintro e w2 ⟨xb, rfl, f2, b2⟩; have F2 := Lib.hid f2; have B2 := Lib.hid b2; clear f2 b2; have FB := Lib.hid F2.out; have FF := Lib.hid (F1.out.keep (fun b h => Nat.lt_of_lt_of_le (HS.out b h) HX1.out.size) B2.out); have HX2 := Lib.hid (HX1.out.trans (B2.out.mono HX1.out.size)))
      | (go_at_call 71; (with_reducible refine (HJ.out _ _ _ FF.out FB.out).mono ?_); rintro e w3 ⟨xz, rfl, f3, b3⟩; have F3 := Lib.hid f3; have HX3 := Lib.hid (HX2.out.trans (b3.mono HX2.out.size)); clear f3 b3))) | skip
    all_goals
      have hz := HX2.out.size
      have hw2 : base ≤ w2.heap.size := Nat.le_trans hbase hz
      go_wp2_with fail
      go_ret
      exact ⟨_, rfl, JR.own F3.out hw2, HX3.out⟩
end Go.Proofs.YtaeplneiicobgaaDoor
namespace Go.Proofs.YtaeplneiicobgaaDoor
open Go.RowKit
theorem lnT_step {L : List Txt} {j : Nat} {x : Txt} (hx : L[j]? = some x) : lnT (L.take (j + 1)) = lnT (L.take j) + (x.length + 1) := by
  rw [take_one9 hx, lnT_app]
  simp [lnT]
set_option maxHeartbeats 4000000 in
theorem tlong_any (L : List Txt) (v : Value) (w : World) (hv : Ss w v L) (hb : lnT L ≤ 900000000) :
    Calls Tryd.prog 14 #[v] w fun e w' => e = .returned (.bool (decide (1000 < lnT L))) ∧ w = w' := by
  have hsz := fun b : Txt => arr_size b
  obtain ⟨va, vc, rfl⟩ := hv.len
  have HS := Lib.hid hv
  have hln := lnT_num L
  have HT := Lib.hid (fun j => lnT_take L j)
  obtain ⟨N, hN⟩ : ∃ N, L.length = N := ⟨_, rfl⟩
  rw [hN] at HS hln
  rw [hN]
  have HN := Lib.hid hN
  clear hv hN
  go_enter Tryd.func14, Tryd.ntmps14
  go_wp2_with fail
  go_loopw [3, 4] (fun n i wr => ∃ j : Nat, i = .int .i64 (j : Int) ∧ n = .int .i64 ((lnT (L.take j) : Nat) : Int) ∧ j ≤ N ∧ wr = w) (fun _ i _ => N - (intOf i).toNat)
  case atStart => exact ⟨0, rfl, rfl, by omega, rfl⟩
  case round =>
    obtain ⟨j, rfl, rfl, hj, rfl⟩ := hrel
    by_cases hlt : j < N
    · obtain ⟨x, hx⟩ : ∃ x, L[j]? = some x := ⟨L[j]'(by rw [HN.out]; exact hlt), List.getElem?_eq_getElem _⟩
      obtain ⟨g, off, rfl, c0⟩ := Ss.at HS.out hx
      have hi0 : (0 : Int) ≤ (j : Int) := by omega
      have hi1 : (j : Int) < (N : Int) := by omega
      have hst := lnT_step hx
      have h1 := HT.out j
      have h2 := HT.out (j + 1)
      obtain ⟨q, hq⟩ : ∃ q, lnT (L.take j) = q := ⟨_, rfl⟩
      rw [hq] at hst h1
      rw [hq]
      have hxs := arr_size x
      have w1 : IntKind.i64.wrap ((q : Int) + 1) = (q : Int) + 1 := wrap_any9 (by omega) (by omega)
      have w2 : IntKind.i64.wrap ((q : Int) + 1 + (x.length : Int)) = (q : Int) + 1 + (x.length : Int) := wrap_any9 (by omega) (by omega)
      have HST := Lib.hid hst
      clear hst hx hq
      go_wp2_with fail
      go_roundw
      case rel => exact ⟨j + 1, by go_num, by rw [HST.out]; congr 1; omega, by omega, by first | trivial | rfl⟩
      case measure => simp [intOf]; omega
    · obtain rfl : j = N := by omega
      have ht : L.take j = L := by rw [← HN.out, List.take_length]
      rw [ht]
      clear ht
      by_cases hgt : 1000 < lnT L
      · have hgt' : (1000 : Int) < (lnT L : Int) := by omega
        have HG := Lib.hid (decide_eq_true hgt)
        go_wp2_with fail
        go_ret
        first | exact ⟨ret_bool HG.out.symm, rfl⟩ | exact ⟨rfl, rfl⟩
      · have hgt' : ¬ (1000 : Int) < (lnT L : Int) := by omega
        have HG := Lib.hid (decide_eq_false hgt)
        go_wp2_with fail
        go_ret
        first | exact ⟨ret_bool HG.out.symm, rfl⟩ | exact ⟨rfl, rfl⟩
end Go.Proofs.YtaeplneiicobgaaDoor
namespace Go.Proofs.YtaeplneiicobgaaDoor
open Go.RowKit
theorem DgS.at9 {w : World} {a : Option Addr} {k cap : Nat} {l : List Dgn} (h : DgS w (.slice a k cap) l) {j : Nat} {x : Dgn} (hj : l[j]? = some x) :
    ∃ b off, a = some ⟨b, off, none⟩ ∧ w.cell? ⟨b, off + j * 3 + 1, none⟩ = some (.int .i64 x.2.1) ∧ w.cell? ⟨b, off + j * 3 + 2, none⟩ = some (.int .i64 x.2.2) := by
  obtain ⟨a', cap', hv, _, hr⟩ := h
  injection hv with h1 h2 h3
  subst h1
  obtain ⟨b, off, rfl, h0⟩ := hr j x hj
  exact ⟨b, off, rfl, h0 1 _ rfl, h0 2 _ rfl⟩
set_option maxRecDepth 100000 in
set_option maxHeartbeats 8000000 in
theorem tblsafe_any (I : ImplT) (hK : KnT) (line : Int) (L : List Txt) (v : Value) (w : World) (hU : U8 w) (hv : Ss w v L) (hb : lnT L ≤ 2000000) (h0 : 0 ≤ line) (h1 : line ≤ 65535) :
    Calls Tryd.prog 4 #[.int .u16 line, v] w fun e w' => e = .returned (.bool true) ∧ Below w.heap.size w w' := by
  have HK : Hid (∀ W, Below w.heap.size w W → Calls Tryd.prog 6 #[] W fun e w' => e = .returned (.bool true) ∧ Below w.heap.size w w') :=
    Lib.hid (fun W hb => (hK W (hU.below hb)).mono fun e w' ⟨e1, e2⟩ => ⟨e1, hb.trans (e2.mono hb.size)⟩)
  have HL := Lib.hid (tlong_any L v w hv (by omega))
  obtain ⟨va, vc, rfl⟩ := hv.len
  have hln := lnT_num L
  obtain ⟨N, hN⟩ : ∃ N, L.length = N := ⟨_, rfl⟩
  by_cases hg : 1000 < lnT L
  · rw [decide_eq_true hg] at HL
    rw [hN] at HL
    rw [hN]
    clear hg
    go_enter Tryd.func4, Tryd.ntmps4
    go_wp2_with fail
    refine HL.out.mono ?_
    rintro e w1 ⟨rfl, rfl⟩
    go_wp2_with fail
    refine (HK.out _ (Below.refl _ _)).mono ?_
    rintro e w9 ⟨rfl, b9⟩
    go_wp2_with fail
    go_ret
    exact ⟨rfl, b9⟩
  · rw [decide_eq_false hg] at HL
    have HP := Lib.hid (I.parse line L _ w h0 (by omega) hU hv (by omega) (fun s hs => by have := lnT_mem hs; omega))
    obtain ⟨k1, k2⟩ := parse_safe lgF_col line L
    have k3 := parse_right line L
    have k4 := parse_size (lg := lgF) (fun s => (lgF_len s).1) line L
    have k5 := parse_told (lg := lgF) (fun s => (lgF_len s).2) line L
    obtain ⟨⟨t, D⟩, hP⟩ : ∃ p, parseP lgF line L = p := ⟨_, rfl⟩
    rw [hP] at HP k1 k2 k3 k4 k5
    simp only at HP k1 k2 k3 k4 k5
    have hw1 : IntKind.i64.wrap line = line := wrap_any9 (by omega) (by omega)
    rw [hN] at HL HP k1 k2 hln
    rw [hN]
    have K1 := Lib.hid k1
    have K3 := Lib.hid k3
    have hsz : trls t.rows ≤ 90000 := by omega
    have hNb : N ≤ 1000 := by omega
    have hDl : D.length ≤ 5000 := by omega
    have hrl : (t.rows.length : Int) ≤ (N : Int) := by omega
    obtain ⟨t1, t2, t3, t4⟩ := t
    simp only at hsz hrl K3
    clear hg hP k1 k3 k4 k5 hln hv k2
    go_enter Tryd.func4, Tryd.ntmps4
    go_wp2_with fail
    refine HL.out.mono ?_
    rintro e w1 ⟨rfl, rfl⟩
    go_wp2_with fail
    refine HP.out.mono ?_
    rintro e w2 ⟨⟨r1, r2, r3⟩, vd, rfl, hT, hD, b2⟩
    obtain ⟨da, dc, rfl⟩ := hD.len
    obtain ⟨ra, rc, hr⟩ := hT.len
    simp only [pv] at hr
    injection hr with e1 e2 e3
    subst e1
    subst e2
    subst e3
    obtain ⟨W, hW⟩ : ∃ W, W = w2.alloc (.cells #[.string ⟨t1.toArray⟩, .slice r1 t2.length r3, .bool t3, .bool t4] 36) := ⟨_, rfl⟩
    have bW : Below w2.heap.size w2 W := by rw [hW]; exact below_lit _ _
    have kB : Blk W w2.heap.size 36 [.string ⟨t1.toArray⟩, .slice r1 t2.length r3, .bool t3, .bool t4] := by rw [hW]; exact heap_alloc_new w2 _
    have hD' := hD.below bW
    have hT' := (hT.keep (Kp.below bW (fun b q => q.2))).mono (fun b (q : _ ∧ _) => Nat.lt_of_lt_of_le q.2 bW.size)
    have HD := Lib.hid hD'
    have HR := Lib.hid (rright_any _ ⟨t1, t2, t3, t4⟩ (r1, t2.length, r3) W hT' (by
      have := K3.out
      unfold rightT at this
      simp only [Bool.and_eq_true, decide_eq_true_eq] at this
      have := this.1.1.1.2
      show t1.length ≤ 1000000000
      omega) hsz (fun x q => q))
    rw [K3.out] at HR
    have BW := Lib.hid (b2.trans (bW.mono b2.size))
    have y0 := kB.cell 0
    have y1 := kB.cell 1
    have y2 := kB.cell 2
    have y3 := kB.cell 3
    have HKB := Lib.hid kB
    have HW := Lib.hid hW
    obtain ⟨M, hM⟩ : ∃ M, D.length = M := ⟨_, rfl⟩
    rw [hM] at HD hDl
    rw [hM]
    have HM := Lib.hid hM
    clear hD hT hD' hT' b2 bW kB hW hM
    simp only [tabV, pv] at HR ⊢
    go_wp2_with fail
    rw [← HW.out]
    go_loopw [7] (fun i wr => ∃ j : Nat, i = .int .i64 (j : Int) ∧ j ≤ M ∧ wr = W) (fun i _ => M - (intOf i).toNat)
    case atStart => exact ⟨0, rfl, by omega, rfl⟩
    case round =>
      obtain ⟨j, rfl, hj, rfl⟩ := hrel
      by_cases hlt : j < M
      · obtain ⟨x, hx⟩ : ∃ x, D[j]? = some x := ⟨D[j]'(by rw [HM.out]; exact hlt), List.getElem?_eq_getElem _⟩
        obtain ⟨g, off, rfl, c1, c2⟩ := DgS.at9 HD.out hx
        have hi0 : (0 : Int) ≤ (j : Int) := by omega
        have hi1 : (j : Int) < (M : Int) := by omega
        obtain ⟨q1, q2, q3⟩ := K1.out x (List.mem_of_getElem? hx)
        obtain ⟨x1, x2, x3⟩ := x
        simp only at c1 c2 q1 q2 q3
        have hn1 : ¬ x2 < line := by omega
        have hmx : IntKind.i64.wrap (line + (max N 1 : Nat)) = line + (max N 1 : Nat) := wrap_any9 (by omega) (by omega)
        have hn3 : ¬ x3 < 0 := by omega
        clear hx
        go_wp2_with fail
        go_roundw
        case rel => exact ⟨j + 1, by go_num, by omega, by first | trivial | rfl⟩
        case measure => simp [intOf]; omega
      · obtain rfl : j = M := by omega
        go_wp2_with fail
        refine HR.out.mono ?_
        rintro e w5 ⟨rfl, b5⟩
        have z1 := (HKB.out.below b5).cell 1
        go_wp2_with fail
        refine (HK.out _ (BW.out.trans (b5.mono BW.out.size))).mono ?_
        rintro e w9 ⟨rfl, b9⟩
        go_wp2_with fail
        go_ret
        exact ⟨rfl, b9⟩
end Go.Proofs.YtaeplneiicobgaaDoor
