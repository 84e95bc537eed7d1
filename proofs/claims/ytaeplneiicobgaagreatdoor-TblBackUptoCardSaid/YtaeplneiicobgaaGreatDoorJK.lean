/- Rows of texts that came in, with the sum of their lengths. How much is read of a table's lines: plain maths. What is printed of a table of letters: it is not great, and a mended table of letters is one: plain maths. The chapter's example, and what the laws of tables say: plain maths. What the laws of tables ask of the package. The walk of TblCuts. How much is told of a table's lines: plain maths. All of some rows of glyphs, joined: halves first. Whether a table has letters alone: the laws' bare. The walk of TblBack. -/
import Derived.Test.YtaeplneiicobgaaGreatDoorRD
import Derived.Test.YtaeplneiicobgaaGreatDoorBd
import Derived.Test.YtaeplneiicobgaaGreatDoorV7
import Derived.Test.YtaeplneiicobgaaGreatDoorEc
import Derived.Test.YtaeplneiicobgaaGreatDoorQ2
import Derived.Test.YtaeplneiicobgaaGreatDoorC0
import Derived.Test.YtaeplneiicobgaaGreatDoorDj
import Derived.Deep.RegionWith
import Derived.Deep.RegionHeld3
set_option linter.unusedVariables false
set_option linter.unusedSimpArgs false
namespace Go.Proofs.YtaeplneiicobgaaGreatDoor
open Go.ChangeShapes Go.WideShapes Go.ChangeAt Go.RowKit
/-- How much there is of texts. -/
def lnT (l : List (List UInt8)) : Nat := (l.map (fun b => b.length + 1)).sum
theorem lnT_cons (b : List UInt8) (l : List (List UInt8)) : lnT (b :: l) = b.length + 1 + lnT l := by simp [lnT]
theorem lnT_app (l m : List (List UInt8)) : lnT (l ++ m) = lnT l + lnT m := by simp [lnT]
theorem lnT_num : ∀ l : List (List UInt8), l.length ≤ lnT l
  | [] => Nat.zero_le _
  | b :: l => by have := lnT_num l; rw [lnT_cons, List.length_cons]; omega
theorem lnT_mem {l : List (List UInt8)} {b : List UInt8} (h : b ∈ l) : b.length + 1 ≤ lnT l := by
  induction l with
  | nil => simp at h
  | cons x l ih =>
    rw [lnT_cons]
    rcases List.mem_cons.1 h with rfl | h
    · omega
    · have := ih h; omega
section
variable {H : Type} {enc : TypeId × Value → H} {w : World} {held : Bool}
end
end Go.Proofs.YtaeplneiicobgaaGreatDoor
namespace Go.Proofs.YtaeplneiicobgaaGreatDoor
open Go.RowKit
theorem jn_le9 (a b : List Gly) : (jn a b).length ≤ a.length + b.length + 1 := by
  unfold jn
  split
  · omega
  · split
    · omega
    · simp only [List.length_append, List.length_singleton]; omega
theorem cut_lnT (c : UInt8) : ∀ s : Txt, lnT (cutB c s) = s.length + 1
  | [] => rfl
  | x :: r => by
    have ih := cut_lnT c r
    unfold cutB
    split
    · rw [lnT_cons, ih]
      simp only [List.length_nil, List.length_cons]
      omega
    · cases e : cutB c r with
      | nil => exact absurd e (cutB_ne c r)
      | cons a b =>
        rw [e, lnT_cons] at ih
        simp only [lnT_cons, List.length_cons]
        omega
theorem lnT_tail (l : List Txt) : lnT l.tail ≤ lnT l := by
  cases l with
  | nil => exact Nat.le_refl _
  | cons b l => rw [lnT_cons]; show lnT l ≤ _; omega
theorem lens_app (a b : List (List Gly)) : lens (a ++ b) = lens a + lens b := by simp [lens]
theorem lens_one (g : List Gly) : lens [g] = g.length := by simp [lens]
section
variable {lg : Lgf} (hg : ∀ s, (lg s).1.length ≤ s.length)
include hg
theorem takeT_size : ∀ (l : List Txt) (ln : Int) (acc : List Gly) (d : List Dgn), (takeT lg l ln acc d).1.length + lnT (takeT lg l ln acc d).2.2.2 ≤ acc.length + lnT l
  | [], ln, acc, d => by simp [takeT]
  | s :: r, ln, acc, d => by
    unfold takeT
    split
    · exact Nat.le_refl _
    · have ih := takeT_size r (ln + 1) (jn acc (lg s).1) (d ++ dgsB ln (lg s).2)
      have h1 := jn_le9 acc (lg s).1
      have h2 := hg s
      rw [lnT_cons]
      omega
omit hg in
def cSz (ps rest : List Txt) (cs : List (List Gly)) (q : CRes) : Prop := q.1.length + lens q.1 + lnT q.2.2.2 ≤ cs.length + lens cs + lnT ps + lnT rest
theorem cellsI_size {K : List Txt → List Txt → Int → List (List Gly) → List Dgn → CRes} (hK : ∀ ps rest ln cs d, cSz ps rest cs (K ps rest ln cs d)) : ∀ (ps rest : List Txt) (ln : Int) (cs : List (List Gly)) (d : List Dgn), cSz ps rest cs (cellsI lg K ps rest ln cs d)
  | [], rest, ln, cs, d => by unfold cSz cellsI; simp [lnT]
  | p :: ps, rest, ln, cs, d => by
    unfold cellsI
    split
    · have ht := takeT_size hg rest (ln + 1) [] d
      generalize takeT lg rest (ln + 1) [] d = q at ht
      obtain ⟨g, d2, ln2, r2⟩ := q
      cases r2 with
      | nil =>
        simp only [List.length_nil] at ht
        unfold cSz
        simp only [List.length_append, List.length_singleton, lens_app, lens_one, lnT_cons]
        omega
      | cons s r =>
        have h1 := hK (cutB 9 s).tail r ln2 (cs ++ [g]) d2
        have h2 := lnT_tail (cutB 9 s)
        rw [cut_lnT] at h2
        unfold cSz at h1 ⊢
        simp only [List.length_append, List.length_singleton, lens_app, lens_one, lnT_cons, List.length_nil] at h1 ht ⊢
        omega
    · have h1 := cellsI_size hK ps rest ln (cs ++ [(lg p).1]) (d ++ dgsB ln (lg p).2)
      have h2 := hg p
      unfold cSz at h1 ⊢
      simp only [List.length_append, List.length_singleton, lens_app, lens_one, lnT_cons] at h1 ⊢
      omega
theorem cellsP_size : ∀ (n : Nat) (ps rest : List Txt) (ln : Int) (cs : List (List Gly)) (d : List Dgn), cSz ps rest cs (cellsP lg n ps rest ln cs d)
  | 0, ps, rest, ln, cs, d => cellsI_size hg (fun ps rest ln cs d => by unfold cSz; simp only; omega) ps rest ln cs d
  | n + 1, ps, rest, ln, cs, d => cellsI_size hg (cellsP_size n) ps rest ln cs d
theorem rowP_size (nc : Nat) (s : Txt) (rest : List Txt) (ln : Int) : trl (rowP lg nc s rest ln).1 + lnT (rowP lg nc s rest ln).2.2.2 ≤ 1 + lnT (s :: rest) := by
  unfold rowP
  split
  · rw [lnT_cons]
    unfold trl
    simp [lens]
  · have h := cellsP_size hg (rest.length + 1) (cutB 9 s) rest ln [] []
    unfold cSz at h
    rw [cut_lnT] at h
    simp only [List.length_nil, lens, List.map_nil, List.sum_nil] at h
    rw [lnT_cons]
    unfold trl lens
    simp only
    omega
theorem rowsP_size (nc : Nat) : ∀ (n : Nat) (l : List Txt) (ln : Int) (rs : List Trow) (d : List Dgn), trls (rowsP lg nc n l ln rs d).1 ≤ trls rs + n + lnT l
  | 0, l, ln, rs, d => by simp [rowsP]
  | n + 1, [], ln, rs, d => by simp [rowsP]; omega
  | n + 1, s :: r, ln, rs, d => by
    have h1 := rowP_size hg nc s r ln
    unfold rowsP
    simp only
    have ih := rowsP_size nc n (rowP lg nc s r ln).2.2.2 ((rowP lg nc s r ln).2.2.1 + 1) (rs ++ [(rowP lg nc s r ln).1]) (d ++ (rowP lg nc s r ln).2.1)
    have h4 : trls (rs ++ [(rowP lg nc s r ln).1]) = trls rs + trl (rowP lg nc s r ln).1 := by simp [trls]
    omega
omit hg in
omit hg in
omit hg in
theorem lens_mcells9 : ∀ (n : Nat) (l : List (List Gly)), lens (mcells n l) ≤ lens l
  | 0, l => by simp [mcells, lens]
  | n + 1, [] => by have := lens_mcells9 n []; simp [mcells, lens] at this ⊢; exact this
  | n + 1, c :: l => by
    have := lens_mcells9 n l
    have := sqz_len c
    simp only [mcells, lens, List.map_cons, List.sum_cons] at *
    omega
omit hg in
theorem trls_mrows9 (n : Nat) : ∀ l : List Trow, trls (l.map (mrowT n)) ≤ n * l.length + trls l
  | [] => by simp [trls]
  | r :: l => by
    have h1 := trls_mrows9 n l
    have h2 : trl (mrowT n r) ≤ n + trl r := by
      obtain ⟨b, l⟩ := r
      have := lens_mcells9 n l
      have := mcells_len n l
      unfold trl mrowT
      cases b
      · simp only [Bool.false_eq_true, if_false]
        omega
      · simp [lens]
        omega
    simp only [trls, List.map_cons, List.sum_cons, List.length_cons, Nat.mul_add, Nat.mul_one] at *
    omega
end
end Go.Proofs.YtaeplneiicobgaaGreatDoor
namespace Go.Proofs.YtaeplneiicobgaaGreatDoor
open Go.RowKit
theorem trm_mem : ∀ (l : List Gly), ∀ g ∈ trm l, g ∈ l
  | [], g, h => h
  | x :: l, g, h => by
    rw [trm_cons] at h
    split at h
    · simp at h
    · rcases List.mem_cons.1 h with rfl | h
      · simp
      · exact List.mem_cons_of_mem _ (trm_mem l g h)
theorem sqA_mem : ∀ (b : Bool) (l : List Gly), ∀ g ∈ sqA b l, g ∈ l ∨ g = (32, 0)
  | b, [], g, h => by simp [sqA] at h
  | b, x :: l, g, h => by
    unfold sqA at h
    split at h
    · split at h
      · rcases List.mem_cons.1 h with rfl | h
        · exact .inr rfl
        · exact (sqA_mem false l g h).imp (List.mem_cons_of_mem _) id
      · exact (sqA_mem false l g h).imp (List.mem_cons_of_mem _) id
    · rcases List.mem_cons.1 h with rfl | h
      · exact .inl (by simp)
      · exact (sqA_mem true l g h).imp (List.mem_cons_of_mem _) id
theorem sqz_bare {c : List Gly} (h : c.all bareG = true) : (sqz c).all bareG = true := by
  rw [List.all_eq_true] at h ⊢
  intro g hg
  rcases sqA_mem false (trm c) g hg with h1 | rfl
  · exact h g (trm_mem c g h1)
  · rfl
theorem mcells_bare : ∀ (n : Nat) (l : List (List Gly)), (l.all fun c => c.all bareG) = true → ((mcells n l).all fun c => c.all bareG) = true
  | 0, l, _ => rfl
  | n + 1, [], h => by
    have := mcells_bare n [] h
    simp only [mcells, List.all_cons, List.all_nil, Bool.true_and]
    exact this
  | n + 1, c :: l, h => by
    simp only [List.all_cons, Bool.and_eq_true] at h
    simp only [mcells, List.all_cons, Bool.and_eq_true]
    exact ⟨sqz_bare h.1, mcells_bare n l h.2⟩
theorem mend_bare {t : Tab} (h : bareT t = true) : bareT (mend t) = true := by
  unfold bareT at h ⊢
  rw [List.all_eq_true] at h ⊢
  intro r hr
  obtain ⟨q, hq, rfl⟩ := List.mem_map.1 (show r ∈ t.rows.map (mrowT (mcols t.cols).length) from hr)
  have := h q hq
  unfold mrowT
  obtain ⟨b, l⟩ := q
  cases b
  · exact mcells_bare _ l this
  · rfl
theorem pcellT_len (a : Bool) (c : List Gly) : (pcellT a c).length ≤ c.length + 2 := by
  unfold pcellT
  have h : (cellT c).length = c.length := by unfold cellT; rw [List.length_map]
  split
  · simp only [List.length_cons]; omega
  · omega
theorem joinB_len (c : UInt8) : ∀ l : List Txt, (joinB c l).length ≤ lnT l
  | [] => by simp [joinB]
  | [a] => by simp [joinB, lnT]
  | a :: b :: l => by
    have ih := joinB_len c (b :: l)
    rw [lnT_cons]
    simp only [joinB, List.length_append, List.length_cons]
    omega
theorem lnT_pcells (a : Bool) : ∀ l : List (List Gly), lnT (l.map (pcellT a)) ≤ 3 * l.length + lens l
  | [] => by simp [lnT]
  | c :: l => by
    have ih := lnT_pcells a l
    have h := pcellT_len a c
    rw [List.map_cons, lnT_cons]
    simp only [List.length_cons, lens, List.map_cons, List.sum_cons] at ih ⊢
    omega
theorem prowT_len (r : Trow) : (prowT r).length + 1 ≤ 3 * trl r := by
  unfold prowT trl
  split
  · simp only [List.length_singleton]; omega
  · have h1 := joinB_len 9 (r.2.map (pcellT (decide (r.2.length = 1))))
    have h2 := lnT_pcells (decide (r.2.length = 1)) r.2
    omega
theorem lnT_rows : ∀ l : List Trow, lnT (l.map prowT) ≤ 3 * trls l
  | [] => by simp [lnT]
  | r :: l => by
    have ih := lnT_rows l
    have h := prowT_len r
    rw [List.map_cons, lnT_cons]
    simp only [trls, List.map_cons, List.sum_cons] at ih ⊢
    omega
theorem lnT_ones : ∀ l : Txt, lnT (l.map fun x => [x]) = 2 * l.length
  | [] => rfl
  | x :: l => by rw [List.map_cons, lnT_cons, lnT_ones l]; simp only [List.length_cons, List.length_nil]; omega
theorem print_size (m : Tab) : lnT (printM m) ≤ 10 + 2 * m.cols.length + 3 * trls m.rows := by
  have h1 := lnT_rows m.rows
  have h2 := joinB_len 32 (m.cols.map fun x => [x])
  rw [lnT_ones] at h2
  have h3 : lnT (if m.all then [allW ++ [59]] else if m.box then [boxW ++ [59]] else []) ≤ 8 := by
    split
    · decide
    · split <;> decide
  unfold printM
  rw [lnT_app, lnT_cons]
  unfold pcolsT
  simp only [List.length_append, List.length_singleton]
  omega
end Go.Proofs.YtaeplneiicobgaaGreatDoor
namespace Go.Proofs.YtaeplneiicobgaaGreatDoor
open Go.RowKit
def knM : Tab := ⟨[108, 114], [(false, [[(97, 0)], [(98, 0)]])], false, false⟩
theorem known_parse : parseP lgF 1 [[108, 32, 114, 46], [97, 9, 98]] = (knM, []) := by
  have h := print_back lgF_ok 1 (m := knM) (by decide) (by decide)
  have e : printM knM = [[108, 32, 114, 46], [97, 9, 98]] := by decide
  rwa [e] at h
theorem back_parse {t : Tab} (h : bareT t = true) : parseP lgF 5 (printP t) = (mend t, []) := print_back lgF_ok 5 (right_mend t) (mend_bare h)
theorem print_text {m : Tab} (h1 : m.cols.length ≤ 20) {n : Nat} (h2 : ∀ r ∈ m.rows, trl r ≤ n) (h3 : 20 ≤ n) : ∀ s ∈ printM m, s.length ≤ 3 * n := by
  intro s hs
  unfold printM at hs
  rcases List.mem_append.1 hs with hs | hs
  · split at hs
    · simp at hs; rw [hs]; simp [allW]; omega
    · split at hs
      · simp at hs; rw [hs]; simp [boxW]; omega
      · simp at hs
  · rcases List.mem_cons.1 hs with rfl | hs
    · have h2 := joinB_len 32 (m.cols.map fun x => [x])
      rw [lnT_ones] at h2
      unfold pcolsT
      simp only [List.length_append, List.length_singleton]
      omega
    · obtain ⟨r, hr, rfl⟩ := List.mem_map.1 hs
      have h4 := prowT_len r
      have h5 := h2 r hr
      omega
theorem trl_mrow9 (n : Nat) (r : Trow) : trl (mrowT n r) ≤ n + trl r := by
  obtain ⟨b, l⟩ := r
  have := lens_mcells9 n l
  have := mcells_len n l
  unfold trl mrowT
  cases b
  · simp only [Bool.false_eq_true, if_false]
    omega
  · simp [lens]
    omega
theorem trl_mem {l : List Trow} {r : Trow} (h : r ∈ l) : trl r ≤ trls l := by
  induction l with
  | nil => simp at h
  | cons x l ih =>
    simp only [trls, List.map_cons, List.sum_cons] at ih ⊢
    rcases List.mem_cons.1 h with rfl | h
    · omega
    · have := ih h; omega
/-- What is printed of a table that is not great is not great. -/
theorem printP_size {t : Tab} (h : trls t.rows ≤ 600) : lnT (printP t) ≤ 40000 ∧ ∀ s ∈ printP t, s.length ≤ 2000 := by
  have h3 := (mcols_ok t.cols).2.1
  have h1 := trls_mrows9 (mcols t.cols).length t.rows
  have h2 := trls_len t.rows
  have h4 : (mcols t.cols).length * t.rows.length ≤ 20 * 600 := Nat.mul_le_mul h3 (by omega)
  have h5 : trls (mend t).rows ≤ 12600 := by
    show trls (t.rows.map (mrowT (mcols t.cols).length)) ≤ 12600
    omega
  have h6 : (mend t).cols.length ≤ 20 := h3
  constructor
  · have := print_size (mend t)
    unfold printP
    omega
  · intro s hs
    have := print_text h6 (n := 620) (fun r hr => by
      obtain ⟨q, hq, rfl⟩ := List.mem_map.1 (show r ∈ t.rows.map (mrowT (mcols t.cols).length) from hr)
      have h7 := trl_mrow9 (mcols t.cols).length q
      have h8 := trl_mem hq
      omega) (by omega) s hs
    omega
end Go.Proofs.YtaeplneiicobgaaGreatDoor
namespace Go.Proofs.YtaeplneiicobgaaGreatDoor
open Go.RowKit
abbrev DgS (w : World) (v : Value) (l : List Dgn) : Prop := Ds w v l
structure ImplT : Prop where
  cut : ∀ (b : Txt) (w : World), b.length ≤ 500 → Calls Tryz.prog 28 #[.string ⟨b.toArray⟩] w fun e w' => ∃ v, e = .returned v ∧ SOwn w.heap.size w' v (cutB 9 b) ∧ Below w.heap.size w w'
  look : ∀ (b : Txt) (w : World), U8 w → b.length ≤ 500 → Calls Tryz.prog 23 #[.string ⟨b.toArray⟩] w fun e w' => e = .returned (.tuple #[.bool (lookB b).1, .bool (lookB b).2.1, .bool (lookB b).2.2]) ∧ Below w.heap.size w w'
  cols : ∀ (b : Txt) (w : World), U8 w → b.length ≤ 500 → Calls Tryz.prog 44 #[.string ⟨b.toArray⟩] w fun e w' => e = .returned (.tuple #[.string ⟨(colsB b).1.toArray⟩, .bool (colsB b).2]) ∧ Below w.heap.size w w'
  parse : ∀ (line : Int) (L : List Txt) (v : Value) (w : World), 0 ≤ line → line ≤ 100000 → U8 w → Ss w v L → lnT L ≤ 40000 → (∀ s ∈ L, s.length ≤ 2000) →
    Calls Tryz.prog 7 #[.int .i64 line, v] w fun e w' => ∃ (r : PV) (vd : Value), e = .returned (.tuple #[tabV (parseP lgF line L).1 r, vd]) ∧ TrS (fun b => w.heap.size ≤ b ∧ b < w'.heap.size) w' (pv r) (parseP lgF line L).1.rows ∧ DgS w' vd (parseP lgF line L).2 ∧ Below w.heap.size w w'
  prnt : ∀ (t : Tab) (r : PV) (w : World) (S : Nat → Prop), (∀ b, S b → b < w.heap.size) → U8 w → TrS S w (pv r) t.rows → bareT t = true → t.cols.length ≤ 600 → trls t.rows ≤ 600 →
    Calls Tryz.prog 8 #[tabV t r] w fun e w' => ∃ v, e = .returned v ∧ SOwn w.heap.size w' v (printP t) ∧ Below w.heap.size w w'
/-- The laws' known holds. -/
def KnT : Prop := ∀ w, U8 w → Calls Tryz.prog 6 #[] w fun e w' => e = .returned (.bool true) ∧ Below w.heap.size w w'
attribute [local go_sem ↓ high] binop_addS builtin_appS binop_eqlS binop_neqS
end Go.Proofs.YtaeplneiicobgaaGreatDoor
namespace Go.Proofs.YtaeplneiicobgaaGreatDoor
open Go.RowKit
theorem dgsB_len (ln : Int) (l : List (Int × Int)) : (dgsB ln l).length = l.length := by simp [dgsB]
section
variable {lg : Lgf} (hg : ∀ s, (lg s).2.length ≤ s.length)
include hg
theorem takeT_told : ∀ (l : List Txt) (ln : Int) (acc : List Gly) (d : List Dgn), (takeT lg l ln acc d).2.1.length + lnT (takeT lg l ln acc d).2.2.2 ≤ d.length + lnT l
  | [], ln, acc, d => by simp [takeT]
  | s :: r, ln, acc, d => by
    unfold takeT
    split
    · exact Nat.le_refl _
    · have ih := takeT_told r (ln + 1) (jn acc (lg s).1) (d ++ dgsB ln (lg s).2)
      have h2 := hg s
      rw [List.length_append, dgsB_len] at ih
      rw [lnT_cons]
      omega
omit hg in
omit hg in
omit hg in
end
end Go.Proofs.YtaeplneiicobgaaGreatDoor
namespace Go.Proofs.YtaeplneiicobgaaGreatDoor
open Go.RowKit
def jns : List (List Gly) → List Gly
  | [] => []
  | a :: r => jn a (jns r)
theorem jns_app : ∀ a b : List (List Gly), jns (a ++ b) = jn (jns a) (jns b)
  | [], b => rfl
  | x :: a, b => by
    show jn x (jns (a ++ b)) = jn (jn x (jns a)) (jns b)
    rw [jns_app a b, jn_assoc]
theorem jns_snoc (a : List (List Gly)) (x : List Gly) : jns (a ++ [x]) = jn (jns a) x := by
  rw [jns_app]
  show jn (jns a) (jn x []) = _
  rw [jn_nil']
theorem jns_len : ∀ l : List (List Gly), (jns l).length ≤ lens l + l.length
  | [] => Nat.le_refl _
  | x :: l => by
    have h1 := jn_le9 x (jns l)
    have h2 := jns_len l
    have h3 := lens_app [x] l
    rw [lens_one] at h3
    show (jn x (jns l)).length ≤ lens ([x] ++ l) + (l.length + 1)
    omega
/-- Rows of glyphs in blocks of S, told by a slice. -/
def JoIn (S : Nat → Prop) (W : World) (v : Value) (l : List (List Gly)) : Prop := ∃ L : List PV, L.length = l.length ∧ Fs 1 pcell W v L ∧ ∀ (i : Nat) s r, L[i]? = some s → l[i]? = some r → FsS S 2 gcell W (pv s) r
theorem JoIn.keep {S : Nat → Prop} {W W' : World} {v : Value} {l : List (List Gly)} (h : JoIn S W v l) (hS : ∀ b, S b → b < W.heap.size) (hb : Below W.heap.size W W') : JoIn S W' v l := by
  obtain ⟨L, h1, h2, h3⟩ := h
  exact ⟨L, h1, h2.below hb, fun i s r a b => (h3 i s r a b).keep (Kp.below hb hS)⟩
theorem JoIn.len {S : Nat → Prop} {W : World} {v : Value} {l : List (List Gly)} (h : JoIn S W v l) : ∃ a cap, v = .slice a l.length cap := by
  obtain ⟨L, h1, h2, -⟩ := h
  obtain ⟨a, cap, e⟩ := h2.len
  exact ⟨a, cap, h1 ▸ e⟩
noncomputable def frontP9 (x hi : Value) : Sem Value := Instr.slice 28 x none (some hi) none
theorem slice_frontP9 (x hi : Value) : Instr.slice 28 x none (some hi) none = frontP9 x hi := rfl
noncomputable def backP9 (x lo : Value) : Sem Value := Instr.slice 28 x (some lo) none none
theorem slice_backP9 (x lo : Value) : Instr.slice 28 x (some lo) none none = backP9 x lo := rfl
theorem JoIn.front {S : Nat → Prop} {W : World} {v : Value} {l : List (List Gly)} (h : JoIn S W v l) (k : Nat) (hk : k ≤ l.length) : ∃ u, (∀ W' : World, (frontP9 v (.int .i64 (k : Int))).run Tryz.prog W' = .ok u W') ∧ JoIn S W u (l.take k) := by
  obtain ⟨i0, hi, hz0, hz1, hz2⟩ := info_parts infoSG
  obtain ⟨L, h1, h2, h3⟩ := h
  obtain ⟨u, hr, hu, -⟩ := Fs.front (P := Tryz.prog) Tryz.underlying28 hi h2 k (by omega)
  refine ⟨u, hr, L.take k, by simp [h1], hu, fun i s r a b => ?_⟩
  rw [List.getElem?_take] at a b
  split at a
  · rename_i hq
    rw [if_pos hq] at b
    exact h3 i s r a b
  · cases a
theorem JoIn.back {S : Nat → Prop} {W : World} {v : Value} {l : List (List Gly)} (h : JoIn S W v l) (k : Nat) (hk : k ≤ l.length) : ∃ u, (∀ W' : World, (backP9 v (.int .i64 (k : Int))).run Tryz.prog W' = .ok u W') ∧ JoIn S W u (l.drop k) := by
  obtain ⟨i0, hi, hz0, hz1, hz2⟩ := info_parts infoSG
  obtain ⟨L, h1, h2, h3⟩ := h
  obtain ⟨u, hr, hu⟩ := Fs.back (P := Tryz.prog) Tryz.underlying28 hi hz1 h2 k (by omega)
  refine ⟨u, hr, L.drop k, by simp [h1], hu, fun i s r a b => ?_⟩
  rw [List.getElem?_drop] at a b
  exact h3 _ s r a b
/-- In blocks of S, or in rows of glyphs that were made since. -/
def JR (S : Nat → Prop) (base : Nat) (W : World) (v : Value) (g : List Gly) : Prop := FsS (fun b => S b ∨ (base ≤ b ∧ ∃ cur fz, W.heap[b]? = some (.cells cur 43 fz))) 2 gcell W v g
theorem JR.keep {S : Nat → Prop} {base : Nat} {W W' : World} {v : Value} {g : List Gly} (h : JR S base W v g) (hS : ∀ b, S b → b < W.heap.size) (hb : Below W.heap.size W W') : JR S base W' v g := by
  refine FsS.mono (FsS.keep h (fun b q => hb.block b ?_)) (fun b q => ?_)
  · rcases q with q | ⟨-, cur, fz, q⟩
    · exact hS b q
    · exact (Array.getElem?_eq_some_iff.1 q).1
  · rcases q with q | ⟨q0, cur, fz, q⟩
    · exact .inl q
    · exact .inr ⟨q0, cur, fz, (hb.block b (Array.getElem?_eq_some_iff.1 q).1).trans q⟩
theorem JR.own {S : Nat → Prop} {base base' : Nat} {W : World} {v : Value} {g : List Gly} (h : GOwn base' W v g) (hb : base ≤ base') : JR S base W v g :=
  (own_foot gcell_len (h.mono hb)).mono (fun b q => .inr q)
attribute [local go_sem ↓ high] slice_frontP9 slice_backP9
def JoQ (S : Nat → Prop) (base : Nat) (V : World) (g : List Gly) (e : Ending) (V' : World) : Prop := ∃ x, e = .returned x ∧ JR S base V' x g ∧ Below V.heap.size V V'
set_option maxRecDepth 100000 in
set_option maxHeartbeats 4000000 in
theorem joined_any (S : Nat → Prop) (base : Nat) : ∀ (n : Nat) (l : List (List Gly)) (v : Value) (W : World), l.length = n → JoIn S W v l → (∀ b, S b → b < W.heap.size) → base ≤ W.heap.size → lens l + l.length ≤ 90000 →
    Calls Tryz.prog 46 #[v] W (JoQ S base W (jns l)) := by
  intro n
  induction n using Nat.strongRecOn with
  | _ n ih =>
  intro l v W hn hv hS hbase hl
  obtain ⟨a, c, rfl⟩ := hv.len
  rcases l with _ | ⟨x, _ | ⟨y, r⟩⟩
  · clear ih hv hl hn
    simp only [List.length_nil]
    go_enter Tryz.func46, Tryz.ntmps46
    go_wp2_with fail
    go_ret
    exact ⟨_, rfl, FsS.nil _ _ _ _, Below.refl _ _⟩
  · obtain ⟨L, h1, h2, h3⟩ := hv
    obtain ⟨s, hs⟩ : ∃ s, L[0]? = some s := ⟨L[0]'(by simp at h1; omega), List.getElem?_eq_getElem _⟩
    obtain ⟨a', cap', hv', -, hr⟩ := h2
    injection hv' with e1 e2 e3
    subst e1
    obtain ⟨g, off, rfl, hc⟩ := hr 0 s hs
    have c0 : W.cell? ⟨g, off, none⟩ = some (pv s) := by
      have := hc 0 _ rfl
      simpa using this
    have hj := h3 0 s x hs rfl
    obtain ⟨s1, s2, s3⟩ := s
    simp only [pv] at c0 hj
    have hjn : jns [x] = x := jn_nil' x
    rw [hjn]
    have HJ := Lib.hid hj
    clear ih h1 h3 hs hr hc hl hn hj hjn
    simp only [List.length_cons, List.length_nil]
    go_enter Tryz.func46, Tryz.ntmps46
    go_wp2_with fail
    go_ret
    exact ⟨_, rfl, FsS.mono HJ.out (fun b q => .inl q), Below.refl _ _⟩
  · obtain ⟨l, hle⟩ : ∃ l, x :: y :: r = l := ⟨_, rfl⟩
    have hl2 : 2 ≤ l.length := by rw [← hle]; simp
    rw [hle] at hn hl hv ⊢
    obtain ⟨q, hq⟩ : ∃ q, l.length / 2 = q := ⟨_, rfl⟩
    obtain ⟨uf, hrf, hf⟩ := hv.front q (by omega)
    obtain ⟨ub, hrb, hb⟩ := hv.back q (by omega)
    have hspl : l.take q ++ l.drop q = l := List.take_append_drop q l
    have hls := lens_app (l.take q) (l.drop q)
    rw [hspl] at hls
    have hjs : jns l = jn (jns (l.take q)) (jns (l.drop q)) := by rw [← jns_app, hspl]
    have hlf : (l.take q).length = q := by rw [List.length_take]; omega
    have hlb : (l.drop q).length = l.length - q := by rw [List.length_drop]
    have n1 := jns_len (l.take q)
    have n2 := jns_len (l.drop q)
    have IF : Hid (∀ V, Below W.heap.size W V → Calls Tryz.prog 46 #[uf] V (JoQ S base V (jns (l.take q)))) := Lib.hid fun V hV => ih q (by omega) _ _ V hlf (hf.keep hS hV) (fun b h => Nat.lt_of_lt_of_le (hS b h) hV.size) (Nat.le_trans hbase hV.size) (by omega)
    have IB : Hid (∀ V, Below W.heap.size W V → Calls Tryz.prog 46 #[ub] V (JoQ S base V (jns (l.drop q)))) := Lib.hid fun V hV => ih (l.length - q) (by omega) _ _ V hlb (hb.keep hS hV) (fun b h => Nat.lt_of_lt_of_le (hS b h) hV.size) (Nat.le_trans hbase hV.size) (by omega)
    rw [hjs]
    obtain ⟨gf, hgf⟩ : ∃ gf, jns (l.take q) = gf := ⟨_, rfl⟩
    obtain ⟨gb, hgb⟩ : ∃ gb, jns (l.drop q) = gb := ⟨_, rfl⟩
    rw [hgf] at IF n1 ⊢
    rw [hgb] at IB n2 ⊢
    have HJ : Hid (∀ V x y, JR S base V x gf → JR S base V y gb → Calls Tryz.prog 65 #[x, y] V fun e w' => ∃ z, e = .returned z ∧ GOwn V.heap.size w' z (jn gf gb) ∧ Below V.heap.size V w') := Lib.hid fun V x y hx hy => sjoin_any gf gb x y V hx.1 hy.1 (by omega)
    have HS := Lib.hid hS
    have H0 := Lib.hid (Below.refl W.heap.size W).drew
    have hd : ((l.length : Int)).tdiv 2 = (q : Int) := by rw [← hq]; rfl
    have hnq : (l.length : Int) ≠ 0 := by omega
    obtain ⟨m, hm⟩ : ∃ m, (l.length : Int) = m := ⟨_, rfl⟩
    have k0 : (m == 0) = false := by simp; omega
    have k1 : (m == 1) = false := by simp; omega
    have hw1 : IntKind.i64.wrap (q : Int) = (q : Int) := wrap_any9 (by omega) (by omega)
    rw [hm] at hd
    have HQ := Lib.hid hrf
    have hsl : ∀ cap, Value.slice a l.length cap = .slice a l.length cap := fun _ => rfl
    clear ih hv hf hb hspl hls hjs hlf hlb n1 n2 hgf hgb hle hl hn hS hnq hl2 HQ hsl hq
    go_enter Tryz.func46, Tryz.ntmps46
    go_wp2_with fail
    first | (go_region_with (first
      | (go_at_call 46; (with_reducible refine (IF.out _ H0.out).mono ?_); rintro e w1 ⟨xf, rfl, f1, b1⟩; have F1 := Lib.hid f1; have B1 := Lib.hid b1; have HX1 := Lib.hid (H0.out.trans (b1.mono H0.out.size)); clear f1 b1)
      | (go_at_call 46; (with_reducible refine (IB.out _ H0.out).mono ?_); rintro e w1 ⟨xb, rfl, f1, b1⟩; have F1 := Lib.hid f1; have B1 := Lib.hid b1; have HX1 := Lib.hid (H0.out.trans (b1.mono H0.out.size)); clear f1 b1)
      | (go_at_call 46; (with_reducible refine (IF.out _ HX1.out).mono ?_); rintro e w2 ⟨xf, rfl, f2, b2⟩; have F2 := Lib.hid f2; have B2 := Lib.hid b2; clear f2 b2; have FF := Lib.hid F2.out; have FB := Lib.hid (F1.out.keep (fun b h => Nat.lt_of_lt_of_le (HS.out b h) HX1.out.size) B2.out); have HX2 := Lib.hid (HX1.out.trans (B2.out.mono HX1.out.size)))
      | (go_at_call 46; (with_reducible refine (IB.out _ HX1.out).mono ?_); rintro e w2 ⟨xb, rfl, f2, b2⟩; have F2 := Lib.hid f2; have B2 := Lib.hid b2; clear f2 b2; have FB := Lib.hid F2.out; have FF := Lib.hid (F1.out.keep (fun b h => Nat.lt_of_lt_of_le (HS.out b h) HX1.out.size) B2.out); have HX2 := Lib.hid (HX1.out.trans (B2.out.mono HX1.out.size)))
      | (go_at_call 65; (with_reducible refine (HJ.out _ _ _ FF.out FB.out).mono ?_); rintro e w3 ⟨xz, rfl, f3, b3⟩; have F3 := Lib.hid f3; have HX3 := Lib.hid (HX2.out.trans (b3.mono HX2.out.size)); clear f3 b3))) | skip
    all_goals
      have hz := HX2.out.size
      have hw2 : base ≤ w2.heap.size := Nat.le_trans hbase hz
      go_wp2_with fail
      go_ret
      exact ⟨_, rfl, JR.own F3.out hw2, HX3.out⟩
end Go.Proofs.YtaeplneiicobgaaGreatDoor
namespace Go.Proofs.YtaeplneiicobgaaGreatDoor
open Go.RowKit
set_option maxRecDepth 100000 in
set_option maxHeartbeats 16000000 in
theorem tbare_any (S : Nat → Prop) (t : Tab) (r : PV) (w : World) (hv : TrS S w (pv r) t.rows) (hl : trls t.rows ≤ 4000000) (hS : ∀ x, S x → x < w.heap.size) :
    Calls Tryz.prog 5 #[tabV t r] w fun e w' => e = .returned (.bool (bareT t)) ∧ Below w.heap.size w w' := by
  obtain ⟨a1, z1, e1⟩ := hv.len
  obtain rfl := pv_eq e1
  have hln := trls_len t.rows
  obtain ⟨t1, t2, t3, t4⟩ := t
  simp only at hv hln hl
  obtain ⟨R, hR⟩ : ∃ R, bareT ⟨t1, t2, t3, t4⟩ = R := ⟨_, rfl⟩
  rw [hR]
  have HR : Hid (R = t2.all (fun r => r.2.all fun c => c.all bareG)) := Lib.hid hR.symm
  obtain ⟨w0, hw0⟩ : ∃ w0, w0 = w.alloc (.cells #[.string ⟨t1.toArray⟩, .slice a1 t2.length z1, .bool t3, .bool t4] 24) := ⟨_, rfl⟩
  have bl : Below w.heap.size w w0 := by rw [hw0]; exact below_lit _ _
  have hbk : Blk w0 w.heap.size 24 [.string ⟨t1.toArray⟩, .slice a1 t2.length z1, .bool t3, .bool t4] := by rw [hw0]; exact heap_alloc_new w _
  have c1 := hbk.cell 1
  have HT := Lib.hid (hv.keep (Kp.below bl hS))
  have BL := Lib.hid bl
  have HL := Lib.hid (fun (x : Trow) (h : x ∈ t2) => trl_mem h)
  have H0 := Lib.hid hw0
  obtain ⟨n1, hn1⟩ : ∃ n, t2.length = n := ⟨_, rfl⟩
  rw [hn1] at c1 HT hln
  have HN1 := Lib.hid hn1
  unfold tabV pv
  simp only
  rw [hn1] at H0 ⊢
  clear hv hS bl hbk hR e1 hw0 hn1
  go_enter Tryz.func5, Tryz.ntmps5
  go_wp2_with fail
  rw [← H0.out]
  go_loopw [3] (fun i wr => ∃ j : Nat, j ≤ n1 ∧ i = .int .i64 (j : Int) ∧ Hid ((t2.take j).all (fun r => r.2.all fun c => c.all bareG) = true) ∧ wr = w0) (fun i _ => n1 - (intOf i).toNat)
  case atStart => exact ⟨0, by omega, rfl, Lib.hid rfl, rfl⟩
  case round =>
    obtain ⟨j, hj, rfl, HA, rfl⟩ := hrel
    by_cases hlt : j < n1
    · obtain ⟨x, hx⟩ : ∃ x, t2[j]? = some x := ⟨t2[j]'(by rw [HN1.out]; exact hlt), List.getElem?_eq_getElem _⟩
      have hxl := HL.out x (List.mem_of_getElem? hx)
      obtain ⟨x1, x2⟩ := x
      obtain ⟨g1, o1, b1, y1, ka, -, d0, d1, hG⟩ := HT.out.at hx
      subst ka
      simp only at d0 d1 hG
      unfold trl at hxl
      simp only at hxl
      have hi0 : (j : Int) < (n1 : Int) := by omega
      have hi1 : (0 : Int) ≤ (j : Int) := by omega
      obtain ⟨n2, hn2⟩ : ∃ n, x2.length = n := ⟨_, rfl⟩
      rw [hn2] at d1 hG hxl
      have HN2 := Lib.hid hn2
      have HG := Lib.hid hG
      have HX := Lib.hid hx
      have HLC := Lib.hid (fun (c : List Gly) q (h : x2[q]? = some c) => lens_le h)
      clear hx hG hn2
      go_wp2_with fail
      go_loopw [4] (fun i wr2 => ∃ k : Nat, k ≤ n2 ∧ i = .int .i64 (k : Int) ∧ Hid ((x2.take k).all (fun c => c.all bareG) = true) ∧ wr2 = wr) (fun i _ => n2 - (intOf i).toNat)
      case atStart => exact ⟨0, by omega, rfl, Lib.hid rfl, by first | trivial | rfl⟩
      case round =>
        obtain ⟨k, hk, rfl, HB, hww⟩ := hrel
        subst hww
        by_cases hlk : k < n2
        · obtain ⟨c, hc⟩ : ∃ c, x2[k]? = some c := ⟨x2[k]'(by rw [HN2.out]; exact hlk), List.getElem?_eq_getElem _⟩
          have hcl := HLC.out c k hc
          obtain ⟨g2, o2, b2, y2, kb, -, m0, hGc⟩ := HG.out.at hc
          subst kb
          have hk0 : (k : Int) < (n2 : Int) := by omega
          have hk1 : (0 : Int) ≤ (k : Int) := by omega
          obtain ⟨n3, hn3⟩ : ∃ n, c.length = n := ⟨_, rfl⟩
          rw [hn3] at m0 hGc hcl
          have HN3 := Lib.hid hn3
          have HGC := Lib.hid hGc.1
          have HC := Lib.hid hc
          clear hc hGc hn3
          go_wp2_with fail
          go_loopw [6] (fun i wr3 => ∃ q : Nat, q ≤ n3 ∧ i = .int .i64 (q : Int) ∧ Hid ((c.take q).all bareG = true) ∧ wr3 = wr) (fun i _ => n3 - (intOf i).toNat)
          case atStart => exact ⟨0, by omega, rfl, Lib.hid rfl, by first | trivial | rfl⟩
          case round =>
            obtain ⟨q, hq, rfl, HQ, hww⟩ := hrel
            subst hww
            by_cases hlq : q < n3
            · obtain ⟨g, hg⟩ : ∃ g, c[q]? = some g := ⟨c[q]'(by rw [HN3.out]; exact hlq), List.getElem?_eq_getElem _⟩
              obtain ⟨g3, o3, kc, p0, p1, -⟩ := Gs.at HGC.out hg
              subst kc
              have hq0 : (q : Int) < (n3 : Int) := by omega
              have hq1 : (0 : Int) ≤ (q : Int) := by omega
              have HF : Hid (bareG g = false → R = false) := Lib.hid (fun h => by rw [HR.out, all_not HX.out (all_not HC.out (all_not hg h))])
              have HN : Hid (bareG g = true → (c.take (q + 1)).all bareG = true) := Lib.hid (fun h => all_next HQ.out hg h)
              obtain ⟨gr, gs⟩ := g
              simp only at p0 p1
              clear hg
              by_cases s0 : gs = 0
              · subst s0
                have f0 : ((0 : Int) != 0) = false := rfl
                by_cases r1 : gr = 32
                · subst r1
                  have HN' := Lib.hid (HN.out rfl)
                  clear HF HN
                  go_wp2_with fail
                  go_roundw
                  case rel => exact ⟨q + 1, by omega, by go_num, HN', by first | trivial | rfl⟩
                  case measure => (simp [intOf]; try omega)
                · have f1 : ((gr : Int) != 32) = true := by simpa using r1
                  by_cases r2 : gr = 95
                  · subst r2
                    have HN' := Lib.hid (HN.out rfl)
                    clear HF HN
                    go_wp2_with fail
                    go_roundw
                    case rel => exact ⟨q + 1, by omega, by go_num, HN', by first | trivial | rfl⟩
                    case measure => (simp [intOf]; try omega)
                  · have f2 : ((gr : Int) != 95) = true := by simpa using r2
                    by_cases r3 : gr < 97
                    · have HF' := Lib.hid (HF.out (by
                        unfold bareG
                        simp only [Bool.and_eq_false_iff, Bool.or_eq_false_iff, beq_eq_false_iff_ne, decide_eq_false_iff_not]
                        exact .inr ⟨⟨r1, r2⟩, .inl (by omega)⟩))
                      clear HF HN r1 r2
                      go_wp2_with fail
                      go_ret
                      exact ⟨ret_bool HF'.out.symm, BL.out⟩
                    · by_cases r4 : 122 < gr
                      · have HF' := Lib.hid (HF.out (by
                          unfold bareG
                          simp only [Bool.and_eq_false_iff, Bool.or_eq_false_iff, beq_eq_false_iff_ne, decide_eq_false_iff_not]
                          exact .inr ⟨⟨r1, r2⟩, .inr (by omega)⟩))
                        clear HF HN r1 r2
                        go_wp2_with fail
                        go_ret
                        exact ⟨ret_bool HF'.out.symm, BL.out⟩
                      · have HN' := Lib.hid (HN.out (by
                          unfold bareG
                          simp only [Bool.and_eq_true, Bool.or_eq_true, beq_iff_eq, decide_eq_true_eq]
                          exact ⟨by first | rfl | trivial, .inr ⟨by omega, by omega⟩⟩))
                        clear HF HN r1 r2
                        go_wp2_with fail
                        go_roundw
                        case rel => exact ⟨q + 1, by omega, by go_num, HN', by first | trivial | rfl⟩
                        case measure => (simp [intOf]; try omega)
              · have f0 : ((gs : Int) != 0) = true := by simpa using s0
                have HF' := Lib.hid (HF.out (by
                  unfold bareG
                  simp only [Bool.and_eq_false_iff, beq_eq_false_iff_ne]
                  exact .inl s0))
                clear HF HN s0
                go_wp2_with fail
                go_ret
                exact ⟨ret_bool HF'.out.symm, BL.out⟩
            · obtain rfl : q = n3 := by omega
              have HB' : Hid ((x2.take (k + 1)).all (fun c => c.all bareG) = true) := Lib.hid (all_next HB.out HC.out (by
                have := HQ.out
                rwa [← HN3.out, List.take_length] at this))
              go_wp2_with fail
              go_roundw
              case rel => exact ⟨k + 1, by omega, by go_num, HB', by first | trivial | rfl⟩
              case measure => (simp [intOf]; try omega)
        · obtain rfl : k = n2 := by omega
          have HA' : Hid ((t2.take (j + 1)).all (fun r => r.2.all fun c => c.all bareG) = true) := Lib.hid (all_next HA.out HX.out (by
            have := HB.out
            rwa [← HN2.out, List.take_length] at this))
          go_wp2_with fail
          go_roundw
          case rel => exact ⟨j + 1, by omega, by go_num, HA', by first | trivial | rfl⟩
          case measure => (simp [intOf]; try omega)
    · obtain rfl : j = n1 := by omega
      have HE : Hid (R = true) := Lib.hid (by
        have := HA.out
        rw [← HN1.out, List.take_length] at this
        rw [HR.out, this])
      go_wp2_with fail
      go_ret
      exact ⟨ret_bool HE.out.symm, BL.out⟩
end Go.Proofs.YtaeplneiicobgaaGreatDoor
namespace Go.Proofs.YtaeplneiicobgaaGreatDoor
open Go.RowKit
def nilP9 : PV := (none, 0, 0)
def tabL9 (t : Tab) (r : PV) : List Value := [.string ⟨t.cols.toArray⟩, pv r, .bool t.box, .bool t.all]
def hG9 (t : Tab) : Hd := ⟨0, 0, 0, [], [], t⟩
def nvG9 (t : Tab) (r : PV) : NV := ⟨0, 0, 0, nilP9, nilP9, nilP9, t.cols, r, t.box, t.all⟩
theorem hd_g9 {S : Nat → Prop} {w : World} {t : Tab} {r : PV} (h : TrS S w (pv r) t.rows) : HdIs S w (nvG9 t r) (hG9 t) := ⟨rfl, rfl, rfl, FsS.nil _ _ _ _, GrS.nil _ _, rfl, h, rfl, rfl⟩
theorem nl_g9 (t : Tab) : nlL [.mk (hG9 t) []] = 3 + t.cols.length + trls t.rows := by
  simp [nlL, nlN, hdl, hG9, lens]
theorem ns_lit9 {S : Nat → Prop} (w : World) (L : List NV) (l : List Nd) (hl : L.length = l.length) (hS : ∀ b, S b → b < w.heap.size) (hh : ∀ (i : Nat) x y, L[i]? = some x → l[i]? = some y → HdIs S w x y.hd ∧ NsS S w (pv x.kids) y.kids) :
    NsS (fun b => S b ∨ b = w.heap.size) (w.alloc (.cells (flatV ncell L).toArray 30)) (.slice (some ⟨w.heap.size, 0, none⟩) L.length L.length) l := by
  have hk : Kp S w (w.alloc (.cells (flatV ncell L).toArray 30)) := Kp.below (below_lit w _) hS
  refine .mk _ _ L hl ⟨fs_lit ncell_len w _ L, fun a k c e _ => ?_⟩ (fun i x y a b => ((hh i x y a b).1.keep hk).mono (fun b q => .inl q)) (fun i x y a b => ((hh i x y a b).2.keep hk).mono (fun b q => .inl q))
  injection e with e1
  injection e1 with e1
  subst e1
  exact ⟨.inr rfl, fun _ i _ => by
    have h := heap_alloc_new w (.cells (flatV ncell L).toArray 30)
    simp only [World.frozen?, h]
    simp⟩
theorem one_at9 {α β : Type} {x x' : α} {y y' : β} {i : Nat} (h : [x][i]? = some x') (k : [y][i]? = some y') : x = x' ∧ y = y' := by
  match i with
  | 0 => simp at h k; exact ⟨h, k⟩
  | i + 1 => simp at h
theorem grid_in9 {w : World} {t : Tab} {r : PV} (ht : TrS (fun b => b < w.heap.size) w (pv r) t.rows) :
    NsS (fun b => b < w.heap.size + 1) (w.alloc (.cells (flatV ncell [nvG9 t r]).toArray 30)) (.slice (some ⟨w.heap.size, 0, none⟩) 1 1) [.mk (hG9 t) []] :=
  (ns_lit9 w [nvG9 t r] [.mk (hG9 t) []] rfl (fun b (q : b < w.heap.size) => q) (fun i x y a b => by
    obtain ⟨rfl, rfl⟩ := one_at9 a b
    exact ⟨hd_g9 ht, NsS.nil _ _⟩)).mono (fun b q => by rcases q with q | q <;> omega)
set_option maxRecDepth 100000 in
set_option maxHeartbeats 8000000 in
theorem tblback_any (I : ImplT) (hK : KnT) (t : Tab) (r : PV) (w : World) (hU : U8 w) (ht : TrS (fun b => b < w.heap.size) w (pv r) t.rows) (lt : t.cols.length + trls t.rows ≤ 3000000) :
    Calls Tryz.prog 3 #[tabV t r] w fun e w' => e = .returned (.bool true) ∧ Below w.heap.size w w' := by
  have HK : Hid (∀ W, Below w.heap.size w W → Calls Tryz.prog 6 #[] W fun e w' => e = .returned (.bool true) ∧ Below w.heap.size w w') :=
    Lib.hid (fun W hb => (hK W (hU.below hb)).mono fun e w' ⟨e1, e2⟩ => ⟨e1, hb.trans (e2.mono hb.size)⟩)
  obtain ⟨W0, hW0⟩ : ∃ W, W = w.alloc (.cells (tabL9 t r).toArray 24) := ⟨_, rfl⟩
  have b0 : Below w.heap.size w W0 := by rw [hW0]; exact below_lit w _
  have k0 : Blk W0 w.heap.size 24 (tabL9 t r) := by rw [hW0]; exact heap_alloc_new w _
  obtain ⟨W1, hW1⟩ : ∃ W, W = W0.alloc (.cells (flatV ncell [nvG9 t r]).toArray 30) := ⟨_, rfl⟩
  have b1 : Below W0.heap.size W0 W1 := by rw [hW1]; exact below_lit W0 _
  have hn : nlL [.mk (hG9 t) []] = 3 + t.cols.length + trls t.rows := nl_g9 t
  have HLG : Hid (Calls Tryz.prog 4 #[.slice (some ⟨W0.heap.size, 0, none⟩) 1 1] W1 (RdN (.int .i64 (nlL [.mk (hG9 t) []] : Int)) W1)) := Lib.hid (by
    have := grid_in9 ((ht.keep (Kp.below b0 (fun b q => q))).mono (fun b q => Nat.lt_of_lt_of_le q b0.size))
    rw [← hW1] at this
    exact rlong_any _ _ _ rfl (by omega) _ _ this)
  rw [hn] at HLG
  obtain ⟨nl, hnl⟩ : ∃ n, 3 + t.cols.length + trls t.rows = n := ⟨_, rfl⟩
  rw [hnl] at HLG
  have BW1 : Below w.heap.size w W1 := b0.trans (b1.mono b0.size)
  have HT0 : Hid (∀ W, Below w.heap.size w W → TrS (fun b => b < w.heap.size) W (pv r) t.rows) := Lib.hid (fun W hb => ht.keep (Kp.below hb (fun b q => q)))
  have HBR : Hid (∀ W, Below w.heap.size w W → Calls Tryz.prog 5 #[tabV t r] W fun e w' => e = .returned (.bool (bareT t)) ∧ Below W.heap.size W w') := Lib.hid (fun W hb =>
    tbare_any _ t r W (HT0.out W hb) (by omega) (fun b q => Nat.lt_of_lt_of_le q hb.size))
  have HPR : Hid (bareT t = true → nl ≤ 500 → ∀ W, Below w.heap.size w W → Calls Tryz.prog 8 #[tabV t r] W fun e w' => ∃ v, e = .returned v ∧ SOwn W.heap.size w' v (printP t) ∧ Below W.heap.size W w') := Lib.hid (fun hb hl W h =>
    I.prnt t r W _ (fun b q => Nat.lt_of_lt_of_le q h.size) (hU.below h) (HT0.out W h) hb (by omega) (by omega))
  have HPA : Hid (bareT t = true → nl ≤ 500 → ∀ W v, Below w.heap.size w W → Ss W v (printP t) → Calls Tryz.prog 7 #[.int .i64 5, v] W fun e w' => ∃ (r : PV) (vd : Value), e = .returned (.tuple #[tabV (mend t) r, vd]) ∧ TrS (fun b => W.heap.size ≤ b ∧ b < w'.heap.size) w' (pv r) (mend t).rows ∧ DgS w' vd [] ∧ Below W.heap.size W w') := Lib.hid (fun hb hl W v h hv => by
    have hz := printP_size (t := t) (by omega)
    have := I.parse 5 (printP t) v W (by decide) (by decide) (hU.below h) hv hz.1 hz.2
    rw [back_parse hb] at this
    exact this)
  obtain ⟨q, hq⟩ : ∃ q, bareT t = q := ⟨_, rfl⟩
  rw [hq] at HBR HPR HPA
  have hms : nl ≤ 500 → trls (mend t).rows ≤ 12600 ∧ trls t.rows ≤ 600 ∧ t.cols.length ≤ 600 := fun h => by
    have h1 := trls_mrows9 (mcols t.cols).length t.rows
    have h2 := trls_len t.rows
    have h3 := (mcols_ok t.cols).2.1
    have h4 : (mcols t.cols).length * t.rows.length ≤ 20 * 600 := Nat.mul_le_mul h3 (by omega)
    exact ⟨by show trls (t.rows.map (mrowT (mcols t.cols).length)) ≤ 12600; omega, by omega, by omega⟩
  obtain ⟨M, hM⟩ : ∃ M, mend t = M := ⟨_, rfl⟩
  rw [hM] at HPA hms
  obtain ⟨u1, u2, u3⟩ := r
  obtain ⟨t1, t2, t3, t4⟩ := t
  obtain ⟨m1, m2, m3, m4⟩ := M
  have HW0 : Hid (W0 = w.alloc (.cells #[.string ⟨t1.toArray⟩, .slice u1 u2 u3, .bool t3, .bool t4] 24)) := Lib.hid hW0
  have HW1 : Hid (W1 = W0.alloc (.cells #[.int .i64 0, .int .i64 0, .int .i64 0, .slice none 0 0, .slice none 0 0, .slice none 0 0, .string ⟨t1.toArray⟩, .slice u1 u2 u3, .bool t3, .bool t4] 30)) := Lib.hid hW1
  have B0 := Lib.hid b0
  have B1 := Lib.hid b1
  have BX1 := Lib.hid BW1
  have HB0 := Lib.hid k0
  have HM := Lib.hid hM
  have HMS := Lib.hid hms
  have y0 : W0.cell? ⟨w.heap.size, 0, none⟩ = some (.string ⟨t1.toArray⟩) := k0.cell 0
  have y1 : W0.cell? ⟨w.heap.size, 1, none⟩ = some (.slice u1 u2 u3) := k0.cell 1
  have y2 : W0.cell? ⟨w.heap.size, 2, none⟩ = some (.bool t3) := k0.cell 2
  have y3 : W0.cell? ⟨w.heap.size, 3, none⟩ = some (.bool t4) := k0.cell 3
  have HKB : Hid (∀ W, Below W0.heap.size W0 W → Blk W w.heap.size 24 [.string ⟨t1.toArray⟩, .slice u1 u2 u3, .bool t3, .bool t4]) := Lib.hid (fun W h => k0.below h)
  simp only [tabV, pv] at HBR HPR HPA
  clear hn hW0 hW1 hM hms hq hnl k0 b0 b1 lt ht BW1
  go_enter Tryz.func3, Tryz.ntmps3
  simp only [tabV, pv]
  by_cases hg : 500 < nl
  · have hg' : (500 : Int) < (nl : Int) := by omega
    clear HBR HPR HPA HMS
    go_upto_region 1 with fail
    rw [← HW0.out]
    go_wp2_with fail
    rw [← HW1.out]
    refine HLG.out.mono ?_
    rintro e w2 ⟨rfl, mw, hw2⟩
    have BW2 : Hid (Below w.heap.size w w2) := Lib.hid (by rw [hw2]; exact below_drewN BX1.out mw)
    clear hw2
    go_wp2_with fail
    refine (HK.out _ BW2.out).mono ?_
    rintro e w9 ⟨rfl, b9⟩
    go_wp2_with fail
    go_ret
    exact ⟨rfl, b9⟩
  · have hg' : ¬ (500 : Int) < (nl : Int) := by omega
    have hl : nl ≤ 500 := by omega
    obtain ⟨l1, l2, l3⟩ := HMS.out hl
    go_upto_region 1 with fail
    rw [← HW0.out]
    go_wp2_with fail
    rw [← HW1.out]
    refine HLG.out.mono ?_
    rintro e w2 ⟨rfl, mw, hw2⟩
    have B2 : Hid (Below W0.heap.size W0 w2) := Lib.hid (by rw [hw2]; exact below_drewN B1.out mw)
    have BW2 : Hid (Below w.heap.size w w2) := Lib.hid (by rw [hw2]; exact below_drewN BX1.out mw)
    have k2 := HKB.out w2 B2.out
    have z0 := k2.cell 0
    have z1 := k2.cell 1
    have z2 := k2.cell 2
    have z3 := k2.cell 3
    clear hw2 y0 y1 y2 y3 k2 HMS
    simp at z0 z1 z2 z3
    go_wp2_with fail
    refine (HBR.out _ BW2.out).mono ?_
    rintro e w3 ⟨rfl, b3⟩
    cases q with
    | false =>
      go_wp2_with fail
      refine (HK.out _ (BW2.out.trans (b3.mono BW2.out.size))).mono ?_
      rintro e w9 ⟨rfl, b9⟩
      go_wp2_with fail
      go_ret
      exact ⟨rfl, b9⟩
    | true =>
      have B3 := Lib.hid (B2.out.trans (b3.mono B2.out.size))
      have BW3 := Lib.hid (BW2.out.trans (b3.mono BW2.out.size))
      have k3 := HKB.out w3 B3.out
      have y0 := k3.cell 0
      have y1 := k3.cell 1
      have y2 := k3.cell 2
      have y3 := k3.cell 3
      simp at y0 y1 y2 y3
      have HPR' := Lib.hid (HPR.out rfl hl w3 BW3.out)
      have HPA' := Lib.hid (HPA.out rfl hl)
      clear k3 z0 z1 z2 z3 HPR HPA HBR HLG HW0 HW1
      go_wp2_with fail
      refine HPR'.out.mono ?_
      rintro e w4 ⟨v, rfl, o4, b4⟩
      have B4 := Lib.hid (B3.out.trans (b4.mono B3.out.size))
      have BW4 := Lib.hid (BW3.out.trans (b4.mono BW3.out.size))
      have hs4 := FOwn.sl scell_len o4
      obtain ⟨va, vc, rfl⟩ := hs4.len
      have HS4 := Lib.hid hs4
      clear o4 b4 hs4 y0 y1 y2 y3 HPR'
      go_wp2_with fail
      refine (HPA'.out w4 _ BW4.out HS4.out).mono ?_
      rintro e w5 ⟨⟨s1, s2, s3⟩, vd, rfl, hs5, hd5, b5⟩
      obtain ⟨da, dc, hvd⟩ := hd5.len
      simp only [List.length_nil] at hvd
      subst hvd
      obtain ⟨X, hX⟩ : ∃ X, X = w5.alloc (.cells #[.string ⟨m1.toArray⟩, .slice s1 s2 s3, .bool m3, .bool m4] 24) := ⟨_, rfl⟩
      have bX : Below w5.heap.size w5 X := by rw [hX]; exact below_lit _ _
      have b4X : Below w4.heap.size w4 X := b5.trans (bX.mono b5.size)
      have bwX : Below w.heap.size w X := BW4.out.trans (b4X.mono BW4.out.size)
      have kT : Blk X w.heap.size 24 [.string ⟨t1.toArray⟩, .slice u1 u2 u3, .bool t3, .bool t4] := HKB.out X (B4.out.trans (b4X.mono B4.out.size))
      have kM : Blk X w5.heap.size 24 [.string ⟨m1.toArray⟩, .slice s1 s2 s3, .bool m3, .bool m4] := by rw [hX]; exact heap_alloc_new w5 _
      have hsX : TrS (fun b => b < X.heap.size) X (.slice s1 s2 s3) m2 := (hs5.keep (Kp.below bX (fun b q => q.2))).mono (fun b q => Nat.lt_of_lt_of_le q.2 bX.size)
      have hTX : TrS (fun b => b < X.heap.size) X (.slice u1 u2 u3) t2 := (HT0.out X bwX).mono (fun b q => Nat.lt_of_lt_of_le q bwX.size)
      have TK : ∀ {W : World} {v : Value} {l : List Trow}, TrS (fun b => b < X.heap.size) X v l → Below X.heap.size X W → TrS (fun b => b < W.heap.size) W v l := fun h hb => (h.keep (Kp.below hb (fun b q => q))).mono (fun b q => Nat.lt_of_lt_of_le q hb.size)
      have BT : ∀ {W W' : World}, Below X.heap.size X W → Below W.heap.size W W' → Below X.heap.size X W' := fun h k => h.trans (k.mono h.size)
      have HS8 : Hid (∀ W, Below X.heap.size X W → W.cell? ⟨w.heap.size, 0, none⟩ = some (.string ⟨t1.toArray⟩) ∧ W.cell? ⟨w.heap.size, 1, none⟩ = some (.slice u1 u2 u3) ∧ W.cell? ⟨w.heap.size, 2, none⟩ = some (.bool t3) ∧ W.cell? ⟨w.heap.size, 3, none⟩ = some (.bool t4) ∧
        W.cell? ⟨w5.heap.size, 0, none⟩ = some (.string ⟨m1.toArray⟩) ∧ W.cell? ⟨w5.heap.size, 1, none⟩ = some (.slice s1 s2 s3) ∧ W.cell? ⟨w5.heap.size, 2, none⟩ = some (.bool m3) ∧ W.cell? ⟨w5.heap.size, 3, none⟩ = some (.bool m4)) := Lib.hid (fun W hb =>
          ⟨(kT.below hb).cell 0, (kT.below hb).cell 1, (kT.below hb).cell 2, (kT.below hb).cell 3, (kM.below hb).cell 0, (kM.below hb).cell 1, (kM.below hb).cell 2, (kM.below hb).cell 3⟩)
      have c2 : trls m2 ≤ 90000 := Nat.le_trans l1 (by decide)
      have HP18 : Hid (∀ W, Below X.heap.size X W → Calls Tryz.prog 10 #[.agg #[.string ⟨t1.toArray⟩, .slice u1 u2 u3, .bool t3, .bool t4]] W fun e w' => ∃ q1 q2 q3, e = .returned (.agg #[.string ⟨m1.toArray⟩, .slice q1 q2 q3, .bool m3, .bool m4]) ∧ Below X.heap.size X w' ∧ TrS (fun b => b < w'.heap.size) w' (.slice q1 q2 q3) m2) := Lib.hid (fun W hb => by
        have := rmend_any _ ⟨t1, t2, t3, t4⟩ (u1, u2, u3) W (TK hTX hb) (Nat.le_trans l3 (by decide)) (Nat.le_trans l2 (by decide)) (fun b q => q)
        rw [HM.out] at this
        exact this.mono (fun e w' ⟨q, e1, e2, e3⟩ => ⟨q.1, q.2.1, q.2.2, e1, BT hb e3, e2.mono (fun b h => h.2)⟩))
      have HP17a : Hid (∀ W q1 q2 q3, Below X.heap.size X W → TrS (fun b => b < W.heap.size) W (.slice q1 q2 q3) m2 → Calls Tryz.prog 9 #[.agg #[.string ⟨m1.toArray⟩, .slice s1 s2 s3, .bool m3, .bool m4], .agg #[.string ⟨m1.toArray⟩, .slice q1 q2 q3, .bool m3, .bool m4]] W fun e w' => e = .returned (.bool true) ∧ Below X.heap.size X w') := Lib.hid (fun W q1 q2 q3 hb hq =>
        (rsametable_any _ _ ⟨m1, m2, m3, m4⟩ ⟨m1, m2, m3, m4⟩ (s1, s2, s3) (q1, q2, q3) W (TK hsX hb) hq (Nat.le_trans c2 (by decide)) (Nat.le_trans c2 (by decide)) (fun b q => q) (fun b q => q)).mono (fun e w' ⟨e1, e2⟩ => ⟨by rw [e1, decide_eq_true rfl], BT hb e2⟩))
      have HP10 : Hid (∀ W, Below X.heap.size X W → Calls Tryz.prog 6 #[] W fun e w' => e = .returned (.bool true) ∧ Below X.heap.size X w') := Lib.hid (fun W hb => (hK W (hU.below (bwX.trans (hb.mono bwX.size)))).mono fun e w' ⟨e1, e2⟩ => ⟨e1, BT hb e2⟩)
      have HXW := Lib.hid hX
      have BWX := Lib.hid bwX
      have HX : Hid (Below X.heap.size X X.drew) := Lib.hid (Below.refl _ X).drew
      clear hX bX b4X bwX kT kM hsX hTX TK BT c2 l1 l2 l3 hs5 hd5 b5 b3
      simp only [tabV, pv]
      go_upto_region 4 with fail
      rw [← HXW.out]
      refine wp_region_held_drew (S := (fun W' => W'.cell? ⟨w.heap.size, 0, none⟩ = some (.string ⟨t1.toArray⟩) ∧ W'.cell? ⟨w.heap.size, 1, none⟩ = some (.slice u1 u2 u3) ∧ W'.cell? ⟨w.heap.size, 2, none⟩ = some (.bool t3) ∧ W'.cell? ⟨w.heap.size, 3, none⟩ = some (.bool t4) ∧ W'.cell? ⟨w5.heap.size, 0, none⟩ = some (.string ⟨m1.toArray⟩) ∧ W'.cell? ⟨w5.heap.size, 1, none⟩ = some (.slice s1 s2 s3) ∧ W'.cell? ⟨w5.heap.size, 2, none⟩ = some (.bool m3) ∧ W'.cell? ⟨w5.heap.size, 3, none⟩ = some (.bool m4))) (by kernel_rfl) ?_ (fun hHeld => ?_)
      · exact HS8.out _ HX.out
      refine wpAnyH_take (i := 0) (v := .agg #[.string ⟨m1.toArray⟩, .slice s1 s2 s3, .bool m3, .bool m4]) rfl (by kernel_rfl) (by kernel_rfl) (by kernel_rfl) (fun _ _ _ h => h) (Or.inl ⟨by rfl, fun w' hSw => by (try dsimp only at hSw); go_simp⟩) (by assumption) ?_
      simp only [List.getElem_toArray, List.getElem_cons_succ, List.getElem_cons_zero, Act.put, List.setIfInBounds_toArray, List.set_cons_zero, List.set_cons_succ]
      refine wpAnyH_take (i := 1) (v := .agg #[.string ⟨t1.toArray⟩, .slice u1 u2 u3, .bool t3, .bool t4]) rfl (by kernel_rfl) (by kernel_rfl) (by kernel_rfl) (fun _ _ _ h => h) (Or.inl ⟨by rfl, fun w' hSw => by (try dsimp only at hSw); go_simp⟩) (by assumption) ?_
      simp only [List.getElem_toArray, List.getElem_cons_succ, List.getElem_cons_zero, Act.put, List.setIfInBounds_toArray, List.set_cons_zero, List.set_cons_succ]
      refine wpAnyH_ready (rs := [2]) (by kernel_rfl) (by simp) ?_
      refine AllReadyH.cons rfl (fun K hK => ?_) AllReadyH.nil
      try simp only [List.getElem_toArray, List.getElem_cons_succ, List.getElem_cons_zero]
      go_simp
      go_at_call 10
      refine (HP18.out _ HX.out).mono ?_
      rintro e w7 ⟨q1, q2, q3, rfl, b7, hq⟩
      clear HX
      have HX := Lib.hid b7
      have HQ := Lib.hid hq
      clear b7 hq
      go_wp2_with fail
      refine hK.out _ _ ?_ (fun hHeld => ?_)
      · exact HS8.out _ HX.out
      clear hK K
      try simp only [List.getElem_toArray, List.getElem_cons_succ, List.getElem_cons_zero, Act.put, List.setIfInBounds_toArray, List.set_cons_zero, List.set_cons_succ]
      refine wpAnyH_ready (rs := [3]) (by kernel_rfl) (by simp) ?_
      refine AllReadyH.cons rfl (fun K hK => ?_) AllReadyH.nil
      try simp only [List.getElem_toArray, List.getElem_cons_succ, List.getElem_cons_zero]
      go_simp
      go_at_call 9
      refine (HP17a.out _ _ _ _ HX.out HQ.out).mono ?_
      rintro e w7 ⟨rfl, b7⟩
      clear HX HQ
      have HX := Lib.hid b7
      clear b7
      go_wp2_with fail
      refine hK.out _ _ ?_ (fun hHeld => ?_)
      · exact HS8.out _ HX.out
      clear hK K
      try simp only [List.getElem_toArray, List.getElem_cons_succ, List.getElem_cons_zero, Act.put, List.setIfInBounds_toArray, List.set_cons_zero, List.set_cons_succ]
      refine wpAnyH_take (i := 4) (v := .bool true) rfl (by kernel_rfl) (by kernel_rfl) (by kernel_rfl) (fun _ _ _ h => h) (Or.inl ⟨by rfl, fun w' hSw => by (try dsimp only at hSw); go_simp⟩) (by assumption) ?_
      simp only [List.getElem_toArray, List.getElem_cons_succ, List.getElem_cons_zero, Act.put, List.setIfInBounds_toArray, List.set_cons_zero, List.set_cons_succ]
      refine wpAnyH_take (i := 5) (v := .slice da 0 dc) rfl (by kernel_rfl) (by kernel_rfl) (by kernel_rfl) (fun _ _ _ h => h) (Or.inl ⟨by rfl, fun w' hSw => by (try dsimp only at hSw); go_simp⟩) (by assumption) ?_
      simp only [List.getElem_toArray, List.getElem_cons_succ, List.getElem_cons_zero, Act.put, List.setIfInBounds_toArray, List.set_cons_zero, List.set_cons_succ]
      refine wpAnyH_take (i := 6) (v := .int .i64 0) rfl (by kernel_rfl) (by kernel_rfl) (by kernel_rfl) (fun _ _ _ h => h) (Or.inl ⟨by rfl, fun w' hSw => by (try dsimp only at hSw); go_simp⟩) (by assumption) ?_
      simp only [List.getElem_toArray, List.getElem_cons_succ, List.getElem_cons_zero, Act.put, List.setIfInBounds_toArray, List.set_cons_zero, List.set_cons_succ]
      refine wpAnyH_take (i := 7) (v := .bool true) rfl (by kernel_rfl) (by kernel_rfl) (by kernel_rfl) (fun _ _ _ h => h) (Or.inl ⟨by rfl, fun w' hSw => by (try dsimp only at hSw); go_simp⟩) (by assumption) ?_
      simp only [List.getElem_toArray, List.getElem_cons_succ, List.getElem_cons_zero, Act.put, List.setIfInBounds_toArray, List.set_cons_zero, List.set_cons_succ]
      refine wpAnyH_take (i := 8) (v := .bool true) rfl (by kernel_rfl) (by kernel_rfl) (by kernel_rfl) (fun _ _ _ h => h) (Or.inl ⟨by rfl, fun w' hSw => by (try dsimp only at hSw); go_simp⟩) (by assumption) ?_
      simp only [List.getElem_toArray, List.getElem_cons_succ, List.getElem_cons_zero, Act.put, List.setIfInBounds_toArray, List.set_cons_zero, List.set_cons_succ]
      refine wpAnyH_take (i := 9) (v := .bool true) rfl (by kernel_rfl) (by kernel_rfl) (by kernel_rfl) (fun _ _ _ h => h) (Or.inl ⟨by rfl, fun w' hSw => by (try dsimp only at hSw); go_simp⟩) (by assumption) ?_
      simp only [List.getElem_toArray, List.getElem_cons_succ, List.getElem_cons_zero, Act.put, List.setIfInBounds_toArray, List.set_cons_zero, List.set_cons_succ]
      refine wpAnyH_ready (rs := [10]) (by kernel_rfl) (by simp) ?_
      refine AllReadyH.cons rfl (fun K hK => ?_) AllReadyH.nil
      try simp only [List.getElem_toArray, List.getElem_cons_succ, List.getElem_cons_zero]
      go_simp
      go_at_call 6
      refine (HP10.out _ HX.out).mono ?_
      rintro e w7 ⟨rfl, b7⟩
      clear HX
      have HX := Lib.hid b7
      clear b7
      go_wp2_with fail
      refine hK.out _ _ ?_ (fun hHeld => ?_)
      · exact HS8.out _ HX.out
      clear hK K
      try simp only [List.getElem_toArray, List.getElem_cons_succ, List.getElem_cons_zero, Act.put, List.setIfInBounds_toArray, List.set_cons_zero, List.set_cons_succ]
      refine wpAnyH_take (i := 11) (v := .bool true) rfl (by kernel_rfl) (by kernel_rfl) (by kernel_rfl) (fun _ _ _ h => h) (Or.inl ⟨by rfl, fun w' hSw => by (try dsimp only at hSw); go_simp⟩) (by assumption) ?_
      simp only [List.getElem_toArray, List.getElem_cons_succ, List.getElem_cons_zero, Act.put, List.setIfInBounds_toArray, List.set_cons_zero, List.set_cons_succ]
      refine wpAnyH_take (i := 12) (v := .bool true) rfl (by kernel_rfl) (by kernel_rfl) (by kernel_rfl) (fun _ _ _ h => h) (Or.inl ⟨by rfl, fun w' hSw => by (try dsimp only at hSw); go_simp⟩) (by assumption) ?_
      simp only [List.getElem_toArray, List.getElem_cons_succ, List.getElem_cons_zero, Act.put, List.setIfInBounds_toArray, List.set_cons_zero, List.set_cons_succ]
      refine wpAnyH_done (by kernel_rfl) ?_ _
      go_wp2_with fail
      go_ret
      exact ⟨rfl, BWX.out.trans (HX.out.mono BWX.out.size)⟩
end Go.Proofs.YtaeplneiicobgaaGreatDoor
