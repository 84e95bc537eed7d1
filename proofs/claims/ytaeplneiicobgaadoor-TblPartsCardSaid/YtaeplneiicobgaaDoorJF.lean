/- Rows of texts that came in, with the sum of their lengths. How much is read of a table's lines: plain maths. What is printed of a table of letters: it is not great, and a mended table of letters is one: plain maths. The chapter's example, and what the laws of tables say: plain maths. What the laws of tables ask of the package. The walk of TblCuts. How much is told of a table's lines: plain maths. All of some rows of glyphs, joined: halves first. The walk of TblParts. -/
import Derived.Test.YtaeplneiicobgaaDoorQ2
import Derived.Test.YtaeplneiicobgaaDoorRows
import Derived.WalkKit
import Derived.ProofKit
import Derived.OpenShut
import Derived.Carry
import Derived.ChangeMaps5
import Derived.Deep.Slices
import Derived.Deep.Fields
import Derived.ChangeSame
import Derived.Lib.SmallJoins
import Derived.Test.YtaeplneiicobgaaDoorBd
import Derived.Test.YtaeplneiicobgaaDoorJ7
import Derived.Test.YtaeplneiicobgaaDoorEc
import Derived.Test.YtaeplneiicobgaaDoorQ9
import Derived.Deep.RegionWith
set_option linter.unusedVariables false
set_option linter.unusedSimpArgs false
namespace Go.Proofs.YtaeplneiicobgaaDoor
open Go.ChangeShapes Go.WideShapes Go.ChangeAt Go.RowKit
/-- How much there is of texts. -/
def lnT (l : List (List UInt8)) : Nat := (l.map (fun b => b.length + 1)).sum
theorem lnT_cons (b : List UInt8) (l : List (List UInt8)) : lnT (b :: l) = b.length + 1 + lnT l := by simp [lnT]
theorem lnT_app (l m : List (List UInt8)) : lnT (l ++ m) = lnT l + lnT m := by simp [lnT]
theorem lnT_num : ∀ l : List (List UInt8), l.length ≤ lnT l
  | [] => Nat.zero_le _
  | b :: l => by have := lnT_num l; rw [lnT_cons, List.length_cons]; omega
theorem lnT_mem {l : List (List UInt8)} {b : List UInt8} (h : b ∈ l) : b.length + 1 ≤ lnT l := by
  induction l with
  | nil => simp at h
  | cons x l ih =>
    rw [lnT_cons]
    rcases List.mem_cons.1 h with rfl | h
    · omega
    · have := ih h; omega
theorem lnT_take (l : List (List UInt8)) (j : Nat) : lnT (l.take j) ≤ lnT l := by
  have := lnT_app (l.take j) (l.drop j)
  rw [List.take_append_drop] at this
  omega
section
variable {H : Type} {enc : TypeId × Value → H} {w : World} {held : Bool}
end
end Go.Proofs.YtaeplneiicobgaaDoor
namespace Go.Proofs.YtaeplneiicobgaaDoor
open Go.RowKit
theorem jn_le9 (a b : List Gly) : (jn a b).length ≤ a.length + b.length + 1 := by
  unfold jn
  split
  · omega
  · split
    · omega
    · simp only [List.length_append, List.length_singleton]; omega
theorem cut_lnT (c : UInt8) : ∀ s : Txt, lnT (cutB c s) = s.length + 1
  | [] => rfl
  | x :: r => by
    have ih := cut_lnT c r
    unfold cutB
    split
    · rw [lnT_cons, ih]
      simp only [List.length_nil, List.length_cons]
      omega
    · cases e : cutB c r with
      | nil => exact absurd e (cutB_ne c r)
      | cons a b =>
        rw [e, lnT_cons] at ih
        simp only [lnT_cons, List.length_cons]
        omega
theorem lnT_tail (l : List Txt) : lnT l.tail ≤ lnT l := by
  cases l with
  | nil => exact Nat.le_refl _
  | cons b l => rw [lnT_cons]; show lnT l ≤ _; omega
theorem lens_app (a b : List (List Gly)) : lens (a ++ b) = lens a + lens b := by simp [lens]
theorem lens_one (g : List Gly) : lens [g] = g.length := by simp [lens]
section
variable {lg : Lgf} (hg : ∀ s, (lg s).1.length ≤ s.length)
include hg
theorem takeT_size : ∀ (l : List Txt) (ln : Int) (acc : List Gly) (d : List Dgn), (takeT lg l ln acc d).1.length + lnT (takeT lg l ln acc d).2.2.2 ≤ acc.length + lnT l
  | [], ln, acc, d => by simp [takeT]
  | s :: r, ln, acc, d => by
    unfold takeT
    split
    · exact Nat.le_refl _
    · have ih := takeT_size r (ln + 1) (jn acc (lg s).1) (d ++ dgsB ln (lg s).2)
      have h1 := jn_le9 acc (lg s).1
      have h2 := hg s
      rw [lnT_cons]
      omega
omit hg in
def cSz (ps rest : List Txt) (cs : List (List Gly)) (q : CRes) : Prop := q.1.length + lens q.1 + lnT q.2.2.2 ≤ cs.length + lens cs + lnT ps + lnT rest
theorem cellsI_size {K : List Txt → List Txt → Int → List (List Gly) → List Dgn → CRes} (hK : ∀ ps rest ln cs d, cSz ps rest cs (K ps rest ln cs d)) : ∀ (ps rest : List Txt) (ln : Int) (cs : List (List Gly)) (d : List Dgn), cSz ps rest cs (cellsI lg K ps rest ln cs d)
  | [], rest, ln, cs, d => by unfold cSz cellsI; simp [lnT]
  | p :: ps, rest, ln, cs, d => by
    unfold cellsI
    split
    · have ht := takeT_size hg rest (ln + 1) [] d
      generalize takeT lg rest (ln + 1) [] d = q at ht
      obtain ⟨g, d2, ln2, r2⟩ := q
      cases r2 with
      | nil =>
        simp only [List.length_nil] at ht
        unfold cSz
        simp only [List.length_append, List.length_singleton, lens_app, lens_one, lnT_cons]
        omega
      | cons s r =>
        have h1 := hK (cutB 9 s).tail r ln2 (cs ++ [g]) d2
        have h2 := lnT_tail (cutB 9 s)
        rw [cut_lnT] at h2
        unfold cSz at h1 ⊢
        simp only [List.length_append, List.length_singleton, lens_app, lens_one, lnT_cons, List.length_nil] at h1 ht ⊢
        omega
    · have h1 := cellsI_size hK ps rest ln (cs ++ [(lg p).1]) (d ++ dgsB ln (lg p).2)
      have h2 := hg p
      unfold cSz at h1 ⊢
      simp only [List.length_append, List.length_singleton, lens_app, lens_one, lnT_cons] at h1 ⊢
      omega
theorem cellsP_size : ∀ (n : Nat) (ps rest : List Txt) (ln : Int) (cs : List (List Gly)) (d : List Dgn), cSz ps rest cs (cellsP lg n ps rest ln cs d)
  | 0, ps, rest, ln, cs, d => cellsI_size hg (fun ps rest ln cs d => by unfold cSz; simp only; omega) ps rest ln cs d
  | n + 1, ps, rest, ln, cs, d => cellsI_size hg (cellsP_size n) ps rest ln cs d
theorem rowP_size (nc : Nat) (s : Txt) (rest : List Txt) (ln : Int) : trl (rowP lg nc s rest ln).1 + lnT (rowP lg nc s rest ln).2.2.2 ≤ 1 + lnT (s :: rest) := by
  unfold rowP
  split
  · rw [lnT_cons]
    unfold trl
    simp [lens]
  · have h := cellsP_size hg (rest.length + 1) (cutB 9 s) rest ln [] []
    unfold cSz at h
    rw [cut_lnT] at h
    simp only [List.length_nil, lens, List.map_nil, List.sum_nil] at h
    rw [lnT_cons]
    unfold trl lens
    simp only
    omega
theorem rowsP_size (nc : Nat) : ∀ (n : Nat) (l : List Txt) (ln : Int) (rs : List Trow) (d : List Dgn), trls (rowsP lg nc n l ln rs d).1 ≤ trls rs + n + lnT l
  | 0, l, ln, rs, d => by simp [rowsP]
  | n + 1, [], ln, rs, d => by simp [rowsP]; omega
  | n + 1, s :: r, ln, rs, d => by
    have h1 := rowP_size hg nc s r ln
    unfold rowsP
    simp only
    have ih := rowsP_size nc n (rowP lg nc s r ln).2.2.2 ((rowP lg nc s r ln).2.2.1 + 1) (rs ++ [(rowP lg nc s r ln).1]) (d ++ (rowP lg nc s r ln).2.1)
    have h4 : trls (rs ++ [(rowP lg nc s r ln).1]) = trls rs + trl (rowP lg nc s r ln).1 := by simp [trls]
    omega
omit hg in
omit hg in
omit hg in
omit hg in
end
end Go.Proofs.YtaeplneiicobgaaDoor
namespace Go.Proofs.YtaeplneiicobgaaDoor
open Go.RowKit
theorem joinB_len (c : UInt8) : ∀ l : List Txt, (joinB c l).length ≤ lnT l
  | [] => by simp [joinB]
  | [a] => by simp [joinB, lnT]
  | a :: b :: l => by
    have ih := joinB_len c (b :: l)
    rw [lnT_cons]
    simp only [joinB, List.length_append, List.length_cons]
    omega
end Go.Proofs.YtaeplneiicobgaaDoor
namespace Go.Proofs.YtaeplneiicobgaaDoor
open Go.RowKit
def knM : Tab := ⟨[108, 114], [(false, [[(97, 0)], [(98, 0)]])], false, false⟩
theorem known_parse : parseP lgF 1 [[108, 32, 114, 46], [97, 9, 98]] = (knM, []) := by
  have h := print_back lgF_ok 1 (m := knM) (by decide) (by decide)
  have e : printM knM = [[108, 32, 114, 46], [97, 9, 98]] := by decide
  rwa [e] at h
end Go.Proofs.YtaeplneiicobgaaDoor
namespace Go.Proofs.YtaeplneiicobgaaDoor
open Go.RowKit
abbrev DgS (w : World) (v : Value) (l : List Dgn) : Prop := Ds w v l
structure ImplT : Prop where
  cut : ∀ (b : Txt) (w : World), b.length ≤ 500 → Calls Tryd.prog 12 #[.string ⟨b.toArray⟩] w fun e w' => ∃ v, e = .returned v ∧ SOwn w.heap.size w' v (cutB 9 b) ∧ Below w.heap.size w w'
  look : ∀ (b : Txt) (w : World), U8 w → b.length ≤ 500 → Calls Tryd.prog 7 #[.string ⟨b.toArray⟩] w fun e w' => e = .returned (.tuple #[.bool (lookB b).1, .bool (lookB b).2.1, .bool (lookB b).2.2]) ∧ Below w.heap.size w w'
  cols : ∀ (b : Txt) (w : World), U8 w → b.length ≤ 500 → Calls Tryd.prog 9 #[.string ⟨b.toArray⟩] w fun e w' => e = .returned (.tuple #[.string ⟨(colsB b).1.toArray⟩, .bool (colsB b).2]) ∧ Below w.heap.size w w'
  parse : ∀ (line : Int) (L : List Txt) (v : Value) (w : World), 0 ≤ line → line ≤ 100000 → U8 w → Ss w v L → lnT L ≤ 40000 → (∀ s ∈ L, s.length ≤ 2000) →
    Calls Tryd.prog 15 #[.int .i64 line, v] w fun e w' => ∃ (r : PV) (vd : Value), e = .returned (.tuple #[tabV (parseP lgF line L).1 r, vd]) ∧ TrS (fun b => w.heap.size ≤ b ∧ b < w'.heap.size) w' (pv r) (parseP lgF line L).1.rows ∧ DgS w' vd (parseP lgF line L).2 ∧ Below w.heap.size w w'
/-- The laws' known holds. -/
def KnT : Prop := ∀ w, U8 w → Calls Tryd.prog 6 #[] w fun e w' => e = .returned (.bool true) ∧ Below w.heap.size w w'
theorem joinB_snoc (c : UInt8) : ∀ (l : List Txt) (x : Txt), joinB c (l ++ [x]) = if l = [] then x else joinB c l ++ c :: x
  | [], x => rfl
  | [a], x => rfl
  | a :: b :: l, x => by
    have ih := joinB_snoc c (b :: l) x
    rw [if_neg (by simp)] at ih ⊢
    show a ++ c :: joinB c (b :: (l ++ [x])) = _
    rw [show b :: (l ++ [x]) = (b :: l) ++ [x] from rfl, ih]
    show _ = a ++ c :: joinB c (b :: l) ++ c :: x
    simp
theorem joinB_step (c : UInt8) {L : List Txt} {j : Nat} {x : Txt} (hx : L[j]? = some x) : joinB c (L.take (j + 1)) = if j = 0 then x else joinB c (L.take j) ++ c :: x := by
  rw [take_one9 hx, joinB_snoc]
  obtain ⟨hl, -⟩ := List.getElem?_eq_some_iff.1 hx
  by_cases hj : j = 0
  · subst hj; rfl
  · rw [if_neg hj, if_neg (fun e => by
      have := congrArg List.length e
      rw [List.length_take, List.length_nil] at this
      omega)]
theorem count_step (c : UInt8) {b : Txt} {j : Nat} {x : UInt8} (hx : b[j]? = some x) : (b.take (j + 1)).count c = (b.take j).count c + (if x = c then 1 else 0) := by
  rw [take_one9 hx, List.count_append]
  by_cases h : x = c
  · rw [if_pos h, h]; simp
  · rw [if_neg h]
    have : List.count c [x] = 0 := by
      rw [List.count_eq_zero]
      simp only [List.mem_singleton]
      exact fun e => h e.symm
    rw [this]
theorem joinB_take_len (c : UInt8) (L : List Txt) (j : Nat) : (joinB c (L.take j)).length ≤ lnT L := by
  have h1 := joinB_len c (L.take j)
  have h2 := lnT_take L j
  omega
attribute [local go_sem ↓ high] binop_addS builtin_appS binop_eqlS binop_neqS
set_option maxRecDepth 100000 in
set_option maxHeartbeats 8000000 in
theorem tblcuts_any (I : ImplT) (hK : KnT) (b : Txt) (w : World) (hU : U8 w) (hb : b.length ≤ 9223372036854775807) :
    Calls Tryd.prog 5 #[.string ⟨b.toArray⟩] w fun e w' => e = .returned (.bool true) ∧ Below w.heap.size w w' := by
  have HK : Hid (∀ W, Below w.heap.size w W → Calls Tryd.prog 6 #[] W fun e w' => e = .returned (.bool true) ∧ Below w.heap.size w w') :=
    Lib.hid (fun W hb => (hK W (hU.below hb)).mono fun e w' ⟨e1, e2⟩ => ⟨e1, hb.trans (e2.mono hb.size)⟩)
  have hsz := arr_size b
  by_cases hg : 500 < b.length
  · have hg' : (500 : Int) < (b.length : Int) := by omega
    go_enter Tryd.func5, Tryd.ntmps5
    go_wp2_with fail
    refine (HK.out _ (Below.refl _ _)).mono ?_
    rintro e w9 ⟨rfl, b9⟩
    go_wp2_with fail
    go_ret
    exact ⟨rfl, b9⟩
  · have hg' : ¬ (500 : Int) < (b.length : Int) := by omega
    have HC := Lib.hid (I.cut b w (by omega))
    have HI := Lib.hid (fun j x (h : b[j]? = some x) => str_idx b j x h)
    have hcl := cut_lnT 9 b
    have hcn := cutB_len 9 b
    have hcj := join_cut 9 b
    obtain ⟨L, hL⟩ : ∃ L, cutB 9 b = L := ⟨_, rfl⟩
    rw [hL] at HC hcl hcn hcj
    have hln := lnT_num L
    clear hL hg
    go_enter Tryd.func5, Tryd.ntmps5
    go_wp2_with fail
    refine HC.out.mono ?_
    rintro e w1 ⟨v, rfl, ho, hbl⟩
    obtain ⟨va, vc, rfl⟩ := (FOwn.sl scell_len ho).len
    have HS := Lib.hid (FOwn.sl scell_len ho)
    have HB := Lib.hid hbl
    obtain ⟨N, hN⟩ : ∃ N, L.length = N := ⟨_, rfl⟩
    have HJ := Lib.hid hcj
    have HN := Lib.hid hN
    have hn1 : N = 1 + b.count 9 := by omega
    have HCN := Lib.hid hn1
    have hNb : N ≤ 501 := by omega
    have hlj := joinB_take_len 9 L
    have HLJ := Lib.hid hlj
    rw [hN] at HS
    rw [hN]
    clear ho hbl HC hcj hN hcn hn1 hlj
    go_wp2_with fail
    go_loopw [4, 6] (fun u i wr => ∃ (j : Nat), i = .int .i64 (j : Int) ∧ u = .string ⟨(joinB 9 (L.take j)).toArray⟩ ∧ j ≤ N ∧ wr = w1) (fun _ i _ => N - (intOf i).toNat)
    case atStart => exact ⟨0, rfl, rfl, by omega, rfl⟩
    case round =>
      obtain ⟨j, rfl, rfl, hj, rfl⟩ := hrel
      by_cases hlt : j < N
      · obtain ⟨x, hx⟩ : ∃ x, L[j]? = some x := ⟨L[j]'(by rw [HN.out]; exact hlt), List.getElem?_eq_getElem _⟩
        obtain ⟨g, off, rfl, c0⟩ := Ss.at HS.out hx
        have hi0 : (0 : Int) ≤ (j : Int) := by omega
        have hi1 : (j : Int) < (N : Int) := by omega
        have hst := joinB_step 9 hx
        have hl1 := HLJ.out j
        have hl2 := lnT_mem (List.mem_of_getElem? hx)
        obtain ⟨u, hu⟩ : ∃ u, joinB 9 (L.take j) = u := ⟨_, rfl⟩
        rw [hu] at hst hl1
        rw [hu]
        have HU := Lib.hid hu
        have HST := Lib.hid hst
        clear hu hst hx
        by_cases hj0 : j = 0
        · have hj1 : ¬ (0 : Int) < (j : Int) := by omega
          obtain rfl : u = [] := by rw [← HU.out, hj0]; rfl
          have a0 : ∀ W, (addS (.string ⟨([] : Txt).toArray⟩) (.string ⟨x.toArray⟩)).run Tryd.prog W = .ok (.string ⟨x.toArray⟩) W := str_add [] x (by simp; omega)
          have HJ0 := Lib.hid hj0
          clear hj0
          go_wp2_with fail
          go_roundw
          case rel => exact ⟨j + 1, by go_num, by rw [HST.out, if_pos HJ0.out], by omega, by first | trivial | rfl⟩
          case measure => simp [intOf]; omega
        · have hj1 : (0 : Int) < (j : Int) := by omega
          have a0 : ∀ W, (addS (.string ⟨u.toArray⟩) (.string ⟨#[9]⟩)).run Tryd.prog W = .ok (.string ⟨(u ++ [9]).toArray⟩) W := str_add u [9] (by simp; omega)
          have a1 : ∀ W, (addS (.string ⟨(u ++ [9]).toArray⟩) (.string ⟨x.toArray⟩)).run Tryd.prog W = .ok (.string ⟨(u ++ [9] ++ x).toArray⟩) W := str_add (u ++ [9]) x (by simp; omega)
          go_wp2_with fail
          go_roundw
          case rel => exact ⟨j + 1, by go_num, by rw [HST.out, if_neg hj0]; try simp, by omega, by first | trivial | rfl⟩
          case measure => simp [intOf]; omega
      · obtain rfl : j = N := by omega
        have hu : joinB 9 (L.take j) = b := by rw [← HN.out, List.take_length, HJ.out]
        rw [hu]
        clear hu
        go_wp2_with fail
        go_loopw [5, 7] (fun n i w2 => ∃ (k : Nat), i = .int .i64 (k : Int) ∧ n = .int .i64 ((1 + (b.take k).count 9 : Nat) : Int) ∧ k ≤ b.length ∧ w2 = wr) (fun _ i _ => b.length - (intOf i).toNat)
        case atStart => exact ⟨0, rfl, rfl, by omega, rfl⟩
        case round =>
          obtain ⟨k, rfl, rfl, hk, rfl⟩ := hrel
          by_cases hlt2 : k < b.length
          · obtain ⟨y, hy⟩ : ∃ y, b[k]? = some y := ⟨b[k], List.getElem?_eq_getElem hlt2⟩
            have k0 := HI.out k y hy
            have hlt' : (k : Int) < (b.length : Int) := by omega
            have hst := count_step 9 hy
            have hcb : (b.take k).count 9 ≤ k := by
              have := List.count_le_length (a := (9 : UInt8)) (l := b.take k)
              rw [List.length_take] at this
              omega
            have HST := Lib.hid hst
            obtain ⟨q, hq⟩ : ∃ q, (b.take k).count 9 = q := ⟨_, rfl⟩
            rw [hq] at hcb HST
            rw [hq]
            clear hst hq
            by_cases hy9 : y = 9
            · subst hy9
              have k0' : ∀ W, (Instr.index 9 (.string ⟨b.toArray⟩) (.int .i64 (k : Int))).run Tryd.prog W = .ok (.int .u8 9) W := k0
              clear k0 hy
              go_wp2_with fail
              go_roundw
              case rel => exact ⟨k + 1, by go_num, by rw [HST.out]; go_num, by omega, by first | trivial | rfl⟩
              case measure => simp [intOf]; omega
            · have hne : ((y.toNat : Int) == 9) = false := byte_ne hy9
              clear hy
              go_wp2_with fail
              go_roundw
              case rel => exact ⟨k + 1, by go_num, by rw [HST.out, if_neg hy9]; rfl, by omega, by first | trivial | rfl⟩
              case measure => simp [intOf]; omega
          · obtain rfl : k = b.length := by omega
            rw [List.take_length]
            have q1 : ∀ W, (eqlS (.string ⟨b.toArray⟩) (.string ⟨b.toArray⟩)).run Tryd.prog W = .ok (.bool true) W := fun W => by
              have := eqlS_run b b W
              simpa using this
            have q2 : ((j : Int) == 1 + ((b.count 9 : Nat) : Int)) = true := by
              have := HCN.out
              rw [beq_iff_eq]
              omega
            go_wp2_with fail
            refine (HK.out _ HB.out).mono ?_
            rintro e w9 ⟨rfl, b9⟩
            go_wp2_with fail
            go_ret
            exact ⟨rfl, b9⟩
end Go.Proofs.YtaeplneiicobgaaDoor
namespace Go.Proofs.YtaeplneiicobgaaDoor
open Go.RowKit
theorem dgsB_len (ln : Int) (l : List (Int × Int)) : (dgsB ln l).length = l.length := by simp [dgsB]
section
variable {lg : Lgf} (hg : ∀ s, (lg s).2.length ≤ s.length)
include hg
theorem takeT_told : ∀ (l : List Txt) (ln : Int) (acc : List Gly) (d : List Dgn), (takeT lg l ln acc d).2.1.length + lnT (takeT lg l ln acc d).2.2.2 ≤ d.length + lnT l
  | [], ln, acc, d => by simp [takeT]
  | s :: r, ln, acc, d => by
    unfold takeT
    split
    · exact Nat.le_refl _
    · have ih := takeT_told r (ln + 1) (jn acc (lg s).1) (d ++ dgsB ln (lg s).2)
      have h2 := hg s
      rw [List.length_append, dgsB_len] at ih
      rw [lnT_cons]
      omega
omit hg in
omit hg in
omit hg in
end
end Go.Proofs.YtaeplneiicobgaaDoor
namespace Go.Proofs.YtaeplneiicobgaaDoor
open Go.RowKit
def jns : List (List Gly) → List Gly
  | [] => []
  | a :: r => jn a (jns r)
theorem jns_app : ∀ a b : List (List Gly), jns (a ++ b) = jn (jns a) (jns b)
  | [], b => rfl
  | x :: a, b => by
    show jn x (jns (a ++ b)) = jn (jn x (jns a)) (jns b)
    rw [jns_app a b, jn_assoc]
theorem jns_snoc (a : List (List Gly)) (x : List Gly) : jns (a ++ [x]) = jn (jns a) x := by
  rw [jns_app]
  show jn (jns a) (jn x []) = _
  rw [jn_nil']
theorem jns_len : ∀ l : List (List Gly), (jns l).length ≤ lens l + l.length
  | [] => Nat.le_refl _
  | x :: l => by
    have h1 := jn_le9 x (jns l)
    have h2 := jns_len l
    have h3 := lens_app [x] l
    rw [lens_one] at h3
    show (jn x (jns l)).length ≤ lens ([x] ++ l) + (l.length + 1)
    omega
/-- Rows of glyphs in blocks of S, told by a slice. -/
def JoIn (S : Nat → Prop) (W : World) (v : Value) (l : List (List Gly)) : Prop := ∃ L : List PV, L.length = l.length ∧ Fs 1 pcell W v L ∧ ∀ (i : Nat) s r, L[i]? = some s → l[i]? = some r → FsS S 2 gcell W (pv s) r
theorem JoIn.keep {S : Nat → Prop} {W W' : World} {v : Value} {l : List (List Gly)} (h : JoIn S W v l) (hS : ∀ b, S b → b < W.heap.size) (hb : Below W.heap.size W W') : JoIn S W' v l := by
  obtain ⟨L, h1, h2, h3⟩ := h
  exact ⟨L, h1, h2.below hb, fun i s r a b => (h3 i s r a b).keep (Kp.below hb hS)⟩
theorem JoIn.len {S : Nat → Prop} {W : World} {v : Value} {l : List (List Gly)} (h : JoIn S W v l) : ∃ a cap, v = .slice a l.length cap := by
  obtain ⟨L, h1, h2, -⟩ := h
  obtain ⟨a, cap, e⟩ := h2.len
  exact ⟨a, cap, h1 ▸ e⟩
noncomputable def frontP9 (x hi : Value) : Sem Value := Instr.slice 47 x none (some hi) none
theorem slice_frontP9 (x hi : Value) : Instr.slice 47 x none (some hi) none = frontP9 x hi := rfl
noncomputable def backP9 (x lo : Value) : Sem Value := Instr.slice 47 x (some lo) none none
theorem slice_backP9 (x lo : Value) : Instr.slice 47 x (some lo) none none = backP9 x lo := rfl
theorem JoIn.front {S : Nat → Prop} {W : World} {v : Value} {l : List (List Gly)} (h : JoIn S W v l) (k : Nat) (hk : k ≤ l.length) : ∃ u, (∀ W' : World, (frontP9 v (.int .i64 (k : Int))).run Tryd.prog W' = .ok u W') ∧ JoIn S W u (l.take k) := by
  obtain ⟨i0, hi, hz0, hz1, hz2⟩ := info_parts infoSG
  obtain ⟨L, h1, h2, h3⟩ := h
  obtain ⟨u, hr, hu, -⟩ := Fs.front (P := Tryd.prog) Tryd.underlying47 hi h2 k (by omega)
  refine ⟨u, hr, L.take k, by simp [h1], hu, fun i s r a b => ?_⟩
  rw [List.getElem?_take] at a b
  split at a
  · rename_i hq
    rw [if_pos hq] at b
    exact h3 i s r a b
  · cases a
theorem JoIn.back {S : Nat → Prop} {W : World} {v : Value} {l : List (List Gly)} (h : JoIn S W v l) (k : Nat) (hk : k ≤ l.length) : ∃ u, (∀ W' : World, (backP9 v (.int .i64 (k : Int))).run Tryd.prog W' = .ok u W') ∧ JoIn S W u (l.drop k) := by
  obtain ⟨i0, hi, hz0, hz1, hz2⟩ := info_parts infoSG
  obtain ⟨L, h1, h2, h3⟩ := h
  obtain ⟨u, hr, hu⟩ := Fs.back (P := Tryd.prog) Tryd.underlying47 hi hz1 h2 k (by omega)
  refine ⟨u, hr, L.drop k, by simp [h1], hu, fun i s r a b => ?_⟩
  rw [List.getElem?_drop] at a b
  exact h3 _ s r a b
/-- In blocks of S, or in rows of glyphs that were made since. -/
def JR (S : Nat → Prop) (base : Nat) (W : World) (v : Value) (g : List Gly) : Prop := FsS (fun b => S b ∨ (base ≤ b ∧ ∃ cur fz, W.heap[b]? = some (.cells cur 45 fz))) 2 gcell W v g
theorem JR.keep {S : Nat → Prop} {base : Nat} {W W' : World} {v : Value} {g : List Gly} (h : JR S base W v g) (hS : ∀ b, S b → b < W.heap.size) (hb : Below W.heap.size W W') : JR S base W' v g := by
  refine FsS.mono (FsS.keep h (fun b q => hb.block b ?_)) (fun b q => ?_)
  · rcases q with q | ⟨-, cur, fz, q⟩
    · exact hS b q
    · exact (Array.getElem?_eq_some_iff.1 q).1
  · rcases q with q | ⟨q0, cur, fz, q⟩
    · exact .inl q
    · exact .inr ⟨q0, cur, fz, (hb.block b (Array.getElem?_eq_some_iff.1 q).1).trans q⟩
theorem JR.own {S : Nat → Prop} {base base' : Nat} {W : World} {v : Value} {g : List Gly} (h : GOwn base' W v g) (hb : base ≤ base') : JR S base W v g :=
  (own_foot gcell_len (h.mono hb)).mono (fun b q => .inr q)
attribute [local go_sem ↓ high] slice_frontP9 slice_backP9
def JoQ (S : Nat → Prop) (base : Nat) (V : World) (g : List Gly) (e : Ending) (V' : World) : Prop := ∃ x, e = .returned x ∧ JR S base V' x g ∧ Below V.heap.size V V'
set_option maxRecDepth 100000 in
set_option maxHeartbeats 4000000 in
theorem joined_any (S : Nat → Prop) (base : Nat) : ∀ (n : Nat) (l : List (List Gly)) (v : Value) (W : World), l.length = n → JoIn S W v l → (∀ b, S b → b < W.heap.size) → base ≤ W.heap.size → lens l + l.length ≤ 90000 →
    Calls Tryd.prog 59 #[v] W (JoQ S base W (jns l)) := by
  intro n
  induction n using Nat.strongRecOn with
  | _ n ih =>
  intro l v W hn hv hS hbase hl
  obtain ⟨a, c, rfl⟩ := hv.len
  rcases l with _ | ⟨x, _ | ⟨y, r⟩⟩
  · clear ih hv hl hn
    simp only [List.length_nil]
    go_enter Tryd.func59, Tryd.ntmps59
    go_wp2_with fail
    go_ret
    exact ⟨_, rfl, FsS.nil _ _ _ _, Below.refl _ _⟩
  · obtain ⟨L, h1, h2, h3⟩ := hv
    obtain ⟨s, hs⟩ : ∃ s, L[0]? = some s := ⟨L[0]'(by simp at h1; omega), List.getElem?_eq_getElem _⟩
    obtain ⟨a', cap', hv', -, hr⟩ := h2
    injection hv' with e1 e2 e3
    subst e1
    obtain ⟨g, off, rfl, hc⟩ := hr 0 s hs
    have c0 : W.cell? ⟨g, off, none⟩ = some (pv s) := by
      have := hc 0 _ rfl
      simpa using this
    have hj := h3 0 s x hs rfl
    obtain ⟨s1, s2, s3⟩ := s
    simp only [pv] at c0 hj
    have hjn : jns [x] = x := jn_nil' x
    rw [hjn]
    have HJ := Lib.hid hj
    clear ih h1 h3 hs hr hc hl hn hj hjn
    simp only [List.length_cons, List.length_nil]
    go_enter Tryd.func59, Tryd.ntmps59
    go_wp2_with fail
    go_ret
    exact ⟨_, rfl, FsS.mono HJ.out (fun b q => .inl q), Below.refl _ _⟩
  · obtain ⟨l, hle⟩ : ∃ l, x :: y :: r = l := ⟨_, rfl⟩
    have hl2 : 2 ≤ l.length := by rw [← hle]; simp
    rw [hle] at hn hl hv ⊢
    obtain ⟨q, hq⟩ : ∃ q, l.length / 2 = q := ⟨_, rfl⟩
    obtain ⟨uf, hrf, hf⟩ := hv.front q (by omega)
    obtain ⟨ub, hrb, hb⟩ := hv.back q (by omega)
    have hspl : l.take q ++ l.drop q = l := List.take_append_drop q l
    have hls := lens_app (l.take q) (l.drop q)
    rw [hspl] at hls
    have hjs : jns l = jn (jns (l.take q)) (jns (l.drop q)) := by rw [← jns_app, hspl]
    have hlf : (l.take q).length = q := by rw [List.length_take]; omega
    have hlb : (l.drop q).length = l.length - q := by rw [List.length_drop]
    have n1 := jns_len (l.take q)
    have n2 := jns_len (l.drop q)
    have IF : Hid (∀ V, Below W.heap.size W V → Calls Tryd.prog 59 #[uf] V (JoQ S base V (jns (l.take q)))) := Lib.hid fun V hV => ih q (by omega) _ _ V hlf (hf.keep hS hV) (fun b h => Nat.lt_of_lt_of_le (hS b h) hV.size) (Nat.le_trans hbase hV.size) (by omega)
    have IB : Hid (∀ V, Below W.heap.size W V → Calls Tryd.prog 59 #[ub] V (JoQ S base V (jns (l.drop q)))) := Lib.hid fun V hV => ih (l.length - q) (by omega) _ _ V hlb (hb.keep hS hV) (fun b h => Nat.lt_of_lt_of_le (hS b h) hV.size) (Nat.le_trans hbase hV.size) (by omega)
    rw [hjs]
    obtain ⟨gf, hgf⟩ : ∃ gf, jns (l.take q) = gf := ⟨_, rfl⟩
    obtain ⟨gb, hgb⟩ : ∃ gb, jns (l.drop q) = gb := ⟨_, rfl⟩
    rw [hgf] at IF n1 ⊢
    rw [hgb] at IB n2 ⊢
    have HJ : Hid (∀ V x y, JR S base V x gf → JR S base V y gb → Calls Tryd.prog 71 #[x, y] V fun e w' => ∃ z, e = .returned z ∧ GOwn V.heap.size w' z (jn gf gb) ∧ Below V.heap.size V w') := Lib.hid fun V x y hx hy => sjoin_any gf gb x y V hx.1 hy.1 (by omega)
    have HS := Lib.hid hS
    have H0 := Lib.hid (Below.refl W.heap.size W).drew
    have hd : ((l.length : Int)).tdiv 2 = (q : Int) := by rw [← hq]; rfl
    have hnq : (l.length : Int) ≠ 0 := by omega
    obtain ⟨m, hm⟩ : ∃ m, (l.length : Int) = m := ⟨_, rfl⟩
    have k0 : (m == 0) = false := by simp; omega
    have k1 : (m == 1) = false := by simp; omega
    have hw1 : IntKind.i64.wrap (q : Int) = (q : Int) := wrap_any9 (by omega) (by omega)
    rw [hm] at hd
    have HQ := Lib.hid hrf
    have hsl : ∀ cap, Value.slice a l.length cap = .slice a l.length cap := fun _ => rfl
    clear ih hv hf hb hspl hls hjs hlf hlb n1 n2 hgf hgb hle hl hn hS hnq hl2 HQ hsl hq
    go_enter Tryd.func59, Tryd.ntmps59
    go_wp2_with fail
    first | (go_region_with (first
      | (go_at_call 59; (with_reducible refine (IF.out _ H0.out).mono ?_); rintro e w1 ⟨xf, rfl, f1, b1⟩; have F1 := Lib.hid f1; have B1 := Lib.hid b1; have HX1 := Lib.hid (H0.out.trans (b1.mono H0.out.size)); clear f1 b1)
      | (go_at_call 59; (with_reducible refine (IB.out _ H0.out).mono ?_); rintro e w1 ⟨xb, rfl, f1, b1⟩; have F1 := Lib.hid f1; have B1 := Lib.hid b1; have HX1 := Lib.hid (H0.out.trans (b1.mono H0.out.size)); clear f1 b1)
      | (go_at_call 59; (with_reducible refine (IF.out _ HX1.out).mono ?_); rintro e w2 ⟨xf, rfl, f2, b2⟩; have F2 := Lib.hid f2; have B2 := Lib.hid b2; clear f2 b2; have FF := Lib.hid F2.out; have FB := Lib.hid (F1.out.keep (fun b h => Nat.lt_of_lt_of_le (HS.out b h) HX1.out.size) B2.out); have HX2 := Lib.hid (HX1.out.trans (B2.out.mono HX1.out.size)))
      | (go_at_call 59; (with_reducible refine (IB.out _ HX1.out).mono ?_); rintro e w2 ⟨xb, rfl, f2, b2⟩; have F2 := Lib.hid f2; have B2 := Lib.hid b2; clear f2 b2; have FB := Lib.hid F2.out; have FF := Lib.hid (F1.out.keep (fun b h => Nat.lt_of_lt_of_le (HS.out b h) HX1.out.size) B2.out); have HX2 := Lib.hid (HX1.out.trans (B2.out.mono HX1.out.size)))
      | (go_at_call 71; (with_reducible refine (HJ.out _ _ _ FF.out FB.out).mono ?_); rintro e w3 ⟨xz, rfl, f3, b3⟩; have F3 := Lib.hid f3; have HX3 := Lib.hid (HX2.out.trans (b3.mono HX2.out.size)); clear f3 b3))) | skip
    all_goals
      have hz := HX2.out.size
      have hw2 : base ≤ w2.heap.size := Nat.le_trans hbase hz
      go_wp2_with fail
      go_ret
      exact ⟨_, rfl, JR.own F3.out hw2, HX3.out⟩
end Go.Proofs.YtaeplneiicobgaaDoor
namespace Go.Proofs.YtaeplneiicobgaaDoor
open Go.RowKit
attribute [local go_sem ↓ high] binop_addS builtin_appS binop_eqlS binop_neqS
set_option maxRecDepth 100000 in
set_option maxHeartbeats 8000000 in
theorem tblparts_any (I : ImplT) (hK : KnT) (b : Txt) (w : World) (hU : U8 w) (hb : b.length ≤ 9223372036854775807) :
    Calls Tryd.prog 3 #[.string ⟨b.toArray⟩] w fun e w' => e = .returned (.bool true) ∧ Below w.heap.size w w' := by
  have HK : Hid (∀ W, Below w.heap.size w W → Calls Tryd.prog 6 #[] W fun e w' => e = .returned (.bool true) ∧ Below w.heap.size w w') :=
    Lib.hid (fun W hb => (hK W (hU.below hb)).mono fun e w' ⟨e1, e2⟩ => ⟨e1, hb.trans (e2.mono hb.size)⟩)
  have hsz := arr_size b
  by_cases hg : 500 < b.length
  · have hg' : (500 : Int) < (b.length : Int) := by omega
    go_enter Tryd.func3, Tryd.ntmps3
    go_wp2_with fail
    refine (HK.out _ (Below.refl _ _)).mono ?_
    rintro e w9 ⟨rfl, b9⟩
    go_wp2_with fail
    go_ret
    exact ⟨rfl, b9⟩
  · have hg' : ¬ (500 : Int) < (b.length : Int) := by omega
    have H1 := Lib.hid (fun W (hW : Below w.heap.size w W) => I.look b W (hU.below hW) (by omega))
    have H2 := Lib.hid (fun W => rlook_any b W (by omega))
    have H3 := Lib.hid (fun W (hW : Below w.heap.size w W) => I.cols b W (hU.below hW) (by omega))
    have H4 := Lib.hid (fun W => rcols_any b W (by omega))
    have H5 := Lib.hid (fun W => I.cut b W (by omega))
    have H6 := Lib.hid (fun W => rsplit_any b 9 W (by omega))
    have hcl := cut_lnT 9 b
    have hln := lnT_num (cutB 9 b)
    obtain ⟨L, hL⟩ : ∃ L, cutB 9 b = L := ⟨_, rfl⟩
    rw [hL] at H5 H6 hln hcl
    have H7 := Lib.hid (fun v u W hv hu => sameS_any L L v u W hv hu (by omega) (by omega))
    obtain ⟨⟨x1, x2, x3⟩, hx⟩ : ∃ x, lookB b = x := ⟨_, rfl⟩
    obtain ⟨⟨y1, y2⟩, hy⟩ : ∃ x, colsB b = x := ⟨_, rfl⟩
    rw [hx] at H1 H2
    rw [hy] at H3 H4
    simp only at H1 H2 H3 H4
    have e1 : (x1 == x1) = true := by simp
    have e2 : (x2 == x2) = true := by simp
    have e3 : (x3 == x3) = true := by simp
    have e4 : (y2 == y2) = true := by simp
    have q1 : ∀ W, (eqlS (.string ⟨y1.toArray⟩) (.string ⟨y1.toArray⟩)).run Tryd.prog W = .ok (.bool true) W := fun W => by
      have := eqlS_run y1 y1 W
      simpa using this
    clear hL hx hy hln hcl hg
    go_enter Tryd.func3, Tryd.ntmps3
    go_wp2_with fail
    refine (H1.out _ (Below.refl _ _)).mono ?_
    rintro e w1 ⟨rfl, b1⟩
    go_wp2_with fail
    refine (H2.out _).mono ?_
    rintro e w2 ⟨rfl, b2⟩
    have B2 := Lib.hid (b1.trans (b2.mono b1.size))
    go_wp2_with fail
    refine (H3.out _ B2.out).mono ?_
    rintro e w3 ⟨rfl, b3⟩
    have B3 := Lib.hid (B2.out.trans (b3.mono B2.out.size))
    go_wp2_with fail
    refine (H4.out _).mono ?_
    rintro e w4 ⟨rfl, b4⟩
    have B4 := Lib.hid (B3.out.trans (b4.mono B3.out.size))
    clear H1 H2 H3 H4 b1 b2 b3 b4
    go_wp2_with fail
    refine (H5.out _).mono ?_
    rintro e w5 ⟨v, rfl, o5, b5⟩
    have B5 := Lib.hid (B4.out.trans (b5.mono B4.out.size))
    have O5 := Lib.hid (FOwn.sl scell_len o5)
    clear o5 b5
    go_wp2_with fail
    refine (H6.out _).mono ?_
    rintro e w6 ⟨u, rfl, o6, b6⟩
    have B6 := Lib.hid (B5.out.trans (b6.mono B5.out.size))
    have O6 := Lib.hid (FOwn.sl scell_len o6)
    have O5' := Lib.hid (O5.out.below b6)
    clear o6 b6
    go_wp2_with fail
    refine (H7.out _ _ _ O5'.out O6.out).mono ?_
    rintro e w7 ⟨rfl, m, rfl⟩
    have B7 := Lib.hid (below_drewN B6.out m)
    simp only [decide_true]
    go_wp2_with fail
    refine (HK.out _ B7.out).mono ?_
    rintro e w9 ⟨rfl, b9⟩
    go_wp2_with fail
    go_ret
    exact ⟨rfl, b9⟩
end Go.Proofs.YtaeplneiicobgaaDoor
