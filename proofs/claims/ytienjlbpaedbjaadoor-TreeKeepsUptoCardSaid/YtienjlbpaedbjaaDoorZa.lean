/- The program's Leaves: rows taken into a captured row; what a node has; each. -/
import Derived.Test.YtienjlbpaedbjaaDoorQ2
import Derived.Test.YtienjlbpaedbjaaDoorD4
import Derived.Laws.EntriesVeiled
import Derived.Laws.OwnMore
import Derived.Deep.RegionLaw
import Derived.Deep.RegionHeld3
import Derived.StillTailTactics
import Derived.Deep.DeepCutAuto
namespace Go.Proofs.YtienjlbpaedbjaaDoor
open Go.RowKit

/-- Blocks that stand while rows are taken into the row that block rb holds. -/
def St (rb base : Nat) (w : World) (k : Nat) : Prop := k < w.heap.size ∧ k ≠ rb ∧ (k < base ∨ ∀ cur fz, w.heap[k]? ≠ some (.cells cur 50 fz))
structure LF (rb base : Nat) (w w' : World) : Prop where
  os : w'.os = w.os
  tape : w'.tape = w.tape
  output : w'.output = w.output
  size : w.heap.size ≤ w'.heap.size
  blk : ∀ k, St rb base w k → w'.heap[k]? = w.heap[k]?
section
variable {rb base : Nat} {a b c w w' : World}
theorem LF.refl (rb base : Nat) (w : World) : LF rb base w w := ⟨rfl, rfl, rfl, Nat.le_refl _, fun _ _ => rfl⟩
theorem LF.st (h : LF rb base w w') {k : Nat} (q : St rb base w k) : St rb base w' k :=
  ⟨Nat.lt_of_lt_of_le q.1 h.size, q.2.1, q.2.2.imp id fun z cur fz => by rw [h.blk k q]; exact z cur fz⟩
theorem LF.trans (h : LF rb base a b) (k : LF rb base b c) : LF rb base a c :=
  ⟨k.os.trans h.os, k.tape.trans h.tape, k.output.trans h.output, Nat.le_trans h.size k.size, fun i q => (k.blk i (h.st q)).trans (h.blk i q)⟩
theorem LF.of (h : Below w.heap.size w w') : LF rb base w w' := ⟨h.os, h.tape, h.output, h.size, fun k q => h.block k q.1⟩
theorem LF.grown {row : Option Nat} (hg : w.grownBy w' row) (hrow : ∀ g, row = some g → base ≤ g ∧ ∃ cur fz, w.heap[g]? = some (.cells cur 50 fz)) : LF rb base w w' :=
  ⟨hg.os, hg.tape, hg.output, hg.size, fun k q => hg.block k q.1 fun e => by
    obtain ⟨q1, cur, fz, q2⟩ := hrow k e.symm
    rcases q.2.2 with z | z
    · omega
    · exact z cur fz q2⟩
theorem LF.set (w : World) (j : Nat) (v : Value) : LF rb base w (w.setCell ⟨rb, j, none⟩ v) :=
  ⟨rfl, rfl, rfl, by simp [World.setCell], fun k q => Below.heap_setCell w ⟨rb, j, none⟩ v k q.2.1⟩
theorem LF.below (h : LF rb base w w') {D : Nat} (hD : D ≤ w.heap.size) (h1 : D ≤ rb) (h2 : D ≤ base) : Below D w w' :=
  ⟨h.os, h.tape, h.output, h.size, fun k hk => h.blk k ⟨by omega, by omega, .inl (by omega)⟩⟩
theorem LF.kp (h : LF rb base w w') {S : Nat → Prop} (hS : ∀ b, S b → St rb base w b) : Kp S w w' := fun b hb => h.blk b (hS b hb)
theorem St.of {e : TypeId} {L : List Value} {g : Nat} (h : Blk w g e L) (hg : g ≠ rb) (he : e ≠ 50) : St rb base w g :=
  ⟨h.lt, hg, .inr fun cur fz q => by
    have h' : w.heap[g]? = some (.cells L.toArray e (0, 0)) := h
    rw [h'] at q
    injection q with q
    injection q with _ q2 _
    exact he q2⟩
theorem LF.keepb (h : LF rb base w w') {e : TypeId} {L : List Value} {g : Nat} (hb : Blk w g e L) (hg : g ≠ rb) (he : e ≠ 50) : Blk w' g e L := (h.blk g (St.of hb hg he)).trans hb
end
theorem grown_set (w : World) (g j : Nat) (v : Value) : w.grownBy (w.setCell ⟨g, j, none⟩ v) (some g) :=
  ⟨rfl, rfl, rfl, by simp [World.setCell], fun k _ hne => Below.heap_setCell w ⟨g, j, none⟩ v k (fun e => hne (by rw [e]))⟩

/-- The row so far. -/
structure Tk (rb base : Nat) (w0 : World) (l : List Gly) (w : World) : Prop where
  bs : base ≤ w.heap.size
  lf : LF rb base w0 w
  row : ∃ v, Blk w rb 36 [v] ∧ GOwn base w v l
theorem Tk.on {rb base : Nat} {w0 w w' : World} {l : List Gly} (h : Tk rb base w0 l w) (hb : Below w.heap.size w w') : Tk rb base w0 l w' := by
  obtain ⟨v, h1, h2⟩ := h.row
  exact ⟨Nat.le_trans h.bs hb.size, h.lf.trans (LF.of hb), v, h1.below hb, h2.keep hb⟩
theorem Tk.from {rb base : Nat} {w0 w1 w : World} {l : List Gly} (h : Tk rb base w1 l w) (h0 : LF rb base w0 w1) : Tk rb base w0 l w := ⟨h.bs, h0.trans h.lf, h.row⟩
theorem take_step {rb base : Nat} {w0 w : World} {l r : List Gly} {t : Value} (h : Tk rb base w0 l w) (ht : Gs w t r) (hl : l.length + r.length ≤ 1000000) :
    ∃ v xa xn xc w', w.cell? ⟨rb, 0, none⟩ = some v ∧ (appG #[v, t]).run Tryd.prog w = .ok (.value (.slice xa xn xc)) w' ∧ (w'.cell? ⟨rb, 0, none⟩ = some v ∧ w'.frozen? ⟨rb, 0, none⟩ = false) ∧ Tk rb base w0 (l ++ r) (w'.setCell ⟨rb, 0, none⟩ (.slice xa xn xc)) := by
  obtain ⟨v, h1, h2⟩ := h.row
  obtain ⟨x, w', hr, ho, hg, hq⟩ := appG_own h2 ht h.bs hl
  obtain ⟨xa, xc, hxe⟩ := (FOwn.sl gcell_len ho).len
  subst hxe
  have hne : some rb ≠ v.ownBlock := fun e => by
    obtain ⟨-, cur, hc⟩ := h2.ty e.symm
    have h1' : w.heap[rb]? = some (.cells [v].toArray 36 (0, 0)) := h1
    rw [h1'] at hc
    injection hc with hc
    injection hc with _ hc _
    exact absurd hc (by decide)
  have h1' : Blk w' rb 36 [v] := (hg.block rb h1.lt hne).trans h1
  have hne' : (Value.slice xa (l ++ r).length xc).ownBlock ≠ some rb := fun e => by
    rcases hq with q | q
    · exact hne (by rw [← q, e])
    · rw [q] at e
      injection e with e
      have := h1.lt
      omega
  refine ⟨v, xa, _, xc, w', h1.cell 0, hr, ⟨h1'.cell 0, h1'.frozen (by simp)⟩, ⟨?_, ?_, _, h1'.set 0 _, ?_⟩⟩
  · exact Nat.le_trans h.bs (Nat.le_trans hg.size (by simp [World.setCell]))
  · exact (h.lf.trans (LF.grown hg fun g e => by obtain ⟨q1, cur, q2⟩ := h2.ty e; exact ⟨q1, cur, _, q2⟩)).trans (LF.set w' 0 _)
  · exact ho.apart (grown_set w' rb 0 _) (.inr hne')
theorem flat_next {α : Type} {l : List (List α)} {p : Nat} {x : List α} (hx : l[p]? = some x) : (l.take (p + 1)).flatten = (l.take p).flatten ++ x := by
  rw [List.take_add_one, hx]
  simp
theorem flat_len {α : Type} (l : List (List α)) : l.flatten.length = lens l := by unfold lens; rw [List.length_flatten]

attribute [local go_sem ↓ high] builtin_appG
set_option maxRecDepth 100000 in
set_option maxHeartbeats 2000000 in
theorem take_any (rb base : Nat) (w0 : World) (S : Nat → Prop) (rows : List (List Gly)) (u : Value) (acc : List Gly) (w : World) (hT : Tk rb base w0 acc w) (hu : GrS S w u rows) (hS : ∀ b, S b → St rb base w b) (hrl : rows.length ≤ 1000000) (hl : acc.length + lens rows ≤ 1000000) :
    Calls Tryd.prog 53 #[u, .pointer (some ⟨rb, 0, none⟩)] w fun e w' => e = .returned (.tuple #[]) ∧ Tk rb base w0 (acc ++ rows.flatten) w' ∧ LF rb base w w' := by
  have hT' : Tk rb base w acc w := ⟨hT.bs, LF.refl _ _ _, hT.row⟩
  have HL0 := Lib.hid hT.lf
  have HU := Lib.hid hu
  have HS := Lib.hid hS
  obtain ⟨aa, ca, rfl⟩ := hu.len
  clear hu hS hT
  go_enter Tryd.func53, Tryd.ntmps53
  go_wp2_with fail
  go_loopw [7] (fun i wr => ∃ (p : Nat), i = .int .i64 (p : Int) ∧ p ≤ rows.length ∧ Hid (Tk rb base w (acc ++ (rows.take p).flatten) wr)) (fun i _ => rows.length - (intOf i).toNat)
  case atStart => exact ⟨0, rfl, by omega, Lib.hid (by simpa using hT')⟩
  case round =>
    obtain ⟨p, rfl, hp, HK⟩ := hrel
    by_cases hlt : p < rows.length
    · obtain ⟨r, hr⟩ : ∃ r, rows[p]? = some r := ⟨rows[p], List.getElem?_eq_getElem hlt⟩
      have hlt' : (p : Int) < (rows.length : Int) := by omega
      have hp0 : (0 : Int) ≤ (p : Int) := by omega
      have HN := Lib.hid (flat_next hr)
      obtain ⟨g, off, b, c, rfl, -, c0, hF⟩ := (HU.out.keep (HK.out.lf.kp HS.out)).at hr
      have hle := lens_le hr
      have hfl := flat_len (rows.take p)
      obtain ⟨v, xa, xn, xc, w1, c1, hrun, ⟨c2, f2⟩, hT2⟩ := take_step HK.out hF.1 (by rw [List.length_append]; omega)
      have HT2 := Lib.hid hT2
      clear hT2 hF hr hfl
      go_wp2_with fail
      go_roundw
      case rel => exact ⟨p + 1, by go_num, by omega, Lib.hid (by rw [HN.out, ← List.append_assoc]; exact HT2.out)⟩
      case measure => (simp [intOf]; try omega)
    · obtain rfl : p = rows.length := by omega
      have hlt' : ¬ (rows.length : Int) < (rows.length : Int) := by omega
      rw [List.take_length] at HK
      go_wp2_with fail
      go_end0
      exact ⟨rfl, HK.out.from HL0.out, HK.out.lf⟩

/-- All glyphs of a node's own. -/
def hdAll (h : Hd) : List Gly := h.text ++ h.rows.flatten ++ h.grid.rows.flatMap fun r => r.2.flatten
theorem ink_app (a b : List Gly) : ink (a ++ b) = ink a ++ ink b := by simp [ink]
theorem ink_flat (l : List (List Gly)) : ink l.flatten = inks l := by
  induction l with
  | nil => rfl
  | cons x l ih => rw [List.flatten_cons, ink_app, ih]; simp [inks]
theorem ink_rows (l : List Trow) : ink (l.flatMap fun r => r.2.flatten) = l.flatMap fun r => inks r.2 := by
  induction l with
  | nil => rfl
  | cons x l ih => rw [List.flatMap_cons, ink_app, ih, ink_flat]; simp
theorem ink_hd (h : Hd) : ink (hdAll h) = hdInk h := by unfold hdAll hdInk; rw [ink_app, ink_app, ink_flat, ink_rows]
theorem rows_len (l : List Trow) : (l.flatMap fun r => r.2.flatten).length ≤ trls l := by
  induction l with
  | nil => simp [trls]
  | cons x l ih =>
    rw [List.flatMap_cons, List.length_append, flat_len]
    simp only [trls, List.map_cons, List.sum_cons] at ih ⊢
    have e : trl x = 1 + x.2.length + lens x.2 := rfl
    omega
theorem hdAll_len (h : Hd) : (hdAll h).length + 3 ≤ hdl h := by
  have := rows_len h.grid.rows
  unfold hdAll hdl
  rw [List.length_append, List.length_append, flat_len]
  omega
theorem rowsAll_next {l : List Trow} {p : Nat} {x : Trow} (hx : l[p]? = some x) : ((l.take (p + 1)).flatMap fun r => r.2.flatten) = ((l.take p).flatMap fun r => r.2.flatten) ++ x.2.flatten := by
  rw [List.take_add_one, hx]
  simp

/-- A call of take, in any world behind X. -/
theorem take_call {rb base : Nat} {w0 X : World} {S : Nat → Prop} {rows : List (List Gly)} {u : Value} {acc : List Gly} (hT : Tk rb base w0 acc X) (hu : GrS S X u rows) (hS : ∀ b, S b → St rb base X b) (hrl : rows.length ≤ 1000000) (hl : acc.length + lens rows ≤ 1000000) :
    ∀ W, Below X.heap.size X W → Calls Tryd.prog 53 #[u, .pointer (some ⟨rb, 0, none⟩)] W fun e w' => e = .returned (.tuple #[]) ∧ Tk rb base w0 (acc ++ rows.flatten) w' ∧ LF rb base X w' := fun W hb =>
  (take_any rb base w0 S rows u acc W (hT.on hb) (hu.keep (Kp.below hb fun b q => (hS b q).1)) (fun b q => (LF.of hb).st (hS b q)) hrl hl).mono fun e w' ⟨h1, h2, h3⟩ => ⟨h1, h2, (LF.of hb).trans h3⟩
theorem grs_one {S : Nat → Prop} {w : World} {s : PV} {l : List Gly} (h : FsS S 2 gcell w (pv s) l) (hS : ∀ b, S b → b < w.heap.size) :
    GrS (fun b => S b ∨ b = w.heap.size) (w.alloc (.cells [pv s].toArray 36)) (.slice (some ⟨w.heap.size, 0, none⟩) 1 1) [l] := by
  have hb := below_lit w (.cells [pv s].toArray 36)
  refine ⟨[s], rfl, ⟨?_, fun a k c e _ => ?_⟩, fun i s' r h1 h2 => ?_⟩
  · have := fs_lit pcell_len w 36 [s]
    rw [flatV_one] at this
    exact this
  · injection e with e1
    injection e1 with e1
    subst e1
    exact .inr rfl
  · match i, h1, h2 with
    | 0, h1, h2 =>
      simp at h1 h2
      subst h1 h2
      exact (h.keep (Kp.below hb hS)).mono fun b q => .inl q
    | i + 1, h1, _ => simp at h1

set_option maxRecDepth 100000 in
set_option maxHeartbeats 4000000 in
theorem leaves_any (rb tb base : Nat) (w0 : World) (S : Nat → Prop) (x : NV) (h : Hd) (acc : List Gly) (w : World) (hT : Tk rb base w0 acc w) (htb : Blk w tb 73 [.func (.func 53) #[] #[.pointer (some ⟨rb, 0, none⟩)]]) (hne : tb ≠ rb)
    (hh : HdIs S w x h) (hS : ∀ b, S b → St rb base w b) (hl : acc.length + hdl h ≤ 500000) :
    Calls Tryd.prog 54 #[.agg (ncell x).toArray, .pointer (some ⟨tb, 0, none⟩)] w fun e w' => e = .returned (.tuple #[]) ∧ Tk rb base w0 (acc ++ hdAll h) w' ∧ LF rb base w w' := by
  have hrb : rb < w.heap.size := by obtain ⟨v, h1, -⟩ := hT.row; exact h1.lt
  obtain ⟨X1, hX1⟩ : ∃ X1, X1 = w.alloc (.cells (ncell x).toArray 39) := ⟨_, rfl⟩
  have b1 : Below w.heap.size w X1 := by rw [hX1]; exact below_lit _ _
  have kX : Blk X1 w.heap.size 39 (ncell x) := by rw [hX1]; exact heap_alloc_new w _
  have sX : w.heap.size < X1.heap.size := kX.lt
  obtain ⟨X2, hX2⟩ : ∃ X2, X2 = X1.alloc (.cells [pv x.text].toArray 36) := ⟨_, rfl⟩
  have b2 : Below X1.heap.size X1 X2 := by rw [hX2]; exact below_lit _ _
  have kL : Blk X2 X1.heap.size 36 [pv x.text] := by rw [hX2]; exact heap_alloc_new X1 _
  have b12 : Below w.heap.size w X2 := b1.trans (b2.mono b1.size)
  have hS1 : ∀ b, S b → b < w.heap.size := fun b q => (hS b q).1
  have hg := grs_one (w := X1) (hh.text.keep (Kp.below b1 hS1)) (fun b q => Nat.lt_of_lt_of_le (hS1 b q) b1.size)
  rw [← hX2] at hg
  have hsum : hdl h = 3 + h.text.length + h.grid.cols.length + (h.rows.length + lens h.rows) + trls h.grid.rows := rfl
  have hcall1 := take_call (hT.on b12) hg (fun b q => by
    rcases q with q | rfl
    · exact (LF.of b12).st (hS b q)
    · exact St.of kL (by omega) (by decide)) (by simp) (by simp [lens]; omega)
  have HC1 := Lib.hid hcall1
  have HK := Lib.hid kX
  have HT := Lib.hid htb
  have HH := Lib.hid hh
  have HS := Lib.hid hS
  have HX1 := Lib.hid hX1
  have HX2 := Lib.hid hX2
  have HB := Lib.hid b12
  have HB2 := Lib.hid b2
  have hwt : w.heap.size ≠ rb := by omega
  obtain ⟨xk, xl, xn, ⟨t1, t2, t3⟩, ⟨k1, k2, k3⟩, ⟨r1, r2, r3⟩, xc, ⟨q1, q2, q3⟩, xb, xa⟩ := x
  simp only [ncell, pv] at HX2 HK
  have e0 : X1.cell? ⟨tb, 0, none⟩ = some (.func (.func 53) #[] #[.pointer (some ⟨rb, 0, none⟩)]) := (htb.below b1).cell 0
  have e1 : X1.cell? ⟨w.heap.size, 3, none⟩ = some (.slice t1 t2 t3) := kX.cell 3
  clear hX1 hX2 hT hh hS htb hcall1 hg kX b1 b2 b12 kL
  go_enter Tryd.func54, Tryd.ntmps54
  go_upto_region 1 with fail
  rw [← HX1.out]
  go_wp2_with fail
  rw [← HX2.out]
  refine (HC1.out X2 (Below.refl _ _)).mono ?_
  rintro e w3 ⟨rfl, hT3, hL3⟩
  have hL03 : LF rb base w w3 := (LF.of HB.out).trans hL3
  have hB3 : Blk w3 w.heap.size 39 [.int .i64 xk, .int .i64 xl, .int .i64 xn, .slice t1 t2 t3, .slice k1 k2 k3, .slice r1 r2 r3, .string ⟨xc.toArray⟩, .slice q1 q2 q3, .bool xb, .bool xa] := hL3.keepb (HK.out.below HB2.out) hwt (by decide)
  have hH3 := HH.out.keep (hL03.kp HS.out)
  have hS3 : ∀ b, S b → St rb base w3 b := fun b q => hL03.st (HS.out b q)
  have g0 : w3.cell? ⟨tb, 0, none⟩ = some (.func (.func 53) #[] #[.pointer (some ⟨rb, 0, none⟩)]) := (hL03.keepb HT.out hne (by decide)).cell 0
  have g1 : w3.cell? ⟨w.heap.size, 5, none⟩ = some (.slice r1 r2 r3) := hB3.cell 5
  have hc2 := take_call hT3 hH3.rows hS3 (by omega) (by simp; omega)
  have HC2 := Lib.hid hc2
  have HL3 := Lib.hid hL03
  have HB3 := Lib.hid hB3
  clear e0 e1 hT3 hL3 hL03 hB3 hH3 hS3 hc2 HC1 HX1 HX2 HK HB HB2
  simp only [pv] at HC2
  go_wp2_with fail
  refine (HC2.out w3 (Below.refl _ _)).mono ?_
  rintro e w4 ⟨rfl, hT4, hL4⟩
  have hL04 := HL3.out.trans hL4
  have g7 : w4.cell? ⟨w.heap.size, 7, none⟩ = some (.slice q1 q2 q3) := (hL4.keepb HB3.out hwt (by decide)).cell 7
  have hq := (HH.out.keep (hL04.kp HS.out)).trows
  simp only [pv] at hq
  obtain ⟨qa, qc, hqe⟩ := hq.len
  injection hqe with hq1 hq2 hq3
  subst hq1 hq2 hq3
  have HQ := Lib.hid hq
  have HT4 := Lib.hid hT4
  have HL4 := Lib.hid hL04
  have htl := trls_len h.grid.rows
  clear g0 g1 hT4 hL4 hL04 hq HC2 HL3 HB3
  go_wp2_with fail
  go_loopw [18] (fun i wr => ∃ (p : Nat), i = .int .i64 (p : Int) ∧ p ≤ h.grid.rows.length ∧ Hid (Tk rb base w0 (acc ++ h.text ++ h.rows.flatten ++ ((h.grid.rows.take p).flatMap fun r => r.2.flatten)) wr) ∧ Hid (LF rb base w wr)) (fun i _ => h.grid.rows.length - (intOf i).toNat)
  case atStart => exact ⟨0, rfl, by omega, Lib.hid (by simpa using HT4.out), HL4⟩
  case round =>
    obtain ⟨p, rfl, hp, HTr, HLr⟩ := hrel
    by_cases hlt : p < h.grid.rows.length
    · obtain ⟨r, hr⟩ : ∃ r, h.grid.rows[p]? = some r := ⟨h.grid.rows[p], List.getElem?_eq_getElem hlt⟩
      have hlt' : (p : Int) < (h.grid.rows.length : Int) := by omega
      have hp0 : (0 : Int) ≤ (p : Int) := by omega
      have HN := Lib.hid (rowsAll_next hr)
      have hle := trls_le hr
      have htr : trl r = 1 + r.2.length + lens r.2 := rfl
      have hfl := rows_len (h.grid.rows.take p)
      have hfl2 := flat_len h.rows
      obtain ⟨g, off, b, c, rfl, -, c0, c1, hG⟩ := ((HH.out.keep (HLr.out.kp HS.out)).trows).at hr
      obtain ⟨X, hX⟩ : ∃ X, X = wr.alloc (.cells [.bool r.1, .slice b r.2.length c].toArray 60) := ⟨_, rfl⟩
      have bX : Below wr.heap.size wr X := by rw [hX]; exact below_lit _ _
      have kX : Blk X wr.heap.size 60 [.bool r.1, .slice b r.2.length c] := by rw [hX]; exact heap_alloc_new wr _
      have lX : LF rb base w X := HLr.out.trans (LF.of bX)
      have hSr : ∀ b, S b → St rb base wr b := fun b q => HLr.out.st (HS.out b q)
      have hcall := take_call (HTr.out.on bX) (hG.keep (Kp.below bX fun b q => (hSr b q).1)) (fun b q => (LF.of bX).st (hSr b q)) (by omega) (by simp only [List.length_append]; omega)
      have z1 : X.cell? ⟨wr.heap.size, 1, none⟩ = some (.slice b r.2.length c) := kX.cell 1
      have z2 : X.cell? ⟨tb, 0, none⟩ = some (.func (.func 53) #[] #[.pointer (some ⟨rb, 0, none⟩)]) := (lX.keepb HT.out hne (by decide)).cell 0
      have HC := Lib.hid hcall
      have HXW := Lib.hid hX
      have HLX := Lib.hid lX
      clear hX bX kX lX hSr hcall hr hle hfl hfl2 hG
      go_upto_region 6 with fail
      rw [← HXW.out]
      clear c0 c1
      go_wp2_with fail
      refine (HC.out X (Below.refl _ _)).mono ?_
      rintro e w6 ⟨rfl, hT6, hL6⟩
      have HT6 := Lib.hid hT6
      have HL6 := Lib.hid (HLX.out.trans hL6)
      clear hT6 hL6 HC HXW z1 z2
      go_wp2_with fail
      go_roundw
      case rel => exact ⟨p + 1, by go_num, by omega, Lib.hid (by rw [HN.out, ← List.append_assoc]; exact HT6.out), HL6⟩
      case measure => (simp [intOf]; try omega)
    · obtain rfl : p = h.grid.rows.length := by omega
      have hlt' : ¬ (h.grid.rows.length : Int) < (h.grid.rows.length : Int) := by omega
      rw [List.take_length] at HTr
      go_wp2_with fail
      go_end0
      exact ⟨rfl, by have := HTr.out; unfold hdAll; rwa [← List.append_assoc, ← List.append_assoc], HLr.out⟩
end Go.Proofs.YtienjlbpaedbjaaDoor
