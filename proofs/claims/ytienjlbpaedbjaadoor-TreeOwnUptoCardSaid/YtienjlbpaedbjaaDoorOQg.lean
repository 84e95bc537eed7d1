/- The program's own for documents: tidy without a count; nodes that count, and are left. The program's own for documents: a node is added. -/
import Derived.Test.YtienjlbpaedbjaaDoorOQe
namespace Go.Proofs.YtienjlbpaedbjaaDoor
open Go.RowKit

mutual
/-- A node put right, within a kind, so deep, however many. -/
def tfN : Nd → Int → Nat → List Nd
  | .mk h ks, w, d =>
    if innerB h w then
      (if fullB (ownH h (kindAt h.kind w)) (hasK (tfL ks (kindAt h.kind w) (d + 1))) then [.mk (ownH h (kindAt h.kind w)) (tfL ks (kindAt h.kind w) (d + 1))] else [])
    else
      (if fullB (ownH h (kindAt h.kind w)) false then [.mk (ownH h (kindAt h.kind w)) []] else []) ++ (if mayK h.kind then tfL ks w d else [])
def tfL : List Nd → Int → Nat → List Nd
  | [], _, _ => []
  | x :: l, w, d => if 20 ≤ d then [] else tfN x w d ++ tfL l w d
end
theorem tfL_nil (w : Int) (d : Nat) : tfL [] w d = [] := by simp [tfL]
theorem tfL_cons (x : Nd) (l : List Nd) (w : Int) (d : Nat) : tfL (x :: l) w d = if 20 ≤ d then [] else tfN x w d ++ tfL l w d := by
  conv => lhs; unfold tfL
theorem tfN_mk (h : Hd) (ks : List Nd) (w : Int) (d : Nat) : tfN (.mk h ks) w d = if innerB h w then
      (if fullB (ownH h (kindAt h.kind w)) (hasK (tfL ks (kindAt h.kind w) (d + 1))) then [.mk (ownH h (kindAt h.kind w)) (tfL ks (kindAt h.kind w) (d + 1))] else [])
    else
      (if fullB (ownH h (kindAt h.kind w)) false then [.mk (ownH h (kindAt h.kind w)) []] else []) ++ (if mayK h.kind then tfL ks w d else []) := by
  conv => lhs; unfold tfN
theorem tfL_deep (l : List Nd) (w : Int) (d : Nat) (h : 20 ≤ d) : tfL l w d = [] := by
  cases l with
  | nil => exact tfL_nil w d
  | cons x l => rw [tfL_cons, if_pos h]
theorem tfL_app : ∀ (a b : List Nd) (w : Int) (d : Nat), tfL (a ++ b) w d = tfL a w d ++ tfL b w d
  | [], b, w, d => by rw [tfL_nil]; simp
  | x :: a, b, w, d => by
    rw [List.cons_append, tfL_cons, tfL_cons x a]
    by_cases h : 20 ≤ d
    · rw [if_pos h, if_pos h, tfL_deep b w d h]; rfl
    · rw [if_neg h, if_neg h, tfL_app a b, List.append_assoc]
theorem tf_next {l : List Nd} {p : Nat} {y : Nd} (hy : l[p]? = some y) (w : Int) (d : Nat) (h : ¬ 20 ≤ d) : tfL (l.take (p + 1)) w d = tfL (l.take p) w d ++ tfN y w d := by
  rw [take_snoc' hy, tfL_app, tfL_cons, if_neg h, tfL_nil, List.append_nil]
mutual
theorem tdN_tf : ∀ (x : Nd) (w : Int) (d n : Nat), cntN x ≤ n + 1 → (tdN x w d n).1 = tfN x w d ∧ n + 1 ≤ (tdN x w d n).2 + cntN x
  | .mk h ks, w, d, n, hn => by
    rw [tdN_mk, tfN_mk]
    have hc : cntN (.mk h ks) = 1 + cntL ks := by simp [cntN]
    rw [hc] at hn ⊢
    by_cases hi : innerB h w = true
    · rw [if_pos hi, if_pos hi]
      obtain ⟨h1, h2⟩ := tdL_tf ks (kindAt h.kind w) (d + 1) n (by omega)
      simp only
      rw [h1]
      exact ⟨rfl, by omega⟩
    · rw [if_neg hi, if_neg hi]
      obtain ⟨h1, h2⟩ := tdL_tf ks w d n (by omega)
      simp only
      rw [h1]
      refine ⟨rfl, ?_⟩
      split <;> omega
theorem tdL_tf : ∀ (l : List Nd) (w : Int) (d n : Nat), cntL l ≤ n → (tdL l w d n).1 = tfL l w d ∧ n ≤ (tdL l w d n).2 + cntL l
  | [], w, d, n, _ => by rw [tdL_nil, tfL_nil]; exact ⟨rfl, by simp⟩
  | x :: l, w, d, n, hn => by
    rw [tdL_cons, tfL_cons]
    have hc : cntL (x :: l) = cntN x + cntL l := by simp [cntL]
    have hp := cntN_eq x
    rw [hc] at hn ⊢
    by_cases hd : 20 ≤ d
    · rw [if_pos (.inr hd), if_pos hd]
      exact ⟨rfl, by simp only; omega⟩
    · rw [if_neg (by omega), if_neg hd]
      obtain ⟨h1, h2⟩ := tdN_tf x w d (n - 1) (by omega)
      obtain ⟨h3, h4⟩ := tdL_tf l w d (tdN x w d (n - 1)).2 (by omega)
      simp only
      rw [h1, h3]
      exact ⟨rfl, by omega⟩
end
theorem tf_tidy {l : List Nd} (h : cntL l ≤ 20000) : tfL l 0 0 = tidyL l := ((tdL_tf l 0 0 20000 h).1).symm
mutual
theorem tfN_len : ∀ (x : Nd) (w : Int) (d : Nat), (tfN x w d).length ≤ cntN x
  | .mk h ks, w, d => by
    rw [tfN_mk]
    have hc : cntN (.mk h ks) = 1 + cntL ks := by simp [cntN]
    rw [hc]
    have := tfL_len ks w d
    split
    · split <;> simp
    · rw [List.length_append]
      split <;> split <;> simp <;> omega
theorem tfL_len : ∀ (l : List Nd) (w : Int) (d : Nat), (tfL l w d).length ≤ cntL l
  | [], w, d => by rw [tfL_nil]; simp
  | x :: l, w, d => by
    rw [tfL_cons]
    have hc : cntL (x :: l) = cntN x + cntL l := by simp [cntL]
    rw [hc]
    have h1 := tfN_len x w d
    have h2 := tfL_len l w d
    split
    · simp
    · rw [List.length_append]; omega
end

/-- A node as it lies, in a later world; what it says, as it was. -/
theorem NsS.atK {S : Nat → Prop} {w w' : World} {a : Option Addr} {k cap : Nat} {l : List Nd} (h : NsS S w (.slice a k cap) l) (hk : Kp S w w') {j : Nat} {y : Nd} (hy : l[j]? = some y) :
    ∃ g off x, a = some ⟨g, off, none⟩ ∧ NC w' g (off + j * 10) x ∧ HdIs S w x y.hd ∧ NsS S w (pv x.kids) y.kids := by
  obtain ⟨g, off, x, e, hg, hc, hh, hK⟩ := h.atR hy
  have c : ∀ (i : Nat) c, (ncell x)[i]? = some c → w'.cell? ⟨g, off + j * 10 + i, none⟩ = some c := fun i c hi => (World.cell?_of_block (hk g hg)).trans (hc i c hi)
  exact ⟨g, off, x, e, ⟨c 0 _ rfl, c 1 _ rfl, c 2 _ rfl, c 3 _ rfl, c 4 _ rfl, c 5 _ rfl, c 6 _ rfl, c 7 _ rfl, c 8 _ rfl, c 9 _ rfl⟩, hh, hK⟩
abbrev cntF (lb : Nat) : Value := .func (.func 31) #[] #[.pointer (some ⟨lb, 0, none⟩)]
set_option maxRecDepth 100000 in
theorem pcounts_any (lb k : Nat) (w : World) (hB : Blk w lb 3 [.int .i64 (k : Int)]) (h1 : 1 ≤ k) (hk : k ≤ 1000000000) :
    Calls Tryd.prog 31 #[.pointer (some ⟨lb, 0, none⟩)] w fun e w' => e = .returned (.bool true) ∧ Blk w' lb 3 [.int .i64 ((k - 1 : Nat) : Int)] ∧ Exc (· = lb) w w' := by
  have c0 : w.cell? ⟨lb, 0, none⟩ = some (.int .i64 (k : Int)) := hB.cell 0
  have f0 : w.frozen? ⟨lb, 0, none⟩ = false := hB.frozen (by simp)
  have e : ((k - 1 : Nat) : Int) = (k : Int) - 1 := by omega
  have h2 := hB.set 0 (.int .i64 ((k : Int) - 1))
  have c1 : (w.setCell ⟨lb, 0, none⟩ (.int .i64 ((k : Int) - 1))).cell? ⟨lb, 0, none⟩ = some (.int .i64 ((k : Int) - 1)) := h2.cell 0
  have H2 := Lib.hid h2
  have HX := Lib.hid ((Exc.refl (· = lb) w).set (g := lb) 0 (.int .i64 ((k : Int) - 1)) (fun _ => rfl))
  have w1 : IntKind.i64.wrap ((k : Int) - 1) = (k : Int) - 1 := IntWalk.i64_in _ (by omega)
  have p0 : (0 : Int) ≤ (k : Int) - 1 := by omega
  have p0' : (1 : Int) ≤ (k : Int) := by omega
  rw [e]
  clear h2 hB e
  go_enter Tryd.func31, Tryd.ntmps31
  go_wp2_with fail
  go_ret
  exact ⟨ret_bool (by simp), H2.out, HX.out⟩
/-- A place, by value. -/
abbrev plcL (m : Int) (d lb : Nat) : List Value := [.int .i64 m, .int .i64 (d : Int), cntF lb]
set_option maxRecDepth 100000 in
set_option maxHeartbeats 2000000 in
theorem pleave_any (SI : Nat → Prop) (w0 : World) (lb : Nat) (hlb : w0.heap.size ≤ lb) (hSI : ∀ b, SI b → b < w0.heap.size) (m : Int) (d : Nat) : ∀ (n : Nat) (l : List Nd), cntL l = n → ∀ (k : Nat) (v : Value) (w : World), n ≤ k → k ≤ 20000 → NsS SI w0 v l → Below w0.heap.size w0 w → Blk w lb 3 [.int .i64 (k : Int)] →
    Calls Tryd.prog 63 #[.agg (plcL m d lb).toArray, v] w fun e w' => e = .returned (.tuple #[]) ∧ Blk w' lb 3 [.int .i64 ((k - cntL l : Nat) : Int)] ∧ Exc (· = lb) w w' := by
  intro n
  induction n using Nat.strongRecOn with
  | _ n IH =>
    intro l hn k v w hk hk2 hv hbw hB
    subst hn
    have HV := Lib.hid hv
    have HS := Lib.hid hSI
    have HLB := Lib.hid hlb
    obtain ⟨aa, ca, rfl⟩ := hv.len
    have HI : Hid (∀ (q : List Nd), cntL q < cntL l → ∀ (k : Nat) (v : Value) (w : World), cntL q ≤ k → k ≤ 20000 → NsS SI w0 v q → Below w0.heap.size w0 w → Blk w lb 3 [.int .i64 (k : Int)] →
      Calls Tryd.prog 63 #[.agg (plcL m d lb).toArray, v] w fun e w' => e = .returned (.tuple #[]) ∧ Blk w' lb 3 [.int .i64 ((k - cntL q : Nat) : Int)] ∧ Exc (· = lb) w w') := Lib.hid (fun q hq => IH (cntL q) hq q rfl)
    have hll := cnt_len l
    have HBW := Lib.hid hbw
    obtain ⟨W1, hW1⟩ : ∃ W, W = w.alloc (.cells (plcL m d lb).toArray 52) := ⟨_, rfl⟩
    have b1 : Below w.heap.size w W1 := by rw [hW1]; exact below_lit _ _
    have HX1 : Hid (Blk W1 w.heap.size 52 (plcL m d lb)) := Lib.hid (by rw [hW1]; exact heap_alloc_new w _)
    have HB1 := Lib.hid (hB.below b1)
    have HZ : Hid (w.heap.size ≠ lb) := Lib.hid (fun e => by have := hB.lt; omega)
    have HE1 : Hid (Exc (· = lb) w W1) := Lib.hid (Exc.of b1)
    simp only [plcL, cntF] at hW1 ⊢
    have HW1 := Lib.hid hW1
    have HSZ := Lib.hid b1.size
    have HPX : Hid (w.heap.size < W1.heap.size) := Lib.hid HX1.out.lt
    clear hv hSI IH hB hbw hlb hW1 b1
    go_enter Tryd.func63, Tryd.ntmps63
    go_wp2_with fail
    rw [← HW1.out]
    go_loopw [8] (fun i wr => ∃ (p : Nat), Hid (Exc (· = lb) W1 wr) ∧ i = .int .i64 (p : Int) ∧ p ≤ l.length ∧ Hid (Blk wr lb 3 [.int .i64 ((k - cntL (l.take p) : Nat) : Int)])) (fun i _ => l.length - (intOf i).toNat)
    case atStart => exact ⟨0, Lib.hid (Exc.refl _ _), rfl, by omega, by simpa [cntL] using HB1⟩
    case round =>
      obtain ⟨p, HE, rfl, hp, HBK⟩ := hrel
      clear HB1
      by_cases hlt : p < l.length
      · obtain ⟨y, hy⟩ : ∃ y, l[p]? = some y := ⟨l[p], List.getElem?_eq_getElem hlt⟩
        have HN := Lib.hid (cnt_next hy)
        have hle := cnt_le hy
        have hlt' : (p : Int) < (l.length : Int) := by omega
        have hp0 : (0 : Int) ≤ (p : Int) := by omega
        have hbr : Below w0.heap.size w0 wr := HBW.out.trans ((HE1.out.then HE.out).below HBW.out.size (fun b hb e => by have := HLB.out; omega))
        obtain ⟨g, off, x, rfl, hC, -, hK⟩ := HV.out.atK (Kp.below hbr HS.out) hy
        obtain ⟨wb, hwb⟩ : ∃ wb, wb = wr.alloc (.cells (ncell x).toArray 39) := ⟨_, rfl⟩
        have bb : Below wr.heap.size wr wb := by rw [hwb]; exact below_lit _ _
        have hX2 : Blk wb w.heap.size 52 (plcL m d lb) := (HE.out.blk HX1.out HZ.out).below bb
        have q2 : wb.cell? ⟨w.heap.size, 2, none⟩ = some (cntF lb) := hX2.cell 2
        have HC1 := Lib.hid (pcounts_any lb (k - cntL (l.take p)) wb (HBK.out.below bb) (by omega) (by omega))
        have HXP := Lib.hid hX2
        have HXN : Hid (Blk wb wr.heap.size 39 (ncell x)) := Lib.hid (by rw [hwb]; exact heap_alloc_new wr _)
        have HZN : Hid (wr.heap.size ≠ lb) := Lib.hid (fun e => by have := HBK.out.lt; omega)
        have HEb : Hid (Exc (· = lb) W1 wb) := Lib.hid (HE.out.then (Exc.of bb))
        have HKK := Lib.hid hK
        obtain ⟨xk, xl, xn, ⟨t1, t2, t3⟩, ⟨k1, k2, k3⟩, ⟨r1, r2, r3⟩, xc, ⟨q1, q2', q3⟩, xb, xa⟩ := x
        have c0 := hC.c0
        have c1 := hC.c1
        have c2 := hC.c2
        have c3 := hC.c3
        have c4 := hC.c4
        have c5 := hC.c5
        have c6 := hC.c6
        have c7 := hC.c7
        have c8 := hC.c8
        have c9 := hC.c9
        have q2w : wr.cell? ⟨w.heap.size, 2, none⟩ = some (cntF lb) := (HE.out.blk HX1.out HZ.out).cell 2
        simp only [ncell, pv, cntF] at hwb q2 q2w HKK
        subst hwb
        clear hy hC hK bb hX2 hbr q2w
        go_wp2_with fail
        refine HC1.out.mono ?_
        rintro e w3 ⟨rfl, hB3, hE3⟩
        have HE3 := Lib.hid (HEb.out.then hE3)
        have z3 := hE3.blk HXP.out HZ.out
        have z0 : w3.cell? ⟨w.heap.size, 0, none⟩ = some (.int .i64 m) := z3.cell 0
        have z1 : w3.cell? ⟨w.heap.size, 1, none⟩ = some (.int .i64 (d : Int)) := z3.cell 1
        have z2 : w3.cell? ⟨w.heap.size, 2, none⟩ = some (cntF lb) := z3.cell 2
        have x4 : w3.cell? ⟨wr.heap.size, 4, none⟩ = some (.slice k1 k2 k3) := (hE3.blk HXN.out HZN.out).cell 4
        have hb3 : Below w0.heap.size w0 w3 := HBW.out.trans ((HE1.out.then HE3.out).below HBW.out.size (fun b hb e => by have := HLB.out; omega))
        have HR := Lib.hid (HI.out y.kids (by omega) (k - cntL (l.take p) - 1) (.slice k1 k2 k3) w3 (by omega) (by omega) HKK.out hb3 hB3)
        simp only [cntF, plcL] at z2 HR
        clear hB3 hE3 z3 hb3 HC1 c0 c1 c2 c3 c4 c5 c6 c7 c8 c9 q2
        go_wp2_with fail
        refine HR.out.mono ?_
        rintro e w5 ⟨rfl, hB5, hE5⟩
        have HE5 := Lib.hid (HE3.out.then hE5)
        have HB5 := Lib.hid hB5
        clear hB5 hE5 HR z0 z1 z2 x4
        go_wp2_with fail
        go_roundw
        case rel => exact ⟨p + 1, HE5, by go_num, by omega, Lib.hid (by rw [HN.out, show k - (cntL (l.take p) + (1 + cntL y.kids)) = k - cntL (l.take p) - 1 - cntL y.kids by omega]; exact HB5.out)⟩
        case measure => (simp [intOf]; try omega)
      · obtain rfl : p = l.length := by omega
        have hlt' : ¬ (l.length : Int) < (l.length : Int) := by omega
        rw [List.take_length] at HBK
        go_wp2_with fail
        go_end0
        exact ⟨rfl, HBK.out, HE1.out.then HE.out⟩
end Go.Proofs.YtienjlbpaedbjaaDoor
namespace Go.Proofs.YtienjlbpaedbjaaDoor
open Go.RowKit
attribute [local go_sem ↓ high] builtin_appN

abbrev FS : Nat → Prop := fun _ => False
/-- What is made is in blocks of its own: of the others those below a line, but one, and those that hold no nodes, stand. -/
structure PF (lb base : Nat) (w w' : World) : Prop where
  os : w'.os = w.os
  tape : w'.tape = w.tape
  output : w'.output = w.output
  size : w.heap.size ≤ w'.heap.size
  low : ∀ b, b < base → b ≠ lb → b < w.heap.size → w'.heap[b]? = w.heap[b]?
  oth : ∀ b cur e fz, b ≠ lb → w.heap[b]? = some (.cells cur e fz) → e ≠ 39 → w'.heap[b]? = some (.cells cur e fz)
theorem PF.refl (lb base : Nat) (w : World) : PF lb base w w := ⟨rfl, rfl, rfl, Nat.le_refl _, fun _ _ _ _ => rfl, fun _ _ _ _ _ h _ => h⟩
theorem PF.trans {lb base : Nat} {a b c : World} (h : PF lb base a b) (k : PF lb base b c) : PF lb base a c :=
  ⟨k.os.trans h.os, k.tape.trans h.tape, k.output.trans h.output, Nat.le_trans h.size k.size, fun i h1 h2 h3 => (k.low i h1 h2 (Nat.lt_of_lt_of_le h3 h.size)).trans (h.low i h1 h2 h3), fun i cur e fz h1 h2 h3 => k.oth i cur e fz h1 (h.oth i cur e fz h1 h2 h3) h3⟩
theorem PF.exc {lb base : Nat} {w w' : World} (h : Exc (· = lb) w w') : PF lb base w w' :=
  ⟨h.os, h.tape, h.output, h.size, fun b _ h2 h3 => h.block b h3 h2, fun b cur e fz h1 h2 _ => (h.block b (Array.getElem?_eq_some_iff.1 h2).1 h1).trans h2⟩
theorem PF.of {lb base : Nat} {w w' : World} (h : Below w.heap.size w w') : PF lb base w w' := PF.exc (Exc.of h)
theorem PF.less {lb base base' : Nat} {w w' : World} (h : PF lb base' w w') (hb : base ≤ base') : PF lb base w w' :=
  ⟨h.os, h.tape, h.output, h.size, fun b h1 h2 h3 => h.low b (by omega) h2 h3, h.oth⟩
theorem PF.below {lb base D : Nat} {w w' : World} (h : PF lb base w w') (hD : D ≤ w.heap.size) (h1 : D ≤ lb) (h2 : lb < base) : Below D w w' :=
  ⟨h.os, h.tape, h.output, h.size, fun k hk => h.low k (by omega) (by omega) (by omega)⟩
theorem PF.blk {lb base : Nat} {w w' : World} (h : PF lb base w w') {g : Nat} {e : TypeId} {L : List Value} (hb : Blk w g e L) (hg : g ≠ lb) (he : e ≠ 39) : Blk w' g e L := h.oth g _ _ _ hg hb he
theorem PF.blkl {lb base : Nat} {w w' : World} (h : PF lb base w w') {g : Nat} {e : TypeId} {L : List Value} (hb : Blk w g e L) (hg : g ≠ lb) (hl : g < base) : Blk w' g e L := (h.low g hl hg hb.lt).trans hb

section
variable {SI : Nat → Prop} {base : Nat} {W : World} {v : Value} {l : List Nd}
theorem NInv.own_node (h : NInv SI base W v l) {b : Nat} {cur : Array Value} {e : TypeId} {fz : Nat × Nat} (hb : W.heap[b]? = some (.cells cur e fz)) (he : e ≠ 39) : v.ownBlock ≠ some b := by
  obtain ⟨L, S, hL, -⟩ := h.own
  intro e1
  obtain ⟨-, cur', hc⟩ := hL.ty e1
  rw [hb] at hc
  injection hc with hc
  injection hc with _ h2
  exact he h2
theorem NInv.own_ge (h : NInv SI base W v l) {b : Nat} (hb : b < base) : v.ownBlock ≠ some b := by
  obtain ⟨L, S, hL, -⟩ := h.own
  intro e1
  obtain ⟨h1, -⟩ := hL.ty e1
  omega
variable {W' : World}
/-- Nodes behind them. -/
theorem NInv.app2 (h : NInv SI base W v l) {u : Value} {M : List NV} {m : List Nd} {T : Nat → Prop} (hu : Fs 10 ncell W u M) (hM : M.length = m.length) (hT : ∀ b, T b → SI b ∨ (base ≤ b ∧ b < W.heap.size ∧ v.ownBlock ≠ some b))
    (hm : ∀ (i : Nat) x y, M[i]? = some x → m[i]? = some y → HdIs T W x y.hd ∧ NsS T W (pv x.kids) y.kids) (hd : l.length + m.length ≤ 1000000) :
    ∃ a' c' w', (appN #[v, u]).run Tryd.prog W = .ok (.value (.slice a' (l.length + m.length) c')) w' ∧ NInv SI base w' (.slice a' (l.length + m.length) c') (l ++ m) ∧ Below base W w' ∧ (∀ b, b < W.heap.size → v.ownBlock ≠ some b → w'.heap[b]? = W.heap[b]?) ∧ ((Value.slice a' (l.length + m.length) c').ownBlock = v.ownBlock ∨ (Value.slice a' (l.length + m.length) c').ownBlock = some W.heap.size) := by
  obtain ⟨L, S, hL, hl, hS, hE⟩ := h.own
  obtain ⟨i0, hi, hz0, hz1, hz2⟩ := info_parts infoNd
  obtain ⟨x', w', hr, ho, hg, hq⟩ := fapp (P := Tryd.prog) (t := 22) ncell_len ncell_one (by decide) Tryd.underlying22 hi hz0 hz1 hz2 rfl (by decide) hL hu h.sz (by rw [hl, hM]; exact hd)
  obtain ⟨a', c', e⟩ := (FOwn.sl ncell_len ho).len
  rw [List.length_append, hl, hM] at e
  subst e
  have kp : ∀ T : Nat → Prop, (∀ b, T b → SI b ∨ (base ≤ b ∧ b < W.heap.size ∧ v.ownBlock ≠ some b)) → Kp T W w' := fun T hT => Kp.grown hg fun b hb => by
    rcases hT b hb with q | q
    · refine ⟨Nat.lt_of_lt_of_le (h.lt b q) h.sz, fun e => ?_⟩
      have := (hL.ty e.symm).1
      have := h.lt b q
      omega
    · exact ⟨q.2.1, fun e => q.2.2 e.symm⟩
  have k1 := kp S hS
  have k2 := kp T hT
  have hsz := hg.size
  have step : ∀ T : Nat → Prop, (∀ b, T b → SI b ∨ (base ≤ b ∧ b < W.heap.size ∧ v.ownBlock ≠ some b)) → ∀ b, T b → SI b ∨ (base ≤ b ∧ b < w'.heap.size ∧ (Value.slice a' (l.length + m.length) c').ownBlock ≠ some b) := fun T hT b hb => by
    rcases hT b hb with q | q
    · exact .inl q
    · refine .inr ⟨q.1, by omega, ?_⟩
      rcases hq with e | e
      · rw [e]; exact q.2.2
      · rw [e]
        intro e2
        injection e2 with e2
        omega
  refine ⟨a', c', w', ?_, ⟨h.lt, Nat.le_trans h.sz hsz, ⟨L ++ M, fun b => S b ∨ T b, ho, by simp [hl, hM], fun b hb => hb.elim (step S hS b) (step T hT b), fun i x y hx hy => ?_⟩⟩, hL.below (Below.refl _ _) h.sz hg, fun b hb hn => hg.block b hb (fun e => hn e.symm), hq⟩
  · unfold appN
    simp only [Sem.run_bind, Sem.run_pure, Result.andThen_ok, hr]
  · by_cases hil : i < l.length
    · rw [List.getElem?_append_left (by omega)] at hx hy
      obtain ⟨q1, q2⟩ := hE i x y hx hy
      exact ⟨(q1.keep k1).mono fun b hb => .inl hb, (q2.keep k1).mono fun b hb => .inl hb⟩
    · rw [List.getElem?_append_right (by omega), hl] at hx
      rw [List.getElem?_append_right (by omega)] at hy
      obtain ⟨q1, q2⟩ := hm _ x y hx hy
      exact ⟨(q1.keep k2).mono fun b hb => .inr hb, (q2.keep k2).mono fun b hb => .inr hb⟩
/-- A node behind them. -/
theorem NInv.push2 (h : NInv SI base W v l) {x : NV} {y : Nd} {T : Nat → Prop} (hT : ∀ b, T b → SI b ∨ (base ≤ b ∧ b < W.heap.size ∧ v.ownBlock ≠ some b)) (hx : HdIs T W x y.hd) (hk : NsS T W (pv x.kids) y.kids) (hd : l.length ≤ 500000) :
    ∃ a' c' w', (appN #[v, .slice (some ⟨W.heap.size, 0, none⟩) 1 1]).run Tryd.prog (W.alloc (.cells (ncell x).toArray 39)) = .ok (.value (.slice a' (l.length + 1) c')) w' ∧ NInv SI base w' (.slice a' (l.length + 1) c') (l ++ [y]) ∧ Below base W w' ∧ (∀ b, b < W.heap.size → v.ownBlock ≠ some b → w'.heap[b]? = W.heap[b]?) ∧ ∀ b, b < W.heap.size → v.ownBlock ≠ some b → (Value.slice a' (l.length + 1) c').ownBlock ≠ some b := by
  have b1 := below_lit W (.cells (ncell x).toArray 39)
  have hkp : Kp T W (W.alloc (.cells (ncell x).toArray 39)) := fun b hb => b1.block b (by
    rcases hT b hb with q | q
    · exact Nat.lt_of_lt_of_le (h.lt b q) h.sz
    · exact q.2.1)
  have hu : Fs 10 ncell (W.alloc (.cells (ncell x).toArray 39)) (.slice (some ⟨W.heap.size, 0, none⟩) 1 1) [x] := by
    have := fs_lit ncell_len W 39 [x]
    rw [flatV_one] at this
    exact this
  obtain ⟨a', c', w', hr, hi, hb, ho, hq⟩ := (h.keep b1).app2 (m := [y]) hu rfl (fun b hb => (hT b hb).imp id fun q => ⟨q.1, Nat.lt_of_lt_of_le q.2.1 b1.size, q.2.2⟩) (fun i x' y' hx' hy' => by
    match i, hx', hy' with
    | 0, hx', hy' =>
      simp at hx' hy'
      subst hx' hy'
      exact ⟨hx.keep hkp, hk.keep hkp⟩
    | i + 1, hx', _ => simp at hx') (by simp; omega)
  exact ⟨a', c', w', hr, hi, (b1.mono h.sz).trans hb, fun b hb' hn => (ho b (Nat.lt_of_lt_of_le hb' b1.size) hn).trans (b1.block b hb'), fun b hb' hn e => by
    rcases hq with q | q
    · exact hn (q ▸ e)
    · have e2 := q.symm.trans e
      rw [World.size_alloc] at e2
      injection e2 with e2
      omega⟩
/-- A store to a block below. -/
theorem NInv.exc (h : NInv FS base W v l) {lb : Nat} (hl : lb < base) {W' : World} (hE : Exc (· = lb) W W') : NInv FS base W' v l := by
  obtain ⟨L, S, hL, hLl, hS, hE'⟩ := h.own
  have hk : Kp S W W' := fun b hb => by
    rcases hS b hb with q | q
    · exact q.elim
    · exact hE.block b q.2.1 (by omega)
  have hs : SamT 39 base W W' := fun g cur fz hg hgg => (hE.block g (Array.getElem?_eq_some_iff.1 hgg).1 (by omega)).trans hgg
  refine ⟨h.lt, Nat.le_trans h.sz hE.size, ⟨L, S, hL.sam hs, hLl, fun b hb => ?_, fun i x y a c => ⟨(hE' i x y a c).1.keep hk, (hE' i x y a c).2.keep hk⟩⟩⟩
  rcases hS b hb with q | q
  · exact q.elim
  · exact .inr ⟨q.1, Nat.lt_of_lt_of_le q.2.1 hE.size, q.2.2⟩
end
/-- What stood and is not the row's own stands, and is not the new row's own. -/
def Ow (lb : Nat) (v : Value) (w : World) (v' : Value) (w' : World) : Prop := ∀ b, b < w.heap.size → b ≠ lb → v.ownBlock ≠ some b → w'.heap[b]? = w.heap[b]? ∧ v'.ownBlock ≠ some b
theorem Ow.refl (lb : Nat) (v : Value) (w : World) : Ow lb v w v w := fun _ _ _ h => ⟨rfl, h⟩
theorem Ow.trans {lb : Nat} {v v' v'' : Value} {a b c : World} (h : Ow lb v a v' b) (k : Ow lb v' b v'' c) (hs : a.heap.size ≤ b.heap.size) : Ow lb v a v'' c := fun i h1 h2 h3 => by
  obtain ⟨q1, q2⟩ := h i h1 h2 h3
  obtain ⟨q3, q4⟩ := k i (Nat.lt_of_lt_of_le h1 hs) h2 q2
  exact ⟨q3.trans q1, q4⟩
theorem Ow.exc {lb : Nat} {v : Value} {w w' : World} (h : Exc (· = lb) w w') : Ow lb v w v w' := fun b h1 h2 h3 => ⟨h.block b h1 h2, h3⟩
def AddP (base : Nat) (v : Value) (r : List Nd) (w : World) (e : Ending) (w' : World) : Prop := ∃ v', e = .returned v' ∧ NInv FS base w' v' r ∧ Below base w w' ∧ (∀ b, b < w.heap.size → v.ownBlock ≠ some b → w'.heap[b]? = w.heap[b]?) ∧ ∀ b, b < w.heap.size → v.ownBlock ≠ some b → v'.ownBlock ≠ some b
theorem AddP.pf {base lb : Nat} {v : Value} {l : List Nd} {w w' : World} (h : NInv FS base w v l) (hb : Below base w w') (ho : ∀ b, b < w.heap.size → v.ownBlock ≠ some b → w'.heap[b]? = w.heap[b]?) : PF lb base w w' :=
  ⟨hb.os, hb.tape, hb.output, hb.size, fun b h1 _ h3 => ho b h3 (h.own_ge h1), fun b cur e fz _ h2 h3 => (ho b (Array.getElem?_eq_some_iff.1 h2).1 (h.own_node h2 h3)).trans h2⟩
set_option maxRecDepth 100000 in
set_option maxHeartbeats 2000000 in
theorem padd_any (base : Nat) (v : Value) (acc : List Nd) (x : NV) (hy : Hd) (kl : List Nd) (T : Nat → Prop) (w : World) (hN : NInv FS base w v acc) (hT : ∀ b, T b → base ≤ b ∧ b < w.heap.size ∧ v.ownBlock ≠ some b) (hx : HdIs T w x hy) (hk : NsS T w (pv x.kids) kl) (hl : acc.length ≤ 500000) :
    Calls Tryd.prog 85 #[v, .agg (ncell x).toArray] w (AddP base v (if fullB hy (hasK kl) then acc ++ [.mk hy kl] else acc) w) := by
  obtain ⟨ka, kc, ek⟩ := hk.len
  have ek' := pv_eq ek
  have hk2 : x.kids.2.1 = kl.length := by rw [ek']
  have b1 := below_lit w (.cells (ncell x).toArray 39)
  have hLK := placks_any x (w.alloc (.cells (ncell x).toArray 39))
  rw [full_of hx, hk2, hasK_len] at hLK
  have HLK := Lib.hid hLK
  have HX := Lib.hid (show Blk (w.alloc (.cells (ncell x).toArray 39)) w.heap.size 39 (ncell x) from heap_alloc_new w _)
  have HB1 := Lib.hid b1
  obtain ⟨va, vc, rfl⟩ := hN.len
  have HPU := Lib.hid (fun w2 (hb : Below w.heap.size w w2) => (hN.keep hb).push2 (x := x) (y := .mk hy kl) (T := T) (fun b q => .inr ⟨(hT b q).1, Nat.lt_of_lt_of_le (hT b q).2.1 hb.size, (hT b q).2.2⟩) (hx.keep (fun b q => hb.block b (hT b q).2.1)) (hk.keep (fun b q => hb.block b (hT b q).2.1)) hl)
  have HN := Lib.hid hN
  obtain ⟨xk, xl, xn, ⟨t1, t2, t3⟩, ⟨k1, k2, k3⟩, ⟨r1, r2, r3⟩, xc, ⟨q1, q2, q3⟩, xb, xa⟩ := x
  obtain ⟨p, hp⟩ : ∃ p, fullB hy (hasK kl) = p := ⟨_, rfl⟩
  rw [hp] at HLK ⊢
  obtain ⟨R, hR⟩ : ∃ R, (if p = true then acc ++ [Nd.mk hy kl] else acc) = R := ⟨_, rfl⟩
  rw [hR]
  have HR := Lib.hid hR
  simp only [ncell, pv] at HLK HX HB1 HPU ⊢
  clear hLK hx hk hT hN b1 ek ek' hk2 hp hR
  go_enter Tryd.func85, Tryd.ntmps85
  go_wp2_with fail
  refine HLK.out.mono ?_
  rintro e w2 ⟨rfl, b2⟩
  have HB2 := Lib.hid (HB1.out.trans (b2.mono HB1.out.size))
  cases p
  · clear b2 HLK
    go_wp2_with fail
    go_ret
    exact ⟨_, rfl, HR.out ▸ HN.out.keep HB2.out, HB2.out.mono HN.out.sz, fun b hb _ => HB2.out.block b hb, fun _ _ h => h⟩
  · have hX2 := HX.out.below b2
    have c0 : w2.cell? ⟨w.heap.size, 0, none⟩ = some (.int .i64 xk) := hX2.cell 0
    have c1 : w2.cell? ⟨w.heap.size, 1, none⟩ = some (.int .i64 xl) := hX2.cell 1
    have c2 : w2.cell? ⟨w.heap.size, 2, none⟩ = some (.int .i64 xn) := hX2.cell 2
    have c3 : w2.cell? ⟨w.heap.size, 3, none⟩ = some (.slice t1 t2 t3) := hX2.cell 3
    have c4 : w2.cell? ⟨w.heap.size, 4, none⟩ = some (.slice k1 k2 k3) := hX2.cell 4
    have c5 : w2.cell? ⟨w.heap.size, 5, none⟩ = some (.slice r1 r2 r3) := hX2.cell 5
    have c6 : w2.cell? ⟨w.heap.size, 6, none⟩ = some (.string ⟨xc.toArray⟩) := hX2.cell 6
    have c7 : w2.cell? ⟨w.heap.size, 7, none⟩ = some (.slice q1 q2 q3) := hX2.cell 7
    have c8 : w2.cell? ⟨w.heap.size, 8, none⟩ = some (.bool xb) := hX2.cell 8
    have c9 : w2.cell? ⟨w.heap.size, 9, none⟩ = some (.bool xa) := hX2.cell 9
    obtain ⟨a', c', w', hr, hI, hb3, ho3, hq3⟩ := HPU.out w2 HB2.out
    have HI := Lib.hid hI
    have HB3 := Lib.hid ((HB2.out.mono HN.out.sz).trans hb3)
    have HO3 : Hid (∀ b, b < w.heap.size → (Value.slice va acc.length vc).ownBlock ≠ some b → w'.heap[b]? = w.heap[b]?) := Lib.hid (fun b hb hn => (ho3 b (Nat.lt_of_lt_of_le hb HB2.out.size) hn).trans (HB2.out.block b hb))
    have HQ3 : Hid (∀ b, b < w.heap.size → (Value.slice va acc.length vc).ownBlock ≠ some b → (Value.slice a' (acc.length + 1) c').ownBlock ≠ some b) := Lib.hid (fun b hb hn => hq3 b (Nat.lt_of_lt_of_le hb HB2.out.size) hn)
    clear b2 HLK hX2 hI hb3 ho3 hq3
    go_wp2_with fail
    go_ret
    exact ⟨_, rfl, HR.out ▸ HI.out, HB3.out, HO3.out, HQ3.out⟩
end Go.Proofs.YtienjlbpaedbjaaDoor
