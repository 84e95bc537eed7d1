/- The program's own for documents: a node's cells; Deep, Count. The program's own for documents: Count, by a closure that counts. -/
import Derived.Test.YtienjlbpaedbjaaDoorOD7
namespace Go.Proofs.YtienjlbpaedbjaaDoor
open Go.RowKit

/-- The cells of a node. -/
structure NC (w : World) (g o : Nat) (x : NV) : Prop where
  c0 : w.cell? ⟨g, o, none⟩ = some (.int .i64 x.kind)
  c1 : w.cell? ⟨g, o + 1, none⟩ = some (.int .i64 x.line)
  c2 : w.cell? ⟨g, o + 2, none⟩ = some (.int .i64 x.n)
  c3 : w.cell? ⟨g, o + 3, none⟩ = some (.slice x.text.1 x.text.2.1 x.text.2.2)
  c4 : w.cell? ⟨g, o + 4, none⟩ = some (.slice x.kids.1 x.kids.2.1 x.kids.2.2)
  c5 : w.cell? ⟨g, o + 5, none⟩ = some (.slice x.rows.1 x.rows.2.1 x.rows.2.2)
  c6 : w.cell? ⟨g, o + 6, none⟩ = some (.string ⟨x.cols.toArray⟩)
  c7 : w.cell? ⟨g, o + 7, none⟩ = some (.slice x.trows.1 x.trows.2.1 x.trows.2.2)
  c8 : w.cell? ⟨g, o + 8, none⟩ = some (.bool x.box)
  c9 : w.cell? ⟨g, o + 9, none⟩ = some (.bool x.all)
theorem NsS.atC {S : Nat → Prop} {w : World} {a : Option Addr} {k cap : Nat} {l : List Nd} (h : NsS S w (.slice a k cap) l) {j : Nat} {y : Nd} (hy : l[j]? = some y) :
    ∃ g off x, a = some ⟨g, off, none⟩ ∧ NC w g (off + j * 10) x ∧ HdIs S w x y.hd ∧ NsS S w (pv x.kids) y.kids := by
  obtain ⟨g, off, x, e, -, hc, hh, hk⟩ : ∃ g off x, a = some ⟨g, off, none⟩ ∧ S g ∧ (∀ (i : Nat) c, (ncell x)[i]? = some c → w.cell? ⟨g, off + j * 10 + i, none⟩ = some c) ∧ HdIs S w x y.hd ∧ NsS S w (pv x.kids) y.kids := by
    cases h with
    | mk _ _ L hl hs hh hk =>
      obtain ⟨x, hx⟩ : ∃ x, L[j]? = some x := ⟨L[j]'(by have := (List.getElem?_eq_some_iff.1 hy).1; omega), List.getElem?_eq_getElem _⟩
      obtain ⟨g, off, e, hg, hc⟩ := hs.at hx
      exact ⟨g, off, x, e, hg, fun i c hi => by rw [Nat.add_assoc]; exact hc i c hi, hh j x y hx hy, hk j x y hx hy⟩
  exact ⟨g, off, x, e, ⟨hc 0 _ rfl, hc 1 _ rfl, hc 2 _ rfl, hc 3 _ rfl, hc 4 _ rfl, hc 5 _ rfl, hc 6 _ rfl, hc 7 _ rfl, hc 8 _ rfl, hc 9 _ rfl⟩, hh, hk⟩
theorem Blk.nc {w : World} {g : Nat} {e : TypeId} {x : NV} (h : Blk w g e (ncell x)) : NC w g 0 x :=
  ⟨h.cell 0, h.cell 1, h.cell 2, h.cell 3, h.cell 4, h.cell 5, h.cell 6, h.cell 7, h.cell 8, h.cell 9⟩
theorem below_ns {S : Nat → Prop} {w w' : World} {v : Value} {l : List Nd} (h : NsS S w v l) (hb : Below w.heap.size w w') (hS : ∀ b, S b → b < w.heap.size) : NsS S w' v l := h.keep (Kp.below hb hS)

attribute [local go_sem ↓ high] builtin_mxS
set_option maxRecDepth 100000 in
set_option maxHeartbeats 2000000 in
theorem pdeep_any (S : Nat → Prop) : ∀ (n : Nat) (l : List Nd), cntL l = n → n ≤ 1000000000 → ∀ (v : Value) (w : World), NsS S w v l → (∀ b, S b → b < w.heap.size) → Calls Tryd.prog 22 #[v] w fun e w' => e = .returned (.int .i64 (dpL l : Int)) ∧ Below w.heap.size w w' := by
  intro n
  induction n using Nat.strongRecOn with
  | _ n IH =>
    intro l hn hb v w hv hS
    have HV := Lib.hid hv
    have HS := Lib.hid hS
    obtain ⟨aa, ca, rfl⟩ := hv.len
    have HI : Hid (∀ (k : List Nd), cntL k < n → ∀ (v : Value) (w : World), NsS S w v k → (∀ b, S b → b < w.heap.size) → Calls Tryd.prog 22 #[v] w fun e w' => e = .returned (.int .i64 (dpL k : Int)) ∧ Below w.heap.size w w') := Lib.hid (fun k hk => IH (cntL k) hk k rfl (by omega))
    have hll := cnt_len l
    clear hv hS IH
    go_enter Tryd.func22, Tryd.ntmps22
    go_wp2_with fail
    go_loopw [3, 8] (fun s i wr => ∃ (p : Nat), Hid (Below w.heap.size w wr) ∧ i = .int .i64 (p : Int) ∧ p ≤ l.length ∧ s = .int .i64 (dpL (l.take p) : Int)) (fun _ i _ => l.length - (intOf i).toNat)
    case atStart => exact ⟨0, Lib.hid (Below.refl _ _), rfl, by omega, by simp [dpL]⟩
    case round =>
      obtain ⟨p, BW, rfl, hp, rfl⟩ := hrel
      by_cases hlt : p < l.length
      · obtain ⟨y, hy⟩ : ∃ y, l[p]? = some y := ⟨l[p], List.getElem?_eq_getElem hlt⟩
        have HN := Lib.hid (dp_next hy)
        have hle := cnt_le hy
        have hd1 := dp_take l p
        have hd2 := dp_le hy
        have hd3 := dp_cntL l
        have hlt' : (p : Int) < (l.length : Int) := by omega
        have hp0 : (0 : Int) ≤ (p : Int) := by omega
        obtain ⟨g, off, ⟨xk, xl, xn, ⟨t1, t2, t3⟩, ⟨k1, k2, k3⟩, ⟨r1, r2, r3⟩, xc, ⟨q1, q2, q3⟩, xb, xa⟩, rfl, hC, -, hK⟩ := (below_ns HV.out BW.out HS.out).atC hy
        simp only [pv] at hK
        obtain ⟨wb, hwb⟩ : ∃ wb, wb = wr.alloc (.cells (ncell ⟨xk, xl, xn, ⟨t1, t2, t3⟩, ⟨k1, k2, k3⟩, ⟨r1, r2, r3⟩, xc, ⟨q1, q2, q3⟩, xb, xa⟩).toArray 39) := ⟨_, rfl⟩
        have b1 : Below wr.heap.size wr wb := by rw [hwb]; exact below_lit _ _
        have hSr : ∀ b, S b → b < wr.heap.size := fun b hb => Nat.lt_of_lt_of_le (HS.out b hb) BW.out.size
        have hR := HI.out y.kids (by omega) _ wb (below_ns hK b1 hSr) (fun b hb => Nat.lt_of_lt_of_le (hSr b hb) b1.size)
        obtain ⟨c, hc⟩ : ∃ c, dpL (l.take p) = c := ⟨_, rfl⟩
        rw [hc] at hd1 HN
        obtain ⟨k, hk⟩ : ∃ k, dpL y.kids = k := ⟨_, rfl⟩
        rw [hk] at hd2 HN hR
        have HR := Lib.hid hR
        have B1 := Lib.hid (BW.out.trans (b1.mono BW.out.size))
        have w2 : IntKind.i64.wrap (1 + (k : Int)) = 1 + (k : Int) := IntWalk.i64_in _ (by omega)
        have mm := mxS_run (c : Int) (1 + (k : Int)) ((max c (1 + k) : Nat) : Int) (by split <;> omega)
        have c0 := hC.c0
        have c1 := hC.c1
        have c2 := hC.c2
        have c3 := hC.c3
        have c4 := hC.c4
        have c5 := hC.c5
        have c6 := hC.c6
        have c7 := hC.c7
        have c8 := hC.c8
        have c9 := hC.c9
        simp only [ncell, pv] at hwb
        subst hwb
        clear hR hy hk hC hK b1 hSr
        rw [hc]
        clear hc
        go_wp2_with fail
        refine HR.out.mono ?_
        rintro e w3 ⟨rfl, hb3⟩
        have B3 := Lib.hid (B1.out.trans (hb3.mono B1.out.size))
        clear hb3 HR c0 c1 c2 c3 c4 c5 c6 c7 c8 c9
        go_wp2_with fail
        go_roundw
        case rel => exact ⟨p + 1, B3, by go_num, by omega, by rw [HN.out]⟩
        case measure => (simp [intOf]; try omega)
      · obtain rfl : p = l.length := by omega
        have hlt' : ¬ (l.length : Int) < (l.length : Int) := by omega
        rw [List.take_length]
        go_wp2_with fail
        go_ret
        exact ⟨rfl, BW.out⟩
end Go.Proofs.YtienjlbpaedbjaaDoor
namespace Go.Proofs.YtienjlbpaedbjaaDoor
open Go.RowKit

/-- All blocks that were there stand as they stood, but some. -/
structure Exc (X : Nat → Prop) (w w' : World) : Prop where
  os : w'.os = w.os
  tape : w'.tape = w.tape
  output : w'.output = w.output
  size : w.heap.size ≤ w'.heap.size
  block : ∀ k, k < w.heap.size → ¬ X k → w'.heap[k]? = w.heap[k]?
theorem Exc.refl (X : Nat → Prop) (w : World) : Exc X w w := ⟨rfl, rfl, rfl, Nat.le_refl _, fun _ _ _ => rfl⟩
theorem Exc.trans {X Y : Nat → Prop} {a b c : World} (h : Exc X a b) (k : Exc Y b c) (hXY : ∀ i, i < a.heap.size → Y i → X i) : Exc X a c :=
  ⟨k.os.trans h.os, k.tape.trans h.tape, k.output.trans h.output, Nat.le_trans h.size k.size, fun i hi hx => (k.block i (Nat.lt_of_lt_of_le hi h.size) (fun q => hx (hXY i hi q))).trans (h.block i hi hx)⟩
theorem Exc.then {X : Nat → Prop} {a b c : World} (h : Exc X a b) (k : Exc X b c) : Exc X a c := h.trans k (fun _ _ q => q)
theorem Exc.of {X : Nat → Prop} {w w' : World} (h : Below w.heap.size w w') : Exc X w w' := ⟨h.os, h.tape, h.output, h.size, fun k hk _ => h.block k hk⟩
theorem Exc.below {X : Nat → Prop} {w w' : World} {D : Nat} (h : Exc X w w') (hD : D ≤ w.heap.size) (hX : ∀ b, b < D → ¬ X b) : Below D w w' :=
  ⟨h.os, h.tape, h.output, h.size, fun k hk => h.block k (Nat.lt_of_lt_of_le hk hD) (hX k hk)⟩
theorem Exc.mono {X Y : Nat → Prop} {w w' : World} (h : Exc X w w') (hXY : ∀ i, i < w.heap.size → X i → Y i) : Exc Y w w' :=
  ⟨h.os, h.tape, h.output, h.size, fun k hk hy => h.block k hk (fun q => hy (hXY k hk q))⟩
theorem Exc.kp {X S : Nat → Prop} {w w' : World} (h : Exc X w w') (hS : ∀ b, S b → b < w.heap.size) (hX : ∀ b, S b → ¬ X b) : Kp S w w' := fun b hb => h.block b (hS b hb) (hX b hb)
theorem Exc.set {X : Nat → Prop} {a w : World} (h : Exc X a w) {g : Nat} (j : Nat) (v : Value) (hg : g < a.heap.size → X g) : Exc X a (w.setCell ⟨g, j, none⟩ v) :=
  ⟨h.os, h.tape, h.output, by simpa [World.setCell] using h.size, fun k hk hx => (Below.heap_setCell w ⟨g, j, none⟩ v k (fun e => hx (by subst e; exact hg hk))).trans (h.block k hk hx)⟩
theorem Exc.alloc {X : Nat → Prop} {a w : World} (h : Exc X a w) (o : Obj) : Exc X a (w.alloc o) := h.trans (Exc.of (X := fun _ => False) (below_lit w o)) (fun _ _ q => q.elim)
theorem Exc.blk {X : Nat → Prop} {w w' : World} (h : Exc X w w') {g : Nat} {e : TypeId} {L : List Value} (hb : Blk w g e L) (hX : ¬ X g) : Blk w' g e L := (h.block g (Array.getElem?_eq_some_iff.1 hb).1 hX).trans hb
theorem bel2 (w : World) (a b : Obj) : Below w.heap.size w ((w.alloc a).alloc b) := ((Below.refl _ w).alloc (Nat.le_refl _) _).alloc (by simp) _
theorem Blk.lt {W : World} {g : Nat} {e : TypeId} {L : List Value} (h : Blk W g e L) : g < W.heap.size := (Array.getElem?_eq_some_iff.1 h).1

set_option maxRecDepth 100000 in
theorem count1_any (nb : Nat) (k : Int) (x : NV) (w : World) (hn : Blk w nb 3 [.int .i64 k]) (h0 : 0 ≤ k) (h1 : k ≤ 1000000000) :
    Calls Tryd.prog 52 #[.agg (ncell x).toArray, .pointer (some ⟨nb, 0, none⟩)] w fun e w' => e = .returned (.tuple #[]) ∧ Blk w' nb 3 [.int .i64 (k + 1)] ∧ Exc (· = nb) w w' := by
  have hlt := hn.lt
  obtain ⟨xk, xl, xn, ⟨t1, t2, t3⟩, ⟨k1, k2, k3⟩, ⟨r1, r2, r3⟩, xc, ⟨q1, q2, q3⟩, xb, xa⟩ := x
  have b1 := below_lit w (.cells (ncell ⟨xk, xl, xn, ⟨t1, t2, t3⟩, ⟨k1, k2, k3⟩, ⟨r1, r2, r3⟩, xc, ⟨q1, q2, q3⟩, xb, xa⟩).toArray 39)
  have h2 := hn.below b1
  have c0 : (w.alloc (.cells (ncell ⟨xk, xl, xn, ⟨t1, t2, t3⟩, ⟨k1, k2, k3⟩, ⟨r1, r2, r3⟩, xc, ⟨q1, q2, q3⟩, xb, xa⟩).toArray 39)).cell? ⟨nb, 0, none⟩ = some (.int .i64 k) := h2.cell 0
  have f0 : (w.alloc (.cells (ncell ⟨xk, xl, xn, ⟨t1, t2, t3⟩, ⟨k1, k2, k3⟩, ⟨r1, r2, r3⟩, xc, ⟨q1, q2, q3⟩, xb, xa⟩).toArray 39)).frozen? ⟨nb, 0, none⟩ = false := h2.frozen (by simp)
  have h3 := Lib.hid ((hn.set 0 (.int .i64 (k + 1))).below (below_lit _ (.cells (ncell ⟨xk, xl, xn, ⟨t1, t2, t3⟩, ⟨k1, k2, k3⟩, ⟨r1, r2, r3⟩, xc, ⟨q1, q2, q3⟩, xb, xa⟩).toArray 39)))
  have hex := Lib.hid (((Exc.refl (· = nb) w).set (g := nb) 0 (.int .i64 (k + 1)) (fun _ => rfl)).alloc (.cells (ncell ⟨xk, xl, xn, ⟨t1, t2, t3⟩, ⟨k1, k2, k3⟩, ⟨r1, r2, r3⟩, xc, ⟨q1, q2, q3⟩, xb, xa⟩).toArray 39))
  have w1 : IntKind.i64.wrap (k + 1) = k + 1 := IntWalk.i64_in _ (by omega)
  simp only [ncell, pv] at c0 f0 h3 hex ⊢
  clear b1 h2 hn
  go_enter Tryd.func52, Tryd.ntmps52
  go_wp2_with fail
  go_end0
  exact ⟨rfl, h3.out, hex.out⟩

set_option maxRecDepth 100000 in
set_option maxHeartbeats 2000000 in
theorem eachc_any (S : Nat → Prop) (nb : Nat) (hnb : ¬ S nb) : ∀ (n : Nat) (l : List Nd), cntL l = n → ∀ (k : Nat) (v : Value) (w : World), k + n ≤ 1000000000 → NsS S w v l → (∀ b, S b → b < w.heap.size) → Blk w nb 3 [.int .i64 (k : Int)] →
    Calls Tryd.prog 51 #[.func (.func 52) #[] #[.pointer (some ⟨nb, 0, none⟩)], v] w fun e w' => e = .returned (.tuple #[]) ∧ Blk w' nb 3 [.int .i64 ((k + cntL l : Nat) : Int)] ∧ Exc (· = nb) w w' := by
  intro n
  induction n using Nat.strongRecOn with
  | _ n IH =>
    intro l hn k v w hb hv hS hB
    subst hn
    have HV := Lib.hid hv
    have HS := Lib.hid hS
    have HB := Lib.hid hB
    have HNB := Lib.hid hnb
    obtain ⟨aa, ca, rfl⟩ := hv.len
    have HI : Hid (∀ (m : List Nd), cntL m < cntL l → ∀ (k : Nat) (v : Value) (w : World), k + cntL m ≤ 1000000000 → NsS S w v m → (∀ b, S b → b < w.heap.size) → Blk w nb 3 [.int .i64 (k : Int)] →
      Calls Tryd.prog 51 #[.func (.func 52) #[] #[.pointer (some ⟨nb, 0, none⟩)], v] w fun e w' => e = .returned (.tuple #[]) ∧ Blk w' nb 3 [.int .i64 ((k + cntL m : Nat) : Int)] ∧ Exc (· = nb) w w') := Lib.hid (fun m hm => IH (cntL m) hm m rfl)
    have hll := cnt_len l
    clear hv hS IH hB hnb
    go_enter Tryd.func51, Tryd.ntmps51
    go_wp2_with fail
    go_loopw [8] (fun i wr => ∃ (p : Nat), Hid (Exc (· = nb) w wr) ∧ i = .int .i64 (p : Int) ∧ p ≤ l.length ∧ Hid (Blk wr nb 3 [.int .i64 ((k + cntL (l.take p) : Nat) : Int)])) (fun i _ => l.length - (intOf i).toNat)
    case atStart => exact ⟨0, Lib.hid (Exc.refl _ _), rfl, by omega, by simpa [cntL] using HB⟩
    case round =>
      obtain ⟨p, BW, rfl, hp, HBK⟩ := hrel
      by_cases hlt : p < l.length
      · obtain ⟨y, hy⟩ : ∃ y, l[p]? = some y := ⟨l[p], List.getElem?_eq_getElem hlt⟩
        have HN := Lib.hid (cnt_next hy)
        have hle := cnt_le hy
        have hlt' : (p : Int) < (l.length : Int) := by omega
        have hp0 : (0 : Int) ≤ (p : Int) := by omega
        have hvr := HV.out.keep (BW.out.kp HS.out (fun b hb e => HNB.out (e ▸ hb)))
        obtain ⟨g, off, x, rfl, hC, -, hK⟩ := hvr.atC hy
        obtain ⟨wb, hwb⟩ : ∃ wb, wb = wr.alloc (.cells (ncell x).toArray 39) := ⟨_, rfl⟩
        have b1 : Below wr.heap.size wr wb := by rw [hwb]; exact below_lit _ _
        have hSr : ∀ b, S b → b < wr.heap.size := fun b hb => Nat.lt_of_lt_of_le (HS.out b hb) BW.out.size
        have hBb := HBK.out.below b1
        have HF := Lib.hid (count1_any nb _ x wb hBb (by omega) (by omega))
        have hXb : Blk wb wr.heap.size 39 (ncell x) := by rw [hwb]; exact heap_alloc_new wr _
        have hKb := below_ns hK b1 hSr
        have HXB := Lib.hid hXb
        have HKB := Lib.hid hKb
        have HSR := Lib.hid hSr
        have HB1 := Lib.hid (BW.out.trans (Exc.of (X := (· = nb)) b1) (fun _ _ q => q))
        have HZ := Lib.hid (show wr.heap.size ≠ nb from fun e => by have := HBK.out.lt; omega)
        have HZ2 := Lib.hid b1.size
        obtain ⟨xk, xl, xn, ⟨t1, t2, t3⟩, ⟨k1, k2, k3⟩, ⟨r1, r2, r3⟩, xc, ⟨q1, q2, q3⟩, xb, xa⟩ := x
        have c0 := hC.c0
        have c1 := hC.c1
        have c2 := hC.c2
        have c3 := hC.c3
        have c4 := hC.c4
        have c5 := hC.c5
        have c6 := hC.c6
        have c7 := hC.c7
        have c8 := hC.c8
        have c9 := hC.c9
        simp only [ncell, pv] at hwb HF
        subst hwb
        clear hy hC hK b1 hSr hBb hXb hKb hvr
        go_wp2_with fail
        refine HF.out.mono ?_
        rintro e w3 ⟨rfl, hB3, hE3⟩
        have HE3 := Lib.hid (HB1.out.then hE3)
        have x3 := hE3.blk HXB.out HZ.out
        have x4 : w3.cell? ⟨wr.heap.size, 4, none⟩ = some (.slice k1 k2 k3) := x3.cell 4
        have hR := HI.out y.kids (by omega) (k + cntL (l.take p) + 1) (.slice k1 k2 k3) w3 (by omega) (HKB.out.keep (hE3.kp (fun b hb => Nat.lt_of_lt_of_le (HSR.out b hb) HZ2.out) (fun b hb e => HNB.out (e ▸ hb)))) (fun b hb => Nat.lt_of_lt_of_le (HS.out b hb) HE3.out.size) (by rw [show ((k + cntL (l.take p) + 1 : Nat) : Int) = ((k + cntL (l.take p) : Nat) : Int) + 1 by omega]; exact hB3)
        have HR := Lib.hid hR
        clear hR hB3 hE3 x3 HF c0 c1 c2 c3 c4 c5 c6 c7 c8 c9
        go_wp2_with fail
        refine HR.out.mono ?_
        rintro e w5 ⟨rfl, hB5, hE5⟩
        have HE5 := Lib.hid (HE3.out.then hE5)
        have HB5 := Lib.hid hB5
        clear hB5 hE5 HR x4
        go_wp2_with fail
        go_roundw
        case rel => exact ⟨p + 1, HE5, by go_num, by omega, Lib.hid (by rw [HN.out, show k + (cntL (l.take p) + (1 + cntL y.kids)) = k + cntL (l.take p) + 1 + cntL y.kids by omega]; exact HB5.out)⟩
        case measure => (simp [intOf]; try omega)
      · obtain rfl : p = l.length := by omega
        have hlt' : ¬ (l.length : Int) < (l.length : Int) := by omega
        rw [List.take_length] at HBK
        go_wp2_with fail
        go_end0
        exact ⟨rfl, HBK.out, BW.out⟩

set_option maxRecDepth 100000 in
theorem pcount_any (S : Nat → Prop) (l : List Nd) (v : Value) (w : World) (hb : cntL l ≤ 1000000000) (hv : NsS S w v l) (hS : ∀ b, S b → b < w.heap.size) :
    Calls Tryd.prog 21 #[v] w fun e w' => e = .returned (.int .i64 (cntL l : Int)) ∧ Below w.heap.size w w' := by
  have b1 := below_lit w (.cells ([.int .i64 0] : List Value).toArray 3)
  have HR := Lib.hid (eachc_any S w.heap.size (fun h => by have := hS _ h; omega) (cntL l) l rfl 0 v (w.alloc (.cells ([.int .i64 0] : List Value).toArray 3)) (by omega) (below_ns hv b1 hS) (fun b hb => Nat.lt_of_lt_of_le (hS b hb) b1.size) (heap_alloc_new w _))
  obtain ⟨aa, ca, rfl⟩ := hv.len
  have HB1 := Lib.hid b1
  rw [Nat.zero_add] at HR
  clear hv hS b1
  go_enter Tryd.func21, Tryd.ntmps21
  go_wp2_with fail
  refine HR.out.mono ?_
  rintro e w3 ⟨rfl, hB3, hE3⟩
  have c0 : w3.cell? ⟨w.heap.size, 0, none⟩ = some (.int .i64 (cntL l : Int)) := hB3.cell 0
  have HX := Lib.hid (HB1.out.trans (hE3.below HB1.out.size (fun b hb e => by omega)))
  clear hB3 hE3 HR
  go_wp2_with fail
  go_ret
  exact ⟨rfl, HX.out⟩
end Go.Proofs.YtienjlbpaedbjaaDoor
