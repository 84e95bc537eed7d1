/- The document's answer for layer 8: has, add, Inside. A builder's box, and its result's, while a function of the document's answer works. The document's answer for layer 8: lay, End. The document's answer for layer 8: Join, Text, Open, pop. The document's answer for layer 8: pop, Open, Inside. The document's answer for layer 8: Open, Inside, Add. -/
import Derived.Test.YtpccjgoeoeehoaaDoorBs
import Derived.Test.YtpccjgoeoeehoaaDoorC0
import Derived.Deep.RegionHeld3
import Derived.Deep.DeepCutAuto
import Derived.StillTailTactics
set_option linter.unusedVariables false
set_option linter.unusedSimpArgs false
namespace Go.Proofs.YtpccjgoeoeehoaaDoor
open Go.RowKit
set_option maxRecDepth 100000 in
set_option maxHeartbeats 1000000 in
theorem rhas_any (k : Int) (l : List Int) (v : Value) (w : World) (hv : Fs 1 icell w v l) (hl : l.length ≤ 1000000) :
    Calls Tryd.prog 59 #[v, .int .i64 k] w fun e w' => e = .returned (.bool (l.contains k)) ∧ w' = w := by
  have HV := Lib.hid hv
  obtain ⟨aa, ca, rfl⟩ := hv.len
  obtain ⟨R, hR⟩ : ∃ R, l.contains k = R := ⟨_, rfl⟩
  rw [hR]
  have HR := Lib.hid hR
  clear hv hR
  go_enter Tryd.func59, Tryd.ntmps59
  go_wp2_with fail
  go_loopw [5] (fun i wr => ∃ j : Nat, j ≤ l.length ∧ i = .int .i64 j ∧ Hid (k ∉ l.take j) ∧ Hid (wr = w)) (fun i _ => l.length - (intOf i).toNat)
  case atStart => exact ⟨0, by omega, rfl, Lib.hid (by simp), Lib.hid rfl⟩
  case round =>
    obtain ⟨j, hj, rfl, HN, HW⟩ := hrel
    by_cases hlt : j < l.length
    · obtain ⟨x, hx⟩ : ∃ x, l[j]? = some x := ⟨l[j], List.getElem?_eq_getElem hlt⟩
      obtain ⟨a0, c0, hv0, -, hr⟩ := HV.out
      injection hv0 with e1 e2 e3
      subst e1
      obtain ⟨g, off, rfl, hc⟩ := hr j x hx
      have c0 := hc 0 _ rfl
      rw [Nat.mul_one, Nat.add_zero, ← HW.out] at c0
      have hi0 : (j : Int) < (l.length : Int) := by omega
      have hi1 : (0 : Int) ≤ (j : Int) := by omega
      by_cases hk : x = k
      · have HT : Hid (l.contains k = true) := Lib.hid (by
          rw [List.contains_iff_mem]
          exact List.mem_iff_getElem?.2 ⟨j, hk ▸ hx⟩)
        have hq : (x == k) = true := by simpa using hk
        subst hk
        clear hx hr hc HV
        go_wp2_with fail
        go_ret
        exact ⟨ret_bool (by rw [← HR.out, HT.out]), HW.out⟩
      · have HT : Hid (k ∉ l.take (j + 1)) := Lib.hid (by
          rw [List.take_add_one, hx]
          simp only [Option.toList_some, List.mem_append, List.mem_singleton, not_or]
          exact ⟨HN.out, fun e => hk e.symm⟩)
        have hq : (x == k) = false := by simpa using hk
        clear hx hr hc
        go_wp2_with fail
        go_roundw
        case rel => exact ⟨j + 1, by omega, by go_num, HT, HW⟩
        case measure => (simp [intOf]; try omega)
    · obtain rfl : j = l.length := by omega
      have hlt' : ¬ (l.length : Int) < (l.length : Int) := by omega
      rw [List.take_length] at HN
      have HT : Hid (l.contains k = false) := Lib.hid (by
        rw [Bool.eq_false_iff]
        intro h
        exact HN.out (List.contains_iff_mem.1 h))
      go_wp2_with fail
      go_ret
      exact ⟨ret_bool (by rw [← HR.out, HT.out]), HW.out⟩
abbrev Mo (S : Nat → Prop) (w w' : World) : Nat → Prop := fun b => S b ∨ (w.heap.size ≤ b ∧ b < w'.heap.size)
def NdIs (S : Nat → Prop) (w : World) (x : NV) (y : Nd) : Prop := HdIs S w x y.hd ∧ NsS S w (pv x.kids) y.kids
theorem NdIs.keep {S : Nat → Prop} {w w' : World} {x : NV} {y : Nd} (h : NdIs S w x y) (k : Kp S w w') : NdIs S w' x y := ⟨h.1.keep k, h.2.keep k⟩
theorem NdIs.mono {S T : Nat → Prop} {w : World} {x : NV} {y : Nd} (h : NdIs S w x y) (k : ∀ b, S b → T b) : NdIs T w x y := ⟨h.1.mono k, h.2.mono k⟩
def AddQ (S : Nat → Prop) (l : List Nd) (w : World) (e : Ending) (w' : World) : Prop := ∃ a c, e = .returned (.slice a l.length c) ∧ NsS (Mo S w w') w' (.slice a l.length c) l ∧ Below w.heap.size w w'
attribute [local go_sem ↓ high] builtin_appN
set_option maxRecDepth 100000 in
set_option maxHeartbeats 2000000 in
theorem radd_any (S : Nat → Prop) (l : List Nd) (v : Value) (x : NV) (y : Nd) (w : World) (hS : ∀ b, S b → b < w.heap.size) (hv : NsS S w v l) (hx : NdIs S w x y) (hl : l.length ≤ 400000) :
    Calls Tryd.prog 58 #[v, .agg (ncell x).toArray] w (AddQ S (l ++ [y]) w) := by
  obtain ⟨X1, hX1⟩ : ∃ X1, X1 = w.alloc (.cells (ncell x).toArray 40) := ⟨_, rfl⟩
  have b1 : Below w.heap.size w X1 := by rw [hX1]; exact below_lit _ _
  have kX : Blk X1 w.heap.size 40 (ncell x) := by rw [hX1]; exact heap_alloc_new w _
  have hv1 := hv.keep (Kp.below b1 hS)
  have hx1 := hx.keep (Kp.below b1 hS)
  obtain ⟨L, hL, hsL, hhL, hkL⟩ : ∃ L : List NV, L.length = l.length ∧ FsS S 10 ncell X1 v L ∧ (∀ (i : Nat) x y, L[i]? = some x → l[i]? = some y → HdIs S X1 x y.hd) ∧ (∀ (i : Nat) x y, L[i]? = some x → l[i]? = some y → NsS S X1 (pv x.kids) y.kids) := by
    cases hv1 with
    | mk _ _ L h1 h2 h3 h4 => exact ⟨L, h1, h2, h3, h4⟩
  have N0 : NInv S X1.heap.size X1 (.slice none 0 0) [] := NInv.nil (fun b q => Nat.lt_of_lt_of_le (hS b q) b1.size) (Nat.le_refl _)
  obtain ⟨a2, c2, X2, hr2, N2, b2, -⟩ := N0.app hsL.1 hL (T := S) (fun b q => .inl q) (fun i x y h1 h2 => ⟨hhL i x y h1 h2, hkL i x y h1 h2⟩) (by simp; omega)
  have hkp : Kp S X1 X2 := fun b q => b2.block b (Nat.lt_of_lt_of_le (hS b q) b1.size)
  obtain ⟨a3, c3, X3, hr3, N3, b3, -⟩ := N2.push (x := x) (y := y) (T := S) (fun b q => .inl q) (hx1.1.keep hkp) (hx1.2.keep hkp) (by simp; omega)
  simp only [List.length_nil, Nat.zero_add, List.nil_append] at hr2 hr3 N3
  have kX2 : Blk X2 w.heap.size 40 (ncell x) := (b2.block _ (Array.getElem?_eq_some_iff.1 kX).1).trans kX
  have hfin : AddQ S (l ++ [y]) w (.returned (.slice a3 (l.length + 1) c3)) X3 := by
    refine ⟨a3, c3, by simp, ?_, b1.trans ((b2.trans b3).mono b1.size)⟩
    have := N3.nss.mono (T := Mo S w X3) (fun b q => q.imp id (fun q => ⟨Nat.le_trans b1.size q.1, q.2⟩))
    simpa using this
  obtain ⟨aa, ca, rfl⟩ := hv.len
  have HF := Lib.hid hfin
  have HX1 := Lib.hid hX1
  have HKX := Lib.hid kX2
  obtain ⟨xk, xl, xn, ⟨t1, t2, t3⟩, ⟨k1, k2, k3⟩, ⟨r1, r2, r3⟩, xc, ⟨q1, q2, q3⟩, xb, xa⟩ := x
  simp only [ncell, pv] at hr3 HKX
  have d0 := HKX.out.cell 0
  have d1 := HKX.out.cell 1
  have d2 := HKX.out.cell 2
  have d3 := HKX.out.cell 3
  have d4 := HKX.out.cell 4
  have d5 := HKX.out.cell 5
  have d6 := HKX.out.cell 6
  have d7 := HKX.out.cell 7
  have d8 := HKX.out.cell 8
  have d9 := HKX.out.cell 9
  simp only [List.getElem?_cons_zero, List.getElem?_cons_succ] at d0 d1 d2 d3 d4 d5 d6 d7 d8 d9
  clear hX1 b1 kX hv1 hx1 hL hsL hhL hkL N0 N2 b2 hkp N3 b3 kX2 hfin hv hx hS
  go_enter Tryd.func58, Tryd.ntmps58
  go_upto_region 2 with fail
  rw [← HX1.out]
  go_wp2_with fail
  go_ret
  exact HF.out
end Go.Proofs.YtpccjgoeoeehoaaDoor
namespace Go.Proofs.YtpccjgoeoeehoaaDoor
open Go.RowKit
def set9 (W : World) (g : Nat) (t : Bt) (x : TV) : World := (((((((((W.setCell ⟨g, 0, none⟩ (.string ⟨t.nm.a.toArray⟩)).setCell ⟨g, 1, none⟩ (.string ⟨t.nm.b.toArray⟩)).setCell ⟨g, 2, none⟩ (.string ⟨t.nm.c.toArray⟩)).setCell ⟨g, 3, none⟩ (.string ⟨t.nm.d.toArray⟩)).setCell ⟨g, 4, none⟩ (pv x.kids)).setCell ⟨g, 5, none⟩ (pv x.opn)).setCell ⟨g, 6, none⟩ (pv x.text)).setCell ⟨g, 7, none⟩ (.int .i64 t.line)).setCell ⟨g, 8, none⟩ (.bool t.has))
theorem set9_heap (W : World) (g : Nat) (t : Bt) (x : TV) {k : Nat} (h : k ≠ g) : (set9 W g t x).heap[k]? = W.heap[k]? := by
  unfold set9
  simp only [Below.heap_setCell _ (⟨g, _, none⟩ : Addr) _ k h]
theorem set9_size (W : World) (g : Nat) (t : Bt) (x : TV) : (set9 W g t x).heap.size = W.heap.size := by simp [set9, World.setCell]
theorem set9_blk {W : World} {g : Nat} {e : TypeId} {a0 a1 a2 a3 a4 a5 a6 a7 a8 : Value} (h : Blk W g e [a0, a1, a2, a3, a4, a5, a6, a7, a8]) (t : Bt) (x : TV) : Blk (set9 W g t x) g e (tvcell t x) :=
  (((((((((h.set 0 _).set 1 _).set 2 _).set 3 _).set 4 _).set 5 _).set 6 _).set 7 _).set 8 _)
theorem set9_below {D : Nat} {a W : World} (h : Below D a W) {g : Nat} (hg : D ≤ g) (t : Bt) (x : TV) : Below D a (set9 W g t x) :=
  (((((((((h.setCell hg _).setCell hg _).setCell hg _).setCell hg _).setCell hg _).setCell hg _).setCell hg _).setCell hg _).setCell hg _)
def zTV : List Value := [.string ⟨#[]⟩, .string ⟨#[]⟩, .string ⟨#[]⟩, .string ⟨#[]⟩, .slice none 0 0, .slice none 0 0, .slice none 0 0, .int .i64 0, .bool false]
def Fp (S X : Nat → Prop) (w W : World) : Nat → Prop := fun b => S b ∨ (w.heap.size ≤ b ∧ b < W.heap.size ∧ ¬ X b)
section
variable {S X : Nat → Prop} {w W W' : World}
theorem Fp.lt (hS : ∀ b, S b → b < w.heap.size) (hw : w.heap.size ≤ W.heap.size) : ∀ b, Fp S X w W b → b < W.heap.size := fun b q => q.elim (fun q => Nat.lt_of_lt_of_le (hS b q) hw) (fun q => q.2.1)
theorem Fp.kp (hS : ∀ b, S b → b < w.heap.size) (hw : w.heap.size ≤ W.heap.size) (hb : Below W.heap.size W W') : Kp (Fp S X w W) W W' := Kp.below hb (Fp.lt hS hw)
theorem Fp.up (hb : W.heap.size ≤ W'.heap.size) : ∀ b, Fp S X w W b → Fp S X w W' b := fun b q => q.imp id (fun q => ⟨q.1, Nat.lt_of_lt_of_le q.2.1 hb, q.2.2⟩)
theorem Fp.ne (hS : ∀ b, S b → b < w.heap.size) {g : Nat} (hg : X g) (hw : w.heap.size ≤ g) : ∀ b, Fp S X w W b → b ≠ g := fun b q e => by
  subst e
  rcases q with q | q
  · have := hS b q; omega
  · exact q.2.2 hg
theorem Fp.set (hS : ∀ b, S b → b < w.heap.size) {g : Nat} (hg : X g) (hw : w.heap.size ≤ g) (j : Nat) (v : Value) : Kp (Fp S X w W) W (W.setCell ⟨g, j, none⟩ v) := fun b q => Below.heap_setCell W ⟨g, j, none⟩ v b (Fp.ne hS hg hw b q)
theorem Fp.sets {g j : Nat} {v : Value} : ∀ b, Fp S X w W b → Fp S X w (W.setCell ⟨g, j, none⟩ v) b := fun b q => by
  unfold Fp at *
  rwa [szset]
theorem Fp.mo (hw : w.heap.size ≤ W.heap.size) (hX : ∀ b, X b → b < W.heap.size) (hb : W.heap.size ≤ W'.heap.size) : ∀ b, Mo (Fp S X w W) W W' b → Fp S X w W' b := fun b q =>
  q.elim (Fp.up hb b) (fun q => .inr ⟨by omega, q.2, fun h => by have := hX b h; omega⟩)
theorem Fp.fin : ∀ b, Fp S X w W b → Mo S w W b := fun b q => q.imp id (fun q => ⟨q.1, q.2.1⟩)
end
structure TBx (S X : Nat → Prop) (w : World) (o r : Nat) (W : World) (x : TV) (t : Bt) : Prop where
  hS : ∀ b, S b → b < w.heap.size
  bel : Below w.heap.size w W
  lo : w.heap.size ≤ o
  lr : w.heap.size ≤ r
  ne : r ≠ o
  Xo : X o
  Xr : X r
  hX : ∀ b, X b → b < W.heap.size
  box : Blk W o 32 (tvcell t x)
  res : Blk W r 32 zTV
  bt : BtIs (Fp S X w W) W x t
section
variable {S X : Nat → Prop} {w W W' : World} {o r : Nat} {x x' : TV} {t t' : Bt}
theorem TBx.keep (h : TBx S X w o r W x t) (hb : Below W.heap.size W W') : TBx S X w o r W' x t :=
  ⟨h.hS, h.bel.trans (hb.mono h.bel.size), h.lo, h.lr, h.ne, h.Xo, h.Xr, fun b q => Nat.lt_of_lt_of_le (h.hX b q) hb.size, h.box.below hb, h.res.below hb, (h.bt.keep (Fp.kp h.hS h.bel.size hb)).mono (Fp.up hb.size)⟩
theorem TBx.field (h : TBx S X w o r W x t) (j : Nat) (v : Value) (hc : (tvcell t x).set j v = tvcell t' x') (hbt : BtIs (Fp S X w W) W x' t') : TBx S X w o r (W.setCell ⟨o, j, none⟩ v) x' t' :=
  ⟨h.hS, h.bel.setCell h.lo _, h.lo, h.lr, h.ne, h.Xo, h.Xr, fun b q => by rw [szset]; exact h.hX b q, hc ▸ h.box.set j v, Blk.other h.res h.ne j v, (hbt.keep (Fp.set h.hS h.Xo h.lo j v)).mono Fp.sets⟩
theorem TBx.all (h : TBx S X w o r W x t) (hbt : BtIs (Fp S X w W) W x' t') : TBx S X w o r (set9 W o t' x') x' t' :=
  ⟨h.hS, set9_below h.bel h.lo _ _, h.lo, h.lr, h.ne, h.Xo, h.Xr, fun b q => by rw [set9_size]; exact h.hX b q, set9_blk h.box t' x', (set9_heap W o t' x' h.ne).trans h.res,
    (hbt.keep (fun b q => set9_heap W o t' x' (Fp.ne h.hS h.Xo h.lo b q))).mono (fun b q => by unfold Fp at *; rwa [set9_size])⟩
theorem TBx.fin (h : TBx S X w o r W x t) : BtIs (Mo S w (set9 W r t x)) (set9 W r t x) x t ∧ Below w.heap.size w (set9 W r t x) ∧ Blk (set9 W r t x) r 32 (tvcell t x) :=
  ⟨((h.bt.keep (fun b q => set9_heap W r t x (Fp.ne h.hS h.Xr h.lr b q))).mono Fp.fin).mono (fun b q => by rcases q with q | q; exact .inl q; exact .inr (by rw [set9_size]; exact q)), set9_below h.bel h.lr _ _, set9_blk h.res t x⟩
theorem TBx.inn (h : TBx S X w o r W x t) : ∀ b, Fp S X w W b → b < W.heap.size := Fp.lt h.hS h.bel.size
end
theorem TBx.newbox {S X : Nat → Prop} {w W : World} {o r : Nat} {x : TV} {t : Bt} (h : TBx S X w o r W x t) (ob : Obj) : TBx S (fun b => X b ∨ b = W.heap.size) w o r (W.alloc ob) x t := by
  have hb := below_lit W ob
  have k := h.keep hb
  refine ⟨h.hS, k.bel, h.lo, h.lr, h.ne, .inl h.Xo, .inl h.Xr, fun b q => ?_, k.box, k.res, (h.bt.keep (Fp.kp h.hS h.bel.size hb)).mono (fun b q => ?_)⟩
  · have e : (W.alloc ob).heap.size = W.heap.size + 1 := World.size_alloc _ _
    rcases q with q | q
    · have := h.hX b q; omega
    · omega
  · rcases q with q | q
    · exact .inl q
    · refine .inr ⟨q.1, Nat.lt_of_lt_of_le q.2.1 hb.size, fun z => ?_⟩
      rcases z with z | z
      · exact q.2.2 z
      · omega
theorem TBx.other {S X : Nat → Prop} {w W : World} {o r g : Nat} {x : TV} {t : Bt} (h : TBx S X w o r W x t) (hg : X g) (hw : w.heap.size ≤ g) (ho : o ≠ g) (hr : r ≠ g) (j : Nat) (v : Value) : TBx S X w o r (W.setCell ⟨g, j, none⟩ v) x t :=
  ⟨h.hS, h.bel.setCell hw _, h.lo, h.lr, h.ne, h.Xo, h.Xr, fun b q => by rw [szset]; exact h.hX b q, Blk.other h.box ho j v, Blk.other h.res hr j v, (h.bt.keep (Fp.set h.hS hg hw j v)).mono Fp.sets⟩
theorem TBx.drew {S X : Nat → Prop} {w W : World} {o r : Nat} {x : TV} {t : Bt} (h : TBx S X w o r W x t) : TBx S X w o r W.drew x t := h.keep (Below.refl _ W).drew
def BtQ (S : Nat → Prop) (t : Bt) (w : World) (e : Ending) (w' : World) : Prop := ∃ x : TV, e = .returned (.agg (tvcell t x).toArray) ∧ BtIs (Mo S w w') w' x t ∧ Below w.heap.size w w'
theorem TBx.start {S : Nat → Prop} {w : World} {x : TV} {t : Bt} (hS : ∀ b, S b → b < w.heap.size) (h : BtIs S w x t) :
    TBx S (fun b => b = w.heap.size ∨ b = w.heap.size + 1) w w.heap.size (w.heap.size + 1) ((w.alloc (.cells (tvcell t x).toArray 32)).alloc (.cells zTV.toArray 32)) x t := by
  obtain ⟨W, hW⟩ : ∃ W, W = (w.alloc (.cells (tvcell t x).toArray 32)).alloc (.cells zTV.toArray 32) := ⟨_, rfl⟩
  obtain ⟨bl, h1, h2⟩ := two_lits w _ _ W hW
  have hz : W.heap.size = w.heap.size + 1 + 1 := by rw [hW, World.size_alloc, World.size_alloc]
  rw [← hW]
  exact ⟨hS, bl, Nat.le_refl _, by omega, by omega, .inl rfl, .inr rfl, fun b q => by omega, h1, h2, (h.keep (Kp.below bl hS)).mono (fun b q => .inl q)⟩
theorem TBx.start3 {S : Nat → Prop} {w : World} {x : TV} {t : Bt} {nv : NV} {y : Nd} (hS : ∀ b, S b → b < w.heap.size) (h : BtIs S w x t) (hn : NdIs S w nv y) : ∀ W, W = ((w.alloc (.cells (tvcell t x).toArray 32)).alloc (.cells (ncell nv).toArray 40)).alloc (.cells zTV.toArray 32) →
    TBx S (fun b => b = w.heap.size ∨ b = w.heap.size + 1 ∨ b = w.heap.size + 1 + 1) w w.heap.size (w.heap.size + 1 + 1) W x t ∧ Blk W (w.heap.size + 1) 40 (ncell nv) ∧ NdIs S W nv y ∧ W.heap.size = w.heap.size + 1 + 1 + 1 := by
  intro W hW
  obtain ⟨V, hV⟩ : ∃ V, V = (w.alloc (.cells (tvcell t x).toArray 32)).alloc (.cells (ncell nv).toArray 40) := ⟨_, rfl⟩
  obtain ⟨bl, h1, h2⟩ := two_lits w _ _ V hV
  have hz : V.heap.size = w.heap.size + 1 + 1 := by rw [hV, World.size_alloc, World.size_alloc]
  rw [← hV] at hW
  have b2 : Below V.heap.size V W := by rw [hW]; exact below_lit _ _
  have hz2 : W.heap.size = w.heap.size + 1 + 1 + 1 := by rw [hW, World.size_alloc, hz]
  have hr : Blk W (w.heap.size + 1 + 1) 32 zTV := by
    have := heap_alloc_new V (.cells zTV.toArray 32)
    rw [← hW, hz] at this
    exact this
  have bw := bl.trans (b2.mono bl.size)
  exact ⟨⟨hS, bw, Nat.le_refl _, by omega, by omega, .inl rfl, .inr (.inr rfl), fun b q => by omega, h1.below b2, hr, (h.keep (Kp.below bw hS)).mono (fun b q => .inl q)⟩, h2.below b2, hn.keep (Kp.below bw hS), hz2⟩
end Go.Proofs.YtpccjgoeoeehoaaDoor
namespace Go.Proofs.YtpccjgoeoeehoaaDoor
open Go.RowKit
theorem trm_nil : ∀ l : List Gly, ink l = [] → trm l = []
  | [], _ => rfl
  | g :: l, h => by
    have h1 : ink l = [] := by
      rw [show g :: l = [g] ++ l from rfl, ink_two] at h
      exact (List.append_eq_nil_iff.1 h).2
    have h2 : ink [g] = [] := by
      rw [show g :: l = [g] ++ l from rfl, ink_two] at h
      exact (List.append_eq_nil_iff.1 h).1
    have h3 : g.1 = 32 := by
      by_cases e : g.1 = 32
      · exact e
      · simp [ink, e] at h2
    have ih := trm_nil l h1
    unfold trm
    rw [ih]
    simp [h3]
theorem trimL_ink (l : List Gly) : 0 < (trimL l).length ↔ ink l ≠ [] := by
  rw [trm_trimL]
  constructor
  · intro h e
    rw [trm_nil l e] at h
    simp at h
  · intro h
    have := trm_inked l
    rcases hm : trm l with _ | ⟨g, r⟩
    · rw [hm] at this
      exact absurd this.symm h
    · simp
theorem NsS.front {S : Nat → Prop} {w : World} {a : Option Addr} {n cap : Nat} {l : List Nd} (h : NsS S w (.slice a n cap) l) (k : Nat) (hk : k ≤ l.length) : NsS S w (.slice a k cap) (l.take k) := by
  cases h with
  | mk _ _ L hl hs hh hkk =>
    obtain ⟨⟨a0, c0, e0, hc, hr⟩, hf⟩ := hs
    injection e0 with e1 e2 e3
    subst e1 e2 e3
    have hL : (L.take k).length = k := by rw [List.length_take]; omega
    refine .mk _ _ (L.take k) (by rw [hL, List.length_take]; omega) ⟨⟨_, _, by rw [hL], by rw [hL]; omega, fun j x hj => ?_⟩, fun a' k' c' e hpos => ?_⟩ (fun i x y h1 h2 => ?_) (fun i x y h1 h2 => ?_)
    · have hjk : j < k := by have := (List.getElem?_eq_some_iff.1 hj).1; omega
      rw [List.getElem?_take_of_lt hjk] at hj
      exact hr j x hj
    · injection e with e4 e5 e6
      have h7 := hf a' L.length _ (by rw [e4]) (by omega)
      exact ⟨h7.1, fun h0 i hi => h7.2 h0 i (by omega)⟩
    · have hik : i < k := by have := (List.getElem?_eq_some_iff.1 h1).1; omega
      rw [List.getElem?_take_of_lt hik] at h1 h2
      exact hh i x y h1 h2
    · have hik : i < k := by have := (List.getElem?_eq_some_iff.1 h1).1; omega
      rw [List.getElem?_take_of_lt hik] at h1 h2
      exact hkk i x y h1 h2
theorem NsS.cap {S : Nat → Prop} {w : World} {a : Option Addr} {n cap : Nat} {l : List Nd} (h : NsS S w (.slice a n cap) l) : n ≤ cap := by
  cases h with
  | mk _ _ L hl hs hh hkk =>
    obtain ⟨⟨a0, c0, e0, hc, hr⟩, hf⟩ := hs
    injection e0 with e1 e2 e3
    omega
set_option maxRecDepth 100000 in
set_option maxHeartbeats 8000000 in
theorem rlay_any (S : Nat → Prop) (x : TV) (t : Bt) (nv : NV) (y : Nd) (w : World) (hS : ∀ b, S b → b < w.heap.size) (h : BtIs S w x t) (hn : NdIs S w nv y) (hb : btl t + nlN y ≤ 100000) :
    Calls Tryd.prog 62 #[.agg (tvcell t x).toArray, .agg (ncell nv).toArray] w (BtQ S (bLay t y) w) := by
  obtain ⟨W0, hW0⟩ : ∃ W, W = ((w.alloc (.cells (tvcell t x).toArray 32)).alloc (.cells (ncell nv).toArray 40)).alloc (.cells zTV.toArray 32) := ⟨_, rfl⟩
  obtain ⟨T0, kN, nN, hz⟩ := TBx.start3 hS h hn W0 hW0
  obtain ⟨X, hX⟩ : ∃ X : Nat → Prop, X = (fun b => b = w.heap.size ∨ b = w.heap.size + 1 ∨ b = w.heap.size + 1 + 1) := ⟨_, rfl⟩
  rw [← hX] at T0
  clear hX
  have l1 := cnt_nlL t.kids
  have l2 := cnt_nlL t.opn
  have l3 := cnt_len t.kids
  have l4 := cnt_len t.opn
  have hbt : btl t = nlL t.kids + nlL t.opn + t.text.length := rfl
  obtain ⟨⟨a1, a2, a3⟩, ⟨b1, b2, b3⟩, ⟨e1, e2, e3⟩⟩ := x
  have hbl : t.opn.length = b2 := by
    obtain ⟨q1, q2, q3⟩ := T0.bt.opn.len
    injection q3 with q4 q5 q6
    exact q5.symm
  have HT0 := Lib.hid T0
  have HW0 := Lib.hid hW0
  simp only [zTV] at HW0
  have HKN := Lib.hid kN
  have HN0 := Lib.hid nN
  have HZ := Lib.hid hz
  have y0 : W0.cell? ⟨w.heap.size, 0, none⟩ = some (.string ⟨t.nm.a.toArray⟩) := T0.box.cell 0
  have y1 : W0.cell? ⟨w.heap.size, 1, none⟩ = some (.string ⟨t.nm.b.toArray⟩) := T0.box.cell 1
  have y2 : W0.cell? ⟨w.heap.size, 2, none⟩ = some (.string ⟨t.nm.c.toArray⟩) := T0.box.cell 2
  have y3 : W0.cell? ⟨w.heap.size, 3, none⟩ = some (.string ⟨t.nm.d.toArray⟩) := T0.box.cell 3
  have y4 : W0.cell? ⟨w.heap.size, 4, none⟩ = some (.slice a1 a2 a3) := T0.box.cell 4
  have y5 : W0.cell? ⟨w.heap.size, 5, none⟩ = some (.slice b1 b2 b3) := T0.box.cell 5
  have y6 : W0.cell? ⟨w.heap.size, 6, none⟩ = some (.slice e1 e2 e3) := T0.box.cell 6
  have y7 : W0.cell? ⟨w.heap.size, 7, none⟩ = some (.int .i64 t.line) := T0.box.cell 7
  have y8 : W0.cell? ⟨w.heap.size, 8, none⟩ = some (.bool t.has) := T0.box.cell 8
  clear T0 hW0 h kN nN hn hS hz
  go_enter Tryd.func62, Tryd.ntmps62
  go_upto_region 1 with fail
  rw [← HW0.out]
  clear HW0
  rcases opn_cases t.opn with hop | ⟨ol, oy, hop⟩
  · skip
    have e0 : t.opn = [] := hop
    have HEQ := Lib.hid (lay_none y e0)
    have b0 : b2 = 0 := by rw [e0] at hbl; simpa using hbl.symm
    subst b0
    have HAD := Lib.hid (radd_any (Fp S X w W0) t.kids (.slice a1 a2 a3) nv y W0 HT0.out.inn HT0.out.bt.kids (HN0.out.mono (fun b q => .inl q)) (by omega))
    obtain ⟨kn, hkn⟩ : ∃ n, (t.kids ++ [y]).length = n := ⟨_, rfl⟩
    unfold AddQ at HAD
    rw [hkn] at HAD
    clear hop e0
    obtain ⟨xk, xl, xn, ⟨t1, t2, t3⟩, ⟨k1, k2, k3⟩, ⟨r1, r2, r3⟩, xc, ⟨q1, q2, q3⟩, xb, xa⟩ := nv
    simp only [ncell, pv] at HAD HKN
    have m0 : W0.cell? ⟨w.heap.size + 1, 0, none⟩ = some (.int .i64 xk) := HKN.out.cell 0
    have m1 : W0.cell? ⟨w.heap.size + 1, 1, none⟩ = some (.int .i64 xl) := HKN.out.cell 1
    have m2 : W0.cell? ⟨w.heap.size + 1, 2, none⟩ = some (.int .i64 xn) := HKN.out.cell 2
    have m3 : W0.cell? ⟨w.heap.size + 1, 3, none⟩ = some (.slice t1 t2 t3) := HKN.out.cell 3
    have m4 : W0.cell? ⟨w.heap.size + 1, 4, none⟩ = some (.slice k1 k2 k3) := HKN.out.cell 4
    have m5 : W0.cell? ⟨w.heap.size + 1, 5, none⟩ = some (.slice r1 r2 r3) := HKN.out.cell 5
    have m6 : W0.cell? ⟨w.heap.size + 1, 6, none⟩ = some (.string ⟨xc.toArray⟩) := HKN.out.cell 6
    have m7 : W0.cell? ⟨w.heap.size + 1, 7, none⟩ = some (.slice q1 q2 q3) := HKN.out.cell 7
    have m8 : W0.cell? ⟨w.heap.size + 1, 8, none⟩ = some (.bool xb) := HKN.out.cell 8
    have m9 : W0.cell? ⟨w.heap.size + 1, 9, none⟩ = some (.bool xa) := HKN.out.cell 9
    go_wp2_with fail
    refine HAD.out.mono ?_
    rintro e w1 ⟨na, nc, rfl, hns, b1⟩
    have TK := Lib.hid (HT0.out.keep b1)
    have HNS := Lib.hid (hns.mono (Fp.mo HT0.out.bel.size HT0.out.hX b1.size))
    clear b1 hns HAD HKN y0 y1 y2 y3 y4 y5 y6 y7 y8 m0 m1 m2 m3 m4 m5 m6 m7 m8 m9
    have a4 : w1.cell? ⟨w.heap.size, 4, none⟩ = some (.slice a1 a2 a3) := TK.out.box.cell 4
    have g4 : w1.frozen? ⟨w.heap.size, 4, none⟩ = false := TK.out.box.frozen (by simp [tvcell])
    go_upto_region 4 with fail
    obtain ⟨WA, hWA⟩ : ∃ X, X = w1.setCell ⟨w.heap.size, 4, none⟩ (.slice na kn nc) := ⟨_, rfl⟩
    have TA' := TK.out.field 4 (.slice na kn nc) (t' := { t with kids := t.kids ++ [y] }) (x' := ⟨(na, kn, nc), (b1, 0, b3), (e1, e2, e3)⟩) rfl ⟨HNS.out, TK.out.bt.opn, TK.out.bt.text⟩
    rw [← hWA] at TA'
    rw [← hWA]
    have TA := Lib.hid TA'
    clear hWA TA'
    clear a4 g4
    have y0 : WA.cell? ⟨w.heap.size, 0, none⟩ = some (.string ⟨t.nm.a.toArray⟩) := TA.out.box.cell 0
    have y1 : WA.cell? ⟨w.heap.size, 1, none⟩ = some (.string ⟨t.nm.b.toArray⟩) := TA.out.box.cell 1
    have y2 : WA.cell? ⟨w.heap.size, 2, none⟩ = some (.string ⟨t.nm.c.toArray⟩) := TA.out.box.cell 2
    have y3 : WA.cell? ⟨w.heap.size, 3, none⟩ = some (.string ⟨t.nm.d.toArray⟩) := TA.out.box.cell 3
    have y4 : WA.cell? ⟨w.heap.size, 4, none⟩ = some (.slice na kn nc) := TA.out.box.cell 4
    have y5 : WA.cell? ⟨w.heap.size, 5, none⟩ = some (.slice b1 0 b3) := TA.out.box.cell 5
    have y6 : WA.cell? ⟨w.heap.size, 6, none⟩ = some (.slice e1 e2 e3) := TA.out.box.cell 6
    have y7 : WA.cell? ⟨w.heap.size, 7, none⟩ = some (.int .i64 t.line) := TA.out.box.cell 7
    have y8 : WA.cell? ⟨w.heap.size, 8, none⟩ = some (.bool t.has) := TA.out.box.cell 8
    have z0 : WA.cell? ⟨w.heap.size + 1 + 1, 0, none⟩ = some (.string ⟨#[]⟩) := TA.out.res.cell 0
    have z1 : WA.cell? ⟨w.heap.size + 1 + 1, 1, none⟩ = some (.string ⟨#[]⟩) := TA.out.res.cell 1
    have z2 : WA.cell? ⟨w.heap.size + 1 + 1, 2, none⟩ = some (.string ⟨#[]⟩) := TA.out.res.cell 2
    have z3 : WA.cell? ⟨w.heap.size + 1 + 1, 3, none⟩ = some (.string ⟨#[]⟩) := TA.out.res.cell 3
    have z4 : WA.cell? ⟨w.heap.size + 1 + 1, 4, none⟩ = some (.slice none 0 0) := TA.out.res.cell 4
    have z5 : WA.cell? ⟨w.heap.size + 1 + 1, 5, none⟩ = some (.slice none 0 0) := TA.out.res.cell 5
    have z6 : WA.cell? ⟨w.heap.size + 1 + 1, 6, none⟩ = some (.slice none 0 0) := TA.out.res.cell 6
    have z7 : WA.cell? ⟨w.heap.size + 1 + 1, 7, none⟩ = some (.int .i64 0) := TA.out.res.cell 7
    have z8 : WA.cell? ⟨w.heap.size + 1 + 1, 8, none⟩ = some (.bool false) := TA.out.res.cell 8
    have v0 : WA.frozen? ⟨w.heap.size + 1 + 1, 0, none⟩ = false := TA.out.res.frozen (by simp [zTV])
    have v1 : WA.frozen? ⟨w.heap.size + 1 + 1, 1, none⟩ = false := TA.out.res.frozen (by simp [zTV])
    have v2 : WA.frozen? ⟨w.heap.size + 1 + 1, 2, none⟩ = false := TA.out.res.frozen (by simp [zTV])
    have v3 : WA.frozen? ⟨w.heap.size + 1 + 1, 3, none⟩ = false := TA.out.res.frozen (by simp [zTV])
    have v4 : WA.frozen? ⟨w.heap.size + 1 + 1, 4, none⟩ = false := TA.out.res.frozen (by simp [zTV])
    have v5 : WA.frozen? ⟨w.heap.size + 1 + 1, 5, none⟩ = false := TA.out.res.frozen (by simp [zTV])
    have v6 : WA.frozen? ⟨w.heap.size + 1 + 1, 6, none⟩ = false := TA.out.res.frozen (by simp [zTV])
    have v7 : WA.frozen? ⟨w.heap.size + 1 + 1, 7, none⟩ = false := TA.out.res.frozen (by simp [zTV])
    have v8 : WA.frozen? ⟨w.heap.size + 1 + 1, 8, none⟩ = false := TA.out.res.frozen (by simp [zTV])
    go_wp2_with fail
    have hF := TA.out.fin
    have hblk := hF.2.2
    have k0' := hblk.cell 0
    have k1' := hblk.cell 1
    have k2' := hblk.cell 2
    have k3' := hblk.cell 3
    have k4' := hblk.cell 4
    have k5' := hblk.cell 5
    have k6' := hblk.cell 6
    have k7' := hblk.cell 7
    have k8' := hblk.cell 8
    unfold set9 at k0' k1' k2' k3' k4' k5' k6' k7' k8'
    simp [tvcell, pv] at k0' k1' k2' k3' k4' k5' k6' k7' k8'
    refine bodyPost_ret (v := .agg #[.string ⟨t.nm.a.toArray⟩, .string ⟨t.nm.b.toArray⟩, .string ⟨t.nm.c.toArray⟩, .string ⟨t.nm.d.toArray⟩, .slice na kn nc, .slice b1 0 b3, .slice e1 e2 e3, .int .i64 t.line, .bool t.has]) (by simp [results, Tryd.results62, go_sem, k0', k1', k2', k3', k4', k5', k6', k7', k8']) rfl ?_
    exact (by rw [HEQ.out]; exact ⟨_, rfl, hF.1, hF.2.1⟩)
  · skip
    have HEQ := Lib.hid (lay_some y hop)
    have hbl2 : b2 = ol.length + 1 := by rw [← hbl, hop]; simp
    have hb0 : ((b2 : Int) == 0) = false := beq_eq_false_iff_ne.2 (by omega)
    have hin : (ol.length : Int) < ((ol.length + 1 : Nat) : Int) := by omega
    have hoy : t.opn[ol.length]? = some oy := by rw [hop]; simp
    have l5 := nl_le hoy
    have l6 := cnt_nlL oy.kids
    have l7 := cnt_len oy.kids
    obtain ⟨g, off, xo, hb1, hgS, hC, hHo, hKo⟩ := HT0.out.bt.opn.atR hoy
    subst hb1
    obtain ⟨W1, hW1⟩ : ∃ X, X = W0.alloc (.cells (ncell xo).toArray 40) := ⟨_, rfl⟩
    have bW1 : Below W0.heap.size W0 W1 := by rw [hW1]; exact below_lit _ _
    have kO : Blk W1 W0.heap.size 40 (ncell xo) := by rw [hW1]; exact heap_alloc_new W0 _
    have T1' := HT0.out.newbox (.cells (ncell xo).toArray 40)
    rw [← hW1] at T1'
    obtain ⟨X1, hX1⟩ : ∃ Y : Nat → Prop, Y = (fun b => X b ∨ b = W0.heap.size) := ⟨_, rfl⟩
    rw [← hX1] at T1'
    have hFW1 : ∀ b, Fp S X w W0 b → Fp S X1 w W1 b := fun b q => by
      rcases q with q | q
      · exact .inl q
      · exact .inr ⟨q.1, Nat.lt_of_lt_of_le q.2.1 bW1.size, fun z => by rw [hX1] at z; rcases z with z | z; exact q.2.2 z; have := q.2.1; omega⟩
    have hFk : Kp (Fp S X w W0) W0 W1 := Fp.kp HT0.out.hS HT0.out.bel.size bW1
    have hNW1 := (HN0.out.mono (T := Fp S X w W0) (fun b q => .inl q)).keep hFk |>.mono hFW1
    have hOW1 : NdIs _ W1 xo oy := ((show NdIs _ W0 xo oy from ⟨hHo, hKo⟩).keep hFk).mono hFW1
    have hon6 : t.opn.length = ol.length + 1 := (by rw [hop]; simp)
    have hon5 : ol.length ≤ 400000 := by omega
    obtain ⟨on, hon⟩ : ∃ n, ol.length = n := ⟨_, rfl⟩
    rw [hon] at hbl2 hin hoy
    obtain ⟨bz, hbz⟩ : ∃ n, W0.heap.size = n := ⟨_, rfl⟩
    rw [hbz] at kO hX1
    have hzz := HZ.out
    rw [hbz] at hzz
    have hz1 : w.heap.size ≤ bz := by omega
    have hz2 : w.heap.size ≠ bz := by omega
    have hz3 : w.heap.size + 1 + 1 ≠ bz := by omega
    clear hzz
    have hin' : (on : Int) < (b2 : Int) := by omega
    have hon0 : (0 : Int) ≤ (on : Int) := by omega
    have hsub : IntKind.i64.wrap ((b2 : Int) - 1) = (on : Int) := by rw [IntWalk.i64_in _ (by omega)]; omega
    have hsub2 : wrap64 ((b2 : Int) - 1) = (on : Int) := by rw [← hsub]; unfold wrap64; exact (IntKind.wrap_i64 _).symm
    have HBL2 := Lib.hid hbl2
    clear hbl2
    obtain ⟨kn, hkn⟩ : ∃ n, (oy.kids ++ [y]).length = n := ⟨_, rfl⟩
    have HAD := Lib.hid (radd_any (Fp S X1 w W1) oy.kids (pv xo.kids) nv y W1 T1'.inn hOW1.2 hNW1 (by omega))
    unfold AddQ at HAD
    rw [hkn] at HAD
    have kN1 := HKN.out.below bW1
    obtain ⟨xk, xl, xn, ⟨t1, t2, t3⟩, ⟨k1, k2, k3⟩, ⟨r1, r2, r3⟩, xc, ⟨q1, q2, q3⟩, xb, xa⟩ := nv
    obtain ⟨zk, zl, zn, ⟨u1, u2, u3⟩, ⟨j1, j2, j3⟩, ⟨s1, s2, s3⟩, zc, ⟨p1, p2, p3⟩, zb, za⟩ := xo
    simp only [ncell, pv] at HAD kN1
    have c0 : W0.cell? ⟨g, off + on * 10, none⟩ = some (.int .i64 zk) := by rw [← hon]; exact hC 0 _ rfl
    have c1 : W0.cell? ⟨g, off + on * 10 + 1, none⟩ = some (.int .i64 zl) := by rw [← hon]; exact hC 1 _ rfl
    have c2 : W0.cell? ⟨g, off + on * 10 + 2, none⟩ = some (.int .i64 zn) := by rw [← hon]; exact hC 2 _ rfl
    have c3 : W0.cell? ⟨g, off + on * 10 + 3, none⟩ = some (.slice u1 u2 u3) := by rw [← hon]; exact hC 3 _ rfl
    have c4 : W0.cell? ⟨g, off + on * 10 + 4, none⟩ = some (.slice j1 j2 j3) := by rw [← hon]; exact hC 4 _ rfl
    have c5 : W0.cell? ⟨g, off + on * 10 + 5, none⟩ = some (.slice s1 s2 s3) := by rw [← hon]; exact hC 5 _ rfl
    have c6 : W0.cell? ⟨g, off + on * 10 + 6, none⟩ = some (.string ⟨zc.toArray⟩) := by rw [← hon]; exact hC 6 _ rfl
    have c7 : W0.cell? ⟨g, off + on * 10 + 7, none⟩ = some (.slice p1 p2 p3) := by rw [← hon]; exact hC 7 _ rfl
    have c8 : W0.cell? ⟨g, off + on * 10 + 8, none⟩ = some (.bool zb) := by rw [← hon]; exact hC 8 _ rfl
    have c9 : W0.cell? ⟨g, off + on * 10 + 9, none⟩ = some (.bool za) := by rw [← hon]; exact hC 9 _ rfl
    have HBW := Lib.hid hW1
    have HKO := Lib.hid kO
    have HT1 := Lib.hid T1'
    have HOW := Lib.hid hOW1
    have HX1 := Lib.hid hX1
    simp only [ncell, pv] at HBW HKO
    have d4 : W1.cell? ⟨bz, 4, none⟩ = some (.slice j1 j2 j3) := HKO.out.cell 4
    have m0 : W1.cell? ⟨w.heap.size + 1, 0, none⟩ = some (.int .i64 xk) := kN1.cell 0
    have m1 : W1.cell? ⟨w.heap.size + 1, 1, none⟩ = some (.int .i64 xl) := kN1.cell 1
    have m2 : W1.cell? ⟨w.heap.size + 1, 2, none⟩ = some (.int .i64 xn) := kN1.cell 2
    have m3 : W1.cell? ⟨w.heap.size + 1, 3, none⟩ = some (.slice t1 t2 t3) := kN1.cell 3
    have m4 : W1.cell? ⟨w.heap.size + 1, 4, none⟩ = some (.slice k1 k2 k3) := kN1.cell 4
    have m5 : W1.cell? ⟨w.heap.size + 1, 5, none⟩ = some (.slice r1 r2 r3) := kN1.cell 5
    have m6 : W1.cell? ⟨w.heap.size + 1, 6, none⟩ = some (.string ⟨xc.toArray⟩) := kN1.cell 6
    have m7 : W1.cell? ⟨w.heap.size + 1, 7, none⟩ = some (.slice q1 q2 q3) := kN1.cell 7
    have m8 : W1.cell? ⟨w.heap.size + 1, 8, none⟩ = some (.bool xb) := kN1.cell 8
    have m9 : W1.cell? ⟨w.heap.size + 1, 9, none⟩ = some (.bool xa) := kN1.cell 9
    have HOP := Lib.hid hop
    clear hop hin hbl hC hHo hKo hW1 bW1 kO T1' hX1 hFW1 hFk hNW1 hOW1 kN1 hoy hkn HKN l1 l2 l3 l4 l5 l6 l7 hgS
    go_upto_region 6 with fail
    rw [← HBW.out]
    try rw [hbz]
    clear HBW y0 y1 y2 y3 y4 y5 y6 y7 y8 c0 c1 c2 c3 c4 c5 c6 c7 c8 c9
    go_wp2_with fail
    refine HAD.out.mono ?_
    rintro e w1 ⟨na, nc, rfl, hns, b1⟩
    have TK := Lib.hid (HT1.out.keep b1)
    have hns' := hns.mono (Fp.mo HT1.out.bel.size HT1.out.hX b1.size)
    have kO1 := HKO.out.below b1
    have hOW2 := (HOW.out.keep (Fp.kp HT1.out.hS HT1.out.bel.size b1)).mono (Fp.up b1.size)
    have a4 : w1.cell? ⟨bz, 4, none⟩ = some (.slice j1 j2 j3) := kO1.cell 4
    have g4 : w1.frozen? ⟨bz, 4, none⟩ = false := kO1.frozen (by simp)
    have hXz : X1 bz := by rw [HX1.out]; exact .inr rfl
    obtain ⟨W2, hW2⟩ : ∃ X, X = w1.setCell ⟨bz, 4, none⟩ (.slice na kn nc) := ⟨_, rfl⟩
    have T2 := TK.out.other hXz hz1 hz2 hz3 4 (.slice na kn nc)
    have kp2 := Fp.set TK.out.hS hXz hz1 4 (.slice na kn nc) (W := w1)
    have kO2 := kO1.set 4 (.slice na kn nc)
    have nO2 : NdIs (Fp S X1 w w1) w1 ⟨zk, zl, zn, (u1, u2, u3), (na, kn, nc), (s1, s2, s3), zc, (p1, p2, p3), zb, za⟩ (ownKid oy y) := ⟨⟨hOW2.1.kind, hOW2.1.line, hOW2.1.n, hOW2.1.text, hOW2.1.rows, hOW2.1.cols, hOW2.1.trows, hOW2.1.box, hOW2.1.all⟩, hns'⟩
    have nO3 := (nO2.keep kp2).mono (T := Fp S X1 w (w1.setCell ⟨bz, 4, none⟩ (.slice na kn nc))) Fp.sets
    rw [← hW2] at T2 kO2 nO3
    have HT2 := Lib.hid T2
    have HKO2 := Lib.hid kO2
    have HNO := Lib.hid nO3
    have HW2 := Lib.hid hW2
    clear hns b1 hns' kO1 hOW2 T2 kp2 kO2 nO2 nO3 hW2 HAD HOW HKO HT1 TK d4 m0 m1 m2 m3 m4 m5 m6 m7 m8 m9
    go_upto_region 7 with fail
    rw [← HW2.out]
    clear a4 g4 HW2
    have a5 : W2.cell? ⟨w.heap.size, 5, none⟩ = some (.slice (some ⟨g, off, none⟩) b2 b3) := HT2.out.box.cell 5
    simp only [List.set] at HKO2
    have d0 : W2.cell? ⟨bz, 0, none⟩ = some (.int .i64 zk) := HKO2.out.cell 0
    have d1 : W2.cell? ⟨bz, 1, none⟩ = some (.int .i64 zl) := HKO2.out.cell 1
    have d2 : W2.cell? ⟨bz, 2, none⟩ = some (.int .i64 zn) := HKO2.out.cell 2
    have d3 : W2.cell? ⟨bz, 3, none⟩ = some (.slice u1 u2 u3) := HKO2.out.cell 3
    have d4 : W2.cell? ⟨bz, 4, none⟩ = some (.slice na kn nc) := HKO2.out.cell 4
    have d5 : W2.cell? ⟨bz, 5, none⟩ = some (.slice s1 s2 s3) := HKO2.out.cell 5
    have d6 : W2.cell? ⟨bz, 6, none⟩ = some (.string ⟨zc.toArray⟩) := HKO2.out.cell 6
    have d7 : W2.cell? ⟨bz, 7, none⟩ = some (.slice p1 p2 p3) := HKO2.out.cell 7
    have d8 : W2.cell? ⟨bz, 8, none⟩ = some (.bool zb) := HKO2.out.cell 8
    have d9 : W2.cell? ⟨bz, 9, none⟩ = some (.bool za) := HKO2.out.cell 9
    obtain ⟨kn2, hkn2⟩ : ∃ n, (ol ++ [ownKid oy y]).length = n := ⟨_, rfl⟩
    have hopn : NsS (Fp S X1 w W2) W2 (.slice (some ⟨g, off, none⟩) b2 b3) (ol ++ [oy]) := HOP.out ▸ HT2.out.bt.opn
    have hfr := hopn.front on (by simp; omega)
    rw [List.take_append_of_le_length (by omega), List.take_of_length_le (by omega)] at hfr
    have hcap : on ≤ b3 := hfr.cap
    have TD := HT2.out.drew
    have HAD2 := Lib.hid (radd_any (Fp S X1 w W2.drew) ol (.slice (some ⟨g, off, none⟩) on b3) ⟨zk, zl, zn, (u1, u2, u3), (na, kn, nc), (s1, s2, s3), zc, (p1, p2, p3), zb, za⟩ (ownKid oy y) W2.drew TD.inn (hfr.keep (Kp.refl _ _)) (HNO.out.keep (Kp.refl _ _)) (by omega))
    unfold AddQ at HAD2
    rw [hkn2] at HAD2
    simp only [ncell, pv] at HAD2
    have HTD := Lib.hid TD
    clear hopn hfr TD hkn2 hon5
    go_still_tail 6, (by kernel_rfl)
    change wpList _ _ _ _ _ W2.drew
    go_wp2_with fail
    refine HAD2.out.mono ?_
    rintro e w3 ⟨pa, pc, rfl, hns3, b3'⟩
    have TE := Lib.hid (HTD.out.keep b3')
    have HNS3 := Lib.hid (hns3.mono (Fp.mo HTD.out.bel.size HTD.out.hX b3'.size))
    clear hns3 b3' HAD2 a5 d0 d1 d2 d3 d4 d5 d6 d7 d8 d9
    have a5 : w3.cell? ⟨w.heap.size, 5, none⟩ = some (.slice (some ⟨g, off, none⟩) b2 b3) := TE.out.box.cell 5
    have g5 : w3.frozen? ⟨w.heap.size, 5, none⟩ = false := TE.out.box.frozen (by simp [tvcell])
    go_upto_region 8 with fail
    obtain ⟨WF, hWF⟩ : ∃ X, X = w3.setCell ⟨w.heap.size, 5, none⟩ (.slice pa kn2 pc) := ⟨_, rfl⟩
    have TF' := TE.out.field 5 (.slice pa kn2 pc) (t' := { t with opn := ol ++ [ownKid oy y] }) (x' := ⟨(a1, a2, a3), (pa, kn2, pc), (e1, e2, e3)⟩) rfl ⟨TE.out.bt.kids, HNS3.out, TE.out.bt.text⟩
    rw [← hWF] at TF'
    rw [← hWF]
    have TF := Lib.hid TF'
    clear hWF TF'
    clear a5 g5
    have y0 : WF.cell? ⟨w.heap.size, 0, none⟩ = some (.string ⟨t.nm.a.toArray⟩) := TF.out.box.cell 0
    have y1 : WF.cell? ⟨w.heap.size, 1, none⟩ = some (.string ⟨t.nm.b.toArray⟩) := TF.out.box.cell 1
    have y2 : WF.cell? ⟨w.heap.size, 2, none⟩ = some (.string ⟨t.nm.c.toArray⟩) := TF.out.box.cell 2
    have y3 : WF.cell? ⟨w.heap.size, 3, none⟩ = some (.string ⟨t.nm.d.toArray⟩) := TF.out.box.cell 3
    have y4 : WF.cell? ⟨w.heap.size, 4, none⟩ = some (.slice a1 a2 a3) := TF.out.box.cell 4
    have y5 : WF.cell? ⟨w.heap.size, 5, none⟩ = some (.slice pa kn2 pc) := TF.out.box.cell 5
    have y6 : WF.cell? ⟨w.heap.size, 6, none⟩ = some (.slice e1 e2 e3) := TF.out.box.cell 6
    have y7 : WF.cell? ⟨w.heap.size, 7, none⟩ = some (.int .i64 t.line) := TF.out.box.cell 7
    have y8 : WF.cell? ⟨w.heap.size, 8, none⟩ = some (.bool t.has) := TF.out.box.cell 8
    have z0 : WF.cell? ⟨w.heap.size + 1 + 1, 0, none⟩ = some (.string ⟨#[]⟩) := TF.out.res.cell 0
    have z1 : WF.cell? ⟨w.heap.size + 1 + 1, 1, none⟩ = some (.string ⟨#[]⟩) := TF.out.res.cell 1
    have z2 : WF.cell? ⟨w.heap.size + 1 + 1, 2, none⟩ = some (.string ⟨#[]⟩) := TF.out.res.cell 2
    have z3 : WF.cell? ⟨w.heap.size + 1 + 1, 3, none⟩ = some (.string ⟨#[]⟩) := TF.out.res.cell 3
    have z4 : WF.cell? ⟨w.heap.size + 1 + 1, 4, none⟩ = some (.slice none 0 0) := TF.out.res.cell 4
    have z5 : WF.cell? ⟨w.heap.size + 1 + 1, 5, none⟩ = some (.slice none 0 0) := TF.out.res.cell 5
    have z6 : WF.cell? ⟨w.heap.size + 1 + 1, 6, none⟩ = some (.slice none 0 0) := TF.out.res.cell 6
    have z7 : WF.cell? ⟨w.heap.size + 1 + 1, 7, none⟩ = some (.int .i64 0) := TF.out.res.cell 7
    have z8 : WF.cell? ⟨w.heap.size + 1 + 1, 8, none⟩ = some (.bool false) := TF.out.res.cell 8
    have v0 : WF.frozen? ⟨w.heap.size + 1 + 1, 0, none⟩ = false := TF.out.res.frozen (by simp [zTV])
    have v1 : WF.frozen? ⟨w.heap.size + 1 + 1, 1, none⟩ = false := TF.out.res.frozen (by simp [zTV])
    have v2 : WF.frozen? ⟨w.heap.size + 1 + 1, 2, none⟩ = false := TF.out.res.frozen (by simp [zTV])
    have v3 : WF.frozen? ⟨w.heap.size + 1 + 1, 3, none⟩ = false := TF.out.res.frozen (by simp [zTV])
    have v4 : WF.frozen? ⟨w.heap.size + 1 + 1, 4, none⟩ = false := TF.out.res.frozen (by simp [zTV])
    have v5 : WF.frozen? ⟨w.heap.size + 1 + 1, 5, none⟩ = false := TF.out.res.frozen (by simp [zTV])
    have v6 : WF.frozen? ⟨w.heap.size + 1 + 1, 6, none⟩ = false := TF.out.res.frozen (by simp [zTV])
    have v7 : WF.frozen? ⟨w.heap.size + 1 + 1, 7, none⟩ = false := TF.out.res.frozen (by simp [zTV])
    have v8 : WF.frozen? ⟨w.heap.size + 1 + 1, 8, none⟩ = false := TF.out.res.frozen (by simp [zTV])
    go_wp2_with fail
    have hF := TF.out.fin
    have hblk := hF.2.2
    have k0' := hblk.cell 0
    have k1' := hblk.cell 1
    have k2' := hblk.cell 2
    have k3' := hblk.cell 3
    have k4' := hblk.cell 4
    have k5' := hblk.cell 5
    have k6' := hblk.cell 6
    have k7' := hblk.cell 7
    have k8' := hblk.cell 8
    unfold set9 at k0' k1' k2' k3' k4' k5' k6' k7' k8'
    simp [tvcell, pv] at k0' k1' k2' k3' k4' k5' k6' k7' k8'
    refine bodyPost_ret (v := .agg #[.string ⟨t.nm.a.toArray⟩, .string ⟨t.nm.b.toArray⟩, .string ⟨t.nm.c.toArray⟩, .string ⟨t.nm.d.toArray⟩, .slice a1 a2 a3, .slice pa kn2 pc, .slice e1 e2 e3, .int .i64 t.line, .bool t.has]) (by simp [results, Tryd.results62, go_sem, k0', k1', k2', k3', k4', k5', k6', k7', k8']) rfl ?_
    exact (by rw [HEQ.out]; exact ⟨_, rfl, hF.1, hF.2.1⟩)
set_option maxRecDepth 100000 in
set_option maxHeartbeats 4000000 in
theorem rend_any (S : Nat → Prop) (x : TV) (t : Bt) (w : World) (hS : ∀ b, S b → b < w.heap.size) (h : BtIs S w x t) (hb : btl t ≤ 40000) :
    Calls Tryd.prog 38 #[.agg (tvcell t x).toArray] w (BtQ S (bEnd t) w) := by
  have T0 := TBx.start hS h
  obtain ⟨W0, hW0⟩ : ∃ W, W = (w.alloc (.cells (tvcell t x).toArray 32)).alloc (.cells zTV.toArray 32) := ⟨_, rfl⟩
  rw [← hW0] at T0
  have htl : t.text.length ≤ 40000 := by unfold btl at hb; omega
  have HTR := Lib.hid (rtrim_any t.text (pv x.text) W0 T0.bt.text.1 (by omega))
  obtain ⟨⟨a1, a2, a3⟩, ⟨b1, b2, b3⟩, ⟨e1, e2, e3⟩⟩ := x
  have HT0 := Lib.hid T0
  have HW0 := Lib.hid hW0
  simp only [zTV] at HW0
  simp only [pv] at HTR
  have y0 : W0.cell? ⟨w.heap.size, 0, none⟩ = some (.string ⟨t.nm.a.toArray⟩) := T0.box.cell 0
  have y1 : W0.cell? ⟨w.heap.size, 1, none⟩ = some (.string ⟨t.nm.b.toArray⟩) := T0.box.cell 1
  have y2 : W0.cell? ⟨w.heap.size, 2, none⟩ = some (.string ⟨t.nm.c.toArray⟩) := T0.box.cell 2
  have y3 : W0.cell? ⟨w.heap.size, 3, none⟩ = some (.string ⟨t.nm.d.toArray⟩) := T0.box.cell 3
  have y4 : W0.cell? ⟨w.heap.size, 4, none⟩ = some (.slice a1 a2 a3) := T0.box.cell 4
  have y5 : W0.cell? ⟨w.heap.size, 5, none⟩ = some (.slice b1 b2 b3) := T0.box.cell 5
  have y6 : W0.cell? ⟨w.heap.size, 6, none⟩ = some (.slice e1 e2 e3) := T0.box.cell 6
  have y7 : W0.cell? ⟨w.heap.size, 7, none⟩ = some (.int .i64 t.line) := T0.box.cell 7
  have y8 : W0.cell? ⟨w.heap.size, 8, none⟩ = some (.bool t.has) := T0.box.cell 8
  have hink := trimL_ink t.text
  clear T0 hW0 h
  go_enter Tryd.func38, Tryd.ntmps38
  go_upto_region 1 with fail
  rw [← HW0.out]
  clear HW0
  go_wp2_with fail
  refine HTR.out.mono ?_
  rintro e w1 ⟨u, rfl, hg, hw⟩
  subst hw
  obtain ⟨ua, uc, hu⟩ := hg.len
  subst hu
  obtain ⟨tn, htn⟩ : ∃ n, (trimL t.text).length = n := ⟨_, rfl⟩
  rw [htn] at hink ⊢
  clear hg HTR htn
  by_cases hi : ink t.text = []
  · have h0 : ¬ ((tn : Int) > 0) := by (have h : ¬ 0 < tn := fun q => (hink.1 q) hi); omega
    obtain rfl : tn = 0 := by omega
    have h0' : decide ((0 : Int) < 0) = false := rfl
    have HEQ : Hid (bEnd t = bFlat t) := Lib.hid (by unfold bEnd; rw [if_pos hi])
    clear hi hink h0
    go_upto_region 3 with fail
    clear y0 y1 y2 y3 y4 y5 y6 y7 y8 h0'
    have a6 : W0.cell? ⟨w.heap.size, 6, none⟩ = some (.slice e1 e2 e3) := HT0.out.box.cell 6
    have g6 : W0.frozen? ⟨w.heap.size, 6, none⟩ = false := HT0.out.box.frozen (by simp [tvcell])
    go_upto_region 4 with fail
    obtain ⟨WA, hWA⟩ : ∃ X, X = W0.setCell ⟨w.heap.size, 6, none⟩ (.slice none 0 0) := ⟨_, rfl⟩
    have TA' := HT0.out.field 6 (.slice none 0 0) (t' := { t with text := [] }) (x' := ⟨(a1, a2, a3), (b1, b2, b3), (none, 0, 0)⟩) rfl ⟨HT0.out.bt.kids, HT0.out.bt.opn, FsS.nil _ _ _ _⟩
    rw [← hWA] at TA'
    rw [← hWA]
    have TA := Lib.hid TA'
    clear hWA TA'
    clear a6 g6
    have a8 : WA.cell? ⟨w.heap.size, 8, none⟩ = some (.bool t.has) := TA.out.box.cell 8
    have g8 : WA.frozen? ⟨w.heap.size, 8, none⟩ = false := TA.out.box.frozen (by simp [tvcell])
    go_upto_region 5 with fail
    obtain ⟨WB, hWB⟩ : ∃ X, X = WA.setCell ⟨w.heap.size, 8, none⟩ (.bool false) := ⟨_, rfl⟩
    have TB' := TA.out.field 8 (.bool false) (t' := { t with text := [], has := false }) (x' := ⟨(a1, a2, a3), (b1, b2, b3), (none, 0, 0)⟩) rfl ⟨TA.out.bt.kids, TA.out.bt.opn, TA.out.bt.text⟩
    rw [← hWB] at TB'
    rw [← hWB]
    have TB := Lib.hid TB'
    clear hWB TB'
    clear a8 g8
    have a7 : WB.cell? ⟨w.heap.size, 7, none⟩ = some (.int .i64 t.line) := TB.out.box.cell 7
    have g7 : WB.frozen? ⟨w.heap.size, 7, none⟩ = false := TB.out.box.frozen (by simp [tvcell])
    go_upto_region 6 with fail
    obtain ⟨WC, hWC⟩ : ∃ X, X = WB.setCell ⟨w.heap.size, 7, none⟩ (.int .i64 0) := ⟨_, rfl⟩
    have TC' := TB.out.field 7 (.int .i64 0) (t' := { t with text := [], line := 0, has := false }) (x' := ⟨(a1, a2, a3), (b1, b2, b3), (none, 0, 0)⟩) rfl ⟨TB.out.bt.kids, TB.out.bt.opn, TB.out.bt.text⟩
    rw [← hWC] at TC'
    rw [← hWC]
    have TC := Lib.hid TC'
    clear hWC TC'
    clear a7 g7
    have y0 : WC.cell? ⟨w.heap.size, 0, none⟩ = some (.string ⟨t.nm.a.toArray⟩) := TC.out.box.cell 0
    have y1 : WC.cell? ⟨w.heap.size, 1, none⟩ = some (.string ⟨t.nm.b.toArray⟩) := TC.out.box.cell 1
    have y2 : WC.cell? ⟨w.heap.size, 2, none⟩ = some (.string ⟨t.nm.c.toArray⟩) := TC.out.box.cell 2
    have y3 : WC.cell? ⟨w.heap.size, 3, none⟩ = some (.string ⟨t.nm.d.toArray⟩) := TC.out.box.cell 3
    have y4 : WC.cell? ⟨w.heap.size, 4, none⟩ = some (.slice a1 a2 a3) := TC.out.box.cell 4
    have y5 : WC.cell? ⟨w.heap.size, 5, none⟩ = some (.slice b1 b2 b3) := TC.out.box.cell 5
    have y6 : WC.cell? ⟨w.heap.size, 6, none⟩ = some (.slice none 0 0) := TC.out.box.cell 6
    have y7 : WC.cell? ⟨w.heap.size, 7, none⟩ = some (.int .i64 0) := TC.out.box.cell 7
    have y8 : WC.cell? ⟨w.heap.size, 8, none⟩ = some (.bool false) := TC.out.box.cell 8
    have z0 : WC.cell? ⟨w.heap.size + 1, 0, none⟩ = some (.string ⟨#[]⟩) := TC.out.res.cell 0
    have z1 : WC.cell? ⟨w.heap.size + 1, 1, none⟩ = some (.string ⟨#[]⟩) := TC.out.res.cell 1
    have z2 : WC.cell? ⟨w.heap.size + 1, 2, none⟩ = some (.string ⟨#[]⟩) := TC.out.res.cell 2
    have z3 : WC.cell? ⟨w.heap.size + 1, 3, none⟩ = some (.string ⟨#[]⟩) := TC.out.res.cell 3
    have z4 : WC.cell? ⟨w.heap.size + 1, 4, none⟩ = some (.slice none 0 0) := TC.out.res.cell 4
    have z5 : WC.cell? ⟨w.heap.size + 1, 5, none⟩ = some (.slice none 0 0) := TC.out.res.cell 5
    have z6 : WC.cell? ⟨w.heap.size + 1, 6, none⟩ = some (.slice none 0 0) := TC.out.res.cell 6
    have z7 : WC.cell? ⟨w.heap.size + 1, 7, none⟩ = some (.int .i64 0) := TC.out.res.cell 7
    have z8 : WC.cell? ⟨w.heap.size + 1, 8, none⟩ = some (.bool false) := TC.out.res.cell 8
    have v0 : WC.frozen? ⟨w.heap.size + 1, 0, none⟩ = false := TC.out.res.frozen (by simp [zTV])
    have v1 : WC.frozen? ⟨w.heap.size + 1, 1, none⟩ = false := TC.out.res.frozen (by simp [zTV])
    have v2 : WC.frozen? ⟨w.heap.size + 1, 2, none⟩ = false := TC.out.res.frozen (by simp [zTV])
    have v3 : WC.frozen? ⟨w.heap.size + 1, 3, none⟩ = false := TC.out.res.frozen (by simp [zTV])
    have v4 : WC.frozen? ⟨w.heap.size + 1, 4, none⟩ = false := TC.out.res.frozen (by simp [zTV])
    have v5 : WC.frozen? ⟨w.heap.size + 1, 5, none⟩ = false := TC.out.res.frozen (by simp [zTV])
    have v6 : WC.frozen? ⟨w.heap.size + 1, 6, none⟩ = false := TC.out.res.frozen (by simp [zTV])
    have v7 : WC.frozen? ⟨w.heap.size + 1, 7, none⟩ = false := TC.out.res.frozen (by simp [zTV])
    have v8 : WC.frozen? ⟨w.heap.size + 1, 8, none⟩ = false := TC.out.res.frozen (by simp [zTV])
    go_wp2_with fail
    have hF := TC.out.fin
    have hblk := hF.2.2
    have k0' := hblk.cell 0
    have k1' := hblk.cell 1
    have k2' := hblk.cell 2
    have k3' := hblk.cell 3
    have k4' := hblk.cell 4
    have k5' := hblk.cell 5
    have k6' := hblk.cell 6
    have k7' := hblk.cell 7
    have k8' := hblk.cell 8
    unfold set9 at k0' k1' k2' k3' k4' k5' k6' k7' k8'
    simp [tvcell, pv] at k0' k1' k2' k3' k4' k5' k6' k7' k8'
    refine bodyPost_ret (v := .agg #[.string ⟨t.nm.a.toArray⟩, .string ⟨t.nm.b.toArray⟩, .string ⟨t.nm.c.toArray⟩, .string ⟨t.nm.d.toArray⟩, .slice a1 a2 a3, .slice b1 b2 b3, .slice none 0 0, .int .i64 0, .bool false]) (by simp [results, Tryd.results38, go_sem, k0', k1', k2', k3', k4', k5', k6', k7', k8']) rfl ?_
    exact (by rw [HEQ.out]; exact ⟨_, rfl, hF.1, hF.2.1⟩)
  · have h0 : (tn : Int) > 0 := by (have h := hink.2 hi); omega
    have h0' : decide (0 < tn) = true := decide_eq_true (by omega)
    have h0'' : decide ((0 : Int) < (tn : Int)) = true := decide_eq_true h0
    have HEQ : Hid (bEnd t = bFlat (bLay t (paraN t))) := Lib.hid (by unfold bEnd; rw [if_neg hi])
    have hnd : NdIs (Fp S _ w W0) W0 ⟨3, t.line, 0, (e1, e2, e3), (none, 0, 0), (none, 0, 0), [], (none, 0, 0), false, false⟩ (paraN t) := ⟨⟨rfl, rfl, rfl, HT0.out.bt.text, GrS.nil _ _, rfl, TrS.nil _ _, rfl, rfl⟩, NsS.nil _ _⟩
    have hnl := nl_para t
    have HLY := Lib.hid (rlay_any (Fp S _ w W0) ⟨(a1, a2, a3), (b1, b2, b3), (e1, e2, e3)⟩ t _ (paraN t) W0 HT0.out.inn HT0.out.bt hnd (by omega))
    obtain ⟨t1, ht1⟩ : ∃ t1, bLay t (paraN t) = t1 := ⟨_, rfl⟩
    rw [ht1] at HLY HEQ
    simp only [tvcell, ncell, pv] at HLY
    clear hi hink h0 hnd hnl ht1
    go_wp2_with fail
    refine HLY.out.mono ?_
    rintro e w1 ⟨⟨⟨c1, c2, c3⟩, ⟨d1, d2, d3⟩, ⟨g1, g2, g3⟩⟩, rfl, hbt, hb1⟩
    simp only [tvcell, pv]
    have T1 := HT0.out.keep hb1
    have hbt' := hbt.mono (Fp.mo HT0.out.bel.size HT0.out.hX hb1.size)
    obtain ⟨WL, hWL⟩ : ∃ X, X = set9 w1 w.heap.size t1 ⟨(c1, c2, c3), (d1, d2, d3), (g1, g2, g3)⟩ := ⟨_, rfl⟩
    have TL' := T1.all hbt'
    rw [← hWL] at TL'
    have TL := Lib.hid TL'
    have T1H := Lib.hid T1
    unfold set9 at hWL
    simp only [pv] at hWL
    have HWL := Lib.hid hWL
    clear hbt hb1 hbt' TL' T1 hWL HLY h0' h0'' y0 y1 y2 y3 y4 y5 y6 y7 y8
    have y0 : w1.cell? ⟨w.heap.size, 0, none⟩ = some (.string ⟨t.nm.a.toArray⟩) := T1H.out.box.cell 0
    have y1 : w1.cell? ⟨w.heap.size, 1, none⟩ = some (.string ⟨t.nm.b.toArray⟩) := T1H.out.box.cell 1
    have y2 : w1.cell? ⟨w.heap.size, 2, none⟩ = some (.string ⟨t.nm.c.toArray⟩) := T1H.out.box.cell 2
    have y3 : w1.cell? ⟨w.heap.size, 3, none⟩ = some (.string ⟨t.nm.d.toArray⟩) := T1H.out.box.cell 3
    have y4 : w1.cell? ⟨w.heap.size, 4, none⟩ = some (.slice a1 a2 a3) := T1H.out.box.cell 4
    have y5 : w1.cell? ⟨w.heap.size, 5, none⟩ = some (.slice b1 b2 b3) := T1H.out.box.cell 5
    have y6 : w1.cell? ⟨w.heap.size, 6, none⟩ = some (.slice e1 e2 e3) := T1H.out.box.cell 6
    have y7 : w1.cell? ⟨w.heap.size, 7, none⟩ = some (.int .i64 t.line) := T1H.out.box.cell 7
    have y8 : w1.cell? ⟨w.heap.size, 8, none⟩ = some (.bool t.has) := T1H.out.box.cell 8
    have f0 : w1.frozen? ⟨w.heap.size, 0, none⟩ = false := T1H.out.box.frozen (by simp [tvcell])
    have f1 : w1.frozen? ⟨w.heap.size, 1, none⟩ = false := T1H.out.box.frozen (by simp [tvcell])
    have f2 : w1.frozen? ⟨w.heap.size, 2, none⟩ = false := T1H.out.box.frozen (by simp [tvcell])
    have f3 : w1.frozen? ⟨w.heap.size, 3, none⟩ = false := T1H.out.box.frozen (by simp [tvcell])
    have f4 : w1.frozen? ⟨w.heap.size, 4, none⟩ = false := T1H.out.box.frozen (by simp [tvcell])
    have f5 : w1.frozen? ⟨w.heap.size, 5, none⟩ = false := T1H.out.box.frozen (by simp [tvcell])
    have f6 : w1.frozen? ⟨w.heap.size, 6, none⟩ = false := T1H.out.box.frozen (by simp [tvcell])
    have f7 : w1.frozen? ⟨w.heap.size, 7, none⟩ = false := T1H.out.box.frozen (by simp [tvcell])
    have f8 : w1.frozen? ⟨w.heap.size, 8, none⟩ = false := T1H.out.box.frozen (by simp [tvcell])
    go_upto_region 3 with fail
    rw [← HWL.out]
    clear HWL y0 y1 y2 y3 y4 y5 y6 y7 y8 f0 f1 f2 f3 f4 f5 f6 f7 f8
    have a6 : WL.cell? ⟨w.heap.size, 6, none⟩ = some (.slice g1 g2 g3) := TL.out.box.cell 6
    have g6 : WL.frozen? ⟨w.heap.size, 6, none⟩ = false := TL.out.box.frozen (by simp [tvcell])
    go_upto_region 4 with fail
    obtain ⟨WA, hWA⟩ : ∃ X, X = WL.setCell ⟨w.heap.size, 6, none⟩ (.slice none 0 0) := ⟨_, rfl⟩
    have TA' := TL.out.field 6 (.slice none 0 0) (t' := { t1 with text := [] }) (x' := ⟨(c1, c2, c3), (d1, d2, d3), (none, 0, 0)⟩) rfl ⟨TL.out.bt.kids, TL.out.bt.opn, FsS.nil _ _ _ _⟩
    rw [← hWA] at TA'
    rw [← hWA]
    have TA := Lib.hid TA'
    clear hWA TA'
    clear a6 g6
    have a8 : WA.cell? ⟨w.heap.size, 8, none⟩ = some (.bool t1.has) := TA.out.box.cell 8
    have g8 : WA.frozen? ⟨w.heap.size, 8, none⟩ = false := TA.out.box.frozen (by simp [tvcell])
    go_upto_region 5 with fail
    obtain ⟨WB, hWB⟩ : ∃ X, X = WA.setCell ⟨w.heap.size, 8, none⟩ (.bool false) := ⟨_, rfl⟩
    have TB' := TA.out.field 8 (.bool false) (t' := { t1 with text := [], has := false }) (x' := ⟨(c1, c2, c3), (d1, d2, d3), (none, 0, 0)⟩) rfl ⟨TA.out.bt.kids, TA.out.bt.opn, TA.out.bt.text⟩
    rw [← hWB] at TB'
    rw [← hWB]
    have TB := Lib.hid TB'
    clear hWB TB'
    clear a8 g8
    have a7 : WB.cell? ⟨w.heap.size, 7, none⟩ = some (.int .i64 t1.line) := TB.out.box.cell 7
    have g7 : WB.frozen? ⟨w.heap.size, 7, none⟩ = false := TB.out.box.frozen (by simp [tvcell])
    go_upto_region 6 with fail
    obtain ⟨WC, hWC⟩ : ∃ X, X = WB.setCell ⟨w.heap.size, 7, none⟩ (.int .i64 0) := ⟨_, rfl⟩
    have TC' := TB.out.field 7 (.int .i64 0) (t' := { t1 with text := [], line := 0, has := false }) (x' := ⟨(c1, c2, c3), (d1, d2, d3), (none, 0, 0)⟩) rfl ⟨TB.out.bt.kids, TB.out.bt.opn, TB.out.bt.text⟩
    rw [← hWC] at TC'
    rw [← hWC]
    have TC := Lib.hid TC'
    clear hWC TC'
    clear a7 g7
    have y0 : WC.cell? ⟨w.heap.size, 0, none⟩ = some (.string ⟨t1.nm.a.toArray⟩) := TC.out.box.cell 0
    have y1 : WC.cell? ⟨w.heap.size, 1, none⟩ = some (.string ⟨t1.nm.b.toArray⟩) := TC.out.box.cell 1
    have y2 : WC.cell? ⟨w.heap.size, 2, none⟩ = some (.string ⟨t1.nm.c.toArray⟩) := TC.out.box.cell 2
    have y3 : WC.cell? ⟨w.heap.size, 3, none⟩ = some (.string ⟨t1.nm.d.toArray⟩) := TC.out.box.cell 3
    have y4 : WC.cell? ⟨w.heap.size, 4, none⟩ = some (.slice c1 c2 c3) := TC.out.box.cell 4
    have y5 : WC.cell? ⟨w.heap.size, 5, none⟩ = some (.slice d1 d2 d3) := TC.out.box.cell 5
    have y6 : WC.cell? ⟨w.heap.size, 6, none⟩ = some (.slice none 0 0) := TC.out.box.cell 6
    have y7 : WC.cell? ⟨w.heap.size, 7, none⟩ = some (.int .i64 0) := TC.out.box.cell 7
    have y8 : WC.cell? ⟨w.heap.size, 8, none⟩ = some (.bool false) := TC.out.box.cell 8
    have z0 : WC.cell? ⟨w.heap.size + 1, 0, none⟩ = some (.string ⟨#[]⟩) := TC.out.res.cell 0
    have z1 : WC.cell? ⟨w.heap.size + 1, 1, none⟩ = some (.string ⟨#[]⟩) := TC.out.res.cell 1
    have z2 : WC.cell? ⟨w.heap.size + 1, 2, none⟩ = some (.string ⟨#[]⟩) := TC.out.res.cell 2
    have z3 : WC.cell? ⟨w.heap.size + 1, 3, none⟩ = some (.string ⟨#[]⟩) := TC.out.res.cell 3
    have z4 : WC.cell? ⟨w.heap.size + 1, 4, none⟩ = some (.slice none 0 0) := TC.out.res.cell 4
    have z5 : WC.cell? ⟨w.heap.size + 1, 5, none⟩ = some (.slice none 0 0) := TC.out.res.cell 5
    have z6 : WC.cell? ⟨w.heap.size + 1, 6, none⟩ = some (.slice none 0 0) := TC.out.res.cell 6
    have z7 : WC.cell? ⟨w.heap.size + 1, 7, none⟩ = some (.int .i64 0) := TC.out.res.cell 7
    have z8 : WC.cell? ⟨w.heap.size + 1, 8, none⟩ = some (.bool false) := TC.out.res.cell 8
    have v0 : WC.frozen? ⟨w.heap.size + 1, 0, none⟩ = false := TC.out.res.frozen (by simp [zTV])
    have v1 : WC.frozen? ⟨w.heap.size + 1, 1, none⟩ = false := TC.out.res.frozen (by simp [zTV])
    have v2 : WC.frozen? ⟨w.heap.size + 1, 2, none⟩ = false := TC.out.res.frozen (by simp [zTV])
    have v3 : WC.frozen? ⟨w.heap.size + 1, 3, none⟩ = false := TC.out.res.frozen (by simp [zTV])
    have v4 : WC.frozen? ⟨w.heap.size + 1, 4, none⟩ = false := TC.out.res.frozen (by simp [zTV])
    have v5 : WC.frozen? ⟨w.heap.size + 1, 5, none⟩ = false := TC.out.res.frozen (by simp [zTV])
    have v6 : WC.frozen? ⟨w.heap.size + 1, 6, none⟩ = false := TC.out.res.frozen (by simp [zTV])
    have v7 : WC.frozen? ⟨w.heap.size + 1, 7, none⟩ = false := TC.out.res.frozen (by simp [zTV])
    have v8 : WC.frozen? ⟨w.heap.size + 1, 8, none⟩ = false := TC.out.res.frozen (by simp [zTV])
    go_wp2_with fail
    have hF := TC.out.fin
    have hblk := hF.2.2
    have k0' := hblk.cell 0
    have k1' := hblk.cell 1
    have k2' := hblk.cell 2
    have k3' := hblk.cell 3
    have k4' := hblk.cell 4
    have k5' := hblk.cell 5
    have k6' := hblk.cell 6
    have k7' := hblk.cell 7
    have k8' := hblk.cell 8
    unfold set9 at k0' k1' k2' k3' k4' k5' k6' k7' k8'
    simp [tvcell, pv] at k0' k1' k2' k3' k4' k5' k6' k7' k8'
    refine bodyPost_ret (v := .agg #[.string ⟨t1.nm.a.toArray⟩, .string ⟨t1.nm.b.toArray⟩, .string ⟨t1.nm.c.toArray⟩, .string ⟨t1.nm.d.toArray⟩, .slice c1 c2 c3, .slice d1 d2 d3, .slice none 0 0, .int .i64 0, .bool false]) (by simp [results, Tryd.results38, go_sem, k0', k1', k2', k3', k4', k5', k6', k7', k8']) rfl ?_
    exact (by rw [HEQ.out]; exact ⟨_, rfl, hF.1, hF.2.1⟩)
end Go.Proofs.YtpccjgoeoeehoaaDoor
namespace Go.Proofs.YtpccjgoeoeehoaaDoor
open Go.RowKit
def JnQ (S : Nat → Prop) (l : List Gly) (w : World) (e : Ending) (w' : World) : Prop := ∃ a c, e = .returned (.slice a l.length c) ∧ FsS (Mo S w w') 2 gcell w' (.slice a l.length c) l ∧ Below w.heap.size w w'
set_option maxRecDepth 100000 in
set_option maxHeartbeats 2000000 in
theorem rjoin6_any (S : Nat → Prop) (a b : List Gly) (v u : Value) (w : World) (hS : ∀ b, S b → b < w.heap.size) (hv : FsS S 2 gcell w v a) (hu : FsS S 2 gcell w u b) (hl : a.length + b.length ≤ 200000) :
    Calls Tryd.prog 60 #[v, u] w (JnQ S (jn a b) w) := by
  obtain ⟨aa, ca, rfl⟩ := hv.1.len
  obtain ⟨ab, cb, rfl⟩ := hu.1.len
  have HV := Lib.hid hv
  have HU := Lib.hid hu
  have HS := Lib.hid hS
  by_cases ha : a = []
  · subst ha
    have hj : jn [] b = b := rfl
    rw [hj]
    clear hv hu hS
    simp only [List.length_nil]
    go_enter Tryd.func60, Tryd.ntmps60
    go_wp2_with fail
    go_ret
    exact ⟨_, _, rfl, HU.out.mono (fun b q => .inl q), Below.refl _ _⟩
  · have hal : 0 < a.length := List.length_pos_iff.2 ha
    have ha0 : ((a.length : Int) == 0) = false := beq_eq_false_iff_ne.2 (by omega)
    by_cases hb : b = []
    · subst hb
      have hj : jn a [] = a := by unfold jn; rw [if_neg ha, if_pos rfl]
      rw [hj]
      obtain ⟨an, han⟩ : ∃ n, a.length = n := ⟨_, rfl⟩
      have HAN := Lib.hid han
      rw [han] at ha0 HV ⊢
      clear hv hu hS ha hal han
      simp only [List.length_nil]
      go_enter Tryd.func60, Tryd.ntmps60
      go_wp2_with fail
      go_ret
      refine ⟨aa, ca, ?_, ?_, Below.refl _ _⟩
      · simp [HAN.out]
      · rw [HAN.out]; exact HV.out.mono (T := Mo S w w) (fun b q => Or.inl q)
    · have hbl : 0 < b.length := List.length_pos_iff.2 hb
      have hb0 : ((b.length : Int) == 0) = false := beq_eq_false_iff_ne.2 (by omega)
      have hj : jn a b = a ++ [(32, 0)] ++ b := by unfold jn; rw [if_neg ha, if_neg hb]
      rw [hj]
      obtain ⟨X1, hX1⟩ : ∃ X, X = w.alloc (.cells #[.int .i32 32, .int .u8 0] 56) := ⟨_, rfl⟩
      have b1 : Below w.heap.size w X1 := by rw [hX1]; exact below_lit _ _
      have g2 : Gs X1 (.slice (some ⟨w.heap.size, 0, none⟩) 1 1) [(32, 0)] := by rw [hX1]; exact fs_lit gcell_len w 56 [(32, 0)]
      have HJ1 := Lib.hid (join_any a [(32, 0)] (.slice aa a.length ca) (.slice (some ⟨w.heap.size, 0, none⟩) 1 1) X1 (hv.keep (Kp.below b1 hS)).1 g2 (by simp; omega))
      have HX1 := Lib.hid hX1
      have HB1 := Lib.hid b1
      have hbu := hu.keep (Kp.below b1 hS)
      have HBU := Lib.hid hbu
      obtain ⟨an, han⟩ : ∃ n, a.length = n := ⟨_, rfl⟩
      obtain ⟨bn, hbn⟩ : ∃ n, b.length = n := ⟨_, rfl⟩
      have HAN := Lib.hid han
      have HBN := Lib.hid hbn
      rw [han] at ha0 HJ1 hl ⊢
      rw [hbn] at hb0 HBU hl ⊢
      clear hv hu hS ha hal hb hbl hX1 b1 g2 hbu han hbn HV HU
      go_enter Tryd.func60, Tryd.ntmps60
      go_wp2_with fail
      rw [← HX1.out]
      refine HJ1.out.mono ?_
      rintro e w2 ⟨z, rfl, o2, b2⟩
      have HJ2 := Lib.hid (join_any (a ++ [(32, 0)]) b z (.slice ab bn cb) w2 (FOwn.sl gcell_len o2) (Fs.below HBU.out.1 b2) (by rw [List.length_append, HAN.out, HBN.out]; simp; omega))
      have B2 := Lib.hid (HB1.out.trans (b2.mono HB1.out.size))
      clear o2 b2 HJ1
      go_wp2_with fail
      refine HJ2.out.mono ?_
      rintro e w3 ⟨z3, rfl, o3, b3⟩
      have hB := B2.out.trans (b3.mono B2.out.size)
      have hF := (own_foot gcell_len o3).mono (T := Mo S w w3) (fun b q => .inr ⟨Nat.le_trans B2.out.size q.1, by obtain ⟨-, cur, fz, hc⟩ := q; exact (Array.getElem?_eq_some_iff.1 hc).1⟩)
      have HB := Lib.hid hB
      have HF := Lib.hid hF
      clear o3 b3 hB hF HJ2
      go_wp2_with fail
      go_ret
      obtain ⟨a0, c0, e0⟩ := HF.out.1.len
      subst e0
      exact ⟨_, _, rfl, HF.out, HB.out⟩
set_option maxRecDepth 100000 in
set_option maxHeartbeats 8000000 in
theorem rtext_any (S : Nat → Prop) (x : TV) (t : Bt) (l : List Gly) (v : Value) (i : Int) (w : World) (hS : ∀ b, S b → b < w.heap.size) (h : BtIs S w x t) (hv : FsS S 2 gcell w v l) (hb : btl t + l.length ≤ 80000) :
    Calls Tryd.prog 37 #[.agg (tvcell t x).toArray, v, .int .i64 i] w (BtQ S (bText t l i) w) := by
  have T0 := TBx.start hS h
  obtain ⟨W0, hW0⟩ : ∃ W, W = (w.alloc (.cells (tvcell t x).toArray 32)).alloc (.cells zTV.toArray 32) := ⟨_, rfl⟩
  rw [← hW0] at T0
  obtain ⟨X, hX⟩ : ∃ X : Nat → Prop, X = (fun b => b = w.heap.size ∨ b = w.heap.size + 1) := ⟨_, rfl⟩
  rw [← hX] at T0
  clear hX
  have hbt0 : btl t = nlL t.kids + nlL t.opn + t.text.length := rfl
  obtain ⟨⟨a1, a2, a3⟩, ⟨b1, b2, b3⟩, ⟨e1, e2, e3⟩⟩ := x
  have HT0 := Lib.hid T0
  have HW0 := Lib.hid hW0
  simp only [zTV] at HW0
  have HVV := Lib.hid hv
  have HS := Lib.hid hS
  obtain ⟨jcn, hjcn⟩ : ∃ n, (jn t.text l).length = n := ⟨_, rfl⟩
  have HJN := Lib.hid hjcn
  have y7 : W0.cell? ⟨w.heap.size, 7, none⟩ = some (.int .i64 t.line) := T0.box.cell 7
  have y8 : W0.cell? ⟨w.heap.size, 8, none⟩ = some (.bool t.has) := T0.box.cell 8
  obtain ⟨va, vc, rfl⟩ := hv.1.len
  obtain ⟨ln, hln⟩ : ∃ n, l.length = n := ⟨_, rfl⟩
  rw [hln] at HVV hb ⊢
  obtain ⟨hs, hhs⟩ : ∃ c, t.has = c := ⟨_, rfl⟩
  rw [hhs] at y8
  have f7 : W0.frozen? ⟨w.heap.size, 7, none⟩ = false := T0.box.frozen (by simp [tvcell])
  have HHS := Lib.hid hhs
  have HLN := Lib.hid hln
  clear T0 hW0 h hv hS hjcn hhs hln
  go_enter Tryd.func37, Tryd.ntmps37
  go_upto_region 1 with fail
  rw [← HW0.out]
  clear HW0
  cases hs with
  | true =>
    have HEQ : Hid (bText t l i = { t with line := t.line, has := true, text := jn t.text l }) := Lib.hid (by unfold bText; rw [HHS.out]; rfl)
    go_upto_region 3 with fail
    clear y7 y8 f7
    have a8 : W0.cell? ⟨w.heap.size, 8, none⟩ = some (.bool t.has) := HT0.out.box.cell 8
    have g8 : W0.frozen? ⟨w.heap.size, 8, none⟩ = false := HT0.out.box.frozen (by simp [tvcell])
    go_upto_region 4 with fail
    obtain ⟨WB, hWB⟩ : ∃ X, X = W0.setCell ⟨w.heap.size, 8, none⟩ (.bool true) := ⟨_, rfl⟩
    have TB' := HT0.out.field 8 (.bool true) (t' := { t with line := t.line, has := true }) (x' := ⟨(a1, a2, a3), (b1, b2, b3), (e1, e2, e3)⟩) rfl ⟨HT0.out.bt.kids, HT0.out.bt.opn, HT0.out.bt.text⟩
    rw [← hWB] at TB'
    rw [← hWB]
    have TB := Lib.hid TB'
    clear hWB TB'
    clear a8 g8
    have a6 : WB.cell? ⟨w.heap.size, 6, none⟩ = some (.slice e1 e2 e3) := TB.out.box.cell 6
    have HJ := Lib.hid (rjoin6_any (Fp S X w WB) t.text l (.slice e1 e2 e3) (.slice va ln vc) WB TB.out.inn TB.out.bt.text ((HVV.out.keep (Kp.below TB.out.bel HS.out)).mono (T := Fp S X w WB) (fun b q => Or.inl q)) (by rw [HLN.out]; omega))
    unfold JnQ at HJ
    rw [HJN.out] at HJ
    go_wp2_with fail
    refine HJ.out.mono ?_
    rintro e w1 ⟨ja, jc, rfl, hjf, hjb⟩
    have TC := Lib.hid (TB.out.keep hjb)
    have HJF := Lib.hid (hjf.mono (Fp.mo TB.out.bel.size TB.out.hX hjb.size))
    clear hjf hjb HJ a6
    have a6 : w1.cell? ⟨w.heap.size, 6, none⟩ = some (.slice e1 e2 e3) := TC.out.box.cell 6
    have g6 : w1.frozen? ⟨w.heap.size, 6, none⟩ = false := TC.out.box.frozen (by simp [tvcell])
    go_upto_region 5 with fail
    obtain ⟨WD, hWD⟩ : ∃ X, X = w1.setCell ⟨w.heap.size, 6, none⟩ (.slice ja jcn jc) := ⟨_, rfl⟩
    have TD' := TC.out.field 6 (.slice ja jcn jc) (t' := { t with line := t.line, has := true, text := jn t.text l }) (x' := ⟨(a1, a2, a3), (b1, b2, b3), (ja, jcn, jc)⟩) rfl ⟨TC.out.bt.kids, TC.out.bt.opn, HJF.out⟩
    rw [← hWD] at TD'
    rw [← hWD]
    have TD := Lib.hid TD'
    clear hWD TD'
    clear a6 g6
    have y0 : WD.cell? ⟨w.heap.size, 0, none⟩ = some (.string ⟨t.nm.a.toArray⟩) := TD.out.box.cell 0
    have y1 : WD.cell? ⟨w.heap.size, 1, none⟩ = some (.string ⟨t.nm.b.toArray⟩) := TD.out.box.cell 1
    have y2 : WD.cell? ⟨w.heap.size, 2, none⟩ = some (.string ⟨t.nm.c.toArray⟩) := TD.out.box.cell 2
    have y3 : WD.cell? ⟨w.heap.size, 3, none⟩ = some (.string ⟨t.nm.d.toArray⟩) := TD.out.box.cell 3
    have y4 : WD.cell? ⟨w.heap.size, 4, none⟩ = some (.slice a1 a2 a3) := TD.out.box.cell 4
    have y5 : WD.cell? ⟨w.heap.size, 5, none⟩ = some (.slice b1 b2 b3) := TD.out.box.cell 5
    have y6 : WD.cell? ⟨w.heap.size, 6, none⟩ = some (.slice ja jcn jc) := TD.out.box.cell 6
    have y7 : WD.cell? ⟨w.heap.size, 7, none⟩ = some (.int .i64 t.line) := TD.out.box.cell 7
    have y8 : WD.cell? ⟨w.heap.size, 8, none⟩ = some (.bool true) := TD.out.box.cell 8
    have z0 : WD.cell? ⟨w.heap.size + 1, 0, none⟩ = some (.string ⟨#[]⟩) := TD.out.res.cell 0
    have z1 : WD.cell? ⟨w.heap.size + 1, 1, none⟩ = some (.string ⟨#[]⟩) := TD.out.res.cell 1
    have z2 : WD.cell? ⟨w.heap.size + 1, 2, none⟩ = some (.string ⟨#[]⟩) := TD.out.res.cell 2
    have z3 : WD.cell? ⟨w.heap.size + 1, 3, none⟩ = some (.string ⟨#[]⟩) := TD.out.res.cell 3
    have z4 : WD.cell? ⟨w.heap.size + 1, 4, none⟩ = some (.slice none 0 0) := TD.out.res.cell 4
    have z5 : WD.cell? ⟨w.heap.size + 1, 5, none⟩ = some (.slice none 0 0) := TD.out.res.cell 5
    have z6 : WD.cell? ⟨w.heap.size + 1, 6, none⟩ = some (.slice none 0 0) := TD.out.res.cell 6
    have z7 : WD.cell? ⟨w.heap.size + 1, 7, none⟩ = some (.int .i64 0) := TD.out.res.cell 7
    have z8 : WD.cell? ⟨w.heap.size + 1, 8, none⟩ = some (.bool false) := TD.out.res.cell 8
    have v0 : WD.frozen? ⟨w.heap.size + 1, 0, none⟩ = false := TD.out.res.frozen (by simp [zTV])
    have v1 : WD.frozen? ⟨w.heap.size + 1, 1, none⟩ = false := TD.out.res.frozen (by simp [zTV])
    have v2 : WD.frozen? ⟨w.heap.size + 1, 2, none⟩ = false := TD.out.res.frozen (by simp [zTV])
    have v3 : WD.frozen? ⟨w.heap.size + 1, 3, none⟩ = false := TD.out.res.frozen (by simp [zTV])
    have v4 : WD.frozen? ⟨w.heap.size + 1, 4, none⟩ = false := TD.out.res.frozen (by simp [zTV])
    have v5 : WD.frozen? ⟨w.heap.size + 1, 5, none⟩ = false := TD.out.res.frozen (by simp [zTV])
    have v6 : WD.frozen? ⟨w.heap.size + 1, 6, none⟩ = false := TD.out.res.frozen (by simp [zTV])
    have v7 : WD.frozen? ⟨w.heap.size + 1, 7, none⟩ = false := TD.out.res.frozen (by simp [zTV])
    have v8 : WD.frozen? ⟨w.heap.size + 1, 8, none⟩ = false := TD.out.res.frozen (by simp [zTV])
    go_wp2_with fail
    have hF := TD.out.fin
    have hblk := hF.2.2
    have k0' := hblk.cell 0
    have k1' := hblk.cell 1
    have k2' := hblk.cell 2
    have k3' := hblk.cell 3
    have k4' := hblk.cell 4
    have k5' := hblk.cell 5
    have k6' := hblk.cell 6
    have k7' := hblk.cell 7
    have k8' := hblk.cell 8
    unfold set9 at k0' k1' k2' k3' k4' k5' k6' k7' k8'
    simp [tvcell, pv] at k0' k1' k2' k3' k4' k5' k6' k7' k8'
    refine bodyPost_ret (v := .agg #[.string ⟨t.nm.a.toArray⟩, .string ⟨t.nm.b.toArray⟩, .string ⟨t.nm.c.toArray⟩, .string ⟨t.nm.d.toArray⟩, .slice a1 a2 a3, .slice b1 b2 b3, .slice ja jcn jc, .int .i64 t.line, .bool true]) (by simp [results, Tryd.results37, go_sem, k0', k1', k2', k3', k4', k5', k6', k7', k8']) rfl ?_
    exact (by rw [HEQ.out]; exact ⟨_, rfl, hF.1, hF.2.1⟩)
  | false =>
    have HEQ : Hid (bText t l i = { t with line := i, has := true, text := jn t.text l }) := Lib.hid (by unfold bText; rw [HHS.out]; rfl)
    go_upto_region 2 with fail
    go_upto_region 3 with fail
    obtain ⟨WA, hWA⟩ : ∃ X, X = W0.setCell ⟨w.heap.size, 7, none⟩ (.int .i64 i) := ⟨_, rfl⟩
    have TA' := HT0.out.field 7 (.int .i64 i) (t' := { t with line := i }) (x' := ⟨(a1, a2, a3), (b1, b2, b3), (e1, e2, e3)⟩) rfl ⟨HT0.out.bt.kids, HT0.out.bt.opn, HT0.out.bt.text⟩
    rw [← hWA] at TA'
    rw [← hWA]
    have TA := Lib.hid TA'
    clear hWA TA'
    clear y7 y8 f7
    have a8 : WA.cell? ⟨w.heap.size, 8, none⟩ = some (.bool t.has) := TA.out.box.cell 8
    have g8 : WA.frozen? ⟨w.heap.size, 8, none⟩ = false := TA.out.box.frozen (by simp [tvcell])
    go_upto_region 4 with fail
    obtain ⟨WB, hWB⟩ : ∃ X, X = WA.setCell ⟨w.heap.size, 8, none⟩ (.bool true) := ⟨_, rfl⟩
    have TB' := TA.out.field 8 (.bool true) (t' := { t with line := i, has := true }) (x' := ⟨(a1, a2, a3), (b1, b2, b3), (e1, e2, e3)⟩) rfl ⟨TA.out.bt.kids, TA.out.bt.opn, TA.out.bt.text⟩
    rw [← hWB] at TB'
    rw [← hWB]
    have TB := Lib.hid TB'
    clear hWB TB'
    clear a8 g8
    have a6 : WB.cell? ⟨w.heap.size, 6, none⟩ = some (.slice e1 e2 e3) := TB.out.box.cell 6
    have HJ := Lib.hid (rjoin6_any (Fp S X w WB) t.text l (.slice e1 e2 e3) (.slice va ln vc) WB TB.out.inn TB.out.bt.text ((HVV.out.keep (Kp.below TB.out.bel HS.out)).mono (T := Fp S X w WB) (fun b q => Or.inl q)) (by rw [HLN.out]; omega))
    unfold JnQ at HJ
    rw [HJN.out] at HJ
    go_wp2_with fail
    refine HJ.out.mono ?_
    rintro e w1 ⟨ja, jc, rfl, hjf, hjb⟩
    have TC := Lib.hid (TB.out.keep hjb)
    have HJF := Lib.hid (hjf.mono (Fp.mo TB.out.bel.size TB.out.hX hjb.size))
    clear hjf hjb HJ a6
    have a6 : w1.cell? ⟨w.heap.size, 6, none⟩ = some (.slice e1 e2 e3) := TC.out.box.cell 6
    have g6 : w1.frozen? ⟨w.heap.size, 6, none⟩ = false := TC.out.box.frozen (by simp [tvcell])
    go_upto_region 5 with fail
    obtain ⟨WD, hWD⟩ : ∃ X, X = w1.setCell ⟨w.heap.size, 6, none⟩ (.slice ja jcn jc) := ⟨_, rfl⟩
    have TD' := TC.out.field 6 (.slice ja jcn jc) (t' := { t with line := i, has := true, text := jn t.text l }) (x' := ⟨(a1, a2, a3), (b1, b2, b3), (ja, jcn, jc)⟩) rfl ⟨TC.out.bt.kids, TC.out.bt.opn, HJF.out⟩
    rw [← hWD] at TD'
    rw [← hWD]
    have TD := Lib.hid TD'
    clear hWD TD'
    clear a6 g6
    have y0 : WD.cell? ⟨w.heap.size, 0, none⟩ = some (.string ⟨t.nm.a.toArray⟩) := TD.out.box.cell 0
    have y1 : WD.cell? ⟨w.heap.size, 1, none⟩ = some (.string ⟨t.nm.b.toArray⟩) := TD.out.box.cell 1
    have y2 : WD.cell? ⟨w.heap.size, 2, none⟩ = some (.string ⟨t.nm.c.toArray⟩) := TD.out.box.cell 2
    have y3 : WD.cell? ⟨w.heap.size, 3, none⟩ = some (.string ⟨t.nm.d.toArray⟩) := TD.out.box.cell 3
    have y4 : WD.cell? ⟨w.heap.size, 4, none⟩ = some (.slice a1 a2 a3) := TD.out.box.cell 4
    have y5 : WD.cell? ⟨w.heap.size, 5, none⟩ = some (.slice b1 b2 b3) := TD.out.box.cell 5
    have y6 : WD.cell? ⟨w.heap.size, 6, none⟩ = some (.slice ja jcn jc) := TD.out.box.cell 6
    have y7 : WD.cell? ⟨w.heap.size, 7, none⟩ = some (.int .i64 i) := TD.out.box.cell 7
    have y8 : WD.cell? ⟨w.heap.size, 8, none⟩ = some (.bool true) := TD.out.box.cell 8
    have z0 : WD.cell? ⟨w.heap.size + 1, 0, none⟩ = some (.string ⟨#[]⟩) := TD.out.res.cell 0
    have z1 : WD.cell? ⟨w.heap.size + 1, 1, none⟩ = some (.string ⟨#[]⟩) := TD.out.res.cell 1
    have z2 : WD.cell? ⟨w.heap.size + 1, 2, none⟩ = some (.string ⟨#[]⟩) := TD.out.res.cell 2
    have z3 : WD.cell? ⟨w.heap.size + 1, 3, none⟩ = some (.string ⟨#[]⟩) := TD.out.res.cell 3
    have z4 : WD.cell? ⟨w.heap.size + 1, 4, none⟩ = some (.slice none 0 0) := TD.out.res.cell 4
    have z5 : WD.cell? ⟨w.heap.size + 1, 5, none⟩ = some (.slice none 0 0) := TD.out.res.cell 5
    have z6 : WD.cell? ⟨w.heap.size + 1, 6, none⟩ = some (.slice none 0 0) := TD.out.res.cell 6
    have z7 : WD.cell? ⟨w.heap.size + 1, 7, none⟩ = some (.int .i64 0) := TD.out.res.cell 7
    have z8 : WD.cell? ⟨w.heap.size + 1, 8, none⟩ = some (.bool false) := TD.out.res.cell 8
    have v0 : WD.frozen? ⟨w.heap.size + 1, 0, none⟩ = false := TD.out.res.frozen (by simp [zTV])
    have v1 : WD.frozen? ⟨w.heap.size + 1, 1, none⟩ = false := TD.out.res.frozen (by simp [zTV])
    have v2 : WD.frozen? ⟨w.heap.size + 1, 2, none⟩ = false := TD.out.res.frozen (by simp [zTV])
    have v3 : WD.frozen? ⟨w.heap.size + 1, 3, none⟩ = false := TD.out.res.frozen (by simp [zTV])
    have v4 : WD.frozen? ⟨w.heap.size + 1, 4, none⟩ = false := TD.out.res.frozen (by simp [zTV])
    have v5 : WD.frozen? ⟨w.heap.size + 1, 5, none⟩ = false := TD.out.res.frozen (by simp [zTV])
    have v6 : WD.frozen? ⟨w.heap.size + 1, 6, none⟩ = false := TD.out.res.frozen (by simp [zTV])
    have v7 : WD.frozen? ⟨w.heap.size + 1, 7, none⟩ = false := TD.out.res.frozen (by simp [zTV])
    have v8 : WD.frozen? ⟨w.heap.size + 1, 8, none⟩ = false := TD.out.res.frozen (by simp [zTV])
    go_wp2_with fail
    have hF := TD.out.fin
    have hblk := hF.2.2
    have k0' := hblk.cell 0
    have k1' := hblk.cell 1
    have k2' := hblk.cell 2
    have k3' := hblk.cell 3
    have k4' := hblk.cell 4
    have k5' := hblk.cell 5
    have k6' := hblk.cell 6
    have k7' := hblk.cell 7
    have k8' := hblk.cell 8
    unfold set9 at k0' k1' k2' k3' k4' k5' k6' k7' k8'
    simp [tvcell, pv] at k0' k1' k2' k3' k4' k5' k6' k7' k8'
    refine bodyPost_ret (v := .agg #[.string ⟨t.nm.a.toArray⟩, .string ⟨t.nm.b.toArray⟩, .string ⟨t.nm.c.toArray⟩, .string ⟨t.nm.d.toArray⟩, .slice a1 a2 a3, .slice b1 b2 b3, .slice ja jcn jc, .int .i64 i, .bool true]) (by simp [results, Tryd.results37, go_sem, k0', k1', k2', k3', k4', k5', k6', k7', k8']) rfl ?_
    exact (by rw [HEQ.out]; exact ⟨_, rfl, hF.1, hF.2.1⟩)
end Go.Proofs.YtpccjgoeoeehoaaDoor
namespace Go.Proofs.YtpccjgoeoeehoaaDoor
open Go.RowKit
theorem TBx.fin2 {S X : Nat → Prop} {w W : World} {o r : Nat} {x x' : TV} {t t' : Bt} (h : TBx S X w o r W x t) (hbt : BtIs (Fp S X w W) W x' t') : BtIs (Mo S w (set9 W r t' x')) (set9 W r t' x') x' t' ∧ Below w.heap.size w (set9 W r t' x') ∧ Blk (set9 W r t' x') r 32 (tvcell t' x') :=
  ⟨((hbt.keep (fun b q => set9_heap W r t' x' (Fp.ne h.hS h.Xr h.lr b q))).mono Fp.fin).mono (fun b q => by rcases q with q | q; exact .inl q; exact .inr (by rw [set9_size]; exact q)), set9_below h.bel h.lr _ _, set9_blk h.res t' x'⟩
set_option maxRecDepth 100000 in
set_option maxHeartbeats 8000000 in
theorem rpop_any (S : Nat → Prop) (x : TV) (t : Bt) (ol : List Nd) (oy : Nd) (w : World) (hS : ∀ b, S b → b < w.heap.size) (h : BtIs S w x t) (hop : t.opn = ol ++ [oy]) (hb : btl t ≤ 80000) :
    Calls Tryd.prog 45 #[.agg (tvcell t x).toArray] w (BtQ S (bPop t) w) := by
  have T0 := TBx.start hS h
  obtain ⟨W0, hW0⟩ : ∃ W, W = (w.alloc (.cells (tvcell t x).toArray 32)).alloc (.cells zTV.toArray 32) := ⟨_, rfl⟩
  rw [← hW0] at T0
  obtain ⟨X, hX⟩ : ∃ X : Nat → Prop, X = (fun b => b = w.heap.size ∨ b = w.heap.size + 1) := ⟨_, rfl⟩
  rw [← hX] at T0
  clear hX
  have hbt0 : btl t = nlL t.kids + nlL t.opn + t.text.length := rfl
  obtain ⟨⟨a1, a2, a3⟩, ⟨b1, b2, b3⟩, ⟨e1, e2, e3⟩⟩ := x
  have HT0 := Lib.hid T0
  have HW0 := Lib.hid hW0
  simp only [zTV] at HW0
  have l2 := cnt_nlL t.opn
  have l4 := cnt_len t.opn
  have hbl : t.opn.length = b2 := by
    obtain ⟨q1, q2, q3⟩ := T0.bt.opn.len
    injection q3 with q4 q5 q6
    exact q5.symm
  have y0 : W0.cell? ⟨w.heap.size, 0, none⟩ = some (.string ⟨t.nm.a.toArray⟩) := T0.box.cell 0
  have y1 : W0.cell? ⟨w.heap.size, 1, none⟩ = some (.string ⟨t.nm.b.toArray⟩) := T0.box.cell 1
  have y2 : W0.cell? ⟨w.heap.size, 2, none⟩ = some (.string ⟨t.nm.c.toArray⟩) := T0.box.cell 2
  have y3 : W0.cell? ⟨w.heap.size, 3, none⟩ = some (.string ⟨t.nm.d.toArray⟩) := T0.box.cell 3
  have y4 : W0.cell? ⟨w.heap.size, 4, none⟩ = some (.slice a1 a2 a3) := T0.box.cell 4
  have y5 : W0.cell? ⟨w.heap.size, 5, none⟩ = some (.slice b1 b2 b3) := T0.box.cell 5
  have y6 : W0.cell? ⟨w.heap.size, 6, none⟩ = some (.slice e1 e2 e3) := T0.box.cell 6
  have y7 : W0.cell? ⟨w.heap.size, 7, none⟩ = some (.int .i64 t.line) := T0.box.cell 7
  have y8 : W0.cell? ⟨w.heap.size, 8, none⟩ = some (.bool t.has) := T0.box.cell 8
  have hbl2 : b2 = ol.length + 1 := by rw [← hbl, hop]; simp
  have hoy : t.opn[ol.length]? = some oy := by rw [hop]; simp
  have l5 := nl_le hoy
  have HEQ := Lib.hid (pop_some hop)
  obtain ⟨g, off, xo, hb1, hgS, hC, hHo, hKo⟩ := HT0.out.bt.opn.atR hoy
  subst hb1
  obtain ⟨W1, hW1⟩ : ∃ X, X = W0.alloc (.cells (ncell xo).toArray 40) := ⟨_, rfl⟩
  have bW1 : Below W0.heap.size W0 W1 := by rw [hW1]; exact below_lit _ _
  have kO : Blk W1 W0.heap.size 40 (ncell xo) := by rw [hW1]; exact heap_alloc_new W0 _
  have T1' := HT0.out.newbox (.cells (ncell xo).toArray 40)
  rw [← hW1] at T1'
  obtain ⟨X1, hX1⟩ : ∃ Y : Nat → Prop, Y = (fun b => X b ∨ b = W0.heap.size) := ⟨_, rfl⟩
  rw [← hX1] at T1'
  have hFW1 : ∀ b, Fp S X w W0 b → Fp S X1 w W1 b := fun b q => by
    rcases q with q | q
    · exact .inl q
    · exact .inr ⟨q.1, Nat.lt_of_lt_of_le q.2.1 bW1.size, fun z => by rw [hX1] at z; rcases z with z | z; exact q.2.2 z; have := q.2.1; omega⟩
  have hFk : Kp (Fp S X w W0) W0 W1 := Fp.kp HT0.out.hS HT0.out.bel.size bW1
  have hOW1 : NdIs _ W1 xo oy := ((show NdIs _ W0 xo oy from ⟨hHo, hKo⟩).keep hFk).mono hFW1
  have hon5 : ol.length ≤ 400000 := by omega
  obtain ⟨on, hon⟩ : ∃ n, ol.length = n := ⟨_, rfl⟩
  rw [hon] at hbl2 hoy hon5
  obtain ⟨bz, hbz⟩ : ∃ n, W0.heap.size = n := ⟨_, rfl⟩
  rw [hbz] at kO hX1
  have hz2 : w.heap.size ≠ bz := by (have := HT0.out.box; have h2 := (Array.getElem?_eq_some_iff.1 this).1; omega)
  have hin' : (on : Int) < (b2 : Int) := by omega
  have hon0 : (0 : Int) ≤ (on : Int) := by omega
  have hsub : IntKind.i64.wrap ((b2 : Int) - 1) = (on : Int) := by rw [IntWalk.i64_in _ (by omega)]; omega
  have hsub2 : wrap64 ((b2 : Int) - 1) = (on : Int) := by rw [← hsub]; unfold wrap64; exact (IntKind.wrap_i64 _).symm
  have hopn : NsS (Fp S X1 w W1) W1 (.slice (some ⟨g, off, none⟩) b2 b3) (ol ++ [oy]) := hop ▸ T1'.bt.opn
  have hfr := hopn.front on (by simp; omega)
  rw [List.take_append_of_le_length (by omega), List.take_of_length_le (by omega)] at hfr
  have hcap : on ≤ b3 := hfr.cap
  have hbl3 : btl { t with opn := ol } + nlN oy ≤ 100000 := by
    have e : nlL t.opn = nlL ol + nlN oy := by rw [hop, nlL_app]; simp [nlL]
    have e2 : btl { t with opn := ol } = nlL t.kids + nlL ol + t.text.length := rfl
    omega
  clear hbl2
  obtain ⟨zk, zl, zn, ⟨u1, u2, u3⟩, ⟨j1, j2, j3⟩, ⟨s1, s2, s3⟩, zc, ⟨p1, p2, p3⟩, zb, za⟩ := xo
  have c0 : W0.cell? ⟨g, off + on * 10, none⟩ = some (.int .i64 zk) := by rw [← hon]; exact hC 0 _ rfl
  have c1 : W0.cell? ⟨g, off + on * 10 + 1, none⟩ = some (.int .i64 zl) := by rw [← hon]; exact hC 1 _ rfl
  have c2 : W0.cell? ⟨g, off + on * 10 + 2, none⟩ = some (.int .i64 zn) := by rw [← hon]; exact hC 2 _ rfl
  have c3 : W0.cell? ⟨g, off + on * 10 + 3, none⟩ = some (.slice u1 u2 u3) := by rw [← hon]; exact hC 3 _ rfl
  have c4 : W0.cell? ⟨g, off + on * 10 + 4, none⟩ = some (.slice j1 j2 j3) := by rw [← hon]; exact hC 4 _ rfl
  have c5 : W0.cell? ⟨g, off + on * 10 + 5, none⟩ = some (.slice s1 s2 s3) := by rw [← hon]; exact hC 5 _ rfl
  have c6 : W0.cell? ⟨g, off + on * 10 + 6, none⟩ = some (.string ⟨zc.toArray⟩) := by rw [← hon]; exact hC 6 _ rfl
  have c7 : W0.cell? ⟨g, off + on * 10 + 7, none⟩ = some (.slice p1 p2 p3) := by rw [← hon]; exact hC 7 _ rfl
  have c8 : W0.cell? ⟨g, off + on * 10 + 8, none⟩ = some (.bool zb) := by rw [← hon]; exact hC 8 _ rfl
  have c9 : W0.cell? ⟨g, off + on * 10 + 9, none⟩ = some (.bool za) := by rw [← hon]; exact hC 9 _ rfl
  have HBW := Lib.hid hW1
  have HKO := Lib.hid kO
  have HT1 := Lib.hid T1'
  have HOW := Lib.hid hOW1
  have HFR := Lib.hid hfr
  simp only [ncell, pv] at HBW HKO
  clear T0 hW0 h hS hop hbl hC hHo hKo hW1 bW1 kO T1' hX1 hFW1 hFk hOW1 hoy l2 l4 l5 hgS hopn hfr hbt0
  go_enter Tryd.func45, Tryd.ntmps45
  go_upto_region 1 with fail
  rw [← HW0.out]
  clear HW0
  go_upto_region 3 with fail
  rw [← HBW.out]
  try rw [hbz]
  clear HBW y0 y1 y2 y3 y4 y5 y6 y7 y8 c0 c1 c2 c3 c4 c5 c6 c7 c8 c9
  have a5 : W1.cell? ⟨w.heap.size, 5, none⟩ = some (.slice (some ⟨g, off, none⟩) b2 b3) := HT1.out.box.cell 5
  have g5 : W1.frozen? ⟨w.heap.size, 5, none⟩ = false := HT1.out.box.frozen (by simp [tvcell])
  obtain ⟨WF, hWF⟩ : ∃ X, X = W1.setCell ⟨w.heap.size, 5, none⟩ (.slice (some ⟨g, off, none⟩) on b3) := ⟨_, rfl⟩
  have TF' := HT1.out.field 5 (.slice (some ⟨g, off, none⟩) on b3) (t' := { t with opn := ol }) (x' := ⟨(a1, a2, a3), (some ⟨g, off, none⟩, on, b3), (e1, e2, e3)⟩) rfl ⟨HT1.out.bt.kids, HFR.out, HT1.out.bt.text⟩
  have kOF := Blk.other HKO.out (Ne.symm hz2) 5 (.slice (some ⟨g, off, none⟩) on b3)
  have nOF := (HOW.out.keep (Fp.set HT1.out.hS HT1.out.Xo (Nat.le_refl _) 5 (.slice (some ⟨g, off, none⟩) on b3))).mono (T := Fp S X1 w (W1.setCell ⟨w.heap.size, 5, none⟩ (.slice (some ⟨g, off, none⟩) on b3))) Fp.sets
  rw [← hWF] at TF' kOF nOF
  have TF := Lib.hid TF'
  have HWF := Lib.hid hWF
  have HLY := Lib.hid (rlay_any (Fp S X1 w WF) ⟨(a1, a2, a3), (some ⟨g, off, none⟩, on, b3), (e1, e2, e3)⟩ { t with opn := ol } _ oy WF TF'.inn TF'.bt nOF hbl3)
  obtain ⟨t1, ht1⟩ : ∃ t1, bLay { t with opn := ol } oy = t1 := ⟨_, rfl⟩
  rw [ht1] at HLY HEQ
  simp only [tvcell, ncell, pv] at HLY
  have HKF := Lib.hid kOF
  clear TF' kOF nOF hWF ht1 hbl3 HOW HFR HKO
  go_upto_region 4 with fail
  rw [← HWF.out]
  clear HWF a5 g5
  have y0 : WF.cell? ⟨w.heap.size, 0, none⟩ = some (.string ⟨t.nm.a.toArray⟩) := TF.out.box.cell 0
  have y1 : WF.cell? ⟨w.heap.size, 1, none⟩ = some (.string ⟨t.nm.b.toArray⟩) := TF.out.box.cell 1
  have y2 : WF.cell? ⟨w.heap.size, 2, none⟩ = some (.string ⟨t.nm.c.toArray⟩) := TF.out.box.cell 2
  have y3 : WF.cell? ⟨w.heap.size, 3, none⟩ = some (.string ⟨t.nm.d.toArray⟩) := TF.out.box.cell 3
  have y4 : WF.cell? ⟨w.heap.size, 4, none⟩ = some (.slice a1 a2 a3) := TF.out.box.cell 4
  have y5 : WF.cell? ⟨w.heap.size, 5, none⟩ = some (.slice (some ⟨g, off, none⟩) on b3) := TF.out.box.cell 5
  have y6 : WF.cell? ⟨w.heap.size, 6, none⟩ = some (.slice e1 e2 e3) := TF.out.box.cell 6
  have y7 : WF.cell? ⟨w.heap.size, 7, none⟩ = some (.int .i64 t.line) := TF.out.box.cell 7
  have y8 : WF.cell? ⟨w.heap.size, 8, none⟩ = some (.bool t.has) := TF.out.box.cell 8
  have d0 : WF.cell? ⟨bz, 0, none⟩ = some (.int .i64 zk) := HKF.out.cell 0
  have d1 : WF.cell? ⟨bz, 1, none⟩ = some (.int .i64 zl) := HKF.out.cell 1
  have d2 : WF.cell? ⟨bz, 2, none⟩ = some (.int .i64 zn) := HKF.out.cell 2
  have d3 : WF.cell? ⟨bz, 3, none⟩ = some (.slice u1 u2 u3) := HKF.out.cell 3
  have d4 : WF.cell? ⟨bz, 4, none⟩ = some (.slice j1 j2 j3) := HKF.out.cell 4
  have d5 : WF.cell? ⟨bz, 5, none⟩ = some (.slice s1 s2 s3) := HKF.out.cell 5
  have d6 : WF.cell? ⟨bz, 6, none⟩ = some (.string ⟨zc.toArray⟩) := HKF.out.cell 6
  have d7 : WF.cell? ⟨bz, 7, none⟩ = some (.slice p1 p2 p3) := HKF.out.cell 7
  have d8 : WF.cell? ⟨bz, 8, none⟩ = some (.bool zb) := HKF.out.cell 8
  have d9 : WF.cell? ⟨bz, 9, none⟩ = some (.bool za) := HKF.out.cell 9
  go_wp2_with fail
  refine HLY.out.mono ?_
  rintro e wq ⟨⟨⟨c1, c2, c3⟩, ⟨d1, d2, d3⟩, ⟨g1, g2, g3⟩⟩, rfl, hbt, hbq⟩
  simp only [tvcell, pv]
  have TG := Lib.hid (TF.out.keep hbq)
  have hbt' := Lib.hid (hbt.mono (Fp.mo TF.out.bel.size TF.out.hX hbq.size))
  clear hbt hbq HLY HKF y0 y1 y2 y3 y4 y5 y6 y7 y8 
  have z0 : wq.cell? ⟨w.heap.size + 1, 0, none⟩ = some (.string ⟨#[]⟩) := TG.out.res.cell 0
  have z1 : wq.cell? ⟨w.heap.size + 1, 1, none⟩ = some (.string ⟨#[]⟩) := TG.out.res.cell 1
  have z2 : wq.cell? ⟨w.heap.size + 1, 2, none⟩ = some (.string ⟨#[]⟩) := TG.out.res.cell 2
  have z3 : wq.cell? ⟨w.heap.size + 1, 3, none⟩ = some (.string ⟨#[]⟩) := TG.out.res.cell 3
  have z4 : wq.cell? ⟨w.heap.size + 1, 4, none⟩ = some (.slice none 0 0) := TG.out.res.cell 4
  have z5 : wq.cell? ⟨w.heap.size + 1, 5, none⟩ = some (.slice none 0 0) := TG.out.res.cell 5
  have z6 : wq.cell? ⟨w.heap.size + 1, 6, none⟩ = some (.slice none 0 0) := TG.out.res.cell 6
  have z7 : wq.cell? ⟨w.heap.size + 1, 7, none⟩ = some (.int .i64 0) := TG.out.res.cell 7
  have z8 : wq.cell? ⟨w.heap.size + 1, 8, none⟩ = some (.bool false) := TG.out.res.cell 8
  have v0 : wq.frozen? ⟨w.heap.size + 1, 0, none⟩ = false := TG.out.res.frozen (by simp [zTV])
  have v1 : wq.frozen? ⟨w.heap.size + 1, 1, none⟩ = false := TG.out.res.frozen (by simp [zTV])
  have v2 : wq.frozen? ⟨w.heap.size + 1, 2, none⟩ = false := TG.out.res.frozen (by simp [zTV])
  have v3 : wq.frozen? ⟨w.heap.size + 1, 3, none⟩ = false := TG.out.res.frozen (by simp [zTV])
  have v4 : wq.frozen? ⟨w.heap.size + 1, 4, none⟩ = false := TG.out.res.frozen (by simp [zTV])
  have v5 : wq.frozen? ⟨w.heap.size + 1, 5, none⟩ = false := TG.out.res.frozen (by simp [zTV])
  have v6 : wq.frozen? ⟨w.heap.size + 1, 6, none⟩ = false := TG.out.res.frozen (by simp [zTV])
  have v7 : wq.frozen? ⟨w.heap.size + 1, 7, none⟩ = false := TG.out.res.frozen (by simp [zTV])
  have v8 : wq.frozen? ⟨w.heap.size + 1, 8, none⟩ = false := TG.out.res.frozen (by simp [zTV])
  go_wp2_with fail
  have hF := TG.out.fin2 hbt'.out
  have hblk := hF.2.2
  have k0' := hblk.cell 0
  have k1' := hblk.cell 1
  have k2' := hblk.cell 2
  have k3' := hblk.cell 3
  have k4' := hblk.cell 4
  have k5' := hblk.cell 5
  have k6' := hblk.cell 6
  have k7' := hblk.cell 7
  have k8' := hblk.cell 8
  unfold set9 at k0' k1' k2' k3' k4' k5' k6' k7' k8'
  simp [tvcell, pv] at k0' k1' k2' k3' k4' k5' k6' k7' k8'
  refine bodyPost_ret (v := .agg #[.string ⟨t1.nm.a.toArray⟩, .string ⟨t1.nm.b.toArray⟩, .string ⟨t1.nm.c.toArray⟩, .string ⟨t1.nm.d.toArray⟩, .slice c1 c2 c3, .slice d1 d2 d3, .slice g1 g2 g3, .int .i64 t1.line, .bool t1.has]) (by simp [results, Tryd.results45, go_sem, k0', k1', k2', k3', k4', k5', k6', k7', k8']) rfl ?_
  exact (by rw [HEQ.out]; exact ⟨_, rfl, hF.1, hF.2.1⟩)
end Go.Proofs.YtpccjgoeoeehoaaDoor
namespace Go.Proofs.YtpccjgoeoeehoaaDoor
open Go.RowKit
set_option maxRecDepth 100000 in
set_option maxHeartbeats 8000000 in
theorem ropen_any (S : Nat → Prop) (x : TV) (t : Bt) (nv : NV) (y : Nd) (w : World) (hS : ∀ b, S b → b < w.heap.size) (h : BtIs S w x t) (hn : NdIs S w nv y) (hb : btl t + nlN y ≤ 40000) :
    Calls Tryd.prog 34 #[.agg (tvcell t x).toArray, .agg (ncell nv).toArray] w (BtQ S (bOpen t y) w) := by
  obtain ⟨W0, hW0⟩ : ∃ W, W = ((w.alloc (.cells (tvcell t x).toArray 32)).alloc (.cells (ncell nv).toArray 40)).alloc (.cells zTV.toArray 32) := ⟨_, rfl⟩
  obtain ⟨T0, kN, nN, hz⟩ := TBx.start3 hS h hn W0 hW0
  obtain ⟨X, hX⟩ : ∃ X : Nat → Prop, X = (fun b => b = w.heap.size ∨ b = w.heap.size + 1 ∨ b = w.heap.size + 1 + 1) := ⟨_, rfl⟩
  rw [← hX] at T0
  clear hX
  have hbt0 : btl t = nlL t.kids + nlL t.opn + t.text.length := rfl
  obtain ⟨⟨a1, a2, a3⟩, ⟨b1, b2, b3⟩, ⟨e1, e2, e3⟩⟩ := x
  have HT0 := Lib.hid T0
  have HW0 := Lib.hid hW0
  simp only [zTV] at HW0
  have HNW := Lib.hid hn
  have HS := Lib.hid hS
  have HKN := Lib.hid kN
  have y0 : W0.cell? ⟨w.heap.size, 0, none⟩ = some (.string ⟨t.nm.a.toArray⟩) := T0.box.cell 0
  have y1 : W0.cell? ⟨w.heap.size, 1, none⟩ = some (.string ⟨t.nm.b.toArray⟩) := T0.box.cell 1
  have y2 : W0.cell? ⟨w.heap.size, 2, none⟩ = some (.string ⟨t.nm.c.toArray⟩) := T0.box.cell 2
  have y3 : W0.cell? ⟨w.heap.size, 3, none⟩ = some (.string ⟨t.nm.d.toArray⟩) := T0.box.cell 3
  have y4 : W0.cell? ⟨w.heap.size, 4, none⟩ = some (.slice a1 a2 a3) := T0.box.cell 4
  have y5 : W0.cell? ⟨w.heap.size, 5, none⟩ = some (.slice b1 b2 b3) := T0.box.cell 5
  have y6 : W0.cell? ⟨w.heap.size, 6, none⟩ = some (.slice e1 e2 e3) := T0.box.cell 6
  have y7 : W0.cell? ⟨w.heap.size, 7, none⟩ = some (.int .i64 t.line) := T0.box.cell 7
  have y8 : W0.cell? ⟨w.heap.size, 8, none⟩ = some (.bool t.has) := T0.box.cell 8
  have HEN := Lib.hid (rend_any (Fp S X w W0) ⟨(a1, a2, a3), (b1, b2, b3), (e1, e2, e3)⟩ t W0 T0.inn T0.bt (by omega))
  have hbe := btl_end t
  obtain ⟨tb, ht1⟩ : ∃ tb, bEnd t = tb := ⟨_, rfl⟩
  rw [ht1] at HEN hbe
  have HEQ : Hid (bOpen t y = { tb with opn := tb.opn ++ [y] }) := Lib.hid (by unfold bOpen; rw [ht1])
  simp only [tvcell, pv] at HEN
  have hl1 := cnt_nlL tb.opn
  have hl2 := cnt_len tb.opn
  have hbt1 : btl tb = nlL tb.kids + nlL tb.opn + tb.text.length := rfl
  clear T0 hW0 h hn hS kN nN hz ht1
  go_enter Tryd.func34, Tryd.ntmps34
  go_upto_region 1 with fail
  rw [← HW0.out]
  clear HW0
  go_wp2_with fail
  refine HEN.out.mono ?_
  rintro e wq ⟨⟨⟨c1, c2, c3⟩, ⟨d1, d2, d3⟩, ⟨g1, g2, g3⟩⟩, rfl, hbt, hbq⟩
  simp only [tvcell, pv]
  have T1 := HT0.out.keep hbq
  have hbt' := hbt.mono (Fp.mo HT0.out.bel.size HT0.out.hX hbq.size)
  have BQ := Lib.hid hbq
  obtain ⟨W2, hWL⟩ : ∃ X, X = set9 wq w.heap.size tb ⟨(c1, c2, c3), (d1, d2, d3), (g1, g2, g3)⟩ := ⟨_, rfl⟩
  have TL' := T1.all hbt'
  rw [← hWL] at TL'
  have T2 := Lib.hid TL'
  have T1H := Lib.hid T1
  have HZ2 : Hid (wq.heap.size = W2.heap.size) := Lib.hid (by rw [hWL, set9_size])
  have HHP : Hid (∀ b, b ≠ w.heap.size → W2.heap[b]? = wq.heap[b]?) := Lib.hid (fun b hb => by rw [hWL]; exact set9_heap _ _ _ _ hb)
  unfold set9 at hWL
  simp only [pv] at hWL
  have HWL := Lib.hid hWL
  clear hbt hbq hbt' TL' T1 hWL HEN y0 y1 y2 y3 y4 y5 y6 y7 y8
  have y0 : wq.cell? ⟨w.heap.size, 0, none⟩ = some (.string ⟨t.nm.a.toArray⟩) := T1H.out.box.cell 0
  have y1 : wq.cell? ⟨w.heap.size, 1, none⟩ = some (.string ⟨t.nm.b.toArray⟩) := T1H.out.box.cell 1
  have y2 : wq.cell? ⟨w.heap.size, 2, none⟩ = some (.string ⟨t.nm.c.toArray⟩) := T1H.out.box.cell 2
  have y3 : wq.cell? ⟨w.heap.size, 3, none⟩ = some (.string ⟨t.nm.d.toArray⟩) := T1H.out.box.cell 3
  have y4 : wq.cell? ⟨w.heap.size, 4, none⟩ = some (.slice a1 a2 a3) := T1H.out.box.cell 4
  have y5 : wq.cell? ⟨w.heap.size, 5, none⟩ = some (.slice b1 b2 b3) := T1H.out.box.cell 5
  have y6 : wq.cell? ⟨w.heap.size, 6, none⟩ = some (.slice e1 e2 e3) := T1H.out.box.cell 6
  have y7 : wq.cell? ⟨w.heap.size, 7, none⟩ = some (.int .i64 t.line) := T1H.out.box.cell 7
  have y8 : wq.cell? ⟨w.heap.size, 8, none⟩ = some (.bool t.has) := T1H.out.box.cell 8
  have f0 : wq.frozen? ⟨w.heap.size, 0, none⟩ = false := T1H.out.box.frozen (by simp [tvcell])
  have f1 : wq.frozen? ⟨w.heap.size, 1, none⟩ = false := T1H.out.box.frozen (by simp [tvcell])
  have f2 : wq.frozen? ⟨w.heap.size, 2, none⟩ = false := T1H.out.box.frozen (by simp [tvcell])
  have f3 : wq.frozen? ⟨w.heap.size, 3, none⟩ = false := T1H.out.box.frozen (by simp [tvcell])
  have f4 : wq.frozen? ⟨w.heap.size, 4, none⟩ = false := T1H.out.box.frozen (by simp [tvcell])
  have f5 : wq.frozen? ⟨w.heap.size, 5, none⟩ = false := T1H.out.box.frozen (by simp [tvcell])
  have f6 : wq.frozen? ⟨w.heap.size, 6, none⟩ = false := T1H.out.box.frozen (by simp [tvcell])
  have f7 : wq.frozen? ⟨w.heap.size, 7, none⟩ = false := T1H.out.box.frozen (by simp [tvcell])
  have f8 : wq.frozen? ⟨w.heap.size, 8, none⟩ = false := T1H.out.box.frozen (by simp [tvcell])
  go_upto_region 2 with fail
  rw [← HWL.out]
  clear HWL y0 y1 y2 y3 y4 y5 y6 y7 y8 f0 f1 f2 f3 f4 f5 f6 f7 f8
  have hKN : Blk W2 (w.heap.size + 1) 40 (ncell nv) := (HHP.out _ (by omega)).trans (HKN.out.below BQ.out)
  have hNN := (HNW.out.keep (Kp.below T2.out.bel HS.out)).mono (T := Fp S X w W2) (fun b q => Or.inl q)
  obtain ⟨kn, hkn⟩ : ∃ n, (tb.opn ++ [y]).length = n := ⟨_, rfl⟩
  have HAD := Lib.hid (radd_any (Fp S X w W2) tb.opn (.slice d1 d2 d3) nv y W2 T2.out.inn T2.out.bt.opn hNN (by omega))
  unfold AddQ at HAD
  rw [hkn] at HAD
  obtain ⟨xk, xl, xn, ⟨t1, t2, t3⟩, ⟨k1, k2, k3⟩, ⟨r1, r2, r3⟩, xc, ⟨q1, q2, q3⟩, xb, xa⟩ := nv
  simp only [ncell, pv] at HAD hKN
  have m0 : W2.cell? ⟨w.heap.size + 1, 0, none⟩ = some (.int .i64 xk) := hKN.cell 0
  have m1 : W2.cell? ⟨w.heap.size + 1, 1, none⟩ = some (.int .i64 xl) := hKN.cell 1
  have m2 : W2.cell? ⟨w.heap.size + 1, 2, none⟩ = some (.int .i64 xn) := hKN.cell 2
  have m3 : W2.cell? ⟨w.heap.size + 1, 3, none⟩ = some (.slice t1 t2 t3) := hKN.cell 3
  have m4 : W2.cell? ⟨w.heap.size + 1, 4, none⟩ = some (.slice k1 k2 k3) := hKN.cell 4
  have m5 : W2.cell? ⟨w.heap.size + 1, 5, none⟩ = some (.slice r1 r2 r3) := hKN.cell 5
  have m6 : W2.cell? ⟨w.heap.size + 1, 6, none⟩ = some (.string ⟨xc.toArray⟩) := hKN.cell 6
  have m7 : W2.cell? ⟨w.heap.size + 1, 7, none⟩ = some (.slice q1 q2 q3) := hKN.cell 7
  have m8 : W2.cell? ⟨w.heap.size + 1, 8, none⟩ = some (.bool xb) := hKN.cell 8
  have m9 : W2.cell? ⟨w.heap.size + 1, 9, none⟩ = some (.bool xa) := hKN.cell 9
  have a5 : W2.cell? ⟨w.heap.size, 5, none⟩ = some (.slice d1 d2 d3) := T2.out.box.cell 5
  clear hKN hNN hkn HHP BQ HZ2 T1H HNW HKN
  go_wp2_with fail
  refine HAD.out.mono ?_
  rintro e w1 ⟨na, nc, rfl, hns, b1'⟩
  have TK := Lib.hid (T2.out.keep b1')
  have HNS := Lib.hid (hns.mono (Fp.mo T2.out.bel.size T2.out.hX b1'.size))
  clear b1' hns HAD a5 m0 m1 m2 m3 m4 m5 m6 m7 m8 m9
  have a5 : w1.cell? ⟨w.heap.size, 5, none⟩ = some (.slice d1 d2 d3) := TK.out.box.cell 5
  have g5 : w1.frozen? ⟨w.heap.size, 5, none⟩ = false := TK.out.box.frozen (by simp [tvcell])
  go_upto_region 3 with fail
  obtain ⟨WF, hWF⟩ : ∃ X, X = w1.setCell ⟨w.heap.size, 5, none⟩ (.slice na kn nc) := ⟨_, rfl⟩
  have TF' := TK.out.field 5 (.slice na kn nc) (t' := { tb with opn := tb.opn ++ [y] }) (x' := ⟨(c1, c2, c3), (na, kn, nc), (g1, g2, g3)⟩) rfl ⟨TK.out.bt.kids, HNS.out, TK.out.bt.text⟩
  rw [← hWF] at TF'
  rw [← hWF]
  have TF := Lib.hid TF'
  clear hWF TF'
  clear a5 g5
  have y0 : WF.cell? ⟨w.heap.size, 0, none⟩ = some (.string ⟨tb.nm.a.toArray⟩) := TF.out.box.cell 0
  have y1 : WF.cell? ⟨w.heap.size, 1, none⟩ = some (.string ⟨tb.nm.b.toArray⟩) := TF.out.box.cell 1
  have y2 : WF.cell? ⟨w.heap.size, 2, none⟩ = some (.string ⟨tb.nm.c.toArray⟩) := TF.out.box.cell 2
  have y3 : WF.cell? ⟨w.heap.size, 3, none⟩ = some (.string ⟨tb.nm.d.toArray⟩) := TF.out.box.cell 3
  have y4 : WF.cell? ⟨w.heap.size, 4, none⟩ = some (.slice c1 c2 c3) := TF.out.box.cell 4
  have y5 : WF.cell? ⟨w.heap.size, 5, none⟩ = some (.slice na kn nc) := TF.out.box.cell 5
  have y6 : WF.cell? ⟨w.heap.size, 6, none⟩ = some (.slice g1 g2 g3) := TF.out.box.cell 6
  have y7 : WF.cell? ⟨w.heap.size, 7, none⟩ = some (.int .i64 tb.line) := TF.out.box.cell 7
  have y8 : WF.cell? ⟨w.heap.size, 8, none⟩ = some (.bool tb.has) := TF.out.box.cell 8
  have z0 : WF.cell? ⟨w.heap.size + 1 + 1, 0, none⟩ = some (.string ⟨#[]⟩) := TF.out.res.cell 0
  have z1 : WF.cell? ⟨w.heap.size + 1 + 1, 1, none⟩ = some (.string ⟨#[]⟩) := TF.out.res.cell 1
  have z2 : WF.cell? ⟨w.heap.size + 1 + 1, 2, none⟩ = some (.string ⟨#[]⟩) := TF.out.res.cell 2
  have z3 : WF.cell? ⟨w.heap.size + 1 + 1, 3, none⟩ = some (.string ⟨#[]⟩) := TF.out.res.cell 3
  have z4 : WF.cell? ⟨w.heap.size + 1 + 1, 4, none⟩ = some (.slice none 0 0) := TF.out.res.cell 4
  have z5 : WF.cell? ⟨w.heap.size + 1 + 1, 5, none⟩ = some (.slice none 0 0) := TF.out.res.cell 5
  have z6 : WF.cell? ⟨w.heap.size + 1 + 1, 6, none⟩ = some (.slice none 0 0) := TF.out.res.cell 6
  have z7 : WF.cell? ⟨w.heap.size + 1 + 1, 7, none⟩ = some (.int .i64 0) := TF.out.res.cell 7
  have z8 : WF.cell? ⟨w.heap.size + 1 + 1, 8, none⟩ = some (.bool false) := TF.out.res.cell 8
  have v0 : WF.frozen? ⟨w.heap.size + 1 + 1, 0, none⟩ = false := TF.out.res.frozen (by simp [zTV])
  have v1 : WF.frozen? ⟨w.heap.size + 1 + 1, 1, none⟩ = false := TF.out.res.frozen (by simp [zTV])
  have v2 : WF.frozen? ⟨w.heap.size + 1 + 1, 2, none⟩ = false := TF.out.res.frozen (by simp [zTV])
  have v3 : WF.frozen? ⟨w.heap.size + 1 + 1, 3, none⟩ = false := TF.out.res.frozen (by simp [zTV])
  have v4 : WF.frozen? ⟨w.heap.size + 1 + 1, 4, none⟩ = false := TF.out.res.frozen (by simp [zTV])
  have v5 : WF.frozen? ⟨w.heap.size + 1 + 1, 5, none⟩ = false := TF.out.res.frozen (by simp [zTV])
  have v6 : WF.frozen? ⟨w.heap.size + 1 + 1, 6, none⟩ = false := TF.out.res.frozen (by simp [zTV])
  have v7 : WF.frozen? ⟨w.heap.size + 1 + 1, 7, none⟩ = false := TF.out.res.frozen (by simp [zTV])
  have v8 : WF.frozen? ⟨w.heap.size + 1 + 1, 8, none⟩ = false := TF.out.res.frozen (by simp [zTV])
  go_wp2_with fail
  have hF := TF.out.fin
  have hblk := hF.2.2
  have k0' := hblk.cell 0
  have k1' := hblk.cell 1
  have k2' := hblk.cell 2
  have k3' := hblk.cell 3
  have k4' := hblk.cell 4
  have k5' := hblk.cell 5
  have k6' := hblk.cell 6
  have k7' := hblk.cell 7
  have k8' := hblk.cell 8
  unfold set9 at k0' k1' k2' k3' k4' k5' k6' k7' k8'
  simp [tvcell, pv] at k0' k1' k2' k3' k4' k5' k6' k7' k8'
  refine bodyPost_ret (v := .agg #[.string ⟨tb.nm.a.toArray⟩, .string ⟨tb.nm.b.toArray⟩, .string ⟨tb.nm.c.toArray⟩, .string ⟨tb.nm.d.toArray⟩, .slice c1 c2 c3, .slice na kn nc, .slice g1 g2 g3, .int .i64 tb.line, .bool tb.has]) (by simp [results, Tryd.results34, go_sem, k0', k1', k2', k3', k4', k5', k6', k7', k8']) rfl ?_
  exact (by rw [HEQ.out]; exact ⟨_, rfl, hF.1, hF.2.1⟩)
set_option maxRecDepth 100000 in
set_option maxHeartbeats 4000000 in
theorem rinside_any (S : Nat → Prop) (x : TV) (t : Bt) (k : Int) (w : World) (hS : ∀ b, S b → b < w.heap.size) (h : BtIs S w x t) (hb : btl t ≤ 100000) :
    Calls Tryd.prog 15 #[.agg (tvcell t x).toArray, .int .i64 k] w fun e w' => e = .returned (.bool (bIn t k)) ∧ Below w.heap.size w w' := by
  obtain ⟨W0, hW0⟩ : ∃ W, W = w.alloc (.cells (tvcell t x).toArray 32) := ⟨_, rfl⟩
  have b0 : Below w.heap.size w W0 := by rw [hW0]; exact below_lit _ _
  have kT : Blk W0 w.heap.size 32 (tvcell t x) := by rw [hW0]; exact heap_alloc_new w _
  have hO := h.opn.keep (Kp.below b0 hS)
  have l2 := cnt_nlL t.opn
  have l4 := cnt_len t.opn
  have hbt0 : btl t = nlL t.kids + nlL t.opn + t.text.length := rfl
  obtain ⟨⟨a1, a2, a3⟩, ⟨b1, b2, b3⟩, ⟨e1, e2, e3⟩⟩ := x
  obtain ⟨q1, q2, q3⟩ := hO.len
  injection q3 with q4 q5 q6
  have hb2 : b2 = t.opn.length := q5
  have y5 : W0.cell? ⟨w.heap.size, 5, none⟩ = some (.slice b1 b2 b3) := kT.cell 5
  obtain ⟨R, hR⟩ : ∃ R, bIn t k = R := ⟨_, rfl⟩
  rw [hR]
  have HR := Lib.hid hR
  have HO := Lib.hid hO
  have HW0 := Lib.hid hW0
  have HB := Lib.hid b0
  have HB2 := Lib.hid hb2
  have hb22 : b2 ≤ 100000 := by omega
  clear hW0 b0 kT hO h hS hR q4 q5 q6 l2 l4 hbt0 hb2
  go_enter Tryd.func15, Tryd.ntmps15
  go_upto_region 1 with fail
  rw [← HW0.out]
  clear HW0
  go_wp2_with fail
  go_loopw [5] (fun i wr => ∃ p : Nat, p ≤ b2 ∧ i = .int .i64 (p : Int) ∧ Hid (((t.opn.take p).any fun y => y.hd.kind == k) = false) ∧ Hid (wr = W0)) (fun i _ => b2 - (intOf i).toNat)
  case atStart => exact ⟨0, by omega, rfl, Lib.hid (by simp), Lib.hid rfl⟩
  case round =>
    obtain ⟨p, hp, rfl, HN, HW⟩ := hrel
    have hw := HW.out
    subst hw
    by_cases hlt : p < b2
    · obtain ⟨y, hy⟩ : ∃ y, t.opn[p]? = some y := ⟨t.opn[p]'(by rw [← HB2.out]; exact hlt), List.getElem?_eq_getElem _⟩
      obtain ⟨g, off, xo, hb1, -, hC, hHo, -⟩ := HO.out.atR hy
      subst hb1
      have c0 : wr.cell? ⟨g, off + p * 10, none⟩ = some (.int .i64 y.hd.kind) := by rw [← hHo.kind]; exact hC 0 _ rfl
      have hlt' : (p : Int) < (b2 : Int) := by omega
      have hp0 : (0 : Int) ≤ (p : Int) := by omega
      obtain ⟨yk, hyk⟩ : ∃ q, y.hd.kind = q := ⟨_, rfl⟩
      rw [hyk] at c0
      have HY := Lib.hid hy
      have HYK := Lib.hid hyk
      by_cases hk : yk = k
      · have hq : (yk == k) = true := by simpa using hk
        have HT : Hid (bIn t k = true) := Lib.hid (by unfold bIn; rw [List.any_eq_true]; exact ⟨y, List.mem_of_getElem? hy, by rw [hyk]; exact hq⟩)
        subst hk
        clear hy hC hHo hyk
        go_wp2_with fail
        all_goals
          go_ret
          exact ⟨ret_bool (by rw [← HR.out, HT.out]), HB.out⟩
      · have hq : (yk == k) = false := by simpa using hk
        have HT : Hid (((t.opn.take (p + 1)).any fun y => y.hd.kind == k) = false) := Lib.hid (by rw [List.take_add_one, hy, List.any_append, HN.out]; simp [hyk, hk])
        clear hy hC hHo hyk hk
        go_wp2_with fail
        go_roundw
        case rel => exact ⟨p + 1, by omega, by go_num, HT, Lib.hid (by trivial)⟩
        case measure => (simp [intOf]; try omega)
    · have hlt' : ¬ (p : Int) < (b2 : Int) := by omega
      have HT : Hid (bIn t k = false) := Lib.hid (by
        have h2 := HN.out
        rw [List.take_of_length_le (by rw [← HB2.out]; omega)] at h2
        exact h2)
      go_wp2_with fail
      go_ret
      exact ⟨ret_bool (by rw [← HR.out, HT.out]), HB.out⟩
end Go.Proofs.YtpccjgoeoeehoaaDoor
